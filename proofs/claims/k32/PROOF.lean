import PyProof.Rows.All
import Wide.All
import OpenK.AllK
import Wide.FinOn
import HandS.Defaults
import KE.RegKIsAll
import KE.KLam
import KE.KNestM
import HandS.EndTab
import HandS.ForMost
import HandS.Evl
import HandS.IsInst
import HandS.Wide
import HandS.Zip
import HandS.Walk
import HandS.Style
import HandS.TupAny
import HandS.TupMul
import HandS.Sort
import KE.GoesMore
import HandS.HotCalls
import HandS.Lambda
import HandS.ExcCtx
import HandS.ExcIs
import HandS.Text
import HandS.TupSets
import HandS.TupLen
import KE.KDictDisplayH
import HandS.SortInts
import PySem.Challenge.RW_cotide_k32_patches_refused
set_option Elab.async false
set_option linter.all false
set_option maxRecDepth 100000
set_option maxHeartbeats 4000000
set_option Elab.async false
set_option linter.all false
set_option maxRecDepth 100000
set_option maxHeartbeats 4000000
/-! Data in two heaps: Hd, what is data and stays; H, all that stands now. -/
namespace Cot
open PySem L2 Evl
section
variable {K : PySem.W.Frag} {H H' Hd Hn H1 H2 Hm : Hp}
mutual
theorem dp_mono (e : Ex H H') : ∀ (d : PyData) {v : V}, Dp K H v d → Dp K H' v d
  | .none, _, h => by cases h; exact .non
  | .bool b, _, h => by cases h; exact .bl b
  | .int i, _, h => by cases h; exact .int i
  | .str x, _, h => by cases h; exact .str x
  | .list ds, _, h => by
    cases h with
    | lst hs ha => exact .lst (ex_l e hs) (dpa_mono e ds ha)
  | .tuple ds, _, h => by
    cases h with
    | tup hs ha => exact .tup (ex_t e hs) (dpa_mono e ds ha)
  | .dict _, _, h => by cases h
theorem dpa_mono (e : Ex H H') : ∀ (ds : List PyData) {vs : List V}, DpAll K H vs ds → DpAll K H' vs ds
  | [], _, h => by cases h; exact .nil
  | d :: ds, _, h => by
    cases h with
    | cons h1 h2 => exact .cons (dp_mono e d h1) (dpa_mono e ds h2)
end
theorem dpa_len : ∀ {vs : List V} {ds : List PyData}, DpAll K H vs ds → vs.length = ds.length
  | _, [], h => by cases h; rfl
  | _, d :: ds, h => by
    cases h with
    | cons h1 h2 => rw [List.length_cons, List.length_cons, dpa_len h2]
theorem dpa_get : ∀ {ds : List PyData} {vs : List V} {i : Nat} {d : PyData}, DpAll K H vs ds → ds[i]? = some d → ∃ v, vs[i]? = some v ∧ Dp K H v d
  | [], _, i, d, h, e => by simp at e
  | d0 :: ds, _, 0, d, h, e => by
    cases h with
    | cons h1 h2 =>
      have e' : d0 = d := Option.some.inj e
      subst e'
      exact ⟨_, rfl, h1⟩
  | d0 :: ds, _, i + 1, d, h, e => by
    cases h with
    | cons h1 h2 =>
      obtain ⟨v, q1, q2⟩ := dpa_get (i := i) h2 (by simpa using e)
      exact ⟨v, by simpa using q1, q2⟩
theorem dpa_get2 : ∀ {ds : List PyData} {vs : List V} {i : Nat} {v : V}, DpAll K H vs ds → vs[i]? = some v → ∃ d, ds[i]? = some d ∧ Dp K H v d
  | [], _, i, d, h, e => by cases h; simp at e
  | d0 :: ds, _, 0, v, h, e => by
    cases h with
    | cons h1 h2 =>
      have e' := Option.some.inj e
      subst e'
      exact ⟨_, rfl, h1⟩
  | d0 :: ds, _, i + 1, v, h, e => by
    cases h with
    | cons h1 h2 =>
      obtain ⟨v, q1, q2⟩ := dpa_get2 (i := i) h2 (by simpa using e)
      exact ⟨v, by simpa using q1, q2⟩
theorem dpa_at {ds : List PyData} {vs : List V} {i : Int} {d : PyData} (h : DpAll K H vs ds) (e : atI ds i = some d) : ∃ v, atI vs i = some v ∧ Dp K H v d := by
  unfold atI at e ⊢
  rw [dpa_len h]
  cases hx : ixN ds.length i with
  | none => rw [hx] at e; cases e
  | some j =>
    rw [hx] at e
    exact dpa_get h e
theorem dpa_app : ∀ {ds es : List PyData} {vs ws : List V}, DpAll K H vs ds → DpAll K H ws es → DpAll K H (vs ++ ws) (ds ++ es)
  | [], _, _, _, h, h2 => by cases h; exact h2
  | d :: ds, es, _, ws, h, h2 => by
    cases h with
    | cons a b => exact .cons a (dpa_app b h2)
theorem dpa_take : ∀ (n : Nat) {ds : List PyData} {vs : List V}, DpAll K H vs ds → DpAll K H (vs.take n) (ds.take n)
  | 0, _, _, _ => by rw [List.take_zero, List.take_zero]; exact .nil
  | n + 1, [], _, h => by cases h; exact .nil
  | n + 1, d :: ds, _, h => by
    cases h with
    | cons a b => exact .cons a (dpa_take n b)
theorem dpa_drop : ∀ (n : Nat) {ds : List PyData} {vs : List V}, DpAll K H vs ds → DpAll K H (vs.drop n) (ds.drop n)
  | 0, _, _, h => h
  | n + 1, [], _, h => by cases h; exact .nil
  | n + 1, d :: ds, _, h => by
    cases h with
    | cons a b => exact dpa_drop n b
theorem dpa_ints : ∀ (ns : List Int), DpAll K H (ns.map V.int) (ns.map PyData.int)
  | [] => .nil
  | n :: ns => .cons (.int n) (dpa_ints ns)
theorem dpa_bools : ∀ (ns : List Bool), DpAll K H (ns.map V.bl) (ns.map PyData.bool)
  | [] => .nil
  | n :: ns => .cons (.bl n) (dpa_bools ns)
theorem dpa_ints_inv : ∀ {ns : List Int} {vs : List V}, DpAll K H vs (ns.map PyData.int) → vs = ns.map V.int
  | [], _, h => by cases h; rfl
  | n :: ns, _, h => by
    cases h with
    | cons a b =>
      cases a
      rw [dpa_ints_inv b]
      rfl
theorem dpa_bools_inv : ∀ {ns : List Bool} {vs : List V}, DpAll K H vs (ns.map PyData.bool) → vs = ns.map V.bl
  | [], _, h => by cases h; rfl
  | n :: ns, _, h => by
    cases h with
    | cons a b =>
      cases a
      rw [dpa_bools_inv b]
      rfl

/-- Hd grows to Hn by new places alone, H to H2 -/
structure Gr (Hd H Hn H2 : Hp) : Prop where
  ex : Ex H H2
  dx : Ex Hd Hn
  sub : Ex Hn H2
  fr : ∀ a o, H a = some o → Hd a = none → Hn a = none
theorem Gr.refl (s : Ex Hd H) : Gr Hd H Hd H := ⟨Ex.refl _, Ex.refl _, s, fun _ _ _ h => h⟩
theorem Gr.trans (g1 : Gr Hd H Hn H1) (g2 : Gr Hn H1 Hm H2) : Gr Hd H Hm H2 := ⟨g1.ex.trans g2.ex, g1.dx.trans g2.dx, g2.sub, fun a o ha hd => g2.fr a o (g1.ex a o ha) (g1.fr a o ha hd)⟩
theorem Gr.ext (s : Ex Hd H) (e : Ex H H2) : Gr Hd H Hd H2 := ⟨e, Ex.refl _, s.trans e, fun _ _ _ h => h⟩
theorem Gr.pre (e : Ex H H1) (g : Gr Hd H1 Hn H2) : Gr Hd H Hn H2 := ⟨e.trans g.ex, g.dx, g.sub, fun a o ha hd => g.fr a o (e a o ha) hd⟩
theorem Gr.post (g : Gr Hd H Hn H1) (e : Ex H1 H2) : Gr Hd H Hn H2 := ⟨g.ex.trans e, g.dx, g.sub.trans e, g.fr⟩
theorem ex_upd2 {p : Addr} {o : HO} (s : Ex Hd H) : Ex (upd Hd p o) (upd H p o) := fun a u h => by
  by_cases e : a = p
  · subst e
    rw [upd_same] at h ⊢
    exact h
  · rw [upd_ne e] at h ⊢
    exact s a u h
theorem Gr.new {p : Addr} {o : HO} (s : Ex Hd H) (h : H p = none) : Gr Hd H (upd Hd p o) (upd H p o) :=
  ⟨Ex.new h, Ex.new (fresh_back s h), ex_upd2 s, fun a u ha hd => by rw [upd_ne (ne_of_none ha h)]; exact hd⟩
/-- a new place that is no data -/
theorem Gr.alloc {p : Addr} {o : HO} (s : Ex Hd H) (h : H p = none) : Gr Hd H Hd (upd H p o) := Gr.ext s (Ex.new h)

def un (A B : Hp) : Hp := fun a => match A a with | some o => some o | none => B a
theorem un_l {A B : Hp} : Ex A (un A B) := fun a o h => by unfold un; rw [h]
theorem un_r {A B C : Hp} (a : Ex A C) (b : Ex B C) : Ex B (un A B) := fun x o h => by
  unfold un
  cases hA : A x with
  | none => exact h
  | some u =>
    have h1 := a x u hA
    rw [b x o h] at h1
    exact h1.symm
theorem un_sub {A B C : Hp} (a : Ex A C) (b : Ex B C) : Ex (un A B) C := fun x o h => by
  unfold un at h
  cases hA : A x with
  | none => rw [hA] at h; exact b x o h
  | some u => rw [hA] at h; exact a x o (hA.trans h)
theorem Gr.up {Hd' : Hp} (e : Ex Hd Hd') (s : Ex Hd' H) (g : Gr Hd H Hn H2) : Gr Hd' H (un Hd' Hn) H2 :=
  ⟨g.ex, un_l, un_sub (s.trans g.ex) g.sub, fun a o ha hd => by
    unfold un
    rw [hd]
    exact g.fr a o ha (fresh_back e hd)⟩
theorem Gr.upr {Hd' : Hp} (e : Ex Hd Hd') (s : Ex Hd' H) (g : Gr Hd H Hn H2) : Ex Hn (un Hd' Hn) := un_r (s.trans g.ex) g.sub

/-! ### what evaluates to which data -/
def EvD (K : PySem.W.Frag) (te : TE) (σ : L2.St) (Hd : Hp) (d : PyData) : Prop := ∀ H, Ex Hd H → ∀ Q : VK, (∀ v H2 Hn, Gr Hd H Hn H2 → Dp K Hn v d → Q v H2) → te σ H Q
def EvDA (K : PySem.W.Frag) (ta : TA) (σ : L2.St) (Hd : Hp) (ds : List PyData) : Prop := ∀ H, Ex Hd H → ∀ Q : List V → Hp → Prop, (∀ vs H2 Hn, Gr Hd H Hn H2 → DpAll K Hn vs ds → Q vs H2) → ta σ H Q
/-- a new list -/
def EvN (K : PySem.W.Frag) (te : TE) (σ : L2.St) (Hd : Hp) (ds : List PyData) : Prop := ∀ H, Ex Hd H → ∀ Q : VK, (∀ p xs H2 Hn, Gr Hd H Hn H2 → H p = none → Hn p = none → H2 p = some (.lst xs) → DpAll K Hn xs ds → Q (.ref p) H2) → te σ H Q
end
section
variable {K : PySem.W.Frag} {σ : L2.St} {H H' Hd Hd' Hn H1 H2 : Hp} {ta tb te tx : TE} {t u : TT} {x y z v : V} {r : R2} {d : PyData} {ds : List PyData} {tr : TA}
theorem EvD.mono (e : Ex Hd Hd') (h : EvD K te σ Hd d) : EvD K te σ Hd' d := fun H s Q q => h H (e.trans s) Q fun v H2 Hn g hd => q v H2 _ (g.up e s) (dp_mono (g.upr e s) d hd)
theorem EvDA.mono (e : Ex Hd Hd') (h : EvDA K tr σ Hd ds) : EvDA K tr σ Hd' ds := fun H s Q q => h H (e.trans s) Q fun v H2 Hn g hd => q v H2 _ (g.up e s) (dpa_mono (g.upr e s) ds hd)
theorem EvN.mono (e : Ex Hd Hd') (h : EvN K te σ Hd ds) : EvN K te σ Hd' ds := fun H s Q q => h H (e.trans s) Q fun p xs H2 Hn g hp hn h2 hd => q p xs H2 _ (g.up e s) hp (by
  unfold un
  rw [fresh_back s hp]
  exact hn) h2 (dpa_mono (g.upr e s) ds hd)
theorem ed_ev (h : Ev te σ Hd v) (hd : Dp K Hd v d) : EvD K te σ Hd d := fun H s Q q => h H s Q fun H2 e => q v H2 Hd (Gr.ext s e) hd
theorem ed_var {i : Nat} (h : σ[i]? = some (some v)) (hd : Dp K Hd v d) : EvD K (tVar i) σ Hd d := ed_ev (ev_var h) hd
theorem ev_int {i : Int} (h : EvD K te σ Hd (.int i)) : Ev te σ Hd (.int i) := fun H s Q q => h H s Q fun v H2 Hn g hd => by cases hd; exact q H2 g.ex
theorem ev_bool {i : Bool} (h : EvD K te σ Hd (.bool i)) : Ev te σ Hd (.bl i) := fun H s Q q => h H s Q fun v H2 Hn g hd => by cases hd; exact q H2 g.ex
theorem ev_str {i : Str} (h : EvD K te σ Hd (.str i)) : Ev te σ Hd (.str i) := fun H s Q q => h H s Q fun v H2 Hn g hd => by cases hd; exact q H2 g.ex
theorem ev_none (h : EvD K te σ Hd .none) : Ev te σ Hd .non := fun H s Q q => h H s Q fun v H2 Hn g hd => by cases hd; exact q H2 g.ex
theorem ed_int {i : Int} (h : Ev te σ Hd (.int i)) : EvD K te σ Hd (.int i) := ed_ev h (.int i)
theorem ed_bool {i : Bool} (h : Ev te σ Hd (.bl i)) : EvD K te σ Hd (.bool i) := ed_ev h (.bl i)
theorem ed_str {i : Str} (h : Ev te σ Hd (.str i)) : EvD K te σ Hd (.str i) := ed_ev h (.str i)
theorem ed_non (h : Ev te σ Hd .non) : EvD K te σ Hd .none := ed_ev h .non
theorem eda_nil : EvDA K tNil σ Hd [] := fun H s _ q => q [] H Hd (Gr.refl s) .nil
theorem eda_cons (h : EvD K ta σ Hd d) (hr : EvDA K tr σ Hd ds) : EvDA K (tCons ta tr) σ Hd (d :: ds) := fun H s _ q =>
  h H s _ fun v H1 Hn g hd => hr.mono g.dx H1 g.sub _ fun vs H2 Hm g2 hds => q (v :: vs) H2 Hm (g.trans g2) (.cons (dp_mono g2.dx d hd) hds)
theorem ed_tup (h : EvDA K tr σ Hd ds) (hl : ds.length ≤ 100000) : EvD K (tTup tr) σ Hd (.tuple ds) := fun H s _ q =>
  h H s _ fun vs H1 Hn g hd => ⟨sz_of (by rw [dpa_len hd]; exact hl), fun p hp => q (.ref p) _ _ (g.trans (Gr.new g.sub hp)) (.tup (st_of upd_same) (dpa_mono (Ex.new (fresh_back g.sub hp)) ds hd))⟩
theorem en_lst (h : EvDA K tr σ Hd ds) (hl : ds.length ≤ 100000) : EvN K (tLst tr) σ Hd ds := fun H s _ q =>
  h H s _ fun vs H1 Hn g hd => ⟨sz_of (by rw [dpa_len hd]; exact hl), fun p hp => q p vs _ Hn (g.trans (Gr.alloc g.sub hp)) (fresh_back g.ex hp) (fresh_back g.sub hp) upd_same hd⟩
theorem ed_new (h : EvN K te σ Hd ds) : EvD K te σ Hd (.list ds) := fun H s _ q =>
  h H s _ fun p xs H2 Hn g hp hn h2 hd => q (.ref p) H2 (upd Hn p (.lst xs)) ⟨g.ex, g.dx.trans (Ex.new hn), fun a o ha => by
    by_cases e : a = p
    · subst e
      rw [upd_same] at ha
      exact h2.trans ha
    · rw [upd_ne e] at ha
      exact g.sub a o ha, fun a o ha hda => by
    rw [upd_ne (ne_of_none ha hp)]
    exact g.fr a o ha hda⟩ (.lst (sq_of upd_same) (dpa_mono (Ex.new hn) ds hd))
theorem ed_ixT {i : Int} (ha : EvD K ta σ Hd (.tuple ds)) (hi : Ev tb σ Hd (.int i)) (he : atI ds i = some d) : EvD K (tOp (rIxT K) ta tb) σ Hd d := fun H s Q q =>
  ha H s _ fun v H1 Hn g hd => hi.mono g.dx H1 g.sub _ fun H2 e2 => by
    cases hd with
    | @tup p xs ds hs hall =>
      obtain ⟨w, h1, h2⟩ := dpa_at hall he
      exact ⟨p, xs, i, w, rfl, rfl, ex_t (g.sub.trans e2) hs, h1, q w H2 Hn (g.post e2) h2⟩
theorem ed_ixL {i : Int} (ha : EvD K ta σ Hd (.list ds)) (hi : Ev tb σ Hd (.int i)) (he : atI ds i = some d) : EvD K (tOp (rIxL K) ta tb) σ Hd d := fun H s Q q =>
  ha H s _ fun v H1 Hn g hd => hi.mono g.dx H1 g.sub _ fun H2 e2 => by
    cases hd with
    | @lst p xs ds hs hall =>
      obtain ⟨w, h1, h2⟩ := dpa_at hall he
      exact ⟨p, xs, i, w, rfl, rfl, ex_l (g.sub.trans e2) hs, h1, q w H2 Hn (g.post e2) h2⟩
theorem ev_lenT (ha : EvD K ta σ Hd (.tuple ds)) : Ev (tCB (rLenS K) (tCons ta tNil)) σ Hd (.int (ds.length : Int)) := fun H s Q q =>
  ha H s _ fun v H1 Hn g hd => by
    cases hd with
    | @tup p xs ds hs hall => exact ⟨p, xs, rfl, Or.inr (ex_t g.sub hs), by rw [dpa_len hall]; exact q H1 g.ex⟩
theorem ev_lenL (ha : EvD K ta σ Hd (.list ds)) : Ev (tCB (rLenS K) (tCons ta tNil)) σ Hd (.int (ds.length : Int)) := fun H s Q q =>
  ha H s _ fun v H1 Hn g hd => by
    cases hd with
    | @lst p xs ds hs hall => exact ⟨p, xs, rfl, Or.inl (ex_l g.sub hs), by rw [dpa_len hall]; exact q H1 g.ex⟩

/-! ### promises: a pure def, by a relation of its data -/
def spF (K : PySem.W.Frag) (R : List PyData → PyData → Prop) : Sp := fun vs H Q _ => ∃ Hd ds d, Ex Hd H ∧ DpAll K Hd vs ds ∧ R ds d ∧ ∀ v H2 Hn, Gr Hd H Hn H2 → Dp K Hn v d → Q v H2
/-- the answer is a new list -/
def spN (K : PySem.W.Frag) (R : List PyData → List PyData → Prop) : Sp := fun vs H Q _ => ∃ Hd ds es, Ex Hd H ∧ DpAll K Hd vs ds ∧ R ds es ∧ ∀ p xs H2 Hn, Gr Hd H Hn H2 → H p = none → Hn p = none → H2 p = some (.lst xs) → DpAll K Hn xs es → Q (.ref p) H2
theorem ed_call {R : List PyData → PyData → Prop} {E : XK} (h : EvDA K tr σ Hd ds) (hr : R ds d) : EvD K (tCall (spF K R) [] E tr) σ Hd d := fun H s Q q =>
  h H s _ fun vs H2 Hn g hd => ⟨Hn, ds, d, g.sub, by rw [List.append_nil]; exact hd, hr, fun v H3 Hm g2 hv => q v H3 Hm (g.trans g2) hv⟩
theorem en_call {R : List PyData → List PyData → Prop} {es : List PyData} {E : XK} (h : EvDA K tr σ Hd ds) (hr : R ds es) : EvN K (tCall (spN K R) [] E tr) σ Hd es := fun H s Q q =>
  h H s _ fun vs H2 Hn g hd => ⟨Hn, ds, es, g.sub, by rw [List.append_nil]; exact hd, hr, fun p xs H3 Hm g2 hp hm h3 hv => q p xs H3 Hm (g.trans g2) (fresh_back g.ex hp) hm h3 hv⟩

/-! ### statements -/
variable {D : Ends} {tu tw tz : TS} {g : TG} {i : Nat}
def Go (t : TS) (D : Ends) (σ : L2.St) (H : Hp) : Prop := ∀ H2, Ex H H2 → t D σ H2
theorem Go.go (h : Go tz D σ H) : tz D σ H := h H (Ex.refl H)
theorem go_asg (h : Ev te σ H v) (k : Go tz D (σ.set i (some v)) H) : Go (tSeq (tAsg te (gName i)) tz) D σ H := fun H1 e1 => h H1 e1 _ fun H2 e2 => k H2 (e1.trans e2)
theorem go_asgD (s : Ex Hd H) (h : EvD K te σ Hd d) (k : ∀ v H' Hn, Gr Hd H Hn H' → Dp K Hn v d → Go tz D (σ.set i (some v)) H') : Go (tSeq (tAsg te (gName i)) tz) D σ H := fun H1 e1 =>
  h H1 (s.trans e1) _ fun v H2 Hn g hd => k v H2 Hn (g.pre e1) hd H2 (Ex.refl _)
theorem go_asgN (s : Ex Hd H) (h : EvN K te σ Hd ds) (k : ∀ p xs H' Hn, Gr Hd H Hn H' → H p = none → Hn p = none → H' p = some (.lst xs) → DpAll K Hn xs ds → Go tz D (σ.set i (some (.ref p))) H') : Go (tSeq (tAsg te (gName i)) tz) D σ H := fun H1 e1 =>
  h H1 (s.trans e1) _ fun p xs H2 Hn g hp hn h2 hd => k p xs H2 Hn (g.pre e1) (fresh_back e1 hp) hn h2 hd H2 (Ex.refl _)
theorem go_if {b : Bool} (h : EvT t σ H b) (h1 : b = true → Go tu { D with nx := tz D } σ H) (h2 : b = false → Go tw { D with nx := tz D } σ H) : Go (tSeq (tIfS t tu tw) tz) D σ H := fun H1 e1 => h H1 e1 _ fun H2 e2 => by
  cases b with
  | true =>
    show tu { D with nx := tz D } σ H2
    exact h1 rfl H2 (e1.trans e2)
  | false =>
    show tw { D with nx := tz D } σ H2
    exact h2 rfl H2 (e1.trans e2)
theorem go_when {b : Bool} (h : EvT t σ H b) (h1 : b = true → Go tu { D with nx := tz D } σ H) (h2 : b = false → Go tz D σ H) : Go (tSeq (tIfS t tu tNext) tz) D σ H := go_if h h1 h2
theorem go_next (k : ∀ H', Ex H H' → D.nx σ H') : Go tNext D σ H := k
theorem go_ret (s : Ex Hd H) (h : EvD K te σ Hd d) (k : ∀ v H' Hn, Gr Hd H Hn H' → Dp K Hn v d → D.rt v H') : Go (tSeq (tRet te) tz) D σ H := fun H1 e1 => h H1 (s.trans e1) _ fun v H2 Hn g hd => k v H2 Hn (g.pre e1) hd
theorem go_retN (s : Ex Hd H) (h : EvN K te σ Hd ds) (k : ∀ p xs H' Hn, Gr Hd H Hn H' → H p = none → Hn p = none → H' p = some (.lst xs) → DpAll K Hn xs ds → D.rt (.ref p) H') : Go (tSeq (tRet te) tz) D σ H := fun H1 e1 => h H1 (s.trans e1) _ fun p xs H2 Hn g hp hn h2 hd => k p xs H2 Hn (g.pre e1) (fresh_back e1 hp) hn h2 hd
theorem go_retV (h : Ev te σ H v) (k : ∀ H', Ex H H' → D.rt v H') : Go (tSeq (tRet te) tz) D σ H := fun H1 e1 => h H1 e1 _ fun H2 e2 => k H2 (e1.trans e2)
theorem go_drop (h : Ev te σ H v) (k : Go tz D σ H) : Go (tSeq (tDrop te) tz) D σ H := fun H1 e1 => h H1 e1 _ fun H2 e2 => k H2 (e1.trans e2)
theorem Go.mono (e : Ex H H') (h : Go tz D σ H) : Go tz D σ H' := fun H2 e2 => h H2 (e.trans e2)
/-- a chain of two comparisons of ints -/
theorem ev_chain {r' : R2} {tc : TE} {k : Bool} (ha : Ev ta σ H x) (hb : Ev tb σ H y) (hr : RV r x y H (.bl k)) (hc : k = true → Ev tc σ H z) (hr' : k = true → RV r' y z H v) (hv : k = false → v = .bl false) : Ev (tChain r r' ta tb tc) σ H v := fun H1 e1 Q q =>
  ha H1 e1 _ fun H2 e2 => hb H2 (e1.trans e2) _ fun H3 e3 => hr H3 ((e1.trans e2).trans e3) _ fun H4 e4 => ⟨k, rfl, by
    cases k with
    | true =>
      show tc σ H4 fun w' H5 => r' y w' H5 Q
      exact hc rfl H4 (((e1.trans e2).trans e3).trans e4) _ fun H5 e5 => hr' rfl H5 ((((e1.trans e2).trans e3).trans e4).trans e5) _ fun H6 e6 => q H6 ((((e2.trans e3).trans e4).trans e5).trans e6)
    | false =>
      show Q (.bl false) H4
      rw [← hv rfl]
      exact q H4 ((e2.trans e3).trans e4)⟩
end
end Cot
namespace Cot
open PySem L2 Evl
/-! ### defs of scalars -/
def spS (R : List V → V → Prop) : Sp := fun vs H Q _ => ∃ v, R vs v ∧ ∀ H2, Ex H H2 → Q v H2
section
variable {K : PySem.W.Frag} {σ : L2.St} {H H' Hd Hd' Hn H1 H2 : Hp} {ta tb tc te tx : TE} {t u : TT} {x y z v v' : V} {r r' : R2} {d : PyData} {ds : List PyData} {tr : TA} {D : Ends} {tu tw tz : TS} {g : TG} {i : Nat}
theorem ev_callS {R : List V → V → Prop} {vs : List V} {E : XK} (h : EvA tr σ H vs) (hr : R vs v) : Ev (tCall (spS R) [] E tr) σ H v := fun H1 e Q q =>
  h H1 e _ fun H2 e2 => ⟨v, by rw [List.append_nil]; exact hr, fun H3 e3 => q H3 (e2.trans e3)⟩
theorem go_retE (h : Ev te σ H v') (e : v' = v) (k : ∀ H', Ex H H' → D.rt v H') : Go (tSeq (tRet te) tz) D σ H := go_retV (by rw [← e]; exact h) k
theorem ev_chainB {k k' : Bool} (ha : Ev ta σ H x) (hb : Ev tb σ H y) (hr : RV r x y H (.bl k)) (hc : Ev tc σ H z) (hr' : RV r' y z H (.bl k')) : Ev (tChain r r' ta tb tc) σ H (.bl (k && k')) :=
  ev_chain ha hb hr (fun _ => hc) (fun e => by subst e; exact hr') (fun e => by subst e; rfl)
theorem ev_ifB {b : Bool} (h : EvT t σ H b) (h1 : Ev ta σ H x) (h2 : Ev tb σ H y) : Ev (tIf t ta tb) σ H (if b = true then x else y) := by
  refine ev_if h (fun e => ?_) (fun e => ?_)
  · rw [if_pos e]; exact h1
  · rw [if_neg (by rw [e]; decide)]; exact h2
theorem et_andB {a b : Bool} (h1 : EvT t σ H a) (h2 : EvT u σ H b) : EvT (tAnd t u) σ H (a && b) := et_and h1 fun _ => h2
theorem et_orB {a b : Bool} (h1 : EvT t σ H a) (h2 : EvT u σ H b) : EvT (tOr t u) σ H (a || b) := et_or h1 fun _ => h2
theorem ev_andB {a b : Bool} (h1 : Ev ta σ H (.bl a)) (h2 : Ev tb σ H (.bl b)) : Ev (tAndV ta tb) σ H (.bl (a && b)) := ev_andV h1 fun _ => h2
theorem ev_orB {a b : Bool} (h1 : Ev ta σ H (.bl a)) (h2 : Ev tb σ H (.bl b)) : Ev (tOrV ta tb) σ H (.bl (a || b)) := ev_orV h1 fun _ => h2
theorem rv_isN : RV (fun x y H Q => y = .non ∧ Q (.bl (decide (x = .non))) H) x .non H (.bl (decide (x = .non))) := fun H1 _ _ q => ⟨rfl, q H1 (Ex.refl H1)⟩
end
end Cot

set_option Elab.async false
set_option linter.all false
set_option maxRecDepth 100000
set_option maxHeartbeats 4000000
/-! A box of draws: a list that changes; all else grows. -/
namespace Cot
open PySem L2 Evl
section
variable {K : PySem.W.Frag} {X : Cx}
theorem call_lenQ : CallR X (.builtin "len") (rLenS X.K) := call_len_seq
theorem call_listQ : CallR X (.type "list") (rListS X.K) := call_list_of
def BoxL (xs : List V) (ca : Addr) : Prop := ∃ pos rest turn seed : Int, xs = [.ref ca, .int pos, .int rest, .int turn, .int seed] ∧ 0 ≤ pos
/-- a box: its own place, and that of its cells -/
structure Bid where
  b : Addr
  ca : Addr
def Bx (H : Hp) (b : Bid) : Prop := ∃ (cells : List Int) (xs : List V), H b.b = some (.lst xs) ∧ BoxL xs b.ca ∧ H b.ca = some (.lst (cells.map V.int)) ∧ cells.length ≤ 63
theorem Bx.mono {H H' : Hp} {b : Bid} (e : Ex H H') (B : Bx H b) : Bx H' b := by
  obtain ⟨cells, xs, h1, h2, h3, h4⟩ := B
  exact ⟨cells, xs, e _ _ h1, h2, e _ _ h3, h4⟩
theorem Bx.some {H : Hp} {b : Bid} (B : Bx H b) : ∃ o, H b.b = Option.some o := by
  obtain ⟨cells, xs, h1, h2, h3, h4⟩ := B
  exact ⟨_, h1⟩
theorem Bx.keep {H : Hp} {b : Bid} {l : Addr} {o : HO} (B : Bx H b) (n1 : l ≠ b.b) (n2 : l ≠ b.ca) : Bx (upd H l o) b := by
  obtain ⟨cells, xs, h1, h2, h3, h4⟩ := B
  exact ⟨cells, xs, by rw [upd_ne n1.symm]; exact h1, h2, by rw [upd_ne n2.symm]; exact h3, h4⟩
theorem Bx.cell {H : Hp} {b : Bid} (B : Bx H b) : ∃ o, H b.ca = Option.some o := by
  obtain ⟨cells, xs, h1, h2, h3, h4⟩ := B
  exact ⟨_, h3⟩
theorem Bx.apart {H : Hp} {b : Bid} {l : Addr} (B : Bx H b) (h : H l = none) : l ≠ b.b ∧ l ≠ b.ca := by
  obtain ⟨o, h1⟩ := B.some
  obtain ⟨o2, h2⟩ := B.cell
  exact ⟨(ne_of_none h1 h).symm, (ne_of_none h2 h).symm⟩
structure GrB (b : Bid) (Hd H Hn H2 : Hp) : Prop where
  exb : ∀ a o, a ≠ b.b → H a = some o → H2 a = some o
  dx : Ex Hd Hn
  sub : Ex Hn H2
  fr : ∀ a o, H a = some o → Hd a = none → Hn a = none
  bx : Bx H2 b
variable {b : Bid} {H H' Hd Hd' Hn H1 H2 Hm : Hp}
theorem GrB.bn (g : GrB b Hd H Hn H2) (hb : Hd b.b = none) (B : Bx H b) : Hn b.b = none := by
  obtain ⟨o, h⟩ := B.some
  exact g.fr b.b o h hb
theorem GrB.of (g : Gr Hd H Hn H2) (B : Bx H b) : GrB b Hd H Hn H2 := ⟨fun a o _ h => g.ex a o h, g.dx, g.sub, g.fr, B.mono g.ex⟩
theorem GrB.trans (g1 : GrB b Hd H Hn H1) (g2 : GrB b Hn H1 Hm H2) (hb : Hd b.b = none) (B : Bx H b) : GrB b Hd H Hm H2 :=
  ⟨fun a o n h => g2.exb a o n (g1.exb a o n h), g1.dx.trans g2.dx, g2.sub, fun a o h hd => by
    by_cases e : a = b.b
    · rw [e]
      exact g2.bn (g1.bn hb B) g1.bx
    · exact g2.fr a o (g1.exb a o e h) (g1.fr a o h hd), g2.bx⟩
theorem GrB.pre (e : Ex H H1) (g : GrB b Hd H1 Hn H2) : GrB b Hd H Hn H2 := ⟨fun a o n h => g.exb a o n (e a o h), g.dx, g.sub, fun a o ha hd => g.fr a o (e a o ha) hd, g.bx⟩
theorem GrB.up (e : Ex Hd Hd') (s : Ex Hd' H) (hb : Hd' b.b = none) (g : GrB b Hd H Hn H2) : GrB b Hd' H (un Hd' Hn) H2 ∧ Ex Hn (un Hd' Hn) := by
  have s2 : Ex Hd' H2 := fun a o h => g.exb a o (ne_of_none h hb) (s a o h)
  exact ⟨⟨g.exb, un_l, un_sub s2 g.sub, fun a o ha hd => by
    unfold un
    rw [hd]
    exact g.fr a o ha (fresh_back e hd), g.bx⟩, un_r s2 g.sub⟩
def EvB (K : PySem.W.Frag) (b : Bid) (te : TE) (σ : L2.St) (Hd : Hp) (P : PyData → Prop) : Prop := Hd b.b = none → ∀ H, Ex Hd H → Bx H b → ∀ Q : VK, (∀ v H2 Hn d, GrB b Hd H Hn H2 → Dp K Hn v d → P d → Q v H2) → te σ H Q
def EvBA (K : PySem.W.Frag) (b : Bid) (ta : TA) (σ : L2.St) (Hd : Hp) (P : List PyData → Prop) : Prop := Hd b.b = none → ∀ H, Ex Hd H → Bx H b → ∀ Q : List V → Hp → Prop, (∀ vs H2 Hn ds, GrB b Hd H Hn H2 → DpAll K Hn vs ds → P ds → Q vs H2) → ta σ H Q
def isI (p : Int → Prop) (d : PyData) : Prop := ∃ i, d = .int i ∧ p i
/-- a def that draws: its first argument the box -/
def spB (K : PySem.W.Frag) (Pre : List PyData → Prop) (P : List PyData → PyData → Prop) : Sp := fun vs H Q _ => ∃ b ws Hd ds, vs = .ref b.b :: ws ∧ Hd b.b = none ∧ Ex Hd H ∧ Bx H b ∧ DpAll K Hd ws ds ∧ Pre ds ∧ ∀ v H2 Hn d, GrB b Hd H Hn H2 → Dp K Hn v d → P ds d → Q v H2
variable {σ : L2.St} {ta tb tc te tx : TE} {t u : TT} {x y z v v' : V} {r r' : R2} {d : PyData} {ds : List PyData} {tr : TA} {D : Ends} {tu tw tz : TS} {i : Nat} {P P' : PyData → Prop} {Ps : List PyData → Prop} {p p' : Int → Prop}
theorem EvB.mono (e : Ex Hd Hd') (h : EvB K b te σ Hd P) : EvB K b te σ Hd' P := fun hb H s B Q q => h (fresh_back e hb) H (e.trans s) B Q fun v H2 Hn d g hd hp =>
  q v H2 _ d (g.up e s hb).1 (dp_mono (g.up e s hb).2 d hd) hp
theorem EvBA.mono (e : Ex Hd Hd') (h : EvBA K b tr σ Hd Ps) : EvBA K b tr σ Hd' Ps := fun hb H s B Q q => h (fresh_back e hb) H (e.trans s) B Q fun v H2 Hn d g hd hp =>
  q v H2 _ d (g.up e s hb).1 (dpa_mono (g.up e s hb).2 d hd) hp
theorem EvB.imp (h : EvB K b te σ Hd P) (k : ∀ d, P d → P' d) : EvB K b te σ Hd P' := fun hb H s B Q q => h hb H s B Q fun v H2 Hn d g hd hp => q v H2 Hn d g hd (k d hp)
theorem eb_ed (h : EvD K te σ Hd d) : EvB K b te σ Hd (fun d' => d' = d) := fun hb H s B Q q => h H s Q fun v H2 Hn g hd => q v H2 Hn d (GrB.of g B) hd rfl
theorem eb_ev {n : Int} (h : Ev te σ Hd (.int n)) : EvB K b te σ Hd (isI fun m => m = n) := (eb_ed (ed_int h)).imp fun d e => ⟨n, e, rfl⟩
theorem eba_nil : EvBA K b tNil σ Hd (fun ds => ds = []) := fun hb H s B Q q => q [] H Hd [] (GrB.of (Gr.refl s) B) .nil rfl
theorem eba_cons (h : EvB K b ta σ Hd P) (hr : EvBA K b tr σ Hd Ps) : EvBA K b (tCons ta tr) σ Hd (fun ds => ∃ d es, ds = d :: es ∧ P d ∧ Ps es) := fun hb H s B Q q =>
  h hb H s B _ fun v H1 Hn d g hd hp => hr.mono g.dx (g.bn hb B) H1 g.sub g.bx _ fun vs H2 Hm es g2 hes hps => q (v :: vs) H2 Hm (d :: es) (g.trans g2 hb B) (.cons (dp_mono g2.dx d hd) hes) ⟨d, es, rfl, hp, hps⟩
theorem eb_call {Pre : List PyData → Prop} {R : List PyData → PyData → Prop} {E : XK} (ha : Ev ta σ Hd (.ref b.b)) (h : EvBA K b tr σ Hd Ps) (hp : ∀ ds, Ps ds → Pre ds) : EvB K b (tCall (spB K Pre R) [] E (tCons ta tr)) σ Hd (fun d => ∃ ds, Ps ds ∧ R ds d) := fun hb H s B Q q =>
  ha H s _ fun H1 e1 => h hb H1 (s.trans e1) (B.mono e1) _ fun vs H2 Hn ds g hds hps => ⟨b, vs, Hn, ds, by rw [List.append_nil], g.bn hb (B.mono e1), g.sub, g.bx, hds, hp ds hps, fun v H3 Hm d g2 hd hR =>
    q v H3 Hm d ((g.trans g2 hb (B.mono e1)).pre e1) hd ⟨ds, hps, hR⟩⟩
theorem eb_opI {gg : Int → Int → V} {f : Int → Int → Int} (hg : ∀ i j, gg i j = .int (f i j)) {C : Int → Int → Prop} (ha : EvB K b ta σ Hd (isI p)) (hb' : EvB K b tb σ Hd (isI p')) (hc : ∀ i j, p i → p' j → C i j) : EvB K b (tOp (rI C gg) ta tb) σ Hd (isI fun k => ∃ i j, p i ∧ p' j ∧ k = f i j) := fun hb H s B Q q =>
  ha hb H s B _ fun v H1 Hn d g hd hp => hb'.mono g.dx (g.bn hb B) H1 g.sub g.bx _ fun v2 H2 Hm d2 g2 hd2 hp2 => by
    obtain ⟨i, rfl, pi⟩ := hp
    obtain ⟨j, rfl, pj⟩ := hp2
    cases hd
    cases hd2
    refine ⟨i, j, rfl, rfl, hc i j pi pj, ?_⟩
    rw [hg]
    exact q _ H2 Hm (.int (f i j)) (g.trans g2 hb B) (.int _) ⟨_, rfl, i, j, pi, pj, rfl⟩
theorem eb_opI0 {gg : Int → Int → V} {f : Int → Int → Int} (hg : ∀ i j, gg i j = .int (f i j)) (ha : EvB K b ta σ Hd (isI p)) (hb' : EvB K b tb σ Hd (isI p')) : EvB K b (tOp (rI0 gg) ta tb) σ Hd (isI fun k => ∃ i j, p i ∧ p' j ∧ k = f i j) := fun hb H s B Q q =>
  ha hb H s B _ fun v H1 Hn d g hd hp => hb'.mono g.dx (g.bn hb B) H1 g.sub g.bx _ fun v2 H2 Hm d2 g2 hd2 hp2 => by
    obtain ⟨i, rfl, pi⟩ := hp
    obtain ⟨j, rfl, pj⟩ := hp2
    cases hd
    cases hd2
    refine ⟨i, j, rfl, rfl, ?_⟩
    rw [hg]
    exact q _ H2 Hm (.int (f i j)) (g.trans g2 hb B) (.int _) ⟨_, rfl, i, j, pi, pj, rfl⟩
theorem eb_lst (h : EvBA K b tr σ Hd Ps) (hl : ∀ ds, Ps ds → ds.length ≤ 100000) : EvB K b (tLst tr) σ Hd (fun d => ∃ ds, d = .list ds ∧ Ps ds) := fun hb H s B Q q =>
  h hb H s B _ fun vs H1 Hn ds g hd hp => ⟨sz_of (by rw [dpa_len hd]; exact hl ds hp), fun a ha => q (.ref a) _ _ (.list ds) (g.trans (GrB.of (Gr.new g.sub ha) g.bx) hb B) (.lst (sq_of upd_same) (dpa_mono (Ex.new (fresh_back g.sub ha)) ds hd)) ⟨ds, rfl, hp⟩⟩
theorem eb_tup (h : EvBA K b tr σ Hd Ps) (hl : ∀ ds, Ps ds → ds.length ≤ 100000) : EvB K b (tTup tr) σ Hd (fun d => ∃ ds, d = .tuple ds ∧ Ps ds) := fun hb H s B Q q =>
  h hb H s B _ fun vs H1 Hn ds g hd hp => ⟨sz_of (by rw [dpa_len hd]; exact hl ds hp), fun a ha => q (.ref a) _ _ (.tuple ds) (g.trans (GrB.of (Gr.new g.sub ha) g.bx) hb B) (.tup (st_of upd_same) (dpa_mono (Ex.new (fresh_back g.sub ha)) ds hd)) ⟨ds, rfl, hp⟩⟩
theorem eb_ixL (ha : EvB K b ta σ Hd (fun d => ∃ ds, d = .list ds ∧ Ps ds)) (hi : EvB K b tb σ Hd (isI p)) (he : ∀ ds i, Ps ds → p i → ∃ d, atI ds i = some d) : EvB K b (tOp (rIxL K) ta tb) σ Hd (fun d => ∃ ds i, Ps ds ∧ p i ∧ atI ds i = some d) := fun hb H s B Q q =>
  ha hb H s B _ fun v H1 Hn d g hd hp => hi.mono g.dx (g.bn hb B) H1 g.sub g.bx _ fun v2 H2 Hm d2 g2 hd2 hp2 => by
    obtain ⟨ds, rfl, ps⟩ := hp
    obtain ⟨i, rfl, pi⟩ := hp2
    cases hd2
    cases dp_mono g2.dx _ hd with
    | @lst pa xs ds hs hall =>
      obtain ⟨d, hd⟩ := he ds i ps pi
      obtain ⟨w, h1, h2⟩ := dpa_at hall hd
      exact ⟨pa, xs, i, w, rfl, rfl, ex_l g2.sub hs, h1, q w H2 Hm d (g.trans g2 hb B) h2 ⟨ds, i, ps, pi, hd⟩⟩
theorem go_asgB (hb : Hd b.b = none) (s : Ex Hd H) (B : Bx H b) (h : EvB K b te σ Hd P) (k : ∀ v H' Hn d, GrB b Hd H Hn H' → Dp K Hn v d → P d → Go tz D (σ.set i (some v)) H') : Go (tSeq (tAsg te (gName i)) tz) D σ H := fun H1 e1 =>
  h hb H1 (s.trans e1) (B.mono e1) _ fun v H2 Hn d g hd hp => k v H2 Hn d (g.pre e1) hd hp H2 (Ex.refl _)
theorem go_retB (hb : Hd b.b = none) (s : Ex Hd H) (B : Bx H b) (h : EvB K b te σ Hd P) (k : ∀ v H' Hn d, GrB b Hd H Hn H' → Dp K Hn v d → P d → D.rt v H') : Go (tSeq (tRet te) tz) D σ H := fun H1 e1 =>
  h hb H1 (s.trans e1) (B.mono e1) _ fun v H2 Hn d g hd hp => k v H2 Hn d (g.pre e1) hd hp
theorem go_setL {l : Addr} {xs : List V} {j : Nat} (hl : H l = some (.lst xs)) (h : Ev te σ H v) (ho : Ev ta σ H (.ref l)) (hi : Ev tb σ H (.int (j : Int))) (hj : j < xs.length) (k : Go tz D σ (upd H l (.lst (xs.set j v)))) :
    Go (tSeq (tAsg te (gSub ta tb rSetL)) tz) D σ H := fun H1 e1 => q_setL (e1 _ _ hl) (h.mono e1) (ho.mono e1) (hi.mono e1) hj fun H2 e2 => k _ (ex_upd2 (e1.trans e2))
theorem go_app {l : Addr} {xs : List V} (hl : H l = some (.lst xs)) (ha : Ev ta σ H (.ref l)) (h : Ev te σ H v) (hz : xs.length < 100000) (k : Go tz D σ (upd H l (.lst (xs ++ [v])))) :
    Go (tSeq (tDrop (tBM K "list" rAppend ta (tCons te tNil))) tz) D σ H := fun H1 e1 => q_app (e1 _ _ hl) (ha.mono e1) (h.mono e1) hz fun H2 e2 => k _ (ex_upd2 (e1.trans e2))
end
end Cot

set_option Elab.async false
set_option linter.all false
set_option maxRecDepth 100000
set_option maxHeartbeats 4000000
/-! What is walked, and comprehensions over it. -/
namespace Cot
open PySem L2 Evl RZ
section
variable {K : PySem.W.Frag} {X : Cx} {H H' Hd Hd' Hn H1 H2 Hm : Hp} {σ : L2.St} {ta tb tc te tx tl : TE} {t u tt : TT} {x y z v v' : V} {d : PyData} {ds es : List PyData} {tr : TA} {D : Ends} {tu tw tz : TS} {i j j2 n : Nat} {wi : TI} {g : TG}
/-- what is walked: n turns; S tells the slots behind the target, by the turn and the slots ahead -/
def EvI (K : PySem.W.Frag) (wi : TI) (g : TG) (σ : L2.St) (Hd : Hp) (n : Nat) (S : Nat → L2.St → L2.St → Hp → Prop) : Prop := ∀ H, Ex Hd H → ∀ R : It → Hp → Prop,
  (∀ J H2 Hn (G : Hp → Prop) (Y : Nat → Hp → V → Hp → Prop), Gr Hd H Hn H2 → Walk J n G Y → (∀ H', Ex Hn H' → G H') →
    (∀ (i : Nat) (x : V) (H' H'' : Hp) (σ' : L2.St) (k : L2.St → Hp → Prop), i < n → Ex Hn H' → Y i H' x H'' → (∀ σ2 H3, Ex H' H3 → S i σ' σ2 Hn → k σ2 H3) → g x σ' H'' k) → R J H2) → wi σ H R
def SName (K : PySem.W.Frag) (j : Nat) (ds : List PyData) (i : Nat) (σ' σ2 : L2.St) (Hn : Hp) : Prop := ∃ v d, ds[i]? = some d ∧ Dp K Hn v d ∧ σ2 = σ'.set j (some v)
def SPair (K : PySem.W.Frag) (j j2 : Nat) (f f2 : Nat → Option PyData) (i : Nat) (σ' σ2 : L2.St) (Hn : Hp) : Prop := ∃ v v2 d d2, f i = some d ∧ f2 i = some d2 ∧ Dp K Hn v d ∧ Dp K Hn v2 d2 ∧ σ2 = (σ'.set j (some v)).set j2 (some v2)
def SInt (j : Nat) (lo : Int) (i : Nat) (σ' σ2 : L2.St) (_ : Hp) : Prop := σ2 = σ'.set j (some (.int (lo + (i : Int))))
theorem ei_list (h : EvD K tl σ Hd (.list ds)) : EvI K (iList K tl) (gName j) σ Hd ds.length (SName K j ds) := fun H s R r =>
  h H s _ fun v H2 Hn g hd => by
    cases hd with
    | @lst a xs ds hs hall =>
      refine ⟨a, rfl, ⟨xs, ex_l g.sub hs⟩, r _ H2 Hn _ _ g (by rw [← dpa_len hall]; exact walk_list) (fun H' e => ex_l e hs) fun i x H' H'' σ' k hi e y q => ?_⟩
      obtain ⟨rfl, hx⟩ := y
      obtain ⟨d, h1, h2⟩ := dpa_get2 hall hx
      exact q _ _ (Ex.refl _) ⟨x, d, h1, h2, rfl⟩
theorem ei_tup (h : EvD K tl σ Hd (.tuple ds)) : EvI K (iTup K tl) (gName j) σ Hd ds.length (SName K j ds) := fun H s R r =>
  h H s _ fun v H2 Hn g hd => by
    cases hd with
    | @tup a xs ds hs hall =>
      refine ⟨a, rfl, ⟨xs, ex_t g.sub hs⟩, r _ H2 Hn _ _ g (by rw [← dpa_len hall]; exact walk_tup) (fun H' e => ex_t e hs) fun i x H' H'' σ' k hi e y q => ?_⟩
      obtain ⟨rfl, hx⟩ := y
      obtain ⟨d, h1, h2⟩ := dpa_get2 hall hx
      exact q _ _ (Ex.refl _) ⟨x, d, h1, h2, rfl⟩
theorem ei_range1 {m : Int} (h : EvA tr σ Hd [.int m]) (hm : -100000 ≤ m ∧ m ≤ 100000) : EvI K (iRng1 tr) (gName j) σ Hd m.toNat (SInt j 0) := fun H s R r =>
  h H s _ fun H2 e2 => ⟨m, rfl, by omega, by omega, r _ H2 Hd _ _ (Gr.ext s e2) walk_range (fun _ _ => trivial) fun i x H' H'' σ' k hi e y q => by
    obtain ⟨rfl, rfl⟩ := y
    exact q _ _ (Ex.refl _) rfl⟩
theorem ei_range2 {lo m : Int} (h : EvA tr σ Hd [.int lo, .int m]) (hl : -100000 ≤ lo ∧ lo ≤ 100000) (hm : -100000 ≤ m ∧ m ≤ 100000) : EvI K (iRng2 tr) (gName j) σ Hd (m - lo).toNat (SInt j lo) := fun H s R r =>
  h H s _ fun H2 e2 => ⟨lo, m, rfl, ⟨by omega, by omega, by omega, by omega⟩, r _ H2 Hd _ _ (Gr.ext s e2) walk_range (fun _ _ => trivial) fun i x H' H'' σ' k hi e y q => by
    obtain ⟨rfl, rfl⟩ := y
    exact q _ _ (Ex.refl _) rfl⟩
/-- the target of a pair: two names -/
abbrev g2 (K : PySem.W.Frag) (j j2 : Nat) : TG := gTup K 2 (gCons (gName j) (gCons (gName j2) gNil))
theorem pair_turn {f f2 : Nat → Option V} {fd fd2 : Nat → Option PyData} {x : V} {H' H'' : Hp} {σ' : L2.St} {k : L2.St → Hp → Prop} (hf : ∀ v, f i = some v → ∃ d, fd i = some d ∧ Dp K Hn v d) (hf2 : ∀ v, f2 i = some v → ∃ d, fd2 i = some d ∧ Dp K Hn v d)
    (y : YPair f f2 i H' x H'') (q : ∀ σ2 H3, Ex H' H3 → SPair K j j2 fd fd2 i σ' σ2 Hn → k σ2 H3) : g2 K j j2 x σ' H'' k := by
  obtain ⟨T, a, b, rfl, hT, rfl, h1, h2⟩ := y
  obtain ⟨d, e1, q1⟩ := hf a h1
  obtain ⟨d2, e2, q2⟩ := hf2 b h2
  exact ⟨T, [a, b], rfl, st_of upd_same, rfl, a, [b], rfl, b, [], rfl, rfl, q _ _ (Ex.new hT) ⟨a, b, d, d2, e1, e2, q1, q2, rfl⟩⟩
theorem ei_zipL (h : EvDA K tr σ Hd [.list ds, .list es]) (hl : ds.length = es.length) : EvI K (iZipA K tr) (g2 K j j2) σ Hd ds.length (SPair K j j2 (fun i => ds[i]?) (fun i => es[i]?)) := fun H s R r =>
  h H s _ fun vs H2 Hn g hd => by
    cases hd with
    | cons h1 h2 =>
      cases h2 with
      | cons h2 h3 =>
        cases h3
        cases h1 with
        | @lst a xs ds hs hall =>
          cases h2 with
          | @lst b ys es hs2 hall2 =>
            refine ⟨a, b, xs, ys, rfl, Or.inl ⟨ex_l g.sub hs, ex_l g.sub hs2, r _ H2 Hn _ _ g (walk_zip (xs := xs) (ys := ys) (by rw [dpa_len hall, dpa_len hall2]; omega)) (fun H' e => ⟨ex_l e hs, ex_l e hs2⟩) fun i x H' H'' σ' k hi e y q => ?_⟩⟩
            exact pair_turn (fun v e => dpa_get2 hall e) (fun v e => dpa_get2 hall2 e) y q
theorem walk_zipT {a b : Addr} {xs ys : List V} {n : Nat} (hn : n = min xs.length ys.length) : Walk (ItzT K a b) n (fun H => SqT K H a xs ∧ SqT K H b ys) (YPair (fun i => xs[i]?) (fun i => ys[i]?)) := by
  subst hn
  refine ⟨fun i _ hi q => ?_, fun _ q => ⟨xs, ys, q.1, q.2, by omega⟩, fun i H v H' _ q y => ?_⟩
  · have h1 : i < xs.length := by omega
    have h2 : i < ys.length := by omega
    exact ⟨xs, ys, xs[i], ys[i], q.1, q.2, by simp [h1], by simp [h2]⟩
  · obtain ⟨T, x, z, h1, h2, h3, h4, h5⟩ := y
    exact ⟨T, x, z, h1, h2, h3, h4 xs q.1, h5 ys q.2⟩
theorem ei_zipT (h : EvDA K tr σ Hd [.tuple ds, .tuple es]) (hl : ds.length = es.length) : EvI K (iZipA K tr) (g2 K j j2) σ Hd ds.length (SPair K j j2 (fun i => ds[i]?) (fun i => es[i]?)) := fun H s R r =>
  h H s _ fun vs H2 Hn g hd => by
    cases hd with
    | cons h1 h2 =>
      cases h2 with
      | cons h2 h3 =>
        cases h3
        cases h1 with
        | @tup a xs ds hs hall =>
          cases h2 with
          | @tup b ys es hs2 hall2 =>
            refine ⟨a, b, xs, ys, rfl, Or.inr ⟨ex_t g.sub hs, ex_t g.sub hs2, r _ H2 Hn _ _ g (walk_zipT (xs := xs) (ys := ys) (by rw [dpa_len hall, dpa_len hall2]; omega)) (fun H' e => ⟨ex_t e hs, ex_t e hs2⟩) fun i x H' H'' σ' k hi e y q => ?_⟩⟩
            exact pair_turn (fun v e => dpa_get2 hall e) (fun v e => dpa_get2 hall2 e) y q
theorem ei_enum (h : EvDA K tr σ Hd [.list ds]) : EvI K (iEnum K tr) (g2 K j j2) σ Hd ds.length (SPair K j j2 (fun i => some (.int (i : Int))) (fun i => ds[i]?)) := fun H s R r =>
  h H s _ fun vs H2 Hn g hd => by
    cases hd with
    | cons h1 h2 =>
      cases h2
      cases h1 with
      | @lst a xs ds hs hall =>
        refine ⟨a, xs, rfl, ex_l g.sub hs, r _ H2 Hn _ _ g (by rw [← dpa_len hall]; exact walk_enum) (fun H' e => ex_l e hs) fun i x H' H'' σ' k hi e y q => ?_⟩
        refine pair_turn (fun v e => ?_) (fun v e => dpa_get2 hall e) y q
        cases e
        exact ⟨_, rfl, .int _⟩

/-! ### comprehensions -/
def givenD (n : Nat) (f : Nat → Bool) (v : Nat → PyData) : List PyData := ((List.range n).filter f).map v
theorem givenD_yes {f : Nat → Bool} {v : Nat → PyData} (h : f n = true) : givenD (n + 1) f v = givenD n f v ++ [v n] := by
  unfold givenD
  rw [List.range_succ, List.filter_append, List.map_append, List.filter_cons, if_pos h] <;> rfl
theorem givenD_no {f : Nat → Bool} {v : Nat → PyData} (h : f n = false) : givenD (n + 1) f v = givenD n f v := by
  unfold givenD
  rw [List.range_succ, List.filter_append, List.map_append, List.filter_cons, if_neg (by rw [h]; decide)]
  show _ ++ [] = _
  rw [List.append_nil]
theorem givenD_len (n : Nat) (f : Nat → Bool) (v : Nat → PyData) : (givenD n f v).length ≤ n := by
  unfold givenD
  rw [List.length_map]
  have h := List.length_filter_le f (List.range n)
  rw [List.length_range] at h
  exact h
theorem givenD_all (n : Nat) (v : Nat → PyData) : givenD n (fun _ => true) v = (List.range n).map v := by
  unfold givenD
  rw [List.filter_eq_self.mpr (fun _ _ => rfl)]
theorem range_get (ds : List PyData) (F : PyData → PyData) : (List.range ds.length).map (fun i => F (ds[i]?.getD .none)) = ds.map F := by
  apply List.ext_getElem
  · simp
  · intro i h1 h2
    simp at h1 h2 ⊢
    rw [List.getElem?_eq_getElem h1]
    rfl
theorem et_yes : EvT tYes σ H true := fun H1 e Q q => q H1 (Ex.refl H1)
theorem en_lc {S : Nat → L2.St → L2.St → Hp → Prop} {vs : List Nat} (h : EvI K wi g σ Hd n S) (hn : n ≤ 40000) (f : Nat → Bool) (v : Nat → PyData)
    (ht : ∀ (i : Nat) (σ2 : L2.St) (Hn : Hp), i < n → Ex Hd Hn → S i (wipe σ vs) σ2 Hn → wipe σ2 vs = wipe σ vs ∧ EvT tt σ2 Hn (f i) ∧ (f i = true → EvD K te σ2 Hn (v i))) : EvN K (tLc wi g tt te vs) σ Hd (givenD n f v) := fun H s Q q =>
  h H s _ fun J H1 Hn G Y gr w hG hY Dl hD => by
    refine lc_it w (fun i H' => i ≤ n ∧ ∃ Hm acc, Gr Hn H1 Hm H' ∧ Hm Dl = none ∧ H' Dl = some (.lst acc) ∧ DpAll K Hm acc (givenD i f v)) ⟨Nat.zero_le _, Hn, [], Gr.alloc gr.sub hD, fresh_back gr.sub hD, upd_same, .nil⟩ (fun i H' _ p => ?_) (fun i x H' H'' hi p y => ?_) (fun H' p => ?_)
    · obtain ⟨_, Hm, acc, g1, _⟩ := p
      exact hG H' (g1.dx.trans g1.sub)
    · obtain ⟨_, Hm, acc, g1, hm, h2, hac⟩ := p
      refine hY i x H' H'' _ _ hi (g1.dx.trans g1.sub) y fun σ2 H3 e3 hS => ?_
      obtain ⟨hw, hT, hE⟩ := ht i σ2 Hn hi gr.dx hS
      refine ⟨hw, hT H3 ((g1.dx.trans g1.sub).trans e3) _ fun H4 e4 => ?_⟩
      have al : acc.length < sizeLine := sz_lt (by have := givenD_len i f v; rw [dpa_len hac]; omega)
      cases hf : f i with
      | false =>
        show (i + 1 ≤ n ∧ _)
        refine ⟨hi, Hm, acc, g1.post (e3.trans e4), hm, (e3.trans e4) _ _ h2, ?_⟩
        rw [givenD_no hf]
        exact hac
      | true =>
        show te σ2 H4 _
        refine ((hE hf).mono g1.dx) H4 ((g1.sub.trans e3).trans e4) _ fun y H5 Ho g5 hy => ?_
        have h4 : H4 Dl = some (.lst acc) := (e3.trans e4) _ _ h2
        have ho : Ho Dl = none := g5.fr _ _ h4 hm
        have hD1 : H1 Dl = none := hD
        refine ⟨acc, g5.ex _ _ h4, al, hi, Ho, acc ++ [y], ⟨Ex.mut ((g1.ex.trans (e3.trans e4)).trans g5.ex) hD1, g1.dx.trans g5.dx, Ex.mut g5.sub ho, fun a o ha hd => g5.fr a o ((e3.trans e4) a o (g1.ex a o ha)) (g1.fr a o ha hd)⟩, ho, upd_same, ?_⟩
        rw [givenD_yes hf]
        exact dpa_app (dpa_mono g5.dx _ hac) (.cons hy .nil)
    · obtain ⟨_, Hm, acc, g1, hm, h2, hac⟩ := p
      exact q Dl acc H' Hm (gr.trans g1) (fresh_back gr.ex hD) hm h2 hac
theorem ev_all {bs : List Bool} (h : EvD K ta σ Hd (.list (bs.map .bool))) : Ev (tCB (rAll K) (tCons ta tNil)) σ Hd (.bl (bs.all id)) := fun H s Q q =>
  h H s _ fun v H2 Hn g hd => by
    cases hd with
    | @lst a xs ds hs hall =>
      have e := dpa_bools_inv hall
      subst e
      exact ⟨a, bs, rfl, ex_l g.sub hs, q H2 g.ex⟩
theorem ev_sum {bs : List Int} (h : EvD K ta σ Hd (.list (bs.map .int))) : Ev (tCB (rSum K) (tCons ta tNil)) σ Hd (.int bs.sum) := fun H s Q q =>
  h H s _ fun v H2 Hn g hd => by
    cases hd with
    | @lst a xs ds hs hall =>
      have e := dpa_ints_inv hall
      subst e
      exact ⟨a, bs, rfl, ex_l g.sub hs, q H2 g.ex⟩

/-! ### types of data -/
def tyN : PyData → String
  | .none => "NoneType"
  | .bool _ => "bool"
  | .int _ => "int"
  | .str _ => "str"
  | .list _ => "list"
  | .tuple _ => "tuple"
  | .dict _ => "dict"
theorem dp_ty (h : Dp K H v d) : TyX K H v (.type (tyN d)) := by
  cases h with
  | non => exact .base .non
  | bl b => exact .base (.bl b)
  | int i => exact .base (.int i)
  | str z => exact .base (.str z)
  | lst hs _ =>
    rcases hs with (h | ⟨o, h⟩) | ⟨o, its, n, h1, h2, _⟩
    · exact .base (.lst h)
    · exact .base (.frz h)
    · exact .kList h1 h2
  | tup hs _ =>
    rcases hs with (h | ⟨o, h⟩) | ⟨o, its, n, h1, h2, _⟩
    · exact .base (.tup h)
    · exact .fTuple h
    · exact .kTuple h1 h2
theorem ev_isi {T : String} {b : Bool} (ha : EvD K ta σ Hd d) (k : kitB (tyN d) T = some b) : Ev (tCB (rIsi K) (tCons ta (tCons (tC (.ty T)) tNil))) σ Hd (.bl b) := fun H s Q q =>
  ha H s _ fun v H2 Hn g hd => ⟨v, .ty T, _, _, b, rfl, .ty T, dp_ty (dp_mono g.sub _ hd), kit_ty k, q H2 g.ex⟩
theorem ev_isiT2 {T T2 : String} {b b2 : Bool} (ha : EvD K ta σ Hd d) (k : kitB (tyN d) T = some b) (k2 : kitB (tyN d) T2 = some b2) : Ev (tCB (rIsiT K) (tCons ta (tCons (tTup (tCons (tC (.ty T)) (tCons (tC (.ty T2)) tNil))) tNil))) σ Hd (.bl (b || b2)) := fun H s Q q =>
  ha H s _ fun v H2 Hn g hd => ⟨by show 2 ≤ sizeLine; decide, fun p hp => ⟨v, p, [.ty T, .ty T2], _, [.type T, .type T2], b || b2, rfl, upd_same, .cons (.ty T) (.cons (.ty T2) .nil), dp_ty (dp_mono (g.sub.trans (Ex.new hp)) _ hd), by
    refine kitAny_cons (kit_ty k) (fun e => kitAny_cons (kit_ty k2) (fun e2 => ?_) (fun e2 => ?_)) (fun e => ?_)
    · rw [e, e2]; rfl
    · rw [e2, Bool.or_true]
    · rw [e]; rfl, q _ (g.ex.trans (Ex.new hp))⟩⟩
theorem ev_eqD {e : PyData} (ha : EvD K ta σ Hd d) (hb : EvD K tb σ Hd e) (hd : SeqAt.shaped d = true) (he : SeqAt.shaped e = true) : Ev (tOp (rEqD K) ta tb) σ Hd (.bl (PyData.eqv d e)) := fun H s Q q =>
  ha H s _ fun v H2 Hn g h1 => hb.mono g.dx H2 g.sub _ fun v2 H3 Hm g2 h2 => ⟨d, e, dp_mono (g2.dx.trans g2.sub) _ h1, dp_mono g2.sub _ h2, hd, he, q H3 (g.ex.trans g2.ex)⟩
theorem ev_neD {e : PyData} (ha : EvD K ta σ Hd d) (hb : EvD K tb σ Hd e) (hd : SeqAt.shaped d = true) (he : SeqAt.shaped e = true) : Ev (tOp (rNeD K) ta tb) σ Hd (.bl (!PyData.eqv d e)) := fun H s Q q =>
  ha H s _ fun v H2 Hn g h1 => hb.mono g.dx H2 g.sub _ fun v2 H3 Hm g2 h2 => ⟨d, e, dp_mono (g2.dx.trans g2.sub) _ h1, dp_mono g2.sub _ h2, hd, he, q H3 (g.ex.trans g2.ex)⟩
end
end Cot

namespace Cot
open PySem L2 Evl
theorem kb_NoneType_bool : kitB "NoneType" "bool" = some false := by decide +kernel
theorem kb_NoneType_int : kitB "NoneType" "int" = some false := by decide +kernel
theorem kb_NoneType_str : kitB "NoneType" "str" = some false := by decide +kernel
theorem kb_NoneType_list : kitB "NoneType" "list" = some false := by decide +kernel
theorem kb_NoneType_tuple : kitB "NoneType" "tuple" = some false := by decide +kernel
theorem kb_bool_bool : kitB "bool" "bool" = some true := by decide +kernel
theorem kb_bool_int : kitB "bool" "int" = some true := by decide +kernel
theorem kb_bool_str : kitB "bool" "str" = some false := by decide +kernel
theorem kb_bool_list : kitB "bool" "list" = some false := by decide +kernel
theorem kb_bool_tuple : kitB "bool" "tuple" = some false := by decide +kernel
theorem kb_int_bool : kitB "int" "bool" = some false := by decide +kernel
theorem kb_int_int : kitB "int" "int" = some true := by decide +kernel
theorem kb_int_str : kitB "int" "str" = some false := by decide +kernel
theorem kb_int_list : kitB "int" "list" = some false := by decide +kernel
theorem kb_int_tuple : kitB "int" "tuple" = some false := by decide +kernel
theorem kb_str_bool : kitB "str" "bool" = some false := by decide +kernel
theorem kb_str_int : kitB "str" "int" = some false := by decide +kernel
theorem kb_str_str : kitB "str" "str" = some true := by decide +kernel
theorem kb_str_list : kitB "str" "list" = some false := by decide +kernel
theorem kb_str_tuple : kitB "str" "tuple" = some false := by decide +kernel
theorem kb_list_bool : kitB "list" "bool" = some false := by decide +kernel
theorem kb_list_int : kitB "list" "int" = some false := by decide +kernel
theorem kb_list_str : kitB "list" "str" = some false := by decide +kernel
theorem kb_list_list : kitB "list" "list" = some true := by decide +kernel
theorem kb_list_tuple : kitB "list" "tuple" = some false := by decide +kernel
theorem kb_tuple_bool : kitB "tuple" "bool" = some false := by decide +kernel
theorem kb_tuple_int : kitB "tuple" "int" = some false := by decide +kernel
theorem kb_tuple_str : kitB "tuple" "str" = some false := by decide +kernel
theorem kb_tuple_list : kitB "tuple" "list" = some false := by decide +kernel
theorem kb_tuple_tuple : kitB "tuple" "tuple" = some true := by decide +kernel
/-- data of a depth of at most n, without dicts -/
def okD : Nat → PyData → Prop
  | _, .none => True
  | _, .bool _ => True
  | _, .int _ => True
  | _, .str _ => True
  | _, .dict _ => False
  | 0, .list ds => ds = []
  | 0, .tuple ds => ds = []
  | n + 1, .list ds => ds.length ≤ 40000 ∧ ∀ e ∈ ds, okD n e
  | n + 1, .tuple ds => ds.length ≤ 40000 ∧ ∀ e ∈ ds, okD n e
def spSame (K : PySem.W.Frag) : Nat → Sp
  | 0 => fun _ _ _ _ => False
  | n + 1 => fun vs H Q _ => ∃ Hd d v1 v2, vs = [v1, v2] ∧ Ex Hd H ∧ Dp K Hd v1 d ∧ Dp K Hd v2 d ∧ okD n d ∧ ∀ H2, Ex H H2 → Q (.bl true) H2
section
variable {K : PySem.W.Frag} {X : Cx} {H H' Hd Hd' Hn H1 H2 Hm : Hp} {σ : L2.St} {ta tb tc te tx tl : TE} {t u tt : TT} {x y z v v' : V} {d : PyData} {ds es : List PyData} {tr : TA} {D : Ends} {tu tw tz : TS} {i j j2 n : Nat} {wi : TI} {g : TG}
theorem ev_same {E : XK} (h : EvDA K tr σ Hd [d, d]) (hk : okD n d) : Ev (tCall (spSame K (n + 1)) [] E tr) σ Hd (.bl true) := fun H s Q q =>
  h H s _ fun vs H2 Hn g hd => by
    cases hd with
    | cons h1 h2 =>
      cases h2 with
      | cons h2 h3 =>
        cases h3
        exact ⟨Hn, d, _, _, rfl, g.sub, h1, h2, hk, fun H3 e3 => q H3 (g.ex.trans e3)⟩
theorem go_whenT (h : EvT t σ H true) (h1 : Go tu { D with nx := tz D } σ H) : Go (tSeq (tIfS t tu tNext) tz) D σ H := go_when h (fun _ => h1) (fun e => by cases e)
theorem go_whenF (h : EvT t σ H false) (h2 : Go tz D σ H) : Go (tSeq (tIfS t tu tNext) tz) D σ H := go_when h (fun e => by cases e) (fun _ => h2)
end
end Cot
namespace Cot
open PySem L2 Evl
section
variable {K : PySem.W.Frag} {X : Cx} {H H' Hd Hd' Hn H1 H2 Hm : Hp} {σ : L2.St} {ta tb tc te tx tl : TE} {t u tt : TT} {x y z v v' : V} {d : PyData} {ds es : List PyData} {tr : TA} {D : Ends} {tu tw tz : TS} {i j j2 n : Nat} {wi : TI} {g : TG}
theorem go_for {S : Nat → L2.St → L2.St → Hp → Prop} (s : Ex Hd H) (h : EvI K wi g σ Hd n S) (Pv : Hp → Nat → L2.St → Hp → Prop) (h0 : ∀ H' Hn, Gr Hd H Hn H' → Pv Hn 0 σ H') (hE : ∀ Hn i σ' H', Pv Hn i σ' H' → Ex Hn H')
    (hs : ∀ Hn i σ' σ2 H', Ex Hd Hn → i < n → Pv Hn i σ' H' → S i σ' σ2 Hn → Go tu { D with nx := Pv Hn (i + 1), ct := Pv Hn (i + 1), bk := tz D } σ2 H')
    (hd : ∀ Hn σ' H', Ex Hd Hn → Pv Hn n σ' H' → Go tz D σ' H') : Go (tSeq (tFor wi g tu) tz) D σ H := fun H1 e1 =>
  h H1 (s.trans e1) _ fun J H2 Hn G Y gr w hG hY => by
    refine for_it w (Pv Hn) (h0 H2 Hn (gr.pre e1)) (fun i σ' H' _ p => hG H' (hE Hn i σ' H' p)) (fun i x σ' H' H'' hi p y => ?_) (fun σ' H' p => hd Hn σ' H' gr.dx p H' (Ex.refl _))
    exact hY i x H' H'' σ' _ hi (hE Hn i σ' H' p) y fun σ2 H3 e3 hS => hs Hn i σ' σ2 H' gr.dx hi p hS H3 e3
theorem eu_of (h : EvA tr σ Hd [x]) : True := trivial
end
end Cot
namespace Cot
open PySem L2 Evl
section
variable {K : PySem.W.Frag} {b : Bid} {H H' Hd Hd' Hn H1 H2 Hm : Hp} {σ : L2.St} {ta tb te : TE} {tr : TA} {n : Nat} {p : Int → Prop}
def AllP (p : Int → Prop) (n : Nat) (ds : List PyData) : Prop := ds.length = n ∧ ∀ d ∈ ds, isI p d
theorem ap_nil : EvBA K b tNil σ Hd (AllP p 0) := fun hb H s B Q q => eba_nil hb H s B Q fun vs H2 Hn ds g h e => q vs H2 Hn ds g h (by subst e; exact ⟨rfl, fun _ h => by cases h⟩)
theorem ap_cons (h : EvB K b ta σ Hd (isI p)) (hr : EvBA K b tr σ Hd (AllP p n)) : EvBA K b (tCons ta tr) σ Hd (AllP p (n + 1)) := fun hb H s B Q q => eba_cons h hr hb H s B Q fun vs H2 Hn ds g hd hp => q vs H2 Hn ds g hd (by
  obtain ⟨d, es, rfl, h1, h2, h3⟩ := hp
  refine ⟨by rw [List.length_cons, h2], fun e he => ?_⟩
  rcases List.mem_cons.mp he with rfl | he
  · exact h1
  · exact h3 e he)
theorem atI_get {α : Type} {ds : List α} {i : Int} (h0 : 0 ≤ i) (h1 : i < (ds.length : Int)) : ∃ d, atI ds i = some d ∧ d ∈ ds := by
  have h : i.toNat < ds.length := by omega
  refine ⟨ds[i.toNat], ?_, List.getElem_mem h⟩
  unfold atI ixN
  rw [if_pos h0, if_pos (by omega)]
  simp [h]
theorem eb_pick (h : EvBA K b tr σ Hd (AllP p n)) (hi : EvB K b tb σ Hd (isI fun i => 0 ≤ i ∧ i < (n : Int))) (hn : n ≤ 100000) : EvB K b (tOp (rIxL K) (tLst tr) tb) σ Hd (isI p) := by
  refine EvB.imp (eb_ixL (eb_lst h fun ds h => by rw [h.1]; exact hn) hi fun ds i h1 h2 => ?_) ?_
  · obtain ⟨d, h3, _⟩ := atI_get (ds := ds) h2.1 (by rw [h1.1]; exact h2.2)
    exact ⟨d, h3⟩
  · rintro d ⟨ds, i, h1, h2, h3⟩
    obtain ⟨d', h4, h5⟩ := atI_get (ds := ds) h2.1 (by rw [h1.1]; exact h2.2)
    rw [h3] at h4
    cases h4
    exact h1.2 d h5
theorem eb_int {q : Int → Prop} {m : Int} (h : Ev te σ Hd (.int m)) (hq : q m) : EvB K b te σ Hd (isI q) := (eb_ev h).imp fun d ⟨i, e, e2⟩ => ⟨i, e, by rw [e2]; exact hq⟩
theorem EvB.impI {p q : Int → Prop} (h : EvB K b te σ Hd (isI p)) (k : ∀ i, p i → q i) : EvB K b te σ Hd (isI q) := h.imp fun d ⟨i, e, e2⟩ => ⟨i, e, k i e2⟩
end
end Cot
namespace Cot
open PySem L2 Evl
section
variable {K : PySem.W.Frag} {b : Bid} {H H' Hd Hd' Hn H1 H2 Hm : Hp} {σ : L2.St} {ta tb te : TE} {tr : TA} {n i j : Nat} {p : Int → Prop} {Ps : List PyData → Prop} {D : Ends} {tu tz : TS} {ds : List PyData}
theorem go_forTB (hb : Hd b.b = none) (s : Ex Hd H) (B : Bx H b) (h : EvB K b te σ Hd (fun d => ∃ ds, d = .tuple ds ∧ Ps ds)) (Pv : List PyData → Hp → Nat → L2.St → Hp → Prop)
    (h0 : ∀ H' Hn ds, GrB b Hd H Hn H' → Ps ds → Pv ds Hn 0 σ H') (hE : ∀ ds Hn i σ' H', Pv ds Hn i σ' H' → Ex Hn H')
    (hs : ∀ ds Hn i σ' H' v d, Ps ds → Ex Hd Hn → Hn b.b = none → ds[i]? = some d → Dp K Hn v d → Pv ds Hn i σ' H' → Go tu { D with nx := Pv ds Hn (i + 1), ct := Pv ds Hn (i + 1), bk := tz D } (σ'.set j (some v)) H')
    (hd : ∀ ds Hn σ' H', Ps ds → Ex Hd Hn → Hn b.b = none → Pv ds Hn ds.length σ' H' → Go tz D σ' H') : Go (tSeq (tFor (iTup K te) (gName j) tu) tz) D σ H := fun H1 e1 =>
  h hb H1 (s.trans e1) (B.mono e1) _ fun v H2 Hn d g hdp hp => by
    obtain ⟨ds, rfl, ps⟩ := hp
    have hbn := g.bn hb (B.mono e1)
    cases hdp with
    | @tup a xs ds hx hall =>
      refine ⟨a, rfl, ⟨xs, ex_t g.sub hx⟩, for_it (n := ds.length) (G := fun H => SqT K H a xs) (Y := YAt xs) (by rw [← dpa_len hall]; exact walk_tup) (Pv ds Hn) (h0 H2 Hn ds (g.pre e1) ps) (fun i σ' H' _ p => ex_t (hE ds Hn i σ' H' p) hx) (fun i x σ' H' H'' hi p y => ?_) (fun σ' H' p => hd ds Hn σ' H' ps g.dx hbn p H' (Ex.refl _))⟩
      obtain ⟨rfl, hx⟩ := y
      obtain ⟨d, q1, q2⟩ := dpa_get2 hall hx
      exact hs ds Hn i σ' _ x d ps g.dx hbn q1 q2 p _ (Ex.refl _)
theorem dpa_rep {vs : List V} (h : DpAll K H vs ds) : ∀ k : Nat, DpAll K H (List.replicate k vs).flatten (List.replicate k ds).flatten
  | 0 => .nil
  | k + 1 => by
    rw [List.replicate_succ, List.replicate_succ, List.flatten_cons, List.flatten_cons]
    exact dpa_app h (dpa_rep h k)
theorem en_rep {k : Int} (h : EvN K ta σ Hd ds) (hk : Ev tb σ Hd (.int k)) (h0 : -1000 ≤ k ∧ k ≤ 1000) (hl : ds.length * k.toNat ≤ 100000) : EvN K (tOp rRep ta tb) σ Hd (List.replicate k.toNat ds).flatten := fun H s Q q =>
  h H s _ fun p xs H2 Hn g hp hn h2 hd => hk.mono g.dx H2 g.sub _ fun H3 e3 => ⟨p, k, xs, rfl, rfl, e3 _ _ h2, by omega, by omega, by rw [dpa_len hd]; exact sz_of hl, fun r hr => q r _ _ Hn ((g.post e3).trans (Gr.alloc (g.sub.trans e3) hr)) (fresh_back (g.ex.trans e3) hr) (fresh_back (g.sub.trans e3) hr) upd_same (dpa_rep hd _)⟩
end
end Cot
namespace Cot
open PySem L2 Evl
section
variable {K : PySem.W.Frag} {x qual : Str} {params : Arguments} {body : List Stmt} {scope : Scope} {dvs : List V} {kws : List (Str × V)} {f : Addr} {fd : FuncData} {ps : List Str}
theorem bindsAll (F : FunD K x qual params body scope dvs kws f fd) (n : Nat) (hd : dvs ≠ []) (hn : n = ps.length)
    (h : ∀ (T : Addr) (kV doc pm : Value) (an : Option Addr) (cdv ct : Value) (us its : List Value), us.length = n → its.length = dvs.length →
      ∃ k, bindArgs (PySem.W.fnOf x qual params body scope (.ref T) kV doc pm an cdv ct) ⟨us, []⟩ = seqItems? (.ref T) >>= k ∧ k (some its.toArray) = pure (ps.zip us)) : Binds K fd ps [] := by
  obtain ⟨ds, v, b⟩ := F.binds1 (ps := ps) n dvs.length hd (by omega) (fun T kV doc pm an cdv ct us its hu hi => by
    obtain ⟨k, h1, h2⟩ := h T kV doc pm an cdv ct us its hu hi
    refine ⟨k, h1, ?_⟩
    rw [List.drop_of_length_le (by omega), List.append_nil]
    exact h2)
  rw [List.drop_of_length_le (Nat.le_refl _)] at v
  cases v
  exact b
theorem bindsKw (F : FunD K x qual params body scope dvs kws f fd) {n : Nat} {ks : List Str} (hd : dvs ≠ [])
    (h : ∀ (T : Addr) (kV doc pm : Value) (an : Option Addr) (cdv ct : Value) (us ws its : List Value), us.length = n → ws.length = ks.length → its.length = dvs.length →
      ∃ k, bindArgs (PySem.W.fnOf x qual params body scope (.ref T) kV doc pm an cdv ct) ⟨us, ks.zip ws⟩ = seqItems? (.ref T) >>= k ∧ k (some its.toArray) = pure (ps.zip (us ++ ws))) :
    KBn K fd ps n ks (fun us ws => us ++ ws) (fun us ws => us ++ ws) := by
  obtain ⟨oc, od, dV, kV, doc, pm, an, cdv, ct, osl, rfl, lk, hcd, hD, hK⟩ := F.ex
  rcases hD with ⟨e, _⟩ | ⟨_, T, o, its, m, rfl, lT, oT, rT⟩
  · exact absurd e hd
  · refine ⟨fun s us ws X h1 h2 => ?_, fun r1 r2 => r1.append r2⟩
    obtain ⟨k, e1, e2⟩ := h T kV doc pm an cdv ct us ws its h1 h2 rT.length.symm
    refine BindsTo.of_looks fun M => ?_
    rw [e1]
    exact looks_items X lT oT (.of_pure e2)
end
end Cot

set_option Elab.async false
set_option linter.all false
set_option maxRecDepth 100000
set_option maxHeartbeats 4000000
/-! Lists that stand in the heap, loops that draw, equality of data. -/
namespace Cot
open PySem L2 Evl
def okE : Nat → PyData → Prop
  | _, .none => True
  | _, .bool _ => True
  | _, .int _ => True
  | _, .str x => PyData.strOk x = true
  | _, .dict _ => False
  | 0, .list ds => ds = []
  | 0, .tuple ds => ds = []
  | n + 1, .list ds => ∀ e ∈ ds, okE n e
  | n + 1, .tuple ds => ∀ e ∈ ds, okE n e
theorem canAll : ∀ {ds : List PyData}, (∀ e ∈ ds, e.canLay0 = true) → PyData.canLayAll0 ds = true
  | [], _ => by unfold PyData.canLayAll0; rfl
  | d :: ds, h => by
    unfold PyData.canLayAll0
    rw [h d List.mem_cons_self, canAll fun e he => h e (List.mem_cons_of_mem _ he)]
    rfl
theorem depAll {n : Nat} : ∀ {ds : List PyData}, (∀ e ∈ ds, e.depth ≤ n) → PyData.depthAll ds ≤ n
  | [], _ => by unfold PyData.depthAll; omega
  | d :: ds, h => by
    unfold PyData.depthAll
    have h1 := h d List.mem_cons_self
    have h2 := depAll fun e he => h e (List.mem_cons_of_mem _ he)
    omega
theorem okE_lay : ∀ (n : Nat) (d : PyData), okE n d → d.canLay0 = true ∧ d.depth ≤ n + 1
  | n, .none, _ => ⟨by unfold PyData.canLay0; rfl, by unfold PyData.depth; omega⟩
  | n, .bool _, _ => ⟨by unfold PyData.canLay0; rfl, by unfold PyData.depth; omega⟩
  | n, .int _, _ => ⟨by unfold PyData.canLay0; rfl, by unfold PyData.depth; omega⟩
  | n, .str x, h => ⟨by unfold PyData.canLay0; cases n <;> exact h, by unfold PyData.depth; omega⟩
  | n, .dict _, h => by cases n <;> exact h.elim
  | 0, .list ds, h => by
    have e : ds = [] := h
    subst e
    exact ⟨by unfold PyData.canLay0; exact canAll (fun _ h => by cases h), by unfold PyData.depth PyData.depthAll; omega⟩
  | 0, .tuple ds, h => by
    have e : ds = [] := h
    subst e
    exact ⟨by unfold PyData.canLay0; exact canAll (fun _ h => by cases h), by unfold PyData.depth PyData.depthAll; omega⟩
  | n + 1, .list ds, h => ⟨by unfold PyData.canLay0; exact canAll fun e he => (okE_lay n e (h e he)).1, by
      unfold PyData.depth
      have := depAll (n := n + 1) (ds := ds) fun e he => (okE_lay n e (h e he)).2
      omega⟩
  | n + 1, .tuple ds, h => ⟨by unfold PyData.canLay0; exact canAll fun e he => (okE_lay n e (h e he)).1, by
      unfold PyData.depth
      have := depAll (n := n + 1) (ds := ds) fun e he => (okE_lay n e (h e he)).2
      omega⟩
theorem okE_shaped {n : Nat} {d : PyData} (h : okE n d) (hn : n ≤ 63) : SeqAt.shaped d = true := by
  have h1 := okE_lay n d h
  unfold SeqAt.shaped
  rw [h1.1, decide_eq_true (by omega)]
  rfl
theorem okE_ints (n : Nat) (ns : List Int) : okE (n + 1) (.list (ns.map .int)) := fun e he => by
  obtain ⟨i, _, rfl⟩ := List.mem_map.mp he
  cases n <;> trivial
theorem okE_nil : okE 0 (.list []) := rfl
theorem eqv_ints (xs ys : List Int) : PyData.eqv (.list (xs.map .int)) (.list (ys.map .int)) = decide (xs = ys) := by
  unfold PyData.eqv
  induction xs generalizing ys with
  | nil => cases ys <;> simp [PyData.eqvAll]
  | cons x xs ih =>
    cases ys with
    | nil => simp [PyData.eqvAll]
    | cons y ys =>
      simp only [List.map_cons, PyData.eqvAll]
      rw [ih ys]
      simp only [PyData.eqv, List.cons.injEq, Bool.decide_and]
      rfl
section
variable {K : PySem.W.Frag} {X : Cx} {b : Bid} {l : Addr} {H H' Hd Hd' Hn H1 H2 Hm : Hp} {σ : L2.St} {ta tb te : TE} {tl th : TO} {tr : TA} {n i j : Nat} {p : Int → Prop} {P : PyData → Prop} {D : Ends} {tu tz : TS} {ds es : List PyData} {xs : List V} {lo hi : Option Int}
/-- a list that stands in the heap -/
def EvM (K : PySem.W.Frag) (te : TE) (σ : L2.St) (Hd : Hp) (ds : List PyData) : Prop := ∀ H, Ex Hd H → ∀ Q : VK, (∀ p xs H2 Hn, Gr Hd H Hn H2 → H2 p = some (.lst xs) → DpAll K Hn xs ds → Q (.ref p) H2) → te σ H Q
theorem EvM.mono (e : Ex Hd Hd') (h : EvM K te σ Hd ds) : EvM K te σ Hd' ds := fun H s Q q => h H (e.trans s) Q fun p xs H2 Hn g h2 hd => q p xs H2 _ (g.up e s) h2 (dpa_mono (g.upr e s) ds hd)
theorem em_new (h : EvN K te σ Hd ds) : EvM K te σ Hd ds := fun H s Q q => h H s Q fun p xs H2 Hn g _ _ h2 hd => q p xs H2 Hn g h2 hd
theorem em_ref (h : Ev te σ Hd (.ref l)) (hl : Hd l = some (.lst xs)) (hd : DpAll K Hd xs ds) : EvM K te σ Hd ds := fun H s Q q => h H s Q fun H2 e => q l xs H2 Hd (Gr.ext s e) (e _ _ (s _ _ hl)) hd
theorem en_cat (ha : EvM K ta σ Hd ds) (hb : EvM K tb σ Hd es) (hl : ds.length + es.length ≤ 100000) : EvN K (tOp rCat ta tb) σ Hd (ds ++ es) := fun H s Q q =>
  ha H s _ fun p xs H2 Hn g h2 hd => hb.mono g.dx H2 g.sub _ fun p' ys H3 Hm g3 h3 hd3 => ⟨p, p', xs, ys, rfl, rfl, g3.ex _ _ h2, h3, sz_of (by rw [dpa_len hd, dpa_len hd3]; exact hl), fun r hr =>
    q r _ _ Hm ((g.trans g3).trans (Gr.alloc g3.sub hr)) (fresh_back (g.ex.trans g3.ex) hr) (fresh_back g3.sub hr) upd_same (dpa_app (dpa_mono g3.dx _ hd) hd3)⟩
theorem en_slice (h : EvD K te σ Hd (.list ds)) (h1 : EvO tl σ Hd lo) (h2 : EvO th σ Hd hi) : EvN K (tSl (rSlL K) te tl th) σ Hd ((ds.drop (HT.sIx ds.length 0 lo)).take (HT.sIx ds.length ds.length hi - HT.sIx ds.length 0 lo)) := fun H s Q q =>
  h H s _ fun v H2 Hn g hd => by
    cases hd with
    | @lst a xs ds hs hall =>
      have e0 : ∀ {H3}, Ex H2 H3 → Ex Hd H3 := fun e => (g.dx.trans g.sub).trans e
      refine h1 H2 (g.dx.trans g.sub) _ fun H3 e3 => h2 H3 (e0 e3) _ fun H4 e4 => ⟨a, xs, rfl, ex_l ((g.sub.trans e3).trans e4) hs, fun r hr => ?_⟩
      refine q r _ _ Hn ((g.post (e3.trans e4)).trans (Gr.alloc (g.sub.trans (e3.trans e4)) hr)) (fresh_back (g.ex.trans (e3.trans e4)) hr) (fresh_back (g.sub.trans (e3.trans e4)) hr) upd_same ?_
      unfold cutV
      rw [dpa_len hall]
      exact dpa_take _ (dpa_drop _ hall)
theorem dpa_rev : ∀ {ds : List PyData} {vs : List V}, DpAll K H vs ds → DpAll K H vs.reverse ds.reverse
  | [], _, h => by cases h; exact .nil
  | d :: ds, _, h => by
    cases h with
    | cons a b =>
      rw [List.reverse_cons, List.reverse_cons]
      exact dpa_app (dpa_rev b) (.cons a .nil)
theorem en_rev (h : EvD K te σ Hd (.list ds)) : EvN K (tRevL K te) σ Hd ds.reverse := fun H s Q q =>
  h H s _ fun v H2 Hn g hd => by
    cases hd with
    | @lst a xs ds hs hall => exact ⟨a, xs, rfl, ex_l g.sub hs, fun r hr => q r _ _ Hn (g.trans (Gr.alloc g.sub hr)) (fresh_back g.ex hr) (fresh_back g.sub hr) upd_same (dpa_rev hall)⟩
theorem en_list (h : EvD K te σ Hd (.list ds)) : EvN K (tCB (rListS K) (tCons te tNil)) σ Hd ds := fun H s Q q =>
  h H s _ fun v H2 Hn g hd => by
    cases hd with
    | @lst a xs ds hs hall => exact ⟨a, xs, rfl, Or.inl (ex_l g.sub hs), fun r hr => q r _ _ Hn (g.trans (Gr.alloc g.sub hr)) (fresh_back g.ex hr) (fresh_back g.sub hr) upd_same hall⟩
theorem go_forRB (hb : Hd b.b = none) (s : Ex Hd H) (B : Bx H b) (h : EvBA K b tr σ Hd (fun ds => ∃ m, ds = [.int m] ∧ p m)) (hp : ∀ m, p m → -100000 ≤ m ∧ m ≤ 100000) (Pv : Int → Hp → Nat → L2.St → Hp → Prop)
    (h0 : ∀ H' Hn m, GrB b Hd H Hn H' → p m → Pv m Hn 0 σ H')
    (hs : ∀ m Hn i σ' H', p m → Ex Hd Hn → Hn b.b = none → i < m.toNat → Pv m Hn i σ' H' → Go tu { D with nx := Pv m Hn (i + 1), ct := Pv m Hn (i + 1), bk := tz D } (σ'.set j (some (.int (i : Int)))) H')
    (hd : ∀ m Hn σ' H', p m → Ex Hd Hn → Hn b.b = none → Pv m Hn m.toNat σ' H' → Go tz D σ' H') : Go (tSeq (tFor (iRng1 tr) (gName j) tu) tz) D σ H := fun H1 e1 =>
  h hb H1 (s.trans e1) (B.mono e1) _ fun vs H2 Hn ds g hdp hq => by
    obtain ⟨m, rfl, pm⟩ := hq
    have hbn := g.bn hb (B.mono e1)
    have hpm := hp m pm
    cases hdp with
    | cons h1 h2 =>
      cases h2
      cases h1
      refine ⟨m, rfl, by omega, by omega, for_it (walk_range (lo := 0) (n := m.toNat)) (Pv m Hn) (h0 H2 Hn m (g.pre e1) pm) (fun _ _ _ _ _ => trivial) (fun i x σ' H' H'' hi q y => ?_) (fun σ' H' q => hd m Hn σ' H' pm g.dx hbn q H' (Ex.refl _))⟩
      obtain ⟨rfl, rfl⟩ := y
      have e0 : (0 : Int) + (i : Int) = (i : Int) := Int.zero_add _
      show tu _ (σ'.set j (some (.int ((0 : Int) + (i : Int))))) _
      rw [e0]
      exact hs m Hn i σ' _ pm g.dx hbn hi q _ (Ex.refl _)
theorem go_appB (hb : Hd b.b = none) (s : Ex Hd H) (B : Bx H b) (hl : H l = some (.lst xs)) (nl : l ≠ b.b) (ha : Ev ta σ H (.ref l)) (h : EvB K b te σ Hd P) (hz : xs.length < 100000)
    (k : ∀ v H' Hn d, GrB b Hd H Hn H' → Dp K Hn v d → P d → Go tz D σ (upd H' l (.lst (xs ++ [v])))) : Go (tSeq (tDrop (tBM K "list" rAppend ta (tCons te tNil))) tz) D σ H := fun H1 e1 =>
  ha H1 e1 _ fun H2 e2 => ⟨Or.inl ⟨rfl, xs, sq_of ((e1.trans e2) _ _ hl)⟩, h hb H2 ((s.trans e1).trans e2) ((B.mono e1).mono e2) _ fun v H3 Hn d g hd hp => ⟨l, xs, v, rfl, rfl, g.exb _ _ nl ((e1.trans e2) _ _ hl), sz_lt hz, k v H3 Hn d (g.pre (e1.trans e2)) hd hp _ (Ex.refl _)⟩⟩
end
end Cot
namespace Cot
open PySem L2 Evl
section
variable {K : PySem.W.Frag} {b : Bid} {H H' Hd Hd' Hn H1 H2 Hm : Hp} {σ : L2.St} {ta tb te : TE} {tl th : TO} {tr : TA} {Ps Ps' : List PyData → Prop} {ds : List PyData}
theorem EvBA.imp (h : EvBA K b tr σ Hd Ps) (k : ∀ d, Ps d → Ps' d) : EvBA K b tr σ Hd Ps' := fun hb H s B Q q => h hb H s B Q fun v H2 Hn d g hd hp => q v H2 Hn d g hd (k d hp)
theorem eba_one {p : Int → Prop} (h : EvB K b ta σ Hd (isI p)) : EvBA K b (tCons ta tNil) σ Hd (fun ds => ∃ m, ds = [.int m] ∧ p m) := (eba_cons h eba_nil).imp fun ds ⟨d, es, e1, ⟨m, e2, pm⟩, e3⟩ => ⟨m, by rw [e1, e2, e3], pm⟩
theorem en_from {j : Nat} (h : EvD K te σ Hd (.list ds)) (h1 : Ev ta σ Hd (.int (j : Int))) : EvN K (tSl (rSlL K) te (tPart ta) tNoPart) σ Hd (ds.drop j) := by
  have h2 := en_slice h (eo_some h1) (eo_none (σ := σ) (H := Hd))
  rw [HT.sIx_none, HT.sIx_nat] at h2
  by_cases hj : j ≤ ds.length
  · rw [Nat.min_eq_left hj, List.take_of_length_le (by rw [List.length_drop]; omega)] at h2
    exact h2
  · rw [Nat.min_eq_right (by omega), Nat.sub_self, List.take_zero] at h2
    rw [List.drop_of_length_le (by omega)]
    exact h2
theorem en_upto {j : Nat} (h : EvD K te σ Hd (.list ds)) (h1 : Ev ta σ Hd (.int (j : Int))) : EvN K (tSl (rSlL K) te tNoPart (tPart ta)) σ Hd (ds.take j) := by
  have h2 := en_slice h (eo_none (σ := σ) (H := Hd)) (eo_some h1)
  rw [HT.sIx_none, HT.sIx_nat, List.drop_zero, Nat.sub_zero] at h2
  by_cases hj : j ≤ ds.length
  · rw [Nat.min_eq_left hj] at h2
    exact h2
  · rw [Nat.min_eq_right (by omega), List.take_length] at h2
    rw [List.take_of_length_le (by omega)]
    exact h2
end
end Cot

set_option Elab.async false
set_option linter.all false
set_option maxRecDepth 100000
set_option maxHeartbeats 4000000
/-! Tuples of any kind, ranges asked, tests and comprehensions that draw. -/
namespace Cot
open PySem L2 Evl PyProof.Rows
section
variable {X : Cx}
def rTupS (K : PySem.W.Frag) : List V → Hp → VK → Prop := fun xs H Q => ∃ p ys, xs = [.ref p] ∧ ((SqL K H p ys ∧ ∀ l, H l = none → Q (.ref l) (upd H l (.tup ys))) ∨ (SqT K H p ys ∧ Q (.ref p) H))
theorem call_tupleQ : CallR X (.type "tuple") (rTupS X.K) := call_tuple_of
def rRg2 : List V → Hp → VK → Prop := fun vs H Q => ∃ i j, vs = [V.int i, V.int j] ∧ ∀ p, H p = none → Q (.ref p) (upd H p (.rng i j))
theorem call_rangeQ : CallR X (.type "range") rRg2 := cr_range2
def rInR (neg : Bool) : R2 := fun x y H Q => ∃ i a lo hi, x = V.int i ∧ y = V.ref a ∧ H a = some (.rng lo hi) ∧ Q (.bl (if neg then !decide (lo ≤ i ∧ i < hi) else decide (lo ≤ i ∧ i < hi))) H
theorem op_inR : OpR X (compareOp .In) (rInR false) := op_in_rng
theorem op_notInR : OpR X (compareOp .NotIn) (rInR true) := by
  intro ps s0 σ0 H0 x y vx vy Q I rx ry hq
  obtain ⟨i, a, lo, hi, rfl, rfl, ha, q⟩ := hq
  obtain ⟨k, rfl⟩ := rx
  cases ry
  obtain ⟨ta, tb, tc, ho⟩ := I.hok a _ ha
  show wpAny _ _ (do return Value.bool (!(← contains (.ref a) (.int i k)))) _ _ s0
  refine wpAny_bind ?_
  refine wpAny_contains_slot (T := "range") ?t1 F.slot_range_contains ?t2
  case t1 => exact ⟨_, ho, rfl⟩
  case t2 =>
  refine call_meets F.slot_range_contains ?t3 F.entry_range_contains (F.args_range_contains_2 _ _) (q_contains a lo hi i ta tb tc k) ?t4
  case t3 => exact ⟨_, ho, rfl⟩
  case t4 =>
  refine ⟨ho, wpAny_truthy_bool (wpAny_pure ?_)⟩
  refine ⟨.bl _, H0, I, rfl, ?_⟩
  rw [place1]
  exact q
end
section
variable {K : PySem.W.Frag} {b : Bid} {l : Addr} {H H' Hd Hd' Hn H1 H2 Hm : Hp} {σ : L2.St} {ta tb te : TE} {t u : TT} {tl th : TO} {tr : TA} {n i j j2 : Nat} {p : Int → Prop} {P : PyData → Prop} {D : Ends} {tu tw tz : TS} {d d1 d2 : PyData} {ds es : List PyData} {xs : List V} {lo hi : Option Int} {wi : TI} {g : TG} {x : V}
theorem ed_tupleL (h : EvD K te σ Hd (.list ds)) : EvD K (tCB (rTupS K) (tCons te tNil)) σ Hd (.tuple ds) := fun H s Q q =>
  h H s _ fun v H2 Hn g hd => by
    cases hd with
    | @lst a xs ds hs hall => exact ⟨a, xs, rfl, Or.inl ⟨ex_l g.sub hs, fun r hr => q (.ref r) _ _ (g.trans (Gr.new g.sub hr)) (.tup (st_of upd_same) (dpa_mono (Ex.new (fresh_back g.sub hr)) _ hall))⟩⟩
theorem ed_catT (ha : EvD K ta σ Hd (.tuple ds)) (hb : EvD K tb σ Hd (.tuple es)) (hl : ds.length + es.length ≤ 100000) : EvD K (tOp (rCatA K) ta tb) σ Hd (.tuple (ds ++ es)) := fun H s Q q =>
  ha H s _ fun v H2 Hn g hd => hb.mono g.dx H2 g.sub _ fun v2 H3 Hm g3 hd3 => by
    have hd' := dp_mono g3.dx _ hd
    cases hd' with
    | @tup a xs ds hs hall =>
      have h3 := hd3
      cases hd3 with
      | @tup a2 ys es hs2 hall2 =>
        refine ⟨a, a2, xs, ys, rfl, rfl, ex_t g3.sub hs, ex_t g3.sub hs2, sz_of (by rw [dpa_len hall, dpa_len hall2]; exact hl), fun e => ?_, fun e e2 => ?_, fun e e2 r hr => ?_⟩
        · subst e
          cases hall
          exact q _ H3 Hm (g.trans g3) h3
        · subst e2
          cases hall2
          rw [List.append_nil] at q
          exact q _ H3 Hm (g.trans g3) (.tup hs hall)
        · exact q (.ref r) _ _ ((g.trans g3).trans (Gr.new g3.sub hr)) (.tup (st_of upd_same) (dpa_mono (Ex.new (fresh_back g3.sub hr)) _ (dpa_app hall hall2)))
def cutD (ds : List PyData) (lo hi : Option Int) : List PyData := (ds.drop (HT.sIx ds.length 0 lo)).take (HT.sIx ds.length ds.length hi - HT.sIx ds.length 0 lo)
theorem cutD_mem {e : PyData} (h : e ∈ cutD ds lo hi) : e ∈ ds := List.mem_of_mem_drop (List.mem_of_mem_take h)
theorem cutD_len : (cutD ds lo hi).length ≤ ds.length := by
  unfold cutD
  rw [List.length_take, List.length_drop]
  omega
theorem dpa_cut {vs : List V} (h : DpAll K H vs ds) : DpAll K H (cutV vs lo hi) (cutD ds lo hi) := by
  unfold cutV cutD
  rw [dpa_len h]
  exact dpa_take _ (dpa_drop _ h)
theorem cut_done {a : Addr} {Q : VK} {H4 : Hp} (hs : SqT K Hn a xs) (hall : DpAll K Hn xs ds) (s : Ex Hn H4) (q : ∀ v H5 Hm, Gr Hn H4 Hm H5 → Dp K Hm v (.tuple (cutD ds lo hi)) → Q v H5) : rSlA K (.ref a) lo hi H4 Q := by
  refine ⟨a, xs, rfl, ex_t s hs, fun hw => ?_, fun _ r hr => ?_⟩
  · have e : cutD ds lo hi = ds := by
      unfold cutD
      rw [dpa_len hall] at hw
      rw [hw.1, hw.2, List.drop_zero, Nat.sub_zero, List.take_length]
    refine q _ H4 Hn (Gr.refl s) ?_
    rw [e]
    exact .tup hs hall
  · exact q (.ref r) _ _ (Gr.new s hr) (.tup (st_of upd_same) (dpa_mono (Ex.new (fresh_back s hr)) _ (dpa_cut hall)))
theorem ed_slT (h : EvD K te σ Hd (.tuple ds)) (h1 : EvO tl σ Hd lo) (h2 : EvO th σ Hd hi) : EvD K (tSl (rSlA K) te tl th) σ Hd (.tuple (cutD ds lo hi)) := fun H s Q q =>
  h H s _ fun v H2 Hn g hd => by
    cases hd with
    | @tup a xs ds hs hall =>
      have e0 : ∀ {H3}, Ex H2 H3 → Ex Hd H3 := fun e => (g.dx.trans g.sub).trans e
      refine h1 H2 (g.dx.trans g.sub) _ fun H3 e3 => h2 H3 (e0 e3) _ fun H4 e4 => cut_done hs hall ((g.sub.trans e3).trans e4) fun v H5 Hm g5 hv => q v H5 Hm ((g.post (e3.trans e4)).trans g5) hv
/-- t[:e], e drawn -/
theorem eb_slT (h : EvD K te σ Hd (.tuple ds)) (h2 : EvB K b tb σ Hd (isI p)) : EvB K b (tSl (rSlA K) te tNoPart (tPart tb)) σ Hd (fun d => ∃ i, p i ∧ d = .tuple (cutD ds none (some i))) := fun hb H s B Q q =>
  h H s _ fun v H2 Hn g hd => by
    cases hd with
    | @tup a xs ds hs hall =>
      have gb := GrB.of g B
      refine h2.mono g.dx (gb.bn hb B) H2 g.sub gb.bx _ fun v3 H3 Hm d3 g3 hd3 hp3 => ?_
      obtain ⟨i, rfl, pi⟩ := hp3
      cases hd3
      refine ⟨i, rfl, cut_done (ex_t g3.dx hs) (dpa_mono g3.dx _ hall) g3.sub fun v H5 Hk g5 hv => q v H5 Hk _ ?_ hv ⟨i, pi, rfl⟩⟩
      exact (gb.trans g3 hb B).trans (GrB.of g5 g3.bx) hb B
theorem ed_repT {k : Int} (ha : EvD K ta σ Hd (.tuple ds)) (hk : Ev tb σ Hd (.int k)) (hne : ds ≠ []) (h0 : 2 ≤ k ∧ k ≤ 1000) (hl : ds.length ≤ 1000) : EvD K (tOp (rRepT K) ta tb) σ Hd (.tuple (List.replicate k.toNat ds).flatten) := fun H s Q q =>
  ha H s _ fun v H2 Hn g hd => hk.mono g.dx H2 g.sub _ fun H3 e3 => by
    cases hd with
    | @tup a xs ds hs hall =>
      refine ⟨a, k, xs, rfl, rfl, ex_t (g.sub.trans e3) hs, fun e => ?_, h0.1, h0.2, by rw [dpa_len hall]; exact hl, fun r hr => q (.ref r) _ _ ((g.post e3).trans (Gr.new (g.sub.trans e3) hr)) (.tup (st_of upd_same) (dpa_mono (Ex.new (fresh_back (g.sub.trans e3) hr)) _ (dpa_rep hall _)))⟩
      subst e
      cases hall
      exact hne rfl
theorem ev_inR {neg : Bool} {i lo hi : Int} (ha : Ev ta σ H (.int i)) (h1 : EvA tr σ H [.int lo, .int hi]) : Ev (tOp (rInR neg) ta (tCB rRg2 tr)) σ H (.bl (if neg then !decide (lo ≤ i ∧ i < hi) else decide (lo ≤ i ∧ i < hi))) := fun H1 e1 Q q =>
  ha H1 e1 _ fun H2 e2 => h1 H2 (e1.trans e2) _ fun H3 e3 => ⟨lo, hi, rfl, fun p hp => ⟨i, p, lo, hi, rfl, rfl, upd_same, q _ ((e2.trans e3).trans (Ex.new hp))⟩⟩
/-- a, b = e -/
theorem go_two (s : Ex Hd H) (h : EvD K te σ Hd (.tuple [d1, d2])) (k : ∀ v1 v2 H' Hn, Gr Hd H Hn H' → Dp K Hn v1 d1 → Dp K Hn v2 d2 → Go tz D ((σ.set i (some v1)).set j (some v2)) H') : Go (tSeq (tAsg te (gTup K 2 (gCons (gName i) (gCons (gName j) gNil)))) tz) D σ H := fun H1 e1 =>
  h H1 (s.trans e1) _ fun v H2 Hn g hd => by
    cases hd with
    | @tup a xs ds hs hall =>
      cases hall with
      | cons h1 h2 =>
        cases h2 with
        | cons h2 h3 =>
          cases h3
          exact ⟨a, _, rfl, ex_t g.sub hs, rfl, _, _, rfl, _, _, rfl, rfl, k _ _ H2 Hn (g.pre e1) h1 h2 H2 (Ex.refl _)⟩
theorem go_appD (s : Ex Hd H) (hl : H l = some (.lst xs)) (ha : Ev ta σ H (.ref l)) (h : EvD K te σ Hd d) (hz : xs.length < 100000) (k : ∀ v H' Hn, Gr Hd H Hn H' → Dp K Hn v d → Go tz D σ (upd H' l (.lst (xs ++ [v])))) :
    Go (tSeq (tDrop (tBM K "list" rAppend ta (tCons te tNil))) tz) D σ H := fun H1 e1 =>
  ha H1 e1 _ fun H2 e2 => ⟨Or.inl ⟨rfl, xs, sq_of ((e1.trans e2) _ _ hl)⟩, h H2 ((s.trans e1).trans e2) _ fun v H3 Hn g hd => ⟨l, xs, v, rfl, rfl, g.ex _ _ ((e1.trans e2) _ _ hl), sz_lt hz, k v H3 Hn (g.pre (e1.trans e2)) hd _ (Ex.refl _)⟩⟩
theorem ex_add {o : HO} (s : Ex Hd H) (h : H l = some o) : Ex (upd Hd l o) H := fun a u ha => by
  by_cases e : a = l
  · subst e
    rw [upd_same] at ha
    exact h.trans ha
  · rw [upd_ne e] at ha
    exact s a u ha
/-- a test that draws -/
def EvBT (K : PySem.W.Frag) (b : Bid) (t : TT) (σ : L2.St) (Hd : Hp) : Prop := Hd b.b = none → ∀ H, Ex Hd H → Bx H b → ∀ Q : Bool → Hp → Prop, (∀ c H2 Hn, GrB b Hd H Hn H2 → Q c H2) → t σ H Q
theorem ebt_of {c : Bool} (h : EvT t σ Hd c) : EvBT K b t σ Hd := fun hb H s B Q q => h H s _ fun H2 e => q c H2 Hd (GrB.of (Gr.ext s e) B)
theorem EvBT.mono (e : Ex Hd Hd') (h : EvBT K b t σ Hd) : EvBT K b t σ Hd' := fun hb H s B Q q => h (fresh_back e hb) H (e.trans s) B Q fun c H2 Hn g => q c H2 _ (g.up e s hb).1
theorem ebt_and (h : EvBT K b t σ Hd) (h2 : EvBT K b u σ Hd) : EvBT K b (tAnd t u) σ Hd := fun hb H s B Q q => h hb H s B _ fun c H2 Hn g => by
  cases c with
  | true =>
    show u σ H2 Q
    exact h2.mono g.dx (g.bn hb B) H2 g.sub g.bx Q fun c H3 Hm g3 => q c H3 Hm (g.trans g3 hb B)
  | false => exact q false H2 Hn g
theorem ebt_I0 {gg : Int → Int → V} {f : Int → Int → Bool} {p p' : Int → Prop} (hg : ∀ i j, gg i j = .bl (f i j)) (ha : EvB K b ta σ Hd (isI p)) (hb' : EvB K b tb σ Hd (isI p')) : EvBT K b (tTest (tOp (rI0 gg) ta tb)) σ Hd := fun hb H s B Q q =>
  ha hb H s B _ fun v H1 Hn d g hd hp => hb'.mono g.dx (g.bn hb B) H1 g.sub g.bx _ fun v2 H2 Hm d2 g2 hd2 hp2 => by
    obtain ⟨i, rfl, pi⟩ := hp
    obtain ⟨j, rfl, pj⟩ := hp2
    cases hd
    cases hd2
    exact ⟨i, j, rfl, rfl, f i j, hg i j, q _ H2 Hm (g.trans g2 hb B)⟩
theorem go_whenB (hb : Hd b.b = none) (s : Ex Hd H) (B : Bx H b) (h : EvBT K b t σ Hd) (h1 : ∀ H' Hn, GrB b Hd H Hn H' → Go tu { D with nx := tz D } σ H') (h2 : ∀ H' Hn, GrB b Hd H Hn H' → Go tz D σ H') : Go (tSeq (tIfS t tu tNext) tz) D σ H := fun H1 e1 =>
  h hb H1 (s.trans e1) (B.mono e1) _ fun c H2 Hn g => by
    cases c with
    | true => exact h1 H2 Hn (g.pre e1) H2 (Ex.refl _)
    | false => exact h2 H2 Hn (g.pre e1) H2 (Ex.refl _)
/-- a comprehension whose items draw -/
theorem eb_lc {S : Nat → L2.St → L2.St → Hp → Prop} {vs : List Nat} {PP : PyData → Prop} (h : EvI K wi g σ Hd n S) (hn : n ≤ 40000)
    (ht : ∀ (i : Nat) (σ2 : L2.St) (Hn : Hp), i < n → Ex Hd Hn → S i (wipe σ vs) σ2 Hn → wipe σ2 vs = wipe σ vs ∧ EvB K b te σ2 Hn PP) : EvB K b (tLc wi g tYes te vs) σ Hd (fun d => ∃ ds, d = .list ds ∧ ds.length = n ∧ ∀ e ∈ ds, PP e) := fun hb H s B Q q =>
  h H s _ fun J H1 Hn G Y gr w hG hY Dl hD => by
    have gb := GrB.of gr B
    have hbn := gb.bn hb B
    obtain ⟨nb, nca⟩ := gb.bx.apart hD
    refine lc_it w (fun i H' => i ≤ n ∧ ∃ Hm acc ds, GrB b Hn H1 Hm H' ∧ Hm Dl = none ∧ H' Dl = some (.lst acc) ∧ DpAll K Hm acc ds ∧ ds.length = i ∧ ∀ e ∈ ds, PP e) ⟨Nat.zero_le _, Hn, [], [], GrB.of (Gr.alloc gr.sub hD) gb.bx, fresh_back gr.sub hD, upd_same, .nil, rfl, fun _ h => by cases h⟩ (fun i H' _ p => ?_) (fun i x H' H'' hi p y => ?_) (fun H' p => ?_)
    · obtain ⟨_, Hm, acc, ds, g1, _⟩ := p
      exact hG H' (g1.dx.trans g1.sub)
    · obtain ⟨_, Hm, acc, ds, g1, hm, h2, hac, hln, hpp⟩ := p
      refine hY i x H' H'' _ _ hi (g1.dx.trans g1.sub) y fun σ2 H3 e3 hS => ?_
      obtain ⟨hw, hE⟩ := ht i σ2 Hn hi gr.dx hS
      refine ⟨hw, ?_⟩
      have al : acc.length < sizeLine := sz_lt (by rw [dpa_len hac]; omega)
      have hbm := g1.bn hbn gb.bx
      refine (hE.mono g1.dx) hbm H3 (g1.sub.trans e3) (g1.bx.mono e3) _ fun y H5 Ho d5 g5 hy hp5 => ?_
      have h3 : H3 Dl = some (.lst acc) := e3 _ _ h2
      have ho : Ho Dl = none := g5.fr _ _ h3 hm
      refine ⟨acc, g5.exb _ _ nb h3, al, hi, Ho, acc ++ [y], ds ++ [d5], ⟨fun a o na ha => ?_, g1.dx.trans g5.dx, Ex.mut g5.sub ho, fun a o ha hd => ?_, g5.bx.keep nb nca⟩, ho, upd_same, dpa_app (dpa_mono g5.dx _ hac) (.cons hy .nil), by rw [List.length_append, hln]; rfl, fun e he => ?_⟩
      · rw [upd_ne (ne_of_none ha hD)]
        exact g5.exb a o na (e3 a o (g1.exb a o na ha))
      · by_cases e : a = b.b
        · rw [e]
          exact g5.bn hbm (g1.bx.mono e3)
        · exact g5.fr a o (e3 a o (g1.exb a o e ha)) (g1.fr a o ha hd)
      · rcases List.mem_append.mp he with he | he
        · exact hpp e he
        · rcases List.mem_cons.mp he with rfl | he
          · exact hp5
          · cases he
    · obtain ⟨_, Hm, acc, ds, g1, hm, h2, hac, hln, hpp⟩ := p
      refine q (.ref Dl) H' (upd Hm Dl (.lst acc)) (.list ds) ⟨fun a o na ha => g1.exb a o na (gr.ex a o ha), (gr.dx.trans g1.dx).trans (Ex.new hm), ex_add g1.sub h2, fun a o ha hd => ?_, g1.bx⟩ (.lst (sq_of upd_same) (dpa_mono (Ex.new hm) _ hac)) ⟨ds, rfl, hln, hpp⟩
      have ha1 := gr.ex a o ha
      rw [upd_ne (ne_of_none ha1 hD)]
      exact g1.fr a o ha1 (gr.fr a o ha hd)
theorem eb_tupleL {Ps : List PyData → Prop} (h : EvB K b te σ Hd (fun d => ∃ ds, d = .list ds ∧ Ps ds)) : EvB K b (tCB (rTupS K) (tCons te tNil)) σ Hd (fun d => ∃ ds, d = .tuple ds ∧ Ps ds) := fun hb H s B Q q =>
  h hb H s B _ fun v H2 Hn d g hd hp => by
    obtain ⟨ds, rfl, ps⟩ := hp
    cases hd with
    | @lst a xs ds hs hall => exact ⟨a, xs, rfl, Or.inl ⟨ex_l g.sub hs, fun r hr => q (.ref r) _ _ (.tuple ds) (g.trans (GrB.of (Gr.new g.sub hr) g.bx) hb B) (.tup (st_of upd_same) (dpa_mono (Ex.new (fresh_back g.sub hr)) _ hall)) ⟨ds, rfl, ps⟩⟩⟩
end
end Cot
namespace Cot
open PySem L2 Evl
section
variable {K : PySem.W.Frag} {b : Bid} {l : Addr} {o : HO} {H H' Hd Hg Hd' Hn H1 H2 Hm : Hp}
theorem GrB.fresh (G : GrB b Hd H Hg H') (h : H' l = none) : H l = none := by
  obtain ⟨ob, hob⟩ := G.bx.some
  have n : l ≠ b.b := (ne_of_none hob h).symm
  cases e : H l with
  | none => rfl
  | some u =>
    rw [G.exb l u n e] at h
    cases h
theorem GrB.mut (G : GrB b Hd H Hg H') (h0 : H l = none) (hg : Hg l = none) (n1 : l ≠ b.b) (n2 : l ≠ b.ca) : GrB b Hd H Hg (upd H' l o) :=
  ⟨fun a u na ha => by rw [upd_ne (ne_of_none ha h0)]; exact G.exb a u na ha, G.dx, Ex.mut G.sub hg, G.fr, G.bx.keep n1 n2⟩
theorem GrB.add (G : GrB b Hd H Hg H') (h0 : H l = none) (hg : Hg l = none) (hl : H' l = some o) : GrB b Hd H (upd Hg l o) H' :=
  ⟨G.exb, G.dx.trans (Ex.new hg), ex_add G.sub hl, fun a u ha hd => by rw [upd_ne (ne_of_none ha h0)]; exact G.fr a u ha hd, G.bx⟩
theorem GrB.low (e : Ex Hg Hd') (g : GrB b Hd' H Hn H2) : GrB b Hg H Hg H2 := ⟨g.exb, Ex.refl _, (e.trans g.dx).trans g.sub, fun _ _ _ h => h, g.bx⟩
theorem GrB.post (g : GrB b Hd H Hn H1) (e : Ex H1 H2) : GrB b Hd H Hn H2 := ⟨fun a o n h => e a o (g.exb a o n h), g.dx, g.sub.trans e, g.fr, g.bx.mono e⟩
end
end Cot

set_option Elab.async false
set_option linter.all false
set_option maxRecDepth 100000
set_option maxHeartbeats 4000000
/-! enumerate over a tuple; two clauses in a comprehension. -/
namespace Cot
open PySem PySem.Spec PyProof.Rows L2 Evl
abbrev tupItO (t : Addr) : Obj := { cls := .type "tuple_iterator", data := .fields #[.ref t, .int 0 0] }
abbrev enumO (k : Addr) : Obj := { cls := .type "enumerate", data := .fields #[.none, .bool false, .ref k, rawInt 0, .none, .none] }
set_option maxHeartbeats 1000000 in
theorem enumT_new (t : Addr) (items : Array Value) :
    Meets (Builtin.«enumerate.__new__» ⟨[.type "enumerate", .ref t], []⟩) (fun _ R s => s.heap.IsTuple t items ∧ R (.ok (.ret (.ref (s.heap.push (tupItO t)).objs.size))) { s with heap := (s.heap.push (tupItO t)).push (enumO s.heap.objs.size) }) :=
  .of_wp fun prog w A R s hh => by
    obtain ⟨hp, gs, dr, tk, os⟩ := s
    obtain ⟨hT, hh⟩ := hh
    have sb := sub_enumerate
    wp_walk
    refine wpAny_stack_any fun st => wpAny_pure ?_
    split
    · rename_i cc _ _ _ _ _
      cases (cc == Value.type "enumerate") <;> (wp_walk using wpAny_pyIter_tuple hT; exact ⟨_, rfl, hh⟩)
    · wp_walk using wpAny_pyIter_tuple hT
      exact ⟨_, rfl, hh⟩
section
variable {prog : Program} {w : World} {A : Around} {E : Value → Shared → Prop} {s : Shared}
theorem call_enumT {t : Addr} {items : Array Value} {Q : Value → Shared → Prop} (hT : s.heap.IsTuple t items)
    (hq : ∀ h', IsEnum h' (s.heap.objs.size + 1) s.heap.objs.size 0 .none → h'.IsTupleIter s.heap.objs.size t 0 → (∀ b o, s.heap.get? b = some o → h'.get? b = some o) → Q (.ref (s.heap.objs.size + 1)) { s with heap := h' }) :
    wpAny (model prog w) A (call (.type "enumerate") [.ref t]) Q E s := by
  refine callType_new F.called_enumerate (by decide) (F.typeCall_enumerate_1 _) (F.newCall_enumerate_1 _) (fun ob => F.args_object_init_2 ob _) F.entry_enumerate_new (enumT_new t items) ⟨hT, ?_⟩
  have hz : (s.heap.push (tupItO t)).objs.size = s.heap.objs.size + 1 := Heap.size_push ..
  have he : IsEnum ((s.heap.push (tupItO t)).push (enumO s.heap.objs.size)) (s.heap.objs.size + 1) s.heap.objs.size 0 .none := by
    have z := Heap.get?_push_size (s.heap.push (tupItO t)) (o := enumO s.heap.objs.size) rfl
    rw [hz] at z
    exact z
  show _ ∧ _
  rw [hz]
  exact ⟨⟨_, he, rfl⟩, hq _ he ⟨_, Heap.get?_push_of_some _ (Heap.get?_push_size _ rfl), rfl, rfl⟩ fun b o x => Heap.get?_push_of_some _ (Heap.get?_push_of_some _ x)⟩
end
/-- a tuple's items, each in a new pair with its place -/
def IteT (K : PySem.W.Frag) (a : Addr) : It :=
  ⟨fun i H => ∃ (xs : List V) (x : V), SqT K H a xs ∧ xs[i]? = some x, fun i H v H' => ∃ T x, v = .ref T ∧ H T = none ∧ H' = upd H T (.tup [.int (i : Nat), x]) ∧ ∀ xs, SqT K H a xs → xs[i]? = some x, fun i H => ∃ xs : List V, SqT K H a xs ∧ xs.length = i⟩
theorem turn_enumT {P : Program} {w : World} {K : PySem.W.Frag} {elts : List Expr} {kk : Nat} {tpos : Pos} (a e it : Addr) :
    Turn P w K (.Tuple elts kk tpos) (IteT K a) [e, it] e (fun i h => (∃ old, IsEnum h e it ((i : Nat) : Int) old) ∧ h.IsTupleIter it a i ∧ e ≠ it) where
  mem := by simp
  obj := fun i h st b hb => by
    obtain ⟨⟨old, he⟩, ⟨o, ho, hc, hd⟩, _⟩ := st
    rcases (show b = e ∨ b = it by simpa using hb) with z | z
    · rw [z]; exact ⟨_, he, fun v q => nomatch q⟩
    · rw [z]; exact ⟨o, ho, fun v q => by rw [hd] at q; cases q⟩
  keep := fun i h h' st k => by
    obtain ⟨⟨old, he⟩, ⟨o, ho, hc⟩, hne⟩ := st
    exact ⟨⟨old, k e (by simp) _ he⟩, ⟨o, k it (by simp) _ ho, hc⟩, hne⟩
  item := by
    intro X hP hw hK hc i pins s σ H E I hf st hg
    subst hP hw hK
    obtain ⟨⟨old, he⟩, hit, hne⟩ := st
    obtain ⟨xs, x, hq, hx⟩ := hg
    obtain ⟨its, rv, p, hz⟩ := I.tuple hq
    obtain ⟨u, hu, ru⟩ := rv.get hx
    have hel : e < s.heap.objs.size := Heap.lt_size he
    have hil : it < s.heap.objs.size := by
      obtain ⟨_, q, _⟩ := hit
      exact Heap.lt_size q
    have nai : a ≠ it := fun z => by
      subst z
      obtain ⟨o1, h1, c1, _⟩ := p
      obtain ⟨o2, h2, c2, _⟩ := hit
      rw [h1] at h2
      cases h2
      rw [c1] at c2
      exact absurd (Value.type.inj c2) (by decide)
    have nae : a ≠ e := fun z => by
      subst z
      obtain ⟨o1, h1, c1, _⟩ := p
      have he' := he
      unfold IsEnum at he'
      rw [h1] at he'
      cases he'
      exact absurd (Value.type.inj c1) (by decide)
    have lti : i < its.toArray.size := by
      have := (List.getElem?_eq_some_iff.mp hu).1
      simpa using this
    have D : Draws X.prog X.w X.A.in1 it [it, a] its.toArray.size (fun i v => its.toArray[i]? = some v) (fun i h => h.IsTupleIter it a i ∧ h.IsTuple a its.toArray) := Draws.tuple (show X.A.in1.handled = none from I.ok.hd hc) it a nai its.toArray
    refine wpAny_pyNext_enum_itemD D he ⟨hit, p⟩ lti hne (by simp [hne, nae.symm]) fun y h' tk hy ho hit' hT hsz hk => ?_
    have ey : y = u := by
      have h2 : its.toArray[i]? = some u := by simpa using hu
      rw [h2] at hy
      cases hy
      rfl
    subst ey
    refine ⟨_, rfl, wpAny_letOwnedTupleGo_enum (s := { s with heap := h', toks := tk + 1 }) ho fun h2 he2 sb => ?_⟩
    have hT2 : h2.get? s.heap.objs.size = some { cls := .type "tuple", data := .seq #[.int i tk, y] } := (sb.2 _ (Nat.ne_of_gt hel)).trans hT
    have new : ObjOk X.prog X.w (upd H s.heap.objs.size (.tup [.int (i : Nat), x])) h2 s.heap.objs.size (.tup [.int (i : Nat), x]) :=
      ⟨by show 2 ≤ sizeLine; decide, [.int i tk, y], .cons ⟨_, rfl⟩ (.cons ru .nil), ⟨_, hT2, rfl, _, rfl⟩⟩
    have I1 : Inv X pins σ (upd H s.heap.objs.size (.tup [.int (i : Nat), x])) { s with heap := h2, toks := tk + 1 } :=
      I.turnedNew (ch := [e, it]) (fun b ob hb q => (sb.2 b (fun z => hb (by simp [z]))).trans (hk b ob (fun z => hb (by simp [z])) (fun z => hb (by simp [z])) q)) hf (Nat.le_refl _) new
    refine ⟨.ref s.heap.objs.size, _, I1, rfl, ⟨_, x, rfl, I.hok.fresh (Nat.le_refl _), rfl, fun ys hy => by rw [I.tuple_inj hy hq]; exact hx⟩, ⟨⟨y, ?_⟩, ?_, hne⟩, fun b hb => ?_⟩
    · have e1 : ((i + 1 : Nat) : Int) = (i : Int) + 1 := by omega
      rw [e1]
      exact he2
    · obtain ⟨o3, h3, r3⟩ := hit'.1
      exact ⟨o3, (sb.2 it (Ne.symm hne)).trans h3, r3⟩
    · have hb' : b < s.heap.objs.size := by
        rcases (show b = e ∨ b = it by simpa using hb) with z | z
        · rw [z]; exact hel
        · rw [z]; exact hil
      rw [upd_ne (Nat.ne_of_lt hb')]
      exact (hf b hb).1
  done := by
    intro X hP hw hK hc i pins s σ H E I hf st hg
    subst hP hw hK
    obtain ⟨⟨old, he⟩, hit, hne⟩ := st
    obtain ⟨xs, hq, hx⟩ := hg
    obtain ⟨its, rv, p, hz⟩ := I.tuple hq
    obtain ⟨f0, f1, f2, f3, f4, f5⟩ := hf it (by simp)
    have hl := rv.length
    have nai : a ≠ it := fun z => by
      subst z
      obtain ⟨o1, h1, c1, _⟩ := p
      obtain ⟨o2, h2, c2, _⟩ := hit
      rw [h1] at h2
      cases h2
      rw [c1] at c2
      exact absurd (Value.type.inj c2) (by decide)
    have D : Draws X.prog X.w X.A.in1 it [it, a] its.toArray.size (fun i v => its.toArray[i]? = some v) (fun i h => h.IsTupleIter it a i ∧ h.IsTuple a its.toArray) := Draws.tuple (show X.A.in1.handled = none from I.ok.hd hc) it a nai its.toArray
    have ei : its.toArray.size = i := by
      rw [List.size_toArray, ← hl]
      exact hx
    refine wpAny_pyNext_enum_endD D he (by rw [ei]; exact ⟨hit, p⟩) fun h' eb => ⟨rfl, I.turned (t' := s.toks) (fun b o hb q => eb b o hb q) f0 f1 f3 f4 f5⟩
  self := fun A i s Q E st h => let ⟨⟨_, he⟩, _⟩ := st; wpAny_pyIter_enum he h
def iEnumT (K : PySem.W.Frag) (ta : TA) : TI := fun σ H R => ta σ H fun vs H1 => ∃ a xs, vs = [.ref a] ∧ SqT K H1 a xs ∧ R (IteT K a) H1
theorem pi_enumT {X : Cx} {e : Expr} {ta : TA} {p pos tpos : Pos} {elts : List Expr} {kk : Nat} (hg : Gl X "enumerate") (hm : X.mg "enumerate" = none) (ha : PA X [e] ta) (hs : starEach [e] X.env = [(false, eval e X.env)] := by rfl) :
    PI X (.Tuple elts kk tpos) (.Call (.Name "enumerate" p) [e] [] pos) (iEnumT X.K ta) := by
  refine ⟨fun pins s σ H R I hw => ?_⟩
  refine Call_ (ld_blt I hg hm boot_enumerate (PyProof.Rows.callWith_type1 (thn (ha.run pos pins s σ H _ I hw) fun us s1 hh => ?_) hs rfl))
  obtain ⟨vs, H1, I1, r1, a, xs, rfl, hq, q⟩ := hh
  cases r1 with
  | cons ra rr =>
    cases rr
    cases ra
    obtain ⟨its, rv, pt, _⟩ := I1.tuple hq
    refine call_enumT pt fun h' he hit hk => wpAny_pyIter_enum he ?_
    have I2 : Inv X pins σ H1 { s1 with heap := h' } := I1.kept (t' := s1.toks) hk
    refine ⟨s1.heap.objs.size + 1, [s1.heap.objs.size + 1, s1.heap.objs.size], _, _, H1, rfl, I2, turn_enumT a (s1.heap.objs.size + 1) s1.heap.objs.size, ⟨⟨.none, he⟩, hit, Nat.succ_ne_self _⟩, fun b hb => ?_, q⟩
    have hle : s1.heap.objs.size ≤ b := by
      rcases (show b = s1.heap.objs.size + 1 ∨ b = s1.heap.objs.size by simpa using hb) with z | z
      · rw [z]; exact Nat.le_succ _
      · rw [z]; exact Nat.le_refl _
    exact I1.fpOk hle (I1.hok.fresh hle)
section
variable {K : PySem.W.Frag} {H H' Hd Hd' Hn H1 H2 Hm : Hp} {σ : L2.St} {ta tb te : TE} {tr : TA} {n i j j2 : Nat} {ds es : List PyData} {a : Addr} {xs : List V}
theorem walk_enumT : Walk (IteT K a) xs.length (fun H => SqT K H a xs) (YPair (fun i => some (.int (i : Nat))) (fun i => xs[i]?)) := by
  refine ⟨fun i _ hi q => ⟨xs, xs[i], q, by simp [hi]⟩, fun _ q => ⟨xs, q, rfl⟩, fun i H v H' _ q y => ?_⟩
  obtain ⟨T, x, h1, h2, h3, h4⟩ := y
  exact ⟨T, .int (i : Nat), x, h1, h2, h3, rfl, h4 xs q⟩
theorem ei_enumT (h : EvDA K tr σ Hd [.tuple ds]) : EvI K (iEnumT K tr) (g2 K j j2) σ Hd ds.length (SPair K j j2 (fun i => some (.int (i : Int))) (fun i => ds[i]?)) := fun H s R r =>
  h H s _ fun vs H2 Hn g hd => by
    cases hd with
    | cons h1 h2 =>
      cases h2
      cases h1 with
      | @tup a xs ds hs hall =>
        refine ⟨a, xs, rfl, ex_t g.sub hs, r _ H2 Hn _ _ g (by rw [← dpa_len hall]; exact walk_enumT) (fun H' e => ex_t e hs) fun i x H' H'' σ' k hi e y q => ?_⟩
        refine pair_turn (fun v e => ?_) (fun v e => dpa_get2 hall e) y q
        cases e
        exact ⟨_, rfl, .int _⟩
end
end Cot
namespace Cot
open PySem PySem.Spec PyProof.Rows L2 Evl
section
variable {K : PySem.W.Frag} {H H' Hd Hd' Hn H1 H2 Hm : Hp} {σ : L2.St} {ta tb te : TE} {t tt1 : TT} {tr : TA} {n i j j2 : Nat} {ds es : List PyData} {wi wi1 : TI} {g g1 : TG}
theorem lc1_it {J : It} {n : Nat} {G : Hp → Prop} {Y : Nat → Hp → V → Hp → Prop} (w : Walk J n G Y) {g : TG} {tt : TT} {te : TE} {vs : List Nat} {σ : L2.St} {H1 : Hp} {D : Addr} {Qd : Hp → Prop} (Pv : Nat → Hp → Prop) (h0 : Pv 0 H1) (hG : ∀ i H, i ≤ n → Pv i H → G H)
    (hs : ∀ i x H H', i < n → Pv i H → Y i H x H' → g x (wipe σ vs) H' fun σ2 H2 => wipe σ2 vs = wipe σ vs ∧ tt σ2 H2 fun b H3 =>
      if b = true then te σ2 H3 fun y H4 => ∃ acc, H4 D = some (.lst acc) ∧ acc.length < sizeLine ∧ Pv (i + 1) (upd H4 D (.lst (acc ++ [y]))) else Pv (i + 1) H3) (hd : ∀ H, Pv n H → Qd H) :
    ∃ W : Nat → Nat → Hp → Prop, (∃ m, W 0 m H1) ∧ ∀ i m H, W i m H →
      (J.stop i H ∧ Qd H) ∨ (J.go i H ∧ ∃ Nx : Hp → Prop, (∀ H', Nx H' → ∃ m', m' < m ∧ W (i + 1) m' H') ∧ ∀ x H', J.yld i H x H' → g x (wipe σ vs) H' fun σ2 H2 => wipe σ2 vs = wipe σ vs ∧ tt σ2 H2 fun b H3 =>
        if b = true then te σ2 H3 fun y H4 => ∃ acc, H4 D = some (.lst acc) ∧ acc.length < sizeLine ∧ Nx (upd H4 D (.lst (acc ++ [y]))) else Nx H3) := by
  refine ⟨fun i m H => m = n - i ∧ i ≤ n ∧ Pv i H, ⟨n, by simp, Nat.zero_le _, h0⟩, ?_⟩
  rintro i m Hx ⟨rfl, hi, p⟩
  have q := hG i Hx hi p
  by_cases hlt : i < n
  · exact .inr ⟨w.goes i Hx hlt q, Pv (i + 1), fun Hy p' => ⟨n - (i + 1), by omega, rfl, hlt, p'⟩, fun x Hy y => hs i x Hx Hy hlt p (w.yields i Hx x Hy hlt q y)⟩
  · have e : i = n := by omega
    subst e
    exact .inl ⟨w.stops Hx q, hd Hx p⟩
def flatD (n : Nat) (L : Nat → List PyData) : List PyData := ((List.range n).map L).flatten
theorem flatD_succ (n : Nat) (L : Nat → List PyData) : flatD (n + 1) L = flatD n L ++ L n := by
  unfold flatD
  rw [List.range_succ, List.map_append, List.flatten_append]
  simp
theorem en_lc2 {S : Nat → L2.St → L2.St → Hp → Prop} {S1 : Nat → Nat → L2.St → L2.St → Hp → Prop} {vs vs1 : List Nat} (n1 : Nat → Nat) (h : EvI K wi g σ Hd n S) (f : Nat → Nat → Bool) (v : Nat → Nat → PyData) (hn : (flatD n fun i => givenD (n1 i) (f i) (v i)).length ≤ 40000) (hsz : ∀ i, i < n → (flatD i fun i => givenD (n1 i) (f i) (v i)).length + n1 i ≤ 90000)
    (ht : ∀ (i : Nat) (σ2 : L2.St) (Hn : Hp), i < n → Ex Hd Hn → S i (wipe σ vs) σ2 Hn → wipe σ2 vs = wipe σ vs ∧ EvI K wi1 g1 σ2 Hn (n1 i) (S1 i) ∧
      ∀ (j : Nat) (σ3 : L2.St) (Hk : Hp), j < n1 i → Ex Hn Hk → S1 i j (wipe σ2 vs1) σ3 Hk → wipe σ3 vs1 = wipe σ2 vs1 ∧ EvT tt1 σ3 Hk (f i j) ∧ (f i j = true → EvD K te σ3 Hk (v i j))) :
    EvN K (tLc2 wi g tYes wi1 g1 tt1 te vs vs1) σ Hd (flatD n fun i => givenD (n1 i) (f i) (v i)) := fun H s Q q =>
  h H s _ fun J H1 Hn G Y gr w hG hY Dl hD => by
    refine ⟨fun i m H' => m = n - i ∧ i ≤ n ∧ ∃ Hm acc, Gr Hn H1 Hm H' ∧ Hm Dl = none ∧ H' Dl = some (.lst acc) ∧ DpAll K Hm acc (flatD i fun i => givenD (n1 i) (f i) (v i)), ⟨n, by simp, Nat.zero_le _, Hn, [], Gr.alloc gr.sub hD, fresh_back gr.sub hD, upd_same, .nil⟩, ?_⟩
    rintro i m H' ⟨rfl, hi, p⟩
    obtain ⟨Hm, acc, g1', hm, h2, hac⟩ := p
    have q0 := hG H' (g1'.dx.trans g1'.sub)
    by_cases hlt : i < n
    · refine .inr ⟨w.goes i H' hlt q0, fun H2 => ∃ Hm acc, Gr Hn H1 Hm H2 ∧ Hm Dl = none ∧ H2 Dl = some (.lst acc) ∧ DpAll K Hm acc (flatD (i + 1) fun i => givenD (n1 i) (f i) (v i)), fun H2 p' => ⟨n - (i + 1), by omega, rfl, hlt, p'⟩, fun x H'' y => ?_⟩
      refine hY i x H' H'' _ _ hlt (g1'.dx.trans g1'.sub) (w.yields i H' x H'' hlt q0 y) fun σ2 H3 e3 hS => ?_
      obtain ⟨hw, hI, hT⟩ := ht i σ2 Hn hlt gr.dx hS
      refine ⟨hw, ?_⟩
      refine hI H3 ((g1'.dx.trans g1'.sub).trans e3) _ fun J1 H4 Hk G1 Y1 gk w1 hG1 hY1 => ?_
      have gm : Gr Hm H3 (un Hm Hk) H4 := gk.up g1'.dx (g1'.sub.trans e3)
      have em : Ex Hk (un Hm Hk) := gk.upr g1'.dx (g1'.sub.trans e3)
      have hm4 : un Hm Hk Dl = none := gm.fr _ _ (e3 _ _ h2) hm
      refine lc1_it w1 (fun j H5 => j ≤ n1 i ∧ ∃ Ho acc, Gr Hn H1 Ho H5 ∧ Ex (un Hm Hk) Ho ∧ Ho Dl = none ∧ H5 Dl = some (.lst acc) ∧ DpAll K Ho acc (flatD i (fun i => givenD (n1 i) (f i) (v i)) ++ givenD j (f i) (v i))) ⟨Nat.zero_le _, un Hm Hk, acc, (g1'.post e3).trans gm, Ex.refl _, hm4, gk.ex _ _ (e3 _ _ h2), ?_⟩ (fun j H5 _ p => ?_) (fun j x H5 H6 hj p y => ?_) (fun H5 p => ?_)
      · show DpAll K _ _ (_ ++ [])
        rw [List.append_nil]
        exact dpa_mono gm.dx _ hac
      · obtain ⟨_, Ho, acc', go, eo, _⟩ := p
        exact hG1 H5 ((em.trans eo).trans go.sub)
      · obtain ⟨_, Ho, acc', go, eo, ho, h5, hac'⟩ := p
        refine hY1 j x H5 H6 _ _ hj ((em.trans eo).trans go.sub) y fun σ3 H7 e7 hS1 => ?_
        obtain ⟨hw1, hT1, hE⟩ := hT j σ3 Hk hj gk.dx hS1
        refine ⟨hw1, hT1 H7 (((em.trans eo).trans go.sub).trans e7) _ fun H8 e8 => ?_⟩
        have h8 : H8 Dl = some (.lst acc') := e8 _ _ (e7 _ _ h5)
        cases hf : f i j with
        | false =>
          show (j + 1 ≤ n1 i ∧ _)
          refine ⟨hj, Ho, acc', go.post (e7.trans e8), eo, ho, h8, ?_⟩
          rw [givenD_no hf]
          exact hac'
        | true =>
          show te σ3 H8 _
          refine ((hE hf).mono (em.trans eo)) H8 ((go.sub.trans e7).trans e8) _ fun y H9 Hp' g9 hy => ?_
          have hp9 : Hp' Dl = none := g9.fr _ _ h8 ho
          have al : acc'.length < sizeLine := sz_lt (by
            have h10 := givenD_len j (f i) (v i)
            have h11 := hsz i hlt
            rw [dpa_len hac', List.length_append]
            omega)
          refine ⟨acc', g9.ex _ _ h8, al, hj, Hp', acc' ++ [y], ⟨Ex.mut ((go.ex.trans (e7.trans e8)).trans g9.ex) hD, go.dx.trans g9.dx, Ex.mut g9.sub hp9, fun a o ha hd => g9.fr a o ((e7.trans e8) a o (go.ex a o ha)) (go.fr a o ha hd)⟩, eo.trans g9.dx, hp9, upd_same, ?_⟩
          rw [givenD_yes hf, ← List.append_assoc]
          exact dpa_app (dpa_mono g9.dx _ hac') (.cons hy .nil)
      · obtain ⟨_, Ho, acc', go, eo, ho, h5, hac'⟩ := p
        refine ⟨Ho, acc', go, ho, h5, ?_⟩
        rw [flatD_succ]
        exact hac'
    · have e : i = n := by omega
      subst e
      exact .inl ⟨w.stops H' q0, q Dl acc H' Hm (gr.trans g1') (fresh_back gr.ex hD) hm h2 hac⟩
end
end Cot

set_option Elab.async false
set_option linter.all false
set_option maxRecDepth 100000
set_option maxHeartbeats 4000000
/-! While an exception is handled: the ends of iterators, a tuple unpacked, a comprehension over a list. -/
namespace Cot
open PySem PySem.Spec PyProof.Rows L2 L2H HotX
section
variable {prog : Program} {w : World} {A : Around} {E : Value → Shared → Prop} {s : Shared}
/-- StopIteration() is made and raised -/
theorem stop_hot {α : Type} {x1 : Addr} {Q : α → Shared → Prop} (hot : HotAt A x1 s.heap)
    (hE : ∀ h' e, (∀ b o, s.heap.get? b = some o → h'.get? b = some o) → (∃ o, h'.get? e = some o ∧ o.cls = .type "StopIteration") → E (.ref e) { s with heap := h' }) :
    wpAny (model prog w) A (newExc (.type "StopIteration") [] >>= fun e => (raiseNew e : Sem α)) Q E s := by
  obtain ⟨hh, o1, vs1, h1, d1, c1⟩ := hot
  refine wpAny_bind ?_
  simp only [newExc, newTuple]
  refine wpAny_bind (wpAny_newObj_type ?a1 (by size_fits))
  case a1 =>
  refine wpAny_bind (m := firstArgMember _ _) (wpAny_of_eq (a := Value.none) ?a2 ?a3)
  case a2 => first | rfl | (simp only [firstArgMember]; rfl)
  case a3 =>
  refine wpAny_newObj_type ?a4 (by size_fits)
  case a4 =>
  have k1 := Heap.get?_push_of_some ({ cls := .type "tuple", data := .seq #[] } : Obj) h1
  refine raiseNew_hot ⟨hh, o1, vs1, Heap.get?_push_of_some _ (Heap.get?_push_of_some _ h1), d1, c1⟩ ?b1 (Heap.get?_push_size _ rfl) rfl ?b2 ?b3
  case b1 => exact Nat.ne_of_lt (Heap.lt_size (Heap.get?_push_of_some _ h1))
  case b2 => first | (simp; done) | (simp; omega) | (simp only [Array.size_append]; simp; omega)
  case b3 =>
  refine hE _ _ (fun b o e => ?_) ⟨_, Heap.get?_update_self _ (Heap.get?_push_size _ rfl) rfl, rfl⟩
  have e2 := Heap.get?_push_of_some ({ cls := .type "tuple", data := .seq #[] } : Obj) e
  rw [Heap.get?_update_other _ _ (Nat.ne_of_gt (Heap.lt_size (Heap.get?_push_of_some _ e)))]
  exact Heap.get?_push_of_some _ (Heap.get?_push_of_some _ e)
/-- a list's iterator at its end -/
theorem listEnd_hot {x1 it l : Addr} {i : Nat} {items : Array Value} {Q : Option Value → Shared → Prop} (hot : HotAt A x1 s.heap) (n1 : x1 ≠ it) (hit : s.heap.IsListIter it l i) (hl : s.heap.IsList l items) (hx : items[i]? = none)
    (hQ : ∀ h', Heap.ExtBut it s.heap h' → Q none { s with heap := h' }) : wpAny (model prog w) A (pyNext (.ref it)) Q E s := by
  obtain ⟨o, ho, hc, hd⟩ := id hit
  obtain ⟨ol, hol, _, nl, hdl⟩ := hl
  have hty := hit.typeIs
  unfold pyNext
  apply wpAny_bind
  apply wpAny_attempt
  refine wpAny_callSpecial?_slot (name := Str.ofString "__next__") hty slot_listiter_next (wpAny_call_entry slot_listiter_next hty entry_listiter_next ?_ (args_listiter_next _))
  show wpAny _ A.in1 (field (Value.ref it) 0 >>= _) _ _ _
  refine wpAny_bind (wpAny_field ho hd (x := .ref l) rfl ?f0)
  case f0 =>
  have nn : ¬ ((Value.ref l == Value.none) = true) := Bool.false_ne_true
  show wpAny _ _ (ite ((Value.ref l == Value.none) = true) _ _) _ _ s
  rw [if_neg nn]
  show wpAny _ A.in1 (field (Value.ref it) 1 >>= _) _ _ _
  refine wpAny_bind (wpAny_field ho hd (x := .int i 0) rfl ?f9)
  case f9 =>
  show wpAny _ A.in1 (seqItems? (Value.ref l) >>= _) _ _ _
  refine wpAny_bind (wpAny_seqItems hol hdl ?f1)
  case f1 =>
  simp only [Int.toNat_natCast, hx]
  refine wpAny_bind (wpAny_rule (wpAny_bind (wpAny_setField ho hd (by simp) ?f2)))
  case f2 =>
  obtain ⟨hh, o1, vs1, h1, d1, c1⟩ := hot
  refine stop_hot (A := A.in1) (x1 := x1) ⟨hh, o1, vs1, ?g1, d1, c1⟩ fun h' e k ke => ?g2
  case g1 =>
    show (Heap.update s.heap it _).get? x1 = some o1
    rw [Heap.get?_update_other _ _ n1.symm]
    exact h1
  case g2 =>
  obtain ⟨oe, q1, q2⟩ := ke
  refine wpAny_bind (wpAny_isInstance (T := "StopIteration") (b := true) ⟨oe, q1, q2⟩ isSubtype_stop (wpAny_pure (hQ h' fun b u hb hu => k b u ?g3)))
  case g3 =>
    show (Heap.update s.heap it _).get? b = some u
    rw [Heap.get?_update_other _ _ (Ne.symm hb)]
    exact hu
/-- a tuple's iterator at its end -/
theorem tupEnd_hot {x1 it l : Addr} {i : Nat} {items : Array Value} {Q : Option Value → Shared → Prop} (hot : HotAt A x1 s.heap) (n1 : x1 ≠ it) (hit : IsTupIter s.heap it l i) (hl : IsTup s.heap l items) (hx : items[i]? = none)
    (hQ : ∀ h', Heap.ExtBut it s.heap h' → Q none { s with heap := h' }) : wpAny (model prog w) A (pyNext (.ref it)) Q E s := by
  obtain ⟨o, ho, hc, hd⟩ := id hit
  obtain ⟨ol, hol, _, nl, hdl⟩ := hl
  have hty := hit.typeIs
  unfold pyNext
  apply wpAny_bind
  apply wpAny_attempt
  refine wpAny_callSpecial?_slot (name := Str.ofString "__next__") hty slot_tupleiter_next (wpAny_call_entry slot_tupleiter_next hty entry_tupleiter_next ?_ (args_tupleiter_next _))
  show wpAny _ A.in1 (field (Value.ref it) 0 >>= _) _ _ _
  refine wpAny_bind (wpAny_field ho hd (x := .ref l) rfl ?f0)
  case f0 =>
  have nn : ¬ ((Value.ref l == Value.none) = true) := Bool.false_ne_true
  show wpAny _ _ (ite ((Value.ref l == Value.none) = true) _ _) _ _ s
  rw [if_neg nn]
  show wpAny _ A.in1 (field (Value.ref it) 1 >>= _) _ _ _
  refine wpAny_bind (wpAny_field ho hd (x := .int i 0) rfl ?f9)
  case f9 =>
  show wpAny _ A.in1 (seqItems? (Value.ref l) >>= _) _ _ _
  refine wpAny_bind (wpAny_seqItems hol hdl ?f1)
  case f1 =>
  simp only [Int.toNat_natCast, hx]
  refine wpAny_bind (wpAny_rule (wpAny_bind (wpAny_setField ho hd (by simp) ?f2)))
  case f2 =>
  obtain ⟨hh, o1, vs1, h1, d1, c1⟩ := hot
  refine stop_hot (A := A.in1) (x1 := x1) ⟨hh, o1, vs1, ?g1, d1, c1⟩ fun h' e k ke => ?g2
  case g1 =>
    show (Heap.update s.heap it _).get? x1 = some o1
    rw [Heap.get?_update_other _ _ n1.symm]
    exact h1
  case g2 =>
  obtain ⟨oe, q1, q2⟩ := ke
  refine wpAny_bind (wpAny_isInstance (T := "StopIteration") (b := true) ⟨oe, q1, q2⟩ isSubtype_stop (wpAny_pure (hQ h' fun b u hb hu => k b u ?g3)))
  case g3 =>
    show (Heap.update s.heap it _).get? b = some u
    rw [Heap.get?_update_other _ _ (Ne.symm hb)]
    exact hu
/-- a, b, .. = a tuple -/
theorem unpack_hot {x1 t : Addr} {items : Array Value} {env : Env} {elts : List Expr} {k1} {pos : Pos} {Q : Unit → Shared → Prop} (hot : HotAt A x1 s.heap) (ht : IsTup s.heap t items) (hn : (assignEach elts env).length = items.size) (hstar : (assignEach elts env).findIdx? (·.1) = none)
    (hq : ∀ h', Heap.ExtBut s.heap.objs.size s.heap h' → wpAny (model prog w) A (assignInOrder ((assignEach elts env).map (·.2)) items.toList) Q E { s with heap := h' }) :
    wpAny (model prog w) A (assign (.Tuple elts k1 pos) env (.ref t)) Q E s := by
  have nt : t ≠ s.heap.objs.size := by
    obtain ⟨o, ho, _⟩ := ht
    exact Nat.ne_of_lt (Heap.lt_size ho)
  have n1 : x1 ≠ s.heap.objs.size := by
    obtain ⟨_, o1, _, h1, _⟩ := hot
    exact Nat.ne_of_lt (Heap.lt_size h1)
  rw [assign_Tuple]
  apply wpAny_bind
  apply wpAny_standAt
  unfold unpack
  rw [hn, hstar]
  apply wpAny_bind
  apply wpAny_holding
  unfold unpackItems notIterableAtAll
  refine wpAny_bind (wpAny_bind (wpAny_specialOf ht.typeIs slot_tuple_iter.lookup (wpAny_pure ?u1)))
  case u1 =>
  simp only [Bool.false_eq_true, if_false]
  refine wpAny_bind (wpAny_holding (iter_tuple ht ?u2))
  case u2 =>
  refine wpAny_bind (wpAny_holding (draw_tuple nt items.size 0 _ _ ⟨_, Heap.get?_push_size _ rfl, rfl, rfl⟩ (ht.push _) (by omega) fun ha ia sa => ?u3))
  case u3 =>
  have all : (items.toList.drop 0).take items.size = items.toList := by
    rw [List.drop_zero]
    exact List.take_of_length_le (by simp)
  rw [all, if_neg (by simp)]
  have ta : IsTup ha t items := (ht.push _).extBut sa.extBut nt
  have hota : HotAt A x1 ha := by
    obtain ⟨hh, o1, vs1, h1, d1, c1⟩ := hot
    exact ⟨hh, o1, vs1, sa.extBut _ _ n1 (Heap.get?_push_of_some _ h1), d1, c1⟩
  refine wpAny_bind (wpAny_holding (tupEnd_hot hota n1 ia ta (by simp) fun hb eb => ?u4))
  case u4 =>
  simp only [Option.isSome_none, Bool.false_eq_true, if_false]
  refine wpAny_pure (hq hb fun c o hc e => eb c o hc (sa.extBut c o hc (Heap.get?_push_of_some _ e)))
end
/-- a context in which an exception is handled, whatever was done -/
def HotI (X : Cx) : Prop := ∀ (pins : List (Addr × Obj)) (σ : L2.St) (H : Hp) (s : Shared), Inv X pins σ H s → ∃ x1, HotAt X.A x1 s.heap
theorem pg_tupH {X : Cx} {es : List Expr} {k n : Nat} {t : TGs} {pos : Pos} (hc : HotI X) (h : PGs X es t)
    (hn : (assignEach es X.env).length = n := by rfl) (hst : (assignEach es X.env).findIdx? (·.1) = none := by rfl) : PG X (.Tuple es k pos) (gTup X.K n t) := by
  refine ⟨fun pins s σ H v u Q I r hw => ?_⟩
  obtain ⟨a, xs, rfl, hq, hl, hw⟩ := hw
  cases r
  obtain ⟨its, rv, ht, _⟩ := I.tuple hq
  obtain ⟨x1, hot⟩ := hc pins σ H s I
  refine unpack_hot hot ht (by simp [hn, ← hl, rv.length]) hst fun h' hx => ?_
  have J : Inv X pins σ H { s with heap := h' } := I.kept (t' := s.toks) fun b o e => hx b o (Nat.ne_of_lt (Heap.lt_size e)) e
  exact h.run pins _ σ H xs _ Q J (by simpa using rv) hw
/-- what stands untracked where a block begins stands all along, so the handled exception too -/
theorem hot_blk {X : Cx} {s : Shared} {H : Hp} {scope : Scope} {ce : Env} {fp : List Addr} {p : Addr × Obj} (h1 : Hot1 X.A p) (g : s.heap.get? p.1 = some p.2) (n : H p.1 = none) (f : p.1 ∉ frs X.stack) (nf : p.1 ∉ fp) : HotI (X.blk s H scope ce fp) := fun pins σ H' s' I => by
  obtain ⟨hh, vs, d, c⟩ := h1
  refine ⟨p.1, hh, p.2, vs, I.base.keep p.1 p.2 g n ?_ nf, d, c⟩
  exact f
theorem pe_lcH {X : Cx} {elt tg l : Expr} {ifs : List Expr} {scope : Scope} {own : List (Str × Nat)} {pos : Pos} {tl te : TE} {g : TG} {tt : TT} (hot : HotC X) (hN : X.N.Nodup) (hl : PE X l tl) (ok : BlkOk X.N X.env.scope scope own)
    (hg : ∀ (s : Shared) (H : Hp) (C : Addr) (cl : List (Str × Addr)) (fp : List Addr), HotI (X.blk s H scope (compEnvC scope cl C X.env) fp) → PG (X.blk s H scope (compEnvC scope cl C X.env) fp) tg g)
    (ht : ∀ (s : Shared) (H : Hp) (C : Addr) (cl : List (Str × Addr)) (fp : List Addr), PTs (X.blk s H scope (compEnvC scope cl C X.env) fp) ifs tt)
    (he : ∀ (s : Shared) (H : Hp) (C : Addr) (cl : List (Str × Addr)) (fp : List Addr), PE (X.blk s H scope (compEnvC scope cl C X.env) fp) elt te) (hs : ∀ x, foldedSetIterable l X.env x = pure x := by intro _; rfl) :
    PE X (.ListComp elt [⟨tg, l, ifs, 0⟩] scope pos) (tLc (iList X.K tl) g tt te (own.map (·.2))) := by
  refine ⟨fun pins s σ H Q I hw => ?_⟩
  rw [eval_ListComp]
  have cells : ∀ y ∈ scope.names, y.2 = .free → ∃ c, X.env.cells.lookup y.1 = some c := fun y hy e => by
    rcases ok.free y hy e with k | k
    · exact I.ok.has _ (.inl k)
    · exact I.ok.has _ (.inr k)
  apply wpAny_comprehension_free rfl hs (closure_ok cells) ok.kind (fun y hy e => by rw [ok.uniq y hy, e])
  refine thn (hl.run pins s σ H _ I hw) fun xv sa hx => ?_
  obtain ⟨xv', Ha, Ia, ra, a, rfl, ⟨xs, hq⟩, q⟩ := hx
  cases ra
  obtain ⟨its, rv, pl, _⟩ := Ia.list hq
  apply wpAny_pyIter_list pl.isList
  -- the iterator, new
  obtain ⟨it, eit⟩ : ∃ it, it = sa.heap.objs.size := ⟨_, rfl⟩
  obtain ⟨sb, esb⟩ : ∃ sb : Shared, sb = { sa with heap := sa.heap.push { cls := .type "list_iterator", data := .fields #[.ref a, .int 0 0] } } := ⟨_, rfl⟩
  have Ib : Inv X pins σ Ha sb := by
    rw [esb]
    exact Ia.kept (t' := sa.toks) fun b o e => Heap.get?_push_of_some _ e
  have itb : sb.heap.IsListIter it a 0 := by
    rw [esb, eit]
    exact ⟨_, Heap.get?_push_size _ rfl, rfl, rfl⟩
  have fpb : FpOk X pins Ha it := by
    rw [eit]
    exact Ia.fpOk (Nat.le_refl _) (Ia.hok.fresh (Nat.le_refl _))
  rw [← eit, ← esb]
  refine wpAny_newObj_type (newEnv_comp ?_) (by show 0 ≤ sizeLine; decide)
  obtain ⟨D, eD⟩ : ∃ D, D = sb.heap.objs.size := ⟨_, rfl⟩
  have nD : Ha D = none := by
    rw [eD]
    exact Ib.hok.fresh (Nat.le_refl _)
  obtain ⟨W, ⟨m0, w0⟩, turn⟩ := q D nD
  obtain ⟨sc, esc⟩ : ∃ sc : Shared, sc = { sb with heap := sb.heap.push { cls := .type "list", data := .seq ([] : List Value).toArray } } := ⟨_, rfl⟩
  have hsc : sc.heap = sb.heap.push { cls := .type "list", data := .seq ([] : List Value).toArray } := by rw [esc]
  have Ic : Inv X pins σ (upd Ha D (.lst [])) sc := by
    rw [esc]
    refine Ib.laid (t' := sb.toks) (fun b o e => Heap.get?_push_of_some _ e) (Nat.le_of_eq eD.symm) ⟨Nat.zero_le _, [], 0, .nil, ?_⟩
    rw [eD]
    exact Heap.get?_push_size _ rfl
  have ltit : it < sb.heap.objs.size := by
    obtain ⟨o, e, _⟩ := itb
    exact Heap.lt_size e
  have nDit : it ≠ D := by
    rw [eD]
    exact Nat.ne_of_lt ltit
  have itc : sc.heap.IsListIter it a 0 := itb.at fun o e => by
    rw [hsc]
    exact Heap.get?_push_of_some _ e
  have fpc : ∀ b ∈ [it], FpOk X pins (upd Ha D (.lst [])) b ∧ b < sc.heap.objs.size := fun b hb => by
    rw [List.mem_singleton.mp hb]
    refine ⟨⟨?_, fpb.2⟩, ?_⟩
    · rw [upd_ne nDit]
      exact fpb.1
    · rw [hsc, Heap.size_push]
      exact Nat.lt_succ_of_lt ltit
  obtain ⟨p, hp1, hpn⟩ := hot
  have pc := Ic.pin p (List.mem_append_left _ hpn)
  have npit : p.1 ≠ it := fun z => fpb.2.2.2.2.2 p (List.mem_append_left _ hpn) z
  have Id := block_start Ic ok hN fpc
  rw [← esc]
  obtain ⟨Hc, eHc⟩ : ∃ Hc, Hc = upd Ha D (.lst []) := ⟨_, rfl⟩
  rw [← eHc] at Ic Id fpc w0 pc
  obtain ⟨cl, ecl⟩ : ∃ cl, cl = cellsFrom (sc.heap.objs.size + 1) scope.names (cloFrom X.env.cells scope.names []) := ⟨_, rfl⟩
  rw [← ecl] at Id ⊢
  obtain ⟨C, eC⟩ : ∃ C, C = sc.heap.objs.size := ⟨_, rfl⟩
  have hI : HotI (X.blk sc Hc scope (compEnvC scope cl C X.env) [it]) := hot_blk hp1 pc.1 pc.2.1 (fun z => (List.mem_cons.mp (Ic.stkSub p.1 z)).elim pc.2.2.1 pc.2.2.2.1) (by simp [npit])
  have pg := hg sc Hc C cl [it] hI
  have pt := ht sc Hc C cl [it]
  have pe := he sc Hc C cl [it]
  obtain ⟨sd, esd⟩ : ∃ sd : Shared, sd = { sc with heap := pushCells (sc.heap.push { cls := .type "dict", data := .dict #[] }) scope.names } := ⟨_, rfl⟩
  obtain ⟨ce, ece⟩ : ∃ ce, ce = compEnvC scope cl C X.env := ⟨_, rfl⟩
  rw [← eC] at Id
  rw [← ece] at Id pg pt pe hI
  have Id' : Inv (X.blk sc Hc scope ce [it]) [] (wipe σ (own.map (·.2))) Hc sd := by
    rw [esd]
    exact Id
  have locC : ce.locals = C := by rw [ece]; rfl
  have itd : sd.heap.IsListIter it a 0 := itc.at fun o e => by
    rw [esd]
    exact pushCells_keeps _ _ _ _ (Heap.get?_push_of_some _ e)
  show codeAny (model X.prog X.w) X.A (.compStart (.ListComp elt [⟨tg, l, ifs, 0⟩] scope pos) 0 (.ref it) (.ref sb.heap.objs.size) (compEnvC scope cl sc.heap.objs.size X.env)) (compPost (model X.prog X.w) X.A X.xe none (EP X pins σ Q) (.ref sb.heap.objs.size) sc.heap.objs.size) _
  rw [← esd, ← eC, ← ece, ← eD]
  -- the iterator's own place, at any state of the block
  have fpAt : ∀ {σ' : L2.St} {H' : Hp} {s' : Shared}, Inv (X.blk sc Hc scope ce [it]) [] σ' H' s' → H' it = none → FpOk (X.blk sc Hc scope ce [it]) [] H' it := fun {σ' H' s'} J hn =>
    ⟨hn, (J.ok.exf it (by simp)).1, J.ok.exfs it (by simp), .inl (by simp), fun x c e => (J.ok.exf it (by simp)).2 x c e, fun z hz => absurd (show z ∈ ([] : List (Addr × Obj)) ++ [] from hz) (by simp)⟩
  have loop : codeAny (model X.prog X.w) X.A (.compLoop (.ListComp elt [⟨tg, l, ifs, 0⟩] scope pos) 0 (.ref it) (.ref D) ce) (compPost (model X.prog X.w) X.A X.xe none (EP X pins σ Q) (.ref D) C) sd := by
    refine compLoop_any (fun n s' => ∃ i H', Inv (X.blk sc Hc scope ce [it]) [] (wipe σ (own.map (·.2))) H' s' ∧ s'.heap.IsListIter it a i ∧ H' it = none ∧ W i n H') ?_ m0 ⟨0, Hc, Id', itd, (fpc it (by simp)).1.1, w0⟩
    rintro n se ⟨i, He, Ie, ite, ne, we⟩
    obtain ⟨x1, hx1⟩ := hI _ _ _ _ Ie
    obtain ⟨f0, f1, f2, f3, f4, f5⟩ := fpAt Ie ne
    have nx1 : x1 ≠ it := fun z => by
      obtain ⟨_, o1, vs1, q1, q2, q3⟩ := hx1
      obtain ⟨o2, q4, q5, q6⟩ := ite
      rw [z, q4] at q1
      cases q1
      rw [q6] at q2
      cases q2
      simp at q3
    rcases turn i n He we with ⟨stop, qe⟩ | ⟨go, Nx, hNx, step⟩
    · obtain ⟨ys, hy, hly⟩ := stop
      obtain ⟨its2, rv2, pl2, _⟩ := Ie.list hy
      have l2 := rv2.length
      refine listEnd_hot hx1 nx1 ite pl2.isList (by simp; omega) fun h' eb => ?_
      have If : Inv (X.blk sc Hc scope ce [it]) [] (wipe σ (own.map (·.2))) He { se with heap := h' } := Ie.turned (t' := se.toks) (fun b o hb e => eb b o hb e) f0 f1 f3 f4 f5
      have Ig : Inv X pins σ He { se with heap := h' } := Ic.call' (ch := [it]) If.os If.base If.hok If.bare fun b hb => by
        have z := (fpc b hb).1
        exact ⟨z.2.2.2.1, z.2.1, z.2.2.2.2.1, z.2.2.2.2.2⟩
      have nC : He C = none := by
        have z : He ce.locals = none := If.free
        rw [locC] at z
        exact z
      obtain ⟨m, hm, _⟩ := If.loc
      have hm : ({ se with heap := h' } : Shared).heap.Ns ce.locals m := hm
      rw [locC] at hm
      have fC : FpOk X pins He C := by
        rw [eC] at nC ⊢
        exact Ic.fpOk (Nat.le_refl _) nC
      obtain ⟨c0, c1, c2, c3, c4, c5⟩ := fC
      exact ⟨m, hm, fun h2 sb2 => ⟨.ref D, He, Ig.turned (t' := se.toks) (fun b o hb e => (sb2.2 b hb).trans e) c0 c1 c3 c4 c5, rfl, qe⟩⟩
    · obtain ⟨ys, x, hy, hx⟩ := go
      obtain ⟨its2, rv2, pl2, _⟩ := Ie.list hy
      obtain ⟨u, hu, ru⟩ := rv2.get hx
      refine wpAny_pyNext_list_item ite pl2.isList (x := u) (by simpa using hu) fun hf itf sbf => ?_
      obtain ⟨sf, esf⟩ : ∃ sf : Shared, sf = { se with heap := hf } := ⟨_, rfl⟩
      have If : Inv (X.blk sc Hc scope ce [it]) [] (wipe σ (own.map (·.2))) He sf := by
        rw [esf]
        exact Ie.turned (t' := se.toks) (fun b o hb e => (sbf.2 b hb).trans e) f0 f1 f3 f4 f5
      have itf2 : sf.heap.IsListIter it a (i + 1) := by rw [esf]; exact itf
      rw [← esf]
      obtain ⟨oi, ei, ci, di⟩ := id itf2
      have ncell : ∀ v, oi.data ≠ .cell v := fun v z => by
        rw [di] at z
        cases z
      refine go_of (s := sf) ei ci di (by decide) ?_
      have Ip : Inv (X.blk sc Hc scope ce [it]) ([] ++ pinsAt [it] sf.heap) (wipe σ (own.map (·.2))) He sf := If.pinned (fun b hb => by rw [List.mem_singleton.mp hb]; exact fpAt If ne) (fun b hb => by rw [List.mem_singleton.mp hb]; exact ⟨oi, ei, ncell⟩)
      -- behind a turn
      have next : ∀ {σ' : L2.St} {s' : Shared} {H' : Hp}, Inv (X.blk sc Hc scope ce [it]) ([] ++ pinsAt [it] sf.heap) σ' H' s' → wipe σ' (own.map (·.2)) = wipe σ (own.map (·.2)) → Nx H' → ∃ m, m < n ∧ ∃ i H', Inv (X.blk sc Hc scope ce [it]) [] (wipe σ (own.map (·.2))) H' s' ∧ s'.heap.IsListIter it a i ∧ H' it = none ∧ W i m H' := fun {σ' s' H'} J hwp nx => by
        obtain ⟨m', lt', w'⟩ := hNx H' nx
        have pin := J.pin (it, oi) (List.mem_append_right _ (List.mem_append_right _ (mem_pinsAt (by simp) ei)))
        refine ⟨m', lt', i + 1, H', (J.unpinned (pins := [])).weak (by rw [← hwp, wipe_length]) (fun j v e => ?_), itf2.at fun o e => ?_, pin.2.1, w'⟩
        · rw [← hwp] at e
          exact (wipe_some e).1
        · rw [ei] at e
          cases e
          exact pin.1
      refine thnF (pg.run _ sf _ He x u _ Ip ru (step x He ⟨rfl, fun zs hz => by rw [Ie.list_inj hz hy]; exact hx⟩)) fun _ sg hgq => ?_
      obtain ⟨σg, Hg, Ig, hwg, qg⟩ := hgq
      refine thnF (pt.run _ sg σg Hg _ Ig qg) fun bb sh hhq => ?_
      obtain ⟨Hh, Ih, qh⟩ := hhq
      cases bb with
      | false =>
        rw [if_neg Bool.false_ne_true] at qh ⊢
        exact next Ih hwg qh
      | true =>
        rw [if_pos rfl] at qh ⊢
        refine thnF (pe.run _ sh σg Hh _ Ih qh) fun z si hiq => ?_
        obtain ⟨yv, Hi, Ii, ri, acc, hDi, hzi, nx⟩ := hiq
        exact app_ok (X := X.blk sc Hc scope ce [it]) Ii hDi hzi ri fun sj Ij => next Ij hwg nx
  exact codeAny_compStart_list loop (wpAny_pyIter_listiter itd loop)
end Cot

set_option Elab.async false
set_option linter.all false
set_option maxRecDepth 100000
set_option maxHeartbeats 4000000
/-! A lambda without parameters handed to a def, whose exceptions bear no context. -/
namespace Cot
open PySem PySem.Spec PyProof.Rows L2 LamX
/-- the lambda's context, exceptions as L2N tells them -/
def lamN (X : Cx) (A : Around) (outer : List Env) (s : Shared) (H : Hp) (E : XK) (scope : Scope) (f c' : Addr) : Cx :=
  (lamCx X A outer s H E scope f c').wish fun e s1 => wpAny (model X.prog X.w) (A.deeper (lamEnv X scope s.heap.objs.size f c')) (leaving (lamEnv X scope s.heap.objs.size f c') e) (fun _ s2 => L2N.CX X.prog X.w outer H s E e s2) (fun e2 s2 => L2N.CX X.prog X.w outer H s E e2 s2) s1
section
variable {X : Cx} {pins : List (Addr × Obj)} {σ : L2.St} {H : Hp} {s : Shared}
theorem actN {CXg : CXT} {Eg : XK} {Ng : List Str} {qg : Str} {sg : Scope} {g f c' : Addr} {cdg pm ctv : Value} {params : Arguments} {body : Expr} {scope : Scope} {k i : Nat} {a : Str} {pn : List (Addr × Obj)} {xe : Value → Shared → Prop} {W : WX} {E : XK} {tb : TE} {p1 p2 : Pos}
    (I : Inv X pins σ H s) (L : LamS X.env.scope scope) (of0 : s.heap.get? f = some (PySem.W.kla_obj "<lambda>" (X.env.qual ++ "<lambda>") params body scope (cloFrom X.env.cells scope.names []) pm c' ctv)) (nf : H f = none) (ff : f ∉ frs X.stack)
    (bnd : bindArgs (PySem.W.kla_fn "<lambda>" (X.env.qual ++ "<lambda>") params body scope (cloFrom X.env.cells scope.names []) pm (.ref c') ctv) ⟨[], []⟩ = pure [])
    (tk : L2N.Takes ((cxOf CXg X.prog X.w X.K X.mg X.base Ng qg sg g cdg X.A X.stack s H Eg).tr pn xe) W) (hW : ∀ cls d σ1 H1, E cls d H1 → W cls d σ1 H1) (hr : Room (k + 1) (X.A.deeper (envOfC qg sg s.heap.objs.size g cdg)))
    (hb : ∀ (A : Around) (outer : List Env) (s : Shared) (H : Hp), Room k (A.deeper (lamEnv X scope s.heap.objs.size f c')) → PE (lamN X A outer s H E scope f c') body tb)
    (hN : Ng[i]? = some a) (hv : Vis sg a) (hd : (a == ("__debug__" : Str)) = false) (hcd : (a == ("__classdict__" : Str)) = false) :
    PE ((cxOf CXg X.prog X.w X.K X.mg X.base Ng qg sg g cdg X.A X.stack s H Eg).tr pn xe) (.Call (.Name a p1) [] [] p2)
      (fun σz Hz Q => σz[i]? = some (some (.ref f)) ∧ Hz c' = some (CodeO c' (X.env.qual ++ "<lambda>")) ∧ tb σ Hz Q) := by
  refine ⟨fun pz sz σz Hz Q Iz hq => ?_⟩
  obtain ⟨h1, h2, h3⟩ := hq
  have var := (pe_var (X := (cxOf CXg X.prog X.w X.K X.mg X.base Ng qg sg g cdg X.A X.stack s H Eg).tr pn xe) (pos := p1) (i := i) hN hv hd hcd).run pz sz σz Hz (fun v H1 => v = .ref f ∧ H1 = Hz) Iz ⟨.ref f, h1, rfl, rfl⟩
  refine wpAny_Call_Name_kw (thn var fun u sa hh => ?_)
  obtain ⟨v, Ha, Ia, ra, rfl, eHa⟩ := hh
  rw [eHa] at Ia
  cases ra
  have ofa := Ia.base.keep f _ of0 nf ff (fun z => nomatch (show f ∈ ([] : List Addr) from z))
  refine PySem.W.callWith_F0 ⟨_, _, _, _, ofa⟩ ?_
  have una : Un (frs X.stack) [] H Hz s.heap sa.heap := Ia.base
  obtain ⟨⟨oc, vs, t, hoc, hdc, hvc⟩, _, _⟩ := Ia.hok c' _ h2
  have run : codeAny (model X.prog X.w) (X.A.deeper (envOfC qg sg s.heap.objs.size g cdg)) (.call (.ref f) ⟨[], []⟩) (CR (L2N.CX X.prog X.w) (envOfC qg sg s.heap.objs.size g cdg :: X.stack) X.prog X.w Hz sa Q E) sa := by
    refine PySem.W.kla_callFunE hr.depth ofa rfl L.co L.gen rfl ⟨c', oc, vs, t, rfl, hoc, hdc, hvc⟩ ?_
    rw [bnd]
    apply wpAny_pure
    refine wpAny_newFunctionEnv (fun y hy => (L.own y hy).2) (fun y hy => absurd hy (by simp)) (fun hn ns sb => ⟨Ia.nolimit.fresh _ sb, ?_⟩) L.kind
    have keep : ∀ b o, sa.heap.get? b = some o → hn.get? b = some o := fun b o e => sb.extBut b o (Nat.ne_of_lt (Heap.lt_size e)) (Heap.get?_push_of_some _ e)
    have J := (lam_start2 (E := E) (f := f) (c' := c') (tk := sa.toks + ([] : List (Str × Value)).length) I L Ia.env0 hr.hd una ns keep).wish (fun e s1 => wpAny (model X.prog X.w) ((X.A.deeper (envOfC qg sg s.heap.objs.size g cdg)).deeper (lamEnv X scope sa.heap.objs.size f c')) (leaving (lamEnv X scope sa.heap.objs.size f c') e) (fun _ s2 => L2N.CX X.prog X.w (envOfC qg sg s.heap.objs.size g cdg :: X.stack) Hz sa E e s2) (fun e2 s2 => L2N.CX X.prog X.w (envOfC qg sg s.heap.objs.size g cdg :: X.stack) Hz sa E e2 s2) s1)
    show codeAny _ _ (.expr body (lamEnv X scope sa.heap.objs.size f c')) _ _
    refine PySem.W.kla_codeExpr (wpAny_mono ((hb _ _ sa Hz (hr.deeper _)).run [] _ _ Hz Q J h3) (fun v s1 hv => ?_) fun e s1 hv => hv)
    obtain ⟨v1, H1, J1, r1, q1⟩ := hv
    exact ⟨v1, H1, J1.os, J1.bare, J1.base, J1.hok, r1, q1⟩
  have pass := L2N.passes_call tk hW
  refine wpAny_call (codeAny_mono run fun r s1 hv => ?_)
  cases r with
  | error e => exact pass pz σz Hz sa e s1 Ia hv
  | ok fl =>
    cases fl with
    | ret u => exact Ia.after hv
    | next => exact hv.elim
    | brk => exact hv.elim
    | cont => exact hv.elim
end
/-- the def that calls what it got -/
def GivesN (X : Cx) (Ng : List Str) (x : Str) (sg : Scope) (g : Addr) (cdg : Value) (bg : List Stmt) (a : Str) (q : Str) (k : Nat) (TT : (XK → Hp → VK → Prop) → Hp → VK → Prop) : Prop :=
  ∀ (f c' : Addr) (s : Shared) (H : Hp) (Q : VK) (tl : XK → Hp → VK → Prop), Room (k + 1) (X.A.deeper (envOfC x sg s.heap.objs.size g cdg)) →
    (∀ (W : WX) (pn : List (Addr × Obj)) (xe : Value → Shared → Prop) (E : XK) (p1 p2 : Pos), L2N.Takes ((cxOf C8.CX0 X.prog X.w X.K X.mg X.base Ng x sg g cdg X.A X.stack s H C8.E0).tr pn xe) W → (∀ cls d σ1 H1, E cls d H1 → W cls d σ1 H1) →
      PE ((cxOf C8.CX0 X.prog X.w X.K X.mg X.base Ng x sg g cdg X.A X.stack s H C8.E0).tr pn xe) (.Call (.Name a p1) [] [] p2) (fun σz Hz Q => σz[0]? = some (some (.ref f)) ∧ Hz c' = some (CodeO c' q) ∧ tl E Hz Q)) →
    H c' = some (CodeO c' q) → TT tl H Q →
    ∃ t, PSs (cxOf C8.CX0 X.prog X.w X.K X.mg X.base Ng x sg g cdg X.A X.stack s H C8.E0).nox bg t ∧ t { nx := fun _ H1 => Q .non H1, rt := Q } (L2.start Ng [.ref f]) H
theorem pe_lamN {X : Cx} {T : List (Addr × Str)} {TT : (XK → Hp → VK → Prop) → Hp → VK → Prop} {x a : Str} {g c P : Addr} {k : Nat} {pg : Arguments} {bg : List Stmt} {sg : Scope} {dV kV doc pm cdv ct oc : Value} {an od : Option Addr} {osl : Array (Option Value)} {Ng : List Str}
    {params : Arguments} {body : Expr} {scope : Scope} {t : XK → TE} {p lpos pos : Pos} (hg : Gl X x) (hm : X.mg x = some (.ref g)) (hk : PySem.W.keepIn X.K (.ref g) = true)
    (lk : X.K.lookup g = some ⟨oc, od, .func (PySem.W.fnOf x x pg bg sg dV kV doc pm an cdv ct), osl⟩) (hcg : PySem.W.codeIn X.K cdv x = true) (hbi : L2.Binds X.K (PySem.W.fnOf x x pg bg sg dV kV doc pm an cdv ct) [a] []) (Sg : FnScope Ng [a] sg) (hNg : Ng[0]? = some a) (hva : Vis sg a)
    (hG : GivesN X Ng x sg g cdv bg a (X.env.qual ++ "<lambda>") k TT)
    (TB : TabB X.base X.mg c P) (hcode : X.env.code = .ref c) (hmT : (P, X.env.qual ++ "<lambda>") ∈ T) (hu : ∀ q ∈ T, q.1 = P → q.2 = X.env.qual ++ "<lambda>") (hr : Room (k + 2) X.A) (L : LamS X.env.scope scope) (hdef : defaultsOf params X.env = ([], []))
    (bnd : ∀ (q : Str) (cl : List (Str × Addr)) (pm cv ctv : Value), bindArgs (PySem.W.kla_fn "<lambda>" q params body scope cl pm cv ctv) ⟨[], []⟩ = pure [])
    (hb : ∀ (A : Around) (outer : List Env) (s : Shared) (H : Hp) (E : XK) (f c' : Addr), Room k (A.deeper (lamEnv X scope s.heap.objs.size f c')) → PE (lamN X A outer s H E scope f c') body (t E))
    (hdb : (x == ("__debug__" : Str)) = false := by decide) (hd : (a == ("__debug__" : Str)) = false := by decide) (hcd : (a == ("__classdict__" : Str)) = false := by decide) :
    PE X (.Call (.Name x p) [.Lambda params body scope lpos] [] pos) (tLam T TT t) := by
  refine ⟨fun pz sz σz Hz Q Iz hq => ?_⟩
  obtain ⟨hT, hq⟩ := hq
  refine wpAny_Call_Name_kw (ld_glob Iz hg hm (PySem.W.callWith_K (h₀ := X.base) Iz.ok.mod.kin hk ?_ (by rfl) (by rfl)) hdb)
  show wpAny _ _ (spliced ((false, eval (.Lambda params body scope lpos) X.env) :: backTo pos (starEach [] X.env))) _ _ sz
  refine Calls.spliced_cons (lam_make2 Iz TB hcode hmT hu hT hdef (L.has Iz.ok) fun f c' pm1 ctv Ha sa Ia eN Ta of0 nf ff hco => ?_)
  refine Calls.spliced_nil ⟨Ia.kIn, ?_⟩
  have run : codeAny (model X.prog X.w) X.A (.call (.ref g) ⟨[.ref f], []⟩) (CR C8.CX0 X.stack X.prog X.w Ha sa Q C8.E0) sa := by
    refine run_ofS (N := Ng) (ps := [a]) (us := [.ref f]) (vs := [.ref f]) lk hcg Sg hr Ia.env0 (hbi sa [.ref f] Ia.kIn rfl) (.cons rfl .nil) rfl fun hr1 => ?_
    obtain ⟨t1, ht1, hq1⟩ := hG f c' sa Ha Q (fun E H1 Q1 => t E σz H1 Q1) hr1 (fun W pn xe E p1 p2 tk hW => actN (i := 0) Ia L of0 nf ff (bnd _ _ _ _ _) tk hW hr1 (fun A outer s H hr2 => hb A outer s H E f c' hr2) hNg hva hd hcd) hco (hq Ha eN Ta)
    exact ⟨t1, ht1.nox, hq1⟩
  refine wpAny_call (codeAny_mono run fun r s1 hv => ?_)
  cases r with
  | error e => exact (show False from hv).elim
  | ok fl =>
    cases fl with
    | ret u => exact Ia.after hv
    | next => exact hv.elim
    | brk => exact hv.elim
    | cont => exact hv.elim
end Cot

set_option Elab.async false
set_option linter.all false
set_option maxRecDepth 100000
set_option maxHeartbeats 4000000
/-! A def that is handed the exception that is being handled; isinstance of it. -/
namespace Cot
open PySem PySem.Spec PyProof.Rows L2 L2H
/-- what such a def promises: told of the exception's place and object -/
structure FnP (P : Program) (w : World) (K : PySem.W.Frag) (mg : Str → Option Value) (base : Heap) (CX : CXT) (k : Nat) (f : Addr) (fd : FuncData) (ps : List Str) (sp : Addr × Obj → Sp) : Prop where
  ln : ∀ p vs H Q E, sp p vs H Q E → vs.length = ps.length
  go : ∀ (p : Addr × Obj) (A : Around) (st : List Env) (s : Shared) (H : Hp) (as : Args) (us : List Value) (vs : List V) (Q : VK) (E : XK), RoomH k A → Hot1 A p → PinOk st H s p →
    Env0 P w K mg base A st s H → BindsTo s fd as (ps.zip us) → Vals vs us → sp p vs H Q E → codeAny (model P w) A (.call (.ref f) as) (CR CX st P w H s Q E) s
theorem fn_ofP {P : Program} {w : World} {K : PySem.W.Frag} {mg : Str → Option Value} {base : Heap} {CX : CXT} {k : Nat} {f : Addr} {nm ql : Str} {par : Arguments} {bd : List Stmt} {sc : Scope} {dV kV doc pm cdv ct oc : Value} {an od : Option Addr} {osl : Array (Option Value)} {N ps : List Str} {sp : Addr × Obj → Sp}
    (hl : K.lookup f = some ⟨oc, od, .func (PySem.W.fnOf nm ql par bd sc dV kV doc pm an cdv ct), osl⟩) (hcd : PySem.W.codeIn K cdv ql = true) (S : FnScope N ps sc) (ln : ∀ p vs H Q E, sp p vs H Q E → vs.length = ps.length)
    (hb : ∀ (p : Addr × Obj) (A : Around) (st : List Env) (s : Shared) (H : Hp) (vs : List V) (Q : VK) (E : XK), Hot1 A p → RoomH k (A.deeper (envOfC ql sc s.heap.objs.size f cdv)) → sp p vs H Q E →
      ∃ t, PSs (cxH CX P w K mg base N ql sc f cdv A st s H E p) bd t ∧ t { nx := fun _ H1 => Q .non H1, rt := Q } (L2.start N vs) H) :
    FnP P w K mg base CX (k + 1) f (PySem.W.fnOf nm ql par bd sc dV kV doc pm an cdv ct) ps sp := by
  refine ⟨ln, ?_⟩
  intro p A st s H as us vs Q E room hot pin e0 bnd rel want
  have kin : K.In s.heap := e0.mod.kin.keeps fun b o e => (e0.bs b o e).1
  have nol : s.heap.NoLimit := e0.mod.nolimit.keeps fun b o e => (e0.bs b o e).1
  refine codeAny_call_function room.depth (kin _ _ hl) rfl S.co S.gen rfl (PySem.W.codeRec_of kin hcd) (bnd _ _ _ _ ?_)
  refine wpAny_newFunctionEnv_cells S.kind (fun y hy => ?kinds) fun env he s1 x => ?rest
  case kinds =>
    obtain ⟨n, v⟩ := y
    cases S.par n (List.of_mem_zip hy).1 with
    | inl q => exact .inl q
    | inr q => exact .inr ⟨q, PySem.W.cellsFrom_some _ _ _ (.inl q)⟩
  case rest =>
    subst he
    refine ⟨nol.keeps x.toInCall.keep, codeAny_func ?_⟩
    obtain ⟨t, ht, want2⟩ := hb p A st s H vs Q E hot (room.deeper _) want
    have I0 := inv_startH (CX := CX) (E := E) (qual := ql) (f := f) (cd := cdv) S pin e0 (ln _ _ _ _ _ want) rel x
    refine wpAny_mono (ht.run [] s1 _ H _ I0 want2) (fun fl s2 h2 => ?_) fun _ _ h2 => h2
    cases fl with
    | next =>
      obtain ⟨σ2, H2, J, q⟩ := h2
      exact ⟨V.non, H2, J.os, J.bare, J.base, J.hok, rfl, q⟩
    | ret u =>
      obtain ⟨v, σ2, H2, J, rv, q⟩ := h2
      exact ⟨v, H2, J.os, J.bare, J.base, J.hok, rv, q⟩
    | brk =>
      obtain ⟨_, _, _, q⟩ := h2
      cases q
    | cont =>
      obtain ⟨_, _, _, q⟩ := h2
      cases q
section
variable {X : Cx} {p : Addr × Obj}
theorem pe_callP {CX : CXT} {k : Nat} {f : Addr} {fd : FuncData} {ps : List Str} {sp : Addr × Obj → Sp} {E : L2.St → XK} {x : Str} {q pos : Pos} {e : Expr} {es : List Expr} {t : TA}
    (F : FnP X.prog X.w X.K X.mg X.base CX k f fd ps sp) (room : RoomH k X.A) (hot : Hot1 X.A p) (hp : p ∈ X.pn) (hg : Gl X x) (hm : X.mg x = some (.ref f)) (hk : PySem.W.keepIn X.K (.ref f) = true) (hb : L2.Binds X.K fd ps [])
    (hx : ∀ σ, PassesAt CX X σ (E σ)) (ha : PA X (e :: es) t) (hdb : (x == ("__debug__" : Str)) = false := by decide) (he : starEach (e :: es) X.env = (false, eval e X.env) :: starEach es X.env := by rfl)
    (hpl : (backTo pos (starEach es X.env)).any (·.1) = false := by rfl) : PE X (.Call (.Name x q) (e :: es) [] pos) (tCallS (sp p) E t) := by
  refine ⟨fun pins s σ H Q I want => wpAny_Call_Name_kw (ld_glob I hg hm ?_ hdb)⟩
  refine PySem.W.callWith_K (h₀ := X.base) I.ok.mod.kin hk (thn (ha.run pos pins s σ H _ I want) fun us s1 hh => ?_) he hpl
  obtain ⟨vs, H1, I1, rel, want1⟩ := hh
  refine ⟨I1.kIn, ?_⟩
  have pn := I1.pin p (List.mem_append_left _ hp)
  have bnd := hb s1 us I1.kIn (by rw [List.append_nil, ← rel.length]; exact F.ln _ _ _ _ _ want1)
  rw [List.append_nil] at bnd
  have out : PinOk X.stack H1 s1 p := ⟨pn.1, pn.2.1, fun z => (List.mem_cons.mp (I1.stkSub p.1 z)).elim pn.2.2.1 pn.2.2.2.1, pn.2.2.2.2⟩
  refine wpAny_call (codeAny_mono (F.go p X.A X.stack s1 H1 ⟨us, []⟩ us vs Q (E σ) room hot out I1.env0 bnd rel want1) fun r s2 hv => ?_)
  cases r with
  | error u => exact hx σ pins H1 s1 u s2 I1 hv
  | ok fl =>
    cases fl with
    | ret u => exact I1.after hv
    | next => cases hv
    | brk => cases hv
    | cont => cases hv
/-- isinstance of the exception that is handled -/
theorem call_isP {D : Addr} (C : ExcC X.K D) (hp : p ∈ X.pn) (hz : Zc (.ref D) none p.2) (hf : ∃ vs, p.2.data = .fields vs) : CallR X (.builtin "isinstance") (rIsE X.K D p.1) := by
  intro pins s σ H xs us Q I rel want
  obtain ⟨c, cv, b, rfl, only, ans, q⟩ := want
  obtain ⟨a, oe⟩ := p
  obtain ⟨oc, od, oda, osl⟩ := oe
  obtain ⟨h1, h2⟩ := hz
  obtain ⟨vs, h3⟩ := hf
  dsimp only at h1 h2 h3
  have got := (I.pin _ (List.mem_append_left _ hp)).1
  subst h1 h2 h3
  cases rel with
  | cons r1 r2 =>
    cases r2 with
    | cons r2 r3 =>
      cases r3
      cases r1
      obtain rfl := only _ r2
      have at' : PySem.W.InstAt s.heap a ⟨.ref D, none, .fields vs, osl⟩ D none := ⟨got, rfl, rfl, trivial⟩
      refine PySem.W.kia_one (PySem.W.handS_kitx_exc C.hg C.hk C.hs C.hd C.ha C.hn C.ht C.hm) I.kIn at' ans (fun z => nomatch z) fun tk => ?_
      exact ⟨.bl b, H, I.kept (t' := tk) fun _ _ z => z, rfl, q⟩
end
end Cot

set_option Elab.async false
set_option linter.all false
set_option maxRecDepth 100000
set_option maxHeartbeats 4000000
/-! Own exception classes: their facts, defs that raise, texts joined, pairs walked. -/
namespace Cot
open PySem PySem.Spec PyProof.Rows L2 L2H Evl RZ
section
variable {P : Program} {w : World} {K : PySem.W.Frag} {mg : Str → Option Value} {base : Heap}
theorem okN {x ql : Str} {st : Stmt} {f : Addr} {fd : FuncData} {N ps : List Str} {k : Nat} {sp : Sp} (F : Fun K x ql st f fd) (S : FnScope N ps (defScope st)) (ln : ∀ vs H Q E, sp vs H Q E → vs.length = ps.length)
    (hb : ∀ (cdv : Value) (A : Around) (st2 : List Env) (s : Shared) (H : Hp) (vs : List V) (Q : VK) (E : XK), Room k (A.deeper (envOfC ql (defScope st) s.heap.objs.size f cdv)) → sp vs H Q E →
      ∃ t, PSs (cxOf (L2N.CX P w) P w K mg base N ql (defScope st) f cdv A st2 s H E) (defBody st) t ∧ t { nx := fun _ H1 => Q .non H1, rt := Q } (L2.start N vs) H) : FnOk P w K mg base (L2N.CX P w) (k + 1) f fd ps sp := by
  obtain ⟨_, _, _, _, _, _, cdv, _, _, rfl, lk, hcd⟩ := F.ex
  exact fn_of lk hcd S ln fun A st2 s H vs Q E hr h => hb cdv A st2 s H vs Q E hr h
theorem okP {x ql : Str} {st : Stmt} {f : Addr} {fd : FuncData} {N ps : List Str} {k : Nat} {CX : CXT} {sp : Addr × Obj → Sp} (F : Fun K x ql st f fd) (S : FnScope N ps (defScope st)) (ln : ∀ p vs H Q E, sp p vs H Q E → vs.length = ps.length)
    (hb : ∀ (cdv : Value) (p : Addr × Obj) (A : Around) (st2 : List Env) (s : Shared) (H : Hp) (vs : List V) (Q : VK) (E : XK), Hot1 A p → RoomH k (A.deeper (envOfC ql (defScope st) s.heap.objs.size f cdv)) → sp p vs H Q E →
      ∃ t, PSs (cxH CX P w K mg base N ql (defScope st) f cdv A st2 s H E p) (defBody st) t ∧ t { nx := fun _ H1 => Q .non H1, rt := Q } (L2.start N vs) H) : FnP P w K mg base CX (k + 1) f fd ps sp := by
  obtain ⟨_, _, _, _, _, _, cdv, _, _, rfl, lk, hcd⟩ := F.ex
  exact fn_ofP lk hcd S ln fun p A st2 s H vs Q E hot hr h => hb cdv p A st2 s H vs Q E hot hr h
end
/-- a class of errors, by its name -/
structure ExB (K : PySem.W.Frag) (mg : Str → Option Value) (x : Str) (C : Addr) : Prop where
  g : mg x = some (.ref C)
  kp : PySem.W.keepIn K (.ref C) = true
/-- one under ValueError, without an own __init__ -/
structure Exn (K : PySem.W.Frag) (mg : Str → Option Value) (x : Str) (C : Addr) : Prop extends ExB K mg x C where
  xi : PySem.W.excIn K C [.type "ValueError", .type "Exception", .type "BaseException", .type "object"] "ValueError.__new__" = true
  sb : PySem.W.subIn K (.ref C) (.type "BaseException") = some true
  ty : PySem.W.typeIn K (.ref C) = some (.type "type")
/-- isinstance of an instance of D, class by class -/
inductive KRow (K : PySem.W.Frag) (D : Addr) : List Value → List Bool → Prop
  | nil : KRow K D [] []
  | cons {c : Value} {b : Bool} {cs : List Value} {bs : List Bool} (h : PySem.W.kitOne K (.ref D) c = some b) (r : KRow K D cs bs) : KRow K D (c :: cs) (b :: bs)
theorem KRow.get {K : PySem.W.Frag} {D : Addr} {cs : List Value} {bs : List Bool} (r : KRow K D cs bs) : ∀ (i : Nat) (c : Value), cs[i]? = some c → PySem.W.kitOne K (.ref D) c = some (bs.getD i false) := by
  induction r with
  | nil => intro i c e; simp at e
  | cons h _ ih =>
    intro i c e
    cases i with
    | zero =>
      cases e
      exact h
    | succ i => exact ih i c e
theorem Exn.pmk {X : Cx} {x m : Str} {C : Addr} {j : Nat} {p p2 pos : Pos} (e : Exn X.K X.mg x C) (hg : Gl X x) (hdb : (x == ("__debug__" : Str)) = false := by decide) : L2N.PMk X (.Call (.Name x p) [.Constant (.str m) j p2] [] pos) (fun _ H Q => Q (.ref C) none H) :=
  L2N.pmk_own PySem.F.excBase_ValueError e.xi e.g e.kp (raises_own e.sb e.ty) hg hdb
section
variable {K : PySem.W.Frag} {X : Cx} {H H' Hd Hd' Hn H1 H2 Hm : Hp} {σ : L2.St} {ta tb tc te tx tl to : TE} {d : PyData} {ds es : List PyData} {tr : TA} {i j j2 n : Nat}
/-- a list of pairs, walked -/
theorem ei_pairs {f f2 : Nat → Option PyData} (h : EvD K tl σ Hd (.list ds)) (hp : ∀ i d, ds[i]? = some d → ∃ d1 d2, d = .tuple [d1, d2] ∧ f i = some d1 ∧ f2 i = some d2) : EvI K (iList K tl) (g2 K j j2) σ Hd ds.length (SPair K j j2 f f2) := fun H s R r =>
  h H s _ fun v H2 Hn g hd => by
    cases hd with
    | @lst a xs ds hs hall =>
      refine ⟨a, rfl, ⟨xs, ex_l g.sub hs⟩, r _ H2 Hn _ _ g (by rw [← dpa_len hall]; exact walk_list) (fun H' e => ex_l e hs) fun i x H' H'' σ' k hi e y q => ?_⟩
      obtain ⟨rfl, hx⟩ := y
      obtain ⟨d, h1, h2⟩ := dpa_get2 hall hx
      obtain ⟨d1, d2, rfl, q1, q2⟩ := hp i d h1
      cases h2 with
      | @tup T ys es ht hal =>
        cases hal with
        | cons p1 p2 =>
          cases p2 with
          | cons p2 p3 =>
            cases p3
            exact ⟨T, _, rfl, ex_t e ht, rfl, _, _, rfl, _, [], rfl, rfl, q _ _ (Ex.refl _) ⟨_, _, d1, d2, q1, q2, p1, p2, rfl⟩⟩
def rJo (K : PySem.W.Frag) : V → List V → Hp → VK → Prop := fun x xs H Q => ∃ a p, ∃ ys : List Str, x = .str a ∧ xs = [.ref p] ∧ (SqL K H p (ys.map V.str) ∨ SqT K H p (ys.map V.str)) ∧ (ys.map (·.length)).sum + ys.length * a.length ≤ 16777216 ∧ Q (.str (Txt.join a ys)) H
theorem pe_jo {o e : Expr} {apos pos : Pos} (ho : PE X o to) (he : PE X e te) (hs : starEach [e] X.env = [(false, eval e X.env)] := by rfl) (hbase : attributeBase o "join" X.env (eval o X.env) = eval o X.env := by rfl) (hline : (apos.endLine == pos.line) = true := by rfl) :
    PE X (.Call (.Attribute o "join" apos) [e] [] pos) (tM1 (rJo X.K) to te) := pe_join ho he hs hbase hline
theorem dpa_strs_inv : ∀ {ns : List Str} {vs : List V}, DpAll K H vs (ns.map PyData.str) → vs = ns.map V.str
  | [], _, h => by cases h; rfl
  | n :: ns, _, h => by
    cases h with
    | cons a b =>
      cases a
      rw [dpa_strs_inv b]
      rfl
theorem ev_jo {a : Str} {ys : List Str} (ho : Ev to σ Hd (.str a)) (h : EvD K te σ Hd (.list (ys.map .str))) (hl : (ys.map (·.length)).sum + ys.length * a.length ≤ 16777216) : Ev (tM1 (rJo K) to te) σ Hd (.str (Txt.join a ys)) := fun H s Q q =>
  ho H s _ fun H1 e1 => ⟨⟨a, rfl⟩, h H1 (s.trans e1) _ fun v H2 Hn g hd => by
    cases hd with
    | @lst p xs ds hs hall =>
      have e := dpa_strs_inv hall
      subst e
      exact ⟨a, p, ys, rfl, rfl, .inl (ex_l g.sub hs), hl, q H2 (e1.trans g.ex)⟩⟩
theorem ev_isX {D a C : Addr} {b : Bool} (ha : Ev ta σ H (.ref a)) (k : PySem.W.kitOne K (.ref D) (.ref C) = some b) : Ev (tCB (rIsE K D a) (tCons ta (tCons (tC (.ref C)) tNil))) σ H (.bl b) := fun H1 s Q q =>
  ha H1 s _ fun H2 e => ⟨.ref C, .ref C, b, rfl, fun u r => r, k, q H2 e⟩
theorem ev_isXT {D a : Addr} {T : String} {b : Bool} (ha : Ev ta σ H (.ref a)) (k : PySem.W.kitOne K (.ref D) (.type T) = some b) : Ev (tCB (rIsE K D a) (tCons ta (tCons (tC (.ty T)) tNil))) σ H (.bl b) := fun H1 s Q q =>
  ha H1 s _ fun H2 e => ⟨.ty T, .type T, b, rfl, fun u r => r, k, q H2 e⟩
end
end Cot

set_option Elab.async false
set_option linter.all false
set_option maxRecDepth 100000
set_option maxHeartbeats 4000000
/-! Defs that answer or refuse: their promise by data, their calls. -/
namespace Cot
open PySem PySem.Spec PyProof.Rows L2 Evl
/-- an answer by R, or an error of a class by Rx -/
def spX (K : PySem.W.Frag) (R : List PyData → PyData → Prop) (Rx : List PyData → Addr → Prop) : Sp := fun vs H Q E => ∃ Hd ds, Ex Hd H ∧ DpAll K Hd vs ds ∧
  ((∃ d, R ds d ∧ ∀ v H2 Hn, Gr Hd H Hn H2 → Dp K Hn v d → Q v H2) ∨ ∃ C, Rx ds C ∧ ∀ H2, Ex H H2 → E (.ref C) none H2)
section
variable {K : PySem.W.Frag} {H Hd : Hp} {σ : L2.St} {tr : TA} {D : Ends} {tz : TS} {ds : List PyData} {d : PyData} {C : Addr} {E : XK} {R : List PyData → PyData → Prop} {Rx : List PyData → Addr → Prop} {Q : VK} {dv : List V} {dd : List PyData}
theorem tx_ok (s : Ex Hd H) (h : EvDA K tr σ Hd ds) (hv : ∀ H, DpAll K H dv dd) (hr : R (ds ++ dd) d) (k : ∀ v H2 Hn, Gr Hd H Hn H2 → Dp K Hn v d → Q v H2) : tCall (spX K R Rx) dv E tr σ H Q :=
  h H s _ fun vs H2 Hn g hd => ⟨Hn, ds ++ dd, g.sub, dpa_app hd (hv Hn), .inl ⟨d, hr, fun v H3 Hm g3 hv => k v H3 Hm (g.trans g3) hv⟩⟩
theorem tx_no (s : Ex Hd H) (h : EvDA K tr σ Hd ds) (hv : ∀ H, DpAll K H dv dd) (hr : Rx (ds ++ dd) C) (k : ∀ H2, Ex H H2 → E (.ref C) none H2) : tCall (spX K R Rx) dv E tr σ H Q :=
  h H s _ fun vs H2 Hn g hd => ⟨Hn, ds ++ dd, g.sub, dpa_app hd (hv Hn), .inr ⟨C, hr, fun H3 e3 => k H3 (g.ex.trans e3)⟩⟩
theorem go_dropOk (s : Ex Hd H) (h : EvDA K tr σ Hd ds) (hr : R ds d) (k : ∀ v H2 Hn, Gr Hd H Hn H2 → Dp K Hn v d → Go tz D σ H2) : Go (tSeq (tDrop (tCall (spX K R Rx) [] E tr)) tz) D σ H := fun H1 e1 =>
  tx_ok (s.trans e1) h (fun _ => .nil) (by rw [List.append_nil]; exact hr) fun v H2 Hn g hd => k v H2 Hn (g.pre e1) hd H2 (Ex.refl _)
theorem go_dropNo (s : Ex Hd H) (h : EvDA K tr σ Hd ds) (hr : Rx ds C) (k : ∀ H2, Ex H H2 → E (.ref C) none H2) : Go (tSeq (tDrop (tCall (spX K R Rx) [] E tr)) tz) D σ H := fun H1 e1 =>
  tx_no (s.trans e1) h (fun _ => .nil) (by rw [List.append_nil]; exact hr) fun H2 e2 => k H2 (e1.trans e2)
theorem go_raise (k : ∀ H2, Ex H H2 → E (.ref C) none H2) : Go (tSeq (fun _ σ H => (fun _ H1 Q1 => Q1 (Value.ref C) none H1 : L2.St → Hp → XK → Prop) σ H fun cls d H1 => E cls d H1) tz) D σ H := fun H1 e1 => k H1 e1
end
end Cot

set_option Elab.async false
set_option linter.all false
set_option maxRecDepth 100000
set_option maxHeartbeats 4000000
/-! Tables of code objects beside boxes and lists; a loop over a range that asks nothing of the heap. -/
namespace Cot
open PySem PySem.Spec PyProof.Rows L2 Evl LamX
def hp0 : Hp := fun _ => none
theorem ex0 {H : Hp} : Ex hp0 H := fun _ _ h => nomatch h
section
variable {K : PySem.W.Frag} {b : Bid} {l : Addr} {H H1 H2 Hd Hn : Hp} {Tt : List (Addr × Str)} {xs : List V} {o : HO}
theorem tabs_but (hl : H l = some (.lst xs)) (k : ∀ a o, a ≠ l → H a = some o → H2 a = some o) (t : Tabs Tt H) : Tabs Tt H2 := fun p hp => by
  obtain ⟨ps, h1, h2, h3⟩ := t p hp
  refine ⟨ps, k _ _ (fun z => ?_) h1, h2, fun pos cv hc => ?_⟩
  · rw [z, hl] at h1
    cases h1
  · obtain ⟨c, e, hcd⟩ := h3 pos cv hc
    refine ⟨c, e, k _ _ (fun z => ?_) hcd⟩
    rw [z, hl] at hcd
    unfold CodeO at hcd
    cases hcd
theorem tabs_box (t : Tabs Tt H) (B : Bx H b) (g : GrB b Hd H Hn H2) : Tabs Tt H2 := by
  obtain ⟨cells, xs, h1, _⟩ := B
  exact tabs_but h1 (fun a o n h => g.exb a o n h) t
theorem tabs_ex (t : Tabs Tt H) (e : Ex H H2) : Tabs Tt H2 := t.ext e
theorem lst_extN (h : H l = some (.lst xs)) (e : ExtN H H2) : H2 l = some (.lst xs) := e l _ h fun ps z => by cases z
theorem bx_extN (B : Bx H b) (e : ExtN H H2) : Bx H2 b := by
  obtain ⟨cells, xs, h1, h2, h3, h4⟩ := B
  exact ⟨cells, xs, lst_extN h1 e, h2, lst_extN h3 e, h4⟩
theorem extN_ex (e : Ex H H2) : ExtN H H2 := ExtN.of e
theorem extN_new (h : H l = none) : ExtN H (upd H l o) := ExtN.of (Ex.new h)
end
section
variable {K : PySem.W.Frag} {H : Hp} {σ : L2.St} {ta te : TE} {tr : TA} {D : Ends} {tu tz : TS} {j : Nat} {m : Int}
theorem go_forN (h : EvA tr σ H [.int m]) (hm : -100000 ≤ m ∧ m ≤ 100000) (Pv : Nat → L2.St → Hp → Prop) (h0 : ∀ H', Ex H H' → Pv 0 σ H') (hs : ∀ i σ' H', i < m.toNat → Pv i σ' H' → Go tu { D with nx := Pv (i + 1), ct := Pv (i + 1), bk := tz D } (σ'.set j (some (.int (i : Int)))) H')
    (hd : ∀ σ' H', Pv m.toNat σ' H' → Go tz D σ' H') : Go (tSeq (tFor (iRng1 tr) (gName j) tu) tz) D σ H := fun H1 e1 =>
  h H1 e1 _ fun H2 e2 => by
    refine ⟨m, rfl, by omega, by omega, for_it (walk_range (lo := 0) (n := m.toNat)) Pv (h0 H2 (e1.trans e2)) (fun _ _ _ _ _ => trivial) (fun i x σ' H' H'' hi q y => ?_) (fun σ' H' q => hd σ' H' q H' (Ex.refl _))⟩
    obtain ⟨rfl, rfl⟩ := y
    have e0 : (0 : Int) + (i : Int) = (i : Int) := Int.zero_add _
    show tu _ (σ'.set j (some (.int ((0 : Int) + (i : Int))))) _
    rw [e0]
    exact hs i σ' _ hi q _ (Ex.refl _)
def rInt1 : List V → Hp → VK → Prop := fun xs H Q => (∃ i, xs = [.int i] ∧ Q (.int i) H) ∨ ∃ k, xs = [.bl k] ∧ Q (.int (if k then 1 else 0)) H
theorem call_intQ {X : Cx} : CallR X (.type "int") rInt1 := call_int1
theorem ev_intB {k : Bool} (h : Ev ta σ H (.bl k)) : Ev (tCB rInt1 (tCons ta tNil)) σ H (.int (if k then 1 else 0)) := fun H1 e Q q => h H1 e _ fun H2 e2 => .inr ⟨k, rfl, q H2 e2⟩
end
end Cot

set_option Elab.async false
set_option linter.all false
set_option maxRecDepth 100000
set_option maxHeartbeats 4000000
/-! A heap without its tables: data stands there as before, and stays behind a lambda. -/
namespace Cot
open PySem PySem.Spec PyProof.Rows L2 Evl LamX
def noT (H : Hp) : Hp := fun a => match H a with
  | some (.tbl _) => none
  | o => o
section
variable {K : PySem.W.Frag} {H H2 Hd : Hp} {a : Addr} {o : HO} {xs : List V}
theorem noT_some (h : noT H a = some o) : H a = some o ∧ ∀ ps, o ≠ .tbl ps := by
  unfold noT at h
  split at h
  · cases h
  · rename_i hn
    refine ⟨h, fun ps z => ?_⟩
    subst z
    exact hn _ h
theorem noT_of (h : H a = some o) (n : ∀ ps, o ≠ .tbl ps) : noT H a = some o := by
  unfold noT
  split
  · rename_i ps hp
    rw [h] at hp
    exact absurd (Option.some.inj hp) (n ps)
  · exact h
theorem noT_none (h : H a = none) : noT H a = none := by
  cases e : noT H a with
  | none => rfl
  | some o =>
    have := (noT_some e).1
    rw [h] at this
    cases this
theorem noT_ex : Ex (noT H) H := fun a o h => (noT_some h).1
theorem noT_extN (s : Ex Hd H) (e : ExtN H H2) : Ex (noT Hd) H2 := fun a o h => e a o (s a o (noT_some h).1) (noT_some h).2
theorem noT_l (h : SqL K H a xs) : SqL K (noT H) a xs := by
  rcases h with (h | ⟨o, h⟩) | h
  · exact .inl (.inl (noT_of h fun ps z => by cases z))
  · exact .inl (.inr ⟨o, noT_of h fun ps z => by cases z⟩)
  · exact .inr h
theorem noT_t (h : SqT K H a xs) : SqT K (noT H) a xs := by
  rcases h with (h | ⟨o, h⟩) | h
  · exact .inl (.inl (noT_of h fun ps z => by cases z))
  · exact .inl (.inr ⟨o, noT_of h fun ps z => by cases z⟩)
  · exact .inr h
mutual
theorem dp_noT : ∀ (d : PyData) {v : V}, Dp K H v d → Dp K (noT H) v d
  | .none, _, h => by cases h; exact .non
  | .bool b, _, h => by cases h; exact .bl b
  | .int i, _, h => by cases h; exact .int i
  | .str x, _, h => by cases h; exact .str x
  | .list ds, _, h => by
    cases h with
    | lst hs ha => exact .lst (noT_l hs) (dpa_noT ds ha)
  | .tuple ds, _, h => by
    cases h with
    | tup hs ha => exact .tup (noT_t hs) (dpa_noT ds ha)
  | .dict _, _, h => by cases h
theorem dpa_noT : ∀ (ds : List PyData) {vs : List V}, DpAll K H vs ds → DpAll K (noT H) vs ds
  | [], _, h => by cases h; exact .nil
  | d :: ds, _, h => by
    cases h with
    | cons h1 h2 => exact .cons (dp_noT d h1) (dpa_noT ds h2)
end
/-- data stays data behind a lambda -/
theorem dp_extN {d : PyData} {v : V} (s : Ex Hd H) (e : ExtN H H2) (h : Dp K Hd v d) : Dp K H2 v d := dp_mono (noT_extN s e) d (dp_noT d h)
end
end Cot

set_option Elab.async false
set_option linter.all false
set_option maxRecDepth 100000
set_option maxHeartbeats 4000000
/-! Dicts whose keys are tuples of ints; the keys' own places are told beside the dict. -/
namespace Cot
open PySem PySem.Spec PyProof.Rows L2 Evl
/-- the key, the place of its tuple, the value -/
abbrev Dkv := List (List Int × Addr × V)
def valD (m : Dkv) (k : List Int) : Option V := (m.find? fun e => decide (e.1 = k)).map fun e => e.2.2
def putD (m : Dkv) (k : List Int) (b : Addr) (v : V) : Dkv := if (valD m k).isSome then m.map (fun e => if e.1 = k then (e.1, e.2.1, v) else e) else m ++ [(k, b, v)]
abbrev DRel : Dkv → List (List Int × Addr × Value) → Prop := Paired fun p q => p.1 = q.1 ∧ p.2.1 = q.2.1 ∧ RelV p.2.2 q.2.2
theorem valD_pos {e : List Int × Addr × V} {m : Dkv} {k : List Int} (h : e.1 = k) : valD (e :: m) k = some e.2.2 := by simp [valD, List.find?_cons, h]
theorem valD_neg {e : List Int × Addr × V} {m : Dkv} {k : List Int} (h : ¬ e.1 = k) : valD (e :: m) k = valD m k := by simp [valD, List.find?_cons, h]
theorem drel_val {m : Dkv} {xs : List (List Int × Addr × Value)} (r : DRel m xs) (k : List Int) : RelO (valD m k) ((atKey xs k).map (·.2)) := by
  induction r with
  | nil => exact True.intro
  | @cons p q ps qs h t ih =>
    by_cases e : p.1 = k
    · rw [valD_pos e]
      have e2 : (atKey (q :: qs) k) = some q.2 := by simp [atKey, List.find?_cons, ← h.1, e]
      rw [e2]
      exact h.2.2
    · rw [valD_neg e]
      have e2 : (atKey (q :: qs) k) = atKey qs k := by simp [atKey, List.find?_cons, ← h.1, e]
      rw [e2]
      exact ih
theorem drel_map {m : Dkv} {xs : List (List Int × Addr × Value)} (r : DRel m xs) (k : List Int) {v : V} {u : Value} (rv : RelV v u) : DRel (m.map (fun e => if e.1 = k then (e.1, e.2.1, v) else e)) (xs.map (putAt k u)) := by
  induction r with
  | nil => exact .nil
  | @cons p q ps qs h t ih =>
    refine Paired.cons ?_ ih
    unfold putAt
    dsimp only
    by_cases e : p.1 = k
    · rw [if_pos e, if_pos (by rw [← h.1]; exact e)]
      exact ⟨h.1, h.2.1, rv⟩
    · rw [if_neg e, if_neg (by rw [← h.1]; exact e)]
      exact h
theorem drel_app {m m2 : Dkv} {xs ys : List (List Int × Addr × Value)} (r : DRel m xs) (r2 : DRel m2 ys) : DRel (m ++ m2) (xs ++ ys) := by
  induction r with
  | nil => exact r2
  | cons h t ih => exact Paired.cons h ih
theorem drel_put {m : Dkv} {xs : List (List Int × Addr × Value)} (r : DRel m xs) (k : List Int) (b : Addr) {v : V} {u : Value} (rv : RelV v u) : DRel (putD m k b v) (storedH xs k b u) := by
  have h := (drel_val r k).isSome_eq
  rw [Option.isSome_map] at h
  unfold putD storedH
  rw [h]
  split
  · exact drel_map r k rv
  · exact drel_app r (.cons ⟨rfl, rfl, rv⟩ .nil)
theorem putD_len (m : Dkv) (k : List Int) (b : Addr) (v : V) : (putD m k b v).length ≤ m.length + 1 := by
  unfold putD
  split
  · rw [List.length_map]; omega
  · rw [List.length_append]; exact Nat.le_refl _
theorem putD_new {m : Dkv} {k : List Int} (b : Addr) (v : V) (h : valD m k = none) : putD m k b v = m ++ [(k, b, v)] := by
  unfold putD
  rw [h]
  rfl
theorem valD_none {m : Dkv} {k : List Int} : valD m k = none ↔ ∀ e ∈ m, e.1 ≠ k := by
  unfold valD
  rw [Option.map_eq_none_iff, List.find?_eq_none]
  simp
theorem valD_app (m m2 : Dkv) (k : List Int) : valD (m ++ m2) k = (valD m k).or (valD m2 k) := by
  unfold valD
  rw [List.find?_append]
  cases m.find? fun e => decide (e.1 = k) <;> rfl
theorem valD_mem {m : Dkv} {k : List Int} {v : V} (h : valD m k = some v) : ∃ b, (k, b, v) ∈ m := by
  unfold valD at h
  obtain ⟨e, he, hv⟩ := Option.map_eq_some_iff.mp h
  have h1 := List.mem_of_find?_eq_some he
  have h2 := List.find?_some he
  obtain ⟨k', b, v'⟩ := e
  have h3 : k' = k := of_decide_eq_true h2
  have h4 : v' = v := hv
  subst h3
  subst h4
  exact ⟨b, h1⟩
def DicP (P : Program) (w : World) (h : Heap) (a : Addr) (m : Dkv) : Prop := m.length ≤ sizeLine ∧ (a == sysModules) = false ∧ ∃ xs : List (List Int × Addr × Value), DRel m xs ∧ (xs.map (·.1)).Nodup ∧
  ∃ o es ep, h.get? a = some o ∧ o.ExactDict ∧ o.data = .dict es ep ∧ es.toList = xs.map (entryOfKey (TK P w))
/-- the dict at a -/
def DicO (P : Program) (w : World) (a : Addr) (m : Dkv) : HO := .ext fun h => DicP P w h a m
theorem dicO_ok {P : Program} {w : World} {H : Hp} {h : Heap} {a : Addr} {m : Dkv} (d : DicP P w h a m) : ObjOk P w H h a (DicO P w a m) := by
  refine ⟨d, ?_, ?_⟩
  · obtain ⟨_, _, _, _, _, o, _, _, ho, _⟩ := d
    exact ⟨o, ho⟩
  · rintro h1 h2 ⟨z, y, xs, r, n, o, es, ep, ho, rest⟩ k
    exact ⟨z, y, xs, r, n, o, es, ep, k o ho, rest⟩
def KeysAt (K : PySem.W.Frag) (H : Hp) (m : Dkv) : Prop := ∀ e ∈ m, SqT K H e.2.1 (e.1.map V.int)
theorem KeysAt.mono {K : PySem.W.Frag} {H H' : Hp} {m : Dkv} (e : Ex H H') (k : KeysAt K H m) : KeysAt K H' m := fun x hx => ex_t e (k x hx)
theorem KeysAt.put {K : PySem.W.Frag} {H : Hp} {m : Dkv} {k : List Int} {b : Addr} {v : V} (h : KeysAt K H m) (hb : SqT K H b (k.map V.int)) : KeysAt K H (putD m k b v) := by
  intro e he
  unfold putD at he
  split at he
  · obtain ⟨e0, h0, rfl⟩ := List.mem_map.mp he
    split
    · exact h e0 h0
    · exact h e0 h0
  · rcases List.mem_append.mp he with he | he
    · exact h e he
    · rcases List.mem_cons.mp he with rfl | he
      · exact hb
      · cases he
def DiAt (K : PySem.W.Frag) (P : Program) (w : World) (H : Hp) (a : Addr) (m : Dkv) : Prop := H a = some (DicO P w a m) ∧ KeysAt K H m
theorem DiAt.mono {K : PySem.W.Frag} {P : Program} {w : World} {H H' : Hp} {a : Addr} {m : Dkv} (e : Ex H H') (d : DiAt K P w H a m) : DiAt K P w H' a m := ⟨e _ _ d.1, d.2.mono e⟩
section
variable {X : Cx} {pins : List (Addr × Obj)} {σ : L2.St} {H : Hp} {s : Shared} {a b : Addr} {m : Dkv} {k : List Int} {v : V} {u : Value} {A : Around} {E : Value → Shared → Prop}
theorem dic_of (I : Inv X pins σ H s) (d : DiAt X.K X.prog X.w H a m) : m.length ≤ sizeLine ∧ (a == sysModules) = false ∧ ∃ xs, DRel m xs ∧ s.heap.DictOfH (TK X.prog X.w) a xs := by
  obtain ⟨z, y, xs, r, n, o, es, ep, ho, hx, hd, he⟩ := (show ObjOk X.prog X.w H s.heap a (DicO X.prog X.w a m) from I.hok a _ d.1).1
  refine ⟨z, y, xs, r, o, es, ep, ho, hx, hd, he, ?_, n⟩
  have all : ∀ {l : Dkv} {ys : List (List Int × Addr × Value)}, DRel l ys → (∀ e ∈ l, SqT X.K H e.2.1 (e.1.map V.int)) → ∀ x ∈ ys, (TK X.prog X.w).is s.heap x.1 x.2.1 := by
    intro l ys q
    induction q with
    | nil => intro _ x hx; cases hx
    | @cons p q ps qs hq t ih =>
      intro hk x hx
      rcases List.mem_cons.mp hx with rfl | hx
      · have := I.isT (hk p List.mem_cons_self)
        rw [hq.1, hq.2.1] at this
        exact this
      · exact ih (fun e he => hk e (List.mem_cons_of_mem _ he)) x hx
  exact all r d.2
theorem dic_get {Q : Value → Shared → Prop} (hu : A.units + 1 < cLine) (I : Inv X pins σ H s) (d : DiAt X.K X.prog X.w H a m) (hb : SqT X.K H b (k.map V.int)) (hv : valD m k = some v) (h : ∀ w' s', Inv X pins σ H s' → RelV v w' → Q w' s') :
    wpAny (model X.prog X.w) A (getItem (.ref a) (.ref b)) Q E s := by
  obtain ⟨z, y, xs, r, dd⟩ := dic_of I d
  have rv := drel_val r k
  rw [hv] at rv
  obtain ⟨w', hw, rw'⟩ := RelO.some_of (v := v) (o := (atKey xs k).map (·.2)) rv
  obtain ⟨p, hp, hp2⟩ := Option.map_eq_some_iff.mp hw
  refine wpAny_getItem_heap (tupleKind_room_in1 hu) (I.isT hb) dd hp ?_
  rw [hp2]
  exact h w' _ (I.tok _) rw'
theorem dic_in {Q : Value → Shared → Prop} (hu : A.units + 1 < cLine) (I : Inv X pins σ H s) (d : DiAt X.K X.prog X.w H a m) (hb : SqT X.K H b (k.map V.int)) (h : ∀ s', Inv X pins σ H s' → Q (.bool (valD m k).isSome) s') :
    wpAny (model X.prog X.w) A (compareOp .In (.ref b) (.ref a)) Q E s := by
  obtain ⟨z, y, xs, r, dd⟩ := dic_of I d
  have q := (drel_val r k).isSome_eq
  rw [Option.isSome_map] at q
  refine wpAny_in_heap (tupleKind_room_in1 hu) (I.isT hb) y dd ?_
  rw [← q]
  exact h _ (I.tok _)
theorem dic_notIn {Q : Value → Shared → Prop} (hu : A.units + 1 < cLine) (I : Inv X pins σ H s) (d : DiAt X.K X.prog X.w H a m) (hb : SqT X.K H b (k.map V.int)) (h : ∀ s', Inv X pins σ H s' → Q (.bool (!(valD m k).isSome)) s') :
    wpAny (model X.prog X.w) A (compareOp .NotIn (.ref b) (.ref a)) Q E s := by
  obtain ⟨z, y, xs, r, dd⟩ := dic_of I d
  have q := (drel_val r k).isSome_eq
  rw [Option.isSome_map] at q
  refine wpAny_notIn_heap (tupleKind_room_in1 hu) (I.isT hb) y dd ?_
  rw [← q]
  exact h _ (I.tok _)
theorem dic_get2 {z : V} {r0 : Value} {Q : Value → Shared → Prop} (hu : A.units + 1 < cLine) (I : Inv X pins σ H s) (d : DiAt X.K X.prog X.w H a m) (hb : SqT X.K H b (k.map V.int)) (rz : RelV z r0) (h : ∀ w' s', Inv X pins σ H s' → RelV ((valD m k).getD z) w' → Q w' s') :
    wpAny (model X.prog X.w) A (call (.builtin "dict.get") [.ref a, .ref b, r0]) Q E s := by
  obtain ⟨z', y, xs, r, dd⟩ := dic_of I d
  exact call_meetsIn PySem.F.slot_dict_get dd.typeIs PySem.F.entry_dict_get (PySem.F.args_dict_get_3 _ _ _) (meetsH_dict_get_default (TK X.prog X.w) a b y r0) ⟨tupleKind_room_in1 hu, k, xs, I.isT hb, dd, h _ _ (I.tok _) ((drel_val r k).getD rz)⟩
theorem dic_put {Q : Unit → Shared → Prop} (hu : A.units + 1 < cLine) (I : Inv X pins σ H s) (d : DiAt X.K X.prog X.w H a m) (hb : SqT X.K H b (k.map V.int)) (hl : m.length < sizeLine) (rv : RelV v u) (h : ∀ s', Inv X pins σ (upd H a (DicO X.prog X.w a (putD m k b v))) s' → Q () s') :
    wpAny (model X.prog X.w) A (setItem (.ref a) (.ref b) u) Q E s := by
  obtain ⟨z, y, xs, r, dd⟩ := dic_of I d
  have hz : xs.length ≤ sizeLine := by rw [← Paired.length r]; exact z
  refine wpAny_setItem_heap (hsz := hz) (tupleKind_room_in1 hu) (I.isT hb) dd fun h' dd' hs => h _ ?_
  obtain ⟨o, es, ep, ho, h2, h3, h4, _, h5⟩ := dd'
  refine d_write I (by rw [d.1]; exact True.intro) hs ⟨o, ho⟩ (dicO_ok ⟨?_, y, _, drel_put r k b rv, h5, o, es, ep, ho, h2, h3, h4⟩)
  have := putD_len m k b v
  omega
theorem dic_set {Q : Unit → Shared → Prop} (hu : A.units < cLine) (I : Inv X pins σ H s) (d : DiAt X.K X.prog X.w H a m) (hb : SqT X.K H b (k.map V.int)) (hl : m.length < sizeLine) (rv : RelV v u) (h : ∀ s', Inv X pins σ (upd H a (DicO X.prog X.w a (putD m k b v))) s' → Q () s') :
    wpAny (model X.prog X.w) A (dictSet a (.ref b) u) Q E s := by
  obtain ⟨z, y, xs, r, dd⟩ := dic_of I d
  have hz : xs.length ≤ sizeLine := by rw [← Paired.length r]; exact z
  refine wpAny_dictSet_heap (hsz := hz) (knd := TK X.prog X.w) hu (I.isT hb) dd fun h' dd' hs => h _ ?_
  obtain ⟨o, es, ep, ho, h2, h3, h4, _, h5⟩ := dd'
  refine d_write I (by rw [d.1]; exact True.intro) hs ⟨o, ho⟩ (dicO_ok ⟨?_, y, _, drel_put r k b rv, h5, o, es, ep, ho, h2, h3, h4⟩)
  have := putD_len m k b v
  omega
theorem dic_empty {P : Program} {w : World} {h : Heap} (hb : sysModules < h.objs.size) : DicP P w (h.push { cls := .type "dict", data := .dict #[] }) h.objs.size [] :=
  ⟨Nat.zero_le _, beq_eq_false_iff_ne.mpr (Ne.symm (Nat.ne_of_lt hb)), [], .nil, List.nodup_nil, _, #[], 0, Heap.get?_push_size _ rfl, ⟨rfl, rfl, rfl⟩, rfl, rfl⟩
end
/-! ### the rules -/
section
variable (K : PySem.W.Frag) (P : Program) (w : World)
def tNGet (td ty : TE) : TE := fun σ H Q => td σ H fun x H1 => ty σ H1 fun y H2 => ∃ a m b k v, x = .ref a ∧ y = .ref b ∧ DiAt K P w H2 a m ∧ SqT K H2 b (k.map V.int) ∧ valD m k = some v ∧ Q v H2
def tNIn (neg : Bool) (ty td : TE) : TE := fun σ H Q => ty σ H fun y H1 => td σ H1 fun x H2 => ∃ a m b k, x = .ref a ∧ y = .ref b ∧ DiAt K P w H2 a m ∧ SqT K H2 b (k.map V.int) ∧ Q (.bl (if neg then !(valD m k).isSome else (valD m k).isSome)) H2
def tNGet2 (td ty tx : TE) : TE := fun σ H Q => td σ H fun x H1 => ∃ a m, x = .ref a ∧ DiAt K P w H1 a m ∧ ty σ H1 fun y H2 => tx σ H2 fun z H3 => ∃ b k, y = .ref b ∧ DiAt K P w H3 a m ∧ SqT K H3 b (k.map V.int) ∧ Q ((valD m k).getD z) H3
def sNPut (td ty tv : TE) : TS := fun D σ H => tv σ H fun v H1 => td σ H1 fun x H2 => ty σ H2 fun y H3 => ∃ a m b k, x = .ref a ∧ y = .ref b ∧ DiAt K P w H3 a m ∧ SqT K H3 b (k.map V.int) ∧ m.length < sizeLine ∧ D.nx σ (upd H3 a (DicO P w a (putD m k b v)))
def tNNew : TE := fun _ H Q => ∀ p, H p = none → Q (.ref p) (upd H p (DicO P w p []))
def rNLen : List V → Hp → VK → Prop := fun xs H Q => ∃ a m, xs = [.ref a] ∧ DiAt K P w H a m ∧ Q (.int ((m.length : Nat) : Int)) H
/-- {k: v}, one pair -/
def tNOne (tk tv : TE) : TE := fun σ H Q => ∀ p, H p = none → tk σ (upd H p (DicO P w p [])) fun y H1 => tv σ H1 fun v H2 => ∃ b k, y = .ref b ∧ H2 p = some (DicO P w p []) ∧ SqT K H2 b (k.map V.int) ∧ Q (.ref p) (upd H2 p (DicO P w p [(k, b, v)]))
end
section
variable {X : Cx} {o i e f value : Expr} {pos pos' apos cpos : Pos} {td ty tv tx : TE}
theorem pe_nget (hu : X.A.units + 1 < cLine) (ho : PE X o td) (hi : PE X i ty) (hs : NoSl i) : PE X (.Subscript o i pos) (tNGet X.K X.prog X.w td ty) := by
  refine ⟨fun pins s σ H Q I h => ?_⟩
  refine subD_of PySem.F.slot_dict_getitem.lookup hs (thn (ho.run pins s σ H _ I h) fun u s1 ⟨x, H1, I1, rx, q1⟩ => thn (hi.run pins s1 σ H1 _ I1 q1) fun iv s2 ⟨y, H2, I2, ry, a, m, b, k, v, ex, ey, d, hb, hv, q2⟩ => ?_)
  subst ex
  subst ey
  cases rx
  cases ry
  exact ⟨(dic_of I2 d).2.2.elim fun xs q => q.2.typeIs, dic_get hu I2 d hb hv fun w' s3 I3 rw' => ⟨v, H2, I3, rw', q2⟩⟩
theorem pc_nin (hu : X.A.units + 1 < cLine) (hi : PE X i ty) (ho : PE X o td) : PC X .In i o (tNIn X.K X.prog X.w false ty td) := by
  refine ⟨fun pins s σ H Q I h => ?_⟩
  refine thn (hi.run pins s σ H _ I h) fun iv s1 ⟨y, H1, I1, ry, q1⟩ => thn (ho.run pins s1 σ H1 _ I1 q1) fun u s2 ⟨x, H2, I2, rx, a, m, b, k, ex, ey, d, hb, q2⟩ => ?_
  subst ex
  subst ey
  cases rx
  cases ry
  exact dic_in hu I2 d hb fun s3 I3 => ⟨.bl (valD m k).isSome, H2, I3, rfl, q2⟩
theorem pc_nnotin (hu : X.A.units + 1 < cLine) (hi : PE X i ty) (ho : PE X o td) : PC X .NotIn i o (tNIn X.K X.prog X.w true ty td) := by
  refine ⟨fun pins s σ H Q I h => ?_⟩
  refine thn (hi.run pins s σ H _ I h) fun iv s1 ⟨y, H1, I1, ry, q1⟩ => thn (ho.run pins s1 σ H1 _ I1 q1) fun u s2 ⟨x, H2, I2, rx, a, m, b, k, ex, ey, d, hb, q2⟩ => ?_
  subst ex
  subst ey
  cases rx
  cases ry
  exact dic_notIn hu I2 d hb fun s3 I3 => ⟨.bl (!(valD m k).isSome), H2, I3, rfl, q2⟩
theorem pe_nget2 (hu : X.A.units + 1 < cLine) (ho : PE X o td) (he : PE X e ty) (hf : PE X f tx) (m : M2 X o "get" apos e f cpos) : PE X (.Call (.Attribute o "get" apos) [e, f] [] cpos) (tNGet2 X.K X.prog X.w td ty tx) := by
  refine ⟨fun pins s σ H Q I h => ?_⟩
  refine wpAny_Call_method m.base m.few m.line PySem.F.plainAttrs_dict PySem.F.slot_dict_get PySem.F.type_dict_get (thn (ho.run pins s σ H _ I h) fun u s1 ⟨x, H1, I1, rx, a, mm, ex, d, q1⟩ => ?_)
  subst ex
  cases rx
  obtain ⟨_, _, xs, _, dd⟩ := dic_of I1 d
  refine ⟨dd.typeIs, fun b q => ?_, ?_⟩
  · cases q
    obtain ⟨ob, _, _, h1, h2, _⟩ := dd
    exact ⟨ob, h1, h2.2.1⟩
  · rw [m.trees]
    refine Calls.callWith_builtin rfl (Calls.evalArgs_plain (Calls.spliced_cons (thn (he.run pins s1 σ H1 _ I1 q1) fun iv s2 ⟨y, H2, I2, ry, q2⟩ =>
      Calls.spliced_cons (thn (hf.run pins s2 σ H2 _ I2 q2) fun fv s3 ⟨z, H3, I3, rz, b, k, ey, d3, hb, q3⟩ => Calls.spliced_nil ?_))))
    subst ey
    cases ry
    exact dic_get2 hu I3 d3 hb rz fun w' s4 I4 rw' => ⟨_, H3, I4, rw', q3⟩
theorem ps_nput (hu : X.A.units + 1 < cLine) (ho : PE X o td) (hi : PE X i ty) (hv : PE X value tv) (hs : swapsWith value (some (.Subscript o i pos')) pos.line X.env = pure false) :
    PS X (.Assign [.Subscript o i pos'] value pos) (sNPut X.K X.prog X.w td ty tv) := by
  refine ⟨fun pins s σ H D I h => ?_⟩
  refine wpAny_Assign_Subscript (thn (hv.run pins s σ H _ I h) fun r s1 ⟨v, H1, I1, rv, q1⟩ => thn (ho.run pins s1 σ H1 _ I1 q1) fun u s2 ⟨x, H2, I2, rx, q2⟩ => thn (hi.run pins s2 σ H2 _ I2 q2) fun iv s3 ⟨y, H3, I3, ry, a, m, b, k, ex, ey, d, hb, hl, q3⟩ => ?_) hs
  subst ex
  subst ey
  cases rx
  cases ry
  exact dic_put hu I3 d hb hl rv fun s4 I4 => ⟨σ, _, I4, q3⟩
theorem pe_nnew : PE X (.Dict [] [] pos) (tNNew X.prog X.w) := ⟨fun pins s σ H Q I h =>
  wpAny_Dict_empty ⟨.ref s.heap.objs.size, _, I.laid (a := s.heap.objs.size) (o := DicO X.prog X.w s.heap.objs.size []) (t' := s.toks) (fun _ _ q => Heap.get?_push_of_some _ q) (Nat.le_refl _) (dicO_ok (dic_empty I.big)), rfl, h _ (I.hok.fresh (Nat.le_refl _))⟩⟩
theorem call_nlen : CallR X (.builtin "len") (rNLen X.K X.prog X.w) := by
  intro pins s σ H xs us Q I r h
  obtain ⟨a, m, rfl, d, q⟩ := h
  obtain ⟨u, rfl, rx⟩ := vals1 r
  cases rx
  obtain ⟨z, y, ys, rel, dd⟩ := dic_of I d
  have hl : m.length = ys.length := Paired.length rel
  refine call_len_dictH y dd (by rw [← hl]; rw [sizeLine_eq] at z; omega) ?_
  rw [← hl]
  exact ⟨.int ((m.length : Nat) : Int), H, I.tok _, ⟨_, rfl⟩, q⟩
theorem pe_none (hu : X.A.units < cLine) {k v : Expr} {tk : TE} (hk : PE X k tk) (hv : PE X v tv) : PE X (.Dict [some k] [v] pos) (tNOne X.K X.prog X.w tk tv) := by
  refine ⟨fun pins s σ H Q I h => ?_⟩
  have hn := I.hok.fresh (Nat.le_refl s.heap.objs.size)
  have I1 := I.laid (a := s.heap.objs.size) (o := DicO X.prog X.w s.heap.objs.size []) (h' := s.heap.push { cls := .type "dict", data := .dict #[] }) (t' := s.toks) (fun _ _ q => Heap.get?_push_of_some _ q) (Nat.le_refl _) (dicO_ok (dic_empty I.big))
  rw [arm_eval_Dict, zip_pairTrees [some k] [v] X.env pos rfl rfl, dictDisplay_pairs (pairTrees [some k] [v] X.env pos) (by intro z; cases z) (by show 1 < 17; omega)]
  refine wpAny_bind (wpAny_standAt (wpAny_bind (wpAny_subDictH (knd := TK X.prog X.w) hu (by show 1 ≤ 15; omega) (pairTrees_cons_walk (thn (hk.run pins _ σ _ _ I1 (h _ hn)) fun kv s2 ⟨y, H2, I2, ry, q2⟩ => thn (hv.run pins s2 σ H2 _ I2 q2) fun vv s3 ⟨z, H3, I3, rz, b, kk, ey, hp, hb, q3⟩ => pairTrees_nil_walk ?_)))))
  subst ey
  cases ry
  obtain ⟨zz, yy, xs, rel, dd⟩ := dic_of I3 (m := []) (a := s.heap.objs.size) ⟨hp, fun _ h => by cases h⟩
  cases rel
  refine ⟨[(kk, b, vv)], ⟨rfl, rfl, I3.isT hb, True.intro⟩, dd, fun h' tk dd' hs => wpAny_pure ⟨.ref s.heap.objs.size, _, ?_, rfl, q3⟩⟩
  obtain ⟨o, es, ep, ho, h2, h3, h4, _, h5⟩ := dd'
  exact d_write I3 (by rw [hp]; exact True.intro) hs ⟨o, ho⟩ (dicO_ok ⟨by rw [sizeLine_eq]; show 1 ≤ 16777216; omega, yy, _, .cons ⟨rfl, rfl, rz⟩ .nil, h5, o, es, ep, ho, h2, h3, h4⟩)
end
end Cot
namespace Cot
open PySem L2 Evl
section
variable {K : PySem.W.Frag} {P : Program} {w : World} {H H' Hd Hd' Hn H1 H2 : Hp} {σ : L2.St} {ta td ty tv tx : TE} {tr : TA} {D : Ends} {tz : TS} {a b : Addr} {m : Dkv} {k : List Int} {v z : V} {i : Nat}
theorem dp_key (h : Dp K H v (.tuple (k.map .int))) : ∃ p, v = .ref p ∧ SqT K H p (k.map V.int) := by
  cases h with
  | @tup p xs ds hs hall =>
    have e := dpa_ints_inv hall
    subst e
    exact ⟨p, rfl, hs⟩
theorem key_dp (h : SqT K H b (k.map V.int)) : Dp K H (.ref b) (.tuple (k.map .int)) := .tup h (dpa_ints k)
theorem ev_nin {neg : Bool} (s : Ex Hd H) (hk : EvD K ty σ Hd (.tuple (k.map .int))) (hd : Ev td σ H (.ref a)) (d : DiAt K P w H a m) : Ev (tNIn K P w neg ty td) σ H (.bl (if neg then !(valD m k).isSome else (valD m k).isSome)) := fun H1 e1 Q q =>
  hk H1 (s.trans e1) _ fun v H2 Hn g hv => hd H2 (e1.trans g.ex) _ fun H3 e3 => by
    obtain ⟨p, rfl, hp⟩ := dp_key hv
    exact ⟨a, m, p, k, rfl, rfl, d.mono ((e1.trans g.ex).trans e3), ex_t (g.sub.trans e3) hp, q H3 (g.ex.trans e3)⟩
theorem ev_nget (s : Ex Hd H) (hd : Ev td σ H (.ref a)) (hk : EvD K ty σ Hd (.tuple (k.map .int))) (d : DiAt K P w H a m) (hv : valD m k = some v) : Ev (tNGet K P w td ty) σ H v := fun H1 e1 Q q =>
  hd H1 e1 _ fun H2 e2 => hk H2 ((s.trans e1).trans e2) _ fun u H3 Hn g hu => by
    obtain ⟨p, rfl, hp⟩ := dp_key hu
    exact ⟨a, m, p, k, v, rfl, rfl, d.mono ((e1.trans e2).trans g.ex), ex_t g.sub hp, hv, q H3 (e2.trans g.ex)⟩
theorem ev_nget2 (s : Ex Hd H) (hd : Ev td σ H (.ref a)) (hk : EvD K ty σ Hd (.tuple (k.map .int))) (hz : Ev tx σ H z) (d : DiAt K P w H a m) : Ev (tNGet2 K P w td ty tx) σ H ((valD m k).getD z) := fun H1 e1 Q q =>
  hd H1 e1 _ fun H2 e2 => ⟨a, m, rfl, d.mono (e1.trans e2), hk H2 ((s.trans e1).trans e2) _ fun u H3 Hn g hu => hz H3 ((e1.trans e2).trans g.ex) _ fun H4 e4 => by
    obtain ⟨p, rfl, hp⟩ := dp_key hu
    exact ⟨p, k, rfl, d.mono (((e1.trans e2).trans g.ex).trans e4), ex_t (g.sub.trans e4) hp, q H4 ((e2.trans g.ex).trans e4)⟩⟩
theorem ev_nlen (hd : Ev td σ H (.ref a)) (d : DiAt K P w H a m) : Ev (tCB (rNLen K P w) (tCons td tNil)) σ H (.int ((m.length : Nat) : Int)) := fun H1 e1 Q q =>
  hd H1 e1 _ fun H2 e2 => ⟨a, m, rfl, d.mono (e1.trans e2), q H2 e2⟩
theorem go_nput (s : Ex Hd H) (hv : Ev tv σ H v) (hd : Ev td σ H (.ref a)) (hk : EvD K ty σ Hd (.tuple (k.map .int))) (d : DiAt K P w H a m) (hl : m.length < 100000)
    (kk : ∀ p H' Hn, Gr Hd H Hn H' → SqT K Hn p (k.map V.int) → Go tz D σ (upd H' a (DicO P w a (putD m k p v)))) : Go (tSeq (sNPut K P w td ty tv) tz) D σ H := fun H1 e1 =>
  hv H1 e1 _ fun H2 e2 => hd H2 (e1.trans e2) _ fun H3 e3 => hk H3 (((s.trans e1).trans e2).trans e3) _ fun u H4 Hn g hu => by
    obtain ⟨p, rfl, hp⟩ := dp_key hu
    exact ⟨a, m, p, k, rfl, rfl, d.mono (((e1.trans e2).trans e3).trans g.ex), ex_t g.sub hp, sz_lt hl, kk p H4 Hn (g.pre ((e1.trans e2).trans e3)) hp _ (Ex.refl _)⟩
/-- a new dict of one pair -/
theorem go_none (s : Ex Hd H) (hk : EvD K ty σ Hd (.tuple (k.map .int))) (hv : ∀ H1, Ex H H1 → Ev tv σ H1 v)
    (kk : ∀ a p H' Hn, Gr Hd H Hn H' → H a = none → Hn a = none → SqT K Hn p (k.map V.int) → H' a = some (DicO P w a [(k, p, v)]) → Go tz D (σ.set i (some (.ref a))) H') : Go (tSeq (tAsg (tNOne K P w ty tv) (gName i)) tz) D σ H := fun H1 e1 a ha => by
  have s1 : Ex Hd (upd H1 a (DicO P w a [])) := (s.trans e1).trans (Ex.new ha)
  refine hk _ s1 _ fun u H2 Hn g hu => hv H2 ((e1.trans (Ex.new ha)).trans g.ex) _ (Ex.refl _) _ fun H3 e3 => ?_
  obtain ⟨p, rfl, hp⟩ := dp_key hu
  have h3 : H3 a = some (DicO P w a []) := e3 _ _ (g.ex _ _ upd_same)
  have hna : Hn a = none := g.fr _ _ upd_same (fresh_back (s.trans e1) ha)
  refine ⟨p, k, rfl, h3, ex_t (g.sub.trans e3) hp, ?_⟩
  refine kk a p _ Hn ⟨fun x o hx => ?_, g.dx, Ex.mut (g.sub.trans e3) hna, fun x o hx hd => ?_⟩ (fresh_back e1 ha) hna hp upd_same _ (Ex.refl _)
  · have hx1 := e1 x o hx
    rw [upd_ne (ne_of_none hx1 ha)]
    exact e3 _ _ (g.ex _ _ (by rw [upd_ne (ne_of_none hx1 ha)]; exact hx1))
  · have hx1 := e1 x o hx
    exact g.fr x o (by rw [upd_ne (ne_of_none hx1 ha)]; exact hx1) hd
end
end Cot
namespace Cot
open PySem L2 Evl
/-! ### the same, where the context is a block's -/
section
variable {X : Cx} {K : PySem.W.Frag} {P : Program} {w : World} {o i e f value : Expr} {pos pos' apos cpos : Pos} {td ty tv tx tk : TE}
theorem pb_nget (h1 : X.K = K) (h2 : X.prog = P) (h3 : X.w = w) (hu : X.A.units + 1 < cLine) (ho : PE X o td) (hi : PE X i ty) (hs : NoSl i) : PE X (.Subscript o i pos) (tNGet K P w td ty) := by
  subst h1 h2 h3
  exact pe_nget hu ho hi hs
theorem pb_nin (h1 : X.K = K) (h2 : X.prog = P) (h3 : X.w = w) (hu : X.A.units + 1 < cLine) (hi : PE X i ty) (ho : PE X o td) : PC X .In i o (tNIn K P w false ty td) := by
  subst h1 h2 h3
  exact pc_nin hu hi ho
theorem pb_nnotin (h1 : X.K = K) (h2 : X.prog = P) (h3 : X.w = w) (hu : X.A.units + 1 < cLine) (hi : PE X i ty) (ho : PE X o td) : PC X .NotIn i o (tNIn K P w true ty td) := by
  subst h1 h2 h3
  exact pc_nnotin hu hi ho
theorem pb_nget2 (h1 : X.K = K) (h2 : X.prog = P) (h3 : X.w = w) (hu : X.A.units + 1 < cLine) (ho : PE X o td) (he : PE X e ty) (hf : PE X f tx) (m : M2 X o "get" apos e f cpos) : PE X (.Call (.Attribute o "get" apos) [e, f] [] cpos) (tNGet2 K P w td ty tx) := by
  subst h1 h2 h3
  exact pe_nget2 hu ho he hf m
theorem pb_nput (h1 : X.K = K) (h2 : X.prog = P) (h3 : X.w = w) (hu : X.A.units + 1 < cLine) (ho : PE X o td) (hi : PE X i ty) (hv : PE X value tv) (hs : swapsWith value (some (.Subscript o i pos')) pos.line X.env = pure false) :
    PS X (.Assign [.Subscript o i pos'] value pos) (sNPut K P w td ty tv) := by
  subst h1 h2 h3
  exact ps_nput hu ho hi hv hs
theorem pb_nnew (h2 : X.prog = P) (h3 : X.w = w) : PE X (.Dict [] [] pos) (tNNew P w) := by
  subst h2 h3
  exact pe_nnew
theorem cb_nlen (h1 : X.K = K) (h2 : X.prog = P) (h3 : X.w = w) : CallR X (.builtin "len") (rNLen K P w) := by
  subst h1 h2 h3
  exact call_nlen
theorem pb_none (h1 : X.K = K) (h2 : X.prog = P) (h3 : X.w = w) (hu : X.A.units < cLine) {k v : Expr} (hk : PE X k tk) (hv : PE X v tv) : PE X (.Dict [some k] [v] pos) (tNOne K P w tk tv) := by
  subst h1 h2 h3
  exact pe_none hu hk hv
end
end Cot

set_option Elab.async false
set_option linter.all false
set_option maxRecDepth 100000
set_option maxHeartbeats 4000000
/-! The lesser of two, sorted ints. -/
namespace Cot
open PySem PySem.Spec PyProof.Rows L2 Evl
section
variable {X : Cx} {K : PySem.W.Frag} {H Hd : Hp} {σ : L2.St} {ta tb : TE} {ns : List Int}
def rMin2 : List V → Hp → VK → Prop := fun xs H Q => ∃ i j, xs = [V.int i, V.int j] ∧ Q (V.int (if j < i then j else i)) H
theorem call_minQ (hc : X.calm = true := by rfl) : CallR X (.builtin "min") rMin2 := call_min2 hc
theorem ev_min2 {i j : Int} (ha : Ev ta σ H (.int i)) (hb : Ev tb σ H (.int j)) : Ev (tCB rMin2 (tCons ta (tCons tb tNil))) σ H (.int (if j < i then j else i)) := fun H1 e Q q =>
  ha H1 e _ fun H2 e2 => hb H2 (e.trans e2) _ fun H3 e3 => ⟨i, j, rfl, q H3 (e2.trans e3)⟩
/-- sorted of two ints -/
theorem en_sort2 {i j : Int} (h : EvD K ta σ Hd (.list [.int i, .int j])) : EvN K (tCB (rSortedI K) (tCons ta tNil)) σ Hd (if i ≤ j then [.int i, .int j] else [.int j, .int i]) := fun H s Q q =>
  h H s _ fun v H2 Hn g hd => by
    cases hd with
    | @lst a xs ds hs hall =>
      have e := dpa_ints_inv (ns := [i, j]) hall
      subst e
      refine ⟨a, [i, j], rfl, ex_l g.sub hs, fun ns' p hp hw hn => q p _ _ Hn (g.trans (Gr.alloc g.sub hn)) (fresh_back g.ex hn) (fresh_back g.sub hn) upd_same ?_⟩
      have e2 : ns' = if i ≤ j then [i, j] else [j, i] := by
        refine List.Perm.eq_of_pairwise (le := fun a b => a ≤ b) (fun a b _ _ h1 h2 => Int.le_antisymm h1 h2) hw ?_ ?_
        · split
          · exact List.pairwise_pair.mpr (by assumption)
          · exact List.pairwise_pair.mpr (by omega)
        · split
          · exact hp
          · exact hp.trans (List.Perm.swap _ _ _)
      rw [e2]
      split
      · exact dpa_ints [i, j]
      · exact dpa_ints [j, i]
end
end Cot
namespace Cot
open PySem L2 Evl
/-! ### a place let go of -/
def del (H : Hp) (l : Addr) : Hp := fun a => if a = l then none else H a
theorem del_same {H : Hp} {l : Addr} : del H l l = none := by unfold del; rw [if_pos rfl]
theorem del_ne {H : Hp} {l a : Addr} (h : a ≠ l) : del H l a = H a := by unfold del; rw [if_neg h]
theorem ex_del {H : Hp} {l : Addr} : Ex (del H l) H := fun a o h => by
  by_cases e : a = l
  · rw [e, del_same] at h; cases h
  · rw [del_ne e] at h; exact h
def noL : PyData → Bool
  | .list _ => false
  | .dict _ => false
  | .tuple ds => noLs ds
  | _ => true
where noLs : List PyData → Bool
  | [] => true
  | d :: ds => noL d && noLs ds
section
variable {K : PySem.W.Frag} {b : Bid} {H H' Hd Hd' Hn H1 H2 : Hp} {σ : L2.St} {ta td te tl th : TE} {t : TT} {tr : TA} {D : Ends} {tz : TS} {l : Addr} {o : HO} {v : V} {xs : List V} {d : PyData} {ds es : List PyData} {i : Nat} {P : PyData → Prop} {Ps : List PyData → Prop}
/-- no tuple -/
def NoTup (o : HO) : Prop := (∀ xs, o ≠ .tup xs) ∧ ∀ ob u, o ≠ .frz ob u
theorem noTup_lst : NoTup (.lst xs) := ⟨fun _ h => (by cases h), fun _ _ h => (by cases h)⟩
theorem sqT_del {a : Addr} (ho : H l = some o) (n : NoTup o) (h : SqT K H a xs) : SqT K (del H l) a xs := by
  rcases h with (h | ⟨ob, h⟩) | h
  · refine .inl (.inl ?_)
    rw [del_ne (fun e => by rw [e, ho] at h; exact n.1 _ (Option.some.inj h))]
    exact h
  · refine .inl (.inr ⟨ob, ?_⟩)
    rw [del_ne (fun e => by rw [e, ho] at h; exact n.2 _ _ (Option.some.inj h))]
    exact h
  · exact .inr h
mutual
theorem dp_del (ho : H l = some o) (n : NoTup o) : ∀ (d : PyData) {v : V}, noL d = true → Dp K H v d → Dp K (del H l) v d
  | .none, _, _, h => by cases h; exact .non
  | .bool b, _, _, h => by cases h; exact .bl b
  | .int i, _, _, h => by cases h; exact .int i
  | .str x, _, _, h => by cases h; exact .str x
  | .list ds, _, e, _ => by unfold noL at e; cases e
  | .tuple ds, _, e, h => by
    cases h with
    | tup hs ha => exact .tup (sqT_del ho n hs) (dpa_del ho n ds (by unfold noL at e; exact e) ha)
  | .dict _, _, _, h => by cases h
theorem dpa_del (ho : H l = some o) (n : NoTup o) : ∀ (ds : List PyData) {vs : List V}, noL.noLs ds = true → DpAll K H vs ds → DpAll K (del H l) vs ds
  | [], _, _, h => by cases h; exact .nil
  | d :: ds, _, e, h => by
    unfold noL.noLs at e
    rw [Bool.and_eq_true] at e
    cases h with
    | cons h1 h2 => exact .cons (dp_del ho n d e.1 h1) (dpa_del ho n ds e.2 h2)
end
theorem noLs_of : ∀ {ds : List PyData}, (∀ d ∈ ds, noL d = true) → noL.noLs ds = true
  | [], _ => by unfold noL.noLs; rfl
  | d :: ds, h => by
    unfold noL.noLs
    rw [h d List.mem_cons_self, noLs_of fun e he => h e (List.mem_cons_of_mem _ he)]
    rfl
theorem Gr.del (g : Gr (upd Hd l o) H Hn H2) (hl : Hd l = none) : Gr Hd H (del Hn l) H2 :=
  ⟨g.ex, fun a u ha => by
    have n : a ≠ l := fun e => by rw [e, hl] at ha; cases ha
    rw [del_ne n]
    exact g.dx a u (by rw [upd_ne n]; exact ha), ex_del.trans g.sub, fun a u ha hd => by
    by_cases e : a = l
    · rw [e]; exact del_same
    · rw [del_ne e]
      exact g.fr a u ha (by rw [upd_ne e]; exact hd)⟩
theorem GrB.del (g : GrB b (upd Hd l o) H Hn H2) (hl : Hd l = none) : GrB b Hd H (del Hn l) H2 :=
  ⟨g.exb, fun a u ha => by
    have n : a ≠ l := fun e => by rw [e, hl] at ha; cases ha
    rw [del_ne n]
    exact g.dx a u (by rw [upd_ne n]; exact ha), ex_del.trans g.sub, fun a u ha hd => by
    by_cases e : a = l
    · rw [e]; exact del_same
    · rw [del_ne e]
      exact g.fr a u ha (by rw [upd_ne e]; exact hd), g.bx⟩
/-- l.append(e), e read with l standing -/
theorem go_appX (s : Ex Hd H) (hl : H l = some (.lst xs)) (hd : Hd l = none) (ha : Ev ta σ H (.ref l)) (h : EvD K te σ (upd Hd l (.lst xs)) d) (nl : noL d = true) (hz : xs.length < 100000)
    (k : ∀ v H' Hn, Gr Hd H Hn H' → Hn l = none → Dp K Hn v d → Go tz D σ (upd H' l (.lst (xs ++ [v])))) : Go (tSeq (tDrop (tBM K "list" rAppend ta (tCons te tNil))) tz) D σ H :=
  go_appD (ex_add s hl) hl ha h hz fun v H' Hn g hv => k v H' (del Hn l) (g.del hd) del_same (dp_del (g.dx _ _ upd_same) noTup_lst d nl hv)
/-- the same, e drawn -/
theorem go_appBX (hb : Hd b.b = none) (s : Ex Hd H) (B : Bx H b) (hl : H l = some (.lst xs)) (hd : Hd l = none) (nlb : l ≠ b.b) (ha : Ev ta σ H (.ref l)) (h : EvB K b te σ (upd Hd l (.lst xs)) P) (nl : ∀ d, P d → noL d = true) (hz : xs.length < 100000)
    (k : ∀ v H' Hn d, GrB b Hd H Hn H' → Hn l = none → Dp K Hn v d → P d → Go tz D σ (upd H' l (.lst (xs ++ [v])))) : Go (tSeq (tDrop (tBM K "list" rAppend ta (tCons te tNil))) tz) D σ H :=
  go_appB (by rw [upd_ne nlb.symm]; exact hb) (ex_add s hl) B hl nlb ha h hz fun v H' Hn d g hv hp => k v H' (del Hn l) d (g.del hd) del_same (dp_del (g.dx _ _ upd_same) noTup_lst d (nl d hp) hv) hp
/-- x = [drawn ..]: a list that is to change -/
theorem go_asgBL (hb : Hd b.b = none) (s : Ex Hd H) (B : Bx H b) (h : EvBA K b tr σ Hd Ps) (hl : ∀ ds, Ps ds → ds.length ≤ 100000)
    (k : ∀ p xs H' Hn ds, GrB b Hd H Hn H' → H p = none → Hn p = none → p ≠ b.b → p ≠ b.ca → H' p = some (.lst xs) → DpAll K Hn xs ds → Ps ds → Go tz D (σ.set i (some (.ref p))) H') : Go (tSeq (tAsg (tLst tr) (gName i)) tz) D σ H := fun H1 e1 =>
  h hb H1 (s.trans e1) (B.mono e1) _ fun vs H2 Hn ds g hd hp => ⟨sz_of (by rw [dpa_len hd]; exact hl ds hp), fun p hpn => by
    obtain ⟨n1, n2⟩ := g.bx.apart hpn
    have hpn1 : H1 p = none := GrB.fresh g hpn
    exact k p vs _ Hn ds ((g.pre e1).post (Ex.new hpn)) (fresh_back e1 hpn1) (fresh_back g.sub hpn) n1 n2 upd_same hd hp _ (Ex.refl _)⟩
theorem ed_if {c : Bool} (h : EvT t σ Hd c) (h1 : c = true → EvD K ta σ Hd d) (h2 : c = false → EvD K te σ Hd d) : EvD K (tIf t ta te) σ Hd d := fun H s Q q => h H s _ fun H2 e2 => by
  cases c with
  | true => exact h1 rfl H2 (s.trans e2) Q fun v H3 Hn g hv => q v H3 Hn (g.pre e2) hv
  | false => exact h2 rfl H2 (s.trans e2) Q fun v H3 Hn g hv => q v H3 Hn (g.pre e2) hv
/-- a test by == of two drawn ints -/
theorem ebt_eq {p p' : Int → Prop} (ha : EvB K b ta σ Hd (isI p)) (hb' : EvB K b te σ Hd (isI p')) : EvBT K b (tTest (tOp rEq ta te)) σ Hd := fun hb H s B Q q =>
  ha hb H s B _ fun v H1 Hn d g hd hp => hb'.mono g.dx (g.bn hb B) H1 g.sub g.bx _ fun v2 H2 Hm d2 g2 hd2 hp2 => by
    obtain ⟨i, rfl, pi⟩ := hp
    obtain ⟨j, rfl, pj⟩ := hp2
    cases hd
    cases hd2
    exact ⟨rfl, _, rfl, q _ H2 Hm (g.trans g2 hb B)⟩
end
end Cot
namespace Cot
open PySem L2 Evl
/-- a def that is handed data and tells a scalar -/
def spD (K : PySem.W.Frag) (R : List PyData → V → Prop) : Sp := fun vs H Q _ => ∃ ds v, DpAll K H vs ds ∧ R ds v ∧ ∀ H2, Ex H H2 → Q v H2
section
variable {K : PySem.W.Frag} {Hd : Hp} {σ : L2.St} {tr : TA} {ds : List PyData} {v : V} {E : XK} {R : List PyData → V → Prop}
/-- a, b = x, y -/
theorem go_par {H : Hp} {d1 d2 : PyData} {D : Ends} {tz : TS} {i j : Nat} (s : Ex Hd H) (h : EvDA K tr σ Hd [d1, d2]) (k : ∀ v1 v2 H' Hn, Gr Hd H Hn H' → Dp K Hn v1 d1 → Dp K Hn v2 d2 → Go tz D ((σ.set i (some v1)).set j (some v2)) H') : Go (tSeq (tPar i j tr) tz) D σ H := fun H1 e1 =>
  h H1 (s.trans e1) _ fun vs H2 Hn g hd => by
    cases hd with
    | cons h1 h2 =>
      cases h2 with
      | cons h2 h3 =>
        cases h3
        exact ⟨_, _, rfl, k _ _ H2 Hn (g.pre e1) h1 h2 H2 (Ex.refl _)⟩
theorem ev_callD (h : EvDA K tr σ Hd ds) (hr : R ds v) : Ev (tCall (spD K R) [] E tr) σ Hd v := fun H s Q q =>
  h H s _ fun vs H2 Hn g hd => ⟨ds, v, by rw [List.append_nil]; exact dpa_mono g.sub _ hd, hr, fun H3 e3 => q H3 (g.ex.trans e3)⟩
end
end Cot

set_option Elab.async false
set_option linter.all false
set_option maxRecDepth 100000
set_option maxHeartbeats 4000000
/-! A tuple turned about, lists of lists that grow, calls with names. -/
namespace Cot
open PySem PySem.Spec PyProof.Rows L2 Evl
section
variable {prog : Program} {w : World} {A : Around} {E : Value → Shared → Prop} {s : Shared}
theorem adjust_rev (n : Nat) : Builtin.Slice.sliceAdjust none none (-1) (n : Int) = ((n : Int) - 1, -1) := rfl
theorem places_rev (n : Nat) : Builtin.Slice.slicePlaces ((n : Int) - 1) (-1) (-1) = n := by
  unfold Builtin.Slice.slicePlaces
  have h1 : ¬ ((-1 : Int) > 0) := by omega
  simp only [h1, if_false]
  by_cases h : (n : Int) - 1 > -1
  · rw [if_pos h, show (- -1 : Int) = 1 by decide, Int.ediv_one]
    omega
  · rw [if_neg h]
    omega
theorem pick_rev (xs : Array Value) : ((List.range xs.size).filterMap fun (m : Nat) => xs[(((xs.size : Nat) : Int) - 1 + (m : Int) * (-1)).toNat]?).toArray = xs.toList.reverse.toArray := by
  have e : (List.range xs.size).filterMap (fun (m : Nat) => xs[(((xs.size : Nat) : Int) - 1 + (m : Int) * (-1)).toNat]?) = ((List.range xs.size).map fun k => xs.size - 1 - k).filterMap (xs[·]?) := by
    rw [List.filterMap_map]
    have key : ∀ l : List Nat, (∀ m ∈ l, m < xs.size) → l.filterMap (fun (m : Nat) => xs[(((xs.size : Nat) : Int) - 1 + (m : Int) * (-1)).toNat]?) = l.filterMap ((xs[·]?) ∘ fun k => xs.size - 1 - k) := by
      intro l
      induction l with
      | nil => intro _; rfl
      | cons m l ih =>
        intro h
        have hm := h m List.mem_cons_self
        have e2 : (((xs.size : Nat) : Int) - 1 + (m : Int) * (-1)).toNat = xs.size - 1 - m := by omega
        rw [List.filterMap_cons, List.filterMap_cons, ih fun m hm => h m (List.mem_cons_of_mem _ hm), e2]
        rfl
    exact key _ fun m hm => List.mem_range.mp hm
  rw [e, PySem.W.krv_range, List.filterMap_reverse, PySem.W.krv_all]
theorem sliceApplied_rev {sl : Addr} {vs : Value} {n : Nat} {Q : Int × Int × Nat → Shared → Prop} (hs : s.heap.IsSliceOf sl .none .none vs) (ps : IsPart vs (some (-1)))
    (h : Q ((n : Int) - 1, -1, n) s) : wpAny (model prog w) A (Builtin.Slice.sliceApplied (.ref sl) (pure (n : Int))) Q E s := by
  obtain ⟨os, hos, hcs, hds⟩ := id hs
  unfold Builtin.Slice.sliceApplied Builtin.Slice.sliceFields
  refine wpAny_bind (wpAny_bind (wpAny_field hos hds (x := .none) rfl (wpAny_bind (wpAny_field hos hds (x := .none) rfl (wpAny_bind (wpAny_field hos hds (x := vs) rfl (wpAny_pure ?_)))))))
  refine wpAny_bind (HT.slicePart_ ps ?_)
  show wpAny _ _ (if ((-1 : Int) == 0) = true then _ else _) _ _ s
  rw [if_neg (by decide)]
  refine wpAny_bind (HT.slicePart_ .none (wpAny_bind (HT.slicePart_ .none (wpAny_bind (wpAny_pure ?_)))))
  show wpAny _ _ (match Builtin.Slice.sliceAdjust none none (-1) (n : Int) with | (lo, hi) => pure (lo, (-1 : Int), Builtin.Slice.slicePlaces lo hi (-1))) _ _ s
  rw [adjust_rev n]
  show wpAny _ _ (pure ((n : Int) - 1, (-1 : Int), Builtin.Slice.slicePlaces ((n : Int) - 1) (-1) (-1))) _ _ s
  rw [places_rev]
  exact wpAny_pure h
theorem getItem_tuple_rev {t sl : Addr} {items : Array Value} {vs : Value} {Q : Value → Shared → Prop} (ht : IsTup s.heap t items) (hs : s.heap.IsSliceOf sl .none .none vs) (ps : IsPart vs (some (-1)))
    (h : Q (.ref s.heap.objs.size) { s with heap := s.heap.push { cls := .type "tuple", data := .seq items.toList.reverse.toArray } })
    (hsz : items.size ≤ sizeLine) : wpAny (model prog w) A (getItem (.ref t) (.ref sl)) Q E s := by
  have htake : sizeOk (.seq items.toList.reverse.toArray) := by
    show items.toList.reverse.toArray.size ≤ sizeLine
    rw [List.size_toArray, List.length_reverse, Array.length_toList]
    exact hsz
  obtain ⟨os, hos, hcs, hds⟩ := id hs
  have hTs : s.TypeIs (.ref sl) "slice" := ⟨os, hos, hcs⟩
  unfold getItem
  try with_reducible refine wpAny_holding ?_
  first | refine wpAny_bind (wpAny_pure ?_) | skip
  refine wpAny_bind (wpAny_sequenceKey ht.typeIs (by decide) ?_)
  refine wpAny_bind (wpAny_callSpecial?_slot (name := Str.ofString "__getitem__") ht.typeIs PyProof.Rows.slot_tuple_getitem
    (wpAny_call_entry PyProof.Rows.slot_tuple_getitem ht.typeIs entry_tuple_getitem ?_ (args_tuple_getitem _ _)))
  show wpAny _ _ (Builtin.Tuple.tupleItemsOf (.ref t) >>= _) _ _ s
  refine wpAny_bind (tupleItemsOf_ ht ?_)
  refine wpAny_bind (wpAny_typeOf hTs ?_)
  rw [if_pos (by decide)]
  refine wpAny_bind (sliceApplied_rev hs ps ?_)
  have hno : ¬ ((((items.size : Int) - 1) == 0 && (-1 : Int) == 1 && items.size == items.size) = true) := by
    intro q
    rw [Bool.and_eq_true, Bool.and_eq_true] at q
    exact absurd q.1.2 (by decide)
  show wpAny _ _ (if (((items.size : Int) - 1) == 0 && (-1 : Int) == 1 && items.size == items.size) = true then _ else _) _ _ s
  rw [if_neg hno, pick_rev]
  first
    | exact wpAny_bind (m := Builtin.Tuple.tupleExact _) (wpAny_newObj_type (wpAny_pure ⟨_, rfl, wpAny_pure h⟩) htake)
    | exact wpAny_bind (m := Builtin.Tuple.tupleExact _) (wpAny_newObj_type (wpAny_bind (wpAny_pure (wpAny_pure ⟨_, rfl, wpAny_pure h⟩))) htake)
    | exact wpAny_bind (wpAny_bind (m := Builtin.Tuple.tupleExact _) (wpAny_newObj_type (wpAny_pure (wpAny_pure ⟨_, rfl, wpAny_pure h⟩)) htake))
    | exact wpAny_bind (wpAny_bind (m := Builtin.Tuple.tupleExact _) (wpAny_newObj_type (wpAny_pure ⟨_, rfl, wpAny_pure h⟩) htake))
end
section
variable {X : Cx}
def tRevT (K : PySem.W.Frag) (te : TE) : TE := fun σ H Q => te σ H fun x H1 => ∃ a xs, x = .ref a ∧ SqT K H1 a xs ∧ ∀ p, H1 p = none → Q (.ref p) (upd H1 p (.tup xs.reverse))
theorem pe_revT {e : Expr} {te : TE} {k : Nat} {p1 p2 p3 pos : Pos} (he : PE X e te) : PE X (.Subscript e (.Slice none none (some (.UnaryOp .USub (.Constant (.int 1) k p1) p2)) p3) pos) (tRevT X.K te) := by
  refine ⟨fun pins s σ H Q I h => ?_⟩
  refine Subscript_ (thn (he.run pins s σ H _ I h) fun v s1 ⟨x, H1, I1, r1, q1⟩ => ?_)
  obtain ⟨a, xs, ex, hx, q⟩ := q1
  subst ex
  cases r1
  have hst : PO X (some (.UnaryOp .USub (.Constant (.int 1) k p1) p2)) (tPart (tUn (rU fun i => .int (-i)) (tC (.int 1)))) := po_some (pe_un un_neg pe_int)
  refine wpAny_Slice (thn (po_none.run pins s1 σ H1 (fun o H2 => o = none ∧ H2 = H1) I1 ⟨rfl, rfl⟩) fun vl s2 ⟨l, H2, I2, pl, el, e2⟩ => ?_)
  subst el e2
  refine thn (po_none.run pins s2 σ H2 (fun o H3 => o = none ∧ H3 = H2) I2 ⟨rfl, rfl⟩) fun vu s3 ⟨u, H3, I3, pu, eu, e3⟩ => ?_
  subst eu e3
  refine thn (hst.run pins s3 σ H3 (fun o H4 => o = some (-1) ∧ H4 = H3) I3 ⟨1, rfl, -1, rfl, rfl, rfl⟩) fun vs s4 ⟨o, H4, I4, ps, eo, e4⟩ => ?_
  subst eo e4
  cases pl
  cases pu
  have I5 : Inv X pins σ H4 { s4 with heap := s4.heap.push { cls := .type "slice", data := .fields #[.none, .none, vs] } } := I4.kept (t' := s4.toks) fun b ob q => Heap.get?_push_of_some _ q
  obtain ⟨its, r, ht, hz⟩ := I5.tuple hx
  have hlen := r.length
  show wpAny (model X.prog X.w) X.A (subscriptTail e (.Slice none none (some (.UnaryOp .USub (.Constant (.int 1) k p1) p2)) p3) (.ref a) (.ref s4.heap.objs.size)) (EP X pins σ Q) X.xe { s4 with heap := s4.heap.push { cls := .type "slice", data := .fields #[.none, .none, vs] } }
  refine tail_any (ops := [.ref a, .ref s4.heap.objs.size]) ht.typeIs (PyProof.Rows.slot_tuple_getitem.lookup) ?_ (by with_unfolding_all rfl)
  refine getItem_tuple_rev ht (Heap.IsSliceOf.new _ .none .none vs) ps ?_ (by rw [List.size_toArray]; omega)
  refine ⟨.ref _, _, I5.laid (t' := s4.toks) (o := .tup xs.reverse) (fun b ob q => Heap.get?_push_of_some _ q) (Nat.le_refl _) ?_, rfl, q _ (I5.hok.fresh (Nat.le_refl _))⟩
  exact ⟨by rw [List.length_reverse]; exact hz, _, r.reverse, IsTup.new _ _⟩
end
section
variable {K : PySem.W.Frag} {l : Addr} {H H' Hd Hd' Hn H1 H2 Hm Hg : Hp} {σ : L2.St} {ta tb te : TE} {tr tk : TA} {D : Ends} {tz : TS} {d : PyData} {ds es : List PyData} {xs : List V}
theorem ed_revT (h : EvD K te σ Hd (.tuple ds)) : EvD K (tRevT K te) σ Hd (.tuple ds.reverse) := fun H s Q q =>
  h H s _ fun v H2 Hn g hd => by
    cases hd with
    | @tup a xs ds hs hall => exact ⟨a, xs, rfl, ex_t g.sub hs, fun r hr => q (.ref r) _ _ (g.trans (Gr.new g.sub hr)) (.tup (st_of upd_same) (dpa_mono (Ex.new (fresh_back g.sub hr)) _ (dpa_rev hall)))⟩
/-- a call whose last things are left out -/
theorem ed_callE {R : List PyData → PyData → Prop} {E : XK} {ns : List Int} (h : EvDA K tr σ Hd ds) (hr : R (ds ++ ns.map .int) d) : EvD K (tCall (spF K R) (ns.map .int) E tr) σ Hd d := fun H s Q q =>
  h H s _ fun vs H2 Hn g hd => ⟨Hn, ds ++ ns.map .int, d, g.sub, dpa_app hd (dpa_ints ns), hr, fun v H3 Hm g3 h3 => q v H3 Hm (g.trans g3) h3⟩
/-- the last things by their names, in their order -/
theorem ed_callN {R : List PyData → PyData → Prop} {E : XK} {n k : Nat} (h : EvDA K tr σ Hd ds) (hk : EvDA K tk σ Hd es) (h1 : ds.length = n) (h2 : es.length = k) (hr : R (ds ++ es) d) : EvD K (tCallN n k (spF K R) (fun us ws => us ++ ws) E tr tk) σ Hd d := fun H s Q q =>
  h H s _ fun vs H2 Hn g hd => (hk.mono g.dx) H2 g.sub _ fun ws H3 Hm g3 hd3 => ⟨by rw [dpa_len hd]; exact h1, by rw [dpa_len hd3]; exact h2, Hm, ds ++ es, d, g3.sub, dpa_app (dpa_mono g3.dx _ hd) hd3, hr, fun v H4 Ho g4 h4 => q v H4 Ho ((g.trans g3).trans g4) h4⟩
/-- a list that grows: it is no data yet, its things are -/
def LsAt (K : PySem.W.Frag) (Hg H' : Hp) (p : Addr) (ds : List PyData) : Prop := Hg p = none ∧ ∃ vs, H' p = some (.lst vs) ∧ DpAll K Hg vs ds
theorem LsAt.gr (h : LsAt K Hg H' l ds) (g : Gr Hg H' Hn H2) : LsAt K Hn H2 l ds := by
  obtain ⟨h1, vs, h2, h3⟩ := h
  exact ⟨g.fr _ _ h2 h1, vs, g.ex _ _ h2, dpa_mono g.dx _ h3⟩
theorem LsAt.ext (h : LsAt K Hg H' l ds) (e : Ex H' H2) : LsAt K Hg H2 l ds := by
  obtain ⟨h1, vs, h2, h3⟩ := h
  exact ⟨h1, vs, e _ _ h2, h3⟩
theorem LsAt.oth {p : Addr} {o : HO} (h : LsAt K Hg H' l ds) (n : l ≠ p) : LsAt K Hg (upd H' p o) l ds := by
  obtain ⟨h1, vs, h2, h3⟩ := h
  exact ⟨h1, vs, by rw [upd_ne n]; exact h2, h3⟩
/-- a list of places that are no data yet -/
def RfAt (Hg H' : Hp) (p : Addr) (xs : List V) : Prop := Hg p = none ∧ H' p = some (.lst xs)
theorem RfAt.gr (h : RfAt Hg H' l xs) (g : Gr Hg H' Hn H2) : RfAt Hn H2 l xs := ⟨g.fr _ _ h.2 h.1, g.ex _ _ h.2⟩
theorem RfAt.ext (h : RfAt Hg H' l xs) (e : Ex H' H2) : RfAt Hg H2 l xs := ⟨h.1, e _ _ h.2⟩
theorem RfAt.oth {p : Addr} {o : HO} (h : RfAt Hg H' l xs) (n : l ≠ p) : RfAt Hg (upd H' p o) l xs := ⟨h.1, by rw [upd_ne n]; exact h.2⟩
theorem go_appA (s : Ex Hd H) (hl : LsAt K Hd H l ds) (ha : Ev ta σ H (.ref l)) (h : EvD K te σ Hd d) (hz : ds.length < 100000)
    (k : ∀ H' Hn, Ex Hd Hn → Ex Hn H' → LsAt K Hn H' l (ds ++ [d]) → (∀ p es, p ≠ l → LsAt K Hd H p es → LsAt K Hn H' p es) → (∀ p xs, p ≠ l → RfAt Hd H p xs → RfAt Hn H' p xs) → Go tz D σ H') :
    Go (tSeq (tDrop (tBM K "list" rAppend ta (tCons te tNil))) tz) D σ H := by
  obtain ⟨h1, vs, h2, h3⟩ := hl
  refine go_appD (K := K) (d := d) s h2 ha h (by rw [dpa_len h3]; exact hz) fun v H' Hn g hv => ?_
  have n1 := g.fr _ _ h2 h1
  exact k _ Hn g.dx (Ex.mut g.sub n1) ⟨n1, _, upd_same, dpa_app (dpa_mono g.dx _ h3) (.cons hv .nil)⟩ (fun p es n h => (h.gr g).oth n) (fun p xs n h => (h.gr g).oth n)
/-- it is data from here on -/
theorem LsAt.add (h : LsAt K Hg H' l ds) (s : Ex Hg H') : ∃ Hn, Ex Hg Hn ∧ Ex Hn H' ∧ Dp K Hn (.ref l) (.list ds) ∧ ∀ q, q ≠ l → Hg q = none → Hn q = none := by
  obtain ⟨h1, vs, h2, h3⟩ := h
  exact ⟨upd Hg l (.lst vs), Ex.new h1, ex_add s h2, .lst (sq_of upd_same) (dpa_mono (Ex.new h1) _ h3), fun q n hq => by rw [upd_ne n]; exact hq⟩
theorem RfAt.add (h : RfAt Hg H' l xs) (s : Ex Hg H') (hd : DpAll K Hg xs ds) : ∃ Hn, Ex Hg Hn ∧ Ex Hn H' ∧ Dp K Hn (.ref l) (.list ds) := ⟨upd Hg l (.lst xs), Ex.new h.1, ex_add s h.2, .lst (sq_of upd_same) (dpa_mono (Ex.new h.1) _ hd)⟩
end
theorem pe_revTK {X : Cx} {K : PySem.W.Frag} {e : Expr} {te : TE} {k : Nat} {p1 p2 p3 pos : Pos} (hK : X.K = K) (he : PE X e te) : PE X (.Subscript e (.Slice none none (some (.UnaryOp .USub (.Constant (.int 1) k p1) p2)) p3) pos) (tRevT K te) := hK ▸ pe_revT he
theorem pb_tup {X : Cx} {K : PySem.W.Frag} {tg l : Expr} {tl : TE} (hK : X.K = K) (hl : PE X l tl) : PI X tg l (iTup K tl) := hK ▸ pi_tup hl
theorem pb_list {X : Cx} {K : PySem.W.Frag} {tg l : Expr} {tl : TE} (hK : X.K = K) (hl : PE X l tl) : PI X tg l (iList K tl) := hK ▸ pi_list hl
/-! ### a comprehension within a comprehension -/
theorem look_relabel {env : Env} : ∀ {names : List (Str × NameKind)} {x : Str}, names.lookup x = some .cell ∨ names.lookup x = some .free →
    (names.map fun (n, k) => if (k == NameKind.free && env.scope.kind == .function && env.kindOf n == some .cell) then (n, NameKind.cell) else (n, k)).lookup x = some .cell ∨
    (names.map fun (n, k) => if (k == NameKind.free && env.scope.kind == .function && env.kindOf n == some .cell) then (n, NameKind.cell) else (n, k)).lookup x = some .free
  | [], _, h => by simp at h
  | (n, k) :: r, x, h => by
    have ih := look_relabel (env := env) (names := r) (x := x)
    rw [List.map_cons]
    generalize List.map (fun (x : Str × NameKind) => match x with | (n, k) => if (k == NameKind.free && env.scope.kind == ScopeKind.function && env.kindOf n == some NameKind.cell) then (n, NameKind.cell) else (n, k)) r = r' at ih ⊢
    dsimp only
    by_cases hc : (k == NameKind.free && env.scope.kind == .function && env.kindOf n == some .cell) = true
    · rw [if_pos hc, List.lookup_cons]
      rw [List.lookup_cons] at h
      cases hx : x == n
      · rw [hx] at h
        exact ih h
      · exact .inl rfl
    · rw [if_neg hc, List.lookup_cons]
      rw [List.lookup_cons] at h
      cases hx : x == n
      · rw [hx] at h
        exact ih h
      · rw [hx] at h
        exact h
theorem blkIn_by {N : List Str} {env : Env} {sc scope : Scope} {own : List (Str × Nat)} (h : blkC N sc scope own = true) : BlkOk N (relabel sc env) scope own := by
  have b := blkOk_by h
  exact ⟨b.kind, b.uniq, b.ix, fun y hy e => look_relabel (b.free y hy e), b.own⟩
end Cot

set_option Elab.async false
set_option linter.all false
set_option maxRecDepth 100000
set_option maxHeartbeats 4000000
/-! A slice of a list told anew, lists of lists of ints that are changed, calls by names. -/
namespace Cot
open PySem PySem.Spec PyProof.Rows L2 Evl
section
variable {X : Cx}
/-- o[lo:hi] = a new list -/
def gSlc (to : TE) (tl th : TO) : TG := fun v σ H Q => to σ H fun o H1 => tl σ H1 fun lo H2 => th σ H2 fun hi H3 => ∃ l b xs ys a c, o = .ref l ∧ v = .ref b ∧ lo = some a ∧ hi = some c ∧ H3 l = some (.lst xs) ∧ H3 b = some (.lst ys) ∧ l ≠ b ∧ 0 ≤ a ∧ a ≤ c ∧ c ≤ (xs.length : Int) ∧ xs.length + ys.length ≤ sizeLine ∧ Q σ (upd H3 l (.lst (xs.take a.toNat ++ ys ++ xs.drop c.toNat)))
theorem pg_slc {o : Expr} {lo hi : Option Expr} {to : TE} {tl th : TO} {p2 pos : Pos} (ho : PE X o to) (hl : PO X lo tl) (hu : PO X hi th)
    (ha : ∀ v, assign (.Subscript o (.Slice lo hi none p2) pos) X.env v = (do
      let ov ← holding [v] (eval o X.env)
      let iv ← holding [v, ov] (eval (.Slice lo hi none p2) X.env)
      standAt pos
      holding [v, ov, iv] (setItem ov iv v)
      release [iv, v, ov] []) := by intro _; rfl) : PG X (.Subscript o (.Slice lo hi none p2) pos) (gSlc to tl th) := by
  refine ⟨fun pins s σ H v u Q I r h => ?_⟩
  rw [ha]
  refine wpAny_bind (wpAny_holding (thn (ho.run pins s σ H _ I h) fun ov s1 ⟨x, H1, I1, r1, q1⟩ => ?_))
  refine wpAny_bind (wpAny_holding ?_)
  refine wpAny_Slice (thn (hl.run pins s1 σ H1 _ I1 q1) fun vl s2 ⟨l, H2, I2, pl, q2⟩ => thn (hu.run pins s2 σ H2 _ I2 q2) fun vu s3 ⟨uu, H3, I3, pu, q3⟩ => ?_)
  rw [evalPart_none]
  refine wpAny_pure ?_
  have I4 : Inv X pins σ H3 { s3 with heap := s3.heap.push { cls := .type "slice", data := .fields #[vl, vu, .none] } } := I3.kept (t' := s3.toks) fun b ob q => Heap.get?_push_of_some _ q
  obtain ⟨l', b, xs, ys, a, c, rfl, rfl, rfl, rfl, hl3, hb3, hne, h0, h1, h2, hz, q⟩ := q3
  cases r1
  cases r
  have ra : RelV (.int a) vl := by cases pl; exact ⟨_, rfl⟩
  have rc : RelV (.int c) vu := by cases pu; exact ⟨_, rfl⟩
  refine wpAny_bind (wpAny_standAt (wpAny_bind (wpAny_holding (set_slice I4 hl3 hb3 hne (Heap.IsSliceOf.new ..) ra rc h0 h1 h2 hz fun s5 I5 => ?_))))
  exact wpAny_release ⟨σ, _, I5, q⟩
end
/-! ### calls by names -/
section
variable {K : PySem.W.Frag} {x qual : Str} {st : Stmt} {f : Addr} {fd : FuncData} {ps : List Str}
theorem kbFun (F : Fun K x qual st f fd) {n : Nat} {ks : List Str}
    (h : ∀ (kV doc pm : Value) (an : Option Addr) (cdv ct : Value) (us ws : List Value), us.length = n → ws.length = ks.length → bindArgs (PySem.W.fnOf x qual (defArgs st) (defBody st) (defScope st) .none kV doc pm an cdv ct) ⟨us, ks.zip ws⟩ = pure (ps.zip (us ++ ws))) :
    KBn K fd ps n ks (fun us ws => us ++ ws) (fun us ws => us ++ ws) := by
  obtain ⟨oc, od, kV, doc, pm, an, cdv, ct, osl, rfl, lk, hcd⟩ := F.ex
  exact ⟨fun s us ws X h1 h2 => .of_eq (h kV doc pm an cdv ct us ws h1 h2), fun r1 r2 => r1.append r2⟩
theorem kbFunR (F : Fun K x qual st f fd) {n : Nat} {ks : List Str}
    (h : ∀ (kV doc pm : Value) (an : Option Addr) (cdv ct : Value) (us ws : List Value), us.length = n → ws.length = ks.length → bindArgs (PySem.W.fnOf x qual (defArgs st) (defBody st) (defScope st) .none kV doc pm an cdv ct) ⟨us, ks.zip ws⟩ = pure (ps.zip (us ++ ws.reverse))) :
    KBn K fd ps n ks (fun us ws => us ++ ws.reverse) (fun us ws => us ++ ws.reverse) := by
  obtain ⟨oc, od, kV, doc, pm, an, cdv, ct, osl, rfl, lk, hcd⟩ := F.ex
  exact ⟨fun s us ws X h1 h2 => .of_eq (h kV doc pm an cdv ct us ws h1 h2), fun r1 r2 => r1.append r2.reverse⟩
end
section
variable {K : PySem.W.Frag} {a p : Addr} {ps : List Addr} {rs : List (List Int)} {r ns : List Int} {H H' Hd Hn H1 H2 : Hp} {σ : L2.St} {ta tb te tl : TE} {tlo thi : TO} {tr tk : TA} {D : Ends} {tz : TS} {d : PyData} {ds es : List PyData} {i j : Nat} {lo hi : Int}
theorem ed_callR {R : List PyData → PyData → Prop} {E : XK} {n k : Nat} (h : EvDA K tr σ Hd ds) (hk : EvDA K tk σ Hd es) (h1 : ds.length = n) (h2 : es.length = k) (hr : R (ds ++ es.reverse) d) : EvD K (tCallN n k (spF K R) (fun us ws => us ++ ws.reverse) E tr tk) σ Hd d := fun H s Q q =>
  h H s _ fun vs H2 Hn g hd => (hk.mono g.dx) H2 g.sub _ fun ws H3 Hm g3 hd3 => ⟨by rw [dpa_len hd]; exact h1, by rw [dpa_len hd3]; exact h2, Hm, ds ++ es.reverse, d, g3.sub, dpa_app (dpa_mono g3.dx _ hd) (dpa_rev hd3), hr, fun v H4 Ho g4 h4 => q v H4 Ho ((g.trans g3).trans g4) h4⟩
theorem en_listT (h : EvD K te σ Hd (.tuple ds)) : EvN K (tCB (rListS K) (tCons te tNil)) σ Hd ds := fun H s Q q =>
  h H s _ fun v H2 Hn g hd => by
    cases hd with
    | @tup a xs ds hs hall => exact ⟨a, xs, rfl, Or.inr (ex_t g.sub hs), fun r hr => q r _ _ Hn (g.trans (Gr.alloc g.sub hr)) (fresh_back g.ex hr) (fresh_back g.sub hr) upd_same hall⟩
/-- a list of lists of ints, each its own -/
structure LL (H : Hp) (a : Addr) (ps : List Addr) (rs : List (List Int)) : Prop where
  top : H a = some (.lst (ps.map .ref))
  len : ps.length = rs.length
  nd : ps.Nodup
  out : a ∉ ps
  row : ∀ (i : Nat) (p : Addr) (r : List Int), ps[i]? = some p → rs[i]? = some r → H p = some (.lst (r.map .int))
theorem LL.ext (h : LL H a ps rs) (e : Ex H H2) : LL H2 a ps rs := ⟨e _ _ h.top, h.len, h.nd, h.out, fun i p r h1 h2 => e _ _ (h.row i p r h1 h2)⟩
theorem LL.oth {q : Addr} {o : HO} (h : LL H a ps rs) (n : q ≠ a) (m : q ∉ ps) : LL (upd H q o) a ps rs := ⟨by rw [upd_ne n.symm]; exact h.top, h.len, h.nd, h.out, fun i p r h1 h2 => by
  rw [upd_ne (show p ≠ q from fun e => m (by rw [← e]; exact List.mem_of_getElem? h1))]
  exact h.row i p r h1 h2⟩
theorem LL.put (h : LL H a ps rs) (hp : ps[i]? = some p) (r' : List Int) : LL (upd H p (.lst (r'.map .int))) a ps (rs.set i r') := by
  have hm := List.mem_of_getElem? hp
  refine ⟨by rw [upd_ne (show a ≠ p from fun e => h.out (by rw [e]; exact hm))]; exact h.top, by rw [List.length_set]; exact h.len, h.nd, h.out, fun k q r h1 h2 => ?_⟩
  by_cases e : k = i
  · subst e
    rw [h1] at hp
    cases hp
    have hk : k < rs.length := by
      have := List.getElem?_eq_some_iff.mp h1
      rw [← h.len]
      exact this.1
    rw [List.getElem?_set_self hk] at h2
    cases h2
    exact upd_same
  · rw [List.getElem?_set_ne (fun e2 => e e2.symm)] at h2
    have hne : q ≠ p := by
      intro e2
      subst e2
      have a1 := List.getElem?_eq_some_iff.mp h1
      have a2 := List.getElem?_eq_some_iff.mp hp
      exact e ((List.getElem_inj h.nd).mp (a1.2.trans a2.2.symm))
    rw [upd_ne hne]
    exact h.row k q r h1 h2
theorem ll_data : ∀ {ps : List Addr} {rs : List (List Int)}, ps.length = rs.length → (∀ (i : Nat) (p : Addr) (r : List Int), ps[i]? = some p → rs[i]? = some r → H p = some (.lst (r.map .int))) → DpAll K H (ps.map .ref) (rs.map fun r => .list (r.map .int))
  | [], [], _, _ => .nil
  | [], _ :: _, h, _ => by cases h
  | _ :: _, [], h, _ => by cases h
  | p :: ps, r :: rs, h, k => .cons (.lst (sq_of (k 0 p r rfl rfl)) (dpa_ints r)) (ll_data (by simpa using h) fun i p r h1 h2 => k (i + 1) p r h1 h2)
theorem LL.data (h : LL H a ps rs) (s : Ex Hd H) (na : Hd a = none) (np : ∀ p ∈ ps, Hd p = none) : ∃ Hn, Ex Hd Hn ∧ Ex Hn H ∧ Dp K Hn (.ref a) (.list (rs.map fun r => .list (r.map .int))) ∧ ∀ q, q ≠ a → q ∉ ps → Hn q = Hd q := by
  refine ⟨fun x => if x = a ∨ x ∈ ps then H x else Hd x, fun x o hx => ?_, fun x o hx => ?_, .lst (xs := ps.map .ref) (sq_of ?_) (ll_data h.len fun i p r h1 h2 => ?_), fun q n m => if_neg (fun h => h.elim n m)⟩
  · show (if x = a ∨ x ∈ ps then H x else Hd x) = some o
    split
    · exact s x o hx
    · exact hx
  · have hx' : (if x = a ∨ x ∈ ps then H x else Hd x) = some o := hx
    split at hx'
    · exact hx'
    · exact s x o hx'
  · show (if a = a ∨ a ∈ ps then H a else Hd a) = _
    rw [if_pos (.inl rfl)]
    exact h.top
  · show (if p = a ∨ p ∈ ps then H p else Hd p) = _
    rw [if_pos (.inr (List.mem_of_getElem? h1))]
    exact h.row i p r h1 h2
def EvLL (te : TE) (σ : L2.St) (Hd : Hp) (rs : List (List Int)) : Prop := ∀ H, Ex Hd H → ∀ Q : VK, (∀ a ps H2, Ex H H2 → H a = none → (∀ p ∈ ps, H p = none) → LL H2 a ps rs → Q (.ref a) H2) → te σ H Q
theorem go_asgLL (s : Ex Hd H) (h : EvLL te σ Hd rs) (k : ∀ a ps H', Ex H H' → H a = none → (∀ p ∈ ps, H p = none) → LL H' a ps rs → Go tz D (σ.set i (some (.ref a))) H') : Go (tSeq (tAsg te (gName i)) tz) D σ H := fun H1 e1 =>
  h H1 (s.trans e1) _ fun a ps H2 e2 n m l => k a ps H2 (e1.trans e2) (fresh_back e1 n) (fun p hp => fresh_back e1 (m p hp)) l _ (Ex.refl _)
theorem ll_lc {vs : List Nat} (h : EvD K tl σ Hd (.tuple (rs.map fun r => .tuple (r.map .int)))) (hn : rs.length ≤ 1000) (hw : ∀ u, wipe ((wipe σ vs).set j (some u)) vs = wipe σ vs) (hj : ∀ u, ((wipe σ vs).set j (some u))[j]? = some (some u)) :
    EvLL (tLc (iTup K tl) (gName j) tYes (tCB (rListS K) (tCons (tVar j) tNil)) vs) σ Hd rs := fun H s Q q =>
  (ei_tup (j := j) h) H s _ fun J H1 Hn G Y gr w hG hY Dl hD => by
    rw [List.length_map] at w hY
    refine lc_it w (fun i H' => i ≤ rs.length ∧ ∃ ps, Ex H1 H' ∧ (∀ p ∈ ps, H1 p = none) ∧ LL H' Dl ps (rs.take i)) ⟨Nat.zero_le _, [], Ex.new hD, (fun _ h => by cases h), ⟨upd_same, rfl, List.nodup_nil, (fun h => by cases h), fun i p r h1 _ => by simp at h1⟩⟩ (fun i H' _ p => ?_) (fun i x H' H'' hi p y => ?_) (fun H' p => ?_)
    · obtain ⟨_, ps, e, _⟩ := p
      exact hG H' (gr.sub.trans e)
    · obtain ⟨_, ps, e, hf, L⟩ := p
      refine hY i x H' H'' _ _ hi (gr.sub.trans e) y fun σ2 H3 e3 hS => ?_
      obtain ⟨u, d, h3, h4, rfl⟩ := hS
      refine ⟨hw u, et_yes (H := Hn) H3 ((gr.sub.trans e).trans e3) _ fun H4 e4 => ?_⟩
      show (tCB (rListS K) (tCons (tVar j) tNil)) _ H4 _
      rw [List.getElem?_map, List.getElem?_eq_getElem hi] at h3
      cases h3
      refine (ed_var (hj u) h4) H4 (((gr.sub.trans e).trans e3).trans e4) _ fun v H5 Hm g5 hd5 => ?_
      cases hd5 with
      | @tup b xs ds hs hall =>
        have ex := dpa_ints_inv hall
        subst ex
        refine ⟨b, _, rfl, Or.inr (ex_t g5.sub hs), fun l hl => ?_⟩
        have L5 : LL H5 Dl ps (rs.take i) := L.ext ((e3.trans e4).trans g5.ex)
        have e15 : Ex H1 H5 := (e.trans (e3.trans e4)).trans g5.ex
        have nl : l ≠ Dl := (ne_of_none L5.top hl).symm
        have nps : l ∉ ps := by
          intro hm
          obtain ⟨k, hk, ek⟩ := List.getElem_of_mem hm
          have := L5.row k l ((rs.take i)[k]'(by rw [← L5.len]; exact hk)) (List.getElem?_eq_some_iff.mpr ⟨hk, ek⟩) (List.getElem?_eq_getElem _)
          rw [hl] at this
          cases this
        have lps : ps.length = i := by
          have := L5.len
          rw [List.length_take] at this
          omega
        have L6 := L5.oth (o := .lst ((rs[i]).map .int)) nl nps
        refine ⟨ps.map .ref, L6.top, sz_lt (by rw [List.length_map]; omega), hi, ps ++ [l], ?_, ?_, ?_⟩
        · exact Ex.mut (e15.trans (Ex.new hl)) hD
        · intro p hp
          rcases List.mem_append.mp hp with hp | hp
          · exact hf p hp
          · rcases List.mem_cons.mp hp with rfl | hp
            · exact fresh_back e15 hl
            · cases hp
        · have et : rs.take (i + 1) = rs.take i ++ [rs[i]] := by rw [List.take_append_getElem]
          have ei : (rs.take i).length = i := by rw [List.length_take]; omega
          refine ⟨?_, ?_, ?_, ?_, ?_⟩
          · rw [upd_same, List.map_append]
            rfl
          · rw [et, List.length_append, List.length_append, lps, ei]
            rfl
          · rw [List.nodup_append]
            refine ⟨L6.nd, by simp, fun x hx y hy e => ?_⟩
            rcases List.mem_cons.mp hy with rfl | hy
            · subst e; exact nps hx
            · cases hy
          · intro hm
            rcases List.mem_append.mp hm with hm | hm
            · exact L6.out hm
            · rcases List.mem_cons.mp hm with e | hm
              · exact nl e.symm
              · cases hm
          · intro k p r h1 h2
            rw [et] at h2
            by_cases hk : k < i
            · rw [List.getElem?_append_left (by omega)] at h1 h2
              rw [upd_ne (show p ≠ Dl from fun e => L6.out (by rw [← e]; exact List.mem_of_getElem? h1))]
              exact L6.row k p r h1 h2
            · have hk2 : k = i := by
                have := (List.getElem?_eq_some_iff.mp h1).1
                rw [List.length_append, lps, List.length_singleton] at this
                omega
              subst hk2
              rw [List.getElem?_append_right (by omega), lps, Nat.sub_self] at h1
              rw [List.getElem?_append_right (by omega), ei, Nat.sub_self] at h2
              cases h1
              cases h2
              rw [upd_ne nl, upd_same]
    · obtain ⟨_, ps, e, hf, L⟩ := p
      rw [List.take_length] at L
      exact q Dl ps H' (gr.ex.trans e) (fresh_back gr.ex hD) (fun p hp => fresh_back gr.ex (hf p hp)) L
theorem go_slc (s : Ex Hd H) (L : LL H a ps rs) (np : ∀ p ∈ ps, Hd p = none) (h : EvN K te σ Hd (ns.map .int)) (ha : Ev ta σ H (.ref p)) (hp : ps[i]? = some p) (hr : rs[i]? = some r) (h1 : EvO tlo σ H (some lo)) (h2 : EvO thi σ H (some hi)) (b0 : 0 ≤ lo) (b1 : lo ≤ hi) (b2 : hi ≤ (r.length : Int)) (hz : r.length + ns.length ≤ 100000)
    (k : ∀ H', Ex Hd H' → LL H' a ps (rs.set i (r.take lo.toNat ++ ns ++ r.drop hi.toNat)) → Go tz D σ H') : Go (tSeq (tAsg te (gSlc ta tlo thi)) tz) D σ H := fun H1 e1 =>
  h H1 (s.trans e1) _ fun b xs H2 Hn g n1 n2 hb hx => by
    have ex := dpa_ints_inv hx
    subst ex
    have hpr := L.row i p r hp hr
    have pm := List.mem_of_getElem? hp
    refine ha H2 (e1.trans g.ex) _ fun H3 e3 => h1 H3 ((e1.trans g.ex).trans e3) _ fun H4 e4 => h2 H4 (((e1.trans g.ex).trans e3).trans e4) _ fun H5 e5 => ?_
    have E5 : Ex H H5 := (((e1.trans g.ex).trans e3).trans e4).trans e5
    refine ⟨p, b, r.map .int, ns.map .int, lo, hi, rfl, rfl, rfl, rfl, E5 _ _ hpr, ((e3.trans e4).trans e5) _ _ hb, ne_of_none (e1 _ _ hpr) n1, b0, b1, by rw [List.length_map]; exact b2, sz_of (by rw [List.length_map, List.length_map]; exact hz), ?_⟩
    have e : (r.map V.int).take lo.toNat ++ ns.map V.int ++ (r.map V.int).drop hi.toNat = (r.take lo.toNat ++ ns ++ r.drop hi.toNat).map V.int := by
      rw [List.map_append, List.map_append, List.map_take, List.map_drop]
    rw [e]
    exact k _ (Ex.mut (s.trans E5) (np p pm)) ((L.ext E5).put hp _) _ (Ex.refl _)
theorem go_setLL {v : Int} (s : Ex Hd H) (L : LL H a ps rs) (np : ∀ p ∈ ps, Hd p = none) (h : Ev te σ H (.int v)) (ha : Ev ta σ H (.ref p)) (hp : ps[i]? = some p) (hr : rs[i]? = some r) (hj : Ev tb σ H (.int (j : Int))) (hl : j < r.length)
    (k : ∀ H', Ex Hd H' → LL H' a ps (rs.set i (r.set j v)) → Go tz D σ H') : Go (tSeq (tAsg te (gSub ta tb rSetL)) tz) D σ H := by
  refine go_setL (j := j) (L.row i p r hp hr) h ha hj (by rw [List.length_map]; exact hl) ?_
  have e : (r.map V.int).set j (.int v) = (r.set j v).map V.int := by rw [List.map_set]
  rw [e]
  exact k _ (Ex.mut s (np p (List.mem_of_getElem? hp))) (L.put hp _)
end
end Cot

namespace C_k32
open PySem PySem.Spec PyProof.Rows L2 Evl Cot RZ L2H
local macro_rules | `(tactic| walk_at "side") => `(tactic| first | decide | omega | (show (0 : Int) < _; omega) | (show (0 : Int) < _ ∧ _ < (1073741824 : Int); omega) | (exact Or.inr (by omega)) | (exact Or.inl (by omega)) | (show (0 : Int) ≤ _ ∧ _ ≤ (1000000 : Int) ∧ _; refine ⟨by decide, by decide, by decide⟩))
local macro_rules | `(tactic| walk_at "rv") => `(tactic| first
  | with_reducible exact rv_I0
  | ((with_reducible apply rv_I); walk_at "side")
  | ((with_reducible apply rv_eq); rfl)
  | ((with_reducible apply rv_ne); rfl)
  | ((with_reducible apply rv_ixL); (first | exact sq_of (by assumption) | exact sq_of upd_same); rfl)
  | with_reducible exact rv_isN)
local macro_rules | `(tactic| walk_at "ev") => `(tactic| first
  | ((with_reducible apply ev_var); rfl)
  | with_reducible exact ev_c
  | ((with_reducible apply ev_op); walk_at "ev"; walk_at "ev"; walk_at "rv")
  | ((with_reducible apply ev_un); walk_at "ev"; exact ru_neg)
  | ((with_reducible apply ev_chainB); walk_at "ev"; walk_at "ev"; walk_at "rv"; walk_at "ev"; walk_at "rv")
  | ((with_reducible apply ev_andB); walk_at "ev"; walk_at "ev")
  | ((with_reducible apply ev_orB); walk_at "ev"; walk_at "ev")
  | ((with_reducible apply ev_notV); walk_at "ev")
  | ((with_reducible apply ev_ifB); walk_at "et"; walk_at "ev"; walk_at "ev"))
local macro_rules | `(tactic| walk_at "ea") => `(tactic| first
  | with_reducible exact ea_nil
  | ((with_reducible apply ea_cons); walk_at "ev"; walk_at "ea"))
local macro_rules | `(tactic| walk_at "et") => `(tactic| first
  | ((with_reducible apply et_test); walk_at "ev")
  | ((with_reducible apply et_B); walk_at "ev")
  | ((with_reducible apply et_not); walk_at "et")
  | ((with_reducible apply et_andB); walk_at "et"; walk_at "et")
  | ((with_reducible apply et_orB); walk_at "et"; walk_at "et"))
local macro_rules | `(tactic| walk_at "kb") => `(tactic| first | exact kb_NoneType_bool | exact kb_NoneType_int | exact kb_NoneType_str | exact kb_NoneType_list | exact kb_NoneType_tuple | exact kb_bool_bool | exact kb_bool_int | exact kb_bool_str | exact kb_bool_list | exact kb_bool_tuple | exact kb_int_bool | exact kb_int_int | exact kb_int_str | exact kb_int_list | exact kb_int_tuple | exact kb_str_bool | exact kb_str_int | exact kb_str_str | exact kb_str_list | exact kb_str_tuple | exact kb_list_bool | exact kb_list_int | exact kb_list_str | exact kb_list_list | exact kb_list_tuple | exact kb_tuple_bool | exact kb_tuple_int | exact kb_tuple_str | exact kb_tuple_list | exact kb_tuple_tuple)
local macro_rules | `(tactic| walk_at "ed") => `(tactic| first
  | ((with_reducible apply ed_var); rfl; first | assumption | exact Dp.int _ | exact Dp.bl _ | exact Dp.str _ | exact Dp.non)
  | ((with_reducible apply ed_tup); walk_at "eda"; (simp only [List.length_cons, List.length_nil]; decide))
  | ((with_reducible apply ed_new); walk_at "en")
  | ((with_reducible apply ed_int); walk_at "ev")
  | ((with_reducible apply ed_bool); walk_at "ev")
  | ((with_reducible apply ed_str); walk_at "ev")
  | ((with_reducible apply ed_non); walk_at "ev"))
local macro_rules | `(tactic| walk_at "en") => `(tactic| first
  | ((with_reducible apply en_lst); walk_at "eda"; (simp only [List.length_cons, List.length_nil]; decide)))
local macro_rules | `(tactic| walk_at "eda") => `(tactic| first
  | with_reducible exact eda_nil
  | ((with_reducible apply eda_cons); walk_at "ed"; walk_at "eda"))
local macro_rules | `(tactic| walk_at "ev") => `(tactic| first
  | ((with_reducible apply ev_isi); walk_at "ed"; walk_at "kb")
  | ((with_reducible apply ev_isiT2); walk_at "ed"; walk_at "kb"; walk_at "kb")
  | ((with_reducible apply ev_eqD); walk_at "ed"; walk_at "ed"; rfl; rfl)
  | ((with_reducible apply ev_neD); walk_at "ed"; walk_at "ed"; rfl; rfl)
  | ((with_reducible apply ev_lenL); walk_at "ed")
  | ((with_reducible apply ev_lenT); walk_at "ed"))

def topS (i : Nat) : Stmt := PySem.Challenge.pw_cotide_k32_patches_refused.main.body.getD i (.Pass ⟨0, 0, 0, 0⟩)
abbrev s_is_clock : Stmt := topS 23
abbrev N_is_clock : List Str := ["clock"]
theorem sc_is_clock : FnScope N_is_clock ["clock"] (defScope s_is_clock) := ⟨rfl, rfl, rfl, by decide +kernel, rfl, by decide +kernel, by decide +kernel⟩
abbrev s_is_what : Stmt := topS 27
abbrev N_is_what : List Str := ["clock", "one"]
theorem sc_is_what : FnScope N_is_what ["clock", "one"] (defScope s_is_what) := ⟨rfl, rfl, rfl, by decide +kernel, rfl, by decide +kernel, by decide +kernel⟩
abbrev s_is_row : Stmt := topS 28
abbrev N_is_row : List Str := ["clock", "row", "wide", "one"]
theorem sc_is_row : FnScope N_is_row ["clock", "row", "wide"] (defScope s_is_row) := ⟨rfl, rfl, rfl, by decide +kernel, rfl, by decide +kernel, by decide +kernel⟩
abbrev s_is_chart : Stmt := topS 29
abbrev N_is_chart : List Str := ["chart", "clock", "rows", "wide", "row"]
theorem sc_is_chart : FnScope N_is_chart ["chart"] (defScope s_is_chart) := ⟨rfl, rfl, rfl, by decide +kernel, rfl, by decide +kernel, by decide +kernel⟩
abbrev s_need_chart : Stmt := topS 30
abbrev N_need_chart : List Str := ["chart"]
theorem sc_need_chart : FnScope N_need_chart ["chart"] (defScope s_need_chart) := ⟨rfl, rfl, rfl, by decide +kernel, rfl, by decide +kernel, by decide +kernel⟩
abbrev s_size : Stmt := topS 31
abbrev N_size : List Str := ["chart", "rows"]
theorem sc_size : FnScope N_size ["chart"] (defScope s_size) := ⟨rfl, rfl, rfl, by decide +kernel, rfl, by decide +kernel, by decide +kernel⟩
abbrev s_need_within : Stmt := topS 33
abbrev N_need_within : List Str := ["chart", "top", "left", "high", "wide", "rows", "columns"]
theorem sc_need_within : FnScope N_need_within ["chart", "top", "left", "high", "wide"] (defScope s_need_within) := ⟨rfl, rfl, rfl, by decide +kernel, rfl, by decide +kernel, by decide +kernel⟩
abbrev s_need_fit : Stmt := topS 34
abbrev N_need_fit : List Str := ["chart", "patch", "top", "left", "high", "wide"]
theorem sc_need_fit : FnScope N_need_fit ["chart", "patch", "top", "left"] (defScope s_need_fit) := ⟨rfl, rfl, rfl, by decide +kernel, rfl, by decide +kernel, by decide +kernel⟩
abbrev s_cut : Stmt := topS 35
abbrev N_cut : List Str := ["chart", "top", "left", "rows", "columns", "row"]
theorem sc_cut : FnScope N_cut ["chart", "top", "left", "rows", "columns"] (defScope s_cut) := ⟨rfl, rfl, rfl, by decide +kernel, rfl, by decide +kernel, by decide +kernel⟩
abbrev s_laid_in : Stmt := topS 36
abbrev N_laid_in : List Str := ["chart", "patch", "top", "left", "rows", "at", "row"]
theorem sc_laid_in : FnScope N_laid_in ["chart", "patch", "top", "left"] (defScope s_laid_in) := ⟨rfl, rfl, rfl, by decide +kernel, rfl, by decide +kernel, by decide +kernel⟩
abbrev s_law_box : Stmt := topS 38
abbrev N_law_box : List Str := ["_law_script", "_law_seed", "_law_cell"]
theorem sc_law_box : FnScope N_law_box ["_law_script"] (defScope s_law_box) := ⟨rfl, rfl, rfl, by decide +kernel, rfl, by decide +kernel, by decide +kernel⟩
abbrev s_law_mixed : Stmt := topS 39
abbrev N_law_mixed : List Str := ["_law_number_here", "_law_turn", "_law_base", "_law_more"]
theorem sc_law_mixed : FnScope N_law_mixed ["_law_number_here", "_law_turn"] (defScope s_law_mixed) := ⟨rfl, rfl, rfl, by decide +kernel, rfl, by decide +kernel, by decide +kernel⟩
abbrev s_law_take : Stmt := topS 40
abbrev N_law_take : List Str := ["_law_box_here", "_law_many", "_law_rest", "_law_cell"]
theorem sc_law_take : FnScope N_law_take ["_law_box_here", "_law_many"] (defScope s_law_take) := ⟨rfl, rfl, rfl, by decide +kernel, rfl, by decide +kernel, by decide +kernel⟩
abbrev s_law_clock : Stmt := topS 41
abbrev N_law_clock : List Str := ["_law_box_here"]
theorem sc_law_clock : FnScope N_law_clock ["_law_box_here"] (defScope s_law_clock) := ⟨rfl, rfl, rfl, by decide +kernel, rfl, by decide +kernel, by decide +kernel⟩
abbrev s_law_number : Stmt := topS 42
abbrev N_law_number : List Str := ["_law_box_here"]
theorem sc_law_number : FnScope N_law_number ["_law_box_here"] (defScope s_law_number) := ⟨rfl, rfl, rfl, by decide +kernel, rfl, by decide +kernel, by decide +kernel⟩
abbrev s_law_square : Stmt := topS 43
abbrev N_law_square : List Str := ["_law_box_here", "_law_clock_here", "_law_land", "_law_untold", "_law_calm", "_law_old", "_law_way"]
theorem sc_law_square : FnScope N_law_square ["_law_box_here", "_law_clock_here", "_law_land", "_law_untold", "_law_calm", "_law_old"] (defScope s_law_square) := ⟨rfl, rfl, rfl, by decide +kernel, rfl, by decide +kernel, by decide +kernel⟩
abbrev s_law_near_hour : Stmt := topS 44
abbrev N_law_near_hour : List Str := ["_law_rows", "_law_line"]
theorem sc_law_near_hour : FnScope N_law_near_hour ["_law_rows", "_law_line"] (defScope s_law_near_hour) := ⟨rfl, rfl, rfl, by decide +kernel, rfl, by decide +kernel, by decide +kernel⟩
abbrev s_law_chart : Stmt := topS 45
abbrev N_law_chart : List Str := ["_law_box_here", "_law_most", "_law_untold", "_law_clock_here", "_law_high", "_law_wide", "_law_land", "_law_calm", "_law_rows", "_law_row", "_law_line", "_law_column"]
theorem sc_law_chart : FnScope N_law_chart ["_law_box_here", "_law_most", "_law_untold"] (defScope s_law_chart) := ⟨rfl, rfl, rfl, by decide +kernel, rfl, by decide +kernel, by decide +kernel⟩
abbrev s_law_word : Stmt := topS 46
abbrev N_law_word : List Str := ["_law_ask", "_law_e"]
theorem sc_law_word : FnScope N_law_word ["_law_ask"] (defScope s_law_word) := ⟨rfl, rfl, rfl, by decide +kernel, rfl, by decide +kernel, by decide +kernel⟩
abbrev s_law_kind : Stmt := topS 47
abbrev N_law_kind : List Str := ["_law_e", "_law_rows", "_law_name", "_law_so"]
theorem sc_law_kind : FnScope N_law_kind ["_law_e"] (defScope s_law_kind) := ⟨rfl, rfl, rfl, by decide +kernel, rfl, by decide +kernel, by decide +kernel⟩
abbrev s_law_is_chart : Stmt := topS 48
abbrev N_law_is_chart : List Str := ["_law_chart_here", "_law_clock_here", "_law_rows", "_law_line", "_law_one"]
theorem sc_law_is_chart : FnScope N_law_is_chart ["_law_chart_here"] (defScope s_law_is_chart) := ⟨rfl, rfl, rfl, by decide +kernel, rfl, by decide +kernel, by decide +kernel⟩
abbrev s_law : Stmt := topS 49
abbrev N_law : List Str := ["_law_script", "_law_box_here", "_law_chart_here", "_law_patch", "_law_high", "_law_wide", "_law_k", "_law_spot", "_law_good", "_law_due", "_law_turn"]
theorem sc_law : FnScope N_law ["_law_script"] (defScope s_law) := ⟨rfl, rfl, rfl, by decide +kernel, rfl, by decide +kernel, by decide +kernel⟩
structure Tx (K : PySem.W.Frag) (mg : Str → Option Value) where
  a_is_clock : Addr
  d_is_clock : FuncData
  F_is_clock : Fun K "is_clock" "is_clock" s_is_clock a_is_clock d_is_clock
  g_is_clock : mg "is_clock" = some (.ref a_is_clock)
  b_is_clock : Binds K d_is_clock ["clock"] []
  a_is_what : Addr
  d_is_what : FuncData
  F_is_what : Fun K "is_what" "is_what" s_is_what a_is_what d_is_what
  g_is_what : mg "is_what" = some (.ref a_is_what)
  b_is_what : Binds K d_is_what ["clock", "one"] []
  a_is_row : Addr
  d_is_row : FuncData
  F_is_row : Fun K "is_row" "is_row" s_is_row a_is_row d_is_row
  g_is_row : mg "is_row" = some (.ref a_is_row)
  b_is_row : Binds K d_is_row ["clock", "row", "wide"] []
  a_is_chart : Addr
  d_is_chart : FuncData
  F_is_chart : Fun K "is_chart" "is_chart" s_is_chart a_is_chart d_is_chart
  g_is_chart : mg "is_chart" = some (.ref a_is_chart)
  b_is_chart : Binds K d_is_chart ["chart"] []
  a_need_chart : Addr
  d_need_chart : FuncData
  F_need_chart : Fun K "need_chart" "need_chart" s_need_chart a_need_chart d_need_chart
  g_need_chart : mg "need_chart" = some (.ref a_need_chart)
  b_need_chart : Binds K d_need_chart ["chart"] []
  a_size : Addr
  d_size : FuncData
  F_size : Fun K "size" "size" s_size a_size d_size
  g_size : mg "size" = some (.ref a_size)
  b_size : Binds K d_size ["chart"] []
  a_need_within : Addr
  d_need_within : FuncData
  F_need_within : Fun K "need_within" "need_within" s_need_within a_need_within d_need_within
  g_need_within : mg "need_within" = some (.ref a_need_within)
  b_need_within : Binds K d_need_within ["chart", "top", "left", "high", "wide"] []
  a_need_fit : Addr
  d_need_fit : FuncData
  F_need_fit : Fun K "need_fit" "need_fit" s_need_fit a_need_fit d_need_fit
  g_need_fit : mg "need_fit" = some (.ref a_need_fit)
  b_need_fit : Binds K d_need_fit ["chart", "patch", "top", "left"] []
  a_cut : Addr
  d_cut : FuncData
  F_cut : Fun K "cut" "cut" s_cut a_cut d_cut
  g_cut : mg "cut" = some (.ref a_cut)
  b_cut : Binds K d_cut ["chart", "top", "left", "rows", "columns"] []
  a_laid_in : Addr
  d_laid_in : FuncData
  F_laid_in : FunD K "laid_in" "laid_in" (defArgs s_laid_in) (defBody s_laid_in) (defScope s_laid_in) [.int (0), .int (0)] [] a_laid_in d_laid_in
  g_laid_in : mg "laid_in" = some (.ref a_laid_in)
  b_laid_in : Binds K d_laid_in ["chart", "patch", "top", "left"] []
  a_law_box : Addr
  d_law_box : FuncData
  F_law_box : Fun K "_law_box" "_law_box" s_law_box a_law_box d_law_box
  g_law_box : mg "_law_box" = some (.ref a_law_box)
  b_law_box : Binds K d_law_box ["_law_script"] []
  a_law_mixed : Addr
  d_law_mixed : FuncData
  F_law_mixed : Fun K "_law_mixed" "_law_mixed" s_law_mixed a_law_mixed d_law_mixed
  g_law_mixed : mg "_law_mixed" = some (.ref a_law_mixed)
  b_law_mixed : Binds K d_law_mixed ["_law_number_here", "_law_turn"] []
  a_law_take : Addr
  d_law_take : FuncData
  F_law_take : Fun K "_law_take" "_law_take" s_law_take a_law_take d_law_take
  g_law_take : mg "_law_take" = some (.ref a_law_take)
  b_law_take : Binds K d_law_take ["_law_box_here", "_law_many"] []
  a_law_clock : Addr
  d_law_clock : FuncData
  F_law_clock : Fun K "_law_clock" "_law_clock" s_law_clock a_law_clock d_law_clock
  g_law_clock : mg "_law_clock" = some (.ref a_law_clock)
  b_law_clock : Binds K d_law_clock ["_law_box_here"] []
  a_law_number : Addr
  d_law_number : FuncData
  F_law_number : Fun K "_law_number" "_law_number" s_law_number a_law_number d_law_number
  g_law_number : mg "_law_number" = some (.ref a_law_number)
  b_law_number : Binds K d_law_number ["_law_box_here"] []
  a_law_square : Addr
  d_law_square : FuncData
  F_law_square : Fun K "_law_square" "_law_square" s_law_square a_law_square d_law_square
  g_law_square : mg "_law_square" = some (.ref a_law_square)
  b_law_square : Binds K d_law_square ["_law_box_here", "_law_clock_here", "_law_land", "_law_untold", "_law_calm", "_law_old"] []
  a_law_near_hour : Addr
  d_law_near_hour : FuncData
  F_law_near_hour : Fun K "_law_near_hour" "_law_near_hour" s_law_near_hour a_law_near_hour d_law_near_hour
  g_law_near_hour : mg "_law_near_hour" = some (.ref a_law_near_hour)
  b_law_near_hour : Binds K d_law_near_hour ["_law_rows", "_law_line"] []
  a_law_chart : Addr
  d_law_chart : FuncData
  F_law_chart : Fun K "_law_chart" "_law_chart" s_law_chart a_law_chart d_law_chart
  g_law_chart : mg "_law_chart" = some (.ref a_law_chart)
  b_law_chart : Binds K d_law_chart ["_law_box_here", "_law_most", "_law_untold"] []
  a_law_word : Addr
  d_law_word : FuncData
  F_law_word : Fun K "_law_word" "_law_word" s_law_word a_law_word d_law_word
  g_law_word : mg "_law_word" = some (.ref a_law_word)
  b_law_word : Binds K d_law_word ["_law_ask"] []
  a_law_kind : Addr
  d_law_kind : FuncData
  F_law_kind : Fun K "_law_kind" "_law_kind" s_law_kind a_law_kind d_law_kind
  g_law_kind : mg "_law_kind" = some (.ref a_law_kind)
  b_law_kind : Binds K d_law_kind ["_law_e"] []
  a_law_is_chart : Addr
  d_law_is_chart : FuncData
  F_law_is_chart : Fun K "_law_is_chart" "_law_is_chart" s_law_is_chart a_law_is_chart d_law_is_chart
  g_law_is_chart : mg "_law_is_chart" = some (.ref a_law_is_chart)
  b_law_is_chart : Binds K d_law_is_chart ["_law_chart_here"] []
  a_law : Addr
  d_law : FuncData
  F_law : Fun K "law" "law" s_law a_law d_law
  g_law : mg "law" = some (.ref a_law)
  b_law : Binds K d_law ["_law_script"] []
  t_LEAST_HOURS : Tok
  c_LEAST_HOURS : mg "LEAST_HOURS" = some (.int (3) t_LEAST_HOURS)
  t_MOST_HOURS : Tok
  c_MOST_HOURS : mg "MOST_HOURS" = some (.int (15) t_MOST_HOURS)
  t_MOST_SQUARES : Tok
  c_MOST_SQUARES : mg "MOST_SQUARES" = some (.int (9) t_MOST_SQUARES)
  t_UNTOLD : Tok
  c_UNTOLD : mg "UNTOLD" = some (.int (-2) t_UNTOLD)
  n_ValueError : mg "ValueError" = none
  n_all : mg "all" = none
  n_enumerate : mg "enumerate" = none
  n_int : mg "int" = none
  n_isinstance : mg "isinstance" = none
  n_len : mg "len" = none
  n_list : mg "list" = none
  n_range : mg "range" = none
  n_tuple : mg "tuple" = none
  a_TideError : Addr
  a_BadClock : Addr
  a_BadHour : Addr
  a_BadChart : Addr
  a_BadSquare : Addr
  a_BadRing : Addr
  a_BadBreaks : Addr
  a_BadPrices : Addr
  a_NoFill : Addr
  a_Unlike : Addr
  a_BadName : Addr
  a_Taken : Addr
  a_Full : Addr
  a_NoChart : Addr
  a_BadDay : Addr
  a_BadDeed : Addr
  a_NothingLeft : Addr
  a_Knotted : Addr
  a_BadText : Addr
  x_TideError : ExB K mg "TideError" a_TideError
  x_BadClock : ExB K mg "BadClock" a_BadClock
  x_BadHour : ExB K mg "BadHour" a_BadHour
  x_BadChart : ExB K mg "BadChart" a_BadChart
  x_BadSquare : ExB K mg "BadSquare" a_BadSquare
  x_BadRing : ExB K mg "BadRing" a_BadRing
  x_BadBreaks : ExB K mg "BadBreaks" a_BadBreaks
  x_BadPrices : ExB K mg "BadPrices" a_BadPrices
  x_NoFill : ExB K mg "NoFill" a_NoFill
  x_Unlike : ExB K mg "Unlike" a_Unlike
  x_BadName : ExB K mg "BadName" a_BadName
  x_Taken : ExB K mg "Taken" a_Taken
  x_Full : ExB K mg "Full" a_Full
  x_NoChart : ExB K mg "NoChart" a_NoChart
  x_BadDay : ExB K mg "BadDay" a_BadDay
  x_BadDeed : ExB K mg "BadDeed" a_BadDeed
  x_NothingLeft : ExB K mg "NothingLeft" a_NothingLeft
  x_Knotted : ExB K mg "Knotted" a_Knotted
  x_BadText : ExB K mg "BadText" a_BadText
  X_BadChart : Exn K mg "BadChart" a_BadChart
  e_BadChart : ExcC K a_BadChart
  k_BadChart : KRow K a_BadChart [.ref a_BadClock, .ref a_BadHour, .ref a_BadChart, .ref a_BadSquare, .ref a_BadRing, .ref a_BadBreaks, .ref a_BadPrices, .ref a_NoFill, .ref a_Unlike, .ref a_BadName, .ref a_Taken, .ref a_Full, .ref a_NoChart, .ref a_BadDay, .ref a_BadDeed, .ref a_NothingLeft, .ref a_Knotted, .ref a_BadText, .type "ValueError"] [false, false, true, false, false, false, false, false, false, false, false, false, false, false, false, false, false, false, true]
  m_BadChart : PySem.W.exmOne K (.ref a_BadChart) (.ref a_TideError) = some true
  X_BadSquare : Exn K mg "BadSquare" a_BadSquare
  e_BadSquare : ExcC K a_BadSquare
  k_BadSquare : KRow K a_BadSquare [.ref a_BadClock, .ref a_BadHour, .ref a_BadChart, .ref a_BadSquare, .ref a_BadRing, .ref a_BadBreaks, .ref a_BadPrices, .ref a_NoFill, .ref a_Unlike, .ref a_BadName, .ref a_Taken, .ref a_Full, .ref a_NoChart, .ref a_BadDay, .ref a_BadDeed, .ref a_NothingLeft, .ref a_Knotted, .ref a_BadText, .type "ValueError"] [false, false, false, true, false, false, false, false, false, false, false, false, false, false, false, false, false, false, true]
  m_BadSquare : PySem.W.exmOne K (.ref a_BadSquare) (.ref a_TideError) = some true
  X_Unlike : Exn K mg "Unlike" a_Unlike
  e_Unlike : ExcC K a_Unlike
  k_Unlike : KRow K a_Unlike [.ref a_BadClock, .ref a_BadHour, .ref a_BadChart, .ref a_BadSquare, .ref a_BadRing, .ref a_BadBreaks, .ref a_BadPrices, .ref a_NoFill, .ref a_Unlike, .ref a_BadName, .ref a_Taken, .ref a_Full, .ref a_NoChart, .ref a_BadDay, .ref a_BadDeed, .ref a_NothingLeft, .ref a_Knotted, .ref a_BadText, .type "ValueError"] [false, false, false, false, false, false, false, false, true, false, false, false, false, false, false, false, false, false, true]
  m_Unlike : PySem.W.exmOne K (.ref a_Unlike) (.ref a_TideError) = some true
section
variable {P : Program} {w : World} {K : PySem.W.Frag} {mg : Str → Option Value} {base : Heap}
/-! ### cotide.hours -/
def isClock (c : Int) : Bool := decide (3 ≤ c) && decide (c ≤ 15) && decide (c % 2 = 1)
theorem isClock_iff {c : Int} : isClock c = true ↔ 3 ≤ c ∧ c ≤ 15 ∧ c % 2 = 1 := by
  unfold isClock
  simp only [Bool.and_eq_true, decide_eq_true_eq, and_assoc]
def R_is_clock (vs : List V) (v : V) : Prop := ∃ c, vs = [.int c] ∧ v = .bl (isClock c)
theorem ok_is_clock (T : Tx K mg) : FnOk P w K mg base CX0 1 T.a_is_clock T.d_is_clock ["clock"] (spS R_is_clock) := by
  refine T.F_is_clock.ok sc_is_clock (fun vs H Q E h => ?_) (fun cdv A outer s H vs Q E hr h => ?_)
  · obtain ⟨v, ⟨c, rfl, rfl⟩, q⟩ := h
    rfl
  · obtain ⟨v, ⟨c, rfl, rfl⟩, q⟩ := h
    refine ⟨_, (pss_cons (ps_ret (pe_and (pe_chain op_le op_le (pe_glob (v := .int (3)) rfl T.c_LEAST_HOURS ⟨_, rfl⟩) (pv 0) (pe_glob (v := .int (15)) rfl T.c_MOST_HOURS ⟨_, rfl⟩)) (pe_one (pe_cmpR op_eq (pe_op op_mod (pv 0) pe_int) pe_int (nomark _)))))
      pss_nil), Go.go ?_⟩
    apply go_retE (k := q)
    · walk_at "ev"
    · unfold isClock
      simp only [V.int.injEq]
theorem ev_is_clock {σ : L2.St} {H : Hp} {E : XK} {tr : TA} {c : Int} (h : EvA tr σ H [.int c]) : Ev (tCall (spS R_is_clock) [] E tr) σ H (.bl (isClock c)) := ev_callS h ⟨c, rfl, rfl⟩
local macro_rules | `(tactic| walk_at "ev") => `(tactic| ((with_reducible apply ev_is_clock); walk_at "ea"))

/-! ### the law's draws -/
def R_mixed (vs : List V) (v : V) : Prop := ∃ a b, vs = [.int a, .int b] ∧ ∃ r, v = .int r
def spMixed : Sp := fun vs H Q _ => ∃ a b, vs = [.int a, .int b] ∧ ∀ r H2, Ex H H2 → Q (.int r) H2
theorem ok_law_mixed (T : Tx K mg) : FnOk P w K mg base CX0 1 T.a_law_mixed T.d_law_mixed ["_law_number_here", "_law_turn"] spMixed := by
  refine T.F_law_mixed.ok sc_law_mixed (fun vs H Q E h => ?_) (fun cdv A outer s H vs Q E hr h => ?_)
  · obtain ⟨a, b, rfl, q⟩ := h
    rfl
  · obtain ⟨a, b, rfl, q⟩ := h
    refine ⟨_, (pss_cons (ps_set (i := 2) sc_law_mixed.nd rfl (.inl rfl) (pe_op op_mod (pe_op op_add (pe_op op_add (pe_op op_mul (pv 0) pe_int) (pe_op op_mul (pv 1) pe_int)) pe_int) pe_int))
      (pss_cons (ps_set (i := 3) sc_law_mixed.nd rfl (.inl rfl) (pe_op op_add (pe_op op_mul (pv 1) pe_int) (pe_op op_mod (pe_op op_fdiv (pv 0) pe_int) pe_int)))
      (pss_cons (ps_ret (pe_op op_fdiv (pe_op op_mod (pe_op op_add (pe_op op_mul (pv 2) (pe_op op_add (pe_op op_mod (pv 2) pe_int) pe_int)) (pv 3)) pe_int) pe_int))
      pss_nil))), Go.go ?_⟩
    have h1 : ∀ x y : Int, 0 ≤ x % y + y * 0 ∨ y = 0 := fun x y => by
      by_cases h : y = 0
      · exact .inr h
      · exact .inl (by have := Int.emod_nonneg x h; omega)
    apply go_asg
    · walk_at "ev"
    have h2 : ∀ x : Int, 0 ≤ x % 2147483647 ∧ x % 2147483647 < 2147483647 := fun x => ⟨by omega, by omega⟩
    generalize hz : (a * 7919 + b * 104729 + 17) % 2147483647 = z
    have hz2 := h2 (a * 7919 + b * 104729 + 17)
    rw [hz] at hz2
    apply go_asg
    · walk_at "ev"
    apply go_retV
    · walk_at "ev"
    exact fun H' e => q _ H' e
/-- a call that gives some int -/
theorem ev_mixed {σ : L2.St} {H : Hp} {E : XK} {tr : TA} {a b : Int} (h : EvA tr σ H [.int a, .int b]) {Q : VK} (k : ∀ r H2, Ex H H2 → Q (.int r) H2) : tCall spMixed [] E tr σ H Q :=
  h H (Ex.refl H) _ fun H2 e2 => ⟨a, b, rfl, fun r H3 e3 => k r H3 (e2.trans e3)⟩
def PreTake (ds : List PyData) : Prop := ∃ m : Int, ds = [.int m] ∧ 0 < m ∧ m < 2 ^ 80
def RTake (ds : List PyData) (d : PyData) : Prop := ∃ m r : Int, ds = [.int m] ∧ d = .int r ∧ 0 ≤ r ∧ r < m
theorem ok_law_take (T : Tx K mg) : FnOk P w K mg base CX0 2 T.a_law_take T.d_law_take ["_law_box_here", "_law_many"] (spB K PreTake RTake) := by
  refine T.F_law_take.ok sc_law_take (fun vs H Q E h => ?_) (fun cdv A outer s H vs Q E hr h => ?_)
  · obtain ⟨b, ws, Hd, ds, rfl, hb, sx, B, hds, ⟨m, rfl, hm, hm2⟩, q⟩ := h
    cases hds with
    | cons h1 h2 => cases h2; rfl
  · obtain ⟨b, ws, Hd, ds, rfl, hb, sx, B, hds, ⟨m, rfl, hm, hm2⟩, q⟩ := h
    obtain ⟨m', rfl⟩ : ∃ m', ws = [m'] := by
      cases hds with
      | cons h1 h2 => cases h2; exact ⟨_, rfl⟩
    have em : m' = .int m := by
      cases hds with
      | cons h1 h2 => cases h1; rfl
    subst em
    obtain ⟨bb, ca⟩ := b
    obtain ⟨cells, xs, h1, ⟨pos, rest, turn, seed, rfl, hpos⟩, h3, h4⟩ := B
    have nca : ca ≠ bb := by
      intro e
      subst e
      rw [h1] at h3
      have h5 := HO.lst.inj (Option.some.inj h3)
      cases cells with
      | nil => cases h5
      | cons c cs => cases h5
    have fin : ∀ (pos' rest' turn' r : Int) (H2 : Hp), 0 ≤ pos' → 0 ≤ r → r < m → Ex (upd H bb (.lst [.ref ca, .int pos', .int rest', .int turn', .int seed])) H2 → Q (.int r) H2 := fun pos' rest' turn' r H2 hp h0 hr e2 => by
      refine q (.int r) H2 Hd (.int r) ⟨fun a o n h => e2 a o (by rw [upd_ne n]; exact h), Ex.refl _, fun a o h => e2 a o (by rw [upd_ne (ne_of_none h hb)]; exact sx a o h), fun a o _ h => h, ?_⟩ (.int r) ⟨m, r, rfl, rfl, h0, hr⟩
      exact Bx.mono e2 ⟨cells, _, upd_same, ⟨pos', rest', turn', seed, rfl, hp⟩, by rw [upd_ne nca]; exact h3, h4⟩
    have wd : ∀ z : Int, CDivW z m := fun z => wide_div (b := 80) hm (by omega) (by decide) (by decide)
    have mm : ∀ z : Int, 0 ≤ z % m ∧ z % m < m := fun z => ⟨Int.emod_nonneg z (by omega), Int.emod_lt_of_pos z hm⟩
    refine ⟨_, (pss_cons (ps_asg (pe_op op_add (pe_ix (r := rIxL K) ix_list (pv 0) pe_int (fun _ _ => rfl)) pe_int) (pg_sub (pv 0) pe_int set_list))
      (pss_cons (ps_if (pt_cmpR op_gt (pe_ix (r := rIxL K) ix_list (pv 0) pe_int (fun _ _ => rfl)) pe_int (nomark _)) (pss_cons (ps_set (i := 2) sc_law_take.nd rfl (.inl rfl) (pe_ix (r := rIxL K) ix_list (pv 0) pe_int (fun _ _ => rfl)))
      (pss_cons (ps_asg (pe_op op_fdivW (pv 2) (pv 1)) (pg_sub (pv 0) pe_int set_list))
      (pss_cons (ps_ret (pe_op op_mod (pv 2) (pv 1)))
      pss_nil))) pss_nil)
      (pss_cons (ps_if (pt_cmpR op_ge (pe_ix (r := rIxL K) ix_list (pv 0) pe_int (fun _ _ => rfl)) (pe_callB (r := rLenS K) call_lenQ (by rfl) T.n_len PySem.boot_len (pa_cons (pe_ix (r := rIxL K) ix_list (pv 0) pe_int (fun _ _ => rfl)) pa_nil)) (nomark _)) (pss_cons (ps_ret (pe_op op_mod (pe_call (ok_law_mixed (P := P) (w := w) T) (hr.mono (by omega)) (by rfl) T.g_law_mixed T.F_law_mixed.kp T.b_law_mixed .nil pass0 (pa_cons (pe_ix (r := rIxL K) ix_list (pv 0) pe_int (fun _ _ => rfl)) (pa_cons (pe_ix (r := rIxL K) ix_list (pv 0) pe_int (fun _ _ => rfl)) pa_nil))) (pv 1)))
      pss_nil) pss_nil)
      (pss_cons (ps_set (i := 3) sc_law_take.nd rfl (.inl rfl) (pe_ix (r := rIxL K) ix_list (pe_ix (r := rIxL K) ix_list (pv 0) pe_int (fun _ _ => rfl)) (pe_ix (r := rIxL K) ix_list (pv 0) pe_int (fun _ _ => rfl)) (fun _ _ => rfl)))
      (pss_cons (ps_asg (pe_op op_add (pe_ix (r := rIxL K) ix_list (pv 0) pe_int (fun _ _ => rfl)) pe_int) (pg_sub (pv 0) pe_int set_list))
      (pss_cons (ps_if (pt_cmpR op_lt (pv 3) (pe_op op_pow pe_int pe_int) (nomark _)) (pss_cons (ps_ret (pe_op op_mod (pe_call (ok_law_mixed (P := P) (w := w) T) (hr.mono (by omega)) (by rfl) T.g_law_mixed T.F_law_mixed.kp T.b_law_mixed .nil pass0 (pa_cons (pe_op op_add (pv 3) (pe_ix (r := rIxL K) ix_list (pv 0) pe_int (fun _ _ => rfl))) (pa_cons (pe_ix (r := rIxL K) ix_list (pv 0) pe_int (fun _ _ => rfl)) pa_nil))) (pv 1)))
      pss_nil) pss_nil)
      (pss_cons (ps_asg (pe_op op_fdivW (pv 3) (pv 1)) (pg_sub (pv 0) pe_int set_list))
      (pss_cons (ps_ret (pe_op op_mod (pv 3) (pv 1)))
      pss_nil)))))))), Go.go ?_⟩
    refine go_setL (j := 3) h1 (v := .int (turn + 1)) ?_ (ev_var rfl) ev_c (by simp) ?_
    · walk_at "ev"
    show Go _ _ _ (upd H bb (.lst [.ref ca, .int pos, .int rest, .int (turn + 1), .int seed]))
    apply go_when
    · walk_at "et"
    · intro _
      apply go_asg
      · walk_at "ev"
      refine go_setL (j := 2) upd_same (v := .int (rest / m)) ?_ (ev_var rfl) ev_c (by simp) ?_
      · refine ev_op (ev_var rfl) (ev_var rfl) (rv_I (wd _))
      apply go_retV
      · walk_at "ev"
      rw [upd_upd]
      exact fun H' e => fin pos (rest / m) (turn + 1) _ H' hpos (mm _).1 (mm _).2 e
    intro _
    have h3' : upd H bb (.lst [.ref ca, .int pos, .int rest, .int (turn + 1), .int seed]) ca = some (.lst (cells.map V.int)) := by
      rw [upd_ne nca]
      exact h3
    apply go_when
    · apply et_test
      apply ev_op
      · walk_at "ev"
      · refine ev_len (K := K) (p := ca) ?_ (sq_of h3')
        walk_at "ev"
      · exact rv_I0
    · intro _ H1 e1
      refine ev_mixed (a := seed) (b := turn + 1) (EvA.mono e1 (by walk_at "ea")) fun r H2 e2 => ?_
      exact ⟨_, rfl, _, _, rfl, rfl, hm, fin pos rest (turn + 1) _ H2 hpos (mm _).1 (mm _).2 (e1.trans e2)⟩
    intro hlt
    have hlt2 : pos < (cells.length : Int) := by
      have h5 := of_decide_eq_false hlt
      rw [List.length_map] at h5
      omega
    have hget : atI (cells.map V.int) pos = some (.int (cells[pos.toNat]'(by omega))) := by
      refine at_of (j := pos.toNat) (by omega) ?_
      rw [List.getElem?_map, List.getElem?_eq_getElem (by omega)]
      rfl
    generalize hcell : cells[pos.toNat]'(by omega) = cell at hget
    apply go_asg (v := .int cell)
    · refine ev_op (x := .ref ca) (y := .int pos) (by walk_at "ev") (by walk_at "ev") (rv_ixL (K := K) (sq_of h3') hget)
    refine go_setL (j := 1) upd_same (v := .int (pos + 1)) ?_ (ev_var rfl) ev_c (by simp) ?_
    · walk_at "ev"
    rw [upd_upd]
    show Go _ _ _ (upd H bb (.lst [.ref ca, .int (pos + 1), .int rest, .int (turn + 1), .int seed]))
    apply go_when
    · walk_at "et"
    · intro _ H1 e1
      refine ev_mixed (a := cell + seed) (b := turn + 1) (EvA.mono e1 (by walk_at "ea")) fun r H2 e2 => ?_
      exact ⟨_, rfl, _, _, rfl, rfl, hm, fin (pos + 1) rest (turn + 1) _ H2 (by omega) (mm _).1 (mm _).2 (e1.trans e2)⟩
    intro _
    refine go_setL (j := 2) upd_same (v := .int (cell / m)) ?_ (ev_var rfl) ev_c (by simp) ?_
    · refine ev_op (ev_var rfl) (ev_var rfl) (rv_I (wd _))
    apply go_retV
    · walk_at "ev"
    rw [upd_upd]
    exact fun H' e => fin (pos + 1) (cell / m) (turn + 1) _ H' (by omega) (mm _).1 (mm _).2 e
theorem eb_take {σ : L2.St} {Hd : Hp} {E : XK} {b : Bid} {ta tb : TE} {m : Int} (ha : Ev ta σ Hd (.ref b.b)) (hm : Ev tb σ Hd (.int m)) (h0 : 0 < m) (h1 : m < 2 ^ 80) : EvB K b (tCall (spB K PreTake RTake) [] E (tCons ta (tCons tb tNil))) σ Hd (isI fun r => 0 ≤ r ∧ r < m) := by
  refine EvB.imp (eb_call ha (eba_cons (eb_ev hm) eba_nil) ?_) ?_
  · rintro ds ⟨d, es, rfl, ⟨i, rfl, rfl⟩, rfl⟩
    exact ⟨_, rfl, h0, h1⟩
  · rintro d ⟨ds, ⟨d', es, rfl, ⟨i, rfl, rfl⟩, rfl⟩, m', r, e1, rfl, h2, h3⟩
    cases e1
    exact ⟨r, rfl, h2, h3⟩

def RClock (ds : List PyData) (d : PyData) : Prop := ∃ c : Int, d = .int c ∧ isClock c = true
theorem ok_law_clock (T : Tx K mg) : FnOk P w K mg base CX0 3 T.a_law_clock T.d_law_clock ["_law_box_here"] (spB K (fun ds => ds = []) RClock) := by
  refine T.F_law_clock.ok sc_law_clock (fun vs H Q E h => ?_) (fun cdv A outer s H vs Q E hr h => ?_)
  · obtain ⟨b, ws, Hd, ds, rfl, hb, sx, B, hds, rfl, q⟩ := h
    cases hds
    rfl
  · obtain ⟨b, ws, Hd, ds, rfl, hb, sx, B, hds, rfl, q⟩ := h
    cases hds
    refine ⟨_, (pss_cons (ps_ret (pe_op op_add pe_int (pe_op op_mul pe_int (pe_call (ok_law_take (P := P) (w := w) T) (hr.mono (by omega)) (by rfl) T.g_law_take T.F_law_take.kp T.b_law_take .nil pass0 (pa_cons (pv 0) (pa_cons pe_int pa_nil))))))
      pss_nil), Go.go ?_⟩
    refine go_retB hb sx B (EvB.imp (eb_opI0 (K := K) (fun _ _ => rfl) (eb_ev ev_c) (eb_opI (fun _ _ => rfl) (eb_ev ev_c) (eb_take (ev_var rfl) ev_c (by decide) (by decide)) (fun i j hi hj => Or.inl (by omega)))) (P' := RClock []) ?_) q
    rintro d ⟨i, rfl, i1, j1, rfl, ⟨i2, j2, rfl, ⟨h1, h2⟩, rfl⟩, rfl⟩
    exact ⟨_, rfl, isClock_iff.mpr ⟨by omega, by omega, by omega⟩⟩
theorem eb_clock {σ : L2.St} {Hd : Hp} {E : XK} {b : Bid} {ta : TE} (ha : Ev ta σ Hd (.ref b.b)) : EvB K b (tCall (spB K (fun ds => ds = []) RClock) [] E (tCons ta tNil)) σ Hd (isI fun c => isClock c = true) := by
  refine EvB.imp (eb_call ha eba_nil fun ds e => e) ?_
  rintro d ⟨ds, rfl, c, rfl, h⟩
  exact ⟨c, rfl, h⟩
/-- the box is made -/
def spBox (K : PySem.W.Frag) : Sp := fun vs H Q _ => ∃ (a : Addr) (ns : List Int), vs = [.ref a] ∧ SqL K H a (ns.map V.int) ∧ ns.length ≤ 63 ∧ ∀ (b : Bid) H2, H b.b = none → H b.ca = none → Ex H H2 → Bx H2 b → Q (.ref b.b) H2
theorem cut_ints {ns : List Int} : cutV (ns.map V.int) none (some 63) = ((ns.take 63).map V.int) := by
  unfold cutV
  rw [HT.sIx_none, show HT.sIx (ns.map V.int).length (ns.map V.int).length (some 63) = min 63 (ns.map V.int).length from HT.sIx_nat _ _ 63]
  rw [List.drop_zero, Nat.sub_zero, List.length_map, List.map_take]
  by_cases h : 63 ≤ ns.length
  · rw [Nat.min_eq_left h]
  · rw [Nat.min_eq_right (by omega), List.take_of_length_le (by rw [List.length_map]; omega), List.take_of_length_le (by rw [List.length_map]; omega)]
theorem ok_law_box (T : Tx K mg) : FnOk P w K mg base CX0 1 T.a_law_box T.d_law_box ["_law_script"] (spBox K) := by
  refine T.F_law_box.ok sc_law_box (fun vs H Q E h => ?_) (fun cdv A outer s H vs Q E hr h => ?_)
  · obtain ⟨a, ns, rfl, _⟩ := h
    rfl
  · obtain ⟨a, ns, rfl, hL, hn, q⟩ := h
    refine ⟨_, (pss_cons (ps_set (i := 1) sc_law_box.nd rfl (.inl rfl) pe_int)
      (pss_cons (ps_for PassesOwn.never rfl (pi_list (pe_slice (r := rSlL K) sl_list (pv 0) po_none (po_some pe_int))) (pg_name (i := 2) sc_law_box.nd rfl (.inl rfl)) (pss_cons (ps_set (i := 1) sc_law_box.nd rfl (.inl rfl) (pe_op op_mod (pe_op op_add (pe_op op_add (pe_op op_mul (pv 1) pe_int) (pe_op op_mod (pv 2) pe_int)) pe_int) pe_int))
      pss_nil))
      (pss_cons (ps_ret (pe_lst (pa_cons (pe_callTy (r := rListS K) call_listQ (by rfl) T.n_list (by decide +kernel) (pa_cons (pe_slice (r := rSlL K) sl_list (pv 0) po_none (po_some pe_int)) pa_nil)) (pa_cons pe_int (pa_cons pe_int (pa_cons pe_int (pa_cons (pv 1) pa_nil)))))))
      pss_nil))), ?_⟩
    refine q_asg ev_c fun H1 e1 => ?_
    refine q_forNLn (K := K) (xs := (ns.take 63).map V.int) ?_ (fun p i σ H' => Ex H H' ∧ H p = none ∧ H' p = some (.lst ((ns.take 63).map V.int)) ∧ ∃ (z : Int) (x : Option V), σ = [some (.ref a), some (.int z), x]) (fun p H2 hp e2 h2 => ⟨e1.trans e2, fresh_back e1 hp, h2, 7, none, rfl⟩) (fun p i σ' H' _ h => sq_of h.2.2.1) ?_ ?_
    · rw [← cut_ints]
      exact el_sl (ev_var rfl) eo_none (eo_some ev_c) (ex_l e1 hL)
    · rintro p i x σ' H' hx ⟨e2, hp, h2, z, x0, rfl⟩
      rw [List.getElem?_map] at hx
      cases hh : (ns.take 63)[i]? with
      | none => rw [hh] at hx; cases hx
      | some y =>
        rw [hh] at hx
        cases hx
        refine Go.go ?_
        apply go_asg
        · walk_at "ev"
        exact go_next fun H3 e3 => ⟨e2.trans e3, hp, e3 _ _ h2, _, _, rfl⟩
    · rintro p σ' H' ⟨e2, hp, h2, z, x0, rfl⟩
      have hE : Ex H H' := e2
      refine el_sl (K := K) (ev_var rfl) eo_none (eo_some ev_c) (ex_l hE hL) H' (Ex.refl _) _ fun c H4 hc e4 h4 => ?_
      rw [cut_ints] at h4
      refine ⟨c, _, rfl, Or.inl (sq_of h4), fun l hl => ?_⟩
      refine ⟨.int z, rfl, by show 5 ≤ sizeLine; decide, fun b hb => ?_⟩
      have nlb : l ≠ b := fun e => by
        subst e
        rw [upd_same] at hb
        cases hb
      have hb4 : H4 b = none := by
        rw [upd_ne nlb.symm] at hb
        exact hb
      refine q ⟨b, l⟩ _ (fresh_back (hE.trans e4) hb4) (fresh_back (hE.trans e4) hl) (((hE.trans e4).trans (Ex.new hl)).trans (Ex.new hb)) ⟨ns.take 63, _, upd_same, ⟨0, 0, 0, z, rfl, by decide⟩, ?_, ?_⟩
      · rw [upd_ne nlb, upd_same]
      · rw [List.length_take]
        omega
theorem go_box {σ : L2.St} {H : Hp} {E : XK} {ta : TE} {tz : TS} {D : Ends} {i : Nat} {a : Addr} {ns : List Int} (hL : SqL K H a (ns.map V.int)) (hn : ns.length ≤ 63) (h : Ev ta σ H (.ref a)) (k : ∀ (b : Bid) H', H b.b = none → H b.ca = none → Ex H H' → Bx H' b → Go tz D (σ.set i (some (.ref b.b))) H') : Go (tSeq (tAsg (tCall (spBox K) [] E (tCons ta tNil)) (gName i)) tz) D σ H := fun H1 e1 =>
  h H1 e1 _ fun H2 e2 => ⟨a, ns, rfl, ex_l (e1.trans e2) hL, hn, fun b H3 hb hc e3 B => k b H3 (fresh_back (e1.trans e2) hb) (fresh_back (e1.trans e2) hc) ((e1.trans e2).trans e3) B H3 (Ex.refl _)⟩
def sp_law (K : PySem.W.Frag) : Sp := fun vs H Q _ => ∃ (a : Addr) (ns : List Int), vs = [.ref a] ∧ SqL K H a (ns.map V.int) ∧ ns.length ≤ 63 ∧ ∀ H', Q (.bl true) H'

theorem ok_law_number (T : Tx K mg) : FnOk P w K mg base CX0 3 T.a_law_number T.d_law_number ["_law_box_here"] (spB K (fun ds => ds = []) (fun _ => isI fun n => -(10 ^ 30) ≤ n ∧ n ≤ 10 ^ 30)) := by
  refine T.F_law_number.ok sc_law_number (fun vs H Q E h => ?_) (fun cdv A outer s H vs Q E hr h => ?_)
  · obtain ⟨b, ws, Hd, ds, rfl, hb, sx, B, hds, rfl, q⟩ := h
    cases hds
    rfl
  · obtain ⟨b, ws, Hd, ds, rfl, hb, sx, B, hds, rfl, q⟩ := h
    cases hds
    refine ⟨_, (pss_cons (ps_ret (pe_ix (r := rIxL K) ix_list (pe_lst (pa_cons (pe_un un_neg (pe_op op_pow pe_int pe_int)) (pa_cons (pe_un un_neg pe_int) (pa_cons pe_int (pa_cons pe_int (pa_cons pe_int (pa_cons pe_int (pa_cons pe_int (pa_cons pe_int (pa_cons pe_int (pa_cons pe_int (pa_cons pe_int (pa_cons pe_int (pa_cons (pe_op op_pow pe_int pe_int) pa_nil)))))))))))))) (pe_call (ok_law_take (P := P) (w := w) T) (hr.mono (by omega)) (by rfl) T.g_law_take T.F_law_take.kp T.b_law_take .nil pass0 (pa_cons (pv 0) (pa_cons pe_int pa_nil))) (fun _ _ => rfl)))
      pss_nil), Go.go ?_⟩
    refine go_retB hb sx B (eb_pick (K := K) (n := 13) ?_ (eb_take (ev_var rfl) ev_c (m := 13) (by decide) (by decide)) (by decide)) q
    refine ap_cons (eb_int (m := -(10 ^ 30)) (ev_is (by walk_at "ev") (by decide)) (by decide)) ?_
    refine ap_cons (eb_int (by walk_at "ev") (by decide)) ?_
    refine ap_cons (eb_int ev_c (by decide)) (ap_cons (eb_int ev_c (by decide)) (ap_cons (eb_int ev_c (by decide)) (ap_cons (eb_int ev_c (by decide)) (ap_cons (eb_int ev_c (by decide)) (ap_cons (eb_int ev_c (by decide)) (ap_cons (eb_int ev_c (by decide)) (ap_cons (eb_int ev_c (by decide)) (ap_cons (eb_int ev_c (by decide)) (ap_cons (eb_int ev_c (by decide)) (ap_cons (eb_int (m := 10 ^ 30) (ev_is (by walk_at "ev") (by decide)) (by decide)) ap_nil))))))))))
theorem eb_number {σ : L2.St} {Hd : Hp} {E : XK} {b : Bid} {ta : TE} (ha : Ev ta σ Hd (.ref b.b)) : EvB K b (tCall (spB K (fun ds => ds = []) (fun _ => isI fun n => -(10 ^ 30) ≤ n ∧ n ≤ 10 ^ 30)) [] E (tCons ta tNil)) σ Hd (isI fun n => -(10 ^ 30) ≤ n ∧ n ≤ 10 ^ 30) := by
  refine EvB.imp (eb_call ha eba_nil fun ds e => e) ?_
  rintro d ⟨ds, rfl, h⟩
  exact h

/-! ### charts as data -/
def dRow (r : List Int) : PyData := .tuple (r.map .int)
def dChart (c : Int) (rows : List (List Int)) : PyData := .tuple [.int c, .tuple (rows.map dRow)]
def isRow (c : Int) (w : Int) (r : List Int) : Bool := decide ((r.length : Int) = w) && r.all fun x => decide (-2 ≤ x) && decide (x < c)
def isChart (c : Int) (rows : List (List Int)) : Bool := isClock c && (decide (1 ≤ (rows.length : Int)) && decide ((rows.length : Int) ≤ 9)) && (decide (1 ≤ (((rows.headD []).length : Nat) : Int)) && decide (((rows.headD []).length : Int) ≤ 9) && rows.all (isRow c (rows.headD []).length))
theorem range_all (ns : List Int) (f : Int → Bool) : (List.range ns.length).map (fun i => PyData.bool (f ((ns[i]?).getD 0))) = (ns.map f).map PyData.bool := by
  apply List.ext_getElem
  · simp
  · intro i h1 h2
    simp at h1 h2
    simp [h1]
theorem range_rows (ns : List (List Int)) (f : List Int → Bool) : (List.range ns.length).map (fun i => PyData.bool (f ((ns[i]?).getD []))) = (ns.map f).map PyData.bool := by
  apply List.ext_getElem
  · simp
  · intro i h1 h2
    simp at h1 h2
    simp [h1]
def R_is_what (vs : List V) (v : V) : Prop := ∃ c x, vs = [.int c, .int x] ∧ v = .bl (decide (-2 ≤ x) && decide (x < c))
theorem ok_is_what (T : Tx K mg) : FnOk P w K mg base CX0 1 T.a_is_what T.d_is_what ["clock", "one"] (spS R_is_what) := by
  refine T.F_is_what.ok sc_is_what (fun vs H Q E h => ?_) (fun cdv A outer s H vs Q E hr h => ?_)
  · obtain ⟨v, ⟨c, x, rfl, rfl⟩, q⟩ := h
    rfl
  · obtain ⟨v, ⟨c, x, rfl, rfl⟩, q⟩ := h
    refine ⟨_, (pss_cons (ps_ret (pe_chain op_le op_lt (pe_glob (v := .int (-2)) rfl T.c_UNTOLD ⟨_, rfl⟩) (pv 1) (pv 0)))
      pss_nil), Go.go ?_⟩
    apply go_retE (k := q)
    · walk_at "ev"
    · rfl
theorem ev_is_what {σ : L2.St} {H : Hp} {E : XK} {tr : TA} {c x : Int} (h : EvA tr σ H [.int c, .int x]) : Ev (tCall (spS R_is_what) [] E tr) σ H (.bl (decide (-2 ≤ x) && decide (x < c))) := ev_callS h ⟨c, x, rfl, rfl⟩
local macro_rules | `(tactic| walk_at "ev") => `(tactic| ((with_reducible apply ev_is_what); walk_at "ea"))
def spIsRow (K : PySem.W.Frag) : Sp := fun vs H Q _ => ∃ (c w : Int) (v : V) (r : List Int), vs = [.int c, v, .int w] ∧ Dp K H v (dRow r) ∧ r.length ≤ 40000 ∧ ∀ H2, Ex H H2 → Q (.bl (isRow c w r)) H2
theorem ok_is_row (T : Tx K mg) : FnOk P w K mg base CX0 2 T.a_is_row T.d_is_row ["clock", "row", "wide"] (spIsRow K) := by
  refine T.F_is_row.ok sc_is_row (fun vs H Q E h => ?_) (fun cdv A outer s H vs Q E hr h => ?_)
  · obtain ⟨c, w, v, r, rfl, _⟩ := h
    rfl
  · obtain ⟨c, wd, v, r, rfl, hv, hl, q⟩ := h
    refine ⟨_, (pss_cons (ps_ret (pe_and (pe_cmpR op_eq (pe_callB (r := rLenS K) call_lenQ (by rfl) T.n_len PySem.boot_len (pa_cons (pv 1) pa_nil)) (pv 2) (nomark _)) (pe_one (pe_callB (r := rAll K) (cr_all rfl) (by rfl) T.n_all (by decide +kernel) (pa_cons (pe_lc (own := [("one", 3)]) (g := (gName 3)) (by rfl) sc_is_row.nd (pi_tup (pv 1)) (blkOk_by (own := [("one", 3)]) (N := N_is_row) (sc := defScope s_is_row) (by decide +kernel)) (fun _ _ _ _ _ => (pg_name (i := 3) sc_is_row.nd rfl (.inl rfl) (hf := .inr rfl))) (fun _ _ _ _ _ => pts_nil) (fun _ _ _ _ _ => (pe_call (ok_is_what (P := P) (w := w) T) (hr.mono (by omega)) (by rfl) T.g_is_what T.F_is_what.kp T.b_is_what .nil pass0 (pa_cons (pv 0) (pa_cons (pv 3) pa_nil))))) pa_nil)))))
      pss_nil), Go.go ?_⟩
    apply go_retE (k := q)
    · refine ev_andB (ev_op (ev_lenT (K := K) (ds := r.map .int) (ed_var rfl hv)) (by walk_at "ev") (by walk_at "rv")) (ev_all (K := K) (bs := r.map fun x => decide (-2 ≤ x) && decide (x < c)) ?_)
      rw [← range_all, ← List.length_map (f := PyData.int) (as := r), ← givenD_all]
      refine ed_new (en_lc (ei_tup (K := K) (ds := r.map .int) (ed_var rfl hv)) (by rw [List.length_map]; exact hl) (fun _ => true) _ ?_)
      rintro i σ2 Hn hi e ⟨v, d, h1, h2, rfl⟩
      rw [List.length_map] at hi
      rw [List.getElem?_map, List.getElem?_eq_getElem hi] at h1
      cases h1
      cases h2
      refine ⟨rfl, et_yes, fun _ => ed_bool (ev_is (by walk_at "ev") ?_)⟩
      rw [List.getElem?_eq_getElem hi]
      rfl
    · unfold isRow
      simp [List.all_map, V.int.injEq]
theorem ev_is_row {σ : L2.St} {Hd : Hp} {E : XK} {tr : TA} {c w : Int} {r : List Int} (h : EvDA K tr σ Hd [.int c, dRow r, .int w]) (hl : r.length ≤ 40000) : Ev (tCall (spIsRow K) [] E tr) σ Hd (.bl (isRow c w r)) := fun H s Q q =>
  h H s _ fun vs H2 Hn g hd => by
    cases hd with
    | cons h1 h2 =>
      cases h2 with
      | cons h2 h3 =>
        cases h3 with
        | cons h3 h4 =>
          cases h4
          cases h1
          cases h3
          exact ⟨c, w, _, r, rfl, dp_mono g.sub _ h2, hl, fun H3 e3 => q H3 (g.ex.trans e3)⟩
def spIsChart (K : PySem.W.Frag) : Sp := fun vs H Q _ => ∃ (c : Int) (v : V) (rows : List (List Int)), vs = [v] ∧ Dp K H v (dChart c rows) ∧ rows.length ≤ 40000 ∧ (∀ r ∈ rows, r.length ≤ 40000) ∧ ∀ H2, Ex H H2 → Q (.bl (isChart c rows)) H2
theorem ok_is_chart (T : Tx K mg) : FnOk P w K mg base CX0 3 T.a_is_chart T.d_is_chart ["chart"] (spIsChart K) := by
  refine T.F_is_chart.ok sc_is_chart (fun vs H Q E h => ?_) (fun cdv A outer s H vs Q E hr h => ?_)
  · obtain ⟨c, v, rows, rfl, _⟩ := h
    rfl
  · obtain ⟨c, v, rows, rfl, hv, hl, hls, q⟩ := h
    refine ⟨_, (pss_cons (ps_asg (pv 0) (pg_tup rfl (pgs_cons (pg_name (i := 1) sc_is_chart.nd rfl (.inr rfl)) (pgs_cons (pg_name (i := 2) sc_is_chart.nd rfl (.inl rfl)) pgs_nil))))
      (pss_cons (ps_if (PW.pt (pw_or (pt_not (pt_val (pe_call (ok_is_clock (P := P) (w := w) T) (hr.mono (by omega)) (by rfl) T.g_is_clock T.F_is_clock.kp T.b_is_clock .nil pass0 (pa_cons (pv 1) pa_nil)))) (pw_or1 (pt_not (pt_chain op_le op_le pe_int (pe_callB (r := rLenS K) call_lenQ (by rfl) T.n_len PySem.boot_len (pa_cons (pv 2) pa_nil)) (pe_glob (v := .int (9)) rfl T.c_MOST_SQUARES ⟨_, rfl⟩)))))) (pss_cons (ps_ret pe_bl)
      pss_nil) pss_nil)
      (pss_cons (ps_set (i := 3) sc_is_chart.nd rfl (.inr rfl) (pe_callB (r := rLenS K) call_lenQ (by rfl) T.n_len PySem.boot_len (pa_cons (pe_ix (r := rIxT K) ix_tup (pv 2) pe_int (fun _ _ => rfl)) pa_nil)))
      (pss_cons (ps_ret (pe_and (pe_chain op_le op_le pe_int (pv 3) (pe_glob (v := .int (9)) rfl T.c_MOST_SQUARES ⟨_, rfl⟩)) (pe_one (pe_callB (r := rAll K) (cr_all rfl) (by rfl) T.n_all (by decide +kernel) (pa_cons (pe_lc (own := [("row", 4)]) (g := (gName 4)) (by rfl) sc_is_chart.nd (pi_tup (pv 2)) (blkOk_by (own := [("row", 4)]) (N := N_is_chart) (sc := defScope s_is_chart) (by decide +kernel)) (fun _ _ _ _ _ => (pg_name (i := 4) sc_is_chart.nd rfl (.inl rfl) (hf := .inr rfl))) (fun _ _ _ _ _ => pts_nil) (fun _ _ _ _ _ => (pe_call (ok_is_row (P := P) (w := w) T) (hr.mono (by omega)) (by rfl) T.g_is_row T.F_is_row.kp T.b_is_row .nil pass0 (pa_cons (pv 1) (pa_cons (pv 4) (pa_cons (pv 3) pa_nil)))))) pa_nil)))))
      pss_nil)))), Go.go ?_⟩
    refine go_two (Ex.refl H) (ed_var rfl hv) ?_
    intro v1 v2 H' Hn g d1 d2
    cases d1
    have hl1 : Ev (tCB (rLenS K) (tCons (tVar 2) tNil)) (((L2.start N_is_chart [v]).set 1 (some (.int c))).set 2 (some v2)) Hn (.int (rows.length : Int)) := ev_is (ev_lenT (K := K) (ds := rows.map dRow) (ed_var rfl d2)) (by rw [List.length_map])
    apply go_when (b := !isClock c || !(decide (1 ≤ (rows.length : Int)) && decide ((rows.length : Int) ≤ 9)))
    · refine EvT.mono g.sub (et_orB (by walk_at "et") (et_not (et_test (ev_chainB ev_c hl1 rv_I0 (by walk_at "ev") rv_I0))))
    · intro e
      refine Go.mono (Ex.refl _) ?_
      apply go_retE (k := fun H2 e2 => q H2 (g.ex.trans e2))
      · walk_at "ev"
      · unfold isChart
        cases h1 : isClock c
        · rfl
        · rw [h1] at e
          cases h2 : (decide (1 ≤ (rows.length : Int)) && decide ((rows.length : Int) ≤ 9))
          · rfl
          · rw [h2] at e
            cases e
    · intro e
      have h1 : isClock c = true := by
        cases h1 : isClock c
        · rw [h1] at e; cases e
        · rfl
      have h2 : (decide (1 ≤ (rows.length : Int)) && decide ((rows.length : Int) ≤ 9)) = true := by
        cases h2 : (decide (1 ≤ (rows.length : Int)) && decide ((rows.length : Int) ≤ 9))
        · rw [h1, h2] at e; cases e
        · rfl
      obtain ⟨r0, rest, rfl⟩ : ∃ r0 rest, rows = r0 :: rest := by
        cases rows with
        | nil => simp at h2
        | cons r0 rest => exact ⟨r0, rest, rfl⟩
      apply go_asg (v := .int (r0.length : Int))
      · refine Ev.mono g.sub (ev_is (ev_lenT (K := K) (ds := r0.map .int) (ed_ixT (ed_var rfl d2) ev_c (d := dRow r0) (atI_nat (j := 0) rfl))) (by rw [List.length_map]))
      apply go_retE (k := fun H2 e2 => q H2 (g.ex.trans e2))
      · refine Ev.mono g.sub (ev_andB (by walk_at "ev") (ev_all (K := K) (bs := (r0 :: rest).map (isRow c r0.length)) ?_))
        rw [← range_rows, ← List.length_map (f := dRow) (as := r0 :: rest), ← givenD_all]
        refine ed_new (en_lc (ei_tup (K := K) (ds := (r0 :: rest).map dRow) (ed_var rfl d2)) (by rw [List.length_map]; exact hl) (fun _ => true) _ ?_)
        rintro i σ2 Hm hi e ⟨v, d, h3, h4, rfl⟩
        rw [List.length_map] at hi
        rw [List.getElem?_map, List.getElem?_eq_getElem hi] at h3
        cases h3
        refine ⟨rfl, et_yes, fun _ => ed_bool (ev_is (ev_is_row (c := c) (w := r0.length) (r := (r0 :: rest)[i]) (eda_cons (ed_int (ev_var rfl)) (eda_cons (ed_var rfl h4) (eda_cons (ed_int (ev_var rfl)) eda_nil))) (hls _ (List.getElem_mem hi))) ?_)⟩
        rw [List.getElem?_eq_getElem hi]
        rfl
      · unfold isChart
        rw [h1, h2, List.all_map]
        rfl
theorem ev_is_chart {σ : L2.St} {Hd : Hp} {E : XK} {tr : TA} {c : Int} {rows : List (List Int)} (h : EvDA K tr σ Hd [dChart c rows]) (hl : rows.length ≤ 40000) (hls : ∀ r ∈ rows, r.length ≤ 40000) : Ev (tCall (spIsChart K) [] E tr) σ Hd (.bl (isChart c rows)) := fun H s Q q =>
  h H s _ fun vs H2 Hn g hd => by
    cases hd with
    | cons h1 h2 =>
      cases h2
      exact ⟨c, _, rows, rfl, dp_mono g.sub _ h1, hl, hls, fun H3 e3 => q H3 (g.ex.trans e3)⟩

/-! ### the law's charts -/
def nearHour (rows : List (List Int)) (line : List Int) : Int := if line ≠ [] ∧ 0 ≤ line.getLast?.getD 0 then line.getLast?.getD 0 else if rows ≠ [] then ((rows.getLast?.getD [])[line.length]?).getD 0 else 0
theorem okE_rows (n : Nat) (rows : List (List Int)) : okE (n + 2) (.list (rows.map dRow)) := fun e he => by
  obtain ⟨r, _, rfl⟩ := List.mem_map.mp he
  intro e he
  obtain ⟨i, _, rfl⟩ := List.mem_map.mp he
  cases n <;> trivial
theorem eqv_nil (ds : List PyData) : PyData.eqv (.list ds) (.list []) = decide (ds = []) := by
  unfold PyData.eqv
  cases ds with
  | nil => simp [PyData.eqvAll]
  | cons d ds => simp [PyData.eqvAll]
theorem atI_lastI {α : Type} {xs : List α} (h : xs ≠ []) : atI xs (-1) = xs.getLast? := by
  have hp := List.length_pos_iff.mpr h
  unfold atI ixN
  rw [if_neg (by decide), if_pos (by omega)]
  have e2 : (-1 + (xs.length : Int)).toNat = xs.length - 1 := by omega
  rw [List.getLast?_eq_getElem?]
  show xs[_]? = _
  rw [e2]
def spNear (K : PySem.W.Frag) : Sp := fun vs H Q _ => ∃ (v1 v2 : V) (rows : List (List Int)) (line : List Int), vs = [v1, v2] ∧ Dp K H v1 (.list (rows.map dRow)) ∧ Dp K H v2 (.list (line.map .int)) ∧ (∀ r ∈ rows, line.length < r.length) ∧ ∀ H2, Ex H H2 → Q (.int (nearHour rows line)) H2
theorem ok_law_near_hour (T : Tx K mg) : FnOk P w K mg base CX0 1 T.a_law_near_hour T.d_law_near_hour ["_law_rows", "_law_line"] (spNear K) := by
  refine T.F_law_near_hour.ok sc_law_near_hour (fun vs H Q E h => ?_) (fun cdv A outer s H vs Q E hr h => ?_)
  · obtain ⟨v1, v2, rows, line, rfl, _⟩ := h
    rfl
  · obtain ⟨v1, v2, rows, line, rfl, d1, d2, hw, q⟩ := h
    refine ⟨_, (pss_cons (ps_if (PW.pt (pw_and (pt_cmpR (r := rNeD K) (op_neD hr.units) (pv 1) (pe_lst pa_nil) (nomark _)) (pw_and1 (pt_cmpR op_ge (pe_ix (r := rIxL K) ix_list (pv 1) (pe_un un_neg pe_int) (fun _ _ => rfl)) pe_int (nomark _))))) (pss_cons (ps_ret (pe_ix (r := rIxL K) ix_list (pv 1) (pe_un un_neg pe_int) (fun _ _ => rfl)))
      pss_nil) pss_nil)
      (pss_cons (ps_ret (pe_ifExp (pt_cmpR (r := rNeD K) (op_neD hr.units) (pv 0) (pe_lst pa_nil) (nomark _)) (pe_ix (r := rIxT K) ix_tup (pe_ix (r := rIxL K) ix_list (pv 0) (pe_un un_neg pe_int) (fun _ _ => rfl)) (pe_callB (r := rLenS K) call_lenQ (by rfl) T.n_len PySem.boot_len (pa_cons (pv 1) pa_nil)) (fun _ _ => rfl)) pe_int))
      pss_nil)), Go.go ?_⟩
    have last1 : line ≠ [] → Ev (tOp (rIxL K) (tVar 1) (tUn (rU fun i => .int (-i)) (tC (.int 1)))) (L2.start N_law_near_hour [v1, v2]) H (.int (line.getLast?.getD 0)) := fun hne => by
      refine ev_int (K := K) (ed_ixL (ed_var rfl d2) (by walk_at "ev") ?_)
      rw [atI_lastI (by simpa using hne), List.getLast?_map]
      cases e : line.getLast? with
      | none => exact absurd (List.getLast?_eq_none_iff.mp e) hne
      | some x => rfl
    apply go_when (b := decide (line ≠ [] ∧ 0 ≤ line.getLast?.getD 0))
    · by_cases hne : line = []
      · refine et_is (et_and (a := false) (b := false) (et_is (et_test (ev_neD (K := K) (e := .list ([] : List PyData)) (ed_var rfl d2) (ed_new (en_lst eda_nil (by simp))) (okE_shaped (okE_ints 0 line) (by decide)) (okE_shaped okE_nil (by decide)))) (by rw [eqv_nil, hne]; rfl)) (fun e => by cases e)) (by simp [hne])
      · refine et_is (et_and (et_is (et_test (ev_neD (K := K) (e := .list ([] : List PyData)) (ed_var rfl d2) (ed_new (en_lst eda_nil (by simp))) (okE_shaped (okE_ints 0 line) (by decide)) (okE_shaped okE_nil (by decide)))) (by rw [eqv_nil])) (fun _ => et_test (ev_op (last1 hne) ev_c rv_I0))) (by simp [hne])
    · intro e
      have e2 := of_decide_eq_true e
      apply go_retE (k := q)
      · exact last1 e2.1
      · unfold nearHour
        rw [if_pos e2]
    · intro e
      have e2 := of_decide_eq_false e
      apply go_retE (k := q) (v' := .int (nearHour rows line))
      · refine ev_if (b := decide (rows ≠ [])) (et_is (et_test (ev_neD (K := K) (e := .list ([] : List PyData)) (ed_var rfl d1) (ed_new (en_lst eda_nil (by simp))) (okE_shaped (okE_rows 0 rows) (by decide)) (okE_shaped okE_nil (by decide)))) (by rw [eqv_nil]; simp)) (fun h => ?_) (fun h => ?_)
        · have hne := of_decide_eq_true h
          obtain ⟨r, hr'⟩ : ∃ r, rows.getLast? = some r := by
            cases e : rows.getLast? with
            | none => exact absurd (List.getLast?_eq_none_iff.mp e) hne
            | some x => exact ⟨x, rfl⟩
          have hlt := hw r (List.mem_of_getLast? hr')
          refine ev_int (K := K) (ed_ixT (ds := r.map .int) (ed_ixL (ed_var rfl d1) (by walk_at "ev") ?_) (ev_lenL (K := K) (ds := line.map .int) (ed_var rfl d2)) ?_)
          · rw [atI_lastI (by simpa using hne), List.getLast?_map, hr']
            rfl
          · unfold nearHour
            rw [if_neg e2, if_pos hne, hr', List.length_map]
            refine atI_nat (j := line.length) ?_
            rw [List.getElem?_map]
            show _ = some (PyData.int ((r[line.length]?).getD 0))
            rw [List.getElem?_eq_getElem hlt]
            rfl
        · have hne := of_decide_eq_false h
          unfold nearHour
          rw [if_neg e2, if_neg hne]
          exact ev_c
      · rfl
theorem ev_near {σ : L2.St} {Hd : Hp} {E : XK} {tr : TA} {rows : List (List Int)} {line : List Int} (h : EvDA K tr σ Hd [.list (rows.map dRow), .list (line.map .int)]) (hw : ∀ r ∈ rows, line.length < r.length) : Ev (tCall (spNear K) [] E tr) σ Hd (.int (nearHour rows line)) := fun H s Q q =>
  h H s _ fun vs H2 Hn g hd => by
    cases hd with
    | cons h1 h2 =>
      cases h2 with
      | cons h2 h3 =>
        cases h3
        exact ⟨_, _, rows, line, rfl, dp_mono g.sub _ h1, dp_mono g.sub _ h2, hw, fun H3 e3 => q H3 (g.ex.trans e3)⟩
def PreSq (ds : List PyData) : Prop := ∃ c land unt calm old : Int, ds = [.int c, .int land, .int unt, .int calm, .int old] ∧ isClock c = true ∧ calm ≤ 5
def RSq (ds : List PyData) (d : PyData) : Prop := ∃ c : Int, ∃ r, ds = .int c :: r ∧ isI (fun x => -2 ≤ x ∧ x < c) d
theorem ok_law_square (T : Tx K mg) : FnOk P w K mg base CX0 3 T.a_law_square T.d_law_square ["_law_box_here", "_law_clock_here", "_law_land", "_law_untold", "_law_calm", "_law_old"] (spB K PreSq RSq) := by
  refine T.F_law_square.ok sc_law_square (fun vs H Q E h => ?_) (fun cdv A outer s H vs Q E hr h => ?_)
  · obtain ⟨b, ws, Hd, ds, rfl, hb, sx, B, hds, ⟨c, land, unt, calm, old, rfl, hc⟩, q⟩ := h
    rw [List.length_cons, dpa_len hds]
    rfl
  · obtain ⟨b, ws, Hd, ds, rfl, hb, sx, B, hds, ⟨c, land, unt, calm, old, rfl, hc, hcalm⟩, q⟩ := h
    have hws : ws = [.int c, .int land, .int unt, .int calm, .int old] := dpa_ints_inv (ns := [c, land, unt, calm, old]) hds
    subst hws
    have h0 := isClock_iff.mp hc
    refine ⟨_, (pss_cons (ps_set (i := 6) sc_law_square.nd rfl (.inl rfl) (pe_call (ok_law_take (P := P) (w := w) T) (hr.mono (by omega)) (by rfl) T.g_law_take T.F_law_take.kp T.b_law_take .nil pass0 (pa_cons (pv 0) (pa_cons pe_int pa_nil))))
      (pss_cons (ps_if (pt_cmpR op_lt (pv 6) (pv 2) (nomark _)) (pss_cons (ps_ret (pe_un un_neg pe_int))
      pss_nil) pss_nil)
      (pss_cons (ps_if (pt_cmpR op_lt (pv 6) (pe_op op_add (pv 2) (pv 3)) (nomark _)) (pss_cons (ps_ret (pe_un un_neg pe_int))
      pss_nil) pss_nil)
      (pss_cons (ps_if (PW.pt (pw_and (pt_cmpR op_gt (pv 4) pe_int (nomark _)) (pw_and (pt_cmpR op_ge (pv 5) pe_int (nomark _)) (pw_and1 (pt_cmpR op_gt (pe_call (ok_law_take (P := P) (w := w) T) (hr.mono (by omega)) (by rfl) T.g_law_take T.F_law_take.kp T.b_law_take .nil pass0 (pa_cons (pv 0) (pa_cons pe_int pa_nil))) pe_int (nomark _)))))) (pss_cons (ps_ret (pe_op op_mod (pe_op op_sub (pe_op op_add (pv 5) (pe_call (ok_law_take (P := P) (w := w) T) (hr.mono (by omega)) (by rfl) T.g_law_take T.F_law_take.kp T.b_law_take .nil pass0 (pa_cons (pv 0) (pa_cons (pe_op op_add (pe_op op_mul pe_int (pv 4)) pe_int) pa_nil)))) (pv 4)) (pv 1)))
      pss_nil) pss_nil)
      (pss_cons (ps_ret (pe_call (ok_law_take (P := P) (w := w) T) (hr.mono (by omega)) (by rfl) T.g_law_take T.F_law_take.kp T.b_law_take .nil pass0 (pa_cons (pv 0) (pa_cons (pv 1) pa_nil))))
      pss_nil))))), Go.go ?_⟩
    have fin : ∀ (x : Int) (H2 Hn : Hp), -2 ≤ x → x < c → GrB b Hd H Hn H2 → Q (.int x) H2 := fun x H2 Hn h1 h2 g => q _ H2 Hn (.int x) g (.int x) ⟨c, _, rfl, x, rfl, h1, h2⟩
    refine go_asgB hb sx B (eb_take (ev_var rfl) ev_c (m := 12) (by decide) (by decide)) ?_
    rintro v H1 D1 d g1 hd ⟨way, rfl, hway⟩
    cases hd
    apply go_when
    · walk_at "et"
    · intro _
      apply go_retV
      · walk_at "ev"
      exact fun H' e => fin (-1) H' D1 (by decide) (by omega) ⟨fun a o n h => e a o (g1.exb a o n h), g1.dx, g1.sub.trans e, g1.fr, g1.bx.mono e⟩
    intro _
    apply go_when
    · walk_at "et"
    · intro _
      apply go_retV
      · walk_at "ev"
      exact fun H' e => fin (-2) H' D1 (by decide) (by omega) ⟨fun a o n h => e a o (g1.exb a o n h), g1.dx, g1.sub.trans e, g1.fr, g1.bx.mono e⟩
    intro _
    have hb1 := g1.bn hb B
    -- the calm way only where calm is above nought
    by_cases hcp : 0 < calm
    · refine go_whenB hb1 g1.sub g1.bx (ebt_and (ebt_of (by walk_at "et")) (ebt_and (ebt_of (by walk_at "et")) (ebt_I0 (f := fun i j => decide (j < i)) (fun _ _ => rfl) (eb_take (ev_var rfl) ev_c (m := 4) (by decide) (by decide)) (eb_int (q := fun _ => True) ev_c trivial)))) ?_ ?_
      · intro H2 D2 g2
        have hb2 := g2.bn hb1 g1.bx
        refine go_retB hb2 g2.sub g2.bx (P := isI fun x => 0 ≤ x ∧ x < c) (EvB.impI (eb_opI (K := K) (p := fun _ => True) (p' := fun z => z = c) (f := fun i j => i % j) (fun _ _ => rfl) (EvB.impI (eb_opI0 (K := K) (p := fun _ => True) (p' := fun _ => True) (f := fun i j => i - j) (fun _ _ => rfl) (EvB.impI (eb_opI0 (K := K) (p := fun _ => True) (p' := fun _ => True) (f := fun i j => i + j) (fun _ _ => rfl) (eb_int (ev_var rfl) trivial) (EvB.impI (eb_take (ev_var rfl) (m := 2 * calm + 1) (by walk_at "ev") (by omega) (by omega)) fun _ _ => trivial)) fun _ _ => trivial) (eb_int (ev_var rfl) trivial)) fun _ _ => trivial) (eb_ev (ev_var rfl)) (fun i j _ hj => by show 0 < j; omega)) ?_) ?_
        · rintro z ⟨i, j, _, rfl, rfl⟩
          exact ⟨Int.emod_nonneg _ (by omega), Int.emod_lt_of_pos _ (by omega)⟩
        · rintro v H3 D3 d g3 hd ⟨x, rfl, hx⟩
          cases hd
          exact fin x H3 D3 (by omega) hx.2 ((g1.trans g2 hb B).trans g3 hb B)
      · intro H2 D2 g2
        have hb2 := g2.bn hb1 g1.bx
        refine go_retB hb2 g2.sub g2.bx (eb_take (ev_var rfl) (ev_var rfl) (m := c) (by omega) (by omega)) ?_
        rintro v H3 D3 d g3 hd ⟨x, rfl, hx⟩
        cases hd
        exact fin x H3 D3 (by omega) hx.2 ((g1.trans g2 hb B).trans g3 hb B)
    · refine go_whenF (et_is (et_and (a := false) (b := false) (et_is (by walk_at "et") (decide_eq_false hcp)) (fun e => by cases e)) rfl) ?_
      refine go_retB hb1 g1.sub g1.bx (eb_take (ev_var rfl) (ev_var rfl) (m := c) (by omega) (by omega)) ?_
      rintro v H3 D3 d g3 hd ⟨x, rfl, hx⟩
      cases hd
      exact fin x H3 D3 (by omega) hx.2 (g1.trans g3 hb B)
theorem eb_square {σ : L2.St} {Hd : Hp} {E : XK} {b : Bid} {ta t1 t2 t3 t4 t5 : TE} {c land unt calm old : Int} (ha : Ev ta σ Hd (.ref b.b)) (h1 : Ev t1 σ Hd (.int c)) (h2 : Ev t2 σ Hd (.int land)) (h3 : Ev t3 σ Hd (.int unt)) (h4 : Ev t4 σ Hd (.int calm)) (h5 : Ev t5 σ Hd (.int old)) (hc : isClock c = true) (hcalm : calm ≤ 5) :
    EvB K b (tCall (spB K PreSq RSq) [] E (tCons ta (tCons t1 (tCons t2 (tCons t3 (tCons t4 (tCons t5 tNil))))))) σ Hd (isI fun x => -2 ≤ x ∧ x < c) := by
  refine EvB.imp (eb_call ha (Ps := fun ds => ds = [.int c, .int land, .int unt, .int calm, .int old]) ?_ ?_) ?_
  · refine EvBA.imp (eba_cons (eb_ev h1) (eba_cons (eb_ev h2) (eba_cons (eb_ev h3) (eba_cons (eb_ev h4) (eba_cons (eb_ev h5) eba_nil))))) ?_
    rintro ds ⟨d1, e1, rfl, ⟨i1, rfl, rfl⟩, d2, e2, rfl, ⟨i2, rfl, rfl⟩, d3, e3, rfl, ⟨i3, rfl, rfl⟩, d4, e4, rfl, ⟨i4, rfl, rfl⟩, d5, e5, rfl, ⟨i5, rfl, rfl⟩, rfl⟩
    rfl
  · rintro ds rfl
    exact ⟨c, land, unt, calm, old, rfl, hc, hcalm⟩
  · rintro d ⟨ds, rfl, c', r, e, h⟩
    cases e
    exact h

def goodC (m : Int) (c : Int) (rows : List (List Int)) : Prop := isClock c = true ∧ 1 ≤ rows.length ∧ (rows.length : Int) ≤ m ∧ ∃ w : Nat, 1 ≤ w ∧ (w : Int) ≤ m ∧ ∀ r ∈ rows, r.length = w ∧ ∀ x ∈ r, -2 ≤ x ∧ x < c
def PreCh (ds : List PyData) : Prop := ∃ most unt : Int, ds = [.int most, .int unt] ∧ 1 ≤ most ∧ most ≤ 9
def RCh (ds : List PyData) (d : PyData) : Prop := ∃ (most unt c : Int) (rows : List (List Int)), ds = [.int most, .int unt] ∧ d = dChart c rows ∧ goodC most c rows
theorem ok_law_chart (T : Tx K mg) : FnOk P w K mg base CX0 4 T.a_law_chart T.d_law_chart ["_law_box_here", "_law_most", "_law_untold"] (spB K PreCh RCh) := by
  refine T.F_law_chart.ok sc_law_chart (fun vs H Q E h => ?_) (fun cdv A outer s H vs Q E hr h => ?_)
  · obtain ⟨b, ws, Hd, ds, rfl, hb, sx, B, hds, ⟨m, unt, rfl, hm⟩, q⟩ := h
    rw [List.length_cons, dpa_len hds]
    rfl
  · obtain ⟨b, ws, Hd, ds, rfl, hb, sx, B, hds, ⟨m, unt, rfl, hm1, hm2⟩, q⟩ := h
    have hws : ws = [.int m, .int unt] := dpa_ints_inv (ns := [m, unt]) hds
    subst hws
    refine ⟨_, (pss_cons (ps_set (i := 3) sc_law_chart.nd rfl (.inl rfl) (pe_call (ok_law_clock (P := P) (w := w) T) (hr.mono (by omega)) (by rfl) T.g_law_clock T.F_law_clock.kp T.b_law_clock .nil pass0 (pa_cons (pv 0) pa_nil)))
      (pss_cons (ps_set (i := 4) sc_law_chart.nd rfl (.inl rfl) (pe_op op_add pe_int (pe_call (ok_law_take (P := P) (w := w) T) (hr.mono (by omega)) (by rfl) T.g_law_take T.F_law_take.kp T.b_law_take .nil pass0 (pa_cons (pv 0) (pa_cons (pv 1) pa_nil)))))
      (pss_cons (ps_set (i := 5) sc_law_chart.nd rfl (.inl rfl) (pe_op op_add pe_int (pe_call (ok_law_take (P := P) (w := w) T) (hr.mono (by omega)) (by rfl) T.g_law_take T.F_law_take.kp T.b_law_take .nil pass0 (pa_cons (pv 0) (pa_cons (pv 1) pa_nil)))))
      (pss_cons (ps_set (i := 6) sc_law_chart.nd rfl (.inl rfl) (pe_ix (r := rIxL K) ix_list (pe_lst (pa_cons pe_int (pa_cons pe_int (pa_cons pe_int (pa_cons pe_int (pa_cons pe_int pa_nil)))))) (pe_call (ok_law_take (P := P) (w := w) T) (hr.mono (by omega)) (by rfl) T.g_law_take T.F_law_take.kp T.b_law_take .nil pass0 (pa_cons (pv 0) (pa_cons pe_int pa_nil))) (fun _ _ => rfl)))
      (pss_cons (ps_set (i := 7) sc_law_chart.nd rfl (.inl rfl) (pe_ix (r := rIxL K) ix_list (pe_lst (pa_cons pe_int (pa_cons pe_int (pa_cons (pe_op op_fdiv (pv 3) pe_int) pa_nil)))) (pe_call (ok_law_take (P := P) (w := w) T) (hr.mono (by omega)) (by rfl) T.g_law_take T.F_law_take.kp T.b_law_take .nil pass0 (pa_cons (pv 0) (pa_cons pe_int pa_nil))) (fun _ _ => rfl)))
      (pss_cons (ps_set (i := 8) sc_law_chart.nd rfl (.inl rfl) (pe_lst pa_nil))
      (pss_cons (ps_for PassesOwn.never rfl (pi_range1 (by rfl) T.n_range (pa_cons (pv 4) pa_nil)) (pg_name (i := 9) sc_law_chart.nd rfl (.inl rfl)) (pss_cons (ps_set (i := 10) sc_law_chart.nd rfl (.inl rfl) (pe_lst pa_nil))
      (pss_cons (ps_for PassesOwn.never rfl (pi_range1 (by rfl) T.n_range (pa_cons (pv 5) pa_nil)) (pg_name (i := 11) sc_law_chart.nd rfl (.inl rfl)) (pss_cons (ps_expr (pe_bm PySem.F.plainAttrs_list PySem.F.slot_list_append PySem.F.type_list_append mt_append (pv 10) (pa_cons (pe_call (ok_law_square (P := P) (w := w) T) (hr.mono (by omega)) (by rfl) T.g_law_square T.F_law_square.kp T.b_law_square .nil pass0 (pa_cons (pv 0) (pa_cons (pv 3) (pa_cons (pv 6) (pa_cons (pv 2) (pa_cons (pv 7) (pa_cons (pe_call (ok_law_near_hour (P := P) (w := w) T) (hr.mono (by omega)) (by rfl) T.g_law_near_hour T.F_law_near_hour.kp T.b_law_near_hour .nil pass0 (pa_cons (pv 8) (pa_cons (pv 10) pa_nil))) pa_nil))))))) pa_nil)))
      pss_nil))
      (pss_cons (ps_expr (pe_bm PySem.F.plainAttrs_list PySem.F.slot_list_append PySem.F.type_list_append mt_append (pv 8) (pa_cons (pe_callTy (r := rTupS K) call_tupleQ (by rfl) T.n_tuple (by decide +kernel) (pa_cons (pv 10) pa_nil)) pa_nil)))
      pss_nil))))
      (pss_cons (ps_ret (pe_tup (pa_cons (pv 3) (pa_cons (pe_callTy (r := rTupS K) call_tupleQ (by rfl) T.n_tuple (by decide +kernel) (pa_cons (pv 8) pa_nil)) pa_nil))))
      pss_nil)))))))), Go.go ?_⟩
    refine go_asgB hb sx B (eb_clock (ev_var rfl)) ?_
    rintro v H1 D1 d G1 hd ⟨c, rfl, hc⟩
    cases hd
    have h0 := isClock_iff.mp hc
    have hb1 := G1.bn hb B
    refine go_asgB hb1 G1.sub G1.bx (EvB.impI (q := fun z => 1 ≤ z ∧ z ≤ m) (eb_opI0 (K := K) (p := fun z => z = 1) (f := fun i j => i + j) (fun _ _ => rfl) (eb_ev ev_c) (eb_take (ev_var rfl) (ev_var rfl) (m := m) (by omega) (by omega))) ?_) ?_
    · rintro z ⟨i, j, rfl, hj, rfl⟩
      omega
    rintro v H2 D2 d g2 hd ⟨high, rfl, hhi⟩
    cases hd
    have G2 := G1.trans g2 hb B
    have hb2 := G2.bn hb B
    refine go_asgB hb2 G2.sub G2.bx (EvB.impI (q := fun z => 1 ≤ z ∧ z ≤ m) (eb_opI0 (K := K) (p := fun z => z = 1) (f := fun i j => i + j) (fun _ _ => rfl) (eb_ev ev_c) (eb_take (ev_var rfl) (ev_var rfl) (m := m) (by omega) (by omega))) ?_) ?_
    · rintro z ⟨i, j, rfl, hj, rfl⟩
      omega
    rintro v H3 D3 d g3 hd ⟨wide, rfl, hwi⟩
    cases hd
    have G3 := G2.trans g3 hb B
    have hb3 := G3.bn hb B
    refine go_asgB hb3 G3.sub G3.bx (eb_pick (n := 5) (p := fun _ => True) (ap_cons (eb_int ev_c trivial) (ap_cons (eb_int ev_c trivial) (ap_cons (eb_int ev_c trivial) (ap_cons (eb_int ev_c trivial) (ap_cons (eb_int ev_c trivial) ap_nil))))) (eb_take (ev_var rfl) ev_c (m := 5) (by decide) (by decide)) (by decide)) ?_
    rintro v H4 D4 d g4 hd ⟨land, rfl, _⟩
    cases hd
    have G4 := G3.trans g4 hb B
    have hb4 := G4.bn hb B
    refine go_asgB hb4 G4.sub G4.bx (eb_pick (n := 3) (p := fun z => z ≤ 5) (ap_cons (eb_int ev_c (by decide)) (ap_cons (eb_int ev_c (by decide)) (ap_cons (eb_int (m := c / 3) (by walk_at "ev") (by omega)) ap_nil))) (eb_take (ev_var rfl) ev_c (m := 3) (by decide) (by decide)) (by decide)) ?_
    rintro v H5 D5 d g5 hd ⟨calm, rfl, hcalm⟩
    cases hd
    have G5 := G4.trans g5 hb B
    have hb5 := G5.bn hb B
    refine go_asgN (K := K) G5.sub (en_lst eda_nil (by simp)) ?_
    intro lr xs H6 D6 g6 hl5 hl6 h6 hxs
    cases hxs
    obtain ⟨nb, nca⟩ := G5.bx.apart hl5
    have hl0 := G5.fresh hl5
    have G6 := G5.trans (GrB.of g6 G5.bx) hb B
    refine go_for (K := K) G6.sub (ei_range1 (m := high) (ea_cons (ev_var rfl) ea_nil) (by omega)) (fun Hn i σ' H' => ∃ (Hg : Hp) (rvs : List V) (rows : List (List Int)) (x y z : Option V), GrB b Hd H Hg H' ∧ Ex Hn Hg ∧ Hg lr = none ∧ H' lr = some (.lst rvs) ∧ DpAll K Hg rvs (rows.map dRow) ∧ rows.length = i ∧ (∀ r ∈ rows, r.length = wide.toNat ∧ ∀ x ∈ r, -2 ≤ x ∧ x < c) ∧
      σ' = [some (.ref b.b), some (.int m), some (.int unt), some (.int c), some (.int high), some (.int wide), some (.int land), some (.int calm), some (.ref lr), x, y, z]) ?_ ?_ ?_ ?_
    · intro H' Hn g
      exact ⟨Hn, [], [], none, none, none, G6.trans (GrB.of g G6.bx) hb B, Ex.refl _, g.fr _ _ h6 hl6, g.ex _ _ h6, .nil, rfl, fun _ h => (by cases h), rfl⟩
    · rintro Hn i σ' H' ⟨Hg, rvs, rows, x, y, z, G, e, _⟩
      exact e.trans G.sub
    · rintro Hn i σ' σ2 H7 e hi ⟨Hg, rvs, rows, x, y, z, G, e2, hgl, hlr, hrv, hlen, hrows, rfl⟩ rfl
      have hbg := G.bn hb B
      refine go_asgN (K := K) G.sub (en_lst eda_nil (by simp)) ?_
      intro ll xs H8 D8 g8 hll7 hll8 h8 hxs
      cases hxs
      obtain ⟨nb', nca'⟩ := G.bx.apart hll7
      have hll0 := G.fresh hll7
      have nlr : ll ≠ lr := (ne_of_none hlr hll7).symm
      have G8 := G.trans (GrB.of g8 G.bx) hb B
      have hlr8 := g8.ex _ _ hlr
      have hgl8 := g8.fr _ _ hlr hgl
      have hrv8 := dpa_mono g8.dx _ hrv
      refine go_for (K := K) G8.sub (ei_range1 (m := wide) (ea_cons (ev_var rfl) ea_nil) (by omega)) (fun Hn' j σ' H' => ∃ (line : List Int) (x z : Option V), GrB b Hd H Hn' H' ∧ Ex D8 Hn' ∧ Hn' lr = none ∧ Hn' ll = none ∧ H' lr = some (.lst rvs) ∧ H' ll = some (.lst (line.map V.int)) ∧ line.length = j ∧ (∀ x ∈ line, -2 ≤ x ∧ x < c) ∧
        σ' = [some (.ref b.b), some (.int m), some (.int unt), some (.int c), some (.int high), some (.int wide), some (.int land), some (.int calm), some (.ref lr), x, some (.ref ll), z]) ?_ ?_ ?_ ?_
      · intro H' Hn' g
        exact ⟨[], _, z, G8.trans (GrB.of g G8.bx) hb B, g.dx, g.fr _ _ hlr8 hgl8, g.fr _ _ h8 hll8, g.ex _ _ hlr8, g.ex _ _ h8, rfl, fun _ h => (by cases h), rfl⟩
      · rintro Hn' j σ' H' ⟨line, x, z, G', _⟩
        exact G'.sub
      · rintro Hn' j σ' σ2 H9 e9 hj ⟨line, x, z, G', e10, q1, q2, q3, q4, hln, hline, rfl⟩ rfl
        have hb9 := G'.bn hb B
        -- both lists are data while the square is drawn
        have s1 : Ex (upd (upd Hn' lr (.lst rvs)) ll (.lst (line.map V.int))) H9 := ex_add (ex_add G'.sub q3) q4
        have e11 : Ex Hn' (upd (upd Hn' lr (.lst rvs)) ll (.lst (line.map V.int))) := (Ex.new q1).trans (Ex.new (by rw [upd_ne nlr]; exact q2))
        have b1 : upd (upd Hn' lr (.lst rvs)) ll (.lst (line.map V.int)) b.b = none := by rw [upd_ne nb'.symm, upd_ne nb.symm]; exact hb9
        have d1 : Dp K (upd (upd Hn' lr (.lst rvs)) ll (.lst (line.map V.int))) (.ref lr) (.list (rows.map dRow)) := .lst (sq_of (by rw [upd_ne nlr.symm, upd_same])) (dpa_mono (e10.trans e11) _ hrv8)
        have d2 : Dp K (upd (upd Hn' lr (.lst rvs)) ll (.lst (line.map V.int))) (.ref ll) (.list (line.map .int)) := .lst (sq_of upd_same) (dpa_ints line)
        refine go_appB b1 s1 G'.bx q4 nb' (ev_var rfl) (eb_square (ev_var rfl) (ev_var rfl) (ev_var rfl) (ev_var rfl) (ev_var rfl) (ev_near (rows := rows) (line := line) (eda_cons (ed_var rfl d1) (eda_cons (ed_var rfl d2) eda_nil)) (fun r hr => by rw [(hrows r hr).1]; omega)) hc hcalm) (by rw [List.length_map]; omega) ?_
        rintro v H10 D10 d g10 hd ⟨x1, rfl, hx1⟩
        cases hd
        refine go_next fun H11 e12 => ⟨line ++ [x1], _, _, ((G'.trans (g10.low e11) hb B).mut hll0 q2 nb' nca').post e12, e10, q1, q2, e12 _ _ ?_, e12 _ _ ?_, by rw [List.length_append, hln]; rfl, fun z hz => ?_, rfl⟩
        · rw [upd_ne nlr.symm]
          exact g10.exb _ _ nb q3
        · rw [upd_same, List.map_append]
          rfl
        · rcases List.mem_append.mp hz with hz | hz
          · exact hline z hz
          · rcases List.mem_cons.mp hz with rfl | hz
            · exact hx1
            · cases hz
      · rintro Hn' σ' H9 e9 ⟨line, x, z, G', e10, q1, q2, q3, q4, hln, hline, rfl⟩
        have Ga := G'.add hll0 q2 q4
        have dl : Dp K (upd Hn' ll (.lst (line.map V.int))) (.ref ll) (.list (line.map .int)) := .lst (sq_of upd_same) (dpa_ints line)
        have hb9 := Ga.bn hb B
        refine go_appD (d := dRow line) Ga.sub q3 (ev_var rfl) (ed_tupleL (ed_var rfl dl)) ?_ ?_
        · rw [dpa_len hrv, List.length_map]
          omega
        intro v H10 D10 g10 hdv
        have q5 : D10 lr = none := g10.fr _ _ q3 (by rw [upd_ne nlr.symm]; exact q1)
        refine go_next fun H11 e12 => ⟨D10, rvs ++ [v], rows ++ [line], _, _, _, ((Ga.trans (GrB.of g10 Ga.bx) hb B).mut hl0 q5 nb nca).post e12, ?_, q5, e12 _ _ upd_same, ?_, by rw [List.length_append, hlen]; rfl, fun r hr => ?_, rfl⟩
        · exact (((e2.trans g8.dx).trans e10).trans (Ex.new q2)).trans g10.dx
        · rw [List.map_append]
          exact dpa_app (dpa_mono ((e10.trans (Ex.new q2)).trans g10.dx) _ hrv8) (.cons hdv .nil)
        · rcases List.mem_append.mp hr with hr | hr
          · exact hrows r hr
          · rcases List.mem_cons.mp hr with rfl | hr
            · exact ⟨by omega, hline⟩
            · cases hr
    · rintro Hn σ' H7 e ⟨Hg, rvs, rows, x, y, z, G, e2, hgl, hlr, hrv, hlen, hrows, rfl⟩
      have Ga := G.add hl0 hgl hlr
      have dl : Dp K (upd Hg lr (.lst rvs)) (.ref lr) (.list (rows.map dRow)) := .lst (sq_of upd_same) (dpa_mono (Ex.new hgl) _ hrv)
      refine go_ret (d := dChart c rows) Ga.sub (ed_tup (eda_cons (ed_int (ev_var rfl)) (eda_cons (ed_tupleL (ed_var rfl dl)) eda_nil)) (by simp)) ?_
      intro v H8 D8 g8 hdv
      exact q v H8 D8 _ (Ga.trans (GrB.of g8 Ga.bx) hb B) hdv ⟨m, unt, c, rows, rfl, rfl, hc, by omega, by omega, wide.toNat, by omega, by omega, hrows⟩
theorem eb_chart {σ : L2.St} {Hd : Hp} {E : XK} {b : Bid} {ta t1 t2 : TE} {most unt : Int} (ha : Ev ta σ Hd (.ref b.b)) (h1 : Ev t1 σ Hd (.int most)) (h2 : Ev t2 σ Hd (.int unt)) (hm : 1 ≤ most ∧ most ≤ 9) : EvB K b (tCall (spB K PreCh RCh) [] E (tCons ta (tCons t1 (tCons t2 tNil)))) σ Hd (fun d => ∃ c rows, d = dChart c rows ∧ goodC most c rows) := by
  refine EvB.imp (eb_call ha (Ps := fun ds => ds = [.int most, .int unt]) ?_ ?_) ?_
  · refine EvBA.imp (eba_cons (eb_ev h1) (eba_cons (eb_ev h2) eba_nil)) ?_
    rintro ds ⟨d1, e1, rfl, ⟨i1, rfl, rfl⟩, d2, e2, rfl, ⟨i2, rfl, rfl⟩, rfl⟩
    rfl
  · rintro ds rfl
    exact ⟨most, unt, rfl, hm.1, hm.2⟩
  · rintro d ⟨ds, rfl, m', u', c, rows, e, h, g⟩
    cases e
    exact ⟨c, rows, h, g⟩

/-! ### squares of a chart -/
def sqD (q : Int × Int) : PyData := .tuple [.int q.1, .int q.2]
def wideOf (rows : List (List Int)) : Nat := (rows.headD []).length
def inB (rows : List (List Int)) (q : Int × Int) : Bool := (decide (0 ≤ q.1) && decide (q.1 < (rows.length : Int))) && (decide (0 ≤ q.2) && decide (q.2 < (wideOf rows : Int)))
def whatAt (rows : List (List Int)) (q : Int × Int) : Int := if inB rows q = true then ((rows[q.1.toNat]?.getD [])[q.2.toNat]?).getD (-1) else -1
theorem map_inj {α β : Type} {f : α → β} (hf : ∀ x y, f x = f y → x = y) : ∀ {l l' : List α}, l.map f = l'.map f → l = l'
  | [], [], _ => rfl
  | [], _ :: _, h => by simp at h
  | _ :: _, [], h => by simp at h
  | x :: l, y :: l', h => by
    rw [List.map_cons, List.map_cons, List.cons.injEq] at h
    rw [hf x y h.1, map_inj hf h.2]
theorem dChart_inj {c c' : Int} {rows rows' : List (List Int)} (h : dChart c rows = dChart c' rows') : c = c' ∧ rows = rows' := by
  unfold dChart at h
  simp only [PyData.tuple.injEq, List.cons.injEq, PyData.int.injEq, and_true] at h
  refine ⟨h.1, map_inj (fun x y hxy => ?_) h.2⟩
  unfold dRow at hxy
  simp only [PyData.tuple.injEq] at hxy
  exact map_inj (fun x y hxy => by cases hxy; rfl) hxy
structure Rect (rows : List (List Int)) : Prop where
  h1 : 1 ≤ rows.length
  h9 : rows.length ≤ 9
  w1 : 1 ≤ wideOf rows
  w9 : wideOf rows ≤ 9
  row : ∀ r ∈ rows, r.length = wideOf rows
theorem goodC_rect {m c : Int} {rows : List (List Int)} (g : goodC m c rows) (hm : m ≤ 9) : Rect rows := by
  obtain ⟨_, h1, h2, w, w1, w2, hr⟩ := g
  have hw : wideOf rows = w := by
    cases rows with
    | nil => simp at h1
    | cons r rs => exact (hr r List.mem_cons_self).1
  exact ⟨h1, by omega, by omega, by omega, fun r h => by rw [hw]; exact (hr r h).1⟩
theorem Rect.head {rows : List (List Int)} (R : Rect rows) : atI (rows.map dRow) 0 = some (dRow (rows.headD [])) := by
  have h := R.h1
  cases rows with
  | nil => simp at h
  | cons r rs => exact atI_nat (j := 0) rfl
theorem atI_pos {α : Type} {xs : List α} {i : Int} {d : α} (h0 : 0 ≤ i) (h : xs[i.toNat]? = some d) : atI xs i = some d := by
  obtain ⟨n, rfl⟩ := Int.eq_ofNat_of_zero_le h0
  exact atI_nat h
theorem inB_iff {rows : List (List Int)} {q : Int × Int} : inB rows q = true ↔ (0 ≤ q.1 ∧ q.1 < (rows.length : Int)) ∧ 0 ≤ q.2 ∧ q.2 < (wideOf rows : Int) := by
  unfold inB
  simp [Bool.and_eq_true]

/-! ### cotide.grids -/
theorem goodC_chart {m c : Int} {rows : List (List Int)} (g : goodC m c rows) (hm : m ≤ 9) : isChart c rows = true := by
  have R := goodC_rect g hm
  obtain ⟨h1, h2, h3, w, w1, w2, hr⟩ := g
  have r1 := R.h1
  have r9 := R.h9
  have a1 := R.w1
  have a9 := R.w9
  have ew : (rows.headD []).length = wideOf rows := rfl
  unfold isChart
  rw [h1, ew]
  simp only [Bool.true_and, Bool.and_eq_true, decide_eq_true_eq]
  refine ⟨⟨by omega, by omega⟩, ⟨by omega, by omega⟩, ?_⟩
  rw [List.all_eq_true]
  intro r hrm
  unfold isRow
  rw [Bool.and_eq_true, decide_eq_true_eq, List.all_eq_true]
  refine ⟨by rw [R.row r hrm], fun x hx => ?_⟩
  have := (hr r hrm).2 x hx
  simp only [Bool.and_eq_true, decide_eq_true_eq]
  exact this
def RNeed (ds : List PyData) (v : V) : Prop := ∃ c rows, ds = [dChart c rows] ∧ isChart c rows = true ∧ Rect rows ∧ v = .non
theorem ok_need_chart (T : Tx K mg) : FnOk P w K mg base CX0 4 T.a_need_chart T.d_need_chart ["chart"] (spD K RNeed) := by
  refine T.F_need_chart.ok sc_need_chart (fun vs H Q E h => ?_) (fun cdv A outer s H vs Q E hr h => ?_)
  · obtain ⟨ds, v, hds, ⟨c, rows, rfl, _⟩, q⟩ := h
    rw [dpa_len hds]
    rfl
  · obtain ⟨ds, v, hds, ⟨c, rows, rfl, hg, R, rfl⟩, q⟩ := h
    cases hds with
    | @cons v1 _ _ _ d1 h2 =>
    cases h2
    refine ⟨_, (pss_cons (ps_if (pt_not (pt_val (pe_call (ok_is_chart (P := P) (w := w) T) (hr.mono (by omega)) (by rfl) T.g_is_chart T.F_is_chart.kp T.b_is_chart .nil pass0 (pa_cons (pv 0) pa_nil)))) (pss_cons ps_never
      pss_nil) pss_nil)
      pss_nil), Go.go ?_⟩
    have h9 := R.h9
    refine go_whenF (et_is (et_not (et_B (ev_is_chart (eda_cons (ed_var rfl d1) eda_nil) (by omega) (fun r hr => by rw [R.row r hr]; have := R.w9; omega)))) (by rw [hg]; rfl)) (go_next fun H2 e2 => q H2 e2)
def RSize (ds : List PyData) (d : PyData) : Prop := ∃ c rows, ds = [dChart c rows] ∧ isChart c rows = true ∧ Rect rows ∧ d = .tuple [.int (rows.length : Int), .int (wideOf rows : Int)]
theorem ok_size (T : Tx K mg) : FnOk P w K mg base CX0 5 T.a_size T.d_size ["chart"] (spF K RSize) := by
  refine T.F_size.ok sc_size (fun vs H Q E h => ?_) (fun cdv A outer s H vs Q E hr h => ?_)
  · obtain ⟨Hd, ds, d, sx, hds, ⟨c, rows, rfl, _⟩, q⟩ := h
    rw [dpa_len hds]
    rfl
  · obtain ⟨Hd, ds, d, sx, hds, ⟨c, rows, rfl, hg, R, rfl⟩, q⟩ := h
    cases hds with
    | @cons v1 _ _ _ d1 h2 =>
    cases h2
    refine ⟨_, (pss_cons (ps_expr (pe_call (ok_need_chart (P := P) (w := w) T) (hr.mono (by omega)) (by rfl) T.g_need_chart T.F_need_chart.kp T.b_need_chart .nil pass0 (pa_cons (pv 0) pa_nil)))
      (pss_cons (ps_set (i := 1) sc_size.nd rfl (.inl rfl) (pe_ix (r := rIxT K) ix_tup (pv 0) pe_int (fun _ _ => rfl)))
      (pss_cons (ps_ret (pe_tup (pa_cons (pe_callB (r := rLenS K) call_lenQ (by rfl) T.n_len PySem.boot_len (pa_cons (pv 1) pa_nil)) (pa_cons (pe_callB (r := rLenS K) call_lenQ (by rfl) T.n_len PySem.boot_len (pa_cons (pe_ix (r := rIxT K) ix_tup (pv 1) pe_int (fun _ _ => rfl)) pa_nil)) pa_nil))))
      pss_nil))), Go.go ?_⟩
    refine go_drop (Ev.mono sx (ev_callD (eda_cons (ed_var rfl d1) eda_nil) ⟨c, rows, rfl, hg, R, rfl⟩)) ?_
    refine go_asgD (K := K) (d := .tuple (rows.map dRow)) sx (ed_ixT (ed_var rfl d1) ev_c rfl) fun v2 H2 D2 g2 h2 => ?_
    refine go_ret (K := K) g2.sub (ed_tup (eda_cons (ed_int (ev_is (ev_lenT (ed_var rfl h2)) (by rw [List.length_map]))) (eda_cons (ed_int (ev_is (ev_lenT (ed_ixT (ed_var rfl h2) ev_c R.head)) (by rw [List.length_map]; rfl))) eda_nil)) (by simp)) fun v H3 D3 g3 hv => q v H3 D3 (g2.trans g3) hv

/-! ### charts as tables -/
def rowOf (w : Nat) (g : Nat → Int) : List Int := (List.range w).map g
def tab (h w : Nat) (f : Nat → Nat → Int) : List (List Int) := (List.range h).map fun i => rowOf w (f i)
theorem row_len {w : Nat} {g : Nat → Int} : (rowOf w g).length = w := by unfold rowOf; rw [List.length_map, List.length_range]
theorem tab_len {h w : Nat} {f : Nat → Nat → Int} : (tab h w f).length = h := by unfold tab; rw [List.length_map, List.length_range]
theorem row_get {w j : Nat} {g : Nat → Int} (hj : j < w) : (rowOf w g)[j]? = some (g j) := by
  unfold rowOf
  rw [List.getElem?_map, List.getElem?_range hj]
  rfl
theorem tab_get {h w i : Nat} {f : Nat → Nat → Int} (hi : i < h) : (tab h w f)[i]? = some (rowOf w (f i)) := by
  unfold tab
  rw [List.getElem?_map, List.getElem?_range hi]
  rfl
theorem row_congr {w : Nat} {f g : Nat → Int} (e : ∀ j, j < w → f j = g j) : rowOf w f = rowOf w g := by
  unfold rowOf
  exact List.map_congr_left fun j hj => e j (List.mem_range.mp hj)
theorem tab_congr {h w : Nat} {f g : Nat → Nat → Int} (e : ∀ i j, i < h → j < w → f i j = g i j) : tab h w f = tab h w g := by
  unfold tab
  exact List.map_congr_left fun i hi => row_congr fun j hj => e i j (List.mem_range.mp hi) hj
theorem row_rev {w : Nat} {g : Nat → Int} : (rowOf w g).reverse = rowOf w fun j => g (w - 1 - j) := by
  apply List.ext_getElem?
  intro i
  by_cases hi : i < w
  · rw [List.getElem?_reverse (by rw [row_len]; exact hi), row_len, row_get (by omega), row_get hi]
  · rw [List.getElem?_eq_none (by rw [List.length_reverse, row_len]; omega), List.getElem?_eq_none (by rw [row_len]; omega)]
theorem tab_rev {h w : Nat} {f : Nat → Nat → Int} : (tab h w f).reverse = tab h w fun i j => f (h - 1 - i) j := by
  apply List.ext_getElem?
  intro i
  by_cases hi : i < h
  · rw [List.getElem?_reverse (by rw [tab_len]; exact hi), tab_len, tab_get (by omega), tab_get hi]
  · rw [List.getElem?_eq_none (by rw [List.length_reverse, tab_len]; omega), List.getElem?_eq_none (by rw [tab_len]; omega)]
theorem row_given {w : Nat} {g : Nat → Int} : (rowOf w g).map PyData.int = givenD w (fun _ => true) (fun j => .int (g j)) := by
  rw [givenD_all]
  unfold rowOf
  rw [List.map_map]
  rfl
theorem tab_given {h w : Nat} {f : Nat → Nat → Int} : (tab h w f).map dRow = givenD h (fun _ => true) (fun i => dRow (rowOf w (f i))) := by
  rw [givenD_all]
  unfold tab
  rw [List.map_map]
  rfl
structure GoodT (c : Int) (h w : Nat) (f : Nat → Nat → Int) : Prop where
  clk : isClock c = true
  h1 : 1 ≤ h
  h9 : h ≤ 9
  w1 : 1 ≤ w
  w9 : w ≤ 9
  inn : ∀ i j, i < h → j < w → -2 ≤ f i j ∧ f i j < c
theorem GoodT.gc {c : Int} {h w : Nat} {f : Nat → Nat → Int} (g : GoodT c h w f) : goodC 9 c (tab h w f) := by
  have h1 := g.h1
  have h9 := g.h9
  have w1 := g.w1
  have w9 := g.w9
  refine ⟨g.clk, by rw [tab_len]; exact h1, by rw [tab_len]; omega, w, w1, by omega, fun r hr => ?_⟩
  unfold tab at hr
  obtain ⟨i, hi, rfl⟩ := List.mem_map.mp hr
  refine ⟨row_len, fun x hx => ?_⟩
  unfold rowOf at hx
  obtain ⟨j, hj, rfl⟩ := List.mem_map.mp hx
  exact g.inn i j (List.mem_range.mp hi) (List.mem_range.mp hj)
theorem GoodT.of {c : Int} {rows : List (List Int)} (g : goodC 9 c rows) : ∃ h w f, rows = tab h w f ∧ GoodT c h w f := by
  obtain ⟨hc, h1, h9, w, w1, w9, hr⟩ := g
  refine ⟨rows.length, w, fun i j => (((rows[i]?).getD [])[j]?).getD 0, ?_, hc, h1, by omega, w1, by omega, fun i j hi hj => ?_⟩
  · apply List.ext_getElem?
    intro i
    by_cases hi : i < rows.length
    · rw [tab_get hi, List.getElem?_eq_getElem hi]
      congr 1
      have hl := (hr _ (List.getElem_mem hi)).1
      apply List.ext_getElem?
      intro j
      by_cases hj : j < w
      · rw [row_get hj, List.getElem?_eq_getElem (by omega)]
        simp [hi, hl, hj]
      · rw [List.getElem?_eq_none (by omega), List.getElem?_eq_none (by rw [row_len]; omega)]
    · rw [List.getElem?_eq_none (by omega), List.getElem?_eq_none (by rw [tab_len]; omega)]
  · have hl := hr _ (List.getElem_mem hi)
    have hj2 : j < (rows[i]).length := by omega
    have := hl.2 _ (List.getElem_mem hj2)
    simpa [hi, hj2] using this
theorem GoodT.rect {c : Int} {h w : Nat} {f : Nat → Nat → Int} (g : GoodT c h w f) : Rect (tab h w f) := goodC_rect g.gc (by decide)
theorem GoodT.chart {c : Int} {h w : Nat} {f : Nat → Nat → Int} (g : GoodT c h w f) : isChart c (tab h w f) = true := goodC_chart g.gc (by decide)
theorem GoodT.wide {c : Int} {h w : Nat} {f : Nat → Nat → Int} (g : GoodT c h w f) : wideOf (tab h w f) = w := by
  have h1 := g.h1
  have e : (tab h w f)[0]? = some (rowOf w (f 0)) := tab_get (by omega)
  unfold wideOf
  cases ht : tab h w f with
  | nil => rw [ht] at e; cases e
  | cons a b =>
    rw [ht] at e
    cases e
    exact row_len
theorem ev_needT {σ : L2.St} {Hd : Hp} {E : XK} {te : TE} {c : Int} {h w : Nat} {f : Nat → Nat → Int} (hd : EvD K te σ Hd (dChart c (tab h w f))) (g : GoodT c h w f) : Ev (tCall (spD K RNeed) [] E (tCons te tNil)) σ Hd .non := ev_callD (eda_cons hd eda_nil) ⟨c, _, rfl, g.chart, g.rect, rfl⟩
/-- a walk over the rows, data of each -/
theorem en_rows {σ : L2.St} {Hd : Hp} {te tl : TE} {h w : Nat} {f : Nat → Nat → Int} {i0 : Nat} {v : Nat → PyData} (hd : EvD K tl σ Hd (.tuple ((tab h w f).map dRow))) (h9 : h ≤ 9) {vs : List Nat}
    (ht : ∀ (i : Nat) (u : V) (Hn : Hp), i < h → Ex Hd Hn → Dp K Hn u (dRow (rowOf w (f i))) → wipe ((wipe σ vs).set i0 (some u)) vs = wipe σ vs ∧ EvD K te ((wipe σ vs).set i0 (some u)) Hn (v i)) :
    EvN K (tLc (iTup K tl) (gName i0) tYes te vs) σ Hd (givenD h (fun _ => true) v) := by
  have e : ((tab h w f).map dRow).length = h := by rw [List.length_map, tab_len]
  have key := en_lc (vs := vs) (tt := tYes) (te := te) (ei_tup (K := K) (j := i0) hd) (by rw [e]; omega) (fun _ => true) v ?_
  · rw [e] at key
    exact key
  · rintro i σ2 Hm hi ek ⟨u, d, h3, h4, rfl⟩
    rw [e] at hi
    rw [List.getElem?_map, tab_get hi] at h3
    cases h3
    obtain ⟨a, b⟩ := ht i u Hm hi ek h4
    exact ⟨a, et_yes, fun _ => b⟩
theorem en_cells {σ : L2.St} {Hd : Hp} {te tl : TE} {w : Nat} {g : Nat → Int} {i0 : Nat} {v : Nat → PyData} (hd : EvD K tl σ Hd (dRow (rowOf w g))) (h9 : w ≤ 9) {vs : List Nat}
    (ht : ∀ (i : Nat) (Hn : Hp), i < w → Ex Hd Hn → wipe ((wipe σ vs).set i0 (some (.int (g i)))) vs = wipe σ vs ∧ EvD K te ((wipe σ vs).set i0 (some (.int (g i)))) Hn (v i)) :
    EvN K (tLc (iTup K tl) (gName i0) tYes te vs) σ Hd (givenD w (fun _ => true) v) := by
  have e : ((rowOf w g).map PyData.int).length = w := by rw [List.length_map, row_len]
  have key := en_lc (vs := vs) (tt := tYes) (te := te) (ei_tup (K := K) (j := i0) hd) (by rw [e]; omega) (fun _ => true) v ?_
  · rw [e] at key
    exact key
  · rintro i σ2 Hm hi ek ⟨u, d, h3, h4, rfl⟩
    rw [e] at hi
    rw [List.getElem?_map, row_get hi] at h3
    cases h3
    cases h4
    obtain ⟨a, b⟩ := ht i Hm hi ek
    exact ⟨a, et_yes, fun _ => b⟩
theorem en_upto9 {σ : L2.St} {Hd : Hp} {te tl : TE} {n : Nat} {i0 : Nat} {v : Nat → PyData} (hd : Ev tl σ Hd (.int (n : Int))) (h9 : n ≤ 9) {vs : List Nat}
    (ht : ∀ (i : Nat) (Hn : Hp), i < n → Ex Hd Hn → wipe ((wipe σ vs).set i0 (some (.int (i : Int)))) vs = wipe σ vs ∧ EvD K te ((wipe σ vs).set i0 (some (.int (i : Int)))) Hn (v i)) :
    EvN K (tLc (iRng1 (tCons tl tNil)) (gName i0) tYes te vs) σ Hd (givenD n (fun _ => true) v) := by
  have key := en_lc (vs := vs) (tt := tYes) (te := te) (ei_range1 (K := K) (j := i0) (ea_cons hd ea_nil) (by omega)) (by omega) (fun _ => true) v ?_
  · rw [Int.toNat_natCast] at key
    exact key
  · rintro i σ2 Hm hi ek hS
    rw [Int.toNat_natCast] at hi
    have hS' : σ2 = (wipe σ vs).set i0 (some (.int (0 + (i : Int)))) := hS
    rw [Int.zero_add] at hS'
    subst hS'
    obtain ⟨a, b⟩ := ht i Hm hi ek
    exact ⟨a, et_yes, fun _ => b⟩

/-! ### patches cut and laid in -/
theorem cutD_in {ds : List PyData} {t n : Nat} (h : t + n ≤ ds.length) : cutD ds (some (t : Int)) (some ((t : Int) + (n : Int))) = (ds.drop t).take n := by
  unfold Cot.cutD
  rw [← Int.natCast_add, HT.sIx_nat, HT.sIx_nat, Nat.min_eq_left (show t ≤ ds.length by omega), Nat.min_eq_left h]
  congr 1
  omega
theorem row_cut {w l m : Nat} {g : Nat → Int} (h : l + m ≤ w) : ((rowOf w g).drop l).take m = rowOf m fun j => g (l + j) := by
  apply List.ext_getElem?
  intro j
  by_cases hj : j < m
  · rw [List.getElem?_take_of_lt hj, List.getElem?_drop, row_get (by omega), row_get hj]
  · rw [List.getElem?_eq_none (by rw [List.length_take]; omega), List.getElem?_eq_none (by rw [row_len]; omega)]
theorem tab_cut {h w t n : Nat} {f : Nat → Nat → Int} (hh : t + n ≤ h) : ((tab h w f).drop t).take n = tab n w fun i j => f (t + i) j := by
  apply List.ext_getElem?
  intro j
  by_cases hj : j < n
  · rw [List.getElem?_take_of_lt hj, List.getElem?_drop, tab_get (by omega), tab_get hj]
  · rw [List.getElem?_eq_none (by rw [List.length_take]; omega), List.getElem?_eq_none (by rw [tab_len]; omega)]
theorem row_splice {w l m : Nat} {p q : Nat → Int} (h : l + m ≤ w) : (rowOf w p).take l ++ rowOf m q ++ (rowOf w p).drop (l + m) = rowOf w fun j => if l ≤ j ∧ j < l + m then q (j - l) else p j := by
  have e1 : ((rowOf w p).take l).length = l := by rw [List.length_take, row_len]; omega
  have e2 : ((rowOf w p).take l ++ rowOf m q).length = l + m := by rw [List.length_append, e1, row_len]
  apply List.ext_getElem?
  intro j
  by_cases hj : j < w
  · rw [row_get hj]
    by_cases h1 : j < l
    · rw [List.getElem?_append_left (by omega), List.getElem?_append_left (by omega), List.getElem?_take_of_lt h1, row_get hj, if_neg (by omega)]
    · by_cases h2 : j < l + m
      · rw [List.getElem?_append_left (by omega), List.getElem?_append_right (by omega), e1, row_get (by omega), if_pos ⟨by omega, h2⟩]
      · rw [List.getElem?_append_right (by omega), e2, List.getElem?_drop, show l + m + (j - (l + m)) = j by omega, row_get hj, if_neg (by omega)]
  · rw [List.getElem?_eq_none (by rw [List.length_append, e2, List.length_drop, row_len]; omega), List.getElem?_eq_none (by rw [row_len]; omega)]
theorem tab_set {h w r : Nat} {f f' : Nat → Nat → Int} {row : List Int} (hr : r < h) (e1 : row = rowOf w (f' r)) (e2 : ∀ i j, i < h → j < w → i ≠ r → f' i j = f i j) : (tab h w f).set r row = tab h w f' := by
  apply List.ext_getElem?
  intro i
  by_cases hi : i < h
  · rw [tab_get hi]
    by_cases e : r = i
    · subst e
      rw [List.getElem?_set_self (by rw [tab_len]; exact hr), e1]
    · rw [List.getElem?_set_ne e, tab_get hi]
      congr 1
      exact row_congr fun j hj => (e2 i j hi hj fun x => e x.symm).symm
  · rw [List.getElem?_eq_none (by rw [List.length_set, tab_len]; omega), List.getElem?_eq_none (by rw [tab_len]; omega)]
def cutF (t l : Nat) (f : Nat → Nat → Int) : Nat → Nat → Int := fun i j => f (t + i) (l + j)
def laidF (t l n m : Nat) (g f : Nat → Nat → Int) : Nat → Nat → Int := fun i j => if (t ≤ i ∧ i < t + n) ∧ l ≤ j ∧ j < l + m then g (i - t) (j - l) else f i j
theorem GoodT.cut {c : Int} {h w t l n m : Nat} {f : Nat → Nat → Int} (g : GoodT c h w f) (h1 : 1 ≤ n) (h2 : 1 ≤ m) (h3 : t + n ≤ h) (h4 : l + m ≤ w) : GoodT c n m (cutF t l f) := by
  have := g.h9
  have := g.w9
  exact ⟨g.clk, h1, by omega, h2, by omega, fun i j hi hj => g.inn _ _ (by omega) (by omega)⟩
theorem GoodT.laid {c : Int} {h w t l n m : Nat} {f p : Nat → Nat → Int} (g : GoodT c h w f) (gp : GoodT c n m p) : GoodT c h w (laidF t l n m p f) := ⟨g.clk, g.h1, g.h9, g.w1, g.w9, fun i j hi hj => by
  unfold laidF
  split
  · exact gp.inn _ _ (by omega) (by omega)
  · exact g.inn i j hi hj⟩
theorem lay_step {h w t l m i : Nat} {g f : Nat → Nat → Int} (h1 : t + i < h) (h2 : l + m ≤ w) : (tab h w (laidF t l i m g f)).set (t + i) ((rowOf w (laidF t l i m g f (t + i))).take l ++ rowOf m (g i) ++ (rowOf w (laidF t l i m g f (t + i))).drop (l + m)) = tab h w (laidF t l (i + 1) m g f) := by
  refine tab_set h1 ?_ fun a b ha hb hne => ?_
  · rw [row_splice h2]
    refine row_congr fun j hj => ?_
    unfold laidF
    by_cases hc : l ≤ j ∧ j < l + m
    · rw [if_pos hc, if_pos ⟨⟨by omega, by omega⟩, hc⟩, show t + i - t = i by omega]
    · rw [if_neg hc, if_neg (by omega), if_neg (by omega)]
  · unfold laidF
    by_cases hc : (t ≤ a ∧ a < t + i) ∧ l ≤ b ∧ b < l + m
    · rw [if_pos hc, if_pos (by omega)]
    · rw [if_neg hc, if_neg (by omega)]
theorem lay_none {h w t l m : Nat} {g f : Nat → Nat → Int} : tab h w (laidF t l 0 m g f) = tab h w f := tab_congr fun i j _ _ => by
  unfold laidF
  rw [if_neg (by omega)]
def RWithin (ds : List PyData) (v : V) : Prop := ∃ c h w f t l n m, ds = [dChart c (tab h w f), .int t, .int l, .int n, .int m] ∧ GoodT c h w f ∧ (1 ≤ n ∧ 1 ≤ m ∧ 0 ≤ t ∧ 0 ≤ l ∧ t + n ≤ (h : Int) ∧ l + m ≤ (w : Int)) ∧ v = .non
theorem ok_need_within (T : Tx K mg) : FnOk P w K mg base CX0 6 T.a_need_within T.d_need_within ["chart", "top", "left", "high", "wide"] (spD K RWithin) := by
  refine T.F_need_within.ok sc_need_within (fun vs H Q E h => ?_) (fun cdv A outer s H vs Q E hr h => ?_)
  · obtain ⟨ds, v, hds, ⟨c, hh, ww, f, t, l, n, m, rfl, _⟩, q⟩ := h
    rw [dpa_len hds]
    rfl
  · obtain ⟨ds, v, hds, ⟨c, hh, ww, f, t, l, n, m, rfl, g, hb, rfl⟩, q⟩ := h
    cases hds with
    | @cons v1 _ _ _ d1 h2 =>
    have e := dpa_ints_inv (ns := [t, l, n, m]) h2
    subst e
    refine ⟨_, (pss_cons (ps_asg (pe_call (ok_size (P := P) (w := w) T) (hr.mono (by omega)) (by rfl) T.g_size T.F_size.kp T.b_size .nil pass0 (pa_cons (pv 0) pa_nil)) (pg_tup rfl (pgs_cons (pg_name (i := 5) sc_need_within.nd rfl (.inl rfl)) (pgs_cons (pg_name (i := 6) sc_need_within.nd rfl (.inl rfl)) pgs_nil))))
      (pss_cons (ps_if (PW.pt (pw_or (pt_cmpR op_lt (pv 3) pe_int (nomark _)) (pw_or (pt_cmpR op_lt (pv 4) pe_int (nomark _)) (pw_or (pt_cmpR op_lt (pv 1) pe_int (nomark _)) (pw_or (pt_cmpR op_lt (pv 2) pe_int (nomark _)) (pw_or (pt_cmpR op_gt (pe_op op_add (pv 1) (pv 3)) (pv 5) (nomark _)) (pw_or1 (pt_cmpR op_gt (pe_op op_add (pv 2) (pv 4)) (pv 6) (nomark _))))))))) (pss_cons ps_never
      pss_nil) pss_nil)
      pss_nil)), Go.go ?_⟩
    refine go_two (K := K) (Ex.refl _) (ed_call (eda_cons (ed_var rfl d1) eda_nil) ⟨c, _, rfl, g.chart, g.rect, rfl⟩) fun u1 u2 H1 D1 g1 k1 k2 => ?_
    cases k1
    cases k2
    refine go_whenF (et_is (by walk_at "et") ?_) (go_next fun H2 e2 => q H2 (g1.ex.trans e2))
    rw [tab_len, g.wide]
    have b1 : ¬ n < 1 := by omega
    have b2 : ¬ m < 1 := by omega
    have b3 : ¬ t < 0 := by omega
    have b4 : ¬ l < 0 := by omega
    have b5 : ¬ (t + n > (hh : Int)) := by omega
    have b6 : ¬ (l + m > (ww : Int)) := by omega
    simp [b1, b2, b3, b4, b5, b6] <;> omega
def RCut (ds : List PyData) (d : PyData) : Prop := ∃ (c : Int) (h w : Nat) (f : Nat → Nat → Int) (t l n m : Nat), ds = [dChart c (tab h w f), .int (t : Int), .int (l : Int), .int (n : Int), .int (m : Int)] ∧ GoodT c h w f ∧ (1 ≤ n ∧ 1 ≤ m ∧ t + n ≤ h ∧ l + m ≤ w) ∧ d = dChart c (tab n m (cutF t l f))
theorem slc_rows {σ : L2.St} {D : Hp} {te ta tb : TE} {h w t n : Nat} {f : Nat → Nat → Int} (hd : EvD K te σ D (.tuple ((tab h w f).map dRow))) (h1 : Ev ta σ D (.int (t : Int))) (h2 : Ev tb σ D (.int ((t : Int) + (n : Int)))) (hh : t + n ≤ h) : EvD K (tSl (rSlA K) te (tPart ta) (tPart tb)) σ D (.tuple ((tab n w fun i j => f (t + i) j).map dRow)) := by
  have key := ed_slT hd (eo_some h1) (eo_some h2)
  rw [cutD_in (by rw [List.length_map, tab_len]; exact hh), ← List.map_drop, ← List.map_take, tab_cut hh] at key
  exact key
theorem slc_row {σ : L2.St} {D : Hp} {te ta tb : TE} {w l m : Nat} {g : Nat → Int} (hd : EvD K te σ D (dRow (rowOf w g))) (h1 : Ev ta σ D (.int (l : Int))) (h2 : Ev tb σ D (.int ((l : Int) + (m : Int)))) (hh : l + m ≤ w) : EvD K (tSl (rSlA K) te (tPart ta) (tPart tb)) σ D (dRow (rowOf m fun j => g (l + j))) := by
  have key := ed_slT hd (eo_some h1) (eo_some h2)
  rw [cutD_in (by rw [List.length_map, row_len]; exact hh), ← List.map_drop, ← List.map_take, row_cut hh] at key
  exact key
theorem ok_cut (T : Tx K mg) : FnOk P w K mg base CX0 7 T.a_cut T.d_cut ["chart", "top", "left", "rows", "columns"] (spF K RCut) := by
  refine T.F_cut.ok sc_cut (fun vs H Q E h => ?_) (fun cdv A outer s H vs Q E hr h => ?_)
  · obtain ⟨Hd, ds, d, sx, hds, ⟨c, hh, ww, f, t, l, n, m, rfl, _⟩, q⟩ := h
    rw [dpa_len hds]
    rfl
  · obtain ⟨Hd, ds, d, sx, hds, ⟨c, hh, ww, f, t, l, n, m, rfl, g, hb, rfl⟩, q⟩ := h
    cases hds with
    | @cons v1 _ _ _ d1 h2 =>
    have e := dpa_ints_inv (ns := [(t : Int), (l : Int), (n : Int), (m : Int)]) h2
    subst e
    refine ⟨_, (pss_cons (ps_expr (pe_call (ok_need_within (P := P) (w := w) T) (hr.mono (by omega)) (by rfl) T.g_need_within T.F_need_within.kp T.b_need_within .nil pass0 (pa_cons (pv 0) (pa_cons (pv 1) (pa_cons (pv 2) (pa_cons (pv 3) (pa_cons (pv 4) pa_nil)))))))
      (pss_cons (ps_ret (pe_tup (pa_cons (pe_ix (r := rIxT K) ix_tup (pv 0) pe_int (fun _ _ => rfl)) (pa_cons (pe_callTy (r := rTupS K) call_tupleQ (by rfl) T.n_tuple (by decide +kernel) (pa_cons (pe_lc (own := [("row", 5)]) (g := (gName 5)) (by rfl) sc_cut.nd (pi_tup (pe_slice (r := rSlA K) sl_tupA (pe_ix (r := rIxT K) ix_tup (pv 0) pe_int (fun _ _ => rfl)) (po_some (pv 1)) (po_some (pe_op op_add (pv 1) (pv 3))))) (blkOk_by (own := [("row", 5)]) (N := N_cut) (sc := defScope s_cut) (by decide +kernel)) (fun _ _ _ _ _ => (pg_name (i := 5) sc_cut.nd rfl (.inl rfl) (hf := .inr rfl))) (fun _ _ _ _ _ => pts_nil) (fun _ _ _ _ _ => (pe_slice (r := rSlA K) sl_tupA (pv 5) (po_some (pv 2)) (po_some (pe_op op_add (pv 2) (pv 4)))))) pa_nil)) pa_nil))))
      pss_nil)), Go.go ?_⟩
    have h9 := g.h9
    refine go_drop (v := .non) (Ev.mono sx (ev_callD (eda_cons (ed_var rfl d1) (eda_cons (ed_int (ev_var rfl)) (eda_cons (ed_int (ev_var rfl)) (eda_cons (ed_int (ev_var rfl)) (eda_cons (ed_int (ev_var rfl)) eda_nil))))) ⟨c, hh, ww, f, _, _, _, _, rfl, g, by omega, rfl⟩)) ?_
    refine go_ret (K := K) sx (ed_tup (eda_cons (ed_ixT (ed_var rfl d1) ev_c rfl) (eda_cons (ed_tupleL (ed_new (ds := (tab n m (cutF t l f)).map dRow) ?_)) eda_nil)) (by simp)) q
    rw [tab_given]
    refine en_rows (slc_rows (ed_ixT (ed_var rfl d1) ev_c rfl) (ev_var rfl) (by walk_at "ev") hb.2.2.1) (by omega) ?_
    intro i u Hn hi ex du
    exact ⟨rfl, slc_row (ed_var rfl du) (ev_var rfl) (by walk_at "ev") hb.2.2.2⟩
def RFit (ds : List PyData) (v : V) : Prop := ∃ (c : Int) (h w : Nat) (f : Nat → Nat → Int) (n m : Nat) (g : Nat → Nat → Int) (t l : Nat), ds = [dChart c (tab h w f), dChart c (tab n m g), .int (t : Int), .int (l : Int)] ∧ GoodT c h w f ∧ GoodT c n m g ∧ (t + n ≤ h ∧ l + m ≤ w) ∧ v = .non
theorem ok_need_fit (T : Tx K mg) : FnOk P w K mg base CX0 7 T.a_need_fit T.d_need_fit ["chart", "patch", "top", "left"] (spD K RFit) := by
  refine T.F_need_fit.ok sc_need_fit (fun vs H Q E h => ?_) (fun cdv A outer s H vs Q E hr h => ?_)
  · obtain ⟨ds, v, hds, ⟨c, hh, ww, f, n, m, g, t, l, rfl, _⟩, q⟩ := h
    rw [dpa_len hds]
    rfl
  · obtain ⟨ds, v, hds, ⟨c, hh, ww, f, n, m, g, t, l, rfl, gf, gg, hb, rfl⟩, q⟩ := h
    cases hds with
    | @cons v1 _ _ _ d1 h2 =>
    cases h2 with
    | @cons v2 _ _ _ d2 h3 =>
    have e := dpa_ints_inv (ns := [(t : Int), (l : Int)]) h3
    subst e
    have n1 := gg.h1
    have m1 := gg.w1
    refine ⟨_, (pss_cons (ps_expr (pe_call (ok_need_chart (P := P) (w := w) T) (hr.mono (by omega)) (by rfl) T.g_need_chart T.F_need_chart.kp T.b_need_chart .nil pass0 (pa_cons (pv 0) pa_nil)))
      (pss_cons (ps_expr (pe_call (ok_need_chart (P := P) (w := w) T) (hr.mono (by omega)) (by rfl) T.g_need_chart T.F_need_chart.kp T.b_need_chart .nil pass0 (pa_cons (pv 1) pa_nil)))
      (pss_cons (ps_if (pt_cmpR op_ne (pe_ix (r := rIxT K) ix_tup (pv 0) pe_int (fun _ _ => rfl)) (pe_ix (r := rIxT K) ix_tup (pv 1) pe_int (fun _ _ => rfl)) (nomark _)) (pss_cons ps_never
      pss_nil) pss_nil)
      (pss_cons (ps_asg (pe_call (ok_size (P := P) (w := w) T) (hr.mono (by omega)) (by rfl) T.g_size T.F_size.kp T.b_size .nil pass0 (pa_cons (pv 1) pa_nil)) (pg_tup rfl (pgs_cons (pg_name (i := 4) sc_need_fit.nd rfl (.inl rfl)) (pgs_cons (pg_name (i := 5) sc_need_fit.nd rfl (.inl rfl)) pgs_nil))))
      (pss_cons (ps_expr (pe_call (ok_need_within (P := P) (w := w) T) (hr.mono (by omega)) (by rfl) T.g_need_within T.F_need_within.kp T.b_need_within .nil pass0 (pa_cons (pv 0) (pa_cons (pv 2) (pa_cons (pv 3) (pa_cons (pv 4) (pa_cons (pv 5) pa_nil)))))))
      pss_nil))))), Go.go ?_⟩
    refine go_drop (ev_needT (ed_var rfl d1) gf) ?_
    refine go_drop (ev_needT (ed_var rfl d2) gg) ?_
    refine go_whenF (et_is (et_test (ev_op (ev_int (K := K) (ed_ixT (ed_var rfl d1) ev_c rfl)) (ev_int (K := K) (ed_ixT (ed_var rfl d2) ev_c rfl)) (rv_ne rfl))) (by simp)) ?_
    refine go_two (K := K) (Ex.refl _) (ed_call (eda_cons (ed_var rfl d2) eda_nil) ⟨c, _, rfl, gg.chart, gg.rect, rfl⟩) fun u1 u2 H1 D1 g1 k1 k2 => ?_
    cases k1
    cases k2
    have d1' := dp_mono g1.dx _ d1
    refine go_drop (v := .non) (Ev.mono g1.sub (ev_callD (ds := [dChart c (tab hh ww f), .int (t : Int), .int (l : Int), .int (n : Int), .int (m : Int)]) (eda_cons (ed_var rfl d1') (eda_cons (ed_int (ev_var rfl)) (eda_cons (ed_int (ev_var rfl)) (eda_cons (ed_int (ev_is (ev_var rfl) (by rw [tab_len]))) (eda_cons (ed_int (ev_is (ev_var rfl) (by rw [gg.wide]))) eda_nil))))) ⟨c, hh, ww, f, _, _, _, _, rfl, gf, by omega, rfl⟩)) ?_
    exact go_next fun H2 e2 => q H2 (g1.ex.trans e2)
def RLaid (ds : List PyData) (d : PyData) : Prop := ∃ (c : Int) (h w : Nat) (f : Nat → Nat → Int) (n m : Nat) (g : Nat → Nat → Int) (t l : Nat), ds = [dChart c (tab h w f), dChart c (tab n m g), .int (t : Int), .int (l : Int)] ∧ GoodT c h w f ∧ GoodT c n m g ∧ (t + n ≤ h ∧ l + m ≤ w) ∧ d = dChart c (tab h w (laidF t l n m g f))
theorem rows_back {σ : L2.St} {D : Hp} {tl : TE} {h w : Nat} {F : Nat → Nat → Int} {i0 : Nat} {vs : List Nat} (hd : EvD K tl σ D (.list ((tab h w F).map fun r => .list (r.map .int)))) (h9 : h ≤ 9) (hw : ∀ u, wipe ((wipe σ vs).set i0 (some u)) vs = wipe σ vs) (hj : ∀ u, ((wipe σ vs).set i0 (some u))[i0]? = some (some u)) :
    EvN K (tLc (iList K tl) (gName i0) tYes (tCB (rTupS K) (tCons (tVar i0) tNil)) vs) σ D ((tab h w F).map dRow) := by
  have e : ((tab h w F).map fun r => PyData.list (r.map .int)).length = h := by rw [List.length_map, tab_len]
  have key := en_lc (vs := vs) (tt := tYes) (te := tCB (rTupS K) (tCons (tVar i0) tNil)) (ei_list (K := K) (j := i0) hd) (by rw [e]; omega) (fun _ => true) (fun i => dRow (rowOf w (F i))) ?_
  · rw [e, ← tab_given] at key
    exact key
  · rintro i σ2 Hm hi ek ⟨u, d, h3, h4, rfl⟩
    rw [e] at hi
    rw [List.getElem?_map, tab_get hi] at h3
    cases h3
    exact ⟨hw u, et_yes, fun _ => ed_tupleL (ed_var (hj u) h4)⟩
theorem ok_laid_in (T : Tx K mg) : FnOk P w K mg base CX0 8 T.a_laid_in T.d_laid_in ["chart", "patch", "top", "left"] (spF K RLaid) := by
  refine T.F_laid_in.ok sc_laid_in (fun vs H Q E h => ?_) (fun cdv A outer s H vs Q E hr h => ?_)
  · obtain ⟨Hd, ds, d, sx, hds, ⟨c, hh, ww, f, n, m, g, t, l, rfl, _⟩, q⟩ := h
    rw [dpa_len hds]
    rfl
  · obtain ⟨Hd, ds, d, sx, hds, ⟨c, hh, ww, f, n, m, g, t, l, rfl, gf, gg, hb, rfl⟩, q⟩ := h
    cases hds with
    | @cons v1 _ _ _ d1 h2 =>
    cases h2 with
    | @cons v2 _ _ _ d2 h3 =>
    have e := dpa_ints_inv (ns := [(t : Int), (l : Int)]) h3
    subst e
    have h9 := gf.h9
    have w9 := gf.w9
    have n9 := gg.h9
    have m9 := gg.w9
    refine ⟨_, PSs.nox (pss_cons (ps_expr (pe_call (ok_need_fit (P := P) (w := w) T) (hr.mono (by omega)) (by rfl) T.g_need_fit T.F_need_fit.kp T.b_need_fit .nil pass0 (pa_cons (pv 0) (pa_cons (pv 1) (pa_cons (pv 2) (pa_cons (pv 3) pa_nil))))))
      (pss_cons (ps_setLc (i := 4) (own := [("row", 6)]) (g := (gName 6)) (by rfl) sc_laid_in.nd rfl rfl (sw_true rfl rfl rfl (by decide +kernel)) (pi_tup (pe_ix (r := rIxT K) ix_tup (pv 0) pe_int (fun _ _ => rfl))) (blkOk_by (own := [("row", 6)]) (N := N_laid_in) (sc := defScope s_laid_in) (by decide +kernel)) (fun _ _ _ _ _ => (pg_name (i := 6) sc_laid_in.nd rfl (.inl rfl) (hf := .inr rfl))) (fun _ _ _ _ _ => pts_nil) (fun _ _ _ _ _ => (pe_callTy (r := rListS K) call_listQ (by rfl) T.n_list (by decide +kernel) (pa_cons (pv 6) pa_nil))))
      (pss_cons (ps_for PassesOwn.never rfl (pi_enumT (by rfl) T.n_enumerate (pa_cons (pe_ix (r := rIxT K) ix_tup (pv 1) pe_int (fun _ _ => rfl)) pa_nil)) (pg_tup rfl (pgs_cons (pg_name (i := 5) sc_laid_in.nd rfl (.inl rfl)) (pgs_cons (pg_name (i := 6) sc_laid_in.nd rfl (.inl rfl)) pgs_nil))) (pss_cons (ps_asg (pe_callTy (r := rListS K) call_listQ (by rfl) T.n_list (by decide +kernel) (pa_cons (pv 6) pa_nil)) (pg_slc (pe_ix (r := rIxL K) ix_list (pv 4) (pe_op op_add (pv 2) (pv 5)) (fun _ _ => rfl)) (po_some (pv 3)) (po_some (pe_op op_add (pv 3) (pe_callB (r := rLenS K) call_lenQ (by rfl) T.n_len PySem.boot_len (pa_cons (pv 6) pa_nil))))))
      pss_nil))
      (pss_cons (ps_ret (pe_tup (pa_cons (pe_ix (r := rIxT K) ix_tup (pv 0) pe_int (fun _ _ => rfl)) (pa_cons (pe_callTy (r := rTupS K) call_tupleQ (by rfl) T.n_tuple (by decide +kernel) (pa_cons (pe_lc (own := [("row", 6)]) (g := (gName 6)) (by rfl) sc_laid_in.nd (pi_list (pv 4)) (blkOk_by (own := [("row", 6)]) (N := N_laid_in) (sc := defScope s_laid_in) (by decide +kernel)) (fun _ _ _ _ _ => (pg_name (i := 6) sc_laid_in.nd rfl (.inl rfl) (hf := .inr rfl))) (fun _ _ _ _ _ => pts_nil) (fun _ _ _ _ _ => (pe_callTy (r := rTupS K) call_tupleQ (by rfl) T.n_tuple (by decide +kernel) (pa_cons (pv 6) pa_nil)))) pa_nil)) pa_nil))))
      pss_nil)))), Go.go ?_⟩
    refine go_drop (v := .non) (Ev.mono sx (ev_callD (eda_cons (ed_var rfl d1) (eda_cons (ed_var rfl d2) (eda_cons (ed_int (ev_var rfl)) (eda_cons (ed_int (ev_var rfl)) eda_nil)))) ⟨c, hh, ww, f, n, m, g, t, l, rfl, gf, gg, hb, rfl⟩)) ?_
    refine go_asgLL sx (ll_lc (rs := tab hh ww f) (ed_ixT (ed_var rfl d1) ev_c rfl) (by rw [tab_len]; omega) (fun u => rfl) (fun u => rfl)) fun a ps H1 e1 na np L => ?_
    have s1 := sx.trans e1
    have na' := fresh_back sx na
    have np' := fun p hp => fresh_back sx (np p hp)
    refine go_for (K := K) s1 (ei_enumT (K := K) (ds := (tab n m g).map dRow) (eda_cons (ed_ixT (ed_var rfl d2) ev_c rfl) eda_nil)) (fun Hn i σ' H' => ∃ (x y : Option V), Ex Hd Hn ∧ Ex Hn H' ∧ Hn a = none ∧ (∀ p ∈ ps, Hn p = none) ∧ (∀ x o, H x = some o → Hd x = none → Hn x = none) ∧ Ex H H' ∧ LL H' a ps (tab hh ww (laidF t l i m g f)) ∧ σ' = [some v1, some v2, some (.int (t : Int)), some (.int (l : Int)), some (.ref a), x, y]) ?_ ?_ ?_ ?_
    · intro H' Hn gr
      refine ⟨none, none, gr.dx, gr.sub, gr.fr _ _ L.top na', fun p hp => ?_, fun x o h1 h2 => gr.fr _ _ (e1 _ _ h1) h2, e1.trans gr.ex, by rw [lay_none]; exact L.ext gr.ex, rfl⟩
      obtain ⟨k, hk, ek⟩ := List.getElem_of_mem hp
      exact gr.fr _ _ (L.row k p ((tab hh ww f)[k]'(by rw [← L.len]; exact hk)) (List.getElem?_eq_some_iff.mpr ⟨hk, ek⟩) (List.getElem?_eq_getElem _)) (np' p hp)
    · rintro Hn i σ' H' ⟨x, y, e0, e, _⟩
      exact e
    · rintro Hn i σ' σ2 H2 e2 hi ⟨x, y, x0, s2, na2, np2, fr2, x2, L2, rfl⟩ ⟨va, vb, da, db, ea, eb, ha, hbd, rfl⟩
      cases ea
      cases ha
      rw [List.length_map, tab_len] at hi
      replace eb : ((tab n m g).map dRow)[i]? = some db := eb
      rw [List.getElem?_map, tab_get hi] at eb
      cases eb
      have hti : t + i < hh := by omega
      have hpl : t + i < ps.length := by rw [L2.len, tab_len]; exact hti
      have hpi : ps[t + i]? = some ps[t + i] := List.getElem?_eq_getElem hpl
      refine go_slc (K := K) (Hd := un H Hn) (i := t + i) (p := ps[t + i]) (r := rowOf ww (laidF t l i m g f (t + i))) (ns := rowOf m (g i)) (lo := (l : Int)) (hi := ((l + m : Nat) : Int)) (un_sub x2 s2) L2 ?_ (EvN.mono (un_r x2 s2) (en_listT (ed_var rfl hbd))) (ev_op (ev_var rfl) (ev_is (w := .int ((t + i : Nat) : Int)) (by walk_at "ev") (by rw [Int.natCast_add])) (rv_ixL (K := K) (sq_of L2.top) (atI_nat (j := t + i) (by rw [List.getElem?_map, hpi]; rfl)))) hpi (tab_get hti) (eo_some (ev_var rfl)) (eo_some (ev_is (ev_op (ev_var rfl) (Ev.mono s2 (ev_lenT (K := K) (ed_var rfl hbd))) rv_I0) (by rw [List.length_map, row_len, Int.natCast_add]))) (by omega) (by omega) (by rw [row_len]; omega) (by rw [row_len, row_len]; omega) fun H3 x3 L3 => ?_
      · intro p hp
        show un H Hn p = none
        unfold un
        rw [np p hp]
        exact np2 p hp
      rw [Int.toNat_natCast, Int.toNat_natCast, lay_step hti hb.2] at L3
      refine go_next fun H4 e4 => ⟨_, _, x0, ((un_r x2 s2).trans x3).trans e4, na2, np2, fr2, (un_l.trans x3).trans e4, L3.ext e4, rfl⟩
    · rintro Hn σ' H2 e2 ⟨x, y, x0, s2, na2, np2, fr2, x2, L2, rfl⟩
      rw [List.length_map, tab_len] at L2
      obtain ⟨D3, y1, y2, hda, y3⟩ := L2.data (K := K) s2 na2 np2
      refine go_ret (K := K) y2 (ed_tup (eda_cons (ed_ixT (ed_var rfl (dp_mono (x0.trans y1) _ d1)) ev_c rfl) (eda_cons (ed_tupleL (ed_new (ds := (tab hh ww (laidF t l n m g f)).map dRow) (rows_back (ed_var rfl hda) h9 (fun u => rfl) (fun u => rfl)))) eda_nil)) (by simp)) ?_
      intro v H5 D5 g5 hv
      refine q v H5 D5 ⟨x2.trans g5.ex, (x0.trans y1).trans g5.dx, g5.sub, fun z o h1 h2 => g5.fr z o (x2 _ _ h1) ?_⟩ hv
      rw [y3 z (ne_of_none h1 na) (fun hm => by have := np z hm; rw [h1] at this; cases this)]
      exact fr2 z o h1 h2

theorem in_clocks_all (c : Int) : inV (.int c) [.int 3, .int 5, .int 7, .int 9, .int 11, .int 13, .int 15] = isClock c := by
  by_cases h : 3 ≤ c ∧ c ≤ 15
  · have e : c = 3 ∨ c = 4 ∨ c = 5 ∨ c = 6 ∨ c = 7 ∨ c = 8 ∨ c = 9 ∨ c = 10 ∨ c = 11 ∨ c = 12 ∨ c = 13 ∨ c = 14 ∨ c = 15 := by omega
    rcases e with rfl | rfl | rfl | rfl | rfl | rfl | rfl | rfl | rfl | rfl | rfl | rfl | rfl <;> decide +kernel
  · have e1 : isClock c = false := by
      cases e : isClock c with
      | false => rfl
      | true =>
        have := isClock_iff.mp e
        omega
    rw [e1]
    have ne : ∀ k : Int, 3 ≤ k → k ≤ 15 → eqV (.int k) (.int c) = false := fun k h1 h2 => by
      simp only [eqV]
      first | exact decide_eq_false (by intro z; cases z; omega) | (rw [beq_eq_false_iff_ne]; intro z; omega) | (simp; omega)
    simp only [inV, List.any_cons, List.any_nil, ne 3 (by decide) (by decide), ne 5 (by decide) (by decide), ne 7 (by decide) (by decide), ne 9 (by decide) (by decide), ne 11 (by decide) (by decide), ne 13 (by decide) (by decide), ne 15 (by decide) (by decide)]
    rfl
theorem ok_law_is_chart (T : Tx K mg) : FnOk P w K mg base CX0 1 T.a_law_is_chart T.d_law_is_chart ["_law_chart_here"] (spIsChart K) := by
  refine T.F_law_is_chart.ok sc_law_is_chart (fun vs H Q E h => ?_) (fun cdv A outer s H vs Q E hr h => ?_)
  · obtain ⟨c, v, rows, rfl, _⟩ := h
    rfl
  · obtain ⟨c, v, rows, rfl, hv, hl, hls, q⟩ := h
    refine ⟨_, (pss_cons (ps_asg (pv 0) (pg_tup rfl (pgs_cons (pg_name (i := 1) sc_law_is_chart.nd rfl (.inr rfl)) (pgs_cons (pg_name (i := 2) sc_law_is_chart.nd rfl (.inl rfl)) pgs_nil))))
      (pss_cons (ps_if (PW.pt (pw_or (pt_cmpR (r := rIn K true) op_notIn_seq (pv 1) (pe_tup (pa_cons pe_int (pa_cons pe_int (pa_cons pe_int (pa_cons pe_int (pa_cons pe_int (pa_cons pe_int (pa_cons pe_int pa_nil)))))))) (by rfl)) (pw_or1 (pt_cmpR (r := rInR true) op_notInR (pe_callB (r := rLenS K) call_lenQ (by rfl) T.n_len PySem.boot_len (pa_cons (pv 2) pa_nil)) (pe_callTy (r := rRg2) call_rangeQ (by rfl) T.n_range (by decide +kernel) (pa_cons pe_int (pa_cons pe_int pa_nil))) (by rfl))))) (pss_cons (ps_ret pe_bl)
      pss_nil) pss_nil)
      (pss_cons (ps_if (pt_cmpR (r := rInR true) op_notInR (pe_callB (r := rLenS K) call_lenQ (by rfl) T.n_len PySem.boot_len (pa_cons (pe_ix (r := rIxT K) ix_tup (pv 2) pe_int (fun _ _ => rfl)) pa_nil)) (pe_callTy (r := rRg2) call_rangeQ (by rfl) T.n_range (by decide +kernel) (pa_cons pe_int (pa_cons pe_int pa_nil))) (by rfl)) (pss_cons (ps_ret pe_bl)
      pss_nil) pss_nil)
      (pss_cons (ps_for PassesOwn.never rfl (pi_tup (pv 2)) (pg_name (i := 3) sc_law_is_chart.nd rfl (.inl rfl)) (pss_cons (ps_if (PW.pt (pw_or (pt_cmpR op_ne (pe_callB (r := rLenS K) call_lenQ (by rfl) T.n_len PySem.boot_len (pa_cons (pv 3) pa_nil)) (pe_callB (r := rLenS K) call_lenQ (by rfl) T.n_len PySem.boot_len (pa_cons (pe_ix (r := rIxT K) ix_tup (pv 2) pe_int (fun _ _ => rfl)) pa_nil)) (nomark _)) (pw_or1 (pt_not (pt_val (pe_callB (r := rAll K) (cr_all rfl) (by rfl) T.n_all (by decide +kernel) (pa_cons (pe_lc (own := [("_law_one", 4)]) (g := (gName 4)) (by rfl) sc_law_is_chart.nd (pi_tup (pv 3)) (blkOk_by (own := [("_law_one", 4)]) (N := N_law_is_chart) (sc := defScope s_law_is_chart) (by decide +kernel)) (fun _ _ _ _ _ => (pg_name (i := 4) sc_law_is_chart.nd rfl (.inl rfl) (hf := .inr rfl))) (fun _ _ _ _ _ => pts_nil) (fun _ _ _ _ _ => (pe_chain op_le op_lt (pe_un un_neg pe_int) (pv 4) (pv 1)))) pa_nil))))))) (pss_cons (ps_ret pe_bl)
      pss_nil) pss_nil)
      pss_nil))
      (pss_cons (ps_ret pe_bl)
      pss_nil))))), Go.go ?_⟩
    refine go_two (Ex.refl H) (ed_var rfl hv) ?_
    intro v1 v2 H' Hn g d1 d2
    cases d1
    have hl1 : Ev (tCB (rLenS K) (tCons (tVar 2) tNil)) (((L2.start N_law_is_chart [v]).set 1 (some (.int c))).set 2 (some v2)) Hn (.int (rows.length : Int)) := ev_is (ev_lenT (K := K) (ds := rows.map dRow) (ed_var rfl d2)) (by rw [List.length_map])
    apply go_when (b := !isClock c || !decide (1 ≤ (rows.length : Int) ∧ (rows.length : Int) < 10))
    · refine EvT.mono g.sub (et_orB (et_test ?_) (et_test (ev_inR (neg := true) hl1 (ea_cons ev_c (ea_cons ev_c ea_nil)))))
      refine ev_is (ev_niU (K := K) (xs := [.int 3, .int 5, .int 7, .int 9, .int 11, .int 13, .int 15]) (ev_var rfl) (eu_tup (by walk_at "ea") (by simp)) rfl (by rfl)) (by rw [in_clocks_all])
    · intro e
      apply go_retE (k := fun H2 e2 => q H2 (g.ex.trans e2))
      · walk_at "ev"
      · unfold isChart
        cases h1 : isClock c
        · rfl
        · rw [h1] at e
          have h2 : ¬ (1 ≤ (rows.length : Int) ∧ (rows.length : Int) < 10) := by
            intro z
            rw [decide_eq_true z] at e
            cases e
          have h3 : (decide (1 ≤ (rows.length : Int)) && decide ((rows.length : Int) ≤ 9)) = false := by
            rw [← Bool.decide_and]
            exact decide_eq_false (by omega)
          rw [h3]
          rfl
    · intro e
      have h1 : isClock c = true := by
        cases h1 : isClock c
        · rw [h1] at e; cases e
        · rfl
      have h2 : 1 ≤ (rows.length : Int) ∧ (rows.length : Int) < 10 := by
        rw [h1] at e
        simpa using e
      have h3 : (decide (1 ≤ (rows.length : Int)) && decide ((rows.length : Int) ≤ 9)) = true := by
        rw [← Bool.decide_and]
        exact decide_eq_true (by omega)
      obtain ⟨r0, rest, rfl⟩ : ∃ r0 rest, rows = r0 :: rest := by
        cases rows with
        | nil => simp at h2
        | cons r0 rest => exact ⟨r0, rest, rfl⟩
      have hr0 : ∀ {σ : L2.St} {D : Hp}, Ex Hn D → σ[2]? = some (some v2) → Ev (tCB (rLenS K) (tCons (tOp (rIxT K) (tVar 2) (tC (.int 0))) tNil)) σ D (.int (r0.length : Int)) := fun {σ D} e hs => ev_is (ev_lenT (K := K) (ds := r0.map .int) (ed_ixT (ed_var hs (dp_mono e _ d2)) ev_c (d := dRow r0) (atI_nat (j := 0) rfl))) (by rw [List.length_map])
      apply go_when (b := !decide (1 ≤ (r0.length : Int) ∧ (r0.length : Int) < 10))
      · exact EvT.mono g.sub (et_test (ev_inR (neg := true) (hr0 (Ex.refl _) rfl) (ea_cons ev_c (ea_cons ev_c ea_nil))))
      · intro e2
        apply go_retE (k := fun H2 e2 => q H2 (g.ex.trans e2))
        · walk_at "ev"
        · have h4 : ¬ (1 ≤ (r0.length : Int) ∧ (r0.length : Int) < 10) := by
            intro z
            rw [decide_eq_true z] at e2
            cases e2
          have h5 : (decide (1 ≤ (r0.length : Int)) && decide ((r0.length : Int) ≤ 9)) = false := by
            rw [← Bool.decide_and]
            exact decide_eq_false (by omega)
          unfold isChart
          rw [h1, h3]
          show V.bl false = V.bl (true && true && ((decide (1 ≤ (r0.length : Int)) && decide ((r0.length : Int) ≤ 9)) && _))
          rw [h5]
          rfl
      · intro e2
        have h4 : 1 ≤ (r0.length : Int) ∧ (r0.length : Int) < 10 := by simpa using e2
        have h5 : (decide (1 ≤ (r0.length : Int)) && decide ((r0.length : Int) ≤ 9)) = true := by
          rw [← Bool.decide_and]
          exact decide_eq_true (by omega)
        have isV : isChart c (r0 :: rest) = (r0 :: rest).all (isRow c r0.length) := by
          unfold isChart
          rw [h1, h3]
          show (true && true && ((decide (1 ≤ (r0.length : Int)) && decide ((r0.length : Int) ≤ 9)) && _)) = _
          rw [h5]
          rfl
        refine go_for (K := K) g.sub (ei_tup (K := K) (ds := (r0 :: rest).map dRow) (ed_var rfl d2)) (fun Hm i σ' H2 => Ex Hm H2 ∧ Ex H H2 ∧ (((r0 :: rest).take i).all (isRow c r0.length)) = true ∧ ∃ x y, σ' = [some v, some (.int c), some v2, x, y]) ?_ (fun Hm i σ' H2 p => p.1) ?_ ?_
        · intro H2 Hm g2
          exact ⟨g2.sub, g.ex.trans g2.ex, rfl, none, none, rfl⟩
        · rintro Hm i σ' σ2 H2 em hi ⟨p1, p2, p3, x, y, rfl⟩ ⟨v3, d3, q1, q2, rfl⟩
          rw [List.length_map] at hi
          rw [List.getElem?_map, List.getElem?_eq_getElem hi] at q1
          cases q1
          have hln := hls _ (List.getElem_mem hi)
          generalize hri : (r0 :: rest)[i] = ri at q2 hln
          have hlen : Ev (tCB (rLenS K) (tCons (tVar 3) tNil)) [some v, some (.int c), some v2, some v3, y] Hm (.int (ri.length : Int)) := ev_is (ev_lenT (K := K) (ds := ri.map .int) (ed_var rfl q2)) (by rw [List.length_map])
          have hall : Ev (tCB (rAll K) (tCons (tLc (iTup K (tVar 3)) (gName 4) tYes (tChain (rI0 fun i j => .bl (decide (i ≤ j))) (rI0 fun i j => .bl (decide (i < j))) (tUn (rU fun i => .int (-i)) (tC (.int 2))) (tVar 4) (tVar 1)) [4]) tNil)) [some v, some (.int c), some v2, some v3, y] Hm (.bl ((ri.map fun x => decide (-2 ≤ x) && decide (x < c)).all id)) := by
            apply ev_all (K := K)
            rw [← range_all, ← List.length_map (f := PyData.int) (as := ri), ← givenD_all]
            refine ed_new (en_lc (ei_tup (K := K) (ds := ri.map .int) (ed_var rfl q2)) (by rw [List.length_map]; exact hln) (fun _ => true) _ ?_)
            rintro i2 σ2 Hk hi2 ek ⟨v4, d4, z1, z2, rfl⟩
            rw [List.length_map] at hi2
            rw [List.getElem?_map, List.getElem?_eq_getElem hi2] at z1
            cases z1
            cases z2
            refine ⟨rfl, et_yes, fun _ => ed_bool (ev_is (by walk_at "ev") ?_)⟩
            rw [List.getElem?_eq_getElem hi2]
            rfl
          apply go_when (b := !isRow c r0.length ri)
          · refine EvT.mono p1 (et_is (et_orB (et_test (ev_op hlen (hr0 (g.dx.trans (Ex.refl _) |> fun _ => em) rfl) (by walk_at "rv"))) (et_not (et_B hall))) ?_)
            unfold isRow
            simp [List.all_map, V.int.injEq, Bool.not_and]
          · intro e3
            have e4 : isRow c r0.length ri = false := by simpa using e3
            apply go_retE (k := fun H3 e5 => q H3 (p2.trans e5))
            · walk_at "ev"
            · rw [isV]
              have : (r0 :: rest).all (isRow c r0.length) = false := by
                rw [List.all_eq_false]
                exact ⟨ri, by rw [← hri]; exact List.getElem_mem hi, by rw [e4]; decide⟩
              rw [this]
          · intro e3
            have e4 : isRow c r0.length ri = true := by simpa using e3
            refine go_next fun H3 e5 => ⟨p1.trans e5, p2.trans e5, ?_, _, _, rfl⟩
            rw [List.take_add_one, List.getElem?_eq_getElem hi, List.all_append, p3, hri]
            simp [e4]
        · rintro Hm σ' H2 em ⟨p1, p2, p3, x, y, rfl⟩
          apply go_retE (k := fun H3 e5 => q H3 (p2.trans e5))
          · walk_at "ev"
          · rw [isV]
            rw [List.length_map, List.take_length] at p3
            rw [p3]

/-! ### the word of an error -/
def kindC (T : Tx K mg) : List Value := [.ref T.a_BadClock, .ref T.a_BadHour, .ref T.a_BadChart, .ref T.a_BadSquare, .ref T.a_BadRing, .ref T.a_BadBreaks, .ref T.a_BadPrices, .ref T.a_NoFill, .ref T.a_Unlike, .ref T.a_BadName, .ref T.a_Taken, .ref T.a_Full, .ref T.a_NoChart, .ref T.a_BadDay, .ref T.a_BadDeed, .ref T.a_NothingLeft, .ref T.a_Knotted, .ref T.a_BadText, .type "ValueError"]
def kindN (i : Nat) : Str := (["clock", "hour", "chart", "square", "ring", "breaks", "prices", "fill", "unlike", "name", "taken", "full", "none", "day", "deed", "left", "knotted", "text", "odd"] : List Str).getD i Str.empty
def kindF (f : Nat → Bool) (i : Nat) : Bool := if i = 18 then !f i else f i
def kindW (f : Nat → Bool) : Str := Txt.join " " (((List.range (18 + 1)).filter (kindF f)).map kindN)
def spKind (T : Tx K mg) (p : Addr × Obj) : Sp := fun vs H Q _ => ∃ (D : Addr) (f : Nat → Bool), vs = [.ref p.1] ∧ Zc (.ref D) none p.2 ∧ (∃ fs, p.2.data = .fields fs) ∧ ExcC K D ∧ (∀ i c, (kindC T)[i]? = some c → PySem.W.kitOne K (.ref D) c = some (f i)) ∧ ∀ H2, Ex H H2 → Q (.str (kindW f)) H2
def kindD (f : Nat → Bool) : List PyData := (List.range (18 + 1)).map fun i => .tuple [.str (kindN i), .bool (kindF f i)]
theorem kind_len (f : Nat → Bool) : ((((List.range (18 + 1)).filter (kindF f)).map kindN).map (·.length)).sum + (((List.range (18 + 1)).filter (kindF f)).map kindN).length * (Str.length " ") ≤ 16777216 := by
  have h1 : (((List.range (18 + 1)).filter (kindF f)).map kindN).length ≤ 18 + 1 := by
    rw [List.length_map]
    have h := List.length_filter_le (kindF f) (List.range (18 + 1))
    rw [List.length_range] at h
    exact h
  have h2 : ∀ i, (kindN i).length ≤ 20 := fun i => by
    by_cases h : i < 18 + 1
    · have all : ∀ j, j < 18 + 1 → (kindN j).length ≤ 20 := by decide +kernel
      exact all i h
    · have e : kindN i = Str.empty := by
        unfold kindN
        rw [List.getD_eq_getElem?_getD, List.getElem?_eq_none (by simp only [List.length_cons, List.length_nil]; omega)]
        rfl
      rw [e]
      decide
  have h3 : ∀ l : List Nat, ((l.map kindN).map (·.length)).sum ≤ 20 * l.length := fun l => by
    induction l with
    | nil => exact Nat.le_refl _
    | cons a l ih =>
      have := h2 a
      simp only [List.map_cons, List.sum_cons, List.length_cons]
      omega
  have h4 := h3 ((List.range (18 + 1)).filter (kindF f))
  have h5 : Str.length " " = 1 := by decide +kernel
  rw [List.length_map] at h1 ⊢
  rw [h5]
  omega
local macro_rules | `(tactic| walk_at "ev") => `(tactic| first
  | ((with_reducible apply ev_isX); walk_at "ev"; assumption)
  | ((with_reducible apply ev_isXT); walk_at "ev"; assumption))
theorem ev_kind {σ : L2.St} {Hd : Hp} {v : V} (f : Nat → Bool) (h1 : σ[1]? = some (some v)) (hd : Dp K Hd v (.list (kindD f))) (hl : σ.length = 4) : Ev (tM1 (rJo K) (tC (.str " ")) (tLc (iList K (tVar 1)) (g2 K 2 3) (tTest (tVar 3)) (tVar 2) [2, 3])) σ Hd (.str (kindW f)) := by
  refine ev_jo ev_c (ed_new ?_) (kind_len f)
  have key : ((List.range (18 + 1)).filter (kindF f)).map (fun i => PyData.str (kindN i)) = (((List.range (18 + 1)).filter (kindF f)).map kindN).map PyData.str := by rw [List.map_map]; rfl
  rw [← key]
  have n : (kindD f).length = 18 + 1 := by unfold kindD; rw [List.length_map, List.length_range]
  refine en_lc (n := 18 + 1) (S := SPair K 2 3 (fun i => if i < 18 + 1 then some (.str (kindN i)) else none) (fun i => if i < 18 + 1 then some (.bool (kindF f i)) else none)) ?_ (by decide) (kindF f) (fun i => .str (kindN i)) fun i σ2 Hn hi e hS => ?_
  · rw [← n]
    refine ei_pairs (ed_var h1 hd) fun i d e => ?_
    have hi : i < 18 + 1 := by rw [← n]; exact (List.getElem?_eq_some_iff.mp e).1
    unfold kindD at e
    rw [List.getElem?_map, List.getElem?_range hi] at e
    cases e
    exact ⟨_, _, rfl, if_pos hi, if_pos hi⟩
  · obtain ⟨v1, v2, d1, d2, q1, q2, p1, p2, rfl⟩ := hS
    dsimp only at q1 q2
    rw [if_pos hi] at q1 q2
    cases q1
    cases q2
    cases p1
    cases p2
    obtain ⟨x0, x1, x2, x3, rfl⟩ : ∃ x0 x1 x2 x3, σ = [x0, x1, x2, x3] := by
      match σ, hl with
      | [a, b, c, d], _ => exact ⟨a, b, c, d, rfl⟩
    refine ⟨rfl, et_test (ev_var rfl), fun _ => ed_var rfl (.str _)⟩
theorem ok_kind (T : Tx K mg) : FnP P w K mg base CX0 1 T.a_law_kind T.d_law_kind ["_law_e"] (spKind T) := by
  refine okP T.F_law_kind sc_law_kind (fun p vs H Q E h => ?_) (fun cdv p A outer s H vs Q E hot hr h => ?_)
  · obtain ⟨D, f, rfl, _⟩ := h
    rfl
  · obtain ⟨D, f, rfl, hz, hf, hD, hk, q⟩ := h
    have k0 := hk 0 _ rfl
    have k1 := hk 1 _ rfl
    have k2 := hk 2 _ rfl
    have k3 := hk 3 _ rfl
    have k4 := hk 4 _ rfl
    have k5 := hk 5 _ rfl
    have k6 := hk 6 _ rfl
    have k7 := hk 7 _ rfl
    have k8 := hk 8 _ rfl
    have k9 := hk 9 _ rfl
    have k10 := hk 10 _ rfl
    have k11 := hk 11 _ rfl
    have k12 := hk 12 _ rfl
    have k13 := hk 13 _ rfl
    have k14 := hk 14 _ rfl
    have k15 := hk 15 _ rfl
    have k16 := hk 16 _ rfl
    have k17 := hk 17 _ rfl
    have k18 := hk 18 _ rfl
    refine ⟨_, (pss_cons (ps_set (i := 1) sc_law_kind.nd rfl (.inl rfl) (pe_lst (pa_cons (pe_tup (pa_cons pe_str (pa_cons (pe_callB (r := rIsE K D p.1) (call_isP hD (List.mem_singleton_self p) hz hf) (by rfl) T.n_isinstance (by decide +kernel) (pa_cons (pv 0) (pa_cons (pe_glob (v := .ref T.a_BadClock) rfl T.x_BadClock.g rfl) pa_nil))) pa_nil))) (pa_cons (pe_tup (pa_cons pe_str (pa_cons (pe_callB (r := rIsE K D p.1) (call_isP hD (List.mem_singleton_self p) hz hf) (by rfl) T.n_isinstance (by decide +kernel) (pa_cons (pv 0) (pa_cons (pe_glob (v := .ref T.a_BadHour) rfl T.x_BadHour.g rfl) pa_nil))) pa_nil))) pa_nil))))
      (pss_cons (ps_set (i := 1) sc_law_kind.nd rfl (.inl rfl) (pe_op op_cat (pv 1) (pe_lst (pa_cons (pe_tup (pa_cons pe_str (pa_cons (pe_callB (r := rIsE K D p.1) (call_isP hD (List.mem_singleton_self p) hz hf) (by rfl) T.n_isinstance (by decide +kernel) (pa_cons (pv 0) (pa_cons (pe_glob (v := .ref T.a_BadChart) rfl T.x_BadChart.g rfl) pa_nil))) pa_nil))) (pa_cons (pe_tup (pa_cons pe_str (pa_cons (pe_callB (r := rIsE K D p.1) (call_isP hD (List.mem_singleton_self p) hz hf) (by rfl) T.n_isinstance (by decide +kernel) (pa_cons (pv 0) (pa_cons (pe_glob (v := .ref T.a_BadSquare) rfl T.x_BadSquare.g rfl) pa_nil))) pa_nil))) pa_nil)))))
      (pss_cons (ps_set (i := 1) sc_law_kind.nd rfl (.inl rfl) (pe_op op_cat (pv 1) (pe_lst (pa_cons (pe_tup (pa_cons pe_str (pa_cons (pe_callB (r := rIsE K D p.1) (call_isP hD (List.mem_singleton_self p) hz hf) (by rfl) T.n_isinstance (by decide +kernel) (pa_cons (pv 0) (pa_cons (pe_glob (v := .ref T.a_BadRing) rfl T.x_BadRing.g rfl) pa_nil))) pa_nil))) (pa_cons (pe_tup (pa_cons pe_str (pa_cons (pe_callB (r := rIsE K D p.1) (call_isP hD (List.mem_singleton_self p) hz hf) (by rfl) T.n_isinstance (by decide +kernel) (pa_cons (pv 0) (pa_cons (pe_glob (v := .ref T.a_BadBreaks) rfl T.x_BadBreaks.g rfl) pa_nil))) pa_nil))) pa_nil)))))
      (pss_cons (ps_set (i := 1) sc_law_kind.nd rfl (.inl rfl) (pe_op op_cat (pv 1) (pe_lst (pa_cons (pe_tup (pa_cons pe_str (pa_cons (pe_callB (r := rIsE K D p.1) (call_isP hD (List.mem_singleton_self p) hz hf) (by rfl) T.n_isinstance (by decide +kernel) (pa_cons (pv 0) (pa_cons (pe_glob (v := .ref T.a_BadPrices) rfl T.x_BadPrices.g rfl) pa_nil))) pa_nil))) (pa_cons (pe_tup (pa_cons pe_str (pa_cons (pe_callB (r := rIsE K D p.1) (call_isP hD (List.mem_singleton_self p) hz hf) (by rfl) T.n_isinstance (by decide +kernel) (pa_cons (pv 0) (pa_cons (pe_glob (v := .ref T.a_NoFill) rfl T.x_NoFill.g rfl) pa_nil))) pa_nil))) pa_nil)))))
      (pss_cons (ps_set (i := 1) sc_law_kind.nd rfl (.inl rfl) (pe_op op_cat (pv 1) (pe_lst (pa_cons (pe_tup (pa_cons pe_str (pa_cons (pe_callB (r := rIsE K D p.1) (call_isP hD (List.mem_singleton_self p) hz hf) (by rfl) T.n_isinstance (by decide +kernel) (pa_cons (pv 0) (pa_cons (pe_glob (v := .ref T.a_Unlike) rfl T.x_Unlike.g rfl) pa_nil))) pa_nil))) (pa_cons (pe_tup (pa_cons pe_str (pa_cons (pe_callB (r := rIsE K D p.1) (call_isP hD (List.mem_singleton_self p) hz hf) (by rfl) T.n_isinstance (by decide +kernel) (pa_cons (pv 0) (pa_cons (pe_glob (v := .ref T.a_BadName) rfl T.x_BadName.g rfl) pa_nil))) pa_nil))) pa_nil)))))
      (pss_cons (ps_set (i := 1) sc_law_kind.nd rfl (.inl rfl) (pe_op op_cat (pv 1) (pe_lst (pa_cons (pe_tup (pa_cons pe_str (pa_cons (pe_callB (r := rIsE K D p.1) (call_isP hD (List.mem_singleton_self p) hz hf) (by rfl) T.n_isinstance (by decide +kernel) (pa_cons (pv 0) (pa_cons (pe_glob (v := .ref T.a_Taken) rfl T.x_Taken.g rfl) pa_nil))) pa_nil))) (pa_cons (pe_tup (pa_cons pe_str (pa_cons (pe_callB (r := rIsE K D p.1) (call_isP hD (List.mem_singleton_self p) hz hf) (by rfl) T.n_isinstance (by decide +kernel) (pa_cons (pv 0) (pa_cons (pe_glob (v := .ref T.a_Full) rfl T.x_Full.g rfl) pa_nil))) pa_nil))) pa_nil)))))
      (pss_cons (ps_set (i := 1) sc_law_kind.nd rfl (.inl rfl) (pe_op op_cat (pv 1) (pe_lst (pa_cons (pe_tup (pa_cons pe_str (pa_cons (pe_callB (r := rIsE K D p.1) (call_isP hD (List.mem_singleton_self p) hz hf) (by rfl) T.n_isinstance (by decide +kernel) (pa_cons (pv 0) (pa_cons (pe_glob (v := .ref T.a_NoChart) rfl T.x_NoChart.g rfl) pa_nil))) pa_nil))) (pa_cons (pe_tup (pa_cons pe_str (pa_cons (pe_callB (r := rIsE K D p.1) (call_isP hD (List.mem_singleton_self p) hz hf) (by rfl) T.n_isinstance (by decide +kernel) (pa_cons (pv 0) (pa_cons (pe_glob (v := .ref T.a_BadDay) rfl T.x_BadDay.g rfl) pa_nil))) pa_nil))) pa_nil)))))
      (pss_cons (ps_set (i := 1) sc_law_kind.nd rfl (.inl rfl) (pe_op op_cat (pv 1) (pe_lst (pa_cons (pe_tup (pa_cons pe_str (pa_cons (pe_callB (r := rIsE K D p.1) (call_isP hD (List.mem_singleton_self p) hz hf) (by rfl) T.n_isinstance (by decide +kernel) (pa_cons (pv 0) (pa_cons (pe_glob (v := .ref T.a_BadDeed) rfl T.x_BadDeed.g rfl) pa_nil))) pa_nil))) (pa_cons (pe_tup (pa_cons pe_str (pa_cons (pe_callB (r := rIsE K D p.1) (call_isP hD (List.mem_singleton_self p) hz hf) (by rfl) T.n_isinstance (by decide +kernel) (pa_cons (pv 0) (pa_cons (pe_glob (v := .ref T.a_NothingLeft) rfl T.x_NothingLeft.g rfl) pa_nil))) pa_nil))) pa_nil)))))
      (pss_cons (ps_set (i := 1) sc_law_kind.nd rfl (.inl rfl) (pe_op op_cat (pv 1) (pe_lst (pa_cons (pe_tup (pa_cons pe_str (pa_cons (pe_callB (r := rIsE K D p.1) (call_isP hD (List.mem_singleton_self p) hz hf) (by rfl) T.n_isinstance (by decide +kernel) (pa_cons (pv 0) (pa_cons (pe_glob (v := .ref T.a_Knotted) rfl T.x_Knotted.g rfl) pa_nil))) pa_nil))) (pa_cons (pe_tup (pa_cons pe_str (pa_cons (pe_callB (r := rIsE K D p.1) (call_isP hD (List.mem_singleton_self p) hz hf) (by rfl) T.n_isinstance (by decide +kernel) (pa_cons (pv 0) (pa_cons (pe_glob (v := .ref T.a_BadText) rfl T.x_BadText.g rfl) pa_nil))) pa_nil))) pa_nil)))))
      (pss_cons (ps_expr (pe_bm PySem.F.plainAttrs_list PySem.F.slot_list_append PySem.F.type_list_append mt_append (pv 1) (pa_cons (pe_tup (pa_cons pe_str (pa_cons (pe_not (pe_callB (r := rIsE K D p.1) (call_isP hD (List.mem_singleton_self p) hz hf) (by rfl) T.n_isinstance (by decide +kernel) (pa_cons (pv 0) (pa_cons (pe_bltn (v := .ty "ValueError") (by rfl) T.n_ValueError (by decide +kernel) rfl) pa_nil)))) pa_nil))) pa_nil)))
      (pss_cons (ps_ret (pe_jo pe_str (pe_lcH (own := [("_law_name", 2), ("_law_so", 3)]) (g := (gTup K 2 (gCons (gName 2) (gCons (gName 3) gNil)))) ⟨p, hot, List.mem_singleton_self p⟩ sc_law_kind.nd (pv 1) (blkOk_by (own := [("_law_name", 2), ("_law_so", 3)]) (N := N_law_kind) (sc := defScope s_law_kind) (by decide +kernel)) (fun _ _ _ _ _ hI => (pg_tupH hI (pgs_cons (pg_name (i := 2) sc_law_kind.nd rfl (.inl rfl) (hf := .inr rfl)) (pgs_cons (pg_name (i := 3) sc_law_kind.nd rfl (.inl rfl) (hf := .inr rfl)) pgs_nil)))) (fun _ _ _ _ _ => (pts_one (pt_val (pv 3)))) (fun _ _ _ _ _ => (pv 2)))))
      pss_nil))))))))))), Go.go ?_⟩
    refine go_asgN (K := K) (Hd := H) (Ex.refl _) (by walk_at "en") fun p1 xs1 H1 Hn1 g1 f1 n1 l1 d1 => ?_
    refine go_asgN (K := K) (Hd := upd Hn1 p1 (.lst xs1)) (ex_add g1.sub l1) (en_cat (em_ref (ev_var rfl) upd_same (dpa_mono (Ex.new n1) _ d1)) (em_new (by walk_at "en")) (by simp only [List.length_cons, List.length_append, List.length_nil]; decide)) fun p2 xs2 H2 Hn2 g2 f2 n2 l2 d2 => ?_
    refine go_asgN (K := K) (Hd := upd Hn2 p2 (.lst xs2)) (ex_add g2.sub l2) (en_cat (em_ref (ev_var rfl) upd_same (dpa_mono (Ex.new n2) _ d2)) (em_new (by walk_at "en")) (by simp only [List.length_cons, List.length_append, List.length_nil]; decide)) fun p3 xs3 H3 Hn3 g3 f3 n3 l3 d3 => ?_
    refine go_asgN (K := K) (Hd := upd Hn3 p3 (.lst xs3)) (ex_add g3.sub l3) (en_cat (em_ref (ev_var rfl) upd_same (dpa_mono (Ex.new n3) _ d3)) (em_new (by walk_at "en")) (by simp only [List.length_cons, List.length_append, List.length_nil]; decide)) fun p4 xs4 H4 Hn4 g4 f4 n4 l4 d4 => ?_
    refine go_asgN (K := K) (Hd := upd Hn4 p4 (.lst xs4)) (ex_add g4.sub l4) (en_cat (em_ref (ev_var rfl) upd_same (dpa_mono (Ex.new n4) _ d4)) (em_new (by walk_at "en")) (by simp only [List.length_cons, List.length_append, List.length_nil]; decide)) fun p5 xs5 H5 Hn5 g5 f5 n5 l5 d5 => ?_
    refine go_asgN (K := K) (Hd := upd Hn5 p5 (.lst xs5)) (ex_add g5.sub l5) (en_cat (em_ref (ev_var rfl) upd_same (dpa_mono (Ex.new n5) _ d5)) (em_new (by walk_at "en")) (by simp only [List.length_cons, List.length_append, List.length_nil]; decide)) fun p6 xs6 H6 Hn6 g6 f6 n6 l6 d6 => ?_
    refine go_asgN (K := K) (Hd := upd Hn6 p6 (.lst xs6)) (ex_add g6.sub l6) (en_cat (em_ref (ev_var rfl) upd_same (dpa_mono (Ex.new n6) _ d6)) (em_new (by walk_at "en")) (by simp only [List.length_cons, List.length_append, List.length_nil]; decide)) fun p7 xs7 H7 Hn7 g7 f7 n7 l7 d7 => ?_
    refine go_asgN (K := K) (Hd := upd Hn7 p7 (.lst xs7)) (ex_add g7.sub l7) (en_cat (em_ref (ev_var rfl) upd_same (dpa_mono (Ex.new n7) _ d7)) (em_new (by walk_at "en")) (by simp only [List.length_cons, List.length_append, List.length_nil]; decide)) fun p8 xs8 H8 Hn8 g8 f8 n8 l8 d8 => ?_
    refine go_asgN (K := K) (Hd := upd Hn8 p8 (.lst xs8)) (ex_add g8.sub l8) (en_cat (em_ref (ev_var rfl) upd_same (dpa_mono (Ex.new n8) _ d8)) (em_new (by walk_at "en")) (by simp only [List.length_cons, List.length_append, List.length_nil]; decide)) fun p9 xs9 H9 Hn9 g9 f9 n9 l9 d9 => ?_
    refine go_appD (K := K) (Hd := Hn9) g9.sub l9 (ev_var rfl) (by walk_at "ed") (by rw [dpa_len d9]; simp only [List.length_cons, List.length_append, List.length_nil]; decide) fun v Ha Hb g hv => ?_
    have np : Hb p9 = none := g.fr _ _ l9 n9
    have all : Ex H H9 := ((((((((g1.ex.trans g2.ex).trans g3.ex).trans g4.ex).trans g5.ex).trans g6.ex).trans g7.ex).trans g8.ex).trans g9.ex)
    have fresh : H p9 = none := fresh_back (((((((g1.ex.trans g2.ex).trans g3.ex).trans g4.ex).trans g5.ex).trans g6.ex).trans g7.ex).trans g8.ex) f9
    have up : Ex H (upd Ha p9 (.lst (xs9 ++ [v]))) := Ex.mut (all.trans g.ex) fresh
    have dd := dpa_app (dpa_mono (g.dx.trans (Ex.new np)) _ d9) (.cons (dp_mono (Ex.new (o := .lst (xs9 ++ [v])) np) _ hv) .nil)
    refine go_retV (v := .str (kindW f)) ((ev_kind (K := K) f rfl (.lst (sq_of upd_same) dd) rfl).mono (ex_upd2 g.sub)) fun H2 e => q H2 (up.trans e)

open LamX in
/-- what _law_word makes of what it was handed -/
def TTw (T : Tx K mg) (tl : XK → Hp → VK → Prop) (H : Hp) (Q : VK) : Prop :=
  tl (fun cls d H1 => ∃ (D : Addr) (f : Nat → Bool), cls = .ref D ∧ d = none ∧ ExcC K D ∧ PySem.W.exmOne K (.ref D) (.ref T.a_TideError) = some true ∧ (∀ i c, (kindC T)[i]? = some c → PySem.W.kitOne K (.ref D) c = some (f i)) ∧ ∀ H2, Ex H1 H2 → Q (.str (kindW f)) H2) H
    (fun _ H1 => Q (.str "") H1)
open LamX in
theorem word_gives {X : Cx} (T : Tx X.K X.mg) {cdg : Value} {q : Str} {k : Nat} (hk : 1 ≤ k + 1) : GivesN X N_law_word "_law_word" (defScope s_law_word) T.a_law_word cdg (defBody s_law_word) "_law_ask" q k (TTw T) := by
  intro f c' s H Q tl hroom act hc h
  refine ⟨_, pss_cons (L2N.ps_try_as (X := (cxOf C8.CX0 X.prog X.w X.K X.mg X.base N_law_word "_law_word" (defScope s_law_word) T.a_law_word cdg X.A X.stack s H C8.E0).nox) (i := 1) (c := .ref T.a_TideError) (Wout := fun _ _ _ _ => False)
      (tb := fun W D σ H => ∃ Ech : XK, (∀ cls d σ1 H1, Ech cls d H1 → W cls d σ1 H1) ∧ σ[0]? = some (some (.ref f)) ∧ H c' = some (CodeO c' q) ∧ tl Ech H (fun _ H1 => D.nx σ H1))
      (ts := fun a cls d D σ H => ∃ (Dd : Addr) (g : Nat → Bool), cls = .ref Dd ∧ d = none ∧ ExcC X.K Dd ∧ (∀ i c, (kindC T)[i]? = some c → PySem.W.kitOne X.K (.ref Dd) c = some (g i)) ∧ (σ.length = 2 → σ[1]? = some (some (.ref a))) ∧ ∀ H2, Ex H H2 → D.rt (.str (kindW g)) H2)
      rfl rfl sc_law_word.nd rfl rfl ⟨rfl, by decide, .inl T.x_TideError.g⟩ (fun u s' z => ?tk) (fun W pn xe tk _ => ?body) (fun a oe cls d pn hz hf => ?suite)) (pss_cons (ps_ret pe_str) pss_nil), ?fin⟩
  case tk =>
    obtain ⟨_, _, _, _, _, _, _, _, _, _, _, _, _, _, _, _, z⟩ := z
    exact z.elim
  case body =>
    refine ⟨fun pins s1 σ H1 D I want => ?_⟩
    obtain ⟨Ech, hW, h1, h2, h3⟩ := want
    exact (pss_cons (ps_expr (act W pn xe Ech _ _ tk hW)) pss_nil).run pins s1 σ H1 D I ⟨h1, h2, h3⟩
  case suite =>
    refine ⟨fun pins s1 σ H1 D I want => ?_⟩
    obtain ⟨Dd, g, rfl, rfl, hD, hkd, hs, hq⟩ := want
    obtain ⟨vs, hv⟩ := hf
    exact (pss_cons (ps_ret (pe_callP (X := (cxOf C8.CX0 X.prog X.w X.K X.mg X.base N_law_word "_law_word" (defScope s_law_word) T.a_law_word cdg X.A X.stack s H C8.E0).nox.suite a ((a, oe) :: pn)) (p := (a, oe)) (x := "_law_kind") (E := fun _ _ _ _ => False) (ok_kind T) ⟨(hroom.mono hk).dp, (hroom.mono hk).un⟩ ⟨rfl, vs, hv, hz.2.2 vs hv⟩ List.mem_cons_self (by rfl) T.g_law_kind T.F_law_kind.kp T.b_law_kind (fun _ _ _ _ _ _ _ z => z.elim) (pa_cons (pv 1) pa_nil))) pss_nil).run pins s1 σ H1 D I ⟨_, hs I.len, Dd, g, rfl, hz.zc, ⟨vs, hv⟩, hD, hkd, hq⟩
  case fin =>
    refine ⟨_, fun cls d σ1 H1 he => ?_, rfl, hc, h⟩
    obtain ⟨D, g, rfl, rfl, hD, hm, hkd, hq⟩ := he
    exact ⟨true, hm, fun _ a ha => ⟨D, g, rfl, rfl, hD, hkd, fun e => by rw [List.length_set] at e; rw [List.getElem?_set_self (by rw [e]; decide)], hq⟩, fun z => nomatch z⟩

open LamX in
theorem pe_law_word {X : Cx} (T : Tx X.K X.mg) {c Pt : Addr} {k : Nat} {params : Arguments} {body : Expr} {scope : Scope} {t : XK → TE} {p lpos pos : Pos} (TB : TabB X.base X.mg c Pt) (hcode : X.env.code = .ref c) (hr : Room (k + 2) X.A) (hk : 1 ≤ k + 1) (hg : Gl X "_law_word")
    (L : LamS X.env.scope scope) (hdef : defaultsOf params X.env = ([], [])) (bnd : ∀ (q : Str) (cl : List (Str × Addr)) (pm cv ctv : Value), bindArgs (PySem.W.kla_fn "<lambda>" q params body scope cl pm cv ctv) ⟨[], []⟩ = pure [])
    (hb : ∀ (A : Around) (outer : List Env) (s : Shared) (H : Hp) (E : XK) (f c' : Addr), Room k (A.deeper (lamEnv X scope s.heap.objs.size f c')) → PE (lamN X A outer s H E scope f c') body (t E)) :
    PE X (.Call (.Name "_law_word" p) [.Lambda params body scope lpos] [] pos) (tLam [(Pt, X.env.qual ++ "<lambda>")] (TTw T) t) := by
  obtain ⟨oc, od, kV, doc, pm, an, cdv, ct, osl, e, lk, hcd⟩ := T.F_law_word.ex
  have bd := T.b_law_word
  rw [e] at bd lk
  refine pe_lamN hg T.g_law_word T.F_law_word.kp lk hcd bd sc_law_word rfl (.inl rfl) (word_gives T hk) TB hcode List.mem_cons_self (fun q hq _ => ?_) hr L hdef bnd hb
  cases hq with
  | head => rfl
  | tail _ h => cases h
/-- a class whose errors have this word -/
def Known (T : Tx K mg) (wd : Str) (C : Addr) : Prop := ExcC K C ∧ PySem.W.exmOne K (.ref C) (.ref T.a_TideError) = some true ∧ ∃ f : Nat → Bool, (∀ i c, (kindC T)[i]? = some c → PySem.W.kitOne K (.ref C) c = some (f i)) ∧ kindW f = wd
open LamX in
theorem word_run (T : Tx K mg) {Tt : List (Addr × Str)} {t : XK → TE} {σ : L2.St} {H : Hp} {Q : VK} {wd : Str} (ht : Tabs Tt H)
    (hb : ∀ H1, ExtN H H1 → ∀ (E : XK) (Q1 : VK), (wd = "" → ∀ v H2, Ex H1 H2 → Q1 v H2) → (∀ C, Known T wd C → ∀ H2, Ex H1 H2 → E (.ref C) none H2) → t E σ H1 Q1)
    (k : ∀ H2, ExtN H H2 → Tabs Tt H2 → Q (.str wd) H2) : tLam Tt (TTw T) t σ H Q := by
  refine ⟨ht, fun H1 e1 t1 => hb H1 e1 _ _ (fun z v H2 e2 => ?_) fun C hC H2 e2 => ?_⟩
  · rw [← z]
    exact k H2 (e1.trans (ExtN.of e2)) (t1.ext e2)
  · obtain ⟨h1, h2, f, h3, rfl⟩ := hC
    exact ⟨C, f, rfl, rfl, h1, h2, h3, fun H3 e3 => k H3 ((e1.trans (ExtN.of e2)).trans (ExtN.of e3)) ((t1.ext e2).ext e3)⟩

open LamX in
/-- what a lambda's body must do, that the word is wd -/
def WordB (T : Tx K mg) (t : XK → TE) (σ : L2.St) (H : Hp) (wd : Str) : Prop := ∀ H1, ExtN H H1 → ∀ (E : XK) (Q1 : VK), (wd = "" → ∀ v H2, Ex H1 H2 → Q1 v H2) → (∀ C, Known T wd C → ∀ H2, Ex H1 H2 → E (.ref C) none H2) → t E σ H1 Q1
open LamX in
theorem go_asgW (T : Tx K mg) {Tt : List (Addr × Str)} {t : XK → TE} {σ : L2.St} {H : Hp} {wd : Str} {tz : TS} {D : Ends} {i : Nat} (ht : Tabs Tt H) (hb : WordB T t σ H wd)
    (k : ∀ p H1, ExtN H H1 → Tabs Tt H1 → H1 p = none → Go tz D (σ.set i (some (.ref p))) (upd H1 p (.lst [.str wd]))) : Go (tSeq (tAsg (tLst (tCons (tLam Tt (TTw T) t) tNil)) (gName i)) tz) D σ H := fun H0 e0 =>
  word_run T (ht.ext e0) (fun H1 e1 => hb H1 ((ExtN.of e0).trans e1)) fun H1 e1 t1 => ⟨by show 1 ≤ sizeLine; decide, fun p hp => k p H1 ((ExtN.of e0).trans e1) t1 hp _ (Ex.refl _)⟩
open LamX in
theorem go_appW (T : Tx K mg) {Tt : List (Addr × Str)} {t : XK → TE} {σ : L2.St} {H : Hp} {wd : Str} {tz : TS} {D : Ends} {ta : TE} {l : Addr} {xs : List V} (hl : H l = some (.lst xs)) (ha : Ev ta σ H (.ref l)) (hz : xs.length < 100000) (ht : Tabs Tt H) (hb : WordB T t σ H wd)
    (k : ∀ H1, ExtN H H1 → Tabs Tt H1 → Go tz D σ (upd H1 l (.lst (xs ++ [.str wd])))) : Go (tSeq (tDrop (tBM K "list" rAppend ta (tCons (tLam Tt (TTw T) t) tNil))) tz) D σ H := fun H0 e0 =>
  ha H0 e0 _ fun H2 e2 => ⟨Or.inl ⟨rfl, xs, sq_of ((e0.trans e2) _ _ hl)⟩, word_run T (ht.ext (e0.trans e2)) (fun H1 e1 => hb H1 ((ExtN.of (e0.trans e2)).trans e1)) fun H1 e1 t1 =>
    ⟨l, xs, .str wd, rfl, rfl, lst_extN ((e0.trans e2) _ _ hl) e1, sz_lt hz, k H1 ((ExtN.of (e0.trans e2)).trans e1) t1 _ (Ex.refl _)⟩⟩
/-! ### patches refused -/
theorem known_sq (T : Tx K mg) : Known T "square" T.a_BadSquare := ⟨T.e_BadSquare, T.m_BadSquare, _, T.k_BadSquare.get, by decide +kernel⟩
def inW (h w : Nat) (t l n m : Int) : Bool := decide (1 ≤ n) && decide (1 ≤ m) && decide (0 ≤ t) && decide (0 ≤ l) && decide (t + n ≤ (h : Int)) && decide (l + m ≤ (w : Int))
theorem inW_iff {h w : Nat} {t l n m : Int} : inW h w t l n m = true ↔ (1 ≤ n ∧ 1 ≤ m ∧ 0 ≤ t ∧ 0 ≤ l ∧ t + n ≤ (h : Int) ∧ l + m ≤ (w : Int)) := by
  unfold inW
  simp only [Bool.and_eq_true, decide_eq_true_eq, and_assoc]
theorem inW_not {h w : Nat} {t l n m : Int} : (decide (n < 1) || (decide (m < 1) || (decide (t < 0) || (decide (l < 0) || (decide (t + n > (h : Int)) || decide (l + m > (w : Int))))))) = !inW h w t l n m := by
  cases e : inW h w t l n m with
  | true =>
    obtain ⟨a1, a2, a3, a4, a5, a6⟩ := inW_iff.mp e
    rw [decide_eq_false (show ¬ n < 1 by omega), decide_eq_false (show ¬ m < 1 by omega), decide_eq_false (show ¬ t < 0 by omega), decide_eq_false (show ¬ l < 0 by omega), decide_eq_false (show ¬ t + n > (h : Int) by omega), decide_eq_false (show ¬ l + m > (w : Int) by omega)]
    rfl
  | false =>
    have hn : ¬ (1 ≤ n ∧ 1 ≤ m ∧ 0 ≤ t ∧ 0 ≤ l ∧ t + n ≤ (h : Int) ∧ l + m ≤ (w : Int)) := fun z => by
      rw [inW_iff.mpr z] at e
      cases e
    have : n < 1 ∨ m < 1 ∨ t < 0 ∨ l < 0 ∨ t + n > (h : Int) ∨ l + m > (w : Int) := by omega
    rcases this with z | z | z | z | z | z <;> simp [z]
def RXW (ds : List PyData) (d : PyData) : Prop := ∃ c h w f t l n m, ds = [dChart c (tab h w f), .int t, .int l, .int n, .int m] ∧ GoodT c h w f ∧ inW h w t l n m = true ∧ d = .none
def XXW (T : Tx K mg) (ds : List PyData) (C : Addr) : Prop := ∃ c h w f t l n m, ds = [dChart c (tab h w f), .int t, .int l, .int n, .int m] ∧ GoodT c h w f ∧ inW h w t l n m = false ∧ C = T.a_BadSquare
theorem okX_need_within (T : Tx K mg) : FnOk P w K mg base (L2N.CX P w) 6 T.a_need_within T.d_need_within ["chart", "top", "left", "high", "wide"] (spX K RXW (XXW T)) := by
  refine okN T.F_need_within sc_need_within (fun vs H Q E h => ?_) (fun cdv A outer s H vs Q E hr h => ?_)
  · obtain ⟨Hd, ds, e, hd, ⟨d, ⟨c, hh, ww, f, t, l, n, m, rfl, _⟩, _⟩ | ⟨C, ⟨c, hh, ww, f, t, l, n, m, rfl, _⟩, _⟩⟩ := h <;> exact dpa_len hd
  · obtain ⟨Hd, ds, e, hd, h⟩ := h
    have key : ∃ c hh ww f t l n m, ds = [dChart c (tab hh ww f), .int t, .int l, .int n, .int m] ∧ GoodT c hh ww f ∧ (inW hh ww t l n m = true → ∀ H2, Ex H H2 → Q .non H2) ∧ (inW hh ww t l n m = false → ∀ H2, Ex H H2 → E (.ref T.a_BadSquare) none H2) := by
      rcases h with ⟨d, ⟨c, hh, ww, f, t, l, n, m, rfl, g, hi, rfl⟩, q⟩ | ⟨C, ⟨c, hh, ww, f, t, l, n, m, rfl, g, hi, rfl⟩, q⟩
      · exact ⟨c, hh, ww, f, t, l, n, m, rfl, g, fun _ H2 e2 => q .non H2 Hd (Gr.ext e e2) .non, fun z => absurd (hi.symm.trans z) (by decide)⟩
      · exact ⟨c, hh, ww, f, t, l, n, m, rfl, g, fun z => absurd (hi.symm.trans z) (by decide), fun _ => q⟩
    obtain ⟨c, hh, ww, f, t, l, n, m, rfl, g, good, bad⟩ := key
    cases hd with
    | @cons v1 _ _ _ d1 h2 =>
    have ei := dpa_ints_inv (ns := [t, l, n, m]) h2
    subst ei
    refine ⟨_, (pss_cons (ps_asg (pe_call (ok_size (P := P) (w := w) T) (hr.mono (by omega)) (by rfl) T.g_size T.F_size.kp T.b_size .nil pass0 (pa_cons (pv 0) pa_nil)) (pg_tup rfl (pgs_cons (pg_name (i := 5) sc_need_within.nd rfl (.inl rfl)) (pgs_cons (pg_name (i := 6) sc_need_within.nd rfl (.inl rfl)) pgs_nil))))
      (pss_cons (ps_if (PW.pt (pw_or (pt_cmpR op_lt (pv 3) pe_int (nomark _)) (pw_or (pt_cmpR op_lt (pv 4) pe_int (nomark _)) (pw_or (pt_cmpR op_lt (pv 1) pe_int (nomark _)) (pw_or (pt_cmpR op_lt (pv 2) pe_int (nomark _)) (pw_or (pt_cmpR op_gt (pe_op op_add (pv 1) (pv 3)) (pv 5) (nomark _)) (pw_or1 (pt_cmpR op_gt (pe_op op_add (pv 2) (pv 4)) (pv 6) (nomark _))))))))) (pss_cons (L2N.ps_raise rfl (L2N.takes_of rfl rfl rfl rfl) (T.X_BadSquare.pmk (by rfl)))
      pss_nil) pss_nil)
      pss_nil)), Go.go ?_⟩
    refine go_two (K := K) e (ed_call (eda_cons (ed_var rfl d1) eda_nil) ⟨c, _, rfl, g.chart, g.rect, rfl⟩) fun u1 u2 H1 D1 g1 k1 k2 => ?_
    rw [tab_len] at k1
    rw [g.wide] at k2
    cases k1
    cases k2
    cases hi : inW hh ww t l n m with
    | true => exact go_whenF (et_is (by walk_at "et") (by rw [inW_not, hi]; rfl)) (go_next fun H2 e2 => good hi H2 (g1.ex.trans e2))
    | false => exact go_whenT (et_is (by walk_at "et") (by rw [inW_not, hi]; rfl)) (go_raise fun H3 e3 => bad hi H3 (g1.ex.trans e3))
def RXC (ds : List PyData) (d : PyData) : Prop := ∃ c h w f t l n m, ds = [dChart c (tab h w f), .int t, .int l, .int n, .int m] ∧ GoodT c h w f ∧ inW h w t l n m = true ∧ d = dChart c (tab n.toNat m.toNat (cutF t.toNat l.toNat f))
theorem okX_cut (T : Tx K mg) : FnOk P w K mg base (L2N.CX P w) 7 T.a_cut T.d_cut ["chart", "top", "left", "rows", "columns"] (spX K RXC (XXW T)) := by
  refine okN T.F_cut sc_cut (fun vs H Q E h => ?_) (fun cdv A outer s H vs Q E hr h => ?_)
  · obtain ⟨Hd, ds, e, hd, ⟨d, ⟨c, hh, ww, f, t, l, n, m, rfl, _⟩, _⟩ | ⟨C, ⟨c, hh, ww, f, t, l, n, m, rfl, _⟩, _⟩⟩ := h <;> exact dpa_len hd
  · obtain ⟨Hd, ds, e, hd, ⟨d, ⟨c, hh, ww, f, t', l', n', m', rfl, g, hi, rfl⟩, q⟩ | ⟨C, ⟨c, hh, ww, f, t, l, n, m, rfl, g, hi, rfl⟩, q⟩⟩ := h
    · have hb' := inW_iff.mp hi
      obtain ⟨t, rfl⟩ := Int.eq_ofNat_of_zero_le hb'.2.2.1
      obtain ⟨l, rfl⟩ := Int.eq_ofNat_of_zero_le hb'.2.2.2.1
      obtain ⟨n, rfl⟩ := Int.eq_ofNat_of_zero_le (show 0 ≤ n' by omega)
      obtain ⟨m, rfl⟩ := Int.eq_ofNat_of_zero_le (show 0 ≤ m' by omega)
      rw [Int.toNat_natCast, Int.toNat_natCast, Int.toNat_natCast, Int.toNat_natCast] at q
      have tn : t + n ≤ hh := by omega
      have lm : l + m ≤ ww := by omega
      cases hd with
      | @cons v1 _ _ _ d1 h2 =>
      have ei := dpa_ints_inv (ns := [(t : Int), (l : Int), (n : Int), (m : Int)]) h2
      subst ei
      have h9 := g.h9
      refine ⟨_, (pss_cons (ps_expr (pe_call (okX_need_within T) (hr.mono (by omega)) (by rfl) T.g_need_within T.F_need_within.kp T.b_need_within .nil (L2N.passes_call (L2N.takes_of rfl rfl rfl rfl) (fun _ _ _ _ h => h)) (pa_cons (pv 0) (pa_cons (pv 1) (pa_cons (pv 2) (pa_cons (pv 3) (pa_cons (pv 4) pa_nil)))))))
      (pss_cons (ps_ret (pe_tup (pa_cons (pe_ix (r := rIxT K) ix_tup (pv 0) pe_int (fun _ _ => rfl)) (pa_cons (pe_callTy (r := rTupS K) call_tupleQ (by rfl) T.n_tuple (by decide +kernel) (pa_cons (pe_lc (own := [("row", 5)]) (g := (gName 5)) (by rfl) sc_cut.nd (pi_tup (pe_slice (r := rSlA K) sl_tupA (pe_ix (r := rIxT K) ix_tup (pv 0) pe_int (fun _ _ => rfl)) (po_some (pv 1)) (po_some (pe_op op_add (pv 1) (pv 3))))) (blkOk_by (own := [("row", 5)]) (N := N_cut) (sc := defScope s_cut) (by decide +kernel)) (fun _ _ _ _ _ => (pg_name (i := 5) sc_cut.nd rfl (.inl rfl) (hf := .inr rfl))) (fun _ _ _ _ _ => pts_nil) (fun _ _ _ _ _ => (pe_slice (r := rSlA K) sl_tupA (pv 5) (po_some (pv 2)) (po_some (pe_op op_add (pv 2) (pv 4)))))) pa_nil)) pa_nil))))
      pss_nil)), Go.go ?_⟩
      refine go_dropOk (K := K) e (eda_cons (ed_var rfl d1) (eda_cons (ed_int (ev_var rfl)) (eda_cons (ed_int (ev_var rfl)) (eda_cons (ed_int (ev_var rfl)) (eda_cons (ed_int (ev_var rfl)) eda_nil))))) ⟨c, hh, ww, f, _, _, _, _, rfl, g, hi, rfl⟩ fun v H2 D2 g2 hv => ?_
      have d1' := dp_mono g2.dx _ d1
      refine go_ret (K := K) g2.sub (ed_tup (eda_cons (ed_ixT (ed_var rfl d1') ev_c rfl) (eda_cons (ed_tupleL (ed_new (ds := (tab n m (cutF t l f)).map dRow) ?_)) eda_nil)) (by simp)) fun v H3 D3 g3 hv => q v H3 D3 (g2.trans g3) hv
      rw [tab_given]
      refine en_rows (slc_rows (ed_ixT (ed_var rfl d1') ev_c rfl) (ev_var rfl) (by walk_at "ev") tn) (by omega) ?_
      intro i u Hn hi ex du
      exact ⟨rfl, slc_row (ed_var rfl du) (ev_var rfl) (by walk_at "ev") lm⟩
    · cases hd with
      | @cons v1 _ _ _ d1 h2 =>
      have ei := dpa_ints_inv (ns := [t, l, n, m]) h2
      subst ei
      refine ⟨_, (pss_cons (ps_expr (pe_call (okX_need_within T) (hr.mono (by omega)) (by rfl) T.g_need_within T.F_need_within.kp T.b_need_within .nil (L2N.passes_call (L2N.takes_of rfl rfl rfl rfl) (fun _ _ _ _ h => h)) (pa_cons (pv 0) (pa_cons (pv 1) (pa_cons (pv 2) (pa_cons (pv 3) (pa_cons (pv 4) pa_nil)))))))
      (pss_cons (ps_ret (pe_tup (pa_cons (pe_ix (r := rIxT K) ix_tup (pv 0) pe_int (fun _ _ => rfl)) (pa_cons (pe_callTy (r := rTupS K) call_tupleQ (by rfl) T.n_tuple (by decide +kernel) (pa_cons (pe_lc (own := [("row", 5)]) (g := (gName 5)) (by rfl) sc_cut.nd (pi_tup (pe_slice (r := rSlA K) sl_tupA (pe_ix (r := rIxT K) ix_tup (pv 0) pe_int (fun _ _ => rfl)) (po_some (pv 1)) (po_some (pe_op op_add (pv 1) (pv 3))))) (blkOk_by (own := [("row", 5)]) (N := N_cut) (sc := defScope s_cut) (by decide +kernel)) (fun _ _ _ _ _ => (pg_name (i := 5) sc_cut.nd rfl (.inl rfl) (hf := .inr rfl))) (fun _ _ _ _ _ => pts_nil) (fun _ _ _ _ _ => (pe_slice (r := rSlA K) sl_tupA (pv 5) (po_some (pv 2)) (po_some (pe_op op_add (pv 2) (pv 4)))))) pa_nil)) pa_nil))))
      pss_nil)), Go.go ?_⟩
      exact go_dropNo (K := K) e (eda_cons (ed_var rfl d1) (eda_cons (ed_int (ev_var rfl)) (eda_cons (ed_int (ev_var rfl)) (eda_cons (ed_int (ev_var rfl)) (eda_cons (ed_int (ev_var rfl)) eda_nil))))) ⟨c, hh, ww, f, _, _, _, _, rfl, g, hi, rfl⟩ q
theorem known_un (T : Tx K mg) : Known T "unlike" T.a_Unlike := ⟨T.e_Unlike, T.m_Unlike, _, T.k_Unlike.get, by decide +kernel⟩
def RXF (ds : List PyData) (d : PyData) : Prop := ∃ (c : Int) (h w : Nat) (f : Nat → Nat → Int) (n m : Nat) (g : Nat → Nat → Int) (t l : Int), ds = [dChart c (tab h w f), dChart c (tab n m g), .int t, .int l] ∧ GoodT c h w f ∧ GoodT c n m g ∧ inW h w t l n m = true ∧ d = .none
def XXF (T : Tx K mg) (ds : List PyData) (C : Addr) : Prop := ∃ (c c' : Int) (h w : Nat) (f : Nat → Nat → Int) (n m : Nat) (g : Nat → Nat → Int) (t l : Int), ds = [dChart c (tab h w f), dChart c' (tab n m g), .int t, .int l] ∧ GoodT c h w f ∧ GoodT c' n m g ∧ ((c ≠ c' ∧ C = T.a_Unlike) ∨ (c = c' ∧ inW h w t l n m = false ∧ C = T.a_BadSquare))
theorem okX_need_fit (T : Tx K mg) : FnOk P w K mg base (L2N.CX P w) 7 T.a_need_fit T.d_need_fit ["chart", "patch", "top", "left"] (spX K RXF (XXF T)) := by
  refine okN T.F_need_fit sc_need_fit (fun vs H Q E h => ?_) (fun cdv A outer s H vs Q E hr h => ?_)
  · obtain ⟨Hd, ds, e, hd, ⟨d, ⟨c, hh, ww, f, n, m, g, t, l, rfl, _⟩, _⟩ | ⟨C, ⟨c, c', hh, ww, f, n, m, g, t, l, rfl, _⟩, _⟩⟩ := h <;> exact dpa_len hd
  · obtain ⟨Hd, ds, e, hd, h⟩ := h
    have key : ∃ (c c' : Int) (hh ww : Nat) (f : Nat → Nat → Int) (n m : Nat) (g : Nat → Nat → Int) (t l : Int), ds = [dChart c (tab hh ww f), dChart c' (tab n m g), .int t, .int l] ∧ GoodT c hh ww f ∧ GoodT c' n m g ∧ (c = c' → inW hh ww t l n m = true → ∀ H2, Ex H H2 → Q .non H2) ∧ (c ≠ c' → ∀ H2, Ex H H2 → E (.ref T.a_Unlike) none H2) ∧ (c = c' → inW hh ww t l n m = false → ∀ H2, Ex H H2 → E (.ref T.a_BadSquare) none H2) := by
      rcases h with ⟨d, ⟨c, hh, ww, f, n, m, g, t, l, rfl, gf, gg, hi, rfl⟩, q⟩ | ⟨C, ⟨c, c', hh, ww, f, n, m, g, t, l, rfl, gf, gg, ⟨hne, rfl⟩ | ⟨heq, hi, rfl⟩⟩, q⟩
      · exact ⟨c, c, hh, ww, f, n, m, g, t, l, rfl, gf, gg, fun _ _ H2 e2 => q .non H2 Hd (Gr.ext e e2) .non, fun z => absurd rfl z, fun _ z => absurd (hi.symm.trans z) (by decide)⟩
      · exact ⟨c, c', hh, ww, f, n, m, g, t, l, rfl, gf, gg, fun z => absurd z hne, fun _ => q, fun z => absurd z hne⟩
      · exact ⟨c, c', hh, ww, f, n, m, g, t, l, rfl, gf, gg, fun _ z => absurd (hi.symm.trans z) (by decide), fun z => absurd heq z, fun _ _ => q⟩
    obtain ⟨c, c', hh, ww, f, n, m, g, t, l, rfl, gf, gg, good, bad1, bad2⟩ := key
    cases hd with
    | @cons v1 _ _ _ d1 h2 =>
    cases h2 with
    | @cons v2 _ _ _ d2 h3 =>
    have ei := dpa_ints_inv (ns := [t, l]) h3
    subst ei
    refine ⟨_, (pss_cons (ps_expr (pe_call (ok_need_chart (P := P) (w := w) T) (hr.mono (by omega)) (by rfl) T.g_need_chart T.F_need_chart.kp T.b_need_chart .nil pass0 (pa_cons (pv 0) pa_nil)))
      (pss_cons (ps_expr (pe_call (ok_need_chart (P := P) (w := w) T) (hr.mono (by omega)) (by rfl) T.g_need_chart T.F_need_chart.kp T.b_need_chart .nil pass0 (pa_cons (pv 1) pa_nil)))
      (pss_cons (ps_if (pt_cmpR op_ne (pe_ix (r := rIxT K) ix_tup (pv 0) pe_int (fun _ _ => rfl)) (pe_ix (r := rIxT K) ix_tup (pv 1) pe_int (fun _ _ => rfl)) (nomark _)) (pss_cons (L2N.ps_raise rfl (L2N.takes_of rfl rfl rfl rfl) (T.X_Unlike.pmk (by rfl)))
      pss_nil) pss_nil)
      (pss_cons (ps_asg (pe_call (ok_size (P := P) (w := w) T) (hr.mono (by omega)) (by rfl) T.g_size T.F_size.kp T.b_size .nil pass0 (pa_cons (pv 1) pa_nil)) (pg_tup rfl (pgs_cons (pg_name (i := 4) sc_need_fit.nd rfl (.inl rfl)) (pgs_cons (pg_name (i := 5) sc_need_fit.nd rfl (.inl rfl)) pgs_nil))))
      (pss_cons (ps_expr (pe_call (okX_need_within T) (hr.mono (by omega)) (by rfl) T.g_need_within T.F_need_within.kp T.b_need_within .nil (L2N.passes_call (L2N.takes_of rfl rfl rfl rfl) (fun _ _ _ _ h => h)) (pa_cons (pv 0) (pa_cons (pv 2) (pa_cons (pv 3) (pa_cons (pv 4) (pa_cons (pv 5) pa_nil)))))))
      pss_nil))))), Go.go ?_⟩
    refine go_drop (Ev.mono e (ev_needT (ed_var rfl d1) gf)) ?_
    refine go_drop (Ev.mono e (ev_needT (ed_var rfl d2) gg)) ?_
    have hT : ∀ {σ : L2.St}, σ[0]? = some (some v1) → σ[1]? = some (some v2) → EvT (tTest (tOp rNe (tOp (rIxT K) (tVar 0) (tC (.int 0))) (tOp (rIxT K) (tVar 1) (tC (.int 0))))) σ H (!decide (V.int c = V.int c')) := fun a b => EvT.mono e (et_test (ev_op (ev_int (K := K) (ed_ixT (ed_var a d1) ev_c rfl)) (ev_int (K := K) (ed_ixT (ed_var b d2) ev_c rfl)) (rv_ne rfl)))
    by_cases hc : c = c'
    · refine go_whenF (et_is (hT rfl rfl) (by rw [hc]; simp)) ?_
      refine go_two (K := K) e (ed_call (eda_cons (ed_var rfl d2) eda_nil) ⟨c', _, rfl, gg.chart, gg.rect, rfl⟩) fun u1 u2 H1 D1 g1 k1 k2 => ?_
      rw [tab_len] at k1
      rw [gg.wide] at k2
      cases k1
      cases k2
      have d1' := dp_mono g1.dx _ d1
      cases hi : inW hh ww t l n m with
      | true =>
        refine go_dropOk (K := K) g1.sub (eda_cons (ed_var rfl d1') (eda_cons (ed_int (ev_var rfl)) (eda_cons (ed_int (ev_var rfl)) (eda_cons (ed_int (ev_var rfl)) (eda_cons (ed_int (ev_var rfl)) eda_nil))))) ⟨c, hh, ww, f, _, _, _, _, rfl, gf, hi, rfl⟩ fun v H2 D2 g2 hv => ?_
        exact go_next fun H3 e3 => good hc hi H3 ((g1.ex.trans g2.ex).trans e3)
      | false => exact go_dropNo (K := K) g1.sub (eda_cons (ed_var rfl d1') (eda_cons (ed_int (ev_var rfl)) (eda_cons (ed_int (ev_var rfl)) (eda_cons (ed_int (ev_var rfl)) (eda_cons (ed_int (ev_var rfl)) eda_nil))))) ⟨c, hh, ww, f, _, _, _, _, rfl, gf, hi, rfl⟩ fun H3 e3 => bad2 hc hi H3 (g1.ex.trans e3)
    · exact go_whenT (et_is (hT rfl rfl) (by simp [hc])) (go_raise fun H3 e3 => bad1 hc H3 e3)
def RXL (ds : List PyData) (d : PyData) : Prop := ∃ (c : Int) (h w : Nat) (f : Nat → Nat → Int) (n m : Nat) (g : Nat → Nat → Int) (t l : Int), ds = [dChart c (tab h w f), dChart c (tab n m g), .int t, .int l] ∧ GoodT c h w f ∧ GoodT c n m g ∧ inW h w t l n m = true ∧ d = dChart c (tab h w (laidF t.toNat l.toNat n m g f))
theorem okX_laid_in (T : Tx K mg) : FnOk P w K mg base (L2N.CX P w) 8 T.a_laid_in T.d_laid_in ["chart", "patch", "top", "left"] (spX K RXL (XXF T)) := by
  refine T.F_laid_in.ok sc_laid_in (fun vs H Q E h => ?_) (fun cdv A outer s H vs Q E hr h => ?_)
  · obtain ⟨Hd, ds, e, hd, ⟨d, ⟨c, hh, ww, f, n, m, g, t, l, rfl, _⟩, _⟩ | ⟨C, ⟨c, c', hh, ww, f, n, m, g, t, l, rfl, _⟩, _⟩⟩ := h <;> exact dpa_len hd
  · obtain ⟨Hd, ds, sx, hds, ⟨d, ⟨c, hh, ww, f, n, m, g, t', l', rfl, gf, gg, hi, rfl⟩, q⟩ | ⟨C, ⟨c, c', hh, ww, f, n, m, g, t, l, rfl, gf, gg, hx⟩, q⟩⟩ := h
    · have hb' := inW_iff.mp hi
      obtain ⟨t, rfl⟩ := Int.eq_ofNat_of_zero_le hb'.2.2.1
      obtain ⟨l, rfl⟩ := Int.eq_ofNat_of_zero_le hb'.2.2.2.1
      rw [Int.toNat_natCast, Int.toNat_natCast] at q
      have hb : t + n ≤ hh ∧ l + m ≤ ww := by omega
      cases hds with
      | @cons v1 _ _ _ d1 h2 =>
      cases h2 with
      | @cons v2 _ _ _ d2 h3 =>
      have ei := dpa_ints_inv (ns := [(t : Int), (l : Int)]) h3
      subst ei
      have h9 := gf.h9
      have w9 := gf.w9
      have n9 := gg.h9
      have m9 := gg.w9
      refine ⟨_, (pss_cons (ps_expr (pe_call (okX_need_fit T) (hr.mono (by omega)) (by rfl) T.g_need_fit T.F_need_fit.kp T.b_need_fit .nil (L2N.passes_call (L2N.takes_of rfl rfl rfl rfl) (fun _ _ _ _ h => h)) (pa_cons (pv 0) (pa_cons (pv 1) (pa_cons (pv 2) (pa_cons (pv 3) pa_nil))))))
      (pss_cons (ps_setLc (i := 4) (own := [("row", 6)]) (g := (gName 6)) (by rfl) sc_laid_in.nd rfl rfl (sw_true rfl rfl rfl (by decide +kernel)) (pi_tup (pe_ix (r := rIxT K) ix_tup (pv 0) pe_int (fun _ _ => rfl))) (blkOk_by (own := [("row", 6)]) (N := N_laid_in) (sc := defScope s_laid_in) (by decide +kernel)) (fun _ _ _ _ _ => (pg_name (i := 6) sc_laid_in.nd rfl (.inl rfl) (hf := .inr rfl))) (fun _ _ _ _ _ => pts_nil) (fun _ _ _ _ _ => (pe_callTy (r := rListS K) call_listQ (by rfl) T.n_list (by decide +kernel) (pa_cons (pv 6) pa_nil))))
      (pss_cons (ps_for PassesOwn.leaving rfl (pi_enumT (by rfl) T.n_enumerate (pa_cons (pe_ix (r := rIxT K) ix_tup (pv 1) pe_int (fun _ _ => rfl)) pa_nil)) (pg_tup rfl (pgs_cons (pg_name (i := 5) sc_laid_in.nd rfl (.inl rfl)) (pgs_cons (pg_name (i := 6) sc_laid_in.nd rfl (.inl rfl)) pgs_nil))) (pss_cons (ps_asg (pe_callTy (r := rListS K) call_listQ (by rfl) T.n_list (by decide +kernel) (pa_cons (pv 6) pa_nil)) (pg_slc (pe_ix (r := rIxL K) ix_list (pv 4) (pe_op op_add (pv 2) (pv 5)) (fun _ _ => rfl)) (po_some (pv 3)) (po_some (pe_op op_add (pv 3) (pe_callB (r := rLenS K) call_lenQ (by rfl) T.n_len PySem.boot_len (pa_cons (pv 6) pa_nil))))))
      pss_nil))
      (pss_cons (ps_ret (pe_tup (pa_cons (pe_ix (r := rIxT K) ix_tup (pv 0) pe_int (fun _ _ => rfl)) (pa_cons (pe_callTy (r := rTupS K) call_tupleQ (by rfl) T.n_tuple (by decide +kernel) (pa_cons (pe_lc (own := [("row", 6)]) (g := (gName 6)) (by rfl) sc_laid_in.nd (pi_list (pv 4)) (blkOk_by (own := [("row", 6)]) (N := N_laid_in) (sc := defScope s_laid_in) (by decide +kernel)) (fun _ _ _ _ _ => (pg_name (i := 6) sc_laid_in.nd rfl (.inl rfl) (hf := .inr rfl))) (fun _ _ _ _ _ => pts_nil) (fun _ _ _ _ _ => (pe_callTy (r := rTupS K) call_tupleQ (by rfl) T.n_tuple (by decide +kernel) (pa_cons (pv 6) pa_nil)))) pa_nil)) pa_nil))))
      pss_nil)))), Go.go ?_⟩
      refine go_dropOk (K := K) sx (eda_cons (ed_var rfl d1) (eda_cons (ed_var rfl d2) (eda_cons (ed_int (ev_var rfl)) (eda_cons (ed_int (ev_var rfl)) eda_nil)))) ⟨c, hh, ww, f, n, m, g, _, _, rfl, gf, gg, hi, rfl⟩ fun v H0 D0 g0 hv => ?_
      replace d1 := dp_mono g0.dx _ d1
      replace d2 := dp_mono g0.dx _ d2
      refine go_asgLL g0.sub (ll_lc (rs := tab hh ww f) (ed_ixT (ed_var rfl d1) ev_c rfl) (by rw [tab_len]; omega) (fun u => rfl) (fun u => rfl)) fun a ps H1 e1 na np L => ?_
      have s1 := g0.sub.trans e1
      have na' := fresh_back g0.sub na
      have np' := fun p hp => fresh_back g0.sub (np p hp)
      refine go_for (K := K) s1 (ei_enumT (K := K) (ds := (tab n m g).map dRow) (eda_cons (ed_ixT (ed_var rfl d2) ev_c rfl) eda_nil)) (fun Hn i σ' H' => ∃ (x y : Option V), Ex D0 Hn ∧ Ex Hn H' ∧ Hn a = none ∧ (∀ p ∈ ps, Hn p = none) ∧ (∀ x o, H0 x = some o → D0 x = none → Hn x = none) ∧ Ex H0 H' ∧ LL H' a ps (tab hh ww (laidF t l i m g f)) ∧ σ' = [some v1, some v2, some (.int (t : Int)), some (.int (l : Int)), some (.ref a), x, y]) ?_ ?_ ?_ ?_
      · intro H' Hn gr
        refine ⟨none, none, gr.dx, gr.sub, gr.fr _ _ L.top na', fun p hp => ?_, fun x o h1 h2 => gr.fr _ _ (e1 _ _ h1) h2, e1.trans gr.ex, by rw [lay_none]; exact L.ext gr.ex, rfl⟩
        obtain ⟨k, hk, ek⟩ := List.getElem_of_mem hp
        exact gr.fr _ _ (L.row k p ((tab hh ww f)[k]'(by rw [← L.len]; exact hk)) (List.getElem?_eq_some_iff.mpr ⟨hk, ek⟩) (List.getElem?_eq_getElem _)) (np' p hp)
      · rintro Hn i σ' H' ⟨x, y, e0, e, _⟩
        exact e
      · rintro Hn i σ' σ2 H2 e2 hi ⟨x, y, x0, s2, na2, np2, fr2, x2, L2, rfl⟩ ⟨va, vb, da, db, ea, eb, ha, hbd, rfl⟩
        cases ea
        cases ha
        rw [List.length_map, tab_len] at hi
        replace eb : ((tab n m g).map dRow)[i]? = some db := eb
        rw [List.getElem?_map, tab_get hi] at eb
        cases eb
        have hti : t + i < hh := by omega
        have hpl : t + i < ps.length := by rw [L2.len, tab_len]; exact hti
        have hpi : ps[t + i]? = some ps[t + i] := List.getElem?_eq_getElem hpl
        refine go_slc (K := K) (Hd := un H0 Hn) (i := t + i) (p := ps[t + i]) (r := rowOf ww (laidF t l i m g f (t + i))) (ns := rowOf m (g i)) (lo := (l : Int)) (hi := ((l + m : Nat) : Int)) (un_sub x2 s2) L2 ?_ (EvN.mono (un_r x2 s2) (en_listT (ed_var rfl hbd))) (ev_op (ev_var rfl) (ev_is (w := .int ((t + i : Nat) : Int)) (by walk_at "ev") (by rw [Int.natCast_add])) (rv_ixL (K := K) (sq_of L2.top) (atI_nat (j := t + i) (by rw [List.getElem?_map, hpi]; rfl)))) hpi (tab_get hti) (eo_some (ev_var rfl)) (eo_some (ev_is (ev_op (ev_var rfl) (Ev.mono s2 (ev_lenT (K := K) (ed_var rfl hbd))) rv_I0) (by rw [List.length_map, row_len, Int.natCast_add]))) (by omega) (by omega) (by rw [row_len]; omega) (by rw [row_len, row_len]; omega) fun H3 x3 L3 => ?_
        · intro p hp
          show un H0 Hn p = none
          unfold un
          rw [np p hp]
          exact np2 p hp
        rw [Int.toNat_natCast, Int.toNat_natCast, lay_step hti hb.2] at L3
        refine go_next fun H4 e4 => ⟨_, _, x0, ((un_r x2 s2).trans x3).trans e4, na2, np2, fr2, (un_l.trans x3).trans e4, L3.ext e4, rfl⟩
      · rintro Hn σ' H2 e2 ⟨x, y, x0, s2, na2, np2, fr2, x2, L2, rfl⟩
        rw [List.length_map, tab_len] at L2
        obtain ⟨D3, y1, y2, hda, y3⟩ := L2.data (K := K) s2 na2 np2
        refine go_ret (K := K) y2 (ed_tup (eda_cons (ed_ixT (ed_var rfl (dp_mono (x0.trans y1) _ d1)) ev_c rfl) (eda_cons (ed_tupleL (ed_new (ds := (tab hh ww (laidF t l n m g f)).map dRow) (rows_back (ed_var rfl hda) h9 (fun u => rfl) (fun u => rfl)))) eda_nil)) (by simp)) ?_
        intro v H5 D5 g5 hv
        have gq : Gr D0 H0 D5 H5 := ⟨x2.trans g5.ex, (x0.trans y1).trans g5.dx, g5.sub, fun z o h1 h2 => g5.fr z o (x2 _ _ h1) (by
          rw [y3 z (ne_of_none h1 na) (fun hm => by have := np z hm; rw [h1] at this; cases this)]
          exact fr2 z o h1 h2)⟩
        exact q v H5 D5 (g0.trans gq) hv
    · cases hds with
      | @cons v1 _ _ _ d1 h2 =>
      cases h2 with
      | @cons v2 _ _ _ d2 h3 =>
      have ei := dpa_ints_inv (ns := [t, l]) h3
      subst ei
      refine ⟨_, (pss_cons (ps_expr (pe_call (okX_need_fit T) (hr.mono (by omega)) (by rfl) T.g_need_fit T.F_need_fit.kp T.b_need_fit .nil (L2N.passes_call (L2N.takes_of rfl rfl rfl rfl) (fun _ _ _ _ h => h)) (pa_cons (pv 0) (pa_cons (pv 1) (pa_cons (pv 2) (pa_cons (pv 3) pa_nil))))))
      (pss_cons (ps_setLc (i := 4) (own := [("row", 6)]) (g := (gName 6)) (by rfl) sc_laid_in.nd rfl rfl (sw_true rfl rfl rfl (by decide +kernel)) (pi_tup (pe_ix (r := rIxT K) ix_tup (pv 0) pe_int (fun _ _ => rfl))) (blkOk_by (own := [("row", 6)]) (N := N_laid_in) (sc := defScope s_laid_in) (by decide +kernel)) (fun _ _ _ _ _ => (pg_name (i := 6) sc_laid_in.nd rfl (.inl rfl) (hf := .inr rfl))) (fun _ _ _ _ _ => pts_nil) (fun _ _ _ _ _ => (pe_callTy (r := rListS K) call_listQ (by rfl) T.n_list (by decide +kernel) (pa_cons (pv 6) pa_nil))))
      (pss_cons (ps_for PassesOwn.leaving rfl (pi_enumT (by rfl) T.n_enumerate (pa_cons (pe_ix (r := rIxT K) ix_tup (pv 1) pe_int (fun _ _ => rfl)) pa_nil)) (pg_tup rfl (pgs_cons (pg_name (i := 5) sc_laid_in.nd rfl (.inl rfl)) (pgs_cons (pg_name (i := 6) sc_laid_in.nd rfl (.inl rfl)) pgs_nil))) (pss_cons (ps_asg (pe_callTy (r := rListS K) call_listQ (by rfl) T.n_list (by decide +kernel) (pa_cons (pv 6) pa_nil)) (pg_slc (pe_ix (r := rIxL K) ix_list (pv 4) (pe_op op_add (pv 2) (pv 5)) (fun _ _ => rfl)) (po_some (pv 3)) (po_some (pe_op op_add (pv 3) (pe_callB (r := rLenS K) call_lenQ (by rfl) T.n_len PySem.boot_len (pa_cons (pv 6) pa_nil))))))
      pss_nil))
      (pss_cons (ps_ret (pe_tup (pa_cons (pe_ix (r := rIxT K) ix_tup (pv 0) pe_int (fun _ _ => rfl)) (pa_cons (pe_callTy (r := rTupS K) call_tupleQ (by rfl) T.n_tuple (by decide +kernel) (pa_cons (pe_lc (own := [("row", 6)]) (g := (gName 6)) (by rfl) sc_laid_in.nd (pi_list (pv 4)) (blkOk_by (own := [("row", 6)]) (N := N_laid_in) (sc := defScope s_laid_in) (by decide +kernel)) (fun _ _ _ _ _ => (pg_name (i := 6) sc_laid_in.nd rfl (.inl rfl) (hf := .inr rfl))) (fun _ _ _ _ _ => pts_nil) (fun _ _ _ _ _ => (pe_callTy (r := rTupS K) call_tupleQ (by rfl) T.n_tuple (by decide +kernel) (pa_cons (pv 6) pa_nil)))) pa_nil)) pa_nil))))
      pss_nil)))), Go.go ?_⟩
      exact go_dropNo (K := K) sx (eda_cons (ed_var rfl d1) (eda_cons (ed_var rfl d2) (eda_cons (ed_int (ev_var rfl)) (eda_cons (ed_int (ev_var rfl)) eda_nil)))) ⟨c, c', hh, ww, f, n, m, g, _, _, rfl, gf, gg, hx⟩ q

def sp_lawT (K : PySem.W.Frag) (Pt : Addr) : Sp := fun vs H Q _ => ∃ (a : Addr) (ns : List Int), vs = [.ref a] ∧ SqL K H a (ns.map V.int) ∧ ns.length ≤ 63 ∧ H Pt = some (.tbl #[]) ∧ ∀ H', Q (.bl true) H'
open LamX in
theorem go_neW2 (T : Tx K mg) {Tt : List (Addr × Str)} {t : XK → TE} {σ : L2.St} {H : Hp} {wd : Str} {te : TE} {tu tz : TS} {D : Ends} (ht : Tabs Tt H) (hb : WordB T t σ H wd) (he : ∀ H1, ExtN H H1 → Ev te σ H1 (.str wd))
    (k : ∀ H1, ExtN H H1 → Tabs Tt H1 → Go tz D σ H1) : Go (tSeq (tIfS (tTest (tOp rNe (tLam Tt (TTw T) t) te)) tu tNext) tz) D σ H := fun H0 e0 =>
  word_run T (ht.ext e0) (fun H1 e1 => hb H1 ((ExtN.of e0).trans e1)) fun H1 e1 t1 => he H1 ((ExtN.of e0).trans e1) H1 (Ex.refl _) _ fun H2 e2 => ⟨rfl, false, by rw [decide_eq_true rfl]; rfl, by
    show (if false = true then _ else _)
    rw [if_neg (by decide)]
    exact k H2 (((ExtN.of e0).trans e1).trans (ExtN.of e2)) (t1.ext e2) _ (Ex.refl _)⟩
theorem go_setS {t : TT} {σ : L2.St} {H : Hp} {b : Bool} {y : Str} {i : Nat} {tz : TS} {D : Ends} (h : EvT t σ H b) (k : Go tz D (if b = true then σ.set i (some (.str y)) else σ) H) : Go (tSeq (tIfS t (tSeq (tAsg (tC (.str y)) (gName i)) tNext) tNext) tz) D σ H := by
  refine go_when h (fun e => ?_) (fun e => ?_)
  · rw [if_pos e] at k
    exact go_asg ev_c (go_next fun H' e' => k H' e')
  · rw [if_neg (by rw [e]; decide)] at k
    exact k
theorem st9 {a0 a1 a2 a3 a4 a5 a6 a7 a8 a10 : Option V} {x y : Str} (b : Bool) : (if b = true then ([a0, a1, a2, a3, a4, a5, a6, a7, a8, some (.str x), a10] : L2.St).set 9 (some (.str y)) else [a0, a1, a2, a3, a4, a5, a6, a7, a8, some (.str x), a10]) = [a0, a1, a2, a3, a4, a5, a6, a7, a8, some (.str (if b = true then y else x)), a10] := by cases b <;> rfl
theorem atI_two {k : Bool} {x y : PyData} : atI [x, y] (if k then 1 else 0) = some (if k then y else x) := by cases k <;> rfl
theorem ed_two {σ : L2.St} {Hd : Hp} {ta tb : TE} {k : Bool} {x y : PyData} (ha : EvD K ta σ Hd (.list [x, y])) (hk : Ev tb σ Hd (.bl k)) : EvD K (tOp (rIxL K) ta (tCB rInt1 (tCons tb tNil))) σ Hd (if k then y else x) := ed_ixL ha (ev_intB hk) atI_two
theorem noT_kp {Hn H H1 : Hp} (s : Ex (noT Hn) H) (e : LamX.ExtN H H1) : Ex (noT Hn) H1 := fun a o h => e a o (s a o h) (noT_some h).2
def cutW (k : Bool) : Str := if k = true then "" else "square"
def laidW (c c' : Int) (k : Bool) : Str := if c = c' then cutW k else "unlike"
theorem wb_cut (T : Tx K mg) {tr : TA} {σ : L2.St} {H Hn : Hp} {c : Int} {h w : Nat} {f : Nat → Nat → Int} {t l n m : Int} (s : Ex (noT Hn) H) (hd : EvDA K tr σ (noT Hn) [dChart c (tab h w f), .int t, .int l, .int n, .int m]) (g : GoodT c h w f) : WordB T (fun E => tCall (spX K RXC (XXW T)) [] E tr) σ H (cutW (inW h w t l n m)) := fun H1 e1 E Q1 ok no => by
  cases hi : inW h w t l n m with
  | true =>
    rw [hi] at ok
    exact tx_ok (noT_kp s e1) hd (fun _ => .nil) ⟨c, h, w, f, t, l, n, m, rfl, g, hi, rfl⟩ fun v H2 Hm gr _ => ok rfl v H2 gr.ex
  | false =>
    rw [hi] at no
    exact tx_no (noT_kp s e1) hd (fun _ => .nil) ⟨c, h, w, f, t, l, n, m, rfl, g, hi, rfl⟩ (no _ (known_sq T))
theorem wb_laid (T : Tx K mg) {tr : TA} {σ : L2.St} {H Hn : Hp} {c c' : Int} {h w n m : Nat} {f g : Nat → Nat → Int} {t l : Int} (s : Ex (noT Hn) H) (hd : EvDA K tr σ (noT Hn) [dChart c (tab h w f), dChart c' (tab n m g), .int t, .int l]) (gf : GoodT c h w f) (gg : GoodT c' n m g) : WordB T (fun E => tCall (spX K RXL (XXF T)) [] E tr) σ H (laidW c c' (inW h w t l n m)) := fun H1 e1 E Q1 ok no => by
  by_cases hc : c = c'
  · subst hc
    unfold laidW at ok no
    rw [if_pos rfl] at ok no
    cases hi : inW h w t l n m with
    | true =>
      rw [hi] at ok
      exact tx_ok (noT_kp s e1) hd (fun _ => .nil) ⟨c, h, w, f, n, m, g, t, l, rfl, gf, gg, hi, rfl⟩ fun v H2 Hm gr _ => ok rfl v H2 gr.ex
    | false =>
      rw [hi] at no
      exact tx_no (noT_kp s e1) hd (fun _ => .nil) ⟨c, c, h, w, f, n, m, g, t, l, rfl, gf, gg, .inr ⟨rfl, hi, rfl⟩⟩ (no _ (known_sq T))
  · unfold laidW at no
    rw [if_neg hc] at no
    exact tx_no (noT_kp s e1) hd (fun _ => .nil) ⟨c, c', h, w, f, n, m, g, t, l, rfl, gf, gg, .inl ⟨hc, rfl⟩⟩ (no _ (known_un T))
theorem goodC_up {m c : Int} {rows : List (List Int)} (h : goodC m c rows) (hm : m ≤ 9) : goodC 9 c rows := by
  obtain ⟨h1, h2, h3, w, w1, w2, hr⟩ := h
  exact ⟨h1, h2, by omega, w, w1, by omega, hr⟩
theorem GoodT.same {c c' : Int} {n m : Nat} {g : Nat → Nat → Int} (gc : isClock c = true) (gp : GoodT c' n m g) (h : isChart c (tab n m g) = true) : GoodT c n m g := by
  refine ⟨gc, gp.h1, gp.h9, gp.w1, gp.w9, fun i j hi hj => ?_⟩
  unfold isChart at h
  simp only [Bool.and_eq_true, List.all_eq_true] at h
  have hr := h.2.2 (rowOf m (g i)) (List.mem_of_getElem? (tab_get hi))
  unfold isRow at hr
  rw [Bool.and_eq_true, List.all_eq_true] at hr
  have := hr.2 (g i j) (List.mem_of_getElem? (row_get hj))
  simpa [Bool.and_eq_true] using this
theorem ok_law (T : Tx K mg) {c Pt : Addr} {kV doc pm ct oc : Value} {an od : Option Addr} {osl : Array (Option Value)} (lk : K.lookup T.a_law = some ⟨oc, od, .func (PySem.W.fnOf "law" "law" (defArgs s_law) (defBody s_law) (defScope s_law) .none kV doc pm an (.ref c) ct), osl⟩)
    (hcd : PySem.W.codeIn K (.ref c) "law" = true) (TB : LamX.TabB base mg c Pt) : FnOk P w K mg base CX0 11 T.a_law (PySem.W.fnOf "law" "law" (defArgs s_law) (defBody s_law) (defScope s_law) .none kV doc pm an (.ref c) ct) ["_law_script"] (sp_lawT K Pt) := by
  refine fn_of lk hcd sc_law (fun vs H Q E h => ?_) (fun A outer s H vs Q E hr h => ?_)
  · obtain ⟨a, ns, rfl, _⟩ := h
    rfl
  · obtain ⟨a, ns, rfl, hL, hn, hP, q⟩ := h
    refine ⟨_, PSs.nox (pss_cons (ps_set (i := 1) sc_law.nd rfl (.inr rfl) (pe_call (ok_law_box (P := P) (w := w) T) (hr.mono (by omega)) (by rfl) T.g_law_box T.F_law_box.kp T.b_law_box .nil pass0 (pa_cons (pv 0) pa_nil)))
      (pss_cons (ps_set (i := 2) sc_law.nd rfl (.inr rfl) (pe_call (ok_law_chart (P := P) (w := w) T) (hr.mono (by omega)) (by rfl) T.g_law_chart T.F_law_chart.kp T.b_law_chart .nil pass0 (pa_cons (pv 1) (pa_cons pe_int (pa_cons pe_int pa_nil)))))
      (pss_cons (ps_set (i := 3) sc_law.nd rfl (.inr rfl) (pe_call (ok_law_chart (P := P) (w := w) T) (hr.mono (by omega)) (by rfl) T.g_law_chart T.F_law_chart.kp T.b_law_chart .nil pass0 (pa_cons (pv 1) (pa_cons pe_int (pa_cons pe_int pa_nil)))))
      (pss_cons (ps_set (i := 4) sc_law.nd rfl (.inr rfl) (pe_callB (r := rLenS K) call_lenQ (by rfl) T.n_len PySem.boot_len (pa_cons (pe_ix (r := rIxT K) ix_tup (pv 2) pe_int (fun _ _ => rfl)) pa_nil)))
      (pss_cons (ps_set (i := 5) sc_law.nd rfl (.inr rfl) (pe_callB (r := rLenS K) call_lenQ (by rfl) T.n_len PySem.boot_len (pa_cons (pe_ix (r := rIxT K) ix_tup (pe_ix (r := rIxT K) ix_tup (pv 2) pe_int (fun _ _ => rfl)) pe_int (fun _ _ => rfl)) pa_nil)))
      (pss_cons (ps_for PassesOwn.never rfl (pi_range1 (by rfl) T.n_range (pa_cons pe_int pa_nil)) (pg_name (i := 6) sc_law.nd rfl (.inl rfl)) (pss_cons (ps_set (i := 7) sc_law.nd rfl (.inr rfl) (pe_lc (own := [("_law_turn", 10)]) (g := (gName 10)) (by rfl) sc_law.nd (pi_range1 (by rfl) T.n_range (pa_cons pe_int pa_nil)) (blkOk_by (own := [("_law_turn", 10)]) (N := N_law) (sc := defScope s_law) (by decide +kernel)) (fun _ _ _ _ _ => (pg_name (i := 10) sc_law.nd rfl (.inl rfl) (hf := .inr rfl))) (fun _ _ _ _ _ => pts_nil) (fun _ _ _ _ _ => (pe_ix (r := rIxL K) ix_list (pe_lst (pa_cons pe_int (pa_cons pe_int (pa_cons (pe_un un_neg pe_int) (pa_cons (pv 4) (pa_cons (pv 5) (pa_cons (pe_call (ok_law_number (P := P) (w := w) T) (hr.mono (by omega)) (by rfl) T.g_law_number T.F_law_number.kp T.b_law_number .nil pass0 (pa_cons (pv 1) pa_nil)) (pa_cons (pe_call (ok_law_take (P := P) (w := w) T) (hr.mono (by omega)) (by rfl) T.g_law_take T.F_law_take.kp T.b_law_take .nil pass0 (pa_cons (pv 1) (pa_cons pe_int pa_nil))) pa_nil)))))))) (pe_call (ok_law_take (P := P) (w := w) T) (hr.mono (by omega)) (by rfl) T.g_law_take T.F_law_take.kp T.b_law_take .nil pass0 (pa_cons (pv 1) (pa_cons pe_int pa_nil))) (fun _ _ => rfl)))))
      (pss_cons (ps_set (i := 8) sc_law.nd rfl (.inl rfl) (pe_and (pe_cmpR op_ge (pe_ix (r := rIxL K) ix_list (pv 7) pe_int (fun _ _ => rfl)) pe_int (nomark _)) (pe_and (pe_cmpR op_ge (pe_ix (r := rIxL K) ix_list (pv 7) pe_int (fun _ _ => rfl)) pe_int (nomark _)) (pe_and (pe_cmpR op_ge (pe_ix (r := rIxL K) ix_list (pv 7) pe_int (fun _ _ => rfl)) pe_int (nomark _)) (pe_one (pe_cmpR op_ge (pe_ix (r := rIxL K) ix_list (pv 7) pe_int (fun _ _ => rfl)) pe_int (nomark _)))))))
      (pss_cons (ps_set (i := 8) sc_law.nd rfl (.inl rfl) (pe_and (pv 8) (pe_and (pe_cmpR op_le (pe_op op_add (pe_ix (r := rIxL K) ix_list (pv 7) pe_int (fun _ _ => rfl)) (pe_ix (r := rIxL K) ix_list (pv 7) pe_int (fun _ _ => rfl))) (pv 4) (nomark _)) (pe_one (pe_cmpR op_le (pe_op op_add (pe_ix (r := rIxL K) ix_list (pv 7) pe_int (fun _ _ => rfl)) (pe_ix (r := rIxL K) ix_list (pv 7) pe_int (fun _ _ => rfl))) (pv 5) (nomark _))))))
      (pss_cons (ps_if (pt_cmpR op_ne (pe_law_word T TB rfl hr (by decide) (by rfl) (LamX.lamS_by (sc := defScope s_law) (by decide +kernel)) rfl (fun _ _ _ _ _ => rfl) (fun _ _ _ _ E _ _ hr => (pe_call (okX_cut T) (hr.mono (by omega)) (by rfl) T.g_cut T.F_cut.kp T.b_cut .nil (L2N.passes_call (L2N.takes_of rfl rfl rfl rfl) (fun _ _ _ _ h => h)) (pa_cons (pv 2) (pa_cons (pe_ix (r := rIxL K) ix_list (pv 7) pe_int (fun _ _ => rfl)) (pa_cons (pe_ix (r := rIxL K) ix_list (pv 7) pe_int (fun _ _ => rfl)) (pa_cons (pe_ix (r := rIxL K) ix_list (pv 7) pe_int (fun _ _ => rfl)) (pa_cons (pe_ix (r := rIxL K) ix_list (pv 7) pe_int (fun _ _ => rfl)) pa_nil)))))))) (pe_ix (r := rIxL K) ix_list (pe_lst (pa_cons pe_str (pa_cons pe_str pa_nil))) (pe_callTy (r := rInt1) call_intQ (by rfl) T.n_int (by decide +kernel) (pa_cons (pv 8) pa_nil)) (fun _ _ => rfl)) (nomark _)) (pss_cons (ps_ret pe_bl)
      pss_nil) pss_nil)
      (pss_cons (ps_set (i := 9) sc_law.nd rfl (.inl rfl) pe_str)
      (pss_cons (ps_if (PW.pt (pw_and (pt_cmpR op_ge (pe_ix (r := rIxL K) ix_list (pv 7) pe_int (fun _ _ => rfl)) pe_int (nomark _)) (pw_and (pt_cmpR op_ge (pe_ix (r := rIxL K) ix_list (pv 7) pe_int (fun _ _ => rfl)) pe_int (nomark _)) (pw_and (pt_cmpR op_le (pe_op op_add (pe_ix (r := rIxL K) ix_list (pv 7) pe_int (fun _ _ => rfl)) (pe_callB (r := rLenS K) call_lenQ (by rfl) T.n_len PySem.boot_len (pa_cons (pe_ix (r := rIxT K) ix_tup (pv 3) pe_int (fun _ _ => rfl)) pa_nil))) (pv 4) (nomark _)) (pw_and1 (pt_cmpR op_le (pe_op op_add (pe_ix (r := rIxL K) ix_list (pv 7) pe_int (fun _ _ => rfl)) (pe_callB (r := rLenS K) call_lenQ (by rfl) T.n_len PySem.boot_len (pa_cons (pe_ix (r := rIxT K) ix_tup (pe_ix (r := rIxT K) ix_tup (pv 3) pe_int (fun _ _ => rfl)) pe_int (fun _ _ => rfl)) pa_nil))) (pv 5) (nomark _))))))) (pss_cons (ps_set (i := 9) sc_law.nd rfl (.inl rfl) pe_str)
      pss_nil) pss_nil)
      (pss_cons (ps_if (pt_cmpR op_ne (pe_ix (r := rIxT K) ix_tup (pv 3) pe_int (fun _ _ => rfl)) (pe_ix (r := rIxT K) ix_tup (pv 2) pe_int (fun _ _ => rfl)) (nomark _)) (pss_cons (ps_set (i := 9) sc_law.nd rfl (.inl rfl) pe_str)
      pss_nil) pss_nil)
      (pss_cons (ps_if (pt_cmpR op_ne (pe_law_word T TB rfl hr (by decide) (by rfl) (LamX.lamS_by (sc := defScope s_law) (by decide +kernel)) rfl (fun _ _ _ _ _ => rfl) (fun _ _ _ _ E _ _ hr => (pe_call (okX_laid_in T) (hr.mono (by omega)) (by rfl) T.g_laid_in T.F_laid_in.kp T.b_laid_in .nil (L2N.passes_call (L2N.takes_of rfl rfl rfl rfl) (fun _ _ _ _ h => h)) (pa_cons (pv 2) (pa_cons (pv 3) (pa_cons (pe_ix (r := rIxL K) ix_list (pv 7) pe_int (fun _ _ => rfl)) (pa_cons (pe_ix (r := rIxL K) ix_list (pv 7) pe_int (fun _ _ => rfl)) pa_nil))))))) (pv 9) (nomark _)) (pss_cons (ps_ret pe_bl)
      pss_nil) pss_nil)
      (pss_cons (ps_set (i := 3) sc_law.nd rfl (.inr rfl) (pe_ifExp (pt_val (pe_call (ok_law_is_chart (P := P) (w := w) T) (hr.mono (by omega)) (by rfl) T.g_law_is_chart T.F_law_is_chart.kp T.b_law_is_chart .nil pass0 (pa_cons (pe_tup (pa_cons (pe_ix (r := rIxT K) ix_tup (pv 2) pe_int (fun _ _ => rfl)) (pa_cons (pe_ix (r := rIxT K) ix_tup (pv 3) pe_int (fun _ _ => rfl)) pa_nil))) pa_nil))) (pe_tup (pa_cons (pe_ix (r := rIxT K) ix_tup (pv 2) pe_int (fun _ _ => rfl)) (pa_cons (pe_ix (r := rIxT K) ix_tup (pv 3) pe_int (fun _ _ => rfl)) pa_nil))) (pv 3)))
      pss_nil))))))))))
      (pss_cons (ps_ret pe_bl)
      pss_nil))))))), Go.go ?_⟩
    have t0 : ∀ q, LamX.Tabs [(Pt, q)] H := fun q p hp => by
      cases hp with
      | head => exact LamX.TabS.nil hP
      | tail _ h => cases h
    refine go_box hL hn (ev_var rfl) fun b H1 hb _ e1 B => ?_
    refine go_asgB (K := K) (Hd := hp0) rfl ex0 B (eb_chart (ev_var rfl) ev_c ev_c (by decide)) ?_
    rintro vc H2 D2 d g2 hd ⟨c0, rows, rfl, hg⟩
    obtain ⟨hh, ww, f, rfl, gt⟩ := GoodT.of (goodC_up hg (by decide))
    have t2 := tabs_box ((t0 ((envOfC "law" (defScope s_law) s.heap.objs.size T.a_law (.ref c)).qual ++ "<lambda>")).ext e1) B g2
    have n2 : D2 b.b = none := g2.bn rfl B
    refine go_asgB (K := K) (Hd := D2) n2 g2.sub g2.bx (eb_chart (ev_var rfl) ev_c ev_c (by decide)) ?_
    rintro vp0 H3 D3 d g3 hdp ⟨c10, rows, rfl, hg1⟩
    obtain ⟨n0, m0, gg0, rfl, gp0⟩ := GoodT.of (goodC_up hg1 (by decide))
    have t3 := tabs_box t2 g2.bx g3
    have n3 : D3 b.b = none := g3.bn n2 g2.bx
    have hd3 := dp_mono g3.dx _ hd
    have h9 := gt.h9
    have h1 := gt.h1
    have w9 := gt.w9
    have lenH : ∀ {σ : L2.St} {D : Hp} {v : V} {k : Nat} {cc : Int} {a b : Nat} {F : Nat → Nat → Int}, σ[k]? = some (some v) → Dp K D v (dChart cc (tab a b F)) → Ev (tCB (rLenS K) (tCons (tOp (rIxT K) (tVar k) (tC (.int 1))) tNil)) σ D (.int (a : Int)) := fun e x => ev_is (ev_lenT (ed_ixT (ed_var e x) ev_c rfl)) (by rw [List.length_map, tab_len])
    have lenW : ∀ {σ : L2.St} {D : Hp} {v : V} {k : Nat} {cc : Int} {a b : Nat} {F : Nat → Nat → Int}, 1 ≤ a → σ[k]? = some (some v) → Dp K D v (dChart cc (tab a b F)) → Ev (tCB (rLenS K) (tCons (tOp (rIxT K) (tOp (rIxT K) (tVar k) (tC (.int 1))) (tC (.int 0))) tNil)) σ D (.int (b : Int)) := fun {σ D v k cc a b F} h1 e x => ev_is (ev_lenT (ed_ixT (ed_ixT (ed_var e x) ev_c rfl) ev_c (d := dRow (rowOf b (F 0))) (atI_nat (j := 0) (by rw [List.getElem?_map, tab_get (by omega)]; rfl)))) (by rw [List.length_map, row_len])
    refine go_asg (v := .int (hh : Int)) (Ev.mono g3.sub (lenH rfl hd3)) ?_
    refine go_asg (v := .int (ww : Int)) (Ev.mono g3.sub (lenW h1 rfl hd3)) ?_
    refine go_forN (m := 5) (by walk_at "ea") (by decide) (fun i σ' H' => LamX.Tabs [(Pt, (envOfC "law" (defScope s_law) s.heap.objs.size T.a_law (.ref c)).qual ++ "<lambda>")] H' ∧ Bx H' b ∧ ∃ (Hk : Hp) (vp : V) (c1 : Int) (n m : Nat) (g : Nat → Nat → Int) (x6 x7 x8 x9 : Option V), Ex Hk H' ∧ Hk b.b = none ∧ Dp K Hk vc (dChart c0 (tab hh ww f)) ∧ Dp K Hk vp (dChart c1 (tab n m g)) ∧ GoodT c1 n m g ∧ σ' = [some (.ref a), some (.ref b.b), some vc, some vp, some (.int (hh : Int)), some (.int (ww : Int)), x6, x7, x8, x9, none]) ?_ ?_ ?_
    · intro H' e
      exact ⟨t3.ext e, g3.bx.mono e, D3, vp0, c10, n0, m0, gg0, _, _, _, _, g3.sub.trans e, n3, hd3, hdp, gp0, rfl⟩
    · rintro i σ' H4 hi ⟨t4, B4, Hk, vp, c1, n, m, g, x6, x7, x8, x9, s4, n4, dc4, dp4, gp, rfl⟩
      refine go_asgB (K := K) (P := fun d => ∃ s0 s1 s2 s3, d = .list [.int s0, .int s1, .int s2, .int s3]) n4 s4 B4 (EvB.imp (eb_lc (PP := isI fun _ => True) (ei_range1 (K := K) (m := 4) (ea_cons ev_c ea_nil) (by decide)) (by decide) ?_) ?_) ?_
      · rintro i σ2 Hm hi ek rfl
        exact ⟨rfl, eb_pick (n := 7) (p := fun _ => True) (ap_cons (eb_int ev_c trivial) (ap_cons (eb_int ev_c trivial) (ap_cons (eb_int (by walk_at "ev") trivial) (ap_cons (eb_int (ev_var rfl) trivial) (ap_cons (eb_int (ev_var rfl) trivial) (ap_cons (EvB.impI (eb_number (ev_var rfl)) fun _ _ => trivial) (ap_cons (EvB.impI (eb_take (ev_var rfl) ev_c (m := 6) (by decide) (by decide)) fun _ _ => trivial) ap_nil))))))) (eb_take (ev_var rfl) ev_c (m := 7) (by decide) (by decide)) (by decide)⟩
      · rintro d ⟨ds, rfl, e1, e2⟩
        match ds, e1, e2 with
        | [d0, d1, d2, d3], _, e2 =>
          obtain ⟨s0, rfl, _⟩ := e2 d0 (by simp)
          obtain ⟨s1, rfl, _⟩ := e2 d1 (by simp)
          obtain ⟨s2, rfl, _⟩ := e2 d2 (by simp)
          obtain ⟨s3, rfl, _⟩ := e2 d3 (by simp)
          exact ⟨s0, s1, s2, s3, rfl⟩
      rintro v7 H5 D5 d g5 hd5 ⟨s0, s1, s2, s3, rfl⟩
      have t5 := tabs_box t4 B4 g5
      have n5 : D5 b.b = none := g5.bn n4 B4
      have dc5 := dp_mono g5.dx _ dc4
      have dp5 := dp_mono g5.dx _ dp4
      have sp : ∀ {σ : L2.St} {D : Hp} {i z : Int}, σ[7]? = some (some v7) → Dp K D v7 (.list [.int s0, .int s1, .int s2, .int s3]) → atI [PyData.int s0, .int s1, .int s2, .int s3] i = some (.int z) → Ev (tOp (rIxL K) (tVar 7) (tC (.int i))) σ D (.int z) := fun e x h => ev_int (K := K) (ed_ixL (ed_var e x) ev_c h)
      refine go_asg (v := .bl (decide (s0 ≥ 0) && (decide (s1 ≥ 0) && (decide (s2 ≥ 1) && decide (s3 ≥ 1))))) (Ev.mono g5.sub (ev_andB (ev_op (sp rfl hd5 rfl) ev_c rv_I0) (ev_andB (ev_op (sp rfl hd5 rfl) ev_c rv_I0) (ev_andB (ev_op (sp rfl hd5 rfl) ev_c rv_I0) (ev_op (sp rfl hd5 rfl) ev_c rv_I0))))) ?_
      refine go_asg (v := .bl (inW hh ww s0 s1 s2 s3)) (Ev.mono g5.sub (ev_is (ev_andB (ev_var rfl) (ev_andB (ev_op (ev_op (sp rfl hd5 rfl) (sp rfl hd5 rfl) rv_I0) (ev_var rfl) rv_I0) (ev_op (ev_op (sp rfl hd5 rfl) (sp rfl hd5 rfl) rv_I0) (ev_var rfl) rv_I0))) ?_)) ?_
      · rw [V.bl.injEq, Bool.eq_iff_iff, inW_iff]
        simp only [Bool.and_eq_true, decide_eq_true_eq]
        omega
      have dn : ∀ {D : Hp} {v : V} {d : PyData}, Dp K D v d → Dp K (noT D) v d := fun h => dp_noT _ h
      refine go_neW2 T t5 (wb_cut T (Hn := D5) (noT_ex.trans g5.sub) (eda_cons (ed_var rfl (dn dc5)) (eda_cons (ed_int (sp rfl (dn hd5) rfl)) (eda_cons (ed_int (sp rfl (dn hd5) rfl)) (eda_cons (ed_int (sp rfl (dn hd5) rfl)) (eda_cons (ed_int (sp rfl (dn hd5) rfl)) eda_nil))))) gt) (fun H1 x1 => ev_str (K := K) ?_) fun H6 x6 t6 => ?_
      · have e2 : (if inW hh ww s0 s1 s2 s3 = true then PyData.str "" else .str "square") = .str (cutW (inW hh ww s0 s1 s2 s3)) := by
          cases inW hh ww s0 s1 s2 s3 <;> rfl
        rw [← e2]
        exact ed_two (ed_new (by walk_at "en")) (ev_var rfl)
      have B6 := bx_extN g5.bx x6
      have s6 : Ex (noT D5) H6 := noT_extN g5.sub x6
      have n6 : noT D5 b.b = none := noT_none n5
      refine go_asg (v := .str "square") ev_c ?_
      refine go_setS (b := inW hh ww s0 s1 n m) (EvT.mono s6 (et_is (et_andB (et_test (ev_op (sp rfl (dn hd5) rfl) ev_c rv_I0)) (et_andB (et_test (ev_op (sp rfl (dn hd5) rfl) ev_c rv_I0)) (et_andB (et_test (ev_op (ev_op (sp rfl (dn hd5) rfl) (lenH rfl (dn dp5)) rv_I0) (ev_var rfl) rv_I0)) (et_test (ev_op (ev_op (sp rfl (dn hd5) rfl) (lenW gp.h1 rfl (dn dp5)) rv_I0) (ev_var rfl) rv_I0))))) ?_)) ?_
      · have a1 := gp.h1
        have a2 := gp.w1
        rw [Bool.eq_iff_iff, inW_iff]
        simp only [Bool.and_eq_true, decide_eq_true_eq]
        omega
      show Go _ _ (if inW hh ww s0 s1 n m = true then ([some (V.ref a), some (.ref b.b), some vc, some vp, some (.int (hh : Int)), some (.int (ww : Int)), some (.int (i : Int)), some v7, some (.bl (inW hh ww s0 s1 s2 s3)), some (.str "square"), none] : L2.St).set 9 (some (.str "")) else [some (V.ref a), some (.ref b.b), some vc, some vp, some (.int (hh : Int)), some (.int (ww : Int)), some (.int (i : Int)), some v7, some (.bl (inW hh ww s0 s1 s2 s3)), some (.str "square"), none]) H6
      rw [st9]
      refine go_setS (b := !decide (c1 = c0)) (EvT.mono s6 (et_is (et_test (ev_op (ev_int (K := K) (ed_ixT (ed_var rfl (dn dp5)) ev_c rfl)) (ev_int (K := K) (ed_ixT (ed_var rfl (dn dc5)) ev_c rfl)) (rv_ne rfl))) (by simp only [V.int.injEq]))) ?_
      rw [st9]
      refine go_neW2 T t6 (wb_laid T (Hn := noT D5) (noT_ex.trans s6) (eda_cons (ed_var rfl (dn (dn dc5))) (eda_cons (ed_var rfl (dn (dn dp5))) (eda_cons (ed_int (sp rfl (dn (dn hd5)) rfl)) (eda_cons (ed_int (sp rfl (dn (dn hd5)) rfl)) eda_nil)))) gt gp) (fun H1 x1 => ev_is (ev_var rfl) ?_) fun H7 x7 t7 => ?_
      · rw [V.str.injEq]
        unfold laidW cutW
        by_cases e : c1 = c0
        · rw [decide_eq_true e, if_pos e.symm]
          rfl
        · rw [decide_eq_false e, if_neg (show ¬ c0 = c1 from fun z => e z.symm)]
          rfl
      have B7 := bx_extN B6 x7
      have s7 : Ex (noT (noT D5)) H7 := noT_extN s6 x7
      have n7 : noT (noT D5) b.b = none := noT_none n6
      have dc7 := dn (dn dc5)
      have dp7 := dn (dn dp5)
      have hm9 := gp.rect.h9
      refine go_asgD (K := K) (d := dChart (if isChart c0 (tab n m g) = true then c0 else c1) (tab n m g)) s7 (ed_if (c := isChart c0 (tab n m g)) (et_B (ev_is_chart (c := c0) (rows := tab n m g) (eda_cons (ed_tup (eda_cons (ed_ixT (ed_var rfl dc7) ev_c rfl) (eda_cons (ed_ixT (ed_var rfl dp7) ev_c rfl) eda_nil)) (by simp)) eda_nil) (by omega) (fun r hr => by rw [gp.rect.row r hr]; have := gp.rect.w9; omega))) (fun e => by rw [if_pos e]; exact ed_tup (eda_cons (ed_ixT (ed_var rfl dc7) ev_c rfl) (eda_cons (ed_ixT (ed_var rfl dp7) ev_c rfl) eda_nil)) (by simp)) (fun e => by rw [if_neg (show ¬ isChart c0 (tab n m g) = true by rw [e]; decide)]; exact ed_var rfl dp7)) fun vp' H8 D8 g8 hvp => ?_
      obtain ⟨ob, hob⟩ := B7.some
      refine go_next fun H9 e9 => ⟨tabs_ex (tabs_ex t7 g8.ex) e9, (B7.mono g8.ex).mono e9, D8, vp', _, n, m, g, _, _, _, _, g8.sub.trans e9, g8.fr _ _ hob n7, dp_mono g8.dx _ dc7, hvp, ?_, rfl⟩
      split
      · rename_i e
        exact GoodT.same gt.clk gp e
      · exact gp
    · rintro σ' H4 _
      exact go_retE ev_c rfl fun H7 e7 => q H7

end
theorem all_mk {l : PySem.W.OpenLaw} {w : World} {K : PySem.W.Frag} {h : Heap} {mg : Str → Option Value} {fa : Addr} (X : K.In h) (G : h.Ns mainGlobals mg) (hfa : mg "law" = some (.ref fa))
    {f0 : Addr} {od0 an0 : Option Addr} {sl0 : Array (Option Value)} {oc0 kV0 dc0 pm0 cd0 ct0 : Value}
    {f1 : Addr} {od1 an1 : Option Addr} {sl1 : Array (Option Value)} {oc1 kV1 dc1 pm1 cd1 ct1 : Value}
    {f2 : Addr} {od2 an2 : Option Addr} {sl2 : Array (Option Value)} {oc2 kV2 dc2 pm2 cd2 ct2 : Value}
    {f3 : Addr} {od3 an3 : Option Addr} {sl3 : Array (Option Value)} {oc3 kV3 dc3 pm3 cd3 ct3 : Value}
    {f4 : Addr} {od4 an4 : Option Addr} {sl4 : Array (Option Value)} {oc4 kV4 dc4 pm4 cd4 ct4 : Value}
    {f5 : Addr} {od5 an5 : Option Addr} {sl5 : Array (Option Value)} {oc5 kV5 dc5 pm5 cd5 ct5 : Value}
    {f6 : Addr} {od6 an6 : Option Addr} {sl6 : Array (Option Value)} {oc6 kV6 dc6 pm6 cd6 ct6 : Value}
    {f7 : Addr} {od7 an7 : Option Addr} {sl7 : Array (Option Value)} {oc7 kV7 dc7 pm7 cd7 ct7 : Value}
    {f8 : Addr} {od8 an8 : Option Addr} {sl8 : Array (Option Value)} {oc8 kV8 dc8 pm8 cd8 ct8 : Value}
    {T9 : Addr} {oT9 : Value} {pT9 : Option Addr} {nT9 : Nat} {sT9 : Array (Option Value)} {u9_0 : Tok} {u9_1 : Tok}
    {f9 : Addr} {od9 an9 : Option Addr} {sl9 : Array (Option Value)} {oc9 kV9 dc9 pm9 cd9 ct9 : Value}
    {f10 : Addr} {od10 an10 : Option Addr} {sl10 : Array (Option Value)} {oc10 kV10 dc10 pm10 cd10 ct10 : Value}
    {f11 : Addr} {od11 an11 : Option Addr} {sl11 : Array (Option Value)} {oc11 kV11 dc11 pm11 cd11 ct11 : Value}
    {f12 : Addr} {od12 an12 : Option Addr} {sl12 : Array (Option Value)} {oc12 kV12 dc12 pm12 cd12 ct12 : Value}
    {f13 : Addr} {od13 an13 : Option Addr} {sl13 : Array (Option Value)} {oc13 kV13 dc13 pm13 cd13 ct13 : Value}
    {f14 : Addr} {od14 an14 : Option Addr} {sl14 : Array (Option Value)} {oc14 kV14 dc14 pm14 cd14 ct14 : Value}
    {f15 : Addr} {od15 an15 : Option Addr} {sl15 : Array (Option Value)} {oc15 kV15 dc15 pm15 cd15 ct15 : Value}
    {f16 : Addr} {od16 an16 : Option Addr} {sl16 : Array (Option Value)} {oc16 kV16 dc16 pm16 cd16 ct16 : Value}
    {f17 : Addr} {od17 an17 : Option Addr} {sl17 : Array (Option Value)} {oc17 kV17 dc17 pm17 cd17 ct17 : Value}
    {f18 : Addr} {od18 an18 : Option Addr} {sl18 : Array (Option Value)} {oc18 kV18 dc18 pm18 cd18 ct18 : Value}
    {f19 : Addr} {od19 an19 : Option Addr} {sl19 : Array (Option Value)} {oc19 kV19 dc19 pm19 cd19 ct19 : Value}
    {f20 : Addr} {od20 an20 : Option Addr} {sl20 : Array (Option Value)} {oc20 kV20 dc20 pm20 cd20 ct20 : Value}
    {f21 : Addr} {od21 an21 : Option Addr} {sl21 : Array (Option Value)} {oc21 kV21 dc21 pm21 ct21 : Value}
    {cL Pt : Addr}
    {t0 : Tok}
    {t1 : Tok}
    {t2 : Tok}
    {t3 : Tok}
    {C0 : Addr}
    {C1 : Addr}
    {C2 : Addr}
    {C3 : Addr}
    {C4 : Addr}
    {C5 : Addr}
    {C6 : Addr}
    {C7 : Addr}
    {C8 : Addr}
    {C9 : Addr}
    {C10 : Addr}
    {C11 : Addr}
    {C12 : Addr}
    {C13 : Addr}
    {C14 : Addr}
    {C15 : Addr}
    {C16 : Addr}
    {C17 : Addr}
    {C18 : Addr}
    (a0 : PySem.W.nsIn K mainGlobals "is_clock" = some (some (.ref f0))) (l0 : K.lookup f0 = some ⟨oc0, od0, .func (PySem.W.fnOf "is_clock" "is_clock" (defArgs s_is_clock) (defBody s_is_clock) (defScope s_is_clock) .none kV0 dc0 pm0 an0 cd0 ct0), sl0⟩) (c0 : PySem.W.codeIn K cd0 "is_clock" = true) (k0 : PySem.W.keepIn K (.ref f0) = true)
    (a1 : PySem.W.nsIn K mainGlobals "is_what" = some (some (.ref f1))) (l1 : K.lookup f1 = some ⟨oc1, od1, .func (PySem.W.fnOf "is_what" "is_what" (defArgs s_is_what) (defBody s_is_what) (defScope s_is_what) .none kV1 dc1 pm1 an1 cd1 ct1), sl1⟩) (c1 : PySem.W.codeIn K cd1 "is_what" = true) (k1 : PySem.W.keepIn K (.ref f1) = true)
    (a2 : PySem.W.nsIn K mainGlobals "is_row" = some (some (.ref f2))) (l2 : K.lookup f2 = some ⟨oc2, od2, .func (PySem.W.fnOf "is_row" "is_row" (defArgs s_is_row) (defBody s_is_row) (defScope s_is_row) .none kV2 dc2 pm2 an2 cd2 ct2), sl2⟩) (c2 : PySem.W.codeIn K cd2 "is_row" = true) (k2 : PySem.W.keepIn K (.ref f2) = true)
    (a3 : PySem.W.nsIn K mainGlobals "is_chart" = some (some (.ref f3))) (l3 : K.lookup f3 = some ⟨oc3, od3, .func (PySem.W.fnOf "is_chart" "is_chart" (defArgs s_is_chart) (defBody s_is_chart) (defScope s_is_chart) .none kV3 dc3 pm3 an3 cd3 ct3), sl3⟩) (c3 : PySem.W.codeIn K cd3 "is_chart" = true) (k3 : PySem.W.keepIn K (.ref f3) = true)
    (a4 : PySem.W.nsIn K mainGlobals "need_chart" = some (some (.ref f4))) (l4 : K.lookup f4 = some ⟨oc4, od4, .func (PySem.W.fnOf "need_chart" "need_chart" (defArgs s_need_chart) (defBody s_need_chart) (defScope s_need_chart) .none kV4 dc4 pm4 an4 cd4 ct4), sl4⟩) (c4 : PySem.W.codeIn K cd4 "need_chart" = true) (k4 : PySem.W.keepIn K (.ref f4) = true)
    (a5 : PySem.W.nsIn K mainGlobals "size" = some (some (.ref f5))) (l5 : K.lookup f5 = some ⟨oc5, od5, .func (PySem.W.fnOf "size" "size" (defArgs s_size) (defBody s_size) (defScope s_size) .none kV5 dc5 pm5 an5 cd5 ct5), sl5⟩) (c5 : PySem.W.codeIn K cd5 "size" = true) (k5 : PySem.W.keepIn K (.ref f5) = true)
    (a6 : PySem.W.nsIn K mainGlobals "need_within" = some (some (.ref f6))) (l6 : K.lookup f6 = some ⟨oc6, od6, .func (PySem.W.fnOf "need_within" "need_within" (defArgs s_need_within) (defBody s_need_within) (defScope s_need_within) .none kV6 dc6 pm6 an6 cd6 ct6), sl6⟩) (c6 : PySem.W.codeIn K cd6 "need_within" = true) (k6 : PySem.W.keepIn K (.ref f6) = true)
    (a7 : PySem.W.nsIn K mainGlobals "need_fit" = some (some (.ref f7))) (l7 : K.lookup f7 = some ⟨oc7, od7, .func (PySem.W.fnOf "need_fit" "need_fit" (defArgs s_need_fit) (defBody s_need_fit) (defScope s_need_fit) .none kV7 dc7 pm7 an7 cd7 ct7), sl7⟩) (c7 : PySem.W.codeIn K cd7 "need_fit" = true) (k7 : PySem.W.keepIn K (.ref f7) = true)
    (a8 : PySem.W.nsIn K mainGlobals "cut" = some (some (.ref f8))) (l8 : K.lookup f8 = some ⟨oc8, od8, .func (PySem.W.fnOf "cut" "cut" (defArgs s_cut) (defBody s_cut) (defScope s_cut) .none kV8 dc8 pm8 an8 cd8 ct8), sl8⟩) (c8 : PySem.W.codeIn K cd8 "cut" = true) (k8 : PySem.W.keepIn K (.ref f8) = true)
    (a9 : PySem.W.nsIn K mainGlobals "laid_in" = some (some (.ref f9))) (l9 : K.lookup f9 = some ⟨oc9, od9, .func (PySem.W.fnOf "laid_in" "laid_in" (defArgs s_laid_in) (defBody s_laid_in) (defScope s_laid_in) (.ref T9) kV9 dc9 pm9 an9 cd9 ct9), sl9⟩) (c9 : PySem.W.codeIn K cd9 "laid_in" = true) (k9 : PySem.W.keepIn K (.ref f9) = true)
    (dt9 : K.lookup T9 = some ⟨oT9, pT9, .seq #[.int (0) u9_0, .int (0) u9_1] nT9, sT9⟩)
    (a10 : PySem.W.nsIn K mainGlobals "_law_box" = some (some (.ref f10))) (l10 : K.lookup f10 = some ⟨oc10, od10, .func (PySem.W.fnOf "_law_box" "_law_box" (defArgs s_law_box) (defBody s_law_box) (defScope s_law_box) .none kV10 dc10 pm10 an10 cd10 ct10), sl10⟩) (c10 : PySem.W.codeIn K cd10 "_law_box" = true) (k10 : PySem.W.keepIn K (.ref f10) = true)
    (a11 : PySem.W.nsIn K mainGlobals "_law_mixed" = some (some (.ref f11))) (l11 : K.lookup f11 = some ⟨oc11, od11, .func (PySem.W.fnOf "_law_mixed" "_law_mixed" (defArgs s_law_mixed) (defBody s_law_mixed) (defScope s_law_mixed) .none kV11 dc11 pm11 an11 cd11 ct11), sl11⟩) (c11 : PySem.W.codeIn K cd11 "_law_mixed" = true) (k11 : PySem.W.keepIn K (.ref f11) = true)
    (a12 : PySem.W.nsIn K mainGlobals "_law_take" = some (some (.ref f12))) (l12 : K.lookup f12 = some ⟨oc12, od12, .func (PySem.W.fnOf "_law_take" "_law_take" (defArgs s_law_take) (defBody s_law_take) (defScope s_law_take) .none kV12 dc12 pm12 an12 cd12 ct12), sl12⟩) (c12 : PySem.W.codeIn K cd12 "_law_take" = true) (k12 : PySem.W.keepIn K (.ref f12) = true)
    (a13 : PySem.W.nsIn K mainGlobals "_law_clock" = some (some (.ref f13))) (l13 : K.lookup f13 = some ⟨oc13, od13, .func (PySem.W.fnOf "_law_clock" "_law_clock" (defArgs s_law_clock) (defBody s_law_clock) (defScope s_law_clock) .none kV13 dc13 pm13 an13 cd13 ct13), sl13⟩) (c13 : PySem.W.codeIn K cd13 "_law_clock" = true) (k13 : PySem.W.keepIn K (.ref f13) = true)
    (a14 : PySem.W.nsIn K mainGlobals "_law_number" = some (some (.ref f14))) (l14 : K.lookup f14 = some ⟨oc14, od14, .func (PySem.W.fnOf "_law_number" "_law_number" (defArgs s_law_number) (defBody s_law_number) (defScope s_law_number) .none kV14 dc14 pm14 an14 cd14 ct14), sl14⟩) (c14 : PySem.W.codeIn K cd14 "_law_number" = true) (k14 : PySem.W.keepIn K (.ref f14) = true)
    (a15 : PySem.W.nsIn K mainGlobals "_law_square" = some (some (.ref f15))) (l15 : K.lookup f15 = some ⟨oc15, od15, .func (PySem.W.fnOf "_law_square" "_law_square" (defArgs s_law_square) (defBody s_law_square) (defScope s_law_square) .none kV15 dc15 pm15 an15 cd15 ct15), sl15⟩) (c15 : PySem.W.codeIn K cd15 "_law_square" = true) (k15 : PySem.W.keepIn K (.ref f15) = true)
    (a16 : PySem.W.nsIn K mainGlobals "_law_near_hour" = some (some (.ref f16))) (l16 : K.lookup f16 = some ⟨oc16, od16, .func (PySem.W.fnOf "_law_near_hour" "_law_near_hour" (defArgs s_law_near_hour) (defBody s_law_near_hour) (defScope s_law_near_hour) .none kV16 dc16 pm16 an16 cd16 ct16), sl16⟩) (c16 : PySem.W.codeIn K cd16 "_law_near_hour" = true) (k16 : PySem.W.keepIn K (.ref f16) = true)
    (a17 : PySem.W.nsIn K mainGlobals "_law_chart" = some (some (.ref f17))) (l17 : K.lookup f17 = some ⟨oc17, od17, .func (PySem.W.fnOf "_law_chart" "_law_chart" (defArgs s_law_chart) (defBody s_law_chart) (defScope s_law_chart) .none kV17 dc17 pm17 an17 cd17 ct17), sl17⟩) (c17 : PySem.W.codeIn K cd17 "_law_chart" = true) (k17 : PySem.W.keepIn K (.ref f17) = true)
    (a18 : PySem.W.nsIn K mainGlobals "_law_word" = some (some (.ref f18))) (l18 : K.lookup f18 = some ⟨oc18, od18, .func (PySem.W.fnOf "_law_word" "_law_word" (defArgs s_law_word) (defBody s_law_word) (defScope s_law_word) .none kV18 dc18 pm18 an18 cd18 ct18), sl18⟩) (c18 : PySem.W.codeIn K cd18 "_law_word" = true) (k18 : PySem.W.keepIn K (.ref f18) = true)
    (a19 : PySem.W.nsIn K mainGlobals "_law_kind" = some (some (.ref f19))) (l19 : K.lookup f19 = some ⟨oc19, od19, .func (PySem.W.fnOf "_law_kind" "_law_kind" (defArgs s_law_kind) (defBody s_law_kind) (defScope s_law_kind) .none kV19 dc19 pm19 an19 cd19 ct19), sl19⟩) (c19 : PySem.W.codeIn K cd19 "_law_kind" = true) (k19 : PySem.W.keepIn K (.ref f19) = true)
    (a20 : PySem.W.nsIn K mainGlobals "_law_is_chart" = some (some (.ref f20))) (l20 : K.lookup f20 = some ⟨oc20, od20, .func (PySem.W.fnOf "_law_is_chart" "_law_is_chart" (defArgs s_law_is_chart) (defBody s_law_is_chart) (defScope s_law_is_chart) .none kV20 dc20 pm20 an20 cd20 ct20), sl20⟩) (c20 : PySem.W.codeIn K cd20 "_law_is_chart" = true) (k20 : PySem.W.keepIn K (.ref f20) = true)
    (a21 : PySem.W.nsIn K mainGlobals "law" = some (some (.ref f21))) (l21 : K.lookup f21 = some ⟨oc21, od21, .func (PySem.W.fnOf "law" "law" (defArgs s_law) (defBody s_law) (defScope s_law) .none kV21 dc21 pm21 an21 (.ref cL) ct21), sl21⟩) (c21 : PySem.W.codeIn K (.ref cL) "law" = true) (k21 : PySem.W.keepIn K (.ref f21) = true)
    (q0 : PySem.W.nsIn K mainGlobals "LEAST_HOURS" = some (some (.int (3) t0)))
    (q1 : PySem.W.nsIn K mainGlobals "MOST_HOURS" = some (some (.int (15) t1)))
    (q2 : PySem.W.nsIn K mainGlobals "MOST_SQUARES" = some (some (.int (9) t2)))
    (q3 : PySem.W.nsIn K mainGlobals "UNTOLD" = some (some (.int (-2) t3)))
    (z0 : PySem.W.nsIn K mainGlobals "ValueError" = some none)
    (z1 : PySem.W.nsIn K mainGlobals "all" = some none)
    (z2 : PySem.W.nsIn K mainGlobals "enumerate" = some none)
    (z3 : PySem.W.nsIn K mainGlobals "int" = some none)
    (z4 : PySem.W.nsIn K mainGlobals "isinstance" = some none)
    (z5 : PySem.W.nsIn K mainGlobals "len" = some none)
    (z6 : PySem.W.nsIn K mainGlobals "list" = some none)
    (z7 : PySem.W.nsIn K mainGlobals "range" = some none)
    (z8 : PySem.W.nsIn K mainGlobals "tuple" = some none)
    (ga0 : PySem.W.nsIn K mainGlobals "TideError" = some (some (.ref C0)))
    (gk0 : PySem.W.keepIn K (.ref C0) = true)
    (ga1 : PySem.W.nsIn K mainGlobals "BadClock" = some (some (.ref C1)))
    (gk1 : PySem.W.keepIn K (.ref C1) = true)
    (ga2 : PySem.W.nsIn K mainGlobals "BadHour" = some (some (.ref C2)))
    (gk2 : PySem.W.keepIn K (.ref C2) = true)
    (ga3 : PySem.W.nsIn K mainGlobals "BadChart" = some (some (.ref C3)))
    (gk3 : PySem.W.keepIn K (.ref C3) = true)
    (ga4 : PySem.W.nsIn K mainGlobals "BadSquare" = some (some (.ref C4)))
    (gk4 : PySem.W.keepIn K (.ref C4) = true)
    (ga5 : PySem.W.nsIn K mainGlobals "BadRing" = some (some (.ref C5)))
    (gk5 : PySem.W.keepIn K (.ref C5) = true)
    (ga6 : PySem.W.nsIn K mainGlobals "BadBreaks" = some (some (.ref C6)))
    (gk6 : PySem.W.keepIn K (.ref C6) = true)
    (ga7 : PySem.W.nsIn K mainGlobals "BadPrices" = some (some (.ref C7)))
    (gk7 : PySem.W.keepIn K (.ref C7) = true)
    (ga8 : PySem.W.nsIn K mainGlobals "NoFill" = some (some (.ref C8)))
    (gk8 : PySem.W.keepIn K (.ref C8) = true)
    (ga9 : PySem.W.nsIn K mainGlobals "Unlike" = some (some (.ref C9)))
    (gk9 : PySem.W.keepIn K (.ref C9) = true)
    (ga10 : PySem.W.nsIn K mainGlobals "BadName" = some (some (.ref C10)))
    (gk10 : PySem.W.keepIn K (.ref C10) = true)
    (ga11 : PySem.W.nsIn K mainGlobals "Taken" = some (some (.ref C11)))
    (gk11 : PySem.W.keepIn K (.ref C11) = true)
    (ga12 : PySem.W.nsIn K mainGlobals "Full" = some (some (.ref C12)))
    (gk12 : PySem.W.keepIn K (.ref C12) = true)
    (ga13 : PySem.W.nsIn K mainGlobals "NoChart" = some (some (.ref C13)))
    (gk13 : PySem.W.keepIn K (.ref C13) = true)
    (ga14 : PySem.W.nsIn K mainGlobals "BadDay" = some (some (.ref C14)))
    (gk14 : PySem.W.keepIn K (.ref C14) = true)
    (ga15 : PySem.W.nsIn K mainGlobals "BadDeed" = some (some (.ref C15)))
    (gk15 : PySem.W.keepIn K (.ref C15) = true)
    (ga16 : PySem.W.nsIn K mainGlobals "NothingLeft" = some (some (.ref C16)))
    (gk16 : PySem.W.keepIn K (.ref C16) = true)
    (ga17 : PySem.W.nsIn K mainGlobals "Knotted" = some (some (.ref C17)))
    (gk17 : PySem.W.keepIn K (.ref C17) = true)
    (ga18 : PySem.W.nsIn K mainGlobals "BadText" = some (some (.ref C18)))
    (gk18 : PySem.W.keepIn K (.ref C18) = true)
    (te1 : PySem.W.subIn K (.ref C0) (.type "BaseException") = some true)
    (te2 : PySem.W.hasDictIn K C0 = true)
    (te3 : PySem.W.typeIn K (.ref C0) = some (.type "type"))
    (gx3 : PySem.W.excIn K C3 [.type "ValueError", .type "Exception", .type "BaseException", .type "object"] "ValueError.__new__" = true)
    (gs3 : PySem.W.subIn K (.ref C3) (.type "BaseException") = some true)
    (gt3 : PySem.W.typeIn K (.ref C3) = some (.type "type"))
    (gm3 : PySem.W.subIn K (.ref C3) (.ref C0) = some true)
    (ge3_1 : PySem.W.findIn K (.ref C3) "__getattribute__" = some (some (.builtin "BaseException.__getattribute__")))
    (ge3_2 : PySem.W.findIn K (.ref C3) "__getattr__" = some none)
    (ge3_3 : PySem.W.hasDictIn K C3 = true)
    (ge3_4 : PySem.W.findIn K (.ref C3) "__class__" = some (some (.builtin "object.__class__")))
    (ge3_5 : PySem.W.specialIn K (.builtin "object.__class__") "__get__" = some (some (.builtin "getset_descriptor.__get__")))
    (ge3_6 : PySem.W.takesIn K (.builtin "object.__class__") = some true)
    (ge3_7 : PySem.W.mroIn K C3 (.type "object") = some true)
    (gq3_0 : PySem.W.kitOne K (.ref C3) (.ref C1) = some false)
    (gq3_1 : PySem.W.kitOne K (.ref C3) (.ref C2) = some false)
    (gq3_2 : PySem.W.kitOne K (.ref C3) (.ref C3) = some true)
    (gq3_3 : PySem.W.kitOne K (.ref C3) (.ref C4) = some false)
    (gq3_4 : PySem.W.kitOne K (.ref C3) (.ref C5) = some false)
    (gq3_5 : PySem.W.kitOne K (.ref C3) (.ref C6) = some false)
    (gq3_6 : PySem.W.kitOne K (.ref C3) (.ref C7) = some false)
    (gq3_7 : PySem.W.kitOne K (.ref C3) (.ref C8) = some false)
    (gq3_8 : PySem.W.kitOne K (.ref C3) (.ref C9) = some false)
    (gq3_9 : PySem.W.kitOne K (.ref C3) (.ref C10) = some false)
    (gq3_10 : PySem.W.kitOne K (.ref C3) (.ref C11) = some false)
    (gq3_11 : PySem.W.kitOne K (.ref C3) (.ref C12) = some false)
    (gq3_12 : PySem.W.kitOne K (.ref C3) (.ref C13) = some false)
    (gq3_13 : PySem.W.kitOne K (.ref C3) (.ref C14) = some false)
    (gq3_14 : PySem.W.kitOne K (.ref C3) (.ref C15) = some false)
    (gq3_15 : PySem.W.kitOne K (.ref C3) (.ref C16) = some false)
    (gq3_16 : PySem.W.kitOne K (.ref C3) (.ref C17) = some false)
    (gq3_17 : PySem.W.kitOne K (.ref C3) (.ref C18) = some false)
    (gq3_18 : PySem.W.kitOne K (.ref C3) (.type "ValueError") = some true)
    (gx4 : PySem.W.excIn K C4 [.type "ValueError", .type "Exception", .type "BaseException", .type "object"] "ValueError.__new__" = true)
    (gs4 : PySem.W.subIn K (.ref C4) (.type "BaseException") = some true)
    (gt4 : PySem.W.typeIn K (.ref C4) = some (.type "type"))
    (gm4 : PySem.W.subIn K (.ref C4) (.ref C0) = some true)
    (ge4_1 : PySem.W.findIn K (.ref C4) "__getattribute__" = some (some (.builtin "BaseException.__getattribute__")))
    (ge4_2 : PySem.W.findIn K (.ref C4) "__getattr__" = some none)
    (ge4_3 : PySem.W.hasDictIn K C4 = true)
    (ge4_4 : PySem.W.findIn K (.ref C4) "__class__" = some (some (.builtin "object.__class__")))
    (ge4_5 : PySem.W.specialIn K (.builtin "object.__class__") "__get__" = some (some (.builtin "getset_descriptor.__get__")))
    (ge4_6 : PySem.W.takesIn K (.builtin "object.__class__") = some true)
    (ge4_7 : PySem.W.mroIn K C4 (.type "object") = some true)
    (gq4_0 : PySem.W.kitOne K (.ref C4) (.ref C1) = some false)
    (gq4_1 : PySem.W.kitOne K (.ref C4) (.ref C2) = some false)
    (gq4_2 : PySem.W.kitOne K (.ref C4) (.ref C3) = some false)
    (gq4_3 : PySem.W.kitOne K (.ref C4) (.ref C4) = some true)
    (gq4_4 : PySem.W.kitOne K (.ref C4) (.ref C5) = some false)
    (gq4_5 : PySem.W.kitOne K (.ref C4) (.ref C6) = some false)
    (gq4_6 : PySem.W.kitOne K (.ref C4) (.ref C7) = some false)
    (gq4_7 : PySem.W.kitOne K (.ref C4) (.ref C8) = some false)
    (gq4_8 : PySem.W.kitOne K (.ref C4) (.ref C9) = some false)
    (gq4_9 : PySem.W.kitOne K (.ref C4) (.ref C10) = some false)
    (gq4_10 : PySem.W.kitOne K (.ref C4) (.ref C11) = some false)
    (gq4_11 : PySem.W.kitOne K (.ref C4) (.ref C12) = some false)
    (gq4_12 : PySem.W.kitOne K (.ref C4) (.ref C13) = some false)
    (gq4_13 : PySem.W.kitOne K (.ref C4) (.ref C14) = some false)
    (gq4_14 : PySem.W.kitOne K (.ref C4) (.ref C15) = some false)
    (gq4_15 : PySem.W.kitOne K (.ref C4) (.ref C16) = some false)
    (gq4_16 : PySem.W.kitOne K (.ref C4) (.ref C17) = some false)
    (gq4_17 : PySem.W.kitOne K (.ref C4) (.ref C18) = some false)
    (gq4_18 : PySem.W.kitOne K (.ref C4) (.type "ValueError") = some true)
    (gx9 : PySem.W.excIn K C9 [.type "ValueError", .type "Exception", .type "BaseException", .type "object"] "ValueError.__new__" = true)
    (gs9 : PySem.W.subIn K (.ref C9) (.type "BaseException") = some true)
    (gt9 : PySem.W.typeIn K (.ref C9) = some (.type "type"))
    (gm9 : PySem.W.subIn K (.ref C9) (.ref C0) = some true)
    (ge9_1 : PySem.W.findIn K (.ref C9) "__getattribute__" = some (some (.builtin "BaseException.__getattribute__")))
    (ge9_2 : PySem.W.findIn K (.ref C9) "__getattr__" = some none)
    (ge9_3 : PySem.W.hasDictIn K C9 = true)
    (ge9_4 : PySem.W.findIn K (.ref C9) "__class__" = some (some (.builtin "object.__class__")))
    (ge9_5 : PySem.W.specialIn K (.builtin "object.__class__") "__get__" = some (some (.builtin "getset_descriptor.__get__")))
    (ge9_6 : PySem.W.takesIn K (.builtin "object.__class__") = some true)
    (ge9_7 : PySem.W.mroIn K C9 (.type "object") = some true)
    (gq9_0 : PySem.W.kitOne K (.ref C9) (.ref C1) = some false)
    (gq9_1 : PySem.W.kitOne K (.ref C9) (.ref C2) = some false)
    (gq9_2 : PySem.W.kitOne K (.ref C9) (.ref C3) = some false)
    (gq9_3 : PySem.W.kitOne K (.ref C9) (.ref C4) = some false)
    (gq9_4 : PySem.W.kitOne K (.ref C9) (.ref C5) = some false)
    (gq9_5 : PySem.W.kitOne K (.ref C9) (.ref C6) = some false)
    (gq9_6 : PySem.W.kitOne K (.ref C9) (.ref C7) = some false)
    (gq9_7 : PySem.W.kitOne K (.ref C9) (.ref C8) = some false)
    (gq9_8 : PySem.W.kitOne K (.ref C9) (.ref C9) = some true)
    (gq9_9 : PySem.W.kitOne K (.ref C9) (.ref C10) = some false)
    (gq9_10 : PySem.W.kitOne K (.ref C9) (.ref C11) = some false)
    (gq9_11 : PySem.W.kitOne K (.ref C9) (.ref C12) = some false)
    (gq9_12 : PySem.W.kitOne K (.ref C9) (.ref C13) = some false)
    (gq9_13 : PySem.W.kitOne K (.ref C9) (.ref C14) = some false)
    (gq9_14 : PySem.W.kitOne K (.ref C9) (.ref C15) = some false)
    (gq9_15 : PySem.W.kitOne K (.ref C9) (.ref C16) = some false)
    (gq9_16 : PySem.W.kitOne K (.ref C9) (.ref C17) = some false)
    (gq9_17 : PySem.W.kitOne K (.ref C9) (.ref C18) = some false)
    (gq9_18 : PySem.W.kitOne K (.ref C9) (.type "ValueError") = some true)
    (hT : h.get? Pt = some { cls := .none, data := .fields #[] }) (nT : K.lookup Pt = none) (cH : PySem.W.codeHdIn K cL Pt = true) :
    LamX.LawAtS l w K CX0 11 63 "_law_script" mg fa h := by
  have e := hfa.symm.trans (PySem.W.mg_of X G a21)
  cases e
  have F9 : FunD K "laid_in" "laid_in" (defArgs s_laid_in) (defBody s_laid_in) (defScope s_laid_in) [.int (0), .int (0)] [] f9 _ := ⟨⟨_, _, _, _, _, _, _, _, _, _, rfl, l9, c9, .inr ⟨(by simp), T9, _, [.int (0) u9_0, .int (0) u9_1], _, rfl, dt9, rfl, (.cons ⟨_, rfl⟩ (.cons ⟨_, rfl⟩ .nil))⟩, .inl rfl⟩, k9⟩
  have B9 := bindsAll F9 (ps := ["chart", "patch", "top", "left"]) 4 (by simp) (by rfl) fun _ _ _ _ _ _ _ us its hl hi => match us, its, hl, hi with | [_, _, _, _], [_, _], _, _ => ⟨_, rfl, rfl⟩
  have one : ∀ p : Addr × Addr, p ∈ [(cL, Pt)] → p = (cL, Pt) := fun p hp => List.mem_singleton.mp hp
  refine ⟨_, [(cL, Pt)], sp_lawT K Pt, fun p hp => by rw [one p hp]; exact hT, fun p hp => by rw [one p hp]; exact nT, fun p hp => by rw [one p hp]; exact PySem.W.codeHd_of_K X cH, fun s v => ?_, fun H a ns hl _ hH hS => ⟨a, ns, rfl, hS, hl, hH (cL, Pt) List.mem_cons_self, fun _ => rfl⟩, fun base _ _ hB => ok_law (T := ⟨_, _, fun_mk (st := s_is_clock) l0 c0 k0, PySem.W.mg_of X G a0, (fun_mk (st := s_is_clock) l0 c0 k0).binds fun _ _ _ _ _ _ us hl => match us, hl with | [_], _ => rfl,
    _, _, fun_mk (st := s_is_what) l1 c1 k1, PySem.W.mg_of X G a1, (fun_mk (st := s_is_what) l1 c1 k1).binds fun _ _ _ _ _ _ us hl => match us, hl with | [_, _], _ => rfl,
    _, _, fun_mk (st := s_is_row) l2 c2 k2, PySem.W.mg_of X G a2, (fun_mk (st := s_is_row) l2 c2 k2).binds fun _ _ _ _ _ _ us hl => match us, hl with | [_, _, _], _ => rfl,
    _, _, fun_mk (st := s_is_chart) l3 c3 k3, PySem.W.mg_of X G a3, (fun_mk (st := s_is_chart) l3 c3 k3).binds fun _ _ _ _ _ _ us hl => match us, hl with | [_], _ => rfl,
    _, _, fun_mk (st := s_need_chart) l4 c4 k4, PySem.W.mg_of X G a4, (fun_mk (st := s_need_chart) l4 c4 k4).binds fun _ _ _ _ _ _ us hl => match us, hl with | [_], _ => rfl,
    _, _, fun_mk (st := s_size) l5 c5 k5, PySem.W.mg_of X G a5, (fun_mk (st := s_size) l5 c5 k5).binds fun _ _ _ _ _ _ us hl => match us, hl with | [_], _ => rfl,
    _, _, fun_mk (st := s_need_within) l6 c6 k6, PySem.W.mg_of X G a6, (fun_mk (st := s_need_within) l6 c6 k6).binds fun _ _ _ _ _ _ us hl => match us, hl with | [_, _, _, _, _], _ => rfl,
    _, _, fun_mk (st := s_need_fit) l7 c7 k7, PySem.W.mg_of X G a7, (fun_mk (st := s_need_fit) l7 c7 k7).binds fun _ _ _ _ _ _ us hl => match us, hl with | [_, _, _, _], _ => rfl,
    _, _, fun_mk (st := s_cut) l8 c8 k8, PySem.W.mg_of X G a8, (fun_mk (st := s_cut) l8 c8 k8).binds fun _ _ _ _ _ _ us hl => match us, hl with | [_, _, _, _, _], _ => rfl,
    _, _, F9, PySem.W.mg_of X G a9, B9,
    _, _, fun_mk (st := s_law_box) l10 c10 k10, PySem.W.mg_of X G a10, (fun_mk (st := s_law_box) l10 c10 k10).binds fun _ _ _ _ _ _ us hl => match us, hl with | [_], _ => rfl,
    _, _, fun_mk (st := s_law_mixed) l11 c11 k11, PySem.W.mg_of X G a11, (fun_mk (st := s_law_mixed) l11 c11 k11).binds fun _ _ _ _ _ _ us hl => match us, hl with | [_, _], _ => rfl,
    _, _, fun_mk (st := s_law_take) l12 c12 k12, PySem.W.mg_of X G a12, (fun_mk (st := s_law_take) l12 c12 k12).binds fun _ _ _ _ _ _ us hl => match us, hl with | [_, _], _ => rfl,
    _, _, fun_mk (st := s_law_clock) l13 c13 k13, PySem.W.mg_of X G a13, (fun_mk (st := s_law_clock) l13 c13 k13).binds fun _ _ _ _ _ _ us hl => match us, hl with | [_], _ => rfl,
    _, _, fun_mk (st := s_law_number) l14 c14 k14, PySem.W.mg_of X G a14, (fun_mk (st := s_law_number) l14 c14 k14).binds fun _ _ _ _ _ _ us hl => match us, hl with | [_], _ => rfl,
    _, _, fun_mk (st := s_law_square) l15 c15 k15, PySem.W.mg_of X G a15, (fun_mk (st := s_law_square) l15 c15 k15).binds fun _ _ _ _ _ _ us hl => match us, hl with | [_, _, _, _, _, _], _ => rfl,
    _, _, fun_mk (st := s_law_near_hour) l16 c16 k16, PySem.W.mg_of X G a16, (fun_mk (st := s_law_near_hour) l16 c16 k16).binds fun _ _ _ _ _ _ us hl => match us, hl with | [_, _], _ => rfl,
    _, _, fun_mk (st := s_law_chart) l17 c17 k17, PySem.W.mg_of X G a17, (fun_mk (st := s_law_chart) l17 c17 k17).binds fun _ _ _ _ _ _ us hl => match us, hl with | [_, _, _], _ => rfl,
    _, _, fun_mk (st := s_law_word) l18 c18 k18, PySem.W.mg_of X G a18, (fun_mk (st := s_law_word) l18 c18 k18).binds fun _ _ _ _ _ _ us hl => match us, hl with | [_], _ => rfl,
    _, _, fun_mk (st := s_law_kind) l19 c19 k19, PySem.W.mg_of X G a19, (fun_mk (st := s_law_kind) l19 c19 k19).binds fun _ _ _ _ _ _ us hl => match us, hl with | [_], _ => rfl,
    _, _, fun_mk (st := s_law_is_chart) l20 c20 k20, PySem.W.mg_of X G a20, (fun_mk (st := s_law_is_chart) l20 c20 k20).binds fun _ _ _ _ _ _ us hl => match us, hl with | [_], _ => rfl,
    _, _, fun_mk (st := s_law) l21 c21 k21, PySem.W.mg_of X G a21, (fun_mk (st := s_law) l21 c21 k21).binds fun _ _ _ _ _ _ us hl => match us, hl with | [_], _ => rfl,
    t0, PySem.W.mg_of X G q0,
    t1, PySem.W.mg_of X G q1,
    t2, PySem.W.mg_of X G q2,
    t3, PySem.W.mg_of X G q3,
    PySem.W.mg_none_of X G z0,
    PySem.W.mg_none_of X G z1,
    PySem.W.mg_none_of X G z2,
    PySem.W.mg_none_of X G z3,
    PySem.W.mg_none_of X G z4,
    PySem.W.mg_none_of X G z5,
    PySem.W.mg_none_of X G z6,
    PySem.W.mg_none_of X G z7,
    PySem.W.mg_none_of X G z8,
    C0,
    C1,
    C2,
    C3,
    C4,
    C5,
    C6,
    C7,
    C8,
    C9,
    C10,
    C11,
    C12,
    C13,
    C14,
    C15,
    C16,
    C17,
    C18,
    ⟨PySem.W.mg_of X G ga0, gk0⟩,
    ⟨PySem.W.mg_of X G ga1, gk1⟩,
    ⟨PySem.W.mg_of X G ga2, gk2⟩,
    ⟨PySem.W.mg_of X G ga3, gk3⟩,
    ⟨PySem.W.mg_of X G ga4, gk4⟩,
    ⟨PySem.W.mg_of X G ga5, gk5⟩,
    ⟨PySem.W.mg_of X G ga6, gk6⟩,
    ⟨PySem.W.mg_of X G ga7, gk7⟩,
    ⟨PySem.W.mg_of X G ga8, gk8⟩,
    ⟨PySem.W.mg_of X G ga9, gk9⟩,
    ⟨PySem.W.mg_of X G ga10, gk10⟩,
    ⟨PySem.W.mg_of X G ga11, gk11⟩,
    ⟨PySem.W.mg_of X G ga12, gk12⟩,
    ⟨PySem.W.mg_of X G ga13, gk13⟩,
    ⟨PySem.W.mg_of X G ga14, gk14⟩,
    ⟨PySem.W.mg_of X G ga15, gk15⟩,
    ⟨PySem.W.mg_of X G ga16, gk16⟩,
    ⟨PySem.W.mg_of X G ga17, gk17⟩,
    ⟨PySem.W.mg_of X G ga18, gk18⟩,
    ⟨⟨PySem.W.mg_of X G ga3, gk3⟩, gx3, gs3, gt3⟩,
    ⟨ge3_1, ge3_2, gs3, ge3_3, ge3_4, ge3_5, ge3_6, ge3_7⟩,
    (.cons gq3_0 (.cons gq3_1 (.cons gq3_2 (.cons gq3_3 (.cons gq3_4 (.cons gq3_5 (.cons gq3_6 (.cons gq3_7 (.cons gq3_8 (.cons gq3_9 (.cons gq3_10 (.cons gq3_11 (.cons gq3_12 (.cons gq3_13 (.cons gq3_14 (.cons gq3_15 (.cons gq3_16 (.cons gq3_17 (.cons gq3_18 .nil))))))))))))))))))),
    PySem.W.exm_ref te1 te2 te3 gm3,
    ⟨⟨PySem.W.mg_of X G ga4, gk4⟩, gx4, gs4, gt4⟩,
    ⟨ge4_1, ge4_2, gs4, ge4_3, ge4_4, ge4_5, ge4_6, ge4_7⟩,
    (.cons gq4_0 (.cons gq4_1 (.cons gq4_2 (.cons gq4_3 (.cons gq4_4 (.cons gq4_5 (.cons gq4_6 (.cons gq4_7 (.cons gq4_8 (.cons gq4_9 (.cons gq4_10 (.cons gq4_11 (.cons gq4_12 (.cons gq4_13 (.cons gq4_14 (.cons gq4_15 (.cons gq4_16 (.cons gq4_17 (.cons gq4_18 .nil))))))))))))))))))),
    PySem.W.exm_ref te1 te2 te3 gm4,
    ⟨⟨PySem.W.mg_of X G ga9, gk9⟩, gx9, gs9, gt9⟩,
    ⟨ge9_1, ge9_2, gs9, ge9_3, ge9_4, ge9_5, ge9_6, ge9_7⟩,
    (.cons gq9_0 (.cons gq9_1 (.cons gq9_2 (.cons gq9_3 (.cons gq9_4 (.cons gq9_5 (.cons gq9_6 (.cons gq9_7 (.cons gq9_8 (.cons gq9_9 (.cons gq9_10 (.cons gq9_11 (.cons gq9_12 (.cons gq9_13 (.cons gq9_14 (.cons gq9_15 (.cons gq9_16 (.cons gq9_17 (.cons gq9_18 .nil))))))))))))))))))),
    PySem.W.exm_ref te1 te2 te3 gm9⟩) l21 c21 (hB (cL, Pt) List.mem_cons_self)⟩
  exact .of_eq rfl
end C_k32
open PySem PySem.W PyProof.Rows
set_option maxHeartbeats 0 in
theorem PySem.Challenge.cw_cotide_k32_patches_refused_holds : PySem.Challenge.rw_cotide_k32_patches_refused.Holds := by
  w_on; o_law; k_head; (case hw => w_witness2)
  k_fill
  refine LamX.walk_ofTs (l := PySem.Challenge.rw_cotide_k32_patches_refused) (n := 63) (k := 11) (x := "_law_script") (CX := fun _ => L2.CX0) rfl (by decide) rfl ⟨rfl, by decide, by decide⟩ (fun w h Y => PySem.W.km_in_of Y) ?F (fun _ _ _ _ _ h => h)
  case F =>
    intro w mg fa h Y KX G hmg
    have hT := PySem.W.km_tabs_of Y
    refine' C_k32.all_mk KX G hmg ?a0 ?l0 ?c0 ?k0 ?a1 ?l1 ?c1 ?k1 ?a2 ?l2 ?c2 ?k2 ?a3 ?l3 ?c3 ?k3 ?a4 ?l4 ?c4 ?k4 ?a5 ?l5 ?c5 ?k5 ?a6 ?l6 ?c6 ?k6 ?a7 ?l7 ?c7 ?k7 ?a8 ?l8 ?c8 ?k8 ?a9 ?l9 ?c9 ?k9 ?dt9 ?a10 ?l10 ?c10 ?k10 ?a11 ?l11 ?c11 ?k11 ?a12 ?l12 ?c12 ?k12 ?a13 ?l13 ?c13 ?k13 ?a14 ?l14 ?c14 ?k14 ?a15 ?l15 ?c15 ?k15 ?a16 ?l16 ?c16 ?k16 ?a17 ?l17 ?c17 ?k17 ?a18 ?l18 ?c18 ?k18 ?a19 ?l19 ?c19 ?k19 ?a20 ?l20 ?c20 ?k20 ?a21 ?l21 ?c21 ?k21 ?q0 ?q1 ?q2 ?q3 ?z0 ?z1 ?z2 ?z3 ?z4 ?z5 ?z6 ?z7 ?z8 ?ga0 ?gk0 ?ga1 ?gk1 ?ga2 ?gk2 ?ga3 ?gk3 ?ga4 ?gk4 ?ga5 ?gk5 ?ga6 ?gk6 ?ga7 ?gk7 ?ga8 ?gk8 ?ga9 ?gk9 ?ga10 ?gk10 ?ga11 ?gk11 ?ga12 ?gk12 ?ga13 ?gk13 ?ga14 ?gk14 ?ga15 ?gk15 ?ga16 ?gk16 ?ga17 ?gk17 ?ga18 ?gk18 ?te1 ?te2 ?te3 ?gx3 ?gs3 ?gt3 ?gm3 ?ge3_1 ?ge3_2 ?ge3_3 ?ge3_4 ?ge3_5 ?ge3_6 ?ge3_7 ?gq3_0 ?gq3_1 ?gq3_2 ?gq3_3 ?gq3_4 ?gq3_5 ?gq3_6 ?gq3_7 ?gq3_8 ?gq3_9 ?gq3_10 ?gq3_11 ?gq3_12 ?gq3_13 ?gq3_14 ?gq3_15 ?gq3_16 ?gq3_17 ?gq3_18 ?gx4 ?gs4 ?gt4 ?gm4 ?ge4_1 ?ge4_2 ?ge4_3 ?ge4_4 ?ge4_5 ?ge4_6 ?ge4_7 ?gq4_0 ?gq4_1 ?gq4_2 ?gq4_3 ?gq4_4 ?gq4_5 ?gq4_6 ?gq4_7 ?gq4_8 ?gq4_9 ?gq4_10 ?gq4_11 ?gq4_12 ?gq4_13 ?gq4_14 ?gq4_15 ?gq4_16 ?gq4_17 ?gq4_18 ?gx9 ?gs9 ?gt9 ?gm9 ?ge9_1 ?ge9_2 ?ge9_3 ?ge9_4 ?ge9_5 ?ge9_6 ?ge9_7 ?gq9_0 ?gq9_1 ?gq9_2 ?gq9_3 ?gq9_4 ?gq9_5 ?gq9_6 ?gq9_7 ?gq9_8 ?gq9_9 ?gq9_10 ?gq9_11 ?gq9_12 ?gq9_13 ?gq9_14 ?gq9_15 ?gq9_16 ?gq9_17 ?gq9_18 (hT _ List.mem_cons_self) ?nT ?cH
    (case a0 => k_is); (case l0 => k_is); (case c0 => k_is); (case k0 => k_is); (case a1 => k_is); (case l1 => k_is); (case c1 => k_is); (case k1 => k_is); (case a2 => k_is); (case l2 => k_is); (case c2 => k_is); (case k2 => k_is); (case a3 => k_is); (case l3 => k_is); (case c3 => k_is); (case k3 => k_is); (case a4 => k_is); (case l4 => k_is); (case c4 => k_is); (case k4 => k_is); (case a5 => k_is); (case l5 => k_is); (case c5 => k_is); (case k5 => k_is); (case a6 => k_is); (case l6 => k_is); (case c6 => k_is); (case k6 => k_is); (case a7 => k_is); (case l7 => k_is); (case c7 => k_is); (case k7 => k_is); (case a8 => k_is); (case l8 => k_is); (case c8 => k_is); (case k8 => k_is); (case a9 => k_is); (case l9 => k_is); (case c9 => k_is); (case k9 => k_is); (case dt9 => k_is); (case a10 => k_is); (case l10 => k_is); (case c10 => k_is); (case k10 => k_is); (case a11 => k_is); (case l11 => k_is); (case c11 => k_is); (case k11 => k_is); (case a12 => k_is); (case l12 => k_is); (case c12 => k_is); (case k12 => k_is); (case a13 => k_is); (case l13 => k_is); (case c13 => k_is); (case k13 => k_is); (case a14 => k_is); (case l14 => k_is); (case c14 => k_is); (case k14 => k_is); (case a15 => k_is); (case l15 => k_is); (case c15 => k_is); (case k15 => k_is); (case a16 => k_is); (case l16 => k_is); (case c16 => k_is); (case k16 => k_is); (case a17 => k_is); (case l17 => k_is); (case c17 => k_is); (case k17 => k_is); (case a18 => k_is); (case l18 => k_is); (case c18 => k_is); (case k18 => k_is); (case a19 => k_is); (case l19 => k_is); (case c19 => k_is); (case k19 => k_is); (case a20 => k_is); (case l20 => k_is); (case c20 => k_is); (case k20 => k_is); (case a21 => k_is); (case l21 => k_is); (case c21 => k_is); (case k21 => k_is); (case q0 => k_is); (case q1 => k_is); (case q2 => k_is); (case q3 => k_is); (case z0 => k_is); (case z1 => k_is); (case z2 => k_is); (case z3 => k_is); (case z4 => k_is); (case z5 => k_is); (case z6 => k_is); (case z7 => k_is); (case z8 => k_is); (case ga0 => k_is); (case gk0 => k_is); (case ga1 => k_is); (case gk1 => k_is); (case ga2 => k_is); (case gk2 => k_is); (case ga3 => k_is); (case gk3 => k_is); (case ga4 => k_is); (case gk4 => k_is); (case ga5 => k_is); (case gk5 => k_is); (case ga6 => k_is); (case gk6 => k_is); (case ga7 => k_is); (case gk7 => k_is); (case ga8 => k_is); (case gk8 => k_is); (case ga9 => k_is); (case gk9 => k_is); (case ga10 => k_is); (case gk10 => k_is); (case ga11 => k_is); (case gk11 => k_is); (case ga12 => k_is); (case gk12 => k_is); (case ga13 => k_is); (case gk13 => k_is); (case ga14 => k_is); (case gk14 => k_is); (case ga15 => k_is); (case gk15 => k_is); (case ga16 => k_is); (case gk16 => k_is); (case ga17 => k_is); (case gk17 => k_is); (case ga18 => k_is); (case gk18 => k_is); (case te1 => k_is); (case te2 => k_is); (case te3 => k_is); (case gx3 => k_exc); (case gs3 => k_is); (case gt3 => k_is); (case gm3 => k_is); (case ge3_1 => k_is); (case ge3_2 => k_is); (case ge3_3 => k_is); (case ge3_4 => k_is); (case ge3_5 => k_is); (case ge3_6 => k_is); (case ge3_7 => k_is); (case gq3_0 => kit_is); (case gq3_1 => kit_is); (case gq3_2 => kit_is); (case gq3_3 => kit_is); (case gq3_4 => kit_is); (case gq3_5 => kit_is); (case gq3_6 => kit_is); (case gq3_7 => kit_is); (case gq3_8 => kit_is); (case gq3_9 => kit_is); (case gq3_10 => kit_is); (case gq3_11 => kit_is); (case gq3_12 => kit_is); (case gq3_13 => kit_is); (case gq3_14 => kit_is); (case gq3_15 => kit_is); (case gq3_16 => kit_is); (case gq3_17 => kit_is); (case gq3_18 => kit_is); (case gx4 => k_exc); (case gs4 => k_is); (case gt4 => k_is); (case gm4 => k_is); (case ge4_1 => k_is); (case ge4_2 => k_is); (case ge4_3 => k_is); (case ge4_4 => k_is); (case ge4_5 => k_is); (case ge4_6 => k_is); (case ge4_7 => k_is); (case gq4_0 => kit_is); (case gq4_1 => kit_is); (case gq4_2 => kit_is); (case gq4_3 => kit_is); (case gq4_4 => kit_is); (case gq4_5 => kit_is); (case gq4_6 => kit_is); (case gq4_7 => kit_is); (case gq4_8 => kit_is); (case gq4_9 => kit_is); (case gq4_10 => kit_is); (case gq4_11 => kit_is); (case gq4_12 => kit_is); (case gq4_13 => kit_is); (case gq4_14 => kit_is); (case gq4_15 => kit_is); (case gq4_16 => kit_is); (case gq4_17 => kit_is); (case gq4_18 => kit_is); (case gx9 => k_exc); (case gs9 => k_is); (case gt9 => k_is); (case gm9 => k_is); (case ge9_1 => k_is); (case ge9_2 => k_is); (case ge9_3 => k_is); (case ge9_4 => k_is); (case ge9_5 => k_is); (case ge9_6 => k_is); (case ge9_7 => k_is); (case gq9_0 => kit_is); (case gq9_1 => kit_is); (case gq9_2 => kit_is); (case gq9_3 => kit_is); (case gq9_4 => kit_is); (case gq9_5 => kit_is); (case gq9_6 => kit_is); (case gq9_7 => kit_is); (case gq9_8 => kit_is); (case gq9_9 => kit_is); (case gq9_10 => kit_is); (case gq9_11 => kit_is); (case gq9_12 => kit_is); (case gq9_13 => kit_is); (case gq9_14 => kit_is); (case gq9_15 => kit_is); (case gq9_16 => kit_is); (case gq9_17 => kit_is); (case gq9_18 => kit_is); (case nT => kernel_rfl); (case cH => kernel_rfl)
