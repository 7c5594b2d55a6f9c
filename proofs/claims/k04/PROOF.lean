import PyProof.Rows.All
import Wide.All
import OpenK.AllK
import Wide.FinOn
import HandS.Defaults
import KE.RegKIsAll
import KE.KLam
import KE.KNestM
import HandS.EndTab
import HandS.ForMost
import HandS.Evl
import HandS.IsInst
import HandS.Wide
import HandS.Zip
import HandS.Walk
import HandS.Style
import HandS.TupAny
import HandS.TupMul
import HandS.Sort
import KE.GoesMore
import HandS.HotCalls
import HandS.Lambda
import HandS.ExcCtx
import HandS.ExcIs
import HandS.Text
import PySem.Challenge.RW_cotide_k04_clocks_and_hours_refused
set_option Elab.async false
set_option linter.all false
set_option maxRecDepth 100000
set_option maxHeartbeats 4000000
set_option Elab.async false
set_option linter.all false
set_option maxRecDepth 100000
set_option maxHeartbeats 4000000
/-! Data in two heaps: Hd, what is data and stays; H, all that stands now. -/
namespace Cot
open PySem L2 Evl
section
variable {K : PySem.W.Frag} {H H' Hd Hn H1 H2 Hm : Hp}
mutual
theorem dp_mono (e : Ex H H') : ∀ (d : PyData) {v : V}, Dp K H v d → Dp K H' v d
  | .none, _, h => by cases h; exact .non
  | .bool b, _, h => by cases h; exact .bl b
  | .int i, _, h => by cases h; exact .int i
  | .str x, _, h => by cases h; exact .str x
  | .list ds, _, h => by
    cases h with
    | lst hs ha => exact .lst (ex_l e hs) (dpa_mono e ds ha)
  | .tuple ds, _, h => by
    cases h with
    | tup hs ha => exact .tup (ex_t e hs) (dpa_mono e ds ha)
  | .dict _, _, h => by cases h
theorem dpa_mono (e : Ex H H') : ∀ (ds : List PyData) {vs : List V}, DpAll K H vs ds → DpAll K H' vs ds
  | [], _, h => by cases h; exact .nil
  | d :: ds, _, h => by
    cases h with
    | cons h1 h2 => exact .cons (dp_mono e d h1) (dpa_mono e ds h2)
end
theorem dpa_len : ∀ {vs : List V} {ds : List PyData}, DpAll K H vs ds → vs.length = ds.length
  | _, [], h => by cases h; rfl
  | _, d :: ds, h => by
    cases h with
    | cons h1 h2 => rw [List.length_cons, List.length_cons, dpa_len h2]
theorem dpa_get : ∀ {ds : List PyData} {vs : List V} {i : Nat} {d : PyData}, DpAll K H vs ds → ds[i]? = some d → ∃ v, vs[i]? = some v ∧ Dp K H v d
  | [], _, i, d, h, e => by simp at e
  | d0 :: ds, _, 0, d, h, e => by
    cases h with
    | cons h1 h2 =>
      have e' : d0 = d := Option.some.inj e
      subst e'
      exact ⟨_, rfl, h1⟩
  | d0 :: ds, _, i + 1, d, h, e => by
    cases h with
    | cons h1 h2 =>
      obtain ⟨v, q1, q2⟩ := dpa_get (i := i) h2 (by simpa using e)
      exact ⟨v, by simpa using q1, q2⟩
theorem dpa_get2 : ∀ {ds : List PyData} {vs : List V} {i : Nat} {v : V}, DpAll K H vs ds → vs[i]? = some v → ∃ d, ds[i]? = some d ∧ Dp K H v d
  | [], _, i, d, h, e => by cases h; simp at e
  | d0 :: ds, _, 0, v, h, e => by
    cases h with
    | cons h1 h2 =>
      have e' := Option.some.inj e
      subst e'
      exact ⟨_, rfl, h1⟩
  | d0 :: ds, _, i + 1, v, h, e => by
    cases h with
    | cons h1 h2 =>
      obtain ⟨v, q1, q2⟩ := dpa_get2 (i := i) h2 (by simpa using e)
      exact ⟨v, by simpa using q1, q2⟩
theorem dpa_at {ds : List PyData} {vs : List V} {i : Int} {d : PyData} (h : DpAll K H vs ds) (e : atI ds i = some d) : ∃ v, atI vs i = some v ∧ Dp K H v d := by
  unfold atI at e ⊢
  rw [dpa_len h]
  cases hx : ixN ds.length i with
  | none => rw [hx] at e; cases e
  | some j =>
    rw [hx] at e
    exact dpa_get h e
theorem dpa_app : ∀ {ds es : List PyData} {vs ws : List V}, DpAll K H vs ds → DpAll K H ws es → DpAll K H (vs ++ ws) (ds ++ es)
  | [], _, _, _, h, h2 => by cases h; exact h2
  | d :: ds, es, _, ws, h, h2 => by
    cases h with
    | cons a b => exact .cons a (dpa_app b h2)
theorem dpa_take : ∀ (n : Nat) {ds : List PyData} {vs : List V}, DpAll K H vs ds → DpAll K H (vs.take n) (ds.take n)
  | 0, _, _, _ => by rw [List.take_zero, List.take_zero]; exact .nil
  | n + 1, [], _, h => by cases h; exact .nil
  | n + 1, d :: ds, _, h => by
    cases h with
    | cons a b => exact .cons a (dpa_take n b)
theorem dpa_drop : ∀ (n : Nat) {ds : List PyData} {vs : List V}, DpAll K H vs ds → DpAll K H (vs.drop n) (ds.drop n)
  | 0, _, _, h => h
  | n + 1, [], _, h => by cases h; exact .nil
  | n + 1, d :: ds, _, h => by
    cases h with
    | cons a b => exact dpa_drop n b
theorem dpa_ints : ∀ (ns : List Int), DpAll K H (ns.map V.int) (ns.map PyData.int)
  | [] => .nil
  | n :: ns => .cons (.int n) (dpa_ints ns)
theorem dpa_bools : ∀ (ns : List Bool), DpAll K H (ns.map V.bl) (ns.map PyData.bool)
  | [] => .nil
  | n :: ns => .cons (.bl n) (dpa_bools ns)
theorem dpa_ints_inv : ∀ {ns : List Int} {vs : List V}, DpAll K H vs (ns.map PyData.int) → vs = ns.map V.int
  | [], _, h => by cases h; rfl
  | n :: ns, _, h => by
    cases h with
    | cons a b =>
      cases a
      rw [dpa_ints_inv b]
      rfl
theorem dpa_bools_inv : ∀ {ns : List Bool} {vs : List V}, DpAll K H vs (ns.map PyData.bool) → vs = ns.map V.bl
  | [], _, h => by cases h; rfl
  | n :: ns, _, h => by
    cases h with
    | cons a b =>
      cases a
      rw [dpa_bools_inv b]
      rfl

/-- Hd grows to Hn by new places alone, H to H2 -/
structure Gr (Hd H Hn H2 : Hp) : Prop where
  ex : Ex H H2
  dx : Ex Hd Hn
  sub : Ex Hn H2
  fr : ∀ a o, H a = some o → Hd a = none → Hn a = none
theorem Gr.refl (s : Ex Hd H) : Gr Hd H Hd H := ⟨Ex.refl _, Ex.refl _, s, fun _ _ _ h => h⟩
theorem Gr.trans (g1 : Gr Hd H Hn H1) (g2 : Gr Hn H1 Hm H2) : Gr Hd H Hm H2 := ⟨g1.ex.trans g2.ex, g1.dx.trans g2.dx, g2.sub, fun a o ha hd => g2.fr a o (g1.ex a o ha) (g1.fr a o ha hd)⟩
theorem Gr.ext (s : Ex Hd H) (e : Ex H H2) : Gr Hd H Hd H2 := ⟨e, Ex.refl _, s.trans e, fun _ _ _ h => h⟩
theorem Gr.pre (e : Ex H H1) (g : Gr Hd H1 Hn H2) : Gr Hd H Hn H2 := ⟨e.trans g.ex, g.dx, g.sub, fun a o ha hd => g.fr a o (e a o ha) hd⟩
theorem Gr.post (g : Gr Hd H Hn H1) (e : Ex H1 H2) : Gr Hd H Hn H2 := ⟨g.ex.trans e, g.dx, g.sub.trans e, g.fr⟩
theorem ex_upd2 {p : Addr} {o : HO} (s : Ex Hd H) : Ex (upd Hd p o) (upd H p o) := fun a u h => by
  by_cases e : a = p
  · subst e
    rw [upd_same] at h ⊢
    exact h
  · rw [upd_ne e] at h ⊢
    exact s a u h
theorem Gr.new {p : Addr} {o : HO} (s : Ex Hd H) (h : H p = none) : Gr Hd H (upd Hd p o) (upd H p o) :=
  ⟨Ex.new h, Ex.new (fresh_back s h), ex_upd2 s, fun a u ha hd => by rw [upd_ne (ne_of_none ha h)]; exact hd⟩
/-- a new place that is no data -/
theorem Gr.alloc {p : Addr} {o : HO} (s : Ex Hd H) (h : H p = none) : Gr Hd H Hd (upd H p o) := Gr.ext s (Ex.new h)

def un (A B : Hp) : Hp := fun a => match A a with | some o => some o | none => B a
theorem un_l {A B : Hp} : Ex A (un A B) := fun a o h => by unfold un; rw [h]
theorem un_r {A B C : Hp} (a : Ex A C) (b : Ex B C) : Ex B (un A B) := fun x o h => by
  unfold un
  cases hA : A x with
  | none => exact h
  | some u =>
    have h1 := a x u hA
    rw [b x o h] at h1
    exact h1.symm
theorem un_sub {A B C : Hp} (a : Ex A C) (b : Ex B C) : Ex (un A B) C := fun x o h => by
  unfold un at h
  cases hA : A x with
  | none => rw [hA] at h; exact b x o h
  | some u => rw [hA] at h; exact a x o (hA.trans h)
theorem Gr.up {Hd' : Hp} (e : Ex Hd Hd') (s : Ex Hd' H) (g : Gr Hd H Hn H2) : Gr Hd' H (un Hd' Hn) H2 :=
  ⟨g.ex, un_l, un_sub (s.trans g.ex) g.sub, fun a o ha hd => by
    unfold un
    rw [hd]
    exact g.fr a o ha (fresh_back e hd)⟩
theorem Gr.upr {Hd' : Hp} (e : Ex Hd Hd') (s : Ex Hd' H) (g : Gr Hd H Hn H2) : Ex Hn (un Hd' Hn) := un_r (s.trans g.ex) g.sub

/-! ### what evaluates to which data -/
def EvD (K : PySem.W.Frag) (te : TE) (σ : L2.St) (Hd : Hp) (d : PyData) : Prop := ∀ H, Ex Hd H → ∀ Q : VK, (∀ v H2 Hn, Gr Hd H Hn H2 → Dp K Hn v d → Q v H2) → te σ H Q
def EvDA (K : PySem.W.Frag) (ta : TA) (σ : L2.St) (Hd : Hp) (ds : List PyData) : Prop := ∀ H, Ex Hd H → ∀ Q : List V → Hp → Prop, (∀ vs H2 Hn, Gr Hd H Hn H2 → DpAll K Hn vs ds → Q vs H2) → ta σ H Q
/-- a new list -/
def EvN (K : PySem.W.Frag) (te : TE) (σ : L2.St) (Hd : Hp) (ds : List PyData) : Prop := ∀ H, Ex Hd H → ∀ Q : VK, (∀ p xs H2 Hn, Gr Hd H Hn H2 → H p = none → Hn p = none → H2 p = some (.lst xs) → DpAll K Hn xs ds → Q (.ref p) H2) → te σ H Q
end
section
variable {K : PySem.W.Frag} {σ : L2.St} {H H' Hd Hd' Hn H1 H2 : Hp} {ta tb te tx : TE} {t u : TT} {x y z v : V} {r : R2} {d : PyData} {ds : List PyData} {tr : TA}
theorem EvD.mono (e : Ex Hd Hd') (h : EvD K te σ Hd d) : EvD K te σ Hd' d := fun H s Q q => h H (e.trans s) Q fun v H2 Hn g hd => q v H2 _ (g.up e s) (dp_mono (g.upr e s) d hd)
theorem EvDA.mono (e : Ex Hd Hd') (h : EvDA K tr σ Hd ds) : EvDA K tr σ Hd' ds := fun H s Q q => h H (e.trans s) Q fun v H2 Hn g hd => q v H2 _ (g.up e s) (dpa_mono (g.upr e s) ds hd)
theorem EvN.mono (e : Ex Hd Hd') (h : EvN K te σ Hd ds) : EvN K te σ Hd' ds := fun H s Q q => h H (e.trans s) Q fun p xs H2 Hn g hp hn h2 hd => q p xs H2 _ (g.up e s) hp (by
  unfold un
  rw [fresh_back s hp]
  exact hn) h2 (dpa_mono (g.upr e s) ds hd)
theorem ed_ev (h : Ev te σ Hd v) (hd : Dp K Hd v d) : EvD K te σ Hd d := fun H s Q q => h H s Q fun H2 e => q v H2 Hd (Gr.ext s e) hd
theorem ed_var {i : Nat} (h : σ[i]? = some (some v)) (hd : Dp K Hd v d) : EvD K (tVar i) σ Hd d := ed_ev (ev_var h) hd
theorem ev_int {i : Int} (h : EvD K te σ Hd (.int i)) : Ev te σ Hd (.int i) := fun H s Q q => h H s Q fun v H2 Hn g hd => by cases hd; exact q H2 g.ex
theorem ev_bool {i : Bool} (h : EvD K te σ Hd (.bool i)) : Ev te σ Hd (.bl i) := fun H s Q q => h H s Q fun v H2 Hn g hd => by cases hd; exact q H2 g.ex
theorem ev_str {i : Str} (h : EvD K te σ Hd (.str i)) : Ev te σ Hd (.str i) := fun H s Q q => h H s Q fun v H2 Hn g hd => by cases hd; exact q H2 g.ex
theorem ev_none (h : EvD K te σ Hd .none) : Ev te σ Hd .non := fun H s Q q => h H s Q fun v H2 Hn g hd => by cases hd; exact q H2 g.ex
theorem ed_int {i : Int} (h : Ev te σ Hd (.int i)) : EvD K te σ Hd (.int i) := ed_ev h (.int i)
theorem ed_bool {i : Bool} (h : Ev te σ Hd (.bl i)) : EvD K te σ Hd (.bool i) := ed_ev h (.bl i)
theorem ed_str {i : Str} (h : Ev te σ Hd (.str i)) : EvD K te σ Hd (.str i) := ed_ev h (.str i)
theorem ed_non (h : Ev te σ Hd .non) : EvD K te σ Hd .none := ed_ev h .non
theorem eda_nil : EvDA K tNil σ Hd [] := fun H s _ q => q [] H Hd (Gr.refl s) .nil
theorem eda_cons (h : EvD K ta σ Hd d) (hr : EvDA K tr σ Hd ds) : EvDA K (tCons ta tr) σ Hd (d :: ds) := fun H s _ q =>
  h H s _ fun v H1 Hn g hd => hr.mono g.dx H1 g.sub _ fun vs H2 Hm g2 hds => q (v :: vs) H2 Hm (g.trans g2) (.cons (dp_mono g2.dx d hd) hds)
theorem ed_tup (h : EvDA K tr σ Hd ds) (hl : ds.length ≤ 100000) : EvD K (tTup tr) σ Hd (.tuple ds) := fun H s _ q =>
  h H s _ fun vs H1 Hn g hd => ⟨sz_of (by rw [dpa_len hd]; exact hl), fun p hp => q (.ref p) _ _ (g.trans (Gr.new g.sub hp)) (.tup (st_of upd_same) (dpa_mono (Ex.new (fresh_back g.sub hp)) ds hd))⟩
theorem en_lst (h : EvDA K tr σ Hd ds) (hl : ds.length ≤ 100000) : EvN K (tLst tr) σ Hd ds := fun H s _ q =>
  h H s _ fun vs H1 Hn g hd => ⟨sz_of (by rw [dpa_len hd]; exact hl), fun p hp => q p vs _ Hn (g.trans (Gr.alloc g.sub hp)) (fresh_back g.ex hp) (fresh_back g.sub hp) upd_same hd⟩
theorem ed_new (h : EvN K te σ Hd ds) : EvD K te σ Hd (.list ds) := fun H s _ q =>
  h H s _ fun p xs H2 Hn g hp hn h2 hd => q (.ref p) H2 (upd Hn p (.lst xs)) ⟨g.ex, g.dx.trans (Ex.new hn), fun a o ha => by
    by_cases e : a = p
    · subst e
      rw [upd_same] at ha
      exact h2.trans ha
    · rw [upd_ne e] at ha
      exact g.sub a o ha, fun a o ha hda => by
    rw [upd_ne (ne_of_none ha hp)]
    exact g.fr a o ha hda⟩ (.lst (sq_of upd_same) (dpa_mono (Ex.new hn) ds hd))
theorem ed_ixT {i : Int} (ha : EvD K ta σ Hd (.tuple ds)) (hi : Ev tb σ Hd (.int i)) (he : atI ds i = some d) : EvD K (tOp (rIxT K) ta tb) σ Hd d := fun H s Q q =>
  ha H s _ fun v H1 Hn g hd => hi.mono g.dx H1 g.sub _ fun H2 e2 => by
    cases hd with
    | @tup p xs ds hs hall =>
      obtain ⟨w, h1, h2⟩ := dpa_at hall he
      exact ⟨p, xs, i, w, rfl, rfl, ex_t (g.sub.trans e2) hs, h1, q w H2 Hn (g.post e2) h2⟩
theorem ed_ixL {i : Int} (ha : EvD K ta σ Hd (.list ds)) (hi : Ev tb σ Hd (.int i)) (he : atI ds i = some d) : EvD K (tOp (rIxL K) ta tb) σ Hd d := fun H s Q q =>
  ha H s _ fun v H1 Hn g hd => hi.mono g.dx H1 g.sub _ fun H2 e2 => by
    cases hd with
    | @lst p xs ds hs hall =>
      obtain ⟨w, h1, h2⟩ := dpa_at hall he
      exact ⟨p, xs, i, w, rfl, rfl, ex_l (g.sub.trans e2) hs, h1, q w H2 Hn (g.post e2) h2⟩
theorem ev_lenT (ha : EvD K ta σ Hd (.tuple ds)) : Ev (tCB (rLenS K) (tCons ta tNil)) σ Hd (.int (ds.length : Int)) := fun H s Q q =>
  ha H s _ fun v H1 Hn g hd => by
    cases hd with
    | @tup p xs ds hs hall => exact ⟨p, xs, rfl, Or.inr (ex_t g.sub hs), by rw [dpa_len hall]; exact q H1 g.ex⟩
theorem ev_lenL (ha : EvD K ta σ Hd (.list ds)) : Ev (tCB (rLenS K) (tCons ta tNil)) σ Hd (.int (ds.length : Int)) := fun H s Q q =>
  ha H s _ fun v H1 Hn g hd => by
    cases hd with
    | @lst p xs ds hs hall => exact ⟨p, xs, rfl, Or.inl (ex_l g.sub hs), by rw [dpa_len hall]; exact q H1 g.ex⟩

/-! ### promises: a pure def, by a relation of its data -/
def spF (K : PySem.W.Frag) (R : List PyData → PyData → Prop) : Sp := fun vs H Q _ => ∃ Hd ds d, Ex Hd H ∧ DpAll K Hd vs ds ∧ R ds d ∧ ∀ v H2 Hn, Gr Hd H Hn H2 → Dp K Hn v d → Q v H2
/-- the answer is a new list -/
def spN (K : PySem.W.Frag) (R : List PyData → List PyData → Prop) : Sp := fun vs H Q _ => ∃ Hd ds es, Ex Hd H ∧ DpAll K Hd vs ds ∧ R ds es ∧ ∀ p xs H2 Hn, Gr Hd H Hn H2 → H p = none → Hn p = none → H2 p = some (.lst xs) → DpAll K Hn xs es → Q (.ref p) H2
theorem ed_call {R : List PyData → PyData → Prop} {E : XK} (h : EvDA K tr σ Hd ds) (hr : R ds d) : EvD K (tCall (spF K R) [] E tr) σ Hd d := fun H s Q q =>
  h H s _ fun vs H2 Hn g hd => ⟨Hn, ds, d, g.sub, by rw [List.append_nil]; exact hd, hr, fun v H3 Hm g2 hv => q v H3 Hm (g.trans g2) hv⟩
theorem en_call {R : List PyData → List PyData → Prop} {es : List PyData} {E : XK} (h : EvDA K tr σ Hd ds) (hr : R ds es) : EvN K (tCall (spN K R) [] E tr) σ Hd es := fun H s Q q =>
  h H s _ fun vs H2 Hn g hd => ⟨Hn, ds, es, g.sub, by rw [List.append_nil]; exact hd, hr, fun p xs H3 Hm g2 hp hm h3 hv => q p xs H3 Hm (g.trans g2) (fresh_back g.ex hp) hm h3 hv⟩

/-! ### statements -/
variable {D : Ends} {tu tw tz : TS} {g : TG} {i : Nat}
def Go (t : TS) (D : Ends) (σ : L2.St) (H : Hp) : Prop := ∀ H2, Ex H H2 → t D σ H2
theorem Go.go (h : Go tz D σ H) : tz D σ H := h H (Ex.refl H)
theorem go_asg (h : Ev te σ H v) (k : Go tz D (σ.set i (some v)) H) : Go (tSeq (tAsg te (gName i)) tz) D σ H := fun H1 e1 => h H1 e1 _ fun H2 e2 => k H2 (e1.trans e2)
theorem go_asgD (s : Ex Hd H) (h : EvD K te σ Hd d) (k : ∀ v H' Hn, Gr Hd H Hn H' → Dp K Hn v d → Go tz D (σ.set i (some v)) H') : Go (tSeq (tAsg te (gName i)) tz) D σ H := fun H1 e1 =>
  h H1 (s.trans e1) _ fun v H2 Hn g hd => k v H2 Hn (g.pre e1) hd H2 (Ex.refl _)
theorem go_asgN (s : Ex Hd H) (h : EvN K te σ Hd ds) (k : ∀ p xs H' Hn, Gr Hd H Hn H' → H p = none → Hn p = none → H' p = some (.lst xs) → DpAll K Hn xs ds → Go tz D (σ.set i (some (.ref p))) H') : Go (tSeq (tAsg te (gName i)) tz) D σ H := fun H1 e1 =>
  h H1 (s.trans e1) _ fun p xs H2 Hn g hp hn h2 hd => k p xs H2 Hn (g.pre e1) (fresh_back e1 hp) hn h2 hd H2 (Ex.refl _)
theorem go_if {b : Bool} (h : EvT t σ H b) (h1 : b = true → Go tu { D with nx := tz D } σ H) (h2 : b = false → Go tw { D with nx := tz D } σ H) : Go (tSeq (tIfS t tu tw) tz) D σ H := fun H1 e1 => h H1 e1 _ fun H2 e2 => by
  cases b with
  | true =>
    show tu { D with nx := tz D } σ H2
    exact h1 rfl H2 (e1.trans e2)
  | false =>
    show tw { D with nx := tz D } σ H2
    exact h2 rfl H2 (e1.trans e2)
theorem go_when {b : Bool} (h : EvT t σ H b) (h1 : b = true → Go tu { D with nx := tz D } σ H) (h2 : b = false → Go tz D σ H) : Go (tSeq (tIfS t tu tNext) tz) D σ H := go_if h h1 h2
theorem go_next (k : ∀ H', Ex H H' → D.nx σ H') : Go tNext D σ H := k
theorem go_ret (s : Ex Hd H) (h : EvD K te σ Hd d) (k : ∀ v H' Hn, Gr Hd H Hn H' → Dp K Hn v d → D.rt v H') : Go (tSeq (tRet te) tz) D σ H := fun H1 e1 => h H1 (s.trans e1) _ fun v H2 Hn g hd => k v H2 Hn (g.pre e1) hd
theorem go_retN (s : Ex Hd H) (h : EvN K te σ Hd ds) (k : ∀ p xs H' Hn, Gr Hd H Hn H' → H p = none → Hn p = none → H' p = some (.lst xs) → DpAll K Hn xs ds → D.rt (.ref p) H') : Go (tSeq (tRet te) tz) D σ H := fun H1 e1 => h H1 (s.trans e1) _ fun p xs H2 Hn g hp hn h2 hd => k p xs H2 Hn (g.pre e1) (fresh_back e1 hp) hn h2 hd
theorem go_retV (h : Ev te σ H v) (k : ∀ H', Ex H H' → D.rt v H') : Go (tSeq (tRet te) tz) D σ H := fun H1 e1 => h H1 e1 _ fun H2 e2 => k H2 (e1.trans e2)
theorem go_drop (h : Ev te σ H v) (k : Go tz D σ H) : Go (tSeq (tDrop te) tz) D σ H := fun H1 e1 => h H1 e1 _ fun H2 e2 => k H2 (e1.trans e2)
theorem Go.mono (e : Ex H H') (h : Go tz D σ H) : Go tz D σ H' := fun H2 e2 => h H2 (e.trans e2)
/-- a chain of two comparisons of ints -/
theorem ev_chain {r' : R2} {tc : TE} {k : Bool} (ha : Ev ta σ H x) (hb : Ev tb σ H y) (hr : RV r x y H (.bl k)) (hc : k = true → Ev tc σ H z) (hr' : k = true → RV r' y z H v) (hv : k = false → v = .bl false) : Ev (tChain r r' ta tb tc) σ H v := fun H1 e1 Q q =>
  ha H1 e1 _ fun H2 e2 => hb H2 (e1.trans e2) _ fun H3 e3 => hr H3 ((e1.trans e2).trans e3) _ fun H4 e4 => ⟨k, rfl, by
    cases k with
    | true =>
      show tc σ H4 fun w' H5 => r' y w' H5 Q
      exact hc rfl H4 (((e1.trans e2).trans e3).trans e4) _ fun H5 e5 => hr' rfl H5 ((((e1.trans e2).trans e3).trans e4).trans e5) _ fun H6 e6 => q H6 ((((e2.trans e3).trans e4).trans e5).trans e6)
    | false =>
      show Q (.bl false) H4
      rw [← hv rfl]
      exact q H4 ((e2.trans e3).trans e4)⟩
end
end Cot
namespace Cot
open PySem L2 Evl
/-! ### defs of scalars -/
def spS (R : List V → V → Prop) : Sp := fun vs H Q _ => ∃ v, R vs v ∧ ∀ H2, Ex H H2 → Q v H2
section
variable {K : PySem.W.Frag} {σ : L2.St} {H H' Hd Hd' Hn H1 H2 : Hp} {ta tb tc te tx : TE} {t u : TT} {x y z v v' : V} {r r' : R2} {d : PyData} {ds : List PyData} {tr : TA} {D : Ends} {tu tw tz : TS} {g : TG} {i : Nat}
theorem ev_callS {R : List V → V → Prop} {vs : List V} {E : XK} (h : EvA tr σ H vs) (hr : R vs v) : Ev (tCall (spS R) [] E tr) σ H v := fun H1 e Q q =>
  h H1 e _ fun H2 e2 => ⟨v, by rw [List.append_nil]; exact hr, fun H3 e3 => q H3 (e2.trans e3)⟩
theorem go_retE (h : Ev te σ H v') (e : v' = v) (k : ∀ H', Ex H H' → D.rt v H') : Go (tSeq (tRet te) tz) D σ H := go_retV (by rw [← e]; exact h) k
theorem ev_chainB {k k' : Bool} (ha : Ev ta σ H x) (hb : Ev tb σ H y) (hr : RV r x y H (.bl k)) (hc : Ev tc σ H z) (hr' : RV r' y z H (.bl k')) : Ev (tChain r r' ta tb tc) σ H (.bl (k && k')) :=
  ev_chain ha hb hr (fun _ => hc) (fun e => by subst e; exact hr') (fun e => by subst e; rfl)
theorem ev_ifB {b : Bool} (h : EvT t σ H b) (h1 : Ev ta σ H x) (h2 : Ev tb σ H y) : Ev (tIf t ta tb) σ H (if b = true then x else y) := by
  refine ev_if h (fun e => ?_) (fun e => ?_)
  · rw [if_pos e]; exact h1
  · rw [if_neg (by rw [e]; decide)]; exact h2
theorem et_andB {a b : Bool} (h1 : EvT t σ H a) (h2 : EvT u σ H b) : EvT (tAnd t u) σ H (a && b) := et_and h1 fun _ => h2
theorem et_orB {a b : Bool} (h1 : EvT t σ H a) (h2 : EvT u σ H b) : EvT (tOr t u) σ H (a || b) := et_or h1 fun _ => h2
theorem ev_andB {a b : Bool} (h1 : Ev ta σ H (.bl a)) (h2 : Ev tb σ H (.bl b)) : Ev (tAndV ta tb) σ H (.bl (a && b)) := ev_andV h1 fun _ => h2
theorem ev_orB {a b : Bool} (h1 : Ev ta σ H (.bl a)) (h2 : Ev tb σ H (.bl b)) : Ev (tOrV ta tb) σ H (.bl (a || b)) := ev_orV h1 fun _ => h2
theorem rv_isN : RV (fun x y H Q => y = .non ∧ Q (.bl (decide (x = .non))) H) x .non H (.bl (decide (x = .non))) := fun H1 _ _ q => ⟨rfl, q H1 (Ex.refl H1)⟩
end
end Cot

set_option Elab.async false
set_option linter.all false
set_option maxRecDepth 100000
set_option maxHeartbeats 4000000
/-! A box of draws: a list that changes; all else grows. -/
namespace Cot
open PySem L2 Evl
section
variable {K : PySem.W.Frag} {X : Cx}
theorem call_lenQ : CallR X (.builtin "len") (rLenS X.K) := call_len_seq
theorem call_listQ : CallR X (.type "list") (rListS X.K) := call_list_of
def BoxL (xs : List V) (ca : Addr) : Prop := ∃ pos rest turn seed : Int, xs = [.ref ca, .int pos, .int rest, .int turn, .int seed] ∧ 0 ≤ pos
/-- a box: its own place, and that of its cells -/
structure Bid where
  b : Addr
  ca : Addr
def Bx (H : Hp) (b : Bid) : Prop := ∃ (cells : List Int) (xs : List V), H b.b = some (.lst xs) ∧ BoxL xs b.ca ∧ H b.ca = some (.lst (cells.map V.int)) ∧ cells.length ≤ 63
theorem Bx.mono {H H' : Hp} {b : Bid} (e : Ex H H') (B : Bx H b) : Bx H' b := by
  obtain ⟨cells, xs, h1, h2, h3, h4⟩ := B
  exact ⟨cells, xs, e _ _ h1, h2, e _ _ h3, h4⟩
theorem Bx.some {H : Hp} {b : Bid} (B : Bx H b) : ∃ o, H b.b = Option.some o := by
  obtain ⟨cells, xs, h1, h2, h3, h4⟩ := B
  exact ⟨_, h1⟩
theorem Bx.keep {H : Hp} {b : Bid} {l : Addr} {o : HO} (B : Bx H b) (n1 : l ≠ b.b) (n2 : l ≠ b.ca) : Bx (upd H l o) b := by
  obtain ⟨cells, xs, h1, h2, h3, h4⟩ := B
  exact ⟨cells, xs, by rw [upd_ne n1.symm]; exact h1, h2, by rw [upd_ne n2.symm]; exact h3, h4⟩
theorem Bx.cell {H : Hp} {b : Bid} (B : Bx H b) : ∃ o, H b.ca = Option.some o := by
  obtain ⟨cells, xs, h1, h2, h3, h4⟩ := B
  exact ⟨_, h3⟩
theorem Bx.apart {H : Hp} {b : Bid} {l : Addr} (B : Bx H b) (h : H l = none) : l ≠ b.b ∧ l ≠ b.ca := by
  obtain ⟨o, h1⟩ := B.some
  obtain ⟨o2, h2⟩ := B.cell
  exact ⟨(ne_of_none h1 h).symm, (ne_of_none h2 h).symm⟩
structure GrB (b : Bid) (Hd H Hn H2 : Hp) : Prop where
  exb : ∀ a o, a ≠ b.b → H a = some o → H2 a = some o
  dx : Ex Hd Hn
  sub : Ex Hn H2
  fr : ∀ a o, H a = some o → Hd a = none → Hn a = none
  bx : Bx H2 b
variable {b : Bid} {H H' Hd Hd' Hn H1 H2 Hm : Hp}
theorem GrB.bn (g : GrB b Hd H Hn H2) (hb : Hd b.b = none) (B : Bx H b) : Hn b.b = none := by
  obtain ⟨o, h⟩ := B.some
  exact g.fr b.b o h hb
theorem GrB.of (g : Gr Hd H Hn H2) (B : Bx H b) : GrB b Hd H Hn H2 := ⟨fun a o _ h => g.ex a o h, g.dx, g.sub, g.fr, B.mono g.ex⟩
theorem GrB.trans (g1 : GrB b Hd H Hn H1) (g2 : GrB b Hn H1 Hm H2) (hb : Hd b.b = none) (B : Bx H b) : GrB b Hd H Hm H2 :=
  ⟨fun a o n h => g2.exb a o n (g1.exb a o n h), g1.dx.trans g2.dx, g2.sub, fun a o h hd => by
    by_cases e : a = b.b
    · rw [e]
      exact g2.bn (g1.bn hb B) g1.bx
    · exact g2.fr a o (g1.exb a o e h) (g1.fr a o h hd), g2.bx⟩
theorem GrB.pre (e : Ex H H1) (g : GrB b Hd H1 Hn H2) : GrB b Hd H Hn H2 := ⟨fun a o n h => g.exb a o n (e a o h), g.dx, g.sub, fun a o ha hd => g.fr a o (e a o ha) hd, g.bx⟩
theorem GrB.up (e : Ex Hd Hd') (s : Ex Hd' H) (hb : Hd' b.b = none) (g : GrB b Hd H Hn H2) : GrB b Hd' H (un Hd' Hn) H2 ∧ Ex Hn (un Hd' Hn) := by
  have s2 : Ex Hd' H2 := fun a o h => g.exb a o (ne_of_none h hb) (s a o h)
  exact ⟨⟨g.exb, un_l, un_sub s2 g.sub, fun a o ha hd => by
    unfold un
    rw [hd]
    exact g.fr a o ha (fresh_back e hd), g.bx⟩, un_r s2 g.sub⟩
def EvB (K : PySem.W.Frag) (b : Bid) (te : TE) (σ : L2.St) (Hd : Hp) (P : PyData → Prop) : Prop := Hd b.b = none → ∀ H, Ex Hd H → Bx H b → ∀ Q : VK, (∀ v H2 Hn d, GrB b Hd H Hn H2 → Dp K Hn v d → P d → Q v H2) → te σ H Q
def EvBA (K : PySem.W.Frag) (b : Bid) (ta : TA) (σ : L2.St) (Hd : Hp) (P : List PyData → Prop) : Prop := Hd b.b = none → ∀ H, Ex Hd H → Bx H b → ∀ Q : List V → Hp → Prop, (∀ vs H2 Hn ds, GrB b Hd H Hn H2 → DpAll K Hn vs ds → P ds → Q vs H2) → ta σ H Q
def isI (p : Int → Prop) (d : PyData) : Prop := ∃ i, d = .int i ∧ p i
/-- a def that draws: its first argument the box -/
def spB (K : PySem.W.Frag) (Pre : List PyData → Prop) (P : List PyData → PyData → Prop) : Sp := fun vs H Q _ => ∃ b ws Hd ds, vs = .ref b.b :: ws ∧ Hd b.b = none ∧ Ex Hd H ∧ Bx H b ∧ DpAll K Hd ws ds ∧ Pre ds ∧ ∀ v H2 Hn d, GrB b Hd H Hn H2 → Dp K Hn v d → P ds d → Q v H2
variable {σ : L2.St} {ta tb tc te tx : TE} {t u : TT} {x y z v v' : V} {r r' : R2} {d : PyData} {ds : List PyData} {tr : TA} {D : Ends} {tu tw tz : TS} {i : Nat} {P P' : PyData → Prop} {Ps : List PyData → Prop} {p p' : Int → Prop}
theorem EvB.mono (e : Ex Hd Hd') (h : EvB K b te σ Hd P) : EvB K b te σ Hd' P := fun hb H s B Q q => h (fresh_back e hb) H (e.trans s) B Q fun v H2 Hn d g hd hp =>
  q v H2 _ d (g.up e s hb).1 (dp_mono (g.up e s hb).2 d hd) hp
theorem EvBA.mono (e : Ex Hd Hd') (h : EvBA K b tr σ Hd Ps) : EvBA K b tr σ Hd' Ps := fun hb H s B Q q => h (fresh_back e hb) H (e.trans s) B Q fun v H2 Hn d g hd hp =>
  q v H2 _ d (g.up e s hb).1 (dpa_mono (g.up e s hb).2 d hd) hp
theorem EvB.imp (h : EvB K b te σ Hd P) (k : ∀ d, P d → P' d) : EvB K b te σ Hd P' := fun hb H s B Q q => h hb H s B Q fun v H2 Hn d g hd hp => q v H2 Hn d g hd (k d hp)
theorem eb_ed (h : EvD K te σ Hd d) : EvB K b te σ Hd (fun d' => d' = d) := fun hb H s B Q q => h H s Q fun v H2 Hn g hd => q v H2 Hn d (GrB.of g B) hd rfl
theorem eb_ev {n : Int} (h : Ev te σ Hd (.int n)) : EvB K b te σ Hd (isI fun m => m = n) := (eb_ed (ed_int h)).imp fun d e => ⟨n, e, rfl⟩
theorem eba_nil : EvBA K b tNil σ Hd (fun ds => ds = []) := fun hb H s B Q q => q [] H Hd [] (GrB.of (Gr.refl s) B) .nil rfl
theorem eba_cons (h : EvB K b ta σ Hd P) (hr : EvBA K b tr σ Hd Ps) : EvBA K b (tCons ta tr) σ Hd (fun ds => ∃ d es, ds = d :: es ∧ P d ∧ Ps es) := fun hb H s B Q q =>
  h hb H s B _ fun v H1 Hn d g hd hp => hr.mono g.dx (g.bn hb B) H1 g.sub g.bx _ fun vs H2 Hm es g2 hes hps => q (v :: vs) H2 Hm (d :: es) (g.trans g2 hb B) (.cons (dp_mono g2.dx d hd) hes) ⟨d, es, rfl, hp, hps⟩
theorem eb_call {Pre : List PyData → Prop} {R : List PyData → PyData → Prop} {E : XK} (ha : Ev ta σ Hd (.ref b.b)) (h : EvBA K b tr σ Hd Ps) (hp : ∀ ds, Ps ds → Pre ds) : EvB K b (tCall (spB K Pre R) [] E (tCons ta tr)) σ Hd (fun d => ∃ ds, Ps ds ∧ R ds d) := fun hb H s B Q q =>
  ha H s _ fun H1 e1 => h hb H1 (s.trans e1) (B.mono e1) _ fun vs H2 Hn ds g hds hps => ⟨b, vs, Hn, ds, by rw [List.append_nil], g.bn hb (B.mono e1), g.sub, g.bx, hds, hp ds hps, fun v H3 Hm d g2 hd hR =>
    q v H3 Hm d ((g.trans g2 hb (B.mono e1)).pre e1) hd ⟨ds, hps, hR⟩⟩
theorem eb_opI {gg : Int → Int → V} {f : Int → Int → Int} (hg : ∀ i j, gg i j = .int (f i j)) {C : Int → Int → Prop} (ha : EvB K b ta σ Hd (isI p)) (hb' : EvB K b tb σ Hd (isI p')) (hc : ∀ i j, p i → p' j → C i j) : EvB K b (tOp (rI C gg) ta tb) σ Hd (isI fun k => ∃ i j, p i ∧ p' j ∧ k = f i j) := fun hb H s B Q q =>
  ha hb H s B _ fun v H1 Hn d g hd hp => hb'.mono g.dx (g.bn hb B) H1 g.sub g.bx _ fun v2 H2 Hm d2 g2 hd2 hp2 => by
    obtain ⟨i, rfl, pi⟩ := hp
    obtain ⟨j, rfl, pj⟩ := hp2
    cases hd
    cases hd2
    refine ⟨i, j, rfl, rfl, hc i j pi pj, ?_⟩
    rw [hg]
    exact q _ H2 Hm (.int (f i j)) (g.trans g2 hb B) (.int _) ⟨_, rfl, i, j, pi, pj, rfl⟩
theorem eb_opI0 {gg : Int → Int → V} {f : Int → Int → Int} (hg : ∀ i j, gg i j = .int (f i j)) (ha : EvB K b ta σ Hd (isI p)) (hb' : EvB K b tb σ Hd (isI p')) : EvB K b (tOp (rI0 gg) ta tb) σ Hd (isI fun k => ∃ i j, p i ∧ p' j ∧ k = f i j) := fun hb H s B Q q =>
  ha hb H s B _ fun v H1 Hn d g hd hp => hb'.mono g.dx (g.bn hb B) H1 g.sub g.bx _ fun v2 H2 Hm d2 g2 hd2 hp2 => by
    obtain ⟨i, rfl, pi⟩ := hp
    obtain ⟨j, rfl, pj⟩ := hp2
    cases hd
    cases hd2
    refine ⟨i, j, rfl, rfl, ?_⟩
    rw [hg]
    exact q _ H2 Hm (.int (f i j)) (g.trans g2 hb B) (.int _) ⟨_, rfl, i, j, pi, pj, rfl⟩
theorem eb_lst (h : EvBA K b tr σ Hd Ps) (hl : ∀ ds, Ps ds → ds.length ≤ 100000) : EvB K b (tLst tr) σ Hd (fun d => ∃ ds, d = .list ds ∧ Ps ds) := fun hb H s B Q q =>
  h hb H s B _ fun vs H1 Hn ds g hd hp => ⟨sz_of (by rw [dpa_len hd]; exact hl ds hp), fun a ha => q (.ref a) _ _ (.list ds) (g.trans (GrB.of (Gr.new g.sub ha) g.bx) hb B) (.lst (sq_of upd_same) (dpa_mono (Ex.new (fresh_back g.sub ha)) ds hd)) ⟨ds, rfl, hp⟩⟩
theorem eb_tup (h : EvBA K b tr σ Hd Ps) (hl : ∀ ds, Ps ds → ds.length ≤ 100000) : EvB K b (tTup tr) σ Hd (fun d => ∃ ds, d = .tuple ds ∧ Ps ds) := fun hb H s B Q q =>
  h hb H s B _ fun vs H1 Hn ds g hd hp => ⟨sz_of (by rw [dpa_len hd]; exact hl ds hp), fun a ha => q (.ref a) _ _ (.tuple ds) (g.trans (GrB.of (Gr.new g.sub ha) g.bx) hb B) (.tup (st_of upd_same) (dpa_mono (Ex.new (fresh_back g.sub ha)) ds hd)) ⟨ds, rfl, hp⟩⟩
theorem eb_ixL (ha : EvB K b ta σ Hd (fun d => ∃ ds, d = .list ds ∧ Ps ds)) (hi : EvB K b tb σ Hd (isI p)) (he : ∀ ds i, Ps ds → p i → ∃ d, atI ds i = some d) : EvB K b (tOp (rIxL K) ta tb) σ Hd (fun d => ∃ ds i, Ps ds ∧ p i ∧ atI ds i = some d) := fun hb H s B Q q =>
  ha hb H s B _ fun v H1 Hn d g hd hp => hi.mono g.dx (g.bn hb B) H1 g.sub g.bx _ fun v2 H2 Hm d2 g2 hd2 hp2 => by
    obtain ⟨ds, rfl, ps⟩ := hp
    obtain ⟨i, rfl, pi⟩ := hp2
    cases hd2
    cases dp_mono g2.dx _ hd with
    | @lst pa xs ds hs hall =>
      obtain ⟨d, hd⟩ := he ds i ps pi
      obtain ⟨w, h1, h2⟩ := dpa_at hall hd
      exact ⟨pa, xs, i, w, rfl, rfl, ex_l g2.sub hs, h1, q w H2 Hm d (g.trans g2 hb B) h2 ⟨ds, i, ps, pi, hd⟩⟩
theorem go_asgB (hb : Hd b.b = none) (s : Ex Hd H) (B : Bx H b) (h : EvB K b te σ Hd P) (k : ∀ v H' Hn d, GrB b Hd H Hn H' → Dp K Hn v d → P d → Go tz D (σ.set i (some v)) H') : Go (tSeq (tAsg te (gName i)) tz) D σ H := fun H1 e1 =>
  h hb H1 (s.trans e1) (B.mono e1) _ fun v H2 Hn d g hd hp => k v H2 Hn d (g.pre e1) hd hp H2 (Ex.refl _)
theorem go_retB (hb : Hd b.b = none) (s : Ex Hd H) (B : Bx H b) (h : EvB K b te σ Hd P) (k : ∀ v H' Hn d, GrB b Hd H Hn H' → Dp K Hn v d → P d → D.rt v H') : Go (tSeq (tRet te) tz) D σ H := fun H1 e1 =>
  h hb H1 (s.trans e1) (B.mono e1) _ fun v H2 Hn d g hd hp => k v H2 Hn d (g.pre e1) hd hp
theorem go_setL {l : Addr} {xs : List V} {j : Nat} (hl : H l = some (.lst xs)) (h : Ev te σ H v) (ho : Ev ta σ H (.ref l)) (hi : Ev tb σ H (.int (j : Int))) (hj : j < xs.length) (k : Go tz D σ (upd H l (.lst (xs.set j v)))) :
    Go (tSeq (tAsg te (gSub ta tb rSetL)) tz) D σ H := fun H1 e1 => q_setL (e1 _ _ hl) (h.mono e1) (ho.mono e1) (hi.mono e1) hj fun H2 e2 => k _ (ex_upd2 (e1.trans e2))
theorem go_app {l : Addr} {xs : List V} (hl : H l = some (.lst xs)) (ha : Ev ta σ H (.ref l)) (h : Ev te σ H v) (hz : xs.length < 100000) (k : Go tz D σ (upd H l (.lst (xs ++ [v])))) :
    Go (tSeq (tDrop (tBM K "list" rAppend ta (tCons te tNil))) tz) D σ H := fun H1 e1 => q_app (e1 _ _ hl) (ha.mono e1) (h.mono e1) hz fun H2 e2 => k _ (ex_upd2 (e1.trans e2))
end
end Cot

set_option Elab.async false
set_option linter.all false
set_option maxRecDepth 100000
set_option maxHeartbeats 4000000
/-! What is walked, and comprehensions over it. -/
namespace Cot
open PySem L2 Evl RZ
section
variable {K : PySem.W.Frag} {X : Cx} {H H' Hd Hd' Hn H1 H2 Hm : Hp} {σ : L2.St} {ta tb tc te tx tl : TE} {t u tt : TT} {x y z v v' : V} {d : PyData} {ds es : List PyData} {tr : TA} {D : Ends} {tu tw tz : TS} {i j j2 n : Nat} {wi : TI} {g : TG}
/-- what is walked: n turns; S tells the slots behind the target, by the turn and the slots ahead -/
def EvI (K : PySem.W.Frag) (wi : TI) (g : TG) (σ : L2.St) (Hd : Hp) (n : Nat) (S : Nat → L2.St → L2.St → Hp → Prop) : Prop := ∀ H, Ex Hd H → ∀ R : It → Hp → Prop,
  (∀ J H2 Hn (G : Hp → Prop) (Y : Nat → Hp → V → Hp → Prop), Gr Hd H Hn H2 → Walk J n G Y → (∀ H', Ex Hn H' → G H') →
    (∀ (i : Nat) (x : V) (H' H'' : Hp) (σ' : L2.St) (k : L2.St → Hp → Prop), i < n → Ex Hn H' → Y i H' x H'' → (∀ σ2 H3, Ex H' H3 → S i σ' σ2 Hn → k σ2 H3) → g x σ' H'' k) → R J H2) → wi σ H R
def SName (K : PySem.W.Frag) (j : Nat) (ds : List PyData) (i : Nat) (σ' σ2 : L2.St) (Hn : Hp) : Prop := ∃ v d, ds[i]? = some d ∧ Dp K Hn v d ∧ σ2 = σ'.set j (some v)
def SPair (K : PySem.W.Frag) (j j2 : Nat) (f f2 : Nat → Option PyData) (i : Nat) (σ' σ2 : L2.St) (Hn : Hp) : Prop := ∃ v v2 d d2, f i = some d ∧ f2 i = some d2 ∧ Dp K Hn v d ∧ Dp K Hn v2 d2 ∧ σ2 = (σ'.set j (some v)).set j2 (some v2)
def SInt (j : Nat) (lo : Int) (i : Nat) (σ' σ2 : L2.St) (_ : Hp) : Prop := σ2 = σ'.set j (some (.int (lo + (i : Int))))
theorem ei_list (h : EvD K tl σ Hd (.list ds)) : EvI K (iList K tl) (gName j) σ Hd ds.length (SName K j ds) := fun H s R r =>
  h H s _ fun v H2 Hn g hd => by
    cases hd with
    | @lst a xs ds hs hall =>
      refine ⟨a, rfl, ⟨xs, ex_l g.sub hs⟩, r _ H2 Hn _ _ g (by rw [← dpa_len hall]; exact walk_list) (fun H' e => ex_l e hs) fun i x H' H'' σ' k hi e y q => ?_⟩
      obtain ⟨rfl, hx⟩ := y
      obtain ⟨d, h1, h2⟩ := dpa_get2 hall hx
      exact q _ _ (Ex.refl _) ⟨x, d, h1, h2, rfl⟩
theorem ei_tup (h : EvD K tl σ Hd (.tuple ds)) : EvI K (iTup K tl) (gName j) σ Hd ds.length (SName K j ds) := fun H s R r =>
  h H s _ fun v H2 Hn g hd => by
    cases hd with
    | @tup a xs ds hs hall =>
      refine ⟨a, rfl, ⟨xs, ex_t g.sub hs⟩, r _ H2 Hn _ _ g (by rw [← dpa_len hall]; exact walk_tup) (fun H' e => ex_t e hs) fun i x H' H'' σ' k hi e y q => ?_⟩
      obtain ⟨rfl, hx⟩ := y
      obtain ⟨d, h1, h2⟩ := dpa_get2 hall hx
      exact q _ _ (Ex.refl _) ⟨x, d, h1, h2, rfl⟩
theorem ei_range1 {m : Int} (h : EvA tr σ Hd [.int m]) (hm : -100000 ≤ m ∧ m ≤ 100000) : EvI K (iRng1 tr) (gName j) σ Hd m.toNat (SInt j 0) := fun H s R r =>
  h H s _ fun H2 e2 => ⟨m, rfl, by omega, by omega, r _ H2 Hd _ _ (Gr.ext s e2) walk_range (fun _ _ => trivial) fun i x H' H'' σ' k hi e y q => by
    obtain ⟨rfl, rfl⟩ := y
    exact q _ _ (Ex.refl _) rfl⟩
theorem ei_range2 {lo m : Int} (h : EvA tr σ Hd [.int lo, .int m]) (hl : -100000 ≤ lo ∧ lo ≤ 100000) (hm : -100000 ≤ m ∧ m ≤ 100000) : EvI K (iRng2 tr) (gName j) σ Hd (m - lo).toNat (SInt j lo) := fun H s R r =>
  h H s _ fun H2 e2 => ⟨lo, m, rfl, ⟨by omega, by omega, by omega, by omega⟩, r _ H2 Hd _ _ (Gr.ext s e2) walk_range (fun _ _ => trivial) fun i x H' H'' σ' k hi e y q => by
    obtain ⟨rfl, rfl⟩ := y
    exact q _ _ (Ex.refl _) rfl⟩
/-- the target of a pair: two names -/
abbrev g2 (K : PySem.W.Frag) (j j2 : Nat) : TG := gTup K 2 (gCons (gName j) (gCons (gName j2) gNil))
theorem pair_turn {f f2 : Nat → Option V} {fd fd2 : Nat → Option PyData} {x : V} {H' H'' : Hp} {σ' : L2.St} {k : L2.St → Hp → Prop} (hf : ∀ v, f i = some v → ∃ d, fd i = some d ∧ Dp K Hn v d) (hf2 : ∀ v, f2 i = some v → ∃ d, fd2 i = some d ∧ Dp K Hn v d)
    (y : YPair f f2 i H' x H'') (q : ∀ σ2 H3, Ex H' H3 → SPair K j j2 fd fd2 i σ' σ2 Hn → k σ2 H3) : g2 K j j2 x σ' H'' k := by
  obtain ⟨T, a, b, rfl, hT, rfl, h1, h2⟩ := y
  obtain ⟨d, e1, q1⟩ := hf a h1
  obtain ⟨d2, e2, q2⟩ := hf2 b h2
  exact ⟨T, [a, b], rfl, st_of upd_same, rfl, a, [b], rfl, b, [], rfl, rfl, q _ _ (Ex.new hT) ⟨a, b, d, d2, e1, e2, q1, q2, rfl⟩⟩
theorem ei_zipL (h : EvDA K tr σ Hd [.list ds, .list es]) (hl : ds.length = es.length) : EvI K (iZipA K tr) (g2 K j j2) σ Hd ds.length (SPair K j j2 (fun i => ds[i]?) (fun i => es[i]?)) := fun H s R r =>
  h H s _ fun vs H2 Hn g hd => by
    cases hd with
    | cons h1 h2 =>
      cases h2 with
      | cons h2 h3 =>
        cases h3
        cases h1 with
        | @lst a xs ds hs hall =>
          cases h2 with
          | @lst b ys es hs2 hall2 =>
            refine ⟨a, b, xs, ys, rfl, Or.inl ⟨ex_l g.sub hs, ex_l g.sub hs2, r _ H2 Hn _ _ g (walk_zip (xs := xs) (ys := ys) (by rw [dpa_len hall, dpa_len hall2]; omega)) (fun H' e => ⟨ex_l e hs, ex_l e hs2⟩) fun i x H' H'' σ' k hi e y q => ?_⟩⟩
            exact pair_turn (fun v e => dpa_get2 hall e) (fun v e => dpa_get2 hall2 e) y q
theorem walk_zipT {a b : Addr} {xs ys : List V} {n : Nat} (hn : n = min xs.length ys.length) : Walk (ItzT K a b) n (fun H => SqT K H a xs ∧ SqT K H b ys) (YPair (fun i => xs[i]?) (fun i => ys[i]?)) := by
  subst hn
  refine ⟨fun i _ hi q => ?_, fun _ q => ⟨xs, ys, q.1, q.2, by omega⟩, fun i H v H' _ q y => ?_⟩
  · have h1 : i < xs.length := by omega
    have h2 : i < ys.length := by omega
    exact ⟨xs, ys, xs[i], ys[i], q.1, q.2, by simp [h1], by simp [h2]⟩
  · obtain ⟨T, x, z, h1, h2, h3, h4, h5⟩ := y
    exact ⟨T, x, z, h1, h2, h3, h4 xs q.1, h5 ys q.2⟩
theorem ei_zipT (h : EvDA K tr σ Hd [.tuple ds, .tuple es]) (hl : ds.length = es.length) : EvI K (iZipA K tr) (g2 K j j2) σ Hd ds.length (SPair K j j2 (fun i => ds[i]?) (fun i => es[i]?)) := fun H s R r =>
  h H s _ fun vs H2 Hn g hd => by
    cases hd with
    | cons h1 h2 =>
      cases h2 with
      | cons h2 h3 =>
        cases h3
        cases h1 with
        | @tup a xs ds hs hall =>
          cases h2 with
          | @tup b ys es hs2 hall2 =>
            refine ⟨a, b, xs, ys, rfl, Or.inr ⟨ex_t g.sub hs, ex_t g.sub hs2, r _ H2 Hn _ _ g (walk_zipT (xs := xs) (ys := ys) (by rw [dpa_len hall, dpa_len hall2]; omega)) (fun H' e => ⟨ex_t e hs, ex_t e hs2⟩) fun i x H' H'' σ' k hi e y q => ?_⟩⟩
            exact pair_turn (fun v e => dpa_get2 hall e) (fun v e => dpa_get2 hall2 e) y q
theorem ei_enum (h : EvDA K tr σ Hd [.list ds]) : EvI K (iEnum K tr) (g2 K j j2) σ Hd ds.length (SPair K j j2 (fun i => some (.int (i : Int))) (fun i => ds[i]?)) := fun H s R r =>
  h H s _ fun vs H2 Hn g hd => by
    cases hd with
    | cons h1 h2 =>
      cases h2
      cases h1 with
      | @lst a xs ds hs hall =>
        refine ⟨a, xs, rfl, ex_l g.sub hs, r _ H2 Hn _ _ g (by rw [← dpa_len hall]; exact walk_enum) (fun H' e => ex_l e hs) fun i x H' H'' σ' k hi e y q => ?_⟩
        refine pair_turn (fun v e => ?_) (fun v e => dpa_get2 hall e) y q
        cases e
        exact ⟨_, rfl, .int _⟩

/-! ### comprehensions -/
def givenD (n : Nat) (f : Nat → Bool) (v : Nat → PyData) : List PyData := ((List.range n).filter f).map v
theorem givenD_yes {f : Nat → Bool} {v : Nat → PyData} (h : f n = true) : givenD (n + 1) f v = givenD n f v ++ [v n] := by
  unfold givenD
  rw [List.range_succ, List.filter_append, List.map_append, List.filter_cons, if_pos h] <;> rfl
theorem givenD_no {f : Nat → Bool} {v : Nat → PyData} (h : f n = false) : givenD (n + 1) f v = givenD n f v := by
  unfold givenD
  rw [List.range_succ, List.filter_append, List.map_append, List.filter_cons, if_neg (by rw [h]; decide)]
  show _ ++ [] = _
  rw [List.append_nil]
theorem givenD_len (n : Nat) (f : Nat → Bool) (v : Nat → PyData) : (givenD n f v).length ≤ n := by
  unfold givenD
  rw [List.length_map]
  have h := List.length_filter_le f (List.range n)
  rw [List.length_range] at h
  exact h
theorem givenD_all (n : Nat) (v : Nat → PyData) : givenD n (fun _ => true) v = (List.range n).map v := by
  unfold givenD
  rw [List.filter_eq_self.mpr (fun _ _ => rfl)]
theorem range_get (ds : List PyData) (F : PyData → PyData) : (List.range ds.length).map (fun i => F (ds[i]?.getD .none)) = ds.map F := by
  apply List.ext_getElem
  · simp
  · intro i h1 h2
    simp at h1 h2 ⊢
    rw [List.getElem?_eq_getElem h1]
    rfl
theorem et_yes : EvT tYes σ H true := fun H1 e Q q => q H1 (Ex.refl H1)
theorem en_lc {S : Nat → L2.St → L2.St → Hp → Prop} {vs : List Nat} (h : EvI K wi g σ Hd n S) (hn : n ≤ 40000) (f : Nat → Bool) (v : Nat → PyData)
    (ht : ∀ (i : Nat) (σ2 : L2.St) (Hn : Hp), i < n → Ex Hd Hn → S i (wipe σ vs) σ2 Hn → wipe σ2 vs = wipe σ vs ∧ EvT tt σ2 Hn (f i) ∧ (f i = true → EvD K te σ2 Hn (v i))) : EvN K (tLc wi g tt te vs) σ Hd (givenD n f v) := fun H s Q q =>
  h H s _ fun J H1 Hn G Y gr w hG hY Dl hD => by
    refine lc_it w (fun i H' => i ≤ n ∧ ∃ Hm acc, Gr Hn H1 Hm H' ∧ Hm Dl = none ∧ H' Dl = some (.lst acc) ∧ DpAll K Hm acc (givenD i f v)) ⟨Nat.zero_le _, Hn, [], Gr.alloc gr.sub hD, fresh_back gr.sub hD, upd_same, .nil⟩ (fun i H' _ p => ?_) (fun i x H' H'' hi p y => ?_) (fun H' p => ?_)
    · obtain ⟨_, Hm, acc, g1, _⟩ := p
      exact hG H' (g1.dx.trans g1.sub)
    · obtain ⟨_, Hm, acc, g1, hm, h2, hac⟩ := p
      refine hY i x H' H'' _ _ hi (g1.dx.trans g1.sub) y fun σ2 H3 e3 hS => ?_
      obtain ⟨hw, hT, hE⟩ := ht i σ2 Hn hi gr.dx hS
      refine ⟨hw, hT H3 ((g1.dx.trans g1.sub).trans e3) _ fun H4 e4 => ?_⟩
      have al : acc.length < sizeLine := sz_lt (by have := givenD_len i f v; rw [dpa_len hac]; omega)
      cases hf : f i with
      | false =>
        show (i + 1 ≤ n ∧ _)
        refine ⟨hi, Hm, acc, g1.post (e3.trans e4), hm, (e3.trans e4) _ _ h2, ?_⟩
        rw [givenD_no hf]
        exact hac
      | true =>
        show te σ2 H4 _
        refine ((hE hf).mono g1.dx) H4 ((g1.sub.trans e3).trans e4) _ fun y H5 Ho g5 hy => ?_
        have h4 : H4 Dl = some (.lst acc) := (e3.trans e4) _ _ h2
        have ho : Ho Dl = none := g5.fr _ _ h4 hm
        have hD1 : H1 Dl = none := hD
        refine ⟨acc, g5.ex _ _ h4, al, hi, Ho, acc ++ [y], ⟨Ex.mut ((g1.ex.trans (e3.trans e4)).trans g5.ex) hD1, g1.dx.trans g5.dx, Ex.mut g5.sub ho, fun a o ha hd => g5.fr a o ((e3.trans e4) a o (g1.ex a o ha)) (g1.fr a o ha hd)⟩, ho, upd_same, ?_⟩
        rw [givenD_yes hf]
        exact dpa_app (dpa_mono g5.dx _ hac) (.cons hy .nil)
    · obtain ⟨_, Hm, acc, g1, hm, h2, hac⟩ := p
      exact q Dl acc H' Hm (gr.trans g1) (fresh_back gr.ex hD) hm h2 hac
theorem ev_all {bs : List Bool} (h : EvD K ta σ Hd (.list (bs.map .bool))) : Ev (tCB (rAll K) (tCons ta tNil)) σ Hd (.bl (bs.all id)) := fun H s Q q =>
  h H s _ fun v H2 Hn g hd => by
    cases hd with
    | @lst a xs ds hs hall =>
      have e := dpa_bools_inv hall
      subst e
      exact ⟨a, bs, rfl, ex_l g.sub hs, q H2 g.ex⟩
theorem ev_sum {bs : List Int} (h : EvD K ta σ Hd (.list (bs.map .int))) : Ev (tCB (rSum K) (tCons ta tNil)) σ Hd (.int bs.sum) := fun H s Q q =>
  h H s _ fun v H2 Hn g hd => by
    cases hd with
    | @lst a xs ds hs hall =>
      have e := dpa_ints_inv hall
      subst e
      exact ⟨a, bs, rfl, ex_l g.sub hs, q H2 g.ex⟩

/-! ### types of data -/
def tyN : PyData → String
  | .none => "NoneType"
  | .bool _ => "bool"
  | .int _ => "int"
  | .str _ => "str"
  | .list _ => "list"
  | .tuple _ => "tuple"
  | .dict _ => "dict"
theorem dp_ty (h : Dp K H v d) : TyX K H v (.type (tyN d)) := by
  cases h with
  | non => exact .base .non
  | bl b => exact .base (.bl b)
  | int i => exact .base (.int i)
  | str z => exact .base (.str z)
  | lst hs _ =>
    rcases hs with (h | ⟨o, h⟩) | ⟨o, its, n, h1, h2, _⟩
    · exact .base (.lst h)
    · exact .base (.frz h)
    · exact .kList h1 h2
  | tup hs _ =>
    rcases hs with (h | ⟨o, h⟩) | ⟨o, its, n, h1, h2, _⟩
    · exact .base (.tup h)
    · exact .fTuple h
    · exact .kTuple h1 h2
theorem ev_isi {T : String} {b : Bool} (ha : EvD K ta σ Hd d) (k : kitB (tyN d) T = some b) : Ev (tCB (rIsi K) (tCons ta (tCons (tC (.ty T)) tNil))) σ Hd (.bl b) := fun H s Q q =>
  ha H s _ fun v H2 Hn g hd => ⟨v, .ty T, _, _, b, rfl, .ty T, dp_ty (dp_mono g.sub _ hd), kit_ty k, q H2 g.ex⟩
theorem ev_isiT2 {T T2 : String} {b b2 : Bool} (ha : EvD K ta σ Hd d) (k : kitB (tyN d) T = some b) (k2 : kitB (tyN d) T2 = some b2) : Ev (tCB (rIsiT K) (tCons ta (tCons (tTup (tCons (tC (.ty T)) (tCons (tC (.ty T2)) tNil))) tNil))) σ Hd (.bl (b || b2)) := fun H s Q q =>
  ha H s _ fun v H2 Hn g hd => ⟨by show 2 ≤ sizeLine; decide, fun p hp => ⟨v, p, [.ty T, .ty T2], _, [.type T, .type T2], b || b2, rfl, upd_same, .cons (.ty T) (.cons (.ty T2) .nil), dp_ty (dp_mono (g.sub.trans (Ex.new hp)) _ hd), by
    refine kitAny_cons (kit_ty k) (fun e => kitAny_cons (kit_ty k2) (fun e2 => ?_) (fun e2 => ?_)) (fun e => ?_)
    · rw [e, e2]; rfl
    · rw [e2, Bool.or_true]
    · rw [e]; rfl, q _ (g.ex.trans (Ex.new hp))⟩⟩
theorem ev_eqD {e : PyData} (ha : EvD K ta σ Hd d) (hb : EvD K tb σ Hd e) (hd : SeqAt.shaped d = true) (he : SeqAt.shaped e = true) : Ev (tOp (rEqD K) ta tb) σ Hd (.bl (PyData.eqv d e)) := fun H s Q q =>
  ha H s _ fun v H2 Hn g h1 => hb.mono g.dx H2 g.sub _ fun v2 H3 Hm g2 h2 => ⟨d, e, dp_mono (g2.dx.trans g2.sub) _ h1, dp_mono g2.sub _ h2, hd, he, q H3 (g.ex.trans g2.ex)⟩
theorem ev_neD {e : PyData} (ha : EvD K ta σ Hd d) (hb : EvD K tb σ Hd e) (hd : SeqAt.shaped d = true) (he : SeqAt.shaped e = true) : Ev (tOp (rNeD K) ta tb) σ Hd (.bl (!PyData.eqv d e)) := fun H s Q q =>
  ha H s _ fun v H2 Hn g h1 => hb.mono g.dx H2 g.sub _ fun v2 H3 Hm g2 h2 => ⟨d, e, dp_mono (g2.dx.trans g2.sub) _ h1, dp_mono g2.sub _ h2, hd, he, q H3 (g.ex.trans g2.ex)⟩
end
end Cot

namespace Cot
open PySem L2 Evl
theorem kb_NoneType_bool : kitB "NoneType" "bool" = some false := by decide +kernel
theorem kb_NoneType_int : kitB "NoneType" "int" = some false := by decide +kernel
theorem kb_NoneType_str : kitB "NoneType" "str" = some false := by decide +kernel
theorem kb_NoneType_list : kitB "NoneType" "list" = some false := by decide +kernel
theorem kb_NoneType_tuple : kitB "NoneType" "tuple" = some false := by decide +kernel
theorem kb_bool_bool : kitB "bool" "bool" = some true := by decide +kernel
theorem kb_bool_int : kitB "bool" "int" = some true := by decide +kernel
theorem kb_bool_str : kitB "bool" "str" = some false := by decide +kernel
theorem kb_bool_list : kitB "bool" "list" = some false := by decide +kernel
theorem kb_bool_tuple : kitB "bool" "tuple" = some false := by decide +kernel
theorem kb_int_bool : kitB "int" "bool" = some false := by decide +kernel
theorem kb_int_int : kitB "int" "int" = some true := by decide +kernel
theorem kb_int_str : kitB "int" "str" = some false := by decide +kernel
theorem kb_int_list : kitB "int" "list" = some false := by decide +kernel
theorem kb_int_tuple : kitB "int" "tuple" = some false := by decide +kernel
theorem kb_str_bool : kitB "str" "bool" = some false := by decide +kernel
theorem kb_str_int : kitB "str" "int" = some false := by decide +kernel
theorem kb_str_str : kitB "str" "str" = some true := by decide +kernel
theorem kb_str_list : kitB "str" "list" = some false := by decide +kernel
theorem kb_str_tuple : kitB "str" "tuple" = some false := by decide +kernel
theorem kb_list_bool : kitB "list" "bool" = some false := by decide +kernel
theorem kb_list_int : kitB "list" "int" = some false := by decide +kernel
theorem kb_list_str : kitB "list" "str" = some false := by decide +kernel
theorem kb_list_list : kitB "list" "list" = some true := by decide +kernel
theorem kb_list_tuple : kitB "list" "tuple" = some false := by decide +kernel
theorem kb_tuple_bool : kitB "tuple" "bool" = some false := by decide +kernel
theorem kb_tuple_int : kitB "tuple" "int" = some false := by decide +kernel
theorem kb_tuple_str : kitB "tuple" "str" = some false := by decide +kernel
theorem kb_tuple_list : kitB "tuple" "list" = some false := by decide +kernel
theorem kb_tuple_tuple : kitB "tuple" "tuple" = some true := by decide +kernel
/-- data of a depth of at most n, without dicts -/
def okD : Nat → PyData → Prop
  | _, .none => True
  | _, .bool _ => True
  | _, .int _ => True
  | _, .str _ => True
  | _, .dict _ => False
  | 0, .list ds => ds = []
  | 0, .tuple ds => ds = []
  | n + 1, .list ds => ds.length ≤ 40000 ∧ ∀ e ∈ ds, okD n e
  | n + 1, .tuple ds => ds.length ≤ 40000 ∧ ∀ e ∈ ds, okD n e
def spSame (K : PySem.W.Frag) : Nat → Sp
  | 0 => fun _ _ _ _ => False
  | n + 1 => fun vs H Q _ => ∃ Hd d v1 v2, vs = [v1, v2] ∧ Ex Hd H ∧ Dp K Hd v1 d ∧ Dp K Hd v2 d ∧ okD n d ∧ ∀ H2, Ex H H2 → Q (.bl true) H2
section
variable {K : PySem.W.Frag} {X : Cx} {H H' Hd Hd' Hn H1 H2 Hm : Hp} {σ : L2.St} {ta tb tc te tx tl : TE} {t u tt : TT} {x y z v v' : V} {d : PyData} {ds es : List PyData} {tr : TA} {D : Ends} {tu tw tz : TS} {i j j2 n : Nat} {wi : TI} {g : TG}
theorem ev_same {E : XK} (h : EvDA K tr σ Hd [d, d]) (hk : okD n d) : Ev (tCall (spSame K (n + 1)) [] E tr) σ Hd (.bl true) := fun H s Q q =>
  h H s _ fun vs H2 Hn g hd => by
    cases hd with
    | cons h1 h2 =>
      cases h2 with
      | cons h2 h3 =>
        cases h3
        exact ⟨Hn, d, _, _, rfl, g.sub, h1, h2, hk, fun H3 e3 => q H3 (g.ex.trans e3)⟩
theorem go_whenT (h : EvT t σ H true) (h1 : Go tu { D with nx := tz D } σ H) : Go (tSeq (tIfS t tu tNext) tz) D σ H := go_when h (fun _ => h1) (fun e => by cases e)
theorem go_whenF (h : EvT t σ H false) (h2 : Go tz D σ H) : Go (tSeq (tIfS t tu tNext) tz) D σ H := go_when h (fun e => by cases e) (fun _ => h2)
end
end Cot
namespace Cot
open PySem L2 Evl
section
variable {K : PySem.W.Frag} {X : Cx} {H H' Hd Hd' Hn H1 H2 Hm : Hp} {σ : L2.St} {ta tb tc te tx tl : TE} {t u tt : TT} {x y z v v' : V} {d : PyData} {ds es : List PyData} {tr : TA} {D : Ends} {tu tw tz : TS} {i j j2 n : Nat} {wi : TI} {g : TG}
theorem go_for {S : Nat → L2.St → L2.St → Hp → Prop} (s : Ex Hd H) (h : EvI K wi g σ Hd n S) (Pv : Hp → Nat → L2.St → Hp → Prop) (h0 : ∀ H' Hn, Gr Hd H Hn H' → Pv Hn 0 σ H') (hE : ∀ Hn i σ' H', Pv Hn i σ' H' → Ex Hn H')
    (hs : ∀ Hn i σ' σ2 H', Ex Hd Hn → i < n → Pv Hn i σ' H' → S i σ' σ2 Hn → Go tu { D with nx := Pv Hn (i + 1), ct := Pv Hn (i + 1), bk := tz D } σ2 H')
    (hd : ∀ Hn σ' H', Ex Hd Hn → Pv Hn n σ' H' → Go tz D σ' H') : Go (tSeq (tFor wi g tu) tz) D σ H := fun H1 e1 =>
  h H1 (s.trans e1) _ fun J H2 Hn G Y gr w hG hY => by
    refine for_it w (Pv Hn) (h0 H2 Hn (gr.pre e1)) (fun i σ' H' _ p => hG H' (hE Hn i σ' H' p)) (fun i x σ' H' H'' hi p y => ?_) (fun σ' H' p => hd Hn σ' H' gr.dx p H' (Ex.refl _))
    exact hY i x H' H'' σ' _ hi (hE Hn i σ' H' p) y fun σ2 H3 e3 hS => hs Hn i σ' σ2 H' gr.dx hi p hS H3 e3
theorem eu_of (h : EvA tr σ Hd [x]) : True := trivial
end
end Cot
namespace Cot
open PySem L2 Evl
section
variable {K : PySem.W.Frag} {b : Bid} {H H' Hd Hd' Hn H1 H2 Hm : Hp} {σ : L2.St} {ta tb te : TE} {tr : TA} {n : Nat} {p : Int → Prop}
def AllP (p : Int → Prop) (n : Nat) (ds : List PyData) : Prop := ds.length = n ∧ ∀ d ∈ ds, isI p d
theorem ap_nil : EvBA K b tNil σ Hd (AllP p 0) := fun hb H s B Q q => eba_nil hb H s B Q fun vs H2 Hn ds g h e => q vs H2 Hn ds g h (by subst e; exact ⟨rfl, fun _ h => by cases h⟩)
theorem ap_cons (h : EvB K b ta σ Hd (isI p)) (hr : EvBA K b tr σ Hd (AllP p n)) : EvBA K b (tCons ta tr) σ Hd (AllP p (n + 1)) := fun hb H s B Q q => eba_cons h hr hb H s B Q fun vs H2 Hn ds g hd hp => q vs H2 Hn ds g hd (by
  obtain ⟨d, es, rfl, h1, h2, h3⟩ := hp
  refine ⟨by rw [List.length_cons, h2], fun e he => ?_⟩
  rcases List.mem_cons.mp he with rfl | he
  · exact h1
  · exact h3 e he)
theorem atI_get {α : Type} {ds : List α} {i : Int} (h0 : 0 ≤ i) (h1 : i < (ds.length : Int)) : ∃ d, atI ds i = some d ∧ d ∈ ds := by
  have h : i.toNat < ds.length := by omega
  refine ⟨ds[i.toNat], ?_, List.getElem_mem h⟩
  unfold atI ixN
  rw [if_pos h0, if_pos (by omega)]
  simp [h]
theorem eb_pick (h : EvBA K b tr σ Hd (AllP p n)) (hi : EvB K b tb σ Hd (isI fun i => 0 ≤ i ∧ i < (n : Int))) (hn : n ≤ 100000) : EvB K b (tOp (rIxL K) (tLst tr) tb) σ Hd (isI p) := by
  refine EvB.imp (eb_ixL (eb_lst h fun ds h => by rw [h.1]; exact hn) hi fun ds i h1 h2 => ?_) ?_
  · obtain ⟨d, h3, _⟩ := atI_get (ds := ds) h2.1 (by rw [h1.1]; exact h2.2)
    exact ⟨d, h3⟩
  · rintro d ⟨ds, i, h1, h2, h3⟩
    obtain ⟨d', h4, h5⟩ := atI_get (ds := ds) h2.1 (by rw [h1.1]; exact h2.2)
    rw [h3] at h4
    cases h4
    exact h1.2 d h5
theorem eb_int {q : Int → Prop} {m : Int} (h : Ev te σ Hd (.int m)) (hq : q m) : EvB K b te σ Hd (isI q) := (eb_ev h).imp fun d ⟨i, e, e2⟩ => ⟨i, e, by rw [e2]; exact hq⟩
theorem EvB.impI {p q : Int → Prop} (h : EvB K b te σ Hd (isI p)) (k : ∀ i, p i → q i) : EvB K b te σ Hd (isI q) := h.imp fun d ⟨i, e, e2⟩ => ⟨i, e, k i e2⟩
end
end Cot
namespace Cot
open PySem L2 Evl
section
variable {K : PySem.W.Frag} {b : Bid} {H H' Hd Hd' Hn H1 H2 Hm : Hp} {σ : L2.St} {ta tb te : TE} {tr : TA} {n i j : Nat} {p : Int → Prop} {Ps : List PyData → Prop} {D : Ends} {tu tz : TS} {ds : List PyData}
theorem go_forTB (hb : Hd b.b = none) (s : Ex Hd H) (B : Bx H b) (h : EvB K b te σ Hd (fun d => ∃ ds, d = .tuple ds ∧ Ps ds)) (Pv : List PyData → Hp → Nat → L2.St → Hp → Prop)
    (h0 : ∀ H' Hn ds, GrB b Hd H Hn H' → Ps ds → Pv ds Hn 0 σ H') (hE : ∀ ds Hn i σ' H', Pv ds Hn i σ' H' → Ex Hn H')
    (hs : ∀ ds Hn i σ' H' v d, Ps ds → Ex Hd Hn → Hn b.b = none → ds[i]? = some d → Dp K Hn v d → Pv ds Hn i σ' H' → Go tu { D with nx := Pv ds Hn (i + 1), ct := Pv ds Hn (i + 1), bk := tz D } (σ'.set j (some v)) H')
    (hd : ∀ ds Hn σ' H', Ps ds → Ex Hd Hn → Hn b.b = none → Pv ds Hn ds.length σ' H' → Go tz D σ' H') : Go (tSeq (tFor (iTup K te) (gName j) tu) tz) D σ H := fun H1 e1 =>
  h hb H1 (s.trans e1) (B.mono e1) _ fun v H2 Hn d g hdp hp => by
    obtain ⟨ds, rfl, ps⟩ := hp
    have hbn := g.bn hb (B.mono e1)
    cases hdp with
    | @tup a xs ds hx hall =>
      refine ⟨a, rfl, ⟨xs, ex_t g.sub hx⟩, for_it (n := ds.length) (G := fun H => SqT K H a xs) (Y := YAt xs) (by rw [← dpa_len hall]; exact walk_tup) (Pv ds Hn) (h0 H2 Hn ds (g.pre e1) ps) (fun i σ' H' _ p => ex_t (hE ds Hn i σ' H' p) hx) (fun i x σ' H' H'' hi p y => ?_) (fun σ' H' p => hd ds Hn σ' H' ps g.dx hbn p H' (Ex.refl _))⟩
      obtain ⟨rfl, hx⟩ := y
      obtain ⟨d, q1, q2⟩ := dpa_get2 hall hx
      exact hs ds Hn i σ' _ x d ps g.dx hbn q1 q2 p _ (Ex.refl _)
theorem dpa_rep {vs : List V} (h : DpAll K H vs ds) : ∀ k : Nat, DpAll K H (List.replicate k vs).flatten (List.replicate k ds).flatten
  | 0 => .nil
  | k + 1 => by
    rw [List.replicate_succ, List.replicate_succ, List.flatten_cons, List.flatten_cons]
    exact dpa_app h (dpa_rep h k)
theorem en_rep {k : Int} (h : EvN K ta σ Hd ds) (hk : Ev tb σ Hd (.int k)) (h0 : -1000 ≤ k ∧ k ≤ 1000) (hl : ds.length * k.toNat ≤ 100000) : EvN K (tOp rRep ta tb) σ Hd (List.replicate k.toNat ds).flatten := fun H s Q q =>
  h H s _ fun p xs H2 Hn g hp hn h2 hd => hk.mono g.dx H2 g.sub _ fun H3 e3 => ⟨p, k, xs, rfl, rfl, e3 _ _ h2, by omega, by omega, by rw [dpa_len hd]; exact sz_of hl, fun r hr => q r _ _ Hn ((g.post e3).trans (Gr.alloc (g.sub.trans e3) hr)) (fresh_back (g.ex.trans e3) hr) (fresh_back (g.sub.trans e3) hr) upd_same (dpa_rep hd _)⟩
end
end Cot
namespace Cot
open PySem L2 Evl
section
variable {K : PySem.W.Frag} {x qual : Str} {params : Arguments} {body : List Stmt} {scope : Scope} {dvs : List V} {kws : List (Str × V)} {f : Addr} {fd : FuncData} {ps : List Str}
theorem bindsAll (F : FunD K x qual params body scope dvs kws f fd) (n : Nat) (hd : dvs ≠ []) (hn : n = ps.length)
    (h : ∀ (T : Addr) (kV doc pm : Value) (an : Option Addr) (cdv ct : Value) (us its : List Value), us.length = n → its.length = dvs.length →
      ∃ k, bindArgs (PySem.W.fnOf x qual params body scope (.ref T) kV doc pm an cdv ct) ⟨us, []⟩ = seqItems? (.ref T) >>= k ∧ k (some its.toArray) = pure (ps.zip us)) : Binds K fd ps [] := by
  obtain ⟨ds, v, b⟩ := F.binds1 (ps := ps) n dvs.length hd (by omega) (fun T kV doc pm an cdv ct us its hu hi => by
    obtain ⟨k, h1, h2⟩ := h T kV doc pm an cdv ct us its hu hi
    refine ⟨k, h1, ?_⟩
    rw [List.drop_of_length_le (by omega), List.append_nil]
    exact h2)
  rw [List.drop_of_length_le (Nat.le_refl _)] at v
  cases v
  exact b
theorem bindsKw (F : FunD K x qual params body scope dvs kws f fd) {n : Nat} {ks : List Str} (hd : dvs ≠ [])
    (h : ∀ (T : Addr) (kV doc pm : Value) (an : Option Addr) (cdv ct : Value) (us ws its : List Value), us.length = n → ws.length = ks.length → its.length = dvs.length →
      ∃ k, bindArgs (PySem.W.fnOf x qual params body scope (.ref T) kV doc pm an cdv ct) ⟨us, ks.zip ws⟩ = seqItems? (.ref T) >>= k ∧ k (some its.toArray) = pure (ps.zip (us ++ ws))) :
    KBn K fd ps n ks (fun us ws => us ++ ws) (fun us ws => us ++ ws) := by
  obtain ⟨oc, od, dV, kV, doc, pm, an, cdv, ct, osl, rfl, lk, hcd, hD, hK⟩ := F.ex
  rcases hD with ⟨e, _⟩ | ⟨_, T, o, its, m, rfl, lT, oT, rT⟩
  · exact absurd e hd
  · refine ⟨fun s us ws X h1 h2 => ?_, fun r1 r2 => r1.append r2⟩
    obtain ⟨k, e1, e2⟩ := h T kV doc pm an cdv ct us ws its h1 h2 rT.length.symm
    refine BindsTo.of_looks fun M => ?_
    rw [e1]
    exact looks_items X lT oT (.of_pure e2)
end
end Cot

set_option Elab.async false
set_option linter.all false
set_option maxRecDepth 100000
set_option maxHeartbeats 4000000
/-! Lists that stand in the heap, loops that draw, equality of data. -/
namespace Cot
open PySem L2 Evl
def okE : Nat → PyData → Prop
  | _, .none => True
  | _, .bool _ => True
  | _, .int _ => True
  | _, .str x => PyData.strOk x = true
  | _, .dict _ => False
  | 0, .list ds => ds = []
  | 0, .tuple ds => ds = []
  | n + 1, .list ds => ∀ e ∈ ds, okE n e
  | n + 1, .tuple ds => ∀ e ∈ ds, okE n e
theorem canAll : ∀ {ds : List PyData}, (∀ e ∈ ds, e.canLay0 = true) → PyData.canLayAll0 ds = true
  | [], _ => by unfold PyData.canLayAll0; rfl
  | d :: ds, h => by
    unfold PyData.canLayAll0
    rw [h d List.mem_cons_self, canAll fun e he => h e (List.mem_cons_of_mem _ he)]
    rfl
theorem depAll {n : Nat} : ∀ {ds : List PyData}, (∀ e ∈ ds, e.depth ≤ n) → PyData.depthAll ds ≤ n
  | [], _ => by unfold PyData.depthAll; omega
  | d :: ds, h => by
    unfold PyData.depthAll
    have h1 := h d List.mem_cons_self
    have h2 := depAll fun e he => h e (List.mem_cons_of_mem _ he)
    omega
theorem okE_lay : ∀ (n : Nat) (d : PyData), okE n d → d.canLay0 = true ∧ d.depth ≤ n + 1
  | n, .none, _ => ⟨by unfold PyData.canLay0; rfl, by unfold PyData.depth; omega⟩
  | n, .bool _, _ => ⟨by unfold PyData.canLay0; rfl, by unfold PyData.depth; omega⟩
  | n, .int _, _ => ⟨by unfold PyData.canLay0; rfl, by unfold PyData.depth; omega⟩
  | n, .str x, h => ⟨by unfold PyData.canLay0; cases n <;> exact h, by unfold PyData.depth; omega⟩
  | n, .dict _, h => by cases n <;> exact h.elim
  | 0, .list ds, h => by
    have e : ds = [] := h
    subst e
    exact ⟨by unfold PyData.canLay0; exact canAll (fun _ h => by cases h), by unfold PyData.depth PyData.depthAll; omega⟩
  | 0, .tuple ds, h => by
    have e : ds = [] := h
    subst e
    exact ⟨by unfold PyData.canLay0; exact canAll (fun _ h => by cases h), by unfold PyData.depth PyData.depthAll; omega⟩
  | n + 1, .list ds, h => ⟨by unfold PyData.canLay0; exact canAll fun e he => (okE_lay n e (h e he)).1, by
      unfold PyData.depth
      have := depAll (n := n + 1) (ds := ds) fun e he => (okE_lay n e (h e he)).2
      omega⟩
  | n + 1, .tuple ds, h => ⟨by unfold PyData.canLay0; exact canAll fun e he => (okE_lay n e (h e he)).1, by
      unfold PyData.depth
      have := depAll (n := n + 1) (ds := ds) fun e he => (okE_lay n e (h e he)).2
      omega⟩
theorem okE_shaped {n : Nat} {d : PyData} (h : okE n d) (hn : n ≤ 63) : SeqAt.shaped d = true := by
  have h1 := okE_lay n d h
  unfold SeqAt.shaped
  rw [h1.1, decide_eq_true (by omega)]
  rfl
theorem okE_ints (n : Nat) (ns : List Int) : okE (n + 1) (.list (ns.map .int)) := fun e he => by
  obtain ⟨i, _, rfl⟩ := List.mem_map.mp he
  cases n <;> trivial
theorem okE_nil : okE 0 (.list []) := rfl
theorem eqv_ints (xs ys : List Int) : PyData.eqv (.list (xs.map .int)) (.list (ys.map .int)) = decide (xs = ys) := by
  unfold PyData.eqv
  induction xs generalizing ys with
  | nil => cases ys <;> simp [PyData.eqvAll]
  | cons x xs ih =>
    cases ys with
    | nil => simp [PyData.eqvAll]
    | cons y ys =>
      simp only [List.map_cons, PyData.eqvAll]
      rw [ih ys]
      simp only [PyData.eqv, List.cons.injEq, Bool.decide_and]
      rfl
section
variable {K : PySem.W.Frag} {X : Cx} {b : Bid} {l : Addr} {H H' Hd Hd' Hn H1 H2 Hm : Hp} {σ : L2.St} {ta tb te : TE} {tl th : TO} {tr : TA} {n i j : Nat} {p : Int → Prop} {P : PyData → Prop} {D : Ends} {tu tz : TS} {ds es : List PyData} {xs : List V} {lo hi : Option Int}
/-- a list that stands in the heap -/
def EvM (K : PySem.W.Frag) (te : TE) (σ : L2.St) (Hd : Hp) (ds : List PyData) : Prop := ∀ H, Ex Hd H → ∀ Q : VK, (∀ p xs H2 Hn, Gr Hd H Hn H2 → H2 p = some (.lst xs) → DpAll K Hn xs ds → Q (.ref p) H2) → te σ H Q
theorem EvM.mono (e : Ex Hd Hd') (h : EvM K te σ Hd ds) : EvM K te σ Hd' ds := fun H s Q q => h H (e.trans s) Q fun p xs H2 Hn g h2 hd => q p xs H2 _ (g.up e s) h2 (dpa_mono (g.upr e s) ds hd)
theorem em_new (h : EvN K te σ Hd ds) : EvM K te σ Hd ds := fun H s Q q => h H s Q fun p xs H2 Hn g _ _ h2 hd => q p xs H2 Hn g h2 hd
theorem em_ref (h : Ev te σ Hd (.ref l)) (hl : Hd l = some (.lst xs)) (hd : DpAll K Hd xs ds) : EvM K te σ Hd ds := fun H s Q q => h H s Q fun H2 e => q l xs H2 Hd (Gr.ext s e) (e _ _ (s _ _ hl)) hd
theorem en_cat (ha : EvM K ta σ Hd ds) (hb : EvM K tb σ Hd es) (hl : ds.length + es.length ≤ 100000) : EvN K (tOp rCat ta tb) σ Hd (ds ++ es) := fun H s Q q =>
  ha H s _ fun p xs H2 Hn g h2 hd => hb.mono g.dx H2 g.sub _ fun p' ys H3 Hm g3 h3 hd3 => ⟨p, p', xs, ys, rfl, rfl, g3.ex _ _ h2, h3, sz_of (by rw [dpa_len hd, dpa_len hd3]; exact hl), fun r hr =>
    q r _ _ Hm ((g.trans g3).trans (Gr.alloc g3.sub hr)) (fresh_back (g.ex.trans g3.ex) hr) (fresh_back g3.sub hr) upd_same (dpa_app (dpa_mono g3.dx _ hd) hd3)⟩
theorem en_slice (h : EvD K te σ Hd (.list ds)) (h1 : EvO tl σ Hd lo) (h2 : EvO th σ Hd hi) : EvN K (tSl (rSlL K) te tl th) σ Hd ((ds.drop (HT.sIx ds.length 0 lo)).take (HT.sIx ds.length ds.length hi - HT.sIx ds.length 0 lo)) := fun H s Q q =>
  h H s _ fun v H2 Hn g hd => by
    cases hd with
    | @lst a xs ds hs hall =>
      have e0 : ∀ {H3}, Ex H2 H3 → Ex Hd H3 := fun e => (g.dx.trans g.sub).trans e
      refine h1 H2 (g.dx.trans g.sub) _ fun H3 e3 => h2 H3 (e0 e3) _ fun H4 e4 => ⟨a, xs, rfl, ex_l ((g.sub.trans e3).trans e4) hs, fun r hr => ?_⟩
      refine q r _ _ Hn ((g.post (e3.trans e4)).trans (Gr.alloc (g.sub.trans (e3.trans e4)) hr)) (fresh_back (g.ex.trans (e3.trans e4)) hr) (fresh_back (g.sub.trans (e3.trans e4)) hr) upd_same ?_
      unfold cutV
      rw [dpa_len hall]
      exact dpa_take _ (dpa_drop _ hall)
theorem dpa_rev : ∀ {ds : List PyData} {vs : List V}, DpAll K H vs ds → DpAll K H vs.reverse ds.reverse
  | [], _, h => by cases h; exact .nil
  | d :: ds, _, h => by
    cases h with
    | cons a b =>
      rw [List.reverse_cons, List.reverse_cons]
      exact dpa_app (dpa_rev b) (.cons a .nil)
theorem en_rev (h : EvD K te σ Hd (.list ds)) : EvN K (tRevL K te) σ Hd ds.reverse := fun H s Q q =>
  h H s _ fun v H2 Hn g hd => by
    cases hd with
    | @lst a xs ds hs hall => exact ⟨a, xs, rfl, ex_l g.sub hs, fun r hr => q r _ _ Hn (g.trans (Gr.alloc g.sub hr)) (fresh_back g.ex hr) (fresh_back g.sub hr) upd_same (dpa_rev hall)⟩
theorem en_list (h : EvD K te σ Hd (.list ds)) : EvN K (tCB (rListS K) (tCons te tNil)) σ Hd ds := fun H s Q q =>
  h H s _ fun v H2 Hn g hd => by
    cases hd with
    | @lst a xs ds hs hall => exact ⟨a, xs, rfl, Or.inl (ex_l g.sub hs), fun r hr => q r _ _ Hn (g.trans (Gr.alloc g.sub hr)) (fresh_back g.ex hr) (fresh_back g.sub hr) upd_same hall⟩
theorem go_forRB (hb : Hd b.b = none) (s : Ex Hd H) (B : Bx H b) (h : EvBA K b tr σ Hd (fun ds => ∃ m, ds = [.int m] ∧ p m)) (hp : ∀ m, p m → -100000 ≤ m ∧ m ≤ 100000) (Pv : Int → Hp → Nat → L2.St → Hp → Prop)
    (h0 : ∀ H' Hn m, GrB b Hd H Hn H' → p m → Pv m Hn 0 σ H')
    (hs : ∀ m Hn i σ' H', p m → Ex Hd Hn → Hn b.b = none → i < m.toNat → Pv m Hn i σ' H' → Go tu { D with nx := Pv m Hn (i + 1), ct := Pv m Hn (i + 1), bk := tz D } (σ'.set j (some (.int (i : Int)))) H')
    (hd : ∀ m Hn σ' H', p m → Ex Hd Hn → Hn b.b = none → Pv m Hn m.toNat σ' H' → Go tz D σ' H') : Go (tSeq (tFor (iRng1 tr) (gName j) tu) tz) D σ H := fun H1 e1 =>
  h hb H1 (s.trans e1) (B.mono e1) _ fun vs H2 Hn ds g hdp hq => by
    obtain ⟨m, rfl, pm⟩ := hq
    have hbn := g.bn hb (B.mono e1)
    have hpm := hp m pm
    cases hdp with
    | cons h1 h2 =>
      cases h2
      cases h1
      refine ⟨m, rfl, by omega, by omega, for_it (walk_range (lo := 0) (n := m.toNat)) (Pv m Hn) (h0 H2 Hn m (g.pre e1) pm) (fun _ _ _ _ _ => trivial) (fun i x σ' H' H'' hi q y => ?_) (fun σ' H' q => hd m Hn σ' H' pm g.dx hbn q H' (Ex.refl _))⟩
      obtain ⟨rfl, rfl⟩ := y
      have e0 : (0 : Int) + (i : Int) = (i : Int) := Int.zero_add _
      show tu _ (σ'.set j (some (.int ((0 : Int) + (i : Int))))) _
      rw [e0]
      exact hs m Hn i σ' _ pm g.dx hbn hi q _ (Ex.refl _)
theorem go_appB (hb : Hd b.b = none) (s : Ex Hd H) (B : Bx H b) (hl : H l = some (.lst xs)) (nl : l ≠ b.b) (ha : Ev ta σ H (.ref l)) (h : EvB K b te σ Hd P) (hz : xs.length < 100000)
    (k : ∀ v H' Hn d, GrB b Hd H Hn H' → Dp K Hn v d → P d → Go tz D σ (upd H' l (.lst (xs ++ [v])))) : Go (tSeq (tDrop (tBM K "list" rAppend ta (tCons te tNil))) tz) D σ H := fun H1 e1 =>
  ha H1 e1 _ fun H2 e2 => ⟨Or.inl ⟨rfl, xs, sq_of ((e1.trans e2) _ _ hl)⟩, h hb H2 ((s.trans e1).trans e2) ((B.mono e1).mono e2) _ fun v H3 Hn d g hd hp => ⟨l, xs, v, rfl, rfl, g.exb _ _ nl ((e1.trans e2) _ _ hl), sz_lt hz, k v H3 Hn d (g.pre (e1.trans e2)) hd hp _ (Ex.refl _)⟩⟩
end
end Cot
namespace Cot
open PySem L2 Evl
section
variable {K : PySem.W.Frag} {b : Bid} {H H' Hd Hd' Hn H1 H2 Hm : Hp} {σ : L2.St} {ta tb te : TE} {tl th : TO} {tr : TA} {Ps Ps' : List PyData → Prop} {ds : List PyData}
theorem EvBA.imp (h : EvBA K b tr σ Hd Ps) (k : ∀ d, Ps d → Ps' d) : EvBA K b tr σ Hd Ps' := fun hb H s B Q q => h hb H s B Q fun v H2 Hn d g hd hp => q v H2 Hn d g hd (k d hp)
theorem eba_one {p : Int → Prop} (h : EvB K b ta σ Hd (isI p)) : EvBA K b (tCons ta tNil) σ Hd (fun ds => ∃ m, ds = [.int m] ∧ p m) := (eba_cons h eba_nil).imp fun ds ⟨d, es, e1, ⟨m, e2, pm⟩, e3⟩ => ⟨m, by rw [e1, e2, e3], pm⟩
theorem en_from {j : Nat} (h : EvD K te σ Hd (.list ds)) (h1 : Ev ta σ Hd (.int (j : Int))) : EvN K (tSl (rSlL K) te (tPart ta) tNoPart) σ Hd (ds.drop j) := by
  have h2 := en_slice h (eo_some h1) (eo_none (σ := σ) (H := Hd))
  rw [HT.sIx_none, HT.sIx_nat] at h2
  by_cases hj : j ≤ ds.length
  · rw [Nat.min_eq_left hj, List.take_of_length_le (by rw [List.length_drop]; omega)] at h2
    exact h2
  · rw [Nat.min_eq_right (by omega), Nat.sub_self, List.take_zero] at h2
    rw [List.drop_of_length_le (by omega)]
    exact h2
theorem en_upto {j : Nat} (h : EvD K te σ Hd (.list ds)) (h1 : Ev ta σ Hd (.int (j : Int))) : EvN K (tSl (rSlL K) te tNoPart (tPart ta)) σ Hd (ds.take j) := by
  have h2 := en_slice h (eo_none (σ := σ) (H := Hd)) (eo_some h1)
  rw [HT.sIx_none, HT.sIx_nat, List.drop_zero, Nat.sub_zero] at h2
  by_cases hj : j ≤ ds.length
  · rw [Nat.min_eq_left hj] at h2
    exact h2
  · rw [Nat.min_eq_right (by omega), List.take_length] at h2
    rw [List.take_of_length_le (by omega)]
    exact h2
end
end Cot

set_option Elab.async false
set_option linter.all false
set_option maxRecDepth 100000
set_option maxHeartbeats 4000000
/-! Tuples of any kind, ranges asked, tests and comprehensions that draw. -/
namespace Cot
open PySem L2 Evl PyProof.Rows
section
variable {X : Cx}
def rTupS (K : PySem.W.Frag) : List V → Hp → VK → Prop := fun xs H Q => ∃ p ys, xs = [.ref p] ∧ ((SqL K H p ys ∧ ∀ l, H l = none → Q (.ref l) (upd H l (.tup ys))) ∨ (SqT K H p ys ∧ Q (.ref p) H))
theorem call_tupleQ : CallR X (.type "tuple") (rTupS X.K) := call_tuple_of
def rRg2 : List V → Hp → VK → Prop := fun vs H Q => ∃ i j, vs = [V.int i, V.int j] ∧ ∀ p, H p = none → Q (.ref p) (upd H p (.rng i j))
theorem call_rangeQ : CallR X (.type "range") rRg2 := cr_range2
def rInR (neg : Bool) : R2 := fun x y H Q => ∃ i a lo hi, x = V.int i ∧ y = V.ref a ∧ H a = some (.rng lo hi) ∧ Q (.bl (if neg then !decide (lo ≤ i ∧ i < hi) else decide (lo ≤ i ∧ i < hi))) H
theorem op_inR : OpR X (compareOp .In) (rInR false) := op_in_rng
theorem op_notInR : OpR X (compareOp .NotIn) (rInR true) := by
  intro ps s0 σ0 H0 x y vx vy Q I rx ry hq
  obtain ⟨i, a, lo, hi, rfl, rfl, ha, q⟩ := hq
  obtain ⟨k, rfl⟩ := rx
  cases ry
  obtain ⟨ta, tb, tc, ho⟩ := I.hok a _ ha
  show wpAny _ _ (do return Value.bool (!(← contains (.ref a) (.int i k)))) _ _ s0
  refine wpAny_bind ?_
  refine wpAny_contains_slot (T := "range") ?t1 F.slot_range_contains ?t2
  case t1 => exact ⟨_, ho, rfl⟩
  case t2 =>
  refine call_meets F.slot_range_contains ?t3 F.entry_range_contains (F.args_range_contains_2 _ _) (q_contains a lo hi i ta tb tc k) ?t4
  case t3 => exact ⟨_, ho, rfl⟩
  case t4 =>
  refine ⟨ho, wpAny_truthy_bool (wpAny_pure ?_)⟩
  refine ⟨.bl _, H0, I, rfl, ?_⟩
  rw [place1]
  exact q
end
section
variable {K : PySem.W.Frag} {b : Bid} {l : Addr} {H H' Hd Hd' Hn H1 H2 Hm : Hp} {σ : L2.St} {ta tb te : TE} {t u : TT} {tl th : TO} {tr : TA} {n i j j2 : Nat} {p : Int → Prop} {P : PyData → Prop} {D : Ends} {tu tw tz : TS} {d d1 d2 : PyData} {ds es : List PyData} {xs : List V} {lo hi : Option Int} {wi : TI} {g : TG} {x : V}
theorem ed_tupleL (h : EvD K te σ Hd (.list ds)) : EvD K (tCB (rTupS K) (tCons te tNil)) σ Hd (.tuple ds) := fun H s Q q =>
  h H s _ fun v H2 Hn g hd => by
    cases hd with
    | @lst a xs ds hs hall => exact ⟨a, xs, rfl, Or.inl ⟨ex_l g.sub hs, fun r hr => q (.ref r) _ _ (g.trans (Gr.new g.sub hr)) (.tup (st_of upd_same) (dpa_mono (Ex.new (fresh_back g.sub hr)) _ hall))⟩⟩
theorem ed_catT (ha : EvD K ta σ Hd (.tuple ds)) (hb : EvD K tb σ Hd (.tuple es)) (hl : ds.length + es.length ≤ 100000) : EvD K (tOp (rCatA K) ta tb) σ Hd (.tuple (ds ++ es)) := fun H s Q q =>
  ha H s _ fun v H2 Hn g hd => hb.mono g.dx H2 g.sub _ fun v2 H3 Hm g3 hd3 => by
    have hd' := dp_mono g3.dx _ hd
    cases hd' with
    | @tup a xs ds hs hall =>
      have h3 := hd3
      cases hd3 with
      | @tup a2 ys es hs2 hall2 =>
        refine ⟨a, a2, xs, ys, rfl, rfl, ex_t g3.sub hs, ex_t g3.sub hs2, sz_of (by rw [dpa_len hall, dpa_len hall2]; exact hl), fun e => ?_, fun e e2 => ?_, fun e e2 r hr => ?_⟩
        · subst e
          cases hall
          exact q _ H3 Hm (g.trans g3) h3
        · subst e2
          cases hall2
          rw [List.append_nil] at q
          exact q _ H3 Hm (g.trans g3) (.tup hs hall)
        · exact q (.ref r) _ _ ((g.trans g3).trans (Gr.new g3.sub hr)) (.tup (st_of upd_same) (dpa_mono (Ex.new (fresh_back g3.sub hr)) _ (dpa_app hall hall2)))
def cutD (ds : List PyData) (lo hi : Option Int) : List PyData := (ds.drop (HT.sIx ds.length 0 lo)).take (HT.sIx ds.length ds.length hi - HT.sIx ds.length 0 lo)
theorem cutD_mem {e : PyData} (h : e ∈ cutD ds lo hi) : e ∈ ds := List.mem_of_mem_drop (List.mem_of_mem_take h)
theorem cutD_len : (cutD ds lo hi).length ≤ ds.length := by
  unfold cutD
  rw [List.length_take, List.length_drop]
  omega
theorem dpa_cut {vs : List V} (h : DpAll K H vs ds) : DpAll K H (cutV vs lo hi) (cutD ds lo hi) := by
  unfold cutV cutD
  rw [dpa_len h]
  exact dpa_take _ (dpa_drop _ h)
theorem cut_done {a : Addr} {Q : VK} {H4 : Hp} (hs : SqT K Hn a xs) (hall : DpAll K Hn xs ds) (s : Ex Hn H4) (q : ∀ v H5 Hm, Gr Hn H4 Hm H5 → Dp K Hm v (.tuple (cutD ds lo hi)) → Q v H5) : rSlA K (.ref a) lo hi H4 Q := by
  refine ⟨a, xs, rfl, ex_t s hs, fun hw => ?_, fun _ r hr => ?_⟩
  · have e : cutD ds lo hi = ds := by
      unfold cutD
      rw [dpa_len hall] at hw
      rw [hw.1, hw.2, List.drop_zero, Nat.sub_zero, List.take_length]
    refine q _ H4 Hn (Gr.refl s) ?_
    rw [e]
    exact .tup hs hall
  · exact q (.ref r) _ _ (Gr.new s hr) (.tup (st_of upd_same) (dpa_mono (Ex.new (fresh_back s hr)) _ (dpa_cut hall)))
theorem ed_slT (h : EvD K te σ Hd (.tuple ds)) (h1 : EvO tl σ Hd lo) (h2 : EvO th σ Hd hi) : EvD K (tSl (rSlA K) te tl th) σ Hd (.tuple (cutD ds lo hi)) := fun H s Q q =>
  h H s _ fun v H2 Hn g hd => by
    cases hd with
    | @tup a xs ds hs hall =>
      have e0 : ∀ {H3}, Ex H2 H3 → Ex Hd H3 := fun e => (g.dx.trans g.sub).trans e
      refine h1 H2 (g.dx.trans g.sub) _ fun H3 e3 => h2 H3 (e0 e3) _ fun H4 e4 => cut_done hs hall ((g.sub.trans e3).trans e4) fun v H5 Hm g5 hv => q v H5 Hm ((g.post (e3.trans e4)).trans g5) hv
/-- t[:e], e drawn -/
theorem eb_slT (h : EvD K te σ Hd (.tuple ds)) (h2 : EvB K b tb σ Hd (isI p)) : EvB K b (tSl (rSlA K) te tNoPart (tPart tb)) σ Hd (fun d => ∃ i, p i ∧ d = .tuple (cutD ds none (some i))) := fun hb H s B Q q =>
  h H s _ fun v H2 Hn g hd => by
    cases hd with
    | @tup a xs ds hs hall =>
      have gb := GrB.of g B
      refine h2.mono g.dx (gb.bn hb B) H2 g.sub gb.bx _ fun v3 H3 Hm d3 g3 hd3 hp3 => ?_
      obtain ⟨i, rfl, pi⟩ := hp3
      cases hd3
      refine ⟨i, rfl, cut_done (ex_t g3.dx hs) (dpa_mono g3.dx _ hall) g3.sub fun v H5 Hk g5 hv => q v H5 Hk _ ?_ hv ⟨i, pi, rfl⟩⟩
      exact (gb.trans g3 hb B).trans (GrB.of g5 g3.bx) hb B
theorem ed_repT {k : Int} (ha : EvD K ta σ Hd (.tuple ds)) (hk : Ev tb σ Hd (.int k)) (hne : ds ≠ []) (h0 : 2 ≤ k ∧ k ≤ 1000) (hl : ds.length ≤ 1000) : EvD K (tOp (rRepT K) ta tb) σ Hd (.tuple (List.replicate k.toNat ds).flatten) := fun H s Q q =>
  ha H s _ fun v H2 Hn g hd => hk.mono g.dx H2 g.sub _ fun H3 e3 => by
    cases hd with
    | @tup a xs ds hs hall =>
      refine ⟨a, k, xs, rfl, rfl, ex_t (g.sub.trans e3) hs, fun e => ?_, h0.1, h0.2, by rw [dpa_len hall]; exact hl, fun r hr => q (.ref r) _ _ ((g.post e3).trans (Gr.new (g.sub.trans e3) hr)) (.tup (st_of upd_same) (dpa_mono (Ex.new (fresh_back (g.sub.trans e3) hr)) _ (dpa_rep hall _)))⟩
      subst e
      cases hall
      exact hne rfl
theorem ev_inR {neg : Bool} {i lo hi : Int} (ha : Ev ta σ H (.int i)) (h1 : EvA tr σ H [.int lo, .int hi]) : Ev (tOp (rInR neg) ta (tCB rRg2 tr)) σ H (.bl (if neg then !decide (lo ≤ i ∧ i < hi) else decide (lo ≤ i ∧ i < hi))) := fun H1 e1 Q q =>
  ha H1 e1 _ fun H2 e2 => h1 H2 (e1.trans e2) _ fun H3 e3 => ⟨lo, hi, rfl, fun p hp => ⟨i, p, lo, hi, rfl, rfl, upd_same, q _ ((e2.trans e3).trans (Ex.new hp))⟩⟩
/-- a, b = e -/
theorem go_two (s : Ex Hd H) (h : EvD K te σ Hd (.tuple [d1, d2])) (k : ∀ v1 v2 H' Hn, Gr Hd H Hn H' → Dp K Hn v1 d1 → Dp K Hn v2 d2 → Go tz D ((σ.set i (some v1)).set j (some v2)) H') : Go (tSeq (tAsg te (gTup K 2 (gCons (gName i) (gCons (gName j) gNil)))) tz) D σ H := fun H1 e1 =>
  h H1 (s.trans e1) _ fun v H2 Hn g hd => by
    cases hd with
    | @tup a xs ds hs hall =>
      cases hall with
      | cons h1 h2 =>
        cases h2 with
        | cons h2 h3 =>
          cases h3
          exact ⟨a, _, rfl, ex_t g.sub hs, rfl, _, _, rfl, _, _, rfl, rfl, k _ _ H2 Hn (g.pre e1) h1 h2 H2 (Ex.refl _)⟩
theorem go_appD (s : Ex Hd H) (hl : H l = some (.lst xs)) (ha : Ev ta σ H (.ref l)) (h : EvD K te σ Hd d) (hz : xs.length < 100000) (k : ∀ v H' Hn, Gr Hd H Hn H' → Dp K Hn v d → Go tz D σ (upd H' l (.lst (xs ++ [v])))) :
    Go (tSeq (tDrop (tBM K "list" rAppend ta (tCons te tNil))) tz) D σ H := fun H1 e1 =>
  ha H1 e1 _ fun H2 e2 => ⟨Or.inl ⟨rfl, xs, sq_of ((e1.trans e2) _ _ hl)⟩, h H2 ((s.trans e1).trans e2) _ fun v H3 Hn g hd => ⟨l, xs, v, rfl, rfl, g.ex _ _ ((e1.trans e2) _ _ hl), sz_lt hz, k v H3 Hn (g.pre (e1.trans e2)) hd _ (Ex.refl _)⟩⟩
theorem ex_add {o : HO} (s : Ex Hd H) (h : H l = some o) : Ex (upd Hd l o) H := fun a u ha => by
  by_cases e : a = l
  · subst e
    rw [upd_same] at ha
    exact h.trans ha
  · rw [upd_ne e] at ha
    exact s a u ha
/-- a test that draws -/
def EvBT (K : PySem.W.Frag) (b : Bid) (t : TT) (σ : L2.St) (Hd : Hp) : Prop := Hd b.b = none → ∀ H, Ex Hd H → Bx H b → ∀ Q : Bool → Hp → Prop, (∀ c H2 Hn, GrB b Hd H Hn H2 → Q c H2) → t σ H Q
theorem ebt_of {c : Bool} (h : EvT t σ Hd c) : EvBT K b t σ Hd := fun hb H s B Q q => h H s _ fun H2 e => q c H2 Hd (GrB.of (Gr.ext s e) B)
theorem EvBT.mono (e : Ex Hd Hd') (h : EvBT K b t σ Hd) : EvBT K b t σ Hd' := fun hb H s B Q q => h (fresh_back e hb) H (e.trans s) B Q fun c H2 Hn g => q c H2 _ (g.up e s hb).1
theorem ebt_and (h : EvBT K b t σ Hd) (h2 : EvBT K b u σ Hd) : EvBT K b (tAnd t u) σ Hd := fun hb H s B Q q => h hb H s B _ fun c H2 Hn g => by
  cases c with
  | true =>
    show u σ H2 Q
    exact h2.mono g.dx (g.bn hb B) H2 g.sub g.bx Q fun c H3 Hm g3 => q c H3 Hm (g.trans g3 hb B)
  | false => exact q false H2 Hn g
theorem ebt_I0 {gg : Int → Int → V} {f : Int → Int → Bool} {p p' : Int → Prop} (hg : ∀ i j, gg i j = .bl (f i j)) (ha : EvB K b ta σ Hd (isI p)) (hb' : EvB K b tb σ Hd (isI p')) : EvBT K b (tTest (tOp (rI0 gg) ta tb)) σ Hd := fun hb H s B Q q =>
  ha hb H s B _ fun v H1 Hn d g hd hp => hb'.mono g.dx (g.bn hb B) H1 g.sub g.bx _ fun v2 H2 Hm d2 g2 hd2 hp2 => by
    obtain ⟨i, rfl, pi⟩ := hp
    obtain ⟨j, rfl, pj⟩ := hp2
    cases hd
    cases hd2
    exact ⟨i, j, rfl, rfl, f i j, hg i j, q _ H2 Hm (g.trans g2 hb B)⟩
theorem go_whenB (hb : Hd b.b = none) (s : Ex Hd H) (B : Bx H b) (h : EvBT K b t σ Hd) (h1 : ∀ H' Hn, GrB b Hd H Hn H' → Go tu { D with nx := tz D } σ H') (h2 : ∀ H' Hn, GrB b Hd H Hn H' → Go tz D σ H') : Go (tSeq (tIfS t tu tNext) tz) D σ H := fun H1 e1 =>
  h hb H1 (s.trans e1) (B.mono e1) _ fun c H2 Hn g => by
    cases c with
    | true => exact h1 H2 Hn (g.pre e1) H2 (Ex.refl _)
    | false => exact h2 H2 Hn (g.pre e1) H2 (Ex.refl _)
/-- a comprehension whose items draw -/
theorem eb_lc {S : Nat → L2.St → L2.St → Hp → Prop} {vs : List Nat} {PP : PyData → Prop} (h : EvI K wi g σ Hd n S) (hn : n ≤ 40000)
    (ht : ∀ (i : Nat) (σ2 : L2.St) (Hn : Hp), i < n → Ex Hd Hn → S i (wipe σ vs) σ2 Hn → wipe σ2 vs = wipe σ vs ∧ EvB K b te σ2 Hn PP) : EvB K b (tLc wi g tYes te vs) σ Hd (fun d => ∃ ds, d = .list ds ∧ ds.length = n ∧ ∀ e ∈ ds, PP e) := fun hb H s B Q q =>
  h H s _ fun J H1 Hn G Y gr w hG hY Dl hD => by
    have gb := GrB.of gr B
    have hbn := gb.bn hb B
    obtain ⟨nb, nca⟩ := gb.bx.apart hD
    refine lc_it w (fun i H' => i ≤ n ∧ ∃ Hm acc ds, GrB b Hn H1 Hm H' ∧ Hm Dl = none ∧ H' Dl = some (.lst acc) ∧ DpAll K Hm acc ds ∧ ds.length = i ∧ ∀ e ∈ ds, PP e) ⟨Nat.zero_le _, Hn, [], [], GrB.of (Gr.alloc gr.sub hD) gb.bx, fresh_back gr.sub hD, upd_same, .nil, rfl, fun _ h => by cases h⟩ (fun i H' _ p => ?_) (fun i x H' H'' hi p y => ?_) (fun H' p => ?_)
    · obtain ⟨_, Hm, acc, ds, g1, _⟩ := p
      exact hG H' (g1.dx.trans g1.sub)
    · obtain ⟨_, Hm, acc, ds, g1, hm, h2, hac, hln, hpp⟩ := p
      refine hY i x H' H'' _ _ hi (g1.dx.trans g1.sub) y fun σ2 H3 e3 hS => ?_
      obtain ⟨hw, hE⟩ := ht i σ2 Hn hi gr.dx hS
      refine ⟨hw, ?_⟩
      have al : acc.length < sizeLine := sz_lt (by rw [dpa_len hac]; omega)
      have hbm := g1.bn hbn gb.bx
      refine (hE.mono g1.dx) hbm H3 (g1.sub.trans e3) (g1.bx.mono e3) _ fun y H5 Ho d5 g5 hy hp5 => ?_
      have h3 : H3 Dl = some (.lst acc) := e3 _ _ h2
      have ho : Ho Dl = none := g5.fr _ _ h3 hm
      refine ⟨acc, g5.exb _ _ nb h3, al, hi, Ho, acc ++ [y], ds ++ [d5], ⟨fun a o na ha => ?_, g1.dx.trans g5.dx, Ex.mut g5.sub ho, fun a o ha hd => ?_, g5.bx.keep nb nca⟩, ho, upd_same, dpa_app (dpa_mono g5.dx _ hac) (.cons hy .nil), by rw [List.length_append, hln]; rfl, fun e he => ?_⟩
      · rw [upd_ne (ne_of_none ha hD)]
        exact g5.exb a o na (e3 a o (g1.exb a o na ha))
      · by_cases e : a = b.b
        · rw [e]
          exact g5.bn hbm (g1.bx.mono e3)
        · exact g5.fr a o (e3 a o (g1.exb a o e ha)) (g1.fr a o ha hd)
      · rcases List.mem_append.mp he with he | he
        · exact hpp e he
        · rcases List.mem_cons.mp he with rfl | he
          · exact hp5
          · cases he
    · obtain ⟨_, Hm, acc, ds, g1, hm, h2, hac, hln, hpp⟩ := p
      refine q (.ref Dl) H' (upd Hm Dl (.lst acc)) (.list ds) ⟨fun a o na ha => g1.exb a o na (gr.ex a o ha), (gr.dx.trans g1.dx).trans (Ex.new hm), ex_add g1.sub h2, fun a o ha hd => ?_, g1.bx⟩ (.lst (sq_of upd_same) (dpa_mono (Ex.new hm) _ hac)) ⟨ds, rfl, hln, hpp⟩
      have ha1 := gr.ex a o ha
      rw [upd_ne (ne_of_none ha1 hD)]
      exact g1.fr a o ha1 (gr.fr a o ha hd)
theorem eb_tupleL {Ps : List PyData → Prop} (h : EvB K b te σ Hd (fun d => ∃ ds, d = .list ds ∧ Ps ds)) : EvB K b (tCB (rTupS K) (tCons te tNil)) σ Hd (fun d => ∃ ds, d = .tuple ds ∧ Ps ds) := fun hb H s B Q q =>
  h hb H s B _ fun v H2 Hn d g hd hp => by
    obtain ⟨ds, rfl, ps⟩ := hp
    cases hd with
    | @lst a xs ds hs hall => exact ⟨a, xs, rfl, Or.inl ⟨ex_l g.sub hs, fun r hr => q (.ref r) _ _ (.tuple ds) (g.trans (GrB.of (Gr.new g.sub hr) g.bx) hb B) (.tup (st_of upd_same) (dpa_mono (Ex.new (fresh_back g.sub hr)) _ hall)) ⟨ds, rfl, ps⟩⟩⟩
end
end Cot
namespace Cot
open PySem L2 Evl
section
variable {K : PySem.W.Frag} {b : Bid} {l : Addr} {o : HO} {H H' Hd Hg Hd' Hn H1 H2 Hm : Hp}
theorem GrB.fresh (G : GrB b Hd H Hg H') (h : H' l = none) : H l = none := by
  obtain ⟨ob, hob⟩ := G.bx.some
  have n : l ≠ b.b := (ne_of_none hob h).symm
  cases e : H l with
  | none => rfl
  | some u =>
    rw [G.exb l u n e] at h
    cases h
theorem GrB.mut (G : GrB b Hd H Hg H') (h0 : H l = none) (hg : Hg l = none) (n1 : l ≠ b.b) (n2 : l ≠ b.ca) : GrB b Hd H Hg (upd H' l o) :=
  ⟨fun a u na ha => by rw [upd_ne (ne_of_none ha h0)]; exact G.exb a u na ha, G.dx, Ex.mut G.sub hg, G.fr, G.bx.keep n1 n2⟩
theorem GrB.add (G : GrB b Hd H Hg H') (h0 : H l = none) (hg : Hg l = none) (hl : H' l = some o) : GrB b Hd H (upd Hg l o) H' :=
  ⟨G.exb, G.dx.trans (Ex.new hg), ex_add G.sub hl, fun a u ha hd => by rw [upd_ne (ne_of_none ha h0)]; exact G.fr a u ha hd, G.bx⟩
theorem GrB.low (e : Ex Hg Hd') (g : GrB b Hd' H Hn H2) : GrB b Hg H Hg H2 := ⟨g.exb, Ex.refl _, (e.trans g.dx).trans g.sub, fun _ _ _ h => h, g.bx⟩
theorem GrB.post (g : GrB b Hd H Hn H1) (e : Ex H1 H2) : GrB b Hd H Hn H2 := ⟨fun a o n h => e a o (g.exb a o n h), g.dx, g.sub.trans e, g.fr, g.bx.mono e⟩
end
end Cot

set_option Elab.async false
set_option linter.all false
set_option maxRecDepth 100000
set_option maxHeartbeats 4000000
/-! enumerate over a tuple; two clauses in a comprehension. -/
namespace Cot
open PySem PySem.Spec PyProof.Rows L2 Evl
abbrev tupItO (t : Addr) : Obj := { cls := .type "tuple_iterator", data := .fields #[.ref t, .int 0 0] }
abbrev enumO (k : Addr) : Obj := { cls := .type "enumerate", data := .fields #[.none, .bool false, .ref k, rawInt 0, .none, .none] }
set_option maxHeartbeats 1000000 in
theorem enumT_new (t : Addr) (items : Array Value) :
    Meets (Builtin.«enumerate.__new__» ⟨[.type "enumerate", .ref t], []⟩) (fun _ R s => s.heap.IsTuple t items ∧ R (.ok (.ret (.ref (s.heap.push (tupItO t)).objs.size))) { s with heap := (s.heap.push (tupItO t)).push (enumO s.heap.objs.size) }) :=
  .of_wp fun prog w A R s hh => by
    obtain ⟨hp, gs, dr, tk, os⟩ := s
    obtain ⟨hT, hh⟩ := hh
    have sb := sub_enumerate
    wp_walk
    refine wpAny_stack_any fun st => wpAny_pure ?_
    split
    · rename_i cc _ _ _ _ _
      cases (cc == Value.type "enumerate") <;> (wp_walk using wpAny_pyIter_tuple hT; exact ⟨_, rfl, hh⟩)
    · wp_walk using wpAny_pyIter_tuple hT
      exact ⟨_, rfl, hh⟩
section
variable {prog : Program} {w : World} {A : Around} {E : Value → Shared → Prop} {s : Shared}
theorem call_enumT {t : Addr} {items : Array Value} {Q : Value → Shared → Prop} (hT : s.heap.IsTuple t items)
    (hq : ∀ h', IsEnum h' (s.heap.objs.size + 1) s.heap.objs.size 0 .none → h'.IsTupleIter s.heap.objs.size t 0 → (∀ b o, s.heap.get? b = some o → h'.get? b = some o) → Q (.ref (s.heap.objs.size + 1)) { s with heap := h' }) :
    wpAny (model prog w) A (call (.type "enumerate") [.ref t]) Q E s := by
  refine callType_new F.called_enumerate (by decide) (F.typeCall_enumerate_1 _) (F.newCall_enumerate_1 _) (fun ob => F.args_object_init_2 ob _) F.entry_enumerate_new (enumT_new t items) ⟨hT, ?_⟩
  have hz : (s.heap.push (tupItO t)).objs.size = s.heap.objs.size + 1 := Heap.size_push ..
  have he : IsEnum ((s.heap.push (tupItO t)).push (enumO s.heap.objs.size)) (s.heap.objs.size + 1) s.heap.objs.size 0 .none := by
    have z := Heap.get?_push_size (s.heap.push (tupItO t)) (o := enumO s.heap.objs.size) rfl
    rw [hz] at z
    exact z
  show _ ∧ _
  rw [hz]
  exact ⟨⟨_, he, rfl⟩, hq _ he ⟨_, Heap.get?_push_of_some _ (Heap.get?_push_size _ rfl), rfl, rfl⟩ fun b o x => Heap.get?_push_of_some _ (Heap.get?_push_of_some _ x)⟩
end
/-- a tuple's items, each in a new pair with its place -/
def IteT (K : PySem.W.Frag) (a : Addr) : It :=
  ⟨fun i H => ∃ (xs : List V) (x : V), SqT K H a xs ∧ xs[i]? = some x, fun i H v H' => ∃ T x, v = .ref T ∧ H T = none ∧ H' = upd H T (.tup [.int (i : Nat), x]) ∧ ∀ xs, SqT K H a xs → xs[i]? = some x, fun i H => ∃ xs : List V, SqT K H a xs ∧ xs.length = i⟩
theorem turn_enumT {P : Program} {w : World} {K : PySem.W.Frag} {elts : List Expr} {kk : Nat} {tpos : Pos} (a e it : Addr) :
    Turn P w K (.Tuple elts kk tpos) (IteT K a) [e, it] e (fun i h => (∃ old, IsEnum h e it ((i : Nat) : Int) old) ∧ h.IsTupleIter it a i ∧ e ≠ it) where
  mem := by simp
  obj := fun i h st b hb => by
    obtain ⟨⟨old, he⟩, ⟨o, ho, hc, hd⟩, _⟩ := st
    rcases (show b = e ∨ b = it by simpa using hb) with z | z
    · rw [z]; exact ⟨_, he, fun v q => nomatch q⟩
    · rw [z]; exact ⟨o, ho, fun v q => by rw [hd] at q; cases q⟩
  keep := fun i h h' st k => by
    obtain ⟨⟨old, he⟩, ⟨o, ho, hc⟩, hne⟩ := st
    exact ⟨⟨old, k e (by simp) _ he⟩, ⟨o, k it (by simp) _ ho, hc⟩, hne⟩
  item := by
    intro X hP hw hK hc i pins s σ H E I hf st hg
    subst hP hw hK
    obtain ⟨⟨old, he⟩, hit, hne⟩ := st
    obtain ⟨xs, x, hq, hx⟩ := hg
    obtain ⟨its, rv, p, hz⟩ := I.tuple hq
    obtain ⟨u, hu, ru⟩ := rv.get hx
    have hel : e < s.heap.objs.size := Heap.lt_size he
    have hil : it < s.heap.objs.size := by
      obtain ⟨_, q, _⟩ := hit
      exact Heap.lt_size q
    have nai : a ≠ it := fun z => by
      subst z
      obtain ⟨o1, h1, c1, _⟩ := p
      obtain ⟨o2, h2, c2, _⟩ := hit
      rw [h1] at h2
      cases h2
      rw [c1] at c2
      exact absurd (Value.type.inj c2) (by decide)
    have nae : a ≠ e := fun z => by
      subst z
      obtain ⟨o1, h1, c1, _⟩ := p
      have he' := he
      unfold IsEnum at he'
      rw [h1] at he'
      cases he'
      exact absurd (Value.type.inj c1) (by decide)
    have lti : i < its.toArray.size := by
      have := (List.getElem?_eq_some_iff.mp hu).1
      simpa using this
    have D : Draws X.prog X.w X.A.in1 it [it, a] its.toArray.size (fun i v => its.toArray[i]? = some v) (fun i h => h.IsTupleIter it a i ∧ h.IsTuple a its.toArray) := Draws.tuple (show X.A.in1.handled = none from I.ok.hd hc) it a nai its.toArray
    refine wpAny_pyNext_enum_itemD D he ⟨hit, p⟩ lti hne (by simp [hne, nae.symm]) fun y h' tk hy ho hit' hT hsz hk => ?_
    have ey : y = u := by
      have h2 : its.toArray[i]? = some u := by simpa using hu
      rw [h2] at hy
      cases hy
      rfl
    subst ey
    refine ⟨_, rfl, wpAny_letOwnedTupleGo_enum (s := { s with heap := h', toks := tk + 1 }) ho fun h2 he2 sb => ?_⟩
    have hT2 : h2.get? s.heap.objs.size = some { cls := .type "tuple", data := .seq #[.int i tk, y] } := (sb.2 _ (Nat.ne_of_gt hel)).trans hT
    have new : ObjOk X.prog X.w (upd H s.heap.objs.size (.tup [.int (i : Nat), x])) h2 s.heap.objs.size (.tup [.int (i : Nat), x]) :=
      ⟨by show 2 ≤ sizeLine; decide, [.int i tk, y], .cons ⟨_, rfl⟩ (.cons ru .nil), ⟨_, hT2, rfl, _, rfl⟩⟩
    have I1 : Inv X pins σ (upd H s.heap.objs.size (.tup [.int (i : Nat), x])) { s with heap := h2, toks := tk + 1 } :=
      I.turnedNew (ch := [e, it]) (fun b ob hb q => (sb.2 b (fun z => hb (by simp [z]))).trans (hk b ob (fun z => hb (by simp [z])) (fun z => hb (by simp [z])) q)) hf (Nat.le_refl _) new
    refine ⟨.ref s.heap.objs.size, _, I1, rfl, ⟨_, x, rfl, I.hok.fresh (Nat.le_refl _), rfl, fun ys hy => by rw [I.tuple_inj hy hq]; exact hx⟩, ⟨⟨y, ?_⟩, ?_, hne⟩, fun b hb => ?_⟩
    · have e1 : ((i + 1 : Nat) : Int) = (i : Int) + 1 := by omega
      rw [e1]
      exact he2
    · obtain ⟨o3, h3, r3⟩ := hit'.1
      exact ⟨o3, (sb.2 it (Ne.symm hne)).trans h3, r3⟩
    · have hb' : b < s.heap.objs.size := by
        rcases (show b = e ∨ b = it by simpa using hb) with z | z
        · rw [z]; exact hel
        · rw [z]; exact hil
      rw [upd_ne (Nat.ne_of_lt hb')]
      exact (hf b hb).1
  done := by
    intro X hP hw hK hc i pins s σ H E I hf st hg
    subst hP hw hK
    obtain ⟨⟨old, he⟩, hit, hne⟩ := st
    obtain ⟨xs, hq, hx⟩ := hg
    obtain ⟨its, rv, p, hz⟩ := I.tuple hq
    obtain ⟨f0, f1, f2, f3, f4, f5⟩ := hf it (by simp)
    have hl := rv.length
    have nai : a ≠ it := fun z => by
      subst z
      obtain ⟨o1, h1, c1, _⟩ := p
      obtain ⟨o2, h2, c2, _⟩ := hit
      rw [h1] at h2
      cases h2
      rw [c1] at c2
      exact absurd (Value.type.inj c2) (by decide)
    have D : Draws X.prog X.w X.A.in1 it [it, a] its.toArray.size (fun i v => its.toArray[i]? = some v) (fun i h => h.IsTupleIter it a i ∧ h.IsTuple a its.toArray) := Draws.tuple (show X.A.in1.handled = none from I.ok.hd hc) it a nai its.toArray
    have ei : its.toArray.size = i := by
      rw [List.size_toArray, ← hl]
      exact hx
    refine wpAny_pyNext_enum_endD D he (by rw [ei]; exact ⟨hit, p⟩) fun h' eb => ⟨rfl, I.turned (t' := s.toks) (fun b o hb q => eb b o hb q) f0 f1 f3 f4 f5⟩
  self := fun A i s Q E st h => let ⟨⟨_, he⟩, _⟩ := st; wpAny_pyIter_enum he h
def iEnumT (K : PySem.W.Frag) (ta : TA) : TI := fun σ H R => ta σ H fun vs H1 => ∃ a xs, vs = [.ref a] ∧ SqT K H1 a xs ∧ R (IteT K a) H1
theorem pi_enumT {X : Cx} {e : Expr} {ta : TA} {p pos tpos : Pos} {elts : List Expr} {kk : Nat} (hg : Gl X "enumerate") (hm : X.mg "enumerate" = none) (ha : PA X [e] ta) (hs : starEach [e] X.env = [(false, eval e X.env)] := by rfl) :
    PI X (.Tuple elts kk tpos) (.Call (.Name "enumerate" p) [e] [] pos) (iEnumT X.K ta) := by
  refine ⟨fun pins s σ H R I hw => ?_⟩
  refine Call_ (ld_blt I hg hm boot_enumerate (PyProof.Rows.callWith_type1 (thn (ha.run pos pins s σ H _ I hw) fun us s1 hh => ?_) hs rfl))
  obtain ⟨vs, H1, I1, r1, a, xs, rfl, hq, q⟩ := hh
  cases r1 with
  | cons ra rr =>
    cases rr
    cases ra
    obtain ⟨its, rv, pt, _⟩ := I1.tuple hq
    refine call_enumT pt fun h' he hit hk => wpAny_pyIter_enum he ?_
    have I2 : Inv X pins σ H1 { s1 with heap := h' } := I1.kept (t' := s1.toks) hk
    refine ⟨s1.heap.objs.size + 1, [s1.heap.objs.size + 1, s1.heap.objs.size], _, _, H1, rfl, I2, turn_enumT a (s1.heap.objs.size + 1) s1.heap.objs.size, ⟨⟨.none, he⟩, hit, Nat.succ_ne_self _⟩, fun b hb => ?_, q⟩
    have hle : s1.heap.objs.size ≤ b := by
      rcases (show b = s1.heap.objs.size + 1 ∨ b = s1.heap.objs.size by simpa using hb) with z | z
      · rw [z]; exact Nat.le_succ _
      · rw [z]; exact Nat.le_refl _
    exact I1.fpOk hle (I1.hok.fresh hle)
section
variable {K : PySem.W.Frag} {H H' Hd Hd' Hn H1 H2 Hm : Hp} {σ : L2.St} {ta tb te : TE} {tr : TA} {n i j j2 : Nat} {ds es : List PyData} {a : Addr} {xs : List V}
theorem walk_enumT : Walk (IteT K a) xs.length (fun H => SqT K H a xs) (YPair (fun i => some (.int (i : Nat))) (fun i => xs[i]?)) := by
  refine ⟨fun i _ hi q => ⟨xs, xs[i], q, by simp [hi]⟩, fun _ q => ⟨xs, q, rfl⟩, fun i H v H' _ q y => ?_⟩
  obtain ⟨T, x, h1, h2, h3, h4⟩ := y
  exact ⟨T, .int (i : Nat), x, h1, h2, h3, rfl, h4 xs q⟩
theorem ei_enumT (h : EvDA K tr σ Hd [.tuple ds]) : EvI K (iEnumT K tr) (g2 K j j2) σ Hd ds.length (SPair K j j2 (fun i => some (.int (i : Int))) (fun i => ds[i]?)) := fun H s R r =>
  h H s _ fun vs H2 Hn g hd => by
    cases hd with
    | cons h1 h2 =>
      cases h2
      cases h1 with
      | @tup a xs ds hs hall =>
        refine ⟨a, xs, rfl, ex_t g.sub hs, r _ H2 Hn _ _ g (by rw [← dpa_len hall]; exact walk_enumT) (fun H' e => ex_t e hs) fun i x H' H'' σ' k hi e y q => ?_⟩
        refine pair_turn (fun v e => ?_) (fun v e => dpa_get2 hall e) y q
        cases e
        exact ⟨_, rfl, .int _⟩
end
end Cot
namespace Cot
open PySem PySem.Spec PyProof.Rows L2 Evl
section
variable {K : PySem.W.Frag} {H H' Hd Hd' Hn H1 H2 Hm : Hp} {σ : L2.St} {ta tb te : TE} {t tt1 : TT} {tr : TA} {n i j j2 : Nat} {ds es : List PyData} {wi wi1 : TI} {g g1 : TG}
theorem lc1_it {J : It} {n : Nat} {G : Hp → Prop} {Y : Nat → Hp → V → Hp → Prop} (w : Walk J n G Y) {g : TG} {tt : TT} {te : TE} {vs : List Nat} {σ : L2.St} {H1 : Hp} {D : Addr} {Qd : Hp → Prop} (Pv : Nat → Hp → Prop) (h0 : Pv 0 H1) (hG : ∀ i H, i ≤ n → Pv i H → G H)
    (hs : ∀ i x H H', i < n → Pv i H → Y i H x H' → g x (wipe σ vs) H' fun σ2 H2 => wipe σ2 vs = wipe σ vs ∧ tt σ2 H2 fun b H3 =>
      if b = true then te σ2 H3 fun y H4 => ∃ acc, H4 D = some (.lst acc) ∧ acc.length < sizeLine ∧ Pv (i + 1) (upd H4 D (.lst (acc ++ [y]))) else Pv (i + 1) H3) (hd : ∀ H, Pv n H → Qd H) :
    ∃ W : Nat → Nat → Hp → Prop, (∃ m, W 0 m H1) ∧ ∀ i m H, W i m H →
      (J.stop i H ∧ Qd H) ∨ (J.go i H ∧ ∃ Nx : Hp → Prop, (∀ H', Nx H' → ∃ m', m' < m ∧ W (i + 1) m' H') ∧ ∀ x H', J.yld i H x H' → g x (wipe σ vs) H' fun σ2 H2 => wipe σ2 vs = wipe σ vs ∧ tt σ2 H2 fun b H3 =>
        if b = true then te σ2 H3 fun y H4 => ∃ acc, H4 D = some (.lst acc) ∧ acc.length < sizeLine ∧ Nx (upd H4 D (.lst (acc ++ [y]))) else Nx H3) := by
  refine ⟨fun i m H => m = n - i ∧ i ≤ n ∧ Pv i H, ⟨n, by simp, Nat.zero_le _, h0⟩, ?_⟩
  rintro i m Hx ⟨rfl, hi, p⟩
  have q := hG i Hx hi p
  by_cases hlt : i < n
  · exact .inr ⟨w.goes i Hx hlt q, Pv (i + 1), fun Hy p' => ⟨n - (i + 1), by omega, rfl, hlt, p'⟩, fun x Hy y => hs i x Hx Hy hlt p (w.yields i Hx x Hy hlt q y)⟩
  · have e : i = n := by omega
    subst e
    exact .inl ⟨w.stops Hx q, hd Hx p⟩
def flatD (n : Nat) (L : Nat → List PyData) : List PyData := ((List.range n).map L).flatten
theorem flatD_succ (n : Nat) (L : Nat → List PyData) : flatD (n + 1) L = flatD n L ++ L n := by
  unfold flatD
  rw [List.range_succ, List.map_append, List.flatten_append]
  simp
theorem en_lc2 {S : Nat → L2.St → L2.St → Hp → Prop} {S1 : Nat → Nat → L2.St → L2.St → Hp → Prop} {vs vs1 : List Nat} (n1 : Nat → Nat) (h : EvI K wi g σ Hd n S) (f : Nat → Nat → Bool) (v : Nat → Nat → PyData) (hn : (flatD n fun i => givenD (n1 i) (f i) (v i)).length ≤ 40000) (hsz : ∀ i, i < n → (flatD i fun i => givenD (n1 i) (f i) (v i)).length + n1 i ≤ 90000)
    (ht : ∀ (i : Nat) (σ2 : L2.St) (Hn : Hp), i < n → Ex Hd Hn → S i (wipe σ vs) σ2 Hn → wipe σ2 vs = wipe σ vs ∧ EvI K wi1 g1 σ2 Hn (n1 i) (S1 i) ∧
      ∀ (j : Nat) (σ3 : L2.St) (Hk : Hp), j < n1 i → Ex Hn Hk → S1 i j (wipe σ2 vs1) σ3 Hk → wipe σ3 vs1 = wipe σ2 vs1 ∧ EvT tt1 σ3 Hk (f i j) ∧ (f i j = true → EvD K te σ3 Hk (v i j))) :
    EvN K (tLc2 wi g tYes wi1 g1 tt1 te vs vs1) σ Hd (flatD n fun i => givenD (n1 i) (f i) (v i)) := fun H s Q q =>
  h H s _ fun J H1 Hn G Y gr w hG hY Dl hD => by
    refine ⟨fun i m H' => m = n - i ∧ i ≤ n ∧ ∃ Hm acc, Gr Hn H1 Hm H' ∧ Hm Dl = none ∧ H' Dl = some (.lst acc) ∧ DpAll K Hm acc (flatD i fun i => givenD (n1 i) (f i) (v i)), ⟨n, by simp, Nat.zero_le _, Hn, [], Gr.alloc gr.sub hD, fresh_back gr.sub hD, upd_same, .nil⟩, ?_⟩
    rintro i m H' ⟨rfl, hi, p⟩
    obtain ⟨Hm, acc, g1', hm, h2, hac⟩ := p
    have q0 := hG H' (g1'.dx.trans g1'.sub)
    by_cases hlt : i < n
    · refine .inr ⟨w.goes i H' hlt q0, fun H2 => ∃ Hm acc, Gr Hn H1 Hm H2 ∧ Hm Dl = none ∧ H2 Dl = some (.lst acc) ∧ DpAll K Hm acc (flatD (i + 1) fun i => givenD (n1 i) (f i) (v i)), fun H2 p' => ⟨n - (i + 1), by omega, rfl, hlt, p'⟩, fun x H'' y => ?_⟩
      refine hY i x H' H'' _ _ hlt (g1'.dx.trans g1'.sub) (w.yields i H' x H'' hlt q0 y) fun σ2 H3 e3 hS => ?_
      obtain ⟨hw, hI, hT⟩ := ht i σ2 Hn hlt gr.dx hS
      refine ⟨hw, ?_⟩
      refine hI H3 ((g1'.dx.trans g1'.sub).trans e3) _ fun J1 H4 Hk G1 Y1 gk w1 hG1 hY1 => ?_
      have gm : Gr Hm H3 (un Hm Hk) H4 := gk.up g1'.dx (g1'.sub.trans e3)
      have em : Ex Hk (un Hm Hk) := gk.upr g1'.dx (g1'.sub.trans e3)
      have hm4 : un Hm Hk Dl = none := gm.fr _ _ (e3 _ _ h2) hm
      refine lc1_it w1 (fun j H5 => j ≤ n1 i ∧ ∃ Ho acc, Gr Hn H1 Ho H5 ∧ Ex (un Hm Hk) Ho ∧ Ho Dl = none ∧ H5 Dl = some (.lst acc) ∧ DpAll K Ho acc (flatD i (fun i => givenD (n1 i) (f i) (v i)) ++ givenD j (f i) (v i))) ⟨Nat.zero_le _, un Hm Hk, acc, (g1'.post e3).trans gm, Ex.refl _, hm4, gk.ex _ _ (e3 _ _ h2), ?_⟩ (fun j H5 _ p => ?_) (fun j x H5 H6 hj p y => ?_) (fun H5 p => ?_)
      · show DpAll K _ _ (_ ++ [])
        rw [List.append_nil]
        exact dpa_mono gm.dx _ hac
      · obtain ⟨_, Ho, acc', go, eo, _⟩ := p
        exact hG1 H5 ((em.trans eo).trans go.sub)
      · obtain ⟨_, Ho, acc', go, eo, ho, h5, hac'⟩ := p
        refine hY1 j x H5 H6 _ _ hj ((em.trans eo).trans go.sub) y fun σ3 H7 e7 hS1 => ?_
        obtain ⟨hw1, hT1, hE⟩ := hT j σ3 Hk hj gk.dx hS1
        refine ⟨hw1, hT1 H7 (((em.trans eo).trans go.sub).trans e7) _ fun H8 e8 => ?_⟩
        have h8 : H8 Dl = some (.lst acc') := e8 _ _ (e7 _ _ h5)
        cases hf : f i j with
        | false =>
          show (j + 1 ≤ n1 i ∧ _)
          refine ⟨hj, Ho, acc', go.post (e7.trans e8), eo, ho, h8, ?_⟩
          rw [givenD_no hf]
          exact hac'
        | true =>
          show te σ3 H8 _
          refine ((hE hf).mono (em.trans eo)) H8 ((go.sub.trans e7).trans e8) _ fun y H9 Hp' g9 hy => ?_
          have hp9 : Hp' Dl = none := g9.fr _ _ h8 ho
          have al : acc'.length < sizeLine := sz_lt (by
            have h10 := givenD_len j (f i) (v i)
            have h11 := hsz i hlt
            rw [dpa_len hac', List.length_append]
            omega)
          refine ⟨acc', g9.ex _ _ h8, al, hj, Hp', acc' ++ [y], ⟨Ex.mut ((go.ex.trans (e7.trans e8)).trans g9.ex) hD, go.dx.trans g9.dx, Ex.mut g9.sub hp9, fun a o ha hd => g9.fr a o ((e7.trans e8) a o (go.ex a o ha)) (go.fr a o ha hd)⟩, eo.trans g9.dx, hp9, upd_same, ?_⟩
          rw [givenD_yes hf, ← List.append_assoc]
          exact dpa_app (dpa_mono g9.dx _ hac') (.cons hy .nil)
      · obtain ⟨_, Ho, acc', go, eo, ho, h5, hac'⟩ := p
        refine ⟨Ho, acc', go, ho, h5, ?_⟩
        rw [flatD_succ]
        exact hac'
    · have e : i = n := by omega
      subst e
      exact .inl ⟨w.stops H' q0, q Dl acc H' Hm (gr.trans g1') (fresh_back gr.ex hD) hm h2 hac⟩
end
end Cot

set_option Elab.async false
set_option linter.all false
set_option maxRecDepth 100000
set_option maxHeartbeats 4000000
/-! While an exception is handled: the ends of iterators, a tuple unpacked, a comprehension over a list. -/
namespace Cot
open PySem PySem.Spec PyProof.Rows L2 L2H HotX
section
variable {prog : Program} {w : World} {A : Around} {E : Value → Shared → Prop} {s : Shared}
/-- StopIteration() is made and raised -/
theorem stop_hot {α : Type} {x1 : Addr} {Q : α → Shared → Prop} (hot : HotAt A x1 s.heap)
    (hE : ∀ h' e, (∀ b o, s.heap.get? b = some o → h'.get? b = some o) → (∃ o, h'.get? e = some o ∧ o.cls = .type "StopIteration") → E (.ref e) { s with heap := h' }) :
    wpAny (model prog w) A (newExc (.type "StopIteration") [] >>= fun e => (raiseNew e : Sem α)) Q E s := by
  obtain ⟨hh, o1, vs1, h1, d1, c1⟩ := hot
  refine wpAny_bind ?_
  simp only [newExc, newTuple]
  refine wpAny_bind (wpAny_newObj_type ?a1 (by size_fits))
  case a1 =>
  refine wpAny_bind (m := firstArgMember _ _) (wpAny_of_eq (a := Value.none) ?a2 ?a3)
  case a2 => first | rfl | (simp only [firstArgMember]; rfl)
  case a3 =>
  refine wpAny_newObj_type ?a4 (by size_fits)
  case a4 =>
  have k1 := Heap.get?_push_of_some ({ cls := .type "tuple", data := .seq #[] } : Obj) h1
  refine raiseNew_hot ⟨hh, o1, vs1, Heap.get?_push_of_some _ (Heap.get?_push_of_some _ h1), d1, c1⟩ ?b1 (Heap.get?_push_size _ rfl) rfl ?b2 ?b3
  case b1 => exact Nat.ne_of_lt (Heap.lt_size (Heap.get?_push_of_some _ h1))
  case b2 => first | (simp; done) | (simp; omega) | (simp only [Array.size_append]; simp; omega)
  case b3 =>
  refine hE _ _ (fun b o e => ?_) ⟨_, Heap.get?_update_self _ (Heap.get?_push_size _ rfl) rfl, rfl⟩
  have e2 := Heap.get?_push_of_some ({ cls := .type "tuple", data := .seq #[] } : Obj) e
  rw [Heap.get?_update_other _ _ (Nat.ne_of_gt (Heap.lt_size (Heap.get?_push_of_some _ e)))]
  exact Heap.get?_push_of_some _ (Heap.get?_push_of_some _ e)
/-- a list's iterator at its end -/
theorem listEnd_hot {x1 it l : Addr} {i : Nat} {items : Array Value} {Q : Option Value → Shared → Prop} (hot : HotAt A x1 s.heap) (n1 : x1 ≠ it) (hit : s.heap.IsListIter it l i) (hl : s.heap.IsList l items) (hx : items[i]? = none)
    (hQ : ∀ h', Heap.ExtBut it s.heap h' → Q none { s with heap := h' }) : wpAny (model prog w) A (pyNext (.ref it)) Q E s := by
  obtain ⟨o, ho, hc, hd⟩ := id hit
  obtain ⟨ol, hol, _, nl, hdl⟩ := hl
  have hty := hit.typeIs
  unfold pyNext
  apply wpAny_bind
  apply wpAny_attempt
  refine wpAny_callSpecial?_slot (name := Str.ofString "__next__") hty slot_listiter_next (wpAny_call_entry slot_listiter_next hty entry_listiter_next ?_ (args_listiter_next _))
  show wpAny _ A.in1 (field (Value.ref it) 0 >>= _) _ _ _
  refine wpAny_bind (wpAny_field ho hd (x := .ref l) rfl ?f0)
  case f0 =>
  have nn : ¬ ((Value.ref l == Value.none) = true) := Bool.false_ne_true
  show wpAny _ _ (ite ((Value.ref l == Value.none) = true) _ _) _ _ s
  rw [if_neg nn]
  show wpAny _ A.in1 (field (Value.ref it) 1 >>= _) _ _ _
  refine wpAny_bind (wpAny_field ho hd (x := .int i 0) rfl ?f9)
  case f9 =>
  show wpAny _ A.in1 (seqItems? (Value.ref l) >>= _) _ _ _
  refine wpAny_bind (wpAny_seqItems hol hdl ?f1)
  case f1 =>
  simp only [Int.toNat_natCast, hx]
  refine wpAny_bind (wpAny_rule (wpAny_bind (wpAny_setField ho hd (by simp) ?f2)))
  case f2 =>
  obtain ⟨hh, o1, vs1, h1, d1, c1⟩ := hot
  refine stop_hot (A := A.in1) (x1 := x1) ⟨hh, o1, vs1, ?g1, d1, c1⟩ fun h' e k ke => ?g2
  case g1 =>
    show (Heap.update s.heap it _).get? x1 = some o1
    rw [Heap.get?_update_other _ _ n1.symm]
    exact h1
  case g2 =>
  obtain ⟨oe, q1, q2⟩ := ke
  refine wpAny_bind (wpAny_isInstance (T := "StopIteration") (b := true) ⟨oe, q1, q2⟩ isSubtype_stop (wpAny_pure (hQ h' fun b u hb hu => k b u ?g3)))
  case g3 =>
    show (Heap.update s.heap it _).get? b = some u
    rw [Heap.get?_update_other _ _ (Ne.symm hb)]
    exact hu
/-- a tuple's iterator at its end -/
theorem tupEnd_hot {x1 it l : Addr} {i : Nat} {items : Array Value} {Q : Option Value → Shared → Prop} (hot : HotAt A x1 s.heap) (n1 : x1 ≠ it) (hit : IsTupIter s.heap it l i) (hl : IsTup s.heap l items) (hx : items[i]? = none)
    (hQ : ∀ h', Heap.ExtBut it s.heap h' → Q none { s with heap := h' }) : wpAny (model prog w) A (pyNext (.ref it)) Q E s := by
  obtain ⟨o, ho, hc, hd⟩ := id hit
  obtain ⟨ol, hol, _, nl, hdl⟩ := hl
  have hty := hit.typeIs
  unfold pyNext
  apply wpAny_bind
  apply wpAny_attempt
  refine wpAny_callSpecial?_slot (name := Str.ofString "__next__") hty slot_tupleiter_next (wpAny_call_entry slot_tupleiter_next hty entry_tupleiter_next ?_ (args_tupleiter_next _))
  show wpAny _ A.in1 (field (Value.ref it) 0 >>= _) _ _ _
  refine wpAny_bind (wpAny_field ho hd (x := .ref l) rfl ?f0)
  case f0 =>
  have nn : ¬ ((Value.ref l == Value.none) = true) := Bool.false_ne_true
  show wpAny _ _ (ite ((Value.ref l == Value.none) = true) _ _) _ _ s
  rw [if_neg nn]
  show wpAny _ A.in1 (field (Value.ref it) 1 >>= _) _ _ _
  refine wpAny_bind (wpAny_field ho hd (x := .int i 0) rfl ?f9)
  case f9 =>
  show wpAny _ A.in1 (seqItems? (Value.ref l) >>= _) _ _ _
  refine wpAny_bind (wpAny_seqItems hol hdl ?f1)
  case f1 =>
  simp only [Int.toNat_natCast, hx]
  refine wpAny_bind (wpAny_rule (wpAny_bind (wpAny_setField ho hd (by simp) ?f2)))
  case f2 =>
  obtain ⟨hh, o1, vs1, h1, d1, c1⟩ := hot
  refine stop_hot (A := A.in1) (x1 := x1) ⟨hh, o1, vs1, ?g1, d1, c1⟩ fun h' e k ke => ?g2
  case g1 =>
    show (Heap.update s.heap it _).get? x1 = some o1
    rw [Heap.get?_update_other _ _ n1.symm]
    exact h1
  case g2 =>
  obtain ⟨oe, q1, q2⟩ := ke
  refine wpAny_bind (wpAny_isInstance (T := "StopIteration") (b := true) ⟨oe, q1, q2⟩ isSubtype_stop (wpAny_pure (hQ h' fun b u hb hu => k b u ?g3)))
  case g3 =>
    show (Heap.update s.heap it _).get? b = some u
    rw [Heap.get?_update_other _ _ (Ne.symm hb)]
    exact hu
/-- a, b, .. = a tuple -/
theorem unpack_hot {x1 t : Addr} {items : Array Value} {env : Env} {elts : List Expr} {k1} {pos : Pos} {Q : Unit → Shared → Prop} (hot : HotAt A x1 s.heap) (ht : IsTup s.heap t items) (hn : (assignEach elts env).length = items.size) (hstar : (assignEach elts env).findIdx? (·.1) = none)
    (hq : ∀ h', Heap.ExtBut s.heap.objs.size s.heap h' → wpAny (model prog w) A (assignInOrder ((assignEach elts env).map (·.2)) items.toList) Q E { s with heap := h' }) :
    wpAny (model prog w) A (assign (.Tuple elts k1 pos) env (.ref t)) Q E s := by
  have nt : t ≠ s.heap.objs.size := by
    obtain ⟨o, ho, _⟩ := ht
    exact Nat.ne_of_lt (Heap.lt_size ho)
  have n1 : x1 ≠ s.heap.objs.size := by
    obtain ⟨_, o1, _, h1, _⟩ := hot
    exact Nat.ne_of_lt (Heap.lt_size h1)
  rw [assign_Tuple]
  apply wpAny_bind
  apply wpAny_standAt
  unfold unpack
  rw [hn, hstar]
  apply wpAny_bind
  apply wpAny_holding
  unfold unpackItems notIterableAtAll
  refine wpAny_bind (wpAny_bind (wpAny_specialOf ht.typeIs slot_tuple_iter.lookup (wpAny_pure ?u1)))
  case u1 =>
  simp only [Bool.false_eq_true, if_false]
  refine wpAny_bind (wpAny_holding (iter_tuple ht ?u2))
  case u2 =>
  refine wpAny_bind (wpAny_holding (draw_tuple nt items.size 0 _ _ ⟨_, Heap.get?_push_size _ rfl, rfl, rfl⟩ (ht.push _) (by omega) fun ha ia sa => ?u3))
  case u3 =>
  have all : (items.toList.drop 0).take items.size = items.toList := by
    rw [List.drop_zero]
    exact List.take_of_length_le (by simp)
  rw [all, if_neg (by simp)]
  have ta : IsTup ha t items := (ht.push _).extBut sa.extBut nt
  have hota : HotAt A x1 ha := by
    obtain ⟨hh, o1, vs1, h1, d1, c1⟩ := hot
    exact ⟨hh, o1, vs1, sa.extBut _ _ n1 (Heap.get?_push_of_some _ h1), d1, c1⟩
  refine wpAny_bind (wpAny_holding (tupEnd_hot hota n1 ia ta (by simp) fun hb eb => ?u4))
  case u4 =>
  simp only [Option.isSome_none, Bool.false_eq_true, if_false]
  refine wpAny_pure (hq hb fun c o hc e => eb c o hc (sa.extBut c o hc (Heap.get?_push_of_some _ e)))
end
/-- a context in which an exception is handled, whatever was done -/
def HotI (X : Cx) : Prop := ∀ (pins : List (Addr × Obj)) (σ : L2.St) (H : Hp) (s : Shared), Inv X pins σ H s → ∃ x1, HotAt X.A x1 s.heap
theorem pg_tupH {X : Cx} {es : List Expr} {k n : Nat} {t : TGs} {pos : Pos} (hc : HotI X) (h : PGs X es t)
    (hn : (assignEach es X.env).length = n := by rfl) (hst : (assignEach es X.env).findIdx? (·.1) = none := by rfl) : PG X (.Tuple es k pos) (gTup X.K n t) := by
  refine ⟨fun pins s σ H v u Q I r hw => ?_⟩
  obtain ⟨a, xs, rfl, hq, hl, hw⟩ := hw
  cases r
  obtain ⟨its, rv, ht, _⟩ := I.tuple hq
  obtain ⟨x1, hot⟩ := hc pins σ H s I
  refine unpack_hot hot ht (by simp [hn, ← hl, rv.length]) hst fun h' hx => ?_
  have J : Inv X pins σ H { s with heap := h' } := I.kept (t' := s.toks) fun b o e => hx b o (Nat.ne_of_lt (Heap.lt_size e)) e
  exact h.run pins _ σ H xs _ Q J (by simpa using rv) hw
/-- what stands untracked where a block begins stands all along, so the handled exception too -/
theorem hot_blk {X : Cx} {s : Shared} {H : Hp} {scope : Scope} {ce : Env} {fp : List Addr} {p : Addr × Obj} (h1 : Hot1 X.A p) (g : s.heap.get? p.1 = some p.2) (n : H p.1 = none) (f : p.1 ∉ frs X.stack) (nf : p.1 ∉ fp) : HotI (X.blk s H scope ce fp) := fun pins σ H' s' I => by
  obtain ⟨hh, vs, d, c⟩ := h1
  refine ⟨p.1, hh, p.2, vs, I.base.keep p.1 p.2 g n ?_ nf, d, c⟩
  exact f
theorem pe_lcH {X : Cx} {elt tg l : Expr} {ifs : List Expr} {scope : Scope} {own : List (Str × Nat)} {pos : Pos} {tl te : TE} {g : TG} {tt : TT} (hot : HotC X) (hN : X.N.Nodup) (hl : PE X l tl) (ok : BlkOk X.N X.env.scope scope own)
    (hg : ∀ (s : Shared) (H : Hp) (C : Addr) (cl : List (Str × Addr)) (fp : List Addr), HotI (X.blk s H scope (compEnvC scope cl C X.env) fp) → PG (X.blk s H scope (compEnvC scope cl C X.env) fp) tg g)
    (ht : ∀ (s : Shared) (H : Hp) (C : Addr) (cl : List (Str × Addr)) (fp : List Addr), PTs (X.blk s H scope (compEnvC scope cl C X.env) fp) ifs tt)
    (he : ∀ (s : Shared) (H : Hp) (C : Addr) (cl : List (Str × Addr)) (fp : List Addr), PE (X.blk s H scope (compEnvC scope cl C X.env) fp) elt te) (hs : ∀ x, foldedSetIterable l X.env x = pure x := by intro _; rfl) :
    PE X (.ListComp elt [⟨tg, l, ifs, 0⟩] scope pos) (tLc (iList X.K tl) g tt te (own.map (·.2))) := by
  refine ⟨fun pins s σ H Q I hw => ?_⟩
  rw [eval_ListComp]
  have cells : ∀ y ∈ scope.names, y.2 = .free → ∃ c, X.env.cells.lookup y.1 = some c := fun y hy e => by
    rcases ok.free y hy e with k | k
    · exact I.ok.has _ (.inl k)
    · exact I.ok.has _ (.inr k)
  apply wpAny_comprehension_free rfl hs (closure_ok cells) ok.kind (fun y hy e => by rw [ok.uniq y hy, e])
  refine thn (hl.run pins s σ H _ I hw) fun xv sa hx => ?_
  obtain ⟨xv', Ha, Ia, ra, a, rfl, ⟨xs, hq⟩, q⟩ := hx
  cases ra
  obtain ⟨its, rv, pl, _⟩ := Ia.list hq
  apply wpAny_pyIter_list pl.isList
  -- the iterator, new
  obtain ⟨it, eit⟩ : ∃ it, it = sa.heap.objs.size := ⟨_, rfl⟩
  obtain ⟨sb, esb⟩ : ∃ sb : Shared, sb = { sa with heap := sa.heap.push { cls := .type "list_iterator", data := .fields #[.ref a, .int 0 0] } } := ⟨_, rfl⟩
  have Ib : Inv X pins σ Ha sb := by
    rw [esb]
    exact Ia.kept (t' := sa.toks) fun b o e => Heap.get?_push_of_some _ e
  have itb : sb.heap.IsListIter it a 0 := by
    rw [esb, eit]
    exact ⟨_, Heap.get?_push_size _ rfl, rfl, rfl⟩
  have fpb : FpOk X pins Ha it := by
    rw [eit]
    exact Ia.fpOk (Nat.le_refl _) (Ia.hok.fresh (Nat.le_refl _))
  rw [← eit, ← esb]
  refine wpAny_newObj_type (newEnv_comp ?_) (by show 0 ≤ sizeLine; decide)
  obtain ⟨D, eD⟩ : ∃ D, D = sb.heap.objs.size := ⟨_, rfl⟩
  have nD : Ha D = none := by
    rw [eD]
    exact Ib.hok.fresh (Nat.le_refl _)
  obtain ⟨W, ⟨m0, w0⟩, turn⟩ := q D nD
  obtain ⟨sc, esc⟩ : ∃ sc : Shared, sc = { sb with heap := sb.heap.push { cls := .type "list", data := .seq ([] : List Value).toArray } } := ⟨_, rfl⟩
  have hsc : sc.heap = sb.heap.push { cls := .type "list", data := .seq ([] : List Value).toArray } := by rw [esc]
  have Ic : Inv X pins σ (upd Ha D (.lst [])) sc := by
    rw [esc]
    refine Ib.laid (t' := sb.toks) (fun b o e => Heap.get?_push_of_some _ e) (Nat.le_of_eq eD.symm) ⟨Nat.zero_le _, [], 0, .nil, ?_⟩
    rw [eD]
    exact Heap.get?_push_size _ rfl
  have ltit : it < sb.heap.objs.size := by
    obtain ⟨o, e, _⟩ := itb
    exact Heap.lt_size e
  have nDit : it ≠ D := by
    rw [eD]
    exact Nat.ne_of_lt ltit
  have itc : sc.heap.IsListIter it a 0 := itb.at fun o e => by
    rw [hsc]
    exact Heap.get?_push_of_some _ e
  have fpc : ∀ b ∈ [it], FpOk X pins (upd Ha D (.lst [])) b ∧ b < sc.heap.objs.size := fun b hb => by
    rw [List.mem_singleton.mp hb]
    refine ⟨⟨?_, fpb.2⟩, ?_⟩
    · rw [upd_ne nDit]
      exact fpb.1
    · rw [hsc, Heap.size_push]
      exact Nat.lt_succ_of_lt ltit
  obtain ⟨p, hp1, hpn⟩ := hot
  have pc := Ic.pin p (List.mem_append_left _ hpn)
  have npit : p.1 ≠ it := fun z => fpb.2.2.2.2.2 p (List.mem_append_left _ hpn) z
  have Id := block_start Ic ok hN fpc
  rw [← esc]
  obtain ⟨Hc, eHc⟩ : ∃ Hc, Hc = upd Ha D (.lst []) := ⟨_, rfl⟩
  rw [← eHc] at Ic Id fpc w0 pc
  obtain ⟨cl, ecl⟩ : ∃ cl, cl = cellsFrom (sc.heap.objs.size + 1) scope.names (cloFrom X.env.cells scope.names []) := ⟨_, rfl⟩
  rw [← ecl] at Id ⊢
  obtain ⟨C, eC⟩ : ∃ C, C = sc.heap.objs.size := ⟨_, rfl⟩
  have hI : HotI (X.blk sc Hc scope (compEnvC scope cl C X.env) [it]) := hot_blk hp1 pc.1 pc.2.1 (fun z => (List.mem_cons.mp (Ic.stkSub p.1 z)).elim pc.2.2.1 pc.2.2.2.1) (by simp [npit])
  have pg := hg sc Hc C cl [it] hI
  have pt := ht sc Hc C cl [it]
  have pe := he sc Hc C cl [it]
  obtain ⟨sd, esd⟩ : ∃ sd : Shared, sd = { sc with heap := pushCells (sc.heap.push { cls := .type "dict", data := .dict #[] }) scope.names } := ⟨_, rfl⟩
  obtain ⟨ce, ece⟩ : ∃ ce, ce = compEnvC scope cl C X.env := ⟨_, rfl⟩
  rw [← eC] at Id
  rw [← ece] at Id pg pt pe hI
  have Id' : Inv (X.blk sc Hc scope ce [it]) [] (wipe σ (own.map (·.2))) Hc sd := by
    rw [esd]
    exact Id
  have locC : ce.locals = C := by rw [ece]; rfl
  have itd : sd.heap.IsListIter it a 0 := itc.at fun o e => by
    rw [esd]
    exact pushCells_keeps _ _ _ _ (Heap.get?_push_of_some _ e)
  show codeAny (model X.prog X.w) X.A (.compStart (.ListComp elt [⟨tg, l, ifs, 0⟩] scope pos) 0 (.ref it) (.ref sb.heap.objs.size) (compEnvC scope cl sc.heap.objs.size X.env)) (compPost (model X.prog X.w) X.A X.xe none (EP X pins σ Q) (.ref sb.heap.objs.size) sc.heap.objs.size) _
  rw [← esd, ← eC, ← ece, ← eD]
  -- the iterator's own place, at any state of the block
  have fpAt : ∀ {σ' : L2.St} {H' : Hp} {s' : Shared}, Inv (X.blk sc Hc scope ce [it]) [] σ' H' s' → H' it = none → FpOk (X.blk sc Hc scope ce [it]) [] H' it := fun {σ' H' s'} J hn =>
    ⟨hn, (J.ok.exf it (by simp)).1, J.ok.exfs it (by simp), .inl (by simp), fun x c e => (J.ok.exf it (by simp)).2 x c e, fun z hz => absurd (show z ∈ ([] : List (Addr × Obj)) ++ [] from hz) (by simp)⟩
  have loop : codeAny (model X.prog X.w) X.A (.compLoop (.ListComp elt [⟨tg, l, ifs, 0⟩] scope pos) 0 (.ref it) (.ref D) ce) (compPost (model X.prog X.w) X.A X.xe none (EP X pins σ Q) (.ref D) C) sd := by
    refine compLoop_any (fun n s' => ∃ i H', Inv (X.blk sc Hc scope ce [it]) [] (wipe σ (own.map (·.2))) H' s' ∧ s'.heap.IsListIter it a i ∧ H' it = none ∧ W i n H') ?_ m0 ⟨0, Hc, Id', itd, (fpc it (by simp)).1.1, w0⟩
    rintro n se ⟨i, He, Ie, ite, ne, we⟩
    obtain ⟨x1, hx1⟩ := hI _ _ _ _ Ie
    obtain ⟨f0, f1, f2, f3, f4, f5⟩ := fpAt Ie ne
    have nx1 : x1 ≠ it := fun z => by
      obtain ⟨_, o1, vs1, q1, q2, q3⟩ := hx1
      obtain ⟨o2, q4, q5, q6⟩ := ite
      rw [z, q4] at q1
      cases q1
      rw [q6] at q2
      cases q2
      simp at q3
    rcases turn i n He we with ⟨stop, qe⟩ | ⟨go, Nx, hNx, step⟩
    · obtain ⟨ys, hy, hly⟩ := stop
      obtain ⟨its2, rv2, pl2, _⟩ := Ie.list hy
      have l2 := rv2.length
      refine listEnd_hot hx1 nx1 ite pl2.isList (by simp; omega) fun h' eb => ?_
      have If : Inv (X.blk sc Hc scope ce [it]) [] (wipe σ (own.map (·.2))) He { se with heap := h' } := Ie.turned (t' := se.toks) (fun b o hb e => eb b o hb e) f0 f1 f3 f4 f5
      have Ig : Inv X pins σ He { se with heap := h' } := Ic.call' (ch := [it]) If.os If.base If.hok If.bare fun b hb => by
        have z := (fpc b hb).1
        exact ⟨z.2.2.2.1, z.2.1, z.2.2.2.2.1, z.2.2.2.2.2⟩
      have nC : He C = none := by
        have z : He ce.locals = none := If.free
        rw [locC] at z
        exact z
      obtain ⟨m, hm, _⟩ := If.loc
      have hm : ({ se with heap := h' } : Shared).heap.Ns ce.locals m := hm
      rw [locC] at hm
      have fC : FpOk X pins He C := by
        rw [eC] at nC ⊢
        exact Ic.fpOk (Nat.le_refl _) nC
      obtain ⟨c0, c1, c2, c3, c4, c5⟩ := fC
      exact ⟨m, hm, fun h2 sb2 => ⟨.ref D, He, Ig.turned (t' := se.toks) (fun b o hb e => (sb2.2 b hb).trans e) c0 c1 c3 c4 c5, rfl, qe⟩⟩
    · obtain ⟨ys, x, hy, hx⟩ := go
      obtain ⟨its2, rv2, pl2, _⟩ := Ie.list hy
      obtain ⟨u, hu, ru⟩ := rv2.get hx
      refine wpAny_pyNext_list_item ite pl2.isList (x := u) (by simpa using hu) fun hf itf sbf => ?_
      obtain ⟨sf, esf⟩ : ∃ sf : Shared, sf = { se with heap := hf } := ⟨_, rfl⟩
      have If : Inv (X.blk sc Hc scope ce [it]) [] (wipe σ (own.map (·.2))) He sf := by
        rw [esf]
        exact Ie.turned (t' := se.toks) (fun b o hb e => (sbf.2 b hb).trans e) f0 f1 f3 f4 f5
      have itf2 : sf.heap.IsListIter it a (i + 1) := by rw [esf]; exact itf
      rw [← esf]
      obtain ⟨oi, ei, ci, di⟩ := id itf2
      have ncell : ∀ v, oi.data ≠ .cell v := fun v z => by
        rw [di] at z
        cases z
      refine go_of (s := sf) ei ci di (by decide) ?_
      have Ip : Inv (X.blk sc Hc scope ce [it]) ([] ++ pinsAt [it] sf.heap) (wipe σ (own.map (·.2))) He sf := If.pinned (fun b hb => by rw [List.mem_singleton.mp hb]; exact fpAt If ne) (fun b hb => by rw [List.mem_singleton.mp hb]; exact ⟨oi, ei, ncell⟩)
      -- behind a turn
      have next : ∀ {σ' : L2.St} {s' : Shared} {H' : Hp}, Inv (X.blk sc Hc scope ce [it]) ([] ++ pinsAt [it] sf.heap) σ' H' s' → wipe σ' (own.map (·.2)) = wipe σ (own.map (·.2)) → Nx H' → ∃ m, m < n ∧ ∃ i H', Inv (X.blk sc Hc scope ce [it]) [] (wipe σ (own.map (·.2))) H' s' ∧ s'.heap.IsListIter it a i ∧ H' it = none ∧ W i m H' := fun {σ' s' H'} J hwp nx => by
        obtain ⟨m', lt', w'⟩ := hNx H' nx
        have pin := J.pin (it, oi) (List.mem_append_right _ (List.mem_append_right _ (mem_pinsAt (by simp) ei)))
        refine ⟨m', lt', i + 1, H', (J.unpinned (pins := [])).weak (by rw [← hwp, wipe_length]) (fun j v e => ?_), itf2.at fun o e => ?_, pin.2.1, w'⟩
        · rw [← hwp] at e
          exact (wipe_some e).1
        · rw [ei] at e
          cases e
          exact pin.1
      refine thnF (pg.run _ sf _ He x u _ Ip ru (step x He ⟨rfl, fun zs hz => by rw [Ie.list_inj hz hy]; exact hx⟩)) fun _ sg hgq => ?_
      obtain ⟨σg, Hg, Ig, hwg, qg⟩ := hgq
      refine thnF (pt.run _ sg σg Hg _ Ig qg) fun bb sh hhq => ?_
      obtain ⟨Hh, Ih, qh⟩ := hhq
      cases bb with
      | false =>
        rw [if_neg Bool.false_ne_true] at qh ⊢
        exact next Ih hwg qh
      | true =>
        rw [if_pos rfl] at qh ⊢
        refine thnF (pe.run _ sh σg Hh _ Ih qh) fun z si hiq => ?_
        obtain ⟨yv, Hi, Ii, ri, acc, hDi, hzi, nx⟩ := hiq
        exact app_ok (X := X.blk sc Hc scope ce [it]) Ii hDi hzi ri fun sj Ij => next Ij hwg nx
  exact codeAny_compStart_list loop (wpAny_pyIter_listiter itd loop)
end Cot

set_option Elab.async false
set_option linter.all false
set_option maxRecDepth 100000
set_option maxHeartbeats 4000000
/-! A lambda without parameters handed to a def, whose exceptions bear no context. -/
namespace Cot
open PySem PySem.Spec PyProof.Rows L2 LamX
/-- the lambda's context, exceptions as L2N tells them -/
def lamN (X : Cx) (A : Around) (outer : List Env) (s : Shared) (H : Hp) (E : XK) (scope : Scope) (f c' : Addr) : Cx :=
  (lamCx X A outer s H E scope f c').wish fun e s1 => wpAny (model X.prog X.w) (A.deeper (lamEnv X scope s.heap.objs.size f c')) (leaving (lamEnv X scope s.heap.objs.size f c') e) (fun _ s2 => L2N.CX X.prog X.w outer H s E e s2) (fun e2 s2 => L2N.CX X.prog X.w outer H s E e2 s2) s1
section
variable {X : Cx} {pins : List (Addr × Obj)} {σ : L2.St} {H : Hp} {s : Shared}
theorem actN {CXg : CXT} {Eg : XK} {Ng : List Str} {qg : Str} {sg : Scope} {g f c' : Addr} {cdg pm ctv : Value} {params : Arguments} {body : Expr} {scope : Scope} {k i : Nat} {a : Str} {pn : List (Addr × Obj)} {xe : Value → Shared → Prop} {W : WX} {E : XK} {tb : TE} {p1 p2 : Pos}
    (I : Inv X pins σ H s) (L : LamS X.env.scope scope) (of0 : s.heap.get? f = some (PySem.W.kla_obj "<lambda>" (X.env.qual ++ "<lambda>") params body scope (cloFrom X.env.cells scope.names []) pm c' ctv)) (nf : H f = none) (ff : f ∉ frs X.stack)
    (bnd : bindArgs (PySem.W.kla_fn "<lambda>" (X.env.qual ++ "<lambda>") params body scope (cloFrom X.env.cells scope.names []) pm (.ref c') ctv) ⟨[], []⟩ = pure [])
    (tk : L2N.Takes ((cxOf CXg X.prog X.w X.K X.mg X.base Ng qg sg g cdg X.A X.stack s H Eg).tr pn xe) W) (hW : ∀ cls d σ1 H1, E cls d H1 → W cls d σ1 H1) (hr : Room (k + 1) (X.A.deeper (envOfC qg sg s.heap.objs.size g cdg)))
    (hb : ∀ (A : Around) (outer : List Env) (s : Shared) (H : Hp), Room k (A.deeper (lamEnv X scope s.heap.objs.size f c')) → PE (lamN X A outer s H E scope f c') body tb)
    (hN : Ng[i]? = some a) (hv : Vis sg a) (hd : (a == ("__debug__" : Str)) = false) (hcd : (a == ("__classdict__" : Str)) = false) :
    PE ((cxOf CXg X.prog X.w X.K X.mg X.base Ng qg sg g cdg X.A X.stack s H Eg).tr pn xe) (.Call (.Name a p1) [] [] p2)
      (fun σz Hz Q => σz[i]? = some (some (.ref f)) ∧ Hz c' = some (CodeO c' (X.env.qual ++ "<lambda>")) ∧ tb σ Hz Q) := by
  refine ⟨fun pz sz σz Hz Q Iz hq => ?_⟩
  obtain ⟨h1, h2, h3⟩ := hq
  have var := (pe_var (X := (cxOf CXg X.prog X.w X.K X.mg X.base Ng qg sg g cdg X.A X.stack s H Eg).tr pn xe) (pos := p1) (i := i) hN hv hd hcd).run pz sz σz Hz (fun v H1 => v = .ref f ∧ H1 = Hz) Iz ⟨.ref f, h1, rfl, rfl⟩
  refine wpAny_Call_Name_kw (thn var fun u sa hh => ?_)
  obtain ⟨v, Ha, Ia, ra, rfl, eHa⟩ := hh
  rw [eHa] at Ia
  cases ra
  have ofa := Ia.base.keep f _ of0 nf ff (fun z => nomatch (show f ∈ ([] : List Addr) from z))
  refine PySem.W.callWith_F0 ⟨_, _, _, _, ofa⟩ ?_
  have una : Un (frs X.stack) [] H Hz s.heap sa.heap := Ia.base
  obtain ⟨⟨oc, vs, t, hoc, hdc, hvc⟩, _, _⟩ := Ia.hok c' _ h2
  have run : codeAny (model X.prog X.w) (X.A.deeper (envOfC qg sg s.heap.objs.size g cdg)) (.call (.ref f) ⟨[], []⟩) (CR (L2N.CX X.prog X.w) (envOfC qg sg s.heap.objs.size g cdg :: X.stack) X.prog X.w Hz sa Q E) sa := by
    refine PySem.W.kla_callFunE hr.depth ofa rfl L.co L.gen rfl ⟨c', oc, vs, t, rfl, hoc, hdc, hvc⟩ ?_
    rw [bnd]
    apply wpAny_pure
    refine wpAny_newFunctionEnv (fun y hy => (L.own y hy).2) (fun y hy => absurd hy (by simp)) (fun hn ns sb => ⟨Ia.nolimit.fresh _ sb, ?_⟩) L.kind
    have keep : ∀ b o, sa.heap.get? b = some o → hn.get? b = some o := fun b o e => sb.extBut b o (Nat.ne_of_lt (Heap.lt_size e)) (Heap.get?_push_of_some _ e)
    have J := (lam_start2 (E := E) (f := f) (c' := c') (tk := sa.toks + ([] : List (Str × Value)).length) I L Ia.env0 hr.hd una ns keep).wish (fun e s1 => wpAny (model X.prog X.w) ((X.A.deeper (envOfC qg sg s.heap.objs.size g cdg)).deeper (lamEnv X scope sa.heap.objs.size f c')) (leaving (lamEnv X scope sa.heap.objs.size f c') e) (fun _ s2 => L2N.CX X.prog X.w (envOfC qg sg s.heap.objs.size g cdg :: X.stack) Hz sa E e s2) (fun e2 s2 => L2N.CX X.prog X.w (envOfC qg sg s.heap.objs.size g cdg :: X.stack) Hz sa E e2 s2) s1)
    show codeAny _ _ (.expr body (lamEnv X scope sa.heap.objs.size f c')) _ _
    refine PySem.W.kla_codeExpr (wpAny_mono ((hb _ _ sa Hz (hr.deeper _)).run [] _ _ Hz Q J h3) (fun v s1 hv => ?_) fun e s1 hv => hv)
    obtain ⟨v1, H1, J1, r1, q1⟩ := hv
    exact ⟨v1, H1, J1.os, J1.bare, J1.base, J1.hok, r1, q1⟩
  have pass := L2N.passes_call tk hW
  refine wpAny_call (codeAny_mono run fun r s1 hv => ?_)
  cases r with
  | error e => exact pass pz σz Hz sa e s1 Ia hv
  | ok fl =>
    cases fl with
    | ret u => exact Ia.after hv
    | next => exact hv.elim
    | brk => exact hv.elim
    | cont => exact hv.elim
end
/-- the def that calls what it got -/
def GivesN (X : Cx) (Ng : List Str) (x : Str) (sg : Scope) (g : Addr) (cdg : Value) (bg : List Stmt) (a : Str) (q : Str) (k : Nat) (TT : (XK → Hp → VK → Prop) → Hp → VK → Prop) : Prop :=
  ∀ (f c' : Addr) (s : Shared) (H : Hp) (Q : VK) (tl : XK → Hp → VK → Prop), Room (k + 1) (X.A.deeper (envOfC x sg s.heap.objs.size g cdg)) →
    (∀ (W : WX) (pn : List (Addr × Obj)) (xe : Value → Shared → Prop) (E : XK) (p1 p2 : Pos), L2N.Takes ((cxOf C8.CX0 X.prog X.w X.K X.mg X.base Ng x sg g cdg X.A X.stack s H C8.E0).tr pn xe) W → (∀ cls d σ1 H1, E cls d H1 → W cls d σ1 H1) →
      PE ((cxOf C8.CX0 X.prog X.w X.K X.mg X.base Ng x sg g cdg X.A X.stack s H C8.E0).tr pn xe) (.Call (.Name a p1) [] [] p2) (fun σz Hz Q => σz[0]? = some (some (.ref f)) ∧ Hz c' = some (CodeO c' q) ∧ tl E Hz Q)) →
    H c' = some (CodeO c' q) → TT tl H Q →
    ∃ t, PSs (cxOf C8.CX0 X.prog X.w X.K X.mg X.base Ng x sg g cdg X.A X.stack s H C8.E0).nox bg t ∧ t { nx := fun _ H1 => Q .non H1, rt := Q } (L2.start Ng [.ref f]) H
theorem pe_lamN {X : Cx} {T : List (Addr × Str)} {TT : (XK → Hp → VK → Prop) → Hp → VK → Prop} {x a : Str} {g c P : Addr} {k : Nat} {pg : Arguments} {bg : List Stmt} {sg : Scope} {dV kV doc pm cdv ct oc : Value} {an od : Option Addr} {osl : Array (Option Value)} {Ng : List Str}
    {params : Arguments} {body : Expr} {scope : Scope} {t : XK → TE} {p lpos pos : Pos} (hg : Gl X x) (hm : X.mg x = some (.ref g)) (hk : PySem.W.keepIn X.K (.ref g) = true)
    (lk : X.K.lookup g = some ⟨oc, od, .func (PySem.W.fnOf x x pg bg sg dV kV doc pm an cdv ct), osl⟩) (hcg : PySem.W.codeIn X.K cdv x = true) (hbi : L2.Binds X.K (PySem.W.fnOf x x pg bg sg dV kV doc pm an cdv ct) [a] []) (Sg : FnScope Ng [a] sg) (hNg : Ng[0]? = some a) (hva : Vis sg a)
    (hG : GivesN X Ng x sg g cdv bg a (X.env.qual ++ "<lambda>") k TT)
    (TB : TabB X.base X.mg c P) (hcode : X.env.code = .ref c) (hmT : (P, X.env.qual ++ "<lambda>") ∈ T) (hu : ∀ q ∈ T, q.1 = P → q.2 = X.env.qual ++ "<lambda>") (hr : Room (k + 2) X.A) (L : LamS X.env.scope scope) (hdef : defaultsOf params X.env = ([], []))
    (bnd : ∀ (q : Str) (cl : List (Str × Addr)) (pm cv ctv : Value), bindArgs (PySem.W.kla_fn "<lambda>" q params body scope cl pm cv ctv) ⟨[], []⟩ = pure [])
    (hb : ∀ (A : Around) (outer : List Env) (s : Shared) (H : Hp) (E : XK) (f c' : Addr), Room k (A.deeper (lamEnv X scope s.heap.objs.size f c')) → PE (lamN X A outer s H E scope f c') body (t E))
    (hdb : (x == ("__debug__" : Str)) = false := by decide) (hd : (a == ("__debug__" : Str)) = false := by decide) (hcd : (a == ("__classdict__" : Str)) = false := by decide) :
    PE X (.Call (.Name x p) [.Lambda params body scope lpos] [] pos) (tLam T TT t) := by
  refine ⟨fun pz sz σz Hz Q Iz hq => ?_⟩
  obtain ⟨hT, hq⟩ := hq
  refine wpAny_Call_Name_kw (ld_glob Iz hg hm (PySem.W.callWith_K (h₀ := X.base) Iz.ok.mod.kin hk ?_ (by rfl) (by rfl)) hdb)
  show wpAny _ _ (spliced ((false, eval (.Lambda params body scope lpos) X.env) :: backTo pos (starEach [] X.env))) _ _ sz
  refine Calls.spliced_cons (lam_make2 Iz TB hcode hmT hu hT hdef (L.has Iz.ok) fun f c' pm1 ctv Ha sa Ia eN Ta of0 nf ff hco => ?_)
  refine Calls.spliced_nil ⟨Ia.kIn, ?_⟩
  have run : codeAny (model X.prog X.w) X.A (.call (.ref g) ⟨[.ref f], []⟩) (CR C8.CX0 X.stack X.prog X.w Ha sa Q C8.E0) sa := by
    refine run_ofS (N := Ng) (ps := [a]) (us := [.ref f]) (vs := [.ref f]) lk hcg Sg hr Ia.env0 (hbi sa [.ref f] Ia.kIn rfl) (.cons rfl .nil) rfl fun hr1 => ?_
    obtain ⟨t1, ht1, hq1⟩ := hG f c' sa Ha Q (fun E H1 Q1 => t E σz H1 Q1) hr1 (fun W pn xe E p1 p2 tk hW => actN (i := 0) Ia L of0 nf ff (bnd _ _ _ _ _) tk hW hr1 (fun A outer s H hr2 => hb A outer s H E f c' hr2) hNg hva hd hcd) hco (hq Ha eN Ta)
    exact ⟨t1, ht1.nox, hq1⟩
  refine wpAny_call (codeAny_mono run fun r s1 hv => ?_)
  cases r with
  | error e => exact (show False from hv).elim
  | ok fl =>
    cases fl with
    | ret u => exact Ia.after hv
    | next => exact hv.elim
    | brk => exact hv.elim
    | cont => exact hv.elim
end Cot

set_option Elab.async false
set_option linter.all false
set_option maxRecDepth 100000
set_option maxHeartbeats 4000000
/-! A def that is handed the exception that is being handled; isinstance of it. -/
namespace Cot
open PySem PySem.Spec PyProof.Rows L2 L2H
/-- what such a def promises: told of the exception's place and object -/
structure FnP (P : Program) (w : World) (K : PySem.W.Frag) (mg : Str → Option Value) (base : Heap) (CX : CXT) (k : Nat) (f : Addr) (fd : FuncData) (ps : List Str) (sp : Addr × Obj → Sp) : Prop where
  ln : ∀ p vs H Q E, sp p vs H Q E → vs.length = ps.length
  go : ∀ (p : Addr × Obj) (A : Around) (st : List Env) (s : Shared) (H : Hp) (as : Args) (us : List Value) (vs : List V) (Q : VK) (E : XK), RoomH k A → Hot1 A p → PinOk st H s p →
    Env0 P w K mg base A st s H → BindsTo s fd as (ps.zip us) → Vals vs us → sp p vs H Q E → codeAny (model P w) A (.call (.ref f) as) (CR CX st P w H s Q E) s
theorem fn_ofP {P : Program} {w : World} {K : PySem.W.Frag} {mg : Str → Option Value} {base : Heap} {CX : CXT} {k : Nat} {f : Addr} {nm ql : Str} {par : Arguments} {bd : List Stmt} {sc : Scope} {dV kV doc pm cdv ct oc : Value} {an od : Option Addr} {osl : Array (Option Value)} {N ps : List Str} {sp : Addr × Obj → Sp}
    (hl : K.lookup f = some ⟨oc, od, .func (PySem.W.fnOf nm ql par bd sc dV kV doc pm an cdv ct), osl⟩) (hcd : PySem.W.codeIn K cdv ql = true) (S : FnScope N ps sc) (ln : ∀ p vs H Q E, sp p vs H Q E → vs.length = ps.length)
    (hb : ∀ (p : Addr × Obj) (A : Around) (st : List Env) (s : Shared) (H : Hp) (vs : List V) (Q : VK) (E : XK), Hot1 A p → RoomH k (A.deeper (envOfC ql sc s.heap.objs.size f cdv)) → sp p vs H Q E →
      ∃ t, PSs (cxH CX P w K mg base N ql sc f cdv A st s H E p) bd t ∧ t { nx := fun _ H1 => Q .non H1, rt := Q } (L2.start N vs) H) :
    FnP P w K mg base CX (k + 1) f (PySem.W.fnOf nm ql par bd sc dV kV doc pm an cdv ct) ps sp := by
  refine ⟨ln, ?_⟩
  intro p A st s H as us vs Q E room hot pin e0 bnd rel want
  have kin : K.In s.heap := e0.mod.kin.keeps fun b o e => (e0.bs b o e).1
  have nol : s.heap.NoLimit := e0.mod.nolimit.keeps fun b o e => (e0.bs b o e).1
  refine codeAny_call_function room.depth (kin _ _ hl) rfl S.co S.gen rfl (PySem.W.codeRec_of kin hcd) (bnd _ _ _ _ ?_)
  refine wpAny_newFunctionEnv_cells S.kind (fun y hy => ?kinds) fun env he s1 x => ?rest
  case kinds =>
    obtain ⟨n, v⟩ := y
    cases S.par n (List.of_mem_zip hy).1 with
    | inl q => exact .inl q
    | inr q => exact .inr ⟨q, PySem.W.cellsFrom_some _ _ _ (.inl q)⟩
  case rest =>
    subst he
    refine ⟨nol.keeps x.toInCall.keep, codeAny_func ?_⟩
    obtain ⟨t, ht, want2⟩ := hb p A st s H vs Q E hot (room.deeper _) want
    have I0 := inv_startH (CX := CX) (E := E) (qual := ql) (f := f) (cd := cdv) S pin e0 (ln _ _ _ _ _ want) rel x
    refine wpAny_mono (ht.run [] s1 _ H _ I0 want2) (fun fl s2 h2 => ?_) fun _ _ h2 => h2
    cases fl with
    | next =>
      obtain ⟨σ2, H2, J, q⟩ := h2
      exact ⟨V.non, H2, J.os, J.bare, J.base, J.hok, rfl, q⟩
    | ret u =>
      obtain ⟨v, σ2, H2, J, rv, q⟩ := h2
      exact ⟨v, H2, J.os, J.bare, J.base, J.hok, rv, q⟩
    | brk =>
      obtain ⟨_, _, _, q⟩ := h2
      cases q
    | cont =>
      obtain ⟨_, _, _, q⟩ := h2
      cases q
section
variable {X : Cx} {p : Addr × Obj}
theorem pe_callP {CX : CXT} {k : Nat} {f : Addr} {fd : FuncData} {ps : List Str} {sp : Addr × Obj → Sp} {E : L2.St → XK} {x : Str} {q pos : Pos} {e : Expr} {es : List Expr} {t : TA}
    (F : FnP X.prog X.w X.K X.mg X.base CX k f fd ps sp) (room : RoomH k X.A) (hot : Hot1 X.A p) (hp : p ∈ X.pn) (hg : Gl X x) (hm : X.mg x = some (.ref f)) (hk : PySem.W.keepIn X.K (.ref f) = true) (hb : L2.Binds X.K fd ps [])
    (hx : ∀ σ, PassesAt CX X σ (E σ)) (ha : PA X (e :: es) t) (hdb : (x == ("__debug__" : Str)) = false := by decide) (he : starEach (e :: es) X.env = (false, eval e X.env) :: starEach es X.env := by rfl)
    (hpl : (backTo pos (starEach es X.env)).any (·.1) = false := by rfl) : PE X (.Call (.Name x q) (e :: es) [] pos) (tCallS (sp p) E t) := by
  refine ⟨fun pins s σ H Q I want => wpAny_Call_Name_kw (ld_glob I hg hm ?_ hdb)⟩
  refine PySem.W.callWith_K (h₀ := X.base) I.ok.mod.kin hk (thn (ha.run pos pins s σ H _ I want) fun us s1 hh => ?_) he hpl
  obtain ⟨vs, H1, I1, rel, want1⟩ := hh
  refine ⟨I1.kIn, ?_⟩
  have pn := I1.pin p (List.mem_append_left _ hp)
  have bnd := hb s1 us I1.kIn (by rw [List.append_nil, ← rel.length]; exact F.ln _ _ _ _ _ want1)
  rw [List.append_nil] at bnd
  have out : PinOk X.stack H1 s1 p := ⟨pn.1, pn.2.1, fun z => (List.mem_cons.mp (I1.stkSub p.1 z)).elim pn.2.2.1 pn.2.2.2.1, pn.2.2.2.2⟩
  refine wpAny_call (codeAny_mono (F.go p X.A X.stack s1 H1 ⟨us, []⟩ us vs Q (E σ) room hot out I1.env0 bnd rel want1) fun r s2 hv => ?_)
  cases r with
  | error u => exact hx σ pins H1 s1 u s2 I1 hv
  | ok fl =>
    cases fl with
    | ret u => exact I1.after hv
    | next => cases hv
    | brk => cases hv
    | cont => cases hv
/-- isinstance of the exception that is handled -/
theorem call_isP {D : Addr} (C : ExcC X.K D) (hp : p ∈ X.pn) (hz : Zc (.ref D) none p.2) (hf : ∃ vs, p.2.data = .fields vs) : CallR X (.builtin "isinstance") (rIsE X.K D p.1) := by
  intro pins s σ H xs us Q I rel want
  obtain ⟨c, cv, b, rfl, only, ans, q⟩ := want
  obtain ⟨a, oe⟩ := p
  obtain ⟨oc, od, oda, osl⟩ := oe
  obtain ⟨h1, h2⟩ := hz
  obtain ⟨vs, h3⟩ := hf
  dsimp only at h1 h2 h3
  have got := (I.pin _ (List.mem_append_left _ hp)).1
  subst h1 h2 h3
  cases rel with
  | cons r1 r2 =>
    cases r2 with
    | cons r2 r3 =>
      cases r3
      cases r1
      obtain rfl := only _ r2
      have at' : PySem.W.InstAt s.heap a ⟨.ref D, none, .fields vs, osl⟩ D none := ⟨got, rfl, rfl, trivial⟩
      refine PySem.W.kia_one (PySem.W.handS_kitx_exc C.hg C.hk C.hs C.hd C.ha C.hn C.ht C.hm) I.kIn at' ans (fun z => nomatch z) fun tk => ?_
      exact ⟨.bl b, H, I.kept (t' := tk) fun _ _ z => z, rfl, q⟩
end
end Cot

set_option Elab.async false
set_option linter.all false
set_option maxRecDepth 100000
set_option maxHeartbeats 4000000
/-! Own exception classes: their facts, defs that raise, texts joined, pairs walked. -/
namespace Cot
open PySem PySem.Spec PyProof.Rows L2 L2H Evl RZ
section
variable {P : Program} {w : World} {K : PySem.W.Frag} {mg : Str → Option Value} {base : Heap}
theorem okN {x ql : Str} {st : Stmt} {f : Addr} {fd : FuncData} {N ps : List Str} {k : Nat} {sp : Sp} (F : Fun K x ql st f fd) (S : FnScope N ps (defScope st)) (ln : ∀ vs H Q E, sp vs H Q E → vs.length = ps.length)
    (hb : ∀ (cdv : Value) (A : Around) (st2 : List Env) (s : Shared) (H : Hp) (vs : List V) (Q : VK) (E : XK), Room k (A.deeper (envOfC ql (defScope st) s.heap.objs.size f cdv)) → sp vs H Q E →
      ∃ t, PSs (cxOf (L2N.CX P w) P w K mg base N ql (defScope st) f cdv A st2 s H E) (defBody st) t ∧ t { nx := fun _ H1 => Q .non H1, rt := Q } (L2.start N vs) H) : FnOk P w K mg base (L2N.CX P w) (k + 1) f fd ps sp := by
  obtain ⟨_, _, _, _, _, _, cdv, _, _, rfl, lk, hcd⟩ := F.ex
  exact fn_of lk hcd S ln fun A st2 s H vs Q E hr h => hb cdv A st2 s H vs Q E hr h
theorem okP {x ql : Str} {st : Stmt} {f : Addr} {fd : FuncData} {N ps : List Str} {k : Nat} {CX : CXT} {sp : Addr × Obj → Sp} (F : Fun K x ql st f fd) (S : FnScope N ps (defScope st)) (ln : ∀ p vs H Q E, sp p vs H Q E → vs.length = ps.length)
    (hb : ∀ (cdv : Value) (p : Addr × Obj) (A : Around) (st2 : List Env) (s : Shared) (H : Hp) (vs : List V) (Q : VK) (E : XK), Hot1 A p → RoomH k (A.deeper (envOfC ql (defScope st) s.heap.objs.size f cdv)) → sp p vs H Q E →
      ∃ t, PSs (cxH CX P w K mg base N ql (defScope st) f cdv A st2 s H E p) (defBody st) t ∧ t { nx := fun _ H1 => Q .non H1, rt := Q } (L2.start N vs) H) : FnP P w K mg base CX (k + 1) f fd ps sp := by
  obtain ⟨_, _, _, _, _, _, cdv, _, _, rfl, lk, hcd⟩ := F.ex
  exact fn_ofP lk hcd S ln fun p A st2 s H vs Q E hot hr h => hb cdv p A st2 s H vs Q E hot hr h
end
/-- a class of errors, by its name -/
structure ExB (K : PySem.W.Frag) (mg : Str → Option Value) (x : Str) (C : Addr) : Prop where
  g : mg x = some (.ref C)
  kp : PySem.W.keepIn K (.ref C) = true
/-- one under ValueError, without an own __init__ -/
structure Exn (K : PySem.W.Frag) (mg : Str → Option Value) (x : Str) (C : Addr) : Prop extends ExB K mg x C where
  xi : PySem.W.excIn K C [.type "ValueError", .type "Exception", .type "BaseException", .type "object"] "ValueError.__new__" = true
  sb : PySem.W.subIn K (.ref C) (.type "BaseException") = some true
  ty : PySem.W.typeIn K (.ref C) = some (.type "type")
/-- isinstance of an instance of D, class by class -/
inductive KRow (K : PySem.W.Frag) (D : Addr) : List Value → List Bool → Prop
  | nil : KRow K D [] []
  | cons {c : Value} {b : Bool} {cs : List Value} {bs : List Bool} (h : PySem.W.kitOne K (.ref D) c = some b) (r : KRow K D cs bs) : KRow K D (c :: cs) (b :: bs)
theorem KRow.get {K : PySem.W.Frag} {D : Addr} {cs : List Value} {bs : List Bool} (r : KRow K D cs bs) : ∀ (i : Nat) (c : Value), cs[i]? = some c → PySem.W.kitOne K (.ref D) c = some (bs.getD i false) := by
  induction r with
  | nil => intro i c e; simp at e
  | cons h _ ih =>
    intro i c e
    cases i with
    | zero =>
      cases e
      exact h
    | succ i => exact ih i c e
theorem Exn.pmk {X : Cx} {x m : Str} {C : Addr} {j : Nat} {p p2 pos : Pos} (e : Exn X.K X.mg x C) (hg : Gl X x) (hdb : (x == ("__debug__" : Str)) = false := by decide) : L2N.PMk X (.Call (.Name x p) [.Constant (.str m) j p2] [] pos) (fun _ H Q => Q (.ref C) none H) :=
  L2N.pmk_own PySem.F.excBase_ValueError e.xi e.g e.kp (raises_own e.sb e.ty) hg hdb
section
variable {K : PySem.W.Frag} {X : Cx} {H H' Hd Hd' Hn H1 H2 Hm : Hp} {σ : L2.St} {ta tb tc te tx tl to : TE} {d : PyData} {ds es : List PyData} {tr : TA} {i j j2 n : Nat}
/-- a list of pairs, walked -/
theorem ei_pairs {f f2 : Nat → Option PyData} (h : EvD K tl σ Hd (.list ds)) (hp : ∀ i d, ds[i]? = some d → ∃ d1 d2, d = .tuple [d1, d2] ∧ f i = some d1 ∧ f2 i = some d2) : EvI K (iList K tl) (g2 K j j2) σ Hd ds.length (SPair K j j2 f f2) := fun H s R r =>
  h H s _ fun v H2 Hn g hd => by
    cases hd with
    | @lst a xs ds hs hall =>
      refine ⟨a, rfl, ⟨xs, ex_l g.sub hs⟩, r _ H2 Hn _ _ g (by rw [← dpa_len hall]; exact walk_list) (fun H' e => ex_l e hs) fun i x H' H'' σ' k hi e y q => ?_⟩
      obtain ⟨rfl, hx⟩ := y
      obtain ⟨d, h1, h2⟩ := dpa_get2 hall hx
      obtain ⟨d1, d2, rfl, q1, q2⟩ := hp i d h1
      cases h2 with
      | @tup T ys es ht hal =>
        cases hal with
        | cons p1 p2 =>
          cases p2 with
          | cons p2 p3 =>
            cases p3
            exact ⟨T, _, rfl, ex_t e ht, rfl, _, _, rfl, _, [], rfl, rfl, q _ _ (Ex.refl _) ⟨_, _, d1, d2, q1, q2, p1, p2, rfl⟩⟩
def rJo (K : PySem.W.Frag) : V → List V → Hp → VK → Prop := fun x xs H Q => ∃ a p, ∃ ys : List Str, x = .str a ∧ xs = [.ref p] ∧ (SqL K H p (ys.map V.str) ∨ SqT K H p (ys.map V.str)) ∧ (ys.map (·.length)).sum + ys.length * a.length ≤ 16777216 ∧ Q (.str (Txt.join a ys)) H
theorem pe_jo {o e : Expr} {apos pos : Pos} (ho : PE X o to) (he : PE X e te) (hs : starEach [e] X.env = [(false, eval e X.env)] := by rfl) (hbase : attributeBase o "join" X.env (eval o X.env) = eval o X.env := by rfl) (hline : (apos.endLine == pos.line) = true := by rfl) :
    PE X (.Call (.Attribute o "join" apos) [e] [] pos) (tM1 (rJo X.K) to te) := pe_join ho he hs hbase hline
theorem dpa_strs_inv : ∀ {ns : List Str} {vs : List V}, DpAll K H vs (ns.map PyData.str) → vs = ns.map V.str
  | [], _, h => by cases h; rfl
  | n :: ns, _, h => by
    cases h with
    | cons a b =>
      cases a
      rw [dpa_strs_inv b]
      rfl
theorem ev_jo {a : Str} {ys : List Str} (ho : Ev to σ Hd (.str a)) (h : EvD K te σ Hd (.list (ys.map .str))) (hl : (ys.map (·.length)).sum + ys.length * a.length ≤ 16777216) : Ev (tM1 (rJo K) to te) σ Hd (.str (Txt.join a ys)) := fun H s Q q =>
  ho H s _ fun H1 e1 => ⟨⟨a, rfl⟩, h H1 (s.trans e1) _ fun v H2 Hn g hd => by
    cases hd with
    | @lst p xs ds hs hall =>
      have e := dpa_strs_inv hall
      subst e
      exact ⟨a, p, ys, rfl, rfl, .inl (ex_l g.sub hs), hl, q H2 (e1.trans g.ex)⟩⟩
theorem ev_isX {D a C : Addr} {b : Bool} (ha : Ev ta σ H (.ref a)) (k : PySem.W.kitOne K (.ref D) (.ref C) = some b) : Ev (tCB (rIsE K D a) (tCons ta (tCons (tC (.ref C)) tNil))) σ H (.bl b) := fun H1 s Q q =>
  ha H1 s _ fun H2 e => ⟨.ref C, .ref C, b, rfl, fun u r => r, k, q H2 e⟩
theorem ev_isXT {D a : Addr} {T : String} {b : Bool} (ha : Ev ta σ H (.ref a)) (k : PySem.W.kitOne K (.ref D) (.type T) = some b) : Ev (tCB (rIsE K D a) (tCons ta (tCons (tC (.ty T)) tNil))) σ H (.bl b) := fun H1 s Q q =>
  ha H1 s _ fun H2 e => ⟨.ty T, .type T, b, rfl, fun u r => r, k, q H2 e⟩
end
end Cot

set_option Elab.async false
set_option linter.all false
set_option maxRecDepth 100000
set_option maxHeartbeats 4000000
/-! Defs that answer or refuse: their promise by data, their calls. -/
namespace Cot
open PySem PySem.Spec PyProof.Rows L2 Evl
/-- an answer by R, or an error of a class by Rx -/
def spX (K : PySem.W.Frag) (R : List PyData → PyData → Prop) (Rx : List PyData → Addr → Prop) : Sp := fun vs H Q E => ∃ Hd ds, Ex Hd H ∧ DpAll K Hd vs ds ∧
  ((∃ d, R ds d ∧ ∀ v H2 Hn, Gr Hd H Hn H2 → Dp K Hn v d → Q v H2) ∨ ∃ C, Rx ds C ∧ ∀ H2, Ex H H2 → E (.ref C) none H2)
section
variable {K : PySem.W.Frag} {H Hd : Hp} {σ : L2.St} {tr : TA} {D : Ends} {tz : TS} {ds : List PyData} {d : PyData} {C : Addr} {E : XK} {R : List PyData → PyData → Prop} {Rx : List PyData → Addr → Prop} {Q : VK} {dv : List V} {dd : List PyData}
theorem tx_ok (s : Ex Hd H) (h : EvDA K tr σ Hd ds) (hv : ∀ H, DpAll K H dv dd) (hr : R (ds ++ dd) d) (k : ∀ v H2 Hn, Gr Hd H Hn H2 → Dp K Hn v d → Q v H2) : tCall (spX K R Rx) dv E tr σ H Q :=
  h H s _ fun vs H2 Hn g hd => ⟨Hn, ds ++ dd, g.sub, dpa_app hd (hv Hn), .inl ⟨d, hr, fun v H3 Hm g3 hv => k v H3 Hm (g.trans g3) hv⟩⟩
theorem tx_no (s : Ex Hd H) (h : EvDA K tr σ Hd ds) (hv : ∀ H, DpAll K H dv dd) (hr : Rx (ds ++ dd) C) (k : ∀ H2, Ex H H2 → E (.ref C) none H2) : tCall (spX K R Rx) dv E tr σ H Q :=
  h H s _ fun vs H2 Hn g hd => ⟨Hn, ds ++ dd, g.sub, dpa_app hd (hv Hn), .inr ⟨C, hr, fun H3 e3 => k H3 (g.ex.trans e3)⟩⟩
theorem go_dropOk (s : Ex Hd H) (h : EvDA K tr σ Hd ds) (hr : R ds d) (k : ∀ v H2 Hn, Gr Hd H Hn H2 → Dp K Hn v d → Go tz D σ H2) : Go (tSeq (tDrop (tCall (spX K R Rx) [] E tr)) tz) D σ H := fun H1 e1 =>
  tx_ok (s.trans e1) h (fun _ => .nil) (by rw [List.append_nil]; exact hr) fun v H2 Hn g hd => k v H2 Hn (g.pre e1) hd H2 (Ex.refl _)
theorem go_dropNo (s : Ex Hd H) (h : EvDA K tr σ Hd ds) (hr : Rx ds C) (k : ∀ H2, Ex H H2 → E (.ref C) none H2) : Go (tSeq (tDrop (tCall (spX K R Rx) [] E tr)) tz) D σ H := fun H1 e1 =>
  tx_no (s.trans e1) h (fun _ => .nil) (by rw [List.append_nil]; exact hr) fun H2 e2 => k H2 (e1.trans e2)
theorem go_raise (k : ∀ H2, Ex H H2 → E (.ref C) none H2) : Go (tSeq (fun _ σ H => (fun _ H1 Q1 => Q1 (Value.ref C) none H1 : L2.St → Hp → XK → Prop) σ H fun cls d H1 => E cls d H1) tz) D σ H := fun H1 e1 => k H1 e1
end
end Cot

set_option Elab.async false
set_option linter.all false
set_option maxRecDepth 100000
set_option maxHeartbeats 4000000
/-! Tables of code objects beside boxes and lists; a loop over a range that asks nothing of the heap. -/
namespace Cot
open PySem PySem.Spec PyProof.Rows L2 Evl LamX
def hp0 : Hp := fun _ => none
theorem ex0 {H : Hp} : Ex hp0 H := fun _ _ h => nomatch h
section
variable {K : PySem.W.Frag} {b : Bid} {l : Addr} {H H1 H2 Hd Hn : Hp} {Tt : List (Addr × Str)} {xs : List V} {o : HO}
theorem tabs_but (hl : H l = some (.lst xs)) (k : ∀ a o, a ≠ l → H a = some o → H2 a = some o) (t : Tabs Tt H) : Tabs Tt H2 := fun p hp => by
  obtain ⟨ps, h1, h2, h3⟩ := t p hp
  refine ⟨ps, k _ _ (fun z => ?_) h1, h2, fun pos cv hc => ?_⟩
  · rw [z, hl] at h1
    cases h1
  · obtain ⟨c, e, hcd⟩ := h3 pos cv hc
    refine ⟨c, e, k _ _ (fun z => ?_) hcd⟩
    rw [z, hl] at hcd
    unfold CodeO at hcd
    cases hcd
theorem tabs_box (t : Tabs Tt H) (B : Bx H b) (g : GrB b Hd H Hn H2) : Tabs Tt H2 := by
  obtain ⟨cells, xs, h1, _⟩ := B
  exact tabs_but h1 (fun a o n h => g.exb a o n h) t
theorem tabs_ex (t : Tabs Tt H) (e : Ex H H2) : Tabs Tt H2 := t.ext e
theorem lst_extN (h : H l = some (.lst xs)) (e : ExtN H H2) : H2 l = some (.lst xs) := e l _ h fun ps z => by cases z
theorem bx_extN (B : Bx H b) (e : ExtN H H2) : Bx H2 b := by
  obtain ⟨cells, xs, h1, h2, h3, h4⟩ := B
  exact ⟨cells, xs, lst_extN h1 e, h2, lst_extN h3 e, h4⟩
theorem extN_ex (e : Ex H H2) : ExtN H H2 := ExtN.of e
theorem extN_new (h : H l = none) : ExtN H (upd H l o) := ExtN.of (Ex.new h)
end
section
variable {K : PySem.W.Frag} {H : Hp} {σ : L2.St} {ta te : TE} {tr : TA} {D : Ends} {tu tz : TS} {j : Nat} {m : Int}
theorem go_forN (h : EvA tr σ H [.int m]) (hm : -100000 ≤ m ∧ m ≤ 100000) (Pv : Nat → L2.St → Hp → Prop) (h0 : ∀ H', Ex H H' → Pv 0 σ H') (hs : ∀ i σ' H', i < m.toNat → Pv i σ' H' → Go tu { D with nx := Pv (i + 1), ct := Pv (i + 1), bk := tz D } (σ'.set j (some (.int (i : Int)))) H')
    (hd : ∀ σ' H', Pv m.toNat σ' H' → Go tz D σ' H') : Go (tSeq (tFor (iRng1 tr) (gName j) tu) tz) D σ H := fun H1 e1 =>
  h H1 e1 _ fun H2 e2 => by
    refine ⟨m, rfl, by omega, by omega, for_it (walk_range (lo := 0) (n := m.toNat)) Pv (h0 H2 (e1.trans e2)) (fun _ _ _ _ _ => trivial) (fun i x σ' H' H'' hi q y => ?_) (fun σ' H' q => hd σ' H' q H' (Ex.refl _))⟩
    obtain ⟨rfl, rfl⟩ := y
    have e0 : (0 : Int) + (i : Int) = (i : Int) := Int.zero_add _
    show tu _ (σ'.set j (some (.int ((0 : Int) + (i : Int))))) _
    rw [e0]
    exact hs i σ' _ hi q _ (Ex.refl _)
def rInt1 : List V → Hp → VK → Prop := fun xs H Q => (∃ i, xs = [.int i] ∧ Q (.int i) H) ∨ ∃ k, xs = [.bl k] ∧ Q (.int (if k then 1 else 0)) H
theorem call_intQ {X : Cx} : CallR X (.type "int") rInt1 := call_int1
theorem ev_intB {k : Bool} (h : Ev ta σ H (.bl k)) : Ev (tCB rInt1 (tCons ta tNil)) σ H (.int (if k then 1 else 0)) := fun H1 e Q q => h H1 e _ fun H2 e2 => .inr ⟨k, rfl, q H2 e2⟩
end
end Cot

namespace C_k04
open PySem PySem.Spec PyProof.Rows L2 Evl Cot RZ L2H
local macro_rules | `(tactic| walk_at "side") => `(tactic| first | decide | omega | (show (0 : Int) < _; omega) | (show (0 : Int) < _ ∧ _ < (1073741824 : Int); omega) | (exact Or.inr (by omega)) | (exact Or.inl (by omega)) | (show (0 : Int) ≤ _ ∧ _ ≤ (1000000 : Int) ∧ _; refine ⟨by decide, by decide, by decide⟩))
local macro_rules | `(tactic| walk_at "rv") => `(tactic| first
  | with_reducible exact rv_I0
  | ((with_reducible apply rv_I); walk_at "side")
  | ((with_reducible apply rv_eq); rfl)
  | ((with_reducible apply rv_ne); rfl)
  | ((with_reducible apply rv_ixL); (first | exact sq_of (by assumption) | exact sq_of upd_same); rfl)
  | with_reducible exact rv_isN)
local macro_rules | `(tactic| walk_at "ev") => `(tactic| first
  | ((with_reducible apply ev_var); rfl)
  | with_reducible exact ev_c
  | ((with_reducible apply ev_op); walk_at "ev"; walk_at "ev"; walk_at "rv")
  | ((with_reducible apply ev_un); walk_at "ev"; exact ru_neg)
  | ((with_reducible apply ev_chainB); walk_at "ev"; walk_at "ev"; walk_at "rv"; walk_at "ev"; walk_at "rv")
  | ((with_reducible apply ev_andB); walk_at "ev"; walk_at "ev")
  | ((with_reducible apply ev_orB); walk_at "ev"; walk_at "ev")
  | ((with_reducible apply ev_notV); walk_at "ev")
  | ((with_reducible apply ev_ifB); walk_at "et"; walk_at "ev"; walk_at "ev"))
local macro_rules | `(tactic| walk_at "ea") => `(tactic| first
  | with_reducible exact ea_nil
  | ((with_reducible apply ea_cons); walk_at "ev"; walk_at "ea"))
local macro_rules | `(tactic| walk_at "et") => `(tactic| first
  | ((with_reducible apply et_test); walk_at "ev")
  | ((with_reducible apply et_B); walk_at "ev")
  | ((with_reducible apply et_not); walk_at "et")
  | ((with_reducible apply et_andB); walk_at "et"; walk_at "et")
  | ((with_reducible apply et_orB); walk_at "et"; walk_at "et"))
local macro_rules | `(tactic| walk_at "kb") => `(tactic| first | exact kb_NoneType_bool | exact kb_NoneType_int | exact kb_NoneType_str | exact kb_NoneType_list | exact kb_NoneType_tuple | exact kb_bool_bool | exact kb_bool_int | exact kb_bool_str | exact kb_bool_list | exact kb_bool_tuple | exact kb_int_bool | exact kb_int_int | exact kb_int_str | exact kb_int_list | exact kb_int_tuple | exact kb_str_bool | exact kb_str_int | exact kb_str_str | exact kb_str_list | exact kb_str_tuple | exact kb_list_bool | exact kb_list_int | exact kb_list_str | exact kb_list_list | exact kb_list_tuple | exact kb_tuple_bool | exact kb_tuple_int | exact kb_tuple_str | exact kb_tuple_list | exact kb_tuple_tuple)
local macro_rules | `(tactic| walk_at "ed") => `(tactic| first
  | ((with_reducible apply ed_var); rfl; first | assumption | exact Dp.int _ | exact Dp.bl _ | exact Dp.str _ | exact Dp.non)
  | ((with_reducible apply ed_tup); walk_at "eda"; (simp only [List.length_cons, List.length_nil]; decide))
  | ((with_reducible apply ed_new); walk_at "en")
  | ((with_reducible apply ed_int); walk_at "ev")
  | ((with_reducible apply ed_bool); walk_at "ev")
  | ((with_reducible apply ed_str); walk_at "ev")
  | ((with_reducible apply ed_non); walk_at "ev"))
local macro_rules | `(tactic| walk_at "en") => `(tactic| first
  | ((with_reducible apply en_lst); walk_at "eda"; (simp only [List.length_cons, List.length_nil]; decide)))
local macro_rules | `(tactic| walk_at "eda") => `(tactic| first
  | with_reducible exact eda_nil
  | ((with_reducible apply eda_cons); walk_at "ed"; walk_at "eda"))
local macro_rules | `(tactic| walk_at "ev") => `(tactic| first
  | ((with_reducible apply ev_isi); walk_at "ed"; walk_at "kb")
  | ((with_reducible apply ev_isiT2); walk_at "ed"; walk_at "kb"; walk_at "kb")
  | ((with_reducible apply ev_eqD); walk_at "ed"; walk_at "ed"; rfl; rfl)
  | ((with_reducible apply ev_neD); walk_at "ed"; walk_at "ed"; rfl; rfl)
  | ((with_reducible apply ev_lenL); walk_at "ed")
  | ((with_reducible apply ev_lenT); walk_at "ed"))

def topS (i : Nat) : Stmt := PySem.Challenge.pw_cotide_k04_clocks_and_hours_refused.main.body.getD i (.Pass ⟨0, 0, 0, 0⟩)
abbrev s_is_clock : Stmt := topS 23
abbrev N_is_clock : List Str := ["clock"]
theorem sc_is_clock : FnScope N_is_clock ["clock"] (defScope s_is_clock) := ⟨rfl, rfl, rfl, by decide +kernel, rfl, by decide +kernel, by decide +kernel⟩
abbrev s_need_clock : Stmt := topS 24
abbrev N_need_clock : List Str := ["clock"]
theorem sc_need_clock : FnScope N_need_clock ["clock"] (defScope s_need_clock) := ⟨rfl, rfl, rfl, by decide +kernel, rfl, by decide +kernel, by decide +kernel⟩
abbrev s_need_hours : Stmt := topS 25
abbrev N_need_hours : List Str := ["clock", "hours", "hour"]
theorem sc_need_hours : FnScope N_need_hours ["clock", "hours"] (defScope s_need_hours) := ⟨rfl, rfl, rfl, by decide +kernel, rfl, by decide +kernel, by decide +kernel⟩
abbrev s_nearest_step : Stmt := topS 26
abbrev N_nearest_step : List Str := ["clock", "one", "other", "half"]
theorem sc_nearest_step : FnScope N_nearest_step ["clock", "one", "other"] (defScope s_nearest_step) := ⟨rfl, rfl, rfl, by decide +kernel, rfl, by decide +kernel, by decide +kernel⟩
abbrev s_step : Stmt := topS 27
abbrev N_step : List Str := ["clock", "one", "other"]
theorem sc_step : FnScope N_step ["clock", "one", "other"] (defScope s_step) := ⟨rfl, rfl, rfl, by decide +kernel, rfl, by decide +kernel, by decide +kernel⟩
abbrev s_after : Stmt := topS 28
abbrev N_after : List Str := ["clock", "hour", "by"]
theorem sc_after : FnScope N_after ["clock", "hour", "by"] (defScope s_after) := ⟨rfl, rfl, rfl, by decide +kernel, rfl, by decide +kernel, by decide +kernel⟩
abbrev s_rounds : Stmt := topS 29
abbrev N_rounds : List Str := ["clock", "hours", "total", "at", "hour"]
theorem sc_rounds : FnScope N_rounds ["clock", "hours"] (defScope s_rounds) := ⟨rfl, rfl, rfl, by decide +kernel, rfl, by decide +kernel, by decide +kernel⟩
abbrev s_law_box : Stmt := topS 31
abbrev N_law_box : List Str := ["_law_script", "_law_seed", "_law_cell"]
theorem sc_law_box : FnScope N_law_box ["_law_script"] (defScope s_law_box) := ⟨rfl, rfl, rfl, by decide +kernel, rfl, by decide +kernel, by decide +kernel⟩
abbrev s_law_mixed : Stmt := topS 32
abbrev N_law_mixed : List Str := ["_law_number_here", "_law_turn", "_law_base", "_law_more"]
theorem sc_law_mixed : FnScope N_law_mixed ["_law_number_here", "_law_turn"] (defScope s_law_mixed) := ⟨rfl, rfl, rfl, by decide +kernel, rfl, by decide +kernel, by decide +kernel⟩
abbrev s_law_take : Stmt := topS 33
abbrev N_law_take : List Str := ["_law_box_here", "_law_many", "_law_rest", "_law_cell"]
theorem sc_law_take : FnScope N_law_take ["_law_box_here", "_law_many"] (defScope s_law_take) := ⟨rfl, rfl, rfl, by decide +kernel, rfl, by decide +kernel, by decide +kernel⟩
abbrev s_law_clock : Stmt := topS 34
abbrev N_law_clock : List Str := ["_law_box_here"]
theorem sc_law_clock : FnScope N_law_clock ["_law_box_here"] (defScope s_law_clock) := ⟨rfl, rfl, rfl, by decide +kernel, rfl, by decide +kernel, by decide +kernel⟩
abbrev s_law_number : Stmt := topS 35
abbrev N_law_number : List Str := ["_law_box_here"]
theorem sc_law_number : FnScope N_law_number ["_law_box_here"] (defScope s_law_number) := ⟨rfl, rfl, rfl, by decide +kernel, rfl, by decide +kernel, by decide +kernel⟩
abbrev s_law_word : Stmt := topS 36
abbrev N_law_word : List Str := ["_law_ask", "_law_e"]
theorem sc_law_word : FnScope N_law_word ["_law_ask"] (defScope s_law_word) := ⟨rfl, rfl, rfl, by decide +kernel, rfl, by decide +kernel, by decide +kernel⟩
abbrev s_law_kind : Stmt := topS 37
abbrev N_law_kind : List Str := ["_law_e", "_law_rows", "_law_name", "_law_so"]
theorem sc_law_kind : FnScope N_law_kind ["_law_e"] (defScope s_law_kind) := ⟨rfl, rfl, rfl, by decide +kernel, rfl, by decide +kernel, by decide +kernel⟩
abbrev s_law : Stmt := topS 38
abbrev N_law : List Str := ["_law_script", "_law_box_here", "_law_k", "_law_clock_here", "_law_good", "_law_one", "_law_other", "_law_bad", "_law_due", "_law_found"]
theorem sc_law : FnScope N_law ["_law_script"] (defScope s_law) := ⟨rfl, rfl, rfl, by decide +kernel, rfl, by decide +kernel, by decide +kernel⟩
structure Tx (K : PySem.W.Frag) (mg : Str → Option Value) where
  a_is_clock : Addr
  d_is_clock : FuncData
  F_is_clock : Fun K "is_clock" "is_clock" s_is_clock a_is_clock d_is_clock
  g_is_clock : mg "is_clock" = some (.ref a_is_clock)
  b_is_clock : Binds K d_is_clock ["clock"] []
  a_need_clock : Addr
  d_need_clock : FuncData
  F_need_clock : Fun K "need_clock" "need_clock" s_need_clock a_need_clock d_need_clock
  g_need_clock : mg "need_clock" = some (.ref a_need_clock)
  b_need_clock : Binds K d_need_clock ["clock"] []
  a_need_hours : Addr
  d_need_hours : FuncData
  F_need_hours : Fun K "need_hours" "need_hours" s_need_hours a_need_hours d_need_hours
  g_need_hours : mg "need_hours" = some (.ref a_need_hours)
  b_need_hours : Binds K d_need_hours ["clock", "hours"] []
  a_nearest_step : Addr
  d_nearest_step : FuncData
  F_nearest_step : Fun K "nearest_step" "nearest_step" s_nearest_step a_nearest_step d_nearest_step
  g_nearest_step : mg "nearest_step" = some (.ref a_nearest_step)
  b_nearest_step : Binds K d_nearest_step ["clock", "one", "other"] []
  a_step : Addr
  d_step : FuncData
  F_step : Fun K "step" "step" s_step a_step d_step
  g_step : mg "step" = some (.ref a_step)
  b_step : Binds K d_step ["clock", "one", "other"] []
  a_after : Addr
  d_after : FuncData
  F_after : FunD K "after" "after" (defArgs s_after) (defBody s_after) (defScope s_after) [.int (1)] [] a_after d_after
  g_after : mg "after" = some (.ref a_after)
  b_after : Binds K d_after ["clock", "hour", "by"] []
  a_rounds : Addr
  d_rounds : FuncData
  F_rounds : Fun K "rounds" "rounds" s_rounds a_rounds d_rounds
  g_rounds : mg "rounds" = some (.ref a_rounds)
  b_rounds : Binds K d_rounds ["clock", "hours"] []
  a_law_box : Addr
  d_law_box : FuncData
  F_law_box : Fun K "_law_box" "_law_box" s_law_box a_law_box d_law_box
  g_law_box : mg "_law_box" = some (.ref a_law_box)
  b_law_box : Binds K d_law_box ["_law_script"] []
  a_law_mixed : Addr
  d_law_mixed : FuncData
  F_law_mixed : Fun K "_law_mixed" "_law_mixed" s_law_mixed a_law_mixed d_law_mixed
  g_law_mixed : mg "_law_mixed" = some (.ref a_law_mixed)
  b_law_mixed : Binds K d_law_mixed ["_law_number_here", "_law_turn"] []
  a_law_take : Addr
  d_law_take : FuncData
  F_law_take : Fun K "_law_take" "_law_take" s_law_take a_law_take d_law_take
  g_law_take : mg "_law_take" = some (.ref a_law_take)
  b_law_take : Binds K d_law_take ["_law_box_here", "_law_many"] []
  a_law_clock : Addr
  d_law_clock : FuncData
  F_law_clock : Fun K "_law_clock" "_law_clock" s_law_clock a_law_clock d_law_clock
  g_law_clock : mg "_law_clock" = some (.ref a_law_clock)
  b_law_clock : Binds K d_law_clock ["_law_box_here"] []
  a_law_number : Addr
  d_law_number : FuncData
  F_law_number : Fun K "_law_number" "_law_number" s_law_number a_law_number d_law_number
  g_law_number : mg "_law_number" = some (.ref a_law_number)
  b_law_number : Binds K d_law_number ["_law_box_here"] []
  a_law_word : Addr
  d_law_word : FuncData
  F_law_word : Fun K "_law_word" "_law_word" s_law_word a_law_word d_law_word
  g_law_word : mg "_law_word" = some (.ref a_law_word)
  b_law_word : Binds K d_law_word ["_law_ask"] []
  a_law_kind : Addr
  d_law_kind : FuncData
  F_law_kind : Fun K "_law_kind" "_law_kind" s_law_kind a_law_kind d_law_kind
  g_law_kind : mg "_law_kind" = some (.ref a_law_kind)
  b_law_kind : Binds K d_law_kind ["_law_e"] []
  a_law : Addr
  d_law : FuncData
  F_law : Fun K "law" "law" s_law a_law d_law
  g_law : mg "law" = some (.ref a_law)
  b_law : Binds K d_law ["_law_script"] []
  t_LEAST_HOURS : Tok
  c_LEAST_HOURS : mg "LEAST_HOURS" = some (.int (3) t_LEAST_HOURS)
  t_MOST_HOURS : Tok
  c_MOST_HOURS : mg "MOST_HOURS" = some (.int (15) t_MOST_HOURS)
  n_ValueError : mg "ValueError" = none
  n_enumerate : mg "enumerate" = none
  n_int : mg "int" = none
  n_isinstance : mg "isinstance" = none
  n_len : mg "len" = none
  n_list : mg "list" = none
  n_range : mg "range" = none
  n_sum : mg "sum" = none
  a_TideError : Addr
  a_BadClock : Addr
  a_BadHour : Addr
  a_BadChart : Addr
  a_BadSquare : Addr
  a_BadRing : Addr
  a_BadBreaks : Addr
  a_BadPrices : Addr
  a_NoFill : Addr
  a_Unlike : Addr
  a_BadName : Addr
  a_Taken : Addr
  a_Full : Addr
  a_NoChart : Addr
  a_BadDay : Addr
  a_BadDeed : Addr
  a_NothingLeft : Addr
  a_Knotted : Addr
  a_BadText : Addr
  x_TideError : ExB K mg "TideError" a_TideError
  x_BadClock : ExB K mg "BadClock" a_BadClock
  x_BadHour : ExB K mg "BadHour" a_BadHour
  x_BadChart : ExB K mg "BadChart" a_BadChart
  x_BadSquare : ExB K mg "BadSquare" a_BadSquare
  x_BadRing : ExB K mg "BadRing" a_BadRing
  x_BadBreaks : ExB K mg "BadBreaks" a_BadBreaks
  x_BadPrices : ExB K mg "BadPrices" a_BadPrices
  x_NoFill : ExB K mg "NoFill" a_NoFill
  x_Unlike : ExB K mg "Unlike" a_Unlike
  x_BadName : ExB K mg "BadName" a_BadName
  x_Taken : ExB K mg "Taken" a_Taken
  x_Full : ExB K mg "Full" a_Full
  x_NoChart : ExB K mg "NoChart" a_NoChart
  x_BadDay : ExB K mg "BadDay" a_BadDay
  x_BadDeed : ExB K mg "BadDeed" a_BadDeed
  x_NothingLeft : ExB K mg "NothingLeft" a_NothingLeft
  x_Knotted : ExB K mg "Knotted" a_Knotted
  x_BadText : ExB K mg "BadText" a_BadText
  X_BadClock : Exn K mg "BadClock" a_BadClock
  e_BadClock : ExcC K a_BadClock
  k_BadClock : KRow K a_BadClock [.ref a_BadClock, .ref a_BadHour, .ref a_BadChart, .ref a_BadSquare, .ref a_BadRing, .ref a_BadBreaks, .ref a_BadPrices, .ref a_NoFill, .ref a_Unlike, .ref a_BadName, .ref a_Taken, .ref a_Full, .ref a_NoChart, .ref a_BadDay, .ref a_BadDeed, .ref a_NothingLeft, .ref a_Knotted, .ref a_BadText, .type "ValueError"] [true, false, false, false, false, false, false, false, false, false, false, false, false, false, false, false, false, false, true]
  m_BadClock : PySem.W.exmOne K (.ref a_BadClock) (.ref a_TideError) = some true
  X_BadHour : Exn K mg "BadHour" a_BadHour
  e_BadHour : ExcC K a_BadHour
  k_BadHour : KRow K a_BadHour [.ref a_BadClock, .ref a_BadHour, .ref a_BadChart, .ref a_BadSquare, .ref a_BadRing, .ref a_BadBreaks, .ref a_BadPrices, .ref a_NoFill, .ref a_Unlike, .ref a_BadName, .ref a_Taken, .ref a_Full, .ref a_NoChart, .ref a_BadDay, .ref a_BadDeed, .ref a_NothingLeft, .ref a_Knotted, .ref a_BadText, .type "ValueError"] [false, true, false, false, false, false, false, false, false, false, false, false, false, false, false, false, false, false, true]
  m_BadHour : PySem.W.exmOne K (.ref a_BadHour) (.ref a_TideError) = some true
section
variable {P : Program} {w : World} {K : PySem.W.Frag} {mg : Str → Option Value} {base : Heap}
/-! ### cotide.hours -/
def isClock (c : Int) : Bool := decide (3 ≤ c) && decide (c ≤ 15) && decide (c % 2 = 1)
theorem isClock_iff {c : Int} : isClock c = true ↔ 3 ≤ c ∧ c ≤ 15 ∧ c % 2 = 1 := by
  unfold isClock
  simp only [Bool.and_eq_true, decide_eq_true_eq, and_assoc]
def R_is_clock (vs : List V) (v : V) : Prop := ∃ c, vs = [.int c] ∧ v = .bl (isClock c)
theorem ok_is_clock (T : Tx K mg) : FnOk P w K mg base CX0 1 T.a_is_clock T.d_is_clock ["clock"] (spS R_is_clock) := by
  refine T.F_is_clock.ok sc_is_clock (fun vs H Q E h => ?_) (fun cdv A outer s H vs Q E hr h => ?_)
  · obtain ⟨v, ⟨c, rfl, rfl⟩, q⟩ := h
    rfl
  · obtain ⟨v, ⟨c, rfl, rfl⟩, q⟩ := h
    refine ⟨_, (pss_cons (ps_ret (pe_and (pe_chain op_le op_le (pe_glob (v := .int (3)) rfl T.c_LEAST_HOURS ⟨_, rfl⟩) (pv 0) (pe_glob (v := .int (15)) rfl T.c_MOST_HOURS ⟨_, rfl⟩)) (pe_one (pe_cmpR op_eq (pe_op op_mod (pv 0) pe_int) pe_int (nomark _)))))
      pss_nil), Go.go ?_⟩
    apply go_retE (k := q)
    · walk_at "ev"
    · unfold isClock
      simp only [V.int.injEq]
theorem ev_is_clock {σ : L2.St} {H : Hp} {E : XK} {tr : TA} {c : Int} (h : EvA tr σ H [.int c]) : Ev (tCall (spS R_is_clock) [] E tr) σ H (.bl (isClock c)) := ev_callS h ⟨c, rfl, rfl⟩
local macro_rules | `(tactic| walk_at "ev") => `(tactic| ((with_reducible apply ev_is_clock); walk_at "ea"))

def R_need_clock (vs : List V) (v : V) : Prop := ∃ c, vs = [.int c] ∧ v = .non ∧ isClock c = true
theorem ok_need_clock (T : Tx K mg) : FnOk P w K mg base CX0 2 T.a_need_clock T.d_need_clock ["clock"] (spS R_need_clock) := by
  refine T.F_need_clock.ok sc_need_clock (fun vs H Q E h => ?_) (fun cdv A outer s H vs Q E hr h => ?_)
  · obtain ⟨v, ⟨c, rfl, rfl, hc⟩, q⟩ := h
    rfl
  · obtain ⟨v, ⟨c, rfl, rfl, hc⟩, q⟩ := h
    refine ⟨_, (pss_cons (ps_if (pt_not (pt_val (pe_call (ok_is_clock T) (hr.mono (by omega)) (by rfl) T.g_is_clock T.F_is_clock.kp T.b_is_clock .nil pass0 (pa_cons (pv 0) pa_nil)))) (pss_cons ps_never
      pss_nil) pss_nil)
      pss_nil), Go.go ?_⟩
    apply go_when
    · walk_at "et"
    · intro e
      rw [hc] at e
      cases e
    · intro _
      exact go_next q
theorem ev_need_clock {σ : L2.St} {H : Hp} {E : XK} {tr : TA} {c : Int} (h : EvA tr σ H [.int c]) (hc : isClock c = true) : Ev (tCall (spS R_need_clock) [] E tr) σ H .non := ev_callS h ⟨c, rfl, rfl, hc⟩
/-- the hours at a list, all of the clock -/
def spHours (K : PySem.W.Frag) : Sp := fun vs H Q _ => ∃ (c : Int) (a : Addr) (hs : List Int), vs = [.int c, .ref a] ∧ SqL K H a (hs.map V.int) ∧ (∀ h ∈ hs, 0 ≤ h ∧ h < c) ∧ ∀ H2, Ex H H2 → Q .non H2
theorem ok_need_hours (T : Tx K mg) : FnOk P w K mg base CX0 1 T.a_need_hours T.d_need_hours ["clock", "hours"] (spHours K) := by
  refine T.F_need_hours.ok sc_need_hours (fun vs H Q E h => ?_) (fun cdv A outer s H vs Q E hr h => ?_)
  · obtain ⟨c, a, hs, rfl, _⟩ := h
    rfl
  · obtain ⟨c, a, hs, rfl, hL, hc, q⟩ := h
    refine ⟨_, (pss_cons (ps_for PassesOwn.never rfl (pi_list (pv 1)) (pg_name (i := 2) sc_need_hours.nd rfl (.inl rfl)) (pss_cons (ps_if (pt_not (pt_chain op_le op_lt pe_int (pv 2) (pv 0))) (pss_cons ps_never
      pss_nil) pss_nil)
      pss_nil))
      pss_nil), ?_⟩
    refine q_forLn (K := K) (a := a) (xs := hs.map V.int) (ev_var rfl) hL (fun i σ H' => Ex H H' ∧ ∃ x, σ = [some (.int c), some (.ref a), x]) (fun H1 e1 => ⟨e1, none, rfl⟩) (fun i σ' H' _ p => ex_l p.1 hL) (fun i x σ' H' hx p => ?_) (fun σ' H' p => q H' p.1)
    obtain ⟨e1, x0, rfl⟩ := p
    rw [List.getElem?_map] at hx
    cases hh : hs[i]? with
    | none => rw [hh] at hx; cases hx
    | some y =>
      rw [hh] at hx
      cases hx
      have hy := hc y (List.mem_of_getElem? hh)
      refine Go.go ?_
      apply go_when
      · walk_at "et"
      · intro e
        rw [decide_eq_true hy.1, decide_eq_true hy.2] at e
        cases e
      · intro _
        exact go_next fun H2 e2 => ⟨e1.trans e2, some (.int y), rfl⟩
def nstep (c a b : Int) : Int := (b - a + c / 2) % c - c / 2
def R_nearest_step (vs : List V) (v : V) : Prop := ∃ c a b, vs = [.int c, .int a, .int b] ∧ v = .int (nstep c a b) ∧ 0 < c
theorem ok_nearest_step (T : Tx K mg) : FnOk P w K mg base CX0 1 T.a_nearest_step T.d_nearest_step ["clock", "one", "other"] (spS R_nearest_step) := by
  refine T.F_nearest_step.ok sc_nearest_step (fun vs H Q E h => ?_) (fun cdv A outer s H vs Q E hr h => ?_)
  · obtain ⟨v, ⟨c, a, b, rfl, rfl, hc⟩, q⟩ := h
    rfl
  · obtain ⟨v, ⟨c, a, b, rfl, rfl, hc⟩, q⟩ := h
    refine ⟨_, (pss_cons (ps_set (i := 3) sc_nearest_step.nd rfl (.inl rfl) (pe_op op_fdiv (pv 0) pe_int))
      (pss_cons (ps_ret (pe_op op_sub (pe_op op_mod (pe_op op_add (pe_op op_sub (pv 2) (pv 1)) (pv 3)) (pv 0)) (pv 3)))
      pss_nil)), Go.go ?_⟩
    apply go_asg
    · walk_at "ev"
    apply go_retE (k := q)
    · walk_at "ev"
    · rfl
theorem ev_nearest_step {σ : L2.St} {H : Hp} {E : XK} {tr : TA} {c a b : Int} (h : EvA tr σ H [.int c, .int a, .int b]) (hc : 0 < c) : Ev (tCall (spS R_nearest_step) [] E tr) σ H (.int (nstep c a b)) := ev_callS h ⟨c, a, b, rfl, rfl, hc⟩
theorem nstep_spec {c a b : Int} (hc : isClock c = true) : -c < 2 * nstep c a b ∧ 2 * nstep c a b < c ∧ (a + nstep c a b - b) % c = 0 := by
  have h := isClock_iff.mp hc
  unfold nstep
  have h1 := Int.emod_nonneg (b - a + c / 2) (show c ≠ 0 by omega)
  have h2 := Int.emod_lt_of_pos (b - a + c / 2) (show 0 < c by omega)
  have h3 := Int.mul_ediv_add_emod (b - a + c / 2) c
  refine ⟨by omega, by omega, ?_⟩
  have e : a + ((b - a + c / 2) % c - c / 2) - b = -(c * ((b - a + c / 2) / c)) := by omega
  rw [e, Int.neg_emod_eq_sub_emod]
  simp
theorem dvd_small {c x : Int} (h : x % c = 0) (h1 : -c < x) (h2 : x < c) : x = 0 := Int.eq_zero_of_dvd_of_natAbs_lt_natAbs (Int.dvd_of_emod_eq_zero h) (by omega)
theorem nstep_neg {c a b : Int} (hc : isClock c = true) : nstep c b a = -nstep c a b := by
  have h1 := nstep_spec (a := a) (b := b) hc
  have h2 := nstep_spec (a := b) (b := a) hc
  have e : (nstep c a b + nstep c b a) % c = 0 := by
    have e2 : nstep c a b + nstep c b a = (a + nstep c a b - b) + (b + nstep c b a - a) := by omega
    rw [e2, Int.add_emod, h1.2.2, h2.2.2]
    simp
  have := dvd_small e (by omega) (by omega)
  omega
theorem nstep_zero {c a b : Int} (hc : isClock c = true) (ha : 0 ≤ a ∧ a < c) (hb : 0 ≤ b ∧ b < c) : decide (nstep c a b = 0) = decide (a = b) := by
  have h1 := nstep_spec (a := a) (b := b) hc
  have h0 := isClock_iff.mp hc
  by_cases e : a = b
  · subst e
    have : nstep c a a = 0 := by
      refine dvd_small (c := c) ?_ (by omega) (by omega)
      have e2 : a + nstep c a a - a = nstep c a a := by omega
      rw [← e2]
      exact h1.2.2
    rw [this]
    simp
  · have : nstep c a b ≠ 0 := by
      intro z
      rw [z] at h1
      have := dvd_small h1.2.2 (by omega) (by omega)
      omega
    rw [decide_eq_false this, decide_eq_false e]

/-! ### rounds -/
theorem atI_map {α β : Type} (f : α → β) (xs : List α) (i : Int) : atI (xs.map f) i = (atI xs i).map f := by
  unfold atI
  rw [List.length_map]
  cases ixN xs.length i with
  | none => rfl
  | some j =>
    show (xs.map f)[j]? = (xs[j]?).map f
    rw [List.getElem?_map]
theorem atI_prev {hs : List Int} {i : Nat} (h : i < hs.length) : ∃ x, atI hs ((i : Int) - 1) = some x ∧ x ∈ hs ∧ x = (if i = 0 then hs.getLast?.getD 0 else (hs[i - 1]?).getD 0) := by
  unfold atI ixN
  by_cases h0 : i = 0
  · subst h0
    have e1 : ¬ (0 : Int) ≤ ((0 : Nat) : Int) - 1 := by omega
    rw [if_neg e1, if_pos (show -(hs.length : Int) ≤ ((0 : Nat) : Int) - 1 by omega)]
    have e2 : ((hs.length : Int) + (((0 : Nat) : Int) - 1)).toNat = hs.length - 1 := by omega
    first
      | (show ∃ x, hs[((hs.length : Int) + (((0 : Nat) : Int) - 1)).toNat]? = some x ∧ _
         rw [e2])
      | skip
    refine ⟨hs[hs.length - 1], ?_, List.getElem_mem _, ?_⟩
    · show hs[_]? = _
      rw [List.getElem?_eq_getElem (by omega)]
    · rw [if_pos rfl, List.getLast?_eq_getElem?, List.getElem?_eq_getElem (by omega)]
      rfl
  · rw [if_pos (show (0 : Int) ≤ (i : Int) - 1 by omega), if_pos (show (i : Int) - 1 < (hs.length : Int) by omega)]
    have e2 : ((i : Int) - 1).toNat = i - 1 := by omega
    refine ⟨hs[i - 1], ?_, List.getElem_mem _, ?_⟩
    · show hs[((i : Int) - 1).toNat]? = _
      rw [e2, List.getElem?_eq_getElem (by omega)]
    · rw [if_neg h0, List.getElem?_eq_getElem (by omega)]
      rfl
/-- the steps from x on, along the hours -/
def chain (c : Int) : Int → List Int → Int
  | _, [] => 0
  | x, y :: r => nstep c x y + chain c y r
def ringSum (c : Int) (hs : List Int) : Int := chain c (hs.getLast?.getD 0) hs
def stepAt (c : Int) (x0 : Int) (hs : List Int) (i : Nat) : Int := nstep c (if i = 0 then x0 else (hs[i - 1]?).getD 0) ((hs[i]?).getD 0)
theorem sum_steps (c : Int) : ∀ (hs : List Int) (x0 : Int), ((List.range hs.length).map (stepAt c x0 hs)).sum = chain c x0 hs
  | [], _ => rfl
  | y :: r, x0 => by
    rw [List.length_cons, List.range_succ_eq_map, List.map_cons, List.sum_cons, List.map_map]
    have e : (stepAt c x0 (y :: r) ∘ Nat.succ) = stepAt c y r := by
      funext i
      show nstep c (if i + 1 = 0 then x0 else ((y :: r)[i + 1 - 1]?).getD 0) (((y :: r)[i + 1]?).getD 0) = _
      unfold stepAt
      rw [if_neg (by omega)]
      cases i with
      | zero => rfl
      | succ i => rfl
    rw [e, sum_steps c r y]
    rfl
def spRounds (K : PySem.W.Frag) : Sp := fun vs H Q _ => ∃ (c : Int) (v : V) (hs : List Int), vs = [.int c, v] ∧ Dp K H v (.list (hs.map .int)) ∧ isClock c = true ∧ (∀ h ∈ hs, 0 ≤ h ∧ h < c) ∧ hs.length ≤ 40000 ∧ ∀ H2, Ex H H2 → Q (.int (ringSum c hs / c)) H2
theorem ok_rounds (T : Tx K mg) : FnOk P w K mg base CX0 3 T.a_rounds T.d_rounds ["clock", "hours"] (spRounds K) := by
  refine T.F_rounds.ok sc_rounds (fun vs H Q E h => ?_) (fun cdv A outer s H vs Q E hr h => ?_)
  · obtain ⟨c, v, hs, rfl, _⟩ := h
    rfl
  · obtain ⟨c, v, hs, rfl, hv, hc, hh, hl, q⟩ := h
    have h0 := isClock_iff.mp hc
    obtain ⟨a, xs, rfl, hS, hA⟩ : ∃ a xs, v = .ref a ∧ SqL K H a xs ∧ DpAll K H xs (hs.map .int) := by
      cases hv with
      | lst h1 h2 => exact ⟨_, _, rfl, h1, h2⟩
    have ex := dpa_ints_inv hA
    subst ex
    refine ⟨_, (pss_cons (ps_expr (pe_call (ok_need_clock T) (hr.mono (by omega)) (by rfl) T.g_need_clock T.F_need_clock.kp T.b_need_clock .nil pass0 (pa_cons (pv 0) pa_nil)))
      (pss_cons (ps_expr (pe_call (ok_need_hours T) (hr.mono (by omega)) (by rfl) T.g_need_hours T.F_need_hours.kp T.b_need_hours .nil pass0 (pa_cons (pv 0) (pa_cons (pv 1) pa_nil))))
      (pss_cons (ps_set (i := 2) sc_rounds.nd rfl (.inl rfl) (pe_callB (r := rSum K) (cr_sum rfl) (by rfl) T.n_sum (by decide +kernel) (pa_cons (pe_lc (own := [("at", 3), ("hour", 4)]) (g := (gTup K 2 (gCons (gName 3) (gCons (gName 4) gNil)))) (by rfl) sc_rounds.nd (pi_enum (by rfl) T.n_enumerate (pa_cons (pv 1) pa_nil)) (blkOk_by (own := [("at", 3), ("hour", 4)]) (N := N_rounds) (sc := defScope s_rounds) (by decide +kernel)) (fun _ _ _ _ _ => (pg_tup rfl (pgs_cons (pg_name (i := 3) sc_rounds.nd rfl (.inl rfl) (hf := .inr rfl)) (pgs_cons (pg_name (i := 4) sc_rounds.nd rfl (.inl rfl) (hf := .inr rfl)) pgs_nil)))) (fun _ _ _ _ _ => pts_nil) (fun _ _ _ _ _ => (pe_call (ok_nearest_step T) (hr.mono (by omega)) (by rfl) T.g_nearest_step T.F_nearest_step.kp T.b_nearest_step .nil pass0 (pa_cons (pv 0) (pa_cons (pe_ix (r := rIxL K) ix_list (pv 1) (pe_op op_sub (pv 3) pe_int) (fun _ _ => rfl)) (pa_cons (pv 4) pa_nil)))))) pa_nil)))
      (pss_cons (ps_ret (pe_op op_fdiv (pv 2) (pv 0)))
      pss_nil)))), Go.go ?_⟩
    apply go_drop
    · exact ev_need_clock (by walk_at "ea") hc
    apply go_drop (v := .non)
    · intro H1 e1 Q1 q1
      exact ⟨_, rfl, _, rfl, c, a, hs, rfl, ex_l e1 hS, hh, fun H2 e2 => q1 H2 e2⟩
    apply go_asg (v := .int (ringSum c hs))
    · refine ev_is (ev_sum (K := K) (bs := (List.range hs.length).map (stepAt c (hs.getLast?.getD 0) hs)) ?_) (by rw [sum_steps]; rfl)
      rw [List.map_map, ← List.length_map (f := PyData.int) (as := hs), ← givenD_all]
      refine ed_new (en_lc (ei_enum (K := K) (ds := hs.map .int) (by walk_at "eda")) (by rw [List.length_map]; exact hl) (fun _ => true) _ ?_)
      rintro i σ2 Hn hi e ⟨v, v2, d, d2, h1, h2, h3, h4, rfl⟩
      rw [List.length_map] at hi
      cases h1
      cases h3
      replace h2 : (hs.map PyData.int)[i]? = some d2 := h2
      rw [List.getElem?_map, List.getElem?_eq_getElem hi] at h2
      cases h2
      cases h4
      refine ⟨rfl, et_yes, fun _ => ?_⟩
      obtain ⟨x, hx, _, ex⟩ := atI_prev hi
      refine ed_int (ev_is (ev_nearest_step (a := x) (b := hs[i]) (c := c) ?_ (by omega)) ?_)
      · refine ea_cons (ev_var rfl) (ea_cons (ev_op (ev_var rfl) (by walk_at "ev") (rv_ixL (K := K) (ex_l e hS) (by rw [atI_map, hx]; rfl))) (ea_cons (ev_var rfl) ea_nil))
      · show V.int _ = V.int (stepAt c (hs.getLast?.getD 0) hs i)
        unfold stepAt
        rw [← ex, List.getElem?_eq_getElem hi]
        rfl
    apply go_retE (k := q)
    · walk_at "ev"
    · rfl
theorem ev_rounds {σ : L2.St} {Hd : Hp} {E : XK} {tr : TA} {c : Int} {hs : List Int} (h : EvDA K tr σ Hd [.int c, .list (hs.map .int)]) (hc : isClock c = true) (hh : ∀ h ∈ hs, 0 ≤ h ∧ h < c) (hl : hs.length ≤ 40000) : Ev (tCall (spRounds K) [] E tr) σ Hd (.int (ringSum c hs / c)) := fun H s Q q =>
  h H s _ fun vs H2 Hn g hd => by
    cases hd with
    | cons h1 h2 =>
      cases h2 with
      | cons h2 h3 =>
        cases h3
        cases h1
        exact ⟨c, _, hs, rfl, dp_mono g.sub _ h2, hc, hh, hl, fun H3 e3 => q H3 (g.ex.trans e3)⟩
/-! the mathematics of rings of hours -/
theorem chain_app (c : Int) : ∀ (l1 l2 : List Int) (x : Int), chain c x (l1 ++ l2) = chain c x l1 + chain c (l1.getLast?.getD x) l2
  | [], l2, x => by simp [chain]
  | y :: r, l2, x => by
    show nstep c x y + chain c y (r ++ l2) = nstep c x y + chain c y r + _
    rw [chain_app c r l2 y]
    have e : (y :: r).getLast?.getD x = r.getLast?.getD y := by
      cases r with
      | nil => rfl
      | cons z t => simp [List.getLast?_cons_cons, List.getLast?_cons]
    rw [e]
    omega
theorem last_app {l1 l2 : List Int} (h : l2 ≠ []) (x : Int) : (l1 ++ l2).getLast?.getD x = l2.getLast?.getD x := by
  rw [List.getLast?_append]
  cases e : l2.getLast? with
  | none => exact absurd (List.getLast?_eq_none_iff.mp e) h
  | some z => rfl
theorem last_any {l : List Int} (h : l ≠ []) (x y : Int) : l.getLast?.getD x = l.getLast?.getD y := by
  cases e : l.getLast? with
  | none => exact absurd (List.getLast?_eq_none_iff.mp e) h
  | some z => rfl
theorem ring_two {c : Int} {l1 l2 : List Int} (h1 : l1 ≠ []) (h2 : l2 ≠ []) : ringSum c (l1 ++ l2) = chain c (l2.getLast?.getD 0) l1 + chain c (l1.getLast?.getD 0) l2 := by
  unfold ringSum
  rw [last_app h2, chain_app, last_any h1 _ 0]
theorem ring_turn {c : Int} (l1 l2 : List Int) : ringSum c (l2 ++ l1) = ringSum c (l1 ++ l2) := by
  by_cases h1 : l1 = []
  · subst h1; simp
  by_cases h2 : l2 = []
  · subst h2; simp
  rw [ring_two h1 h2, ring_two h2 h1]
  omega
theorem ring_twice {c : Int} (l : List Int) : ringSum c (l ++ l) = 2 * ringSum c l := by
  by_cases h : l = []
  · subst h; simp [ringSum, chain]
  rw [ring_two h h]
  show _ = 2 * chain c _ l
  omega
theorem chain_mod {c : Int} (hc : isClock c = true) : ∀ (l : List Int) (x : Int), (x + chain c x l - l.getLast?.getD x) % c = 0
  | [], x => by simp [chain]
  | y :: r, x => by
    have ih := chain_mod hc r y
    have h := (nstep_spec (a := x) (b := y) hc).2.2
    have e : (y :: r).getLast?.getD x = r.getLast?.getD y := by
      cases r with
      | nil => rfl
      | cons z t => simp [List.getLast?_cons_cons, List.getLast?_cons]
    rw [e]
    show (x + (nstep c x y + chain c y r) - _) % c = 0
    have e2 : x + (nstep c x y + chain c y r) - r.getLast?.getD y = (x + nstep c x y - y) + (y + chain c y r - r.getLast?.getD y) := by omega
    rw [e2, Int.add_emod, h, ih]
    simp
theorem ring_mod {c : Int} (hc : isClock c = true) (l : List Int) : ringSum c l % c = 0 := by
  by_cases h : l = []
  · subst h; simp [ringSum, chain]
  have := chain_mod hc l (l.getLast?.getD 0)
  rw [last_any h (l.getLast?.getD 0) 0] at this
  have e : l.getLast?.getD 0 + chain c (l.getLast?.getD 0) l - l.getLast?.getD 0 = ringSum c l := by
    unfold ringSum
    omega
  rw [e] at this
  exact this
/-- the steps along a path there and back -/
theorem chain_rev {c : Int} (hc : isClock c = true) : ∀ (l : List Int) (x y : Int), chain c y (l.reverse ++ [x]) = -chain c x (l ++ [y])
  | [], x, y => by
    show nstep c y x + 0 = -(nstep c x y + 0)
    rw [nstep_neg (a := x) (b := y) hc]
    omega
  | z :: r, x, y => by
    rw [List.reverse_cons, List.append_assoc, List.singleton_append]
    show chain c y (r.reverse ++ (z :: [x])) = -(nstep c x z + chain c z (r ++ [y]))
    have ih := chain_rev hc r z y
    have e1 : r.reverse ++ (z :: [x]) = (r.reverse ++ [z]) ++ [x] := by simp
    rw [e1, chain_app, ih]
    have e2 : (r.reverse ++ [z]).getLast?.getD y = z := by simp
    rw [e2]
    show _ + (nstep c z x + 0) = _
    rw [nstep_neg (a := x) (b := z) hc]
    omega
theorem ring_rev {c : Int} (hc : isClock c = true) (l : List Int) : ringSum c l.reverse = -ringSum c l := by
  cases l with
  | nil => rfl
  | cons h t =>
    by_cases ht : t = []
    · subst ht
      show nstep c h h + 0 = -(nstep c h h + 0)
      have := nstep_neg (a := h) (b := h) hc
      omega
    · obtain ⟨m, z, rfl⟩ : ∃ m z, t = m ++ [z] := ⟨t.dropLast, t.getLast ht, (List.dropLast_concat_getLast ht).symm⟩
      have e1 : (h :: (m ++ [z])).getLast?.getD 0 = z := by rw [← List.cons_append, List.getLast?_concat]; rfl
      have e2 : (h :: (m ++ [z])).reverse = z :: (m.reverse ++ [h]) := by simp
      have e3 : (z :: (m.reverse ++ [h])).getLast?.getD 0 = h := by rw [← List.cons_append, List.getLast?_concat]; rfl
      unfold ringSum
      rw [e2, e1, e3]
      show nstep c h z + chain c z (m.reverse ++ [h]) = -(nstep c z h + chain c h (m ++ [z]))
      rw [chain_rev hc m h z, nstep_neg (a := z) (b := h) hc]
      omega

def RX_clock (ds : List PyData) (d : PyData) : Prop := ∃ c, ds = [.int c] ∧ d = .none ∧ isClock c = true
def XX_clock (T : Tx K mg) (ds : List PyData) (C : Addr) : Prop := ∃ c, ds = [.int c] ∧ C = T.a_BadClock ∧ isClock c = false
theorem okX_need_clock (T : Tx K mg) : FnOk P w K mg base (L2N.CX P w) 2 T.a_need_clock T.d_need_clock ["clock"] (spX K RX_clock (XX_clock T)) := by
  refine okN T.F_need_clock sc_need_clock (fun vs H Q E h => ?_) (fun cdv A outer s H vs Q E hr h => ?_)
  · obtain ⟨Hd, ds, e, hd, ⟨d, ⟨c, rfl, _⟩, _⟩ | ⟨C, ⟨c, rfl, _⟩, _⟩⟩ := h <;> exact dpa_len hd
  · obtain ⟨Hd, ds, e, hd, h⟩ := h
    rcases h with ⟨d, ⟨c, rfl, rfl, hc⟩, q⟩ | ⟨C, ⟨c, rfl, rfl, hc⟩, q⟩
    · cases hd with
      | cons h1 h2 =>
        cases h2
        cases h1
        refine ⟨_, (pss_cons (ps_if (pt_not (pt_val (pe_call (ok_is_clock T) (hr.mono (by omega)) (by rfl) T.g_is_clock T.F_is_clock.kp T.b_is_clock .nil pass0 (pa_cons (pv 0) pa_nil)))) (pss_cons (L2N.ps_raise rfl (L2N.takes_of rfl rfl rfl rfl) (T.X_BadClock.pmk (by rfl)))
      pss_nil) pss_nil)
      pss_nil), Go.go ?_⟩
        apply go_when
        · walk_at "et"
        · intro z
          rw [hc] at z
          cases z
        · intro _
          exact go_next fun H2 e2 => q .non H2 Hd (Gr.ext e e2) .non
    · cases hd with
      | cons h1 h2 =>
        cases h2
        cases h1
        refine ⟨_, (pss_cons (ps_if (pt_not (pt_val (pe_call (ok_is_clock T) (hr.mono (by omega)) (by rfl) T.g_is_clock T.F_is_clock.kp T.b_is_clock .nil pass0 (pa_cons (pv 0) pa_nil)))) (pss_cons (L2N.ps_raise rfl (L2N.takes_of rfl rfl rfl rfl) (T.X_BadClock.pmk (by rfl)))
      pss_nil) pss_nil)
      pss_nil), Go.go ?_⟩
        apply go_when
        · walk_at "et"
        · intro _
          exact go_raise q
        · intro z
          rw [hc] at z
          cases z
def inClock (c : Int) (h : Int) : Bool := decide (0 ≤ h) && decide (h < c)
def RX_hours (ds : List PyData) (d : PyData) : Prop := ∃ (c : Int) (hs : List Int), ds = [.int c, .list (hs.map .int)] ∧ d = .none ∧ hs.all (inClock c) = true
def XX_hours (T : Tx K mg) (ds : List PyData) (C : Addr) : Prop := ∃ (c : Int) (hs : List Int), ds = [.int c, .list (hs.map .int)] ∧ C = T.a_BadHour ∧ hs.all (inClock c) = false
theorem hours_run (T : Tx K mg) {H Hd : Hp} {D : Ends} {E : XK} {c : Int} {a : V} {hs : List Int} {tu tz : TS} {x0 : Option V} (e : Ex Hd H) (ha : Dp K Hd a (.list (hs.map .int)))
    (turn : ∀ (i : Nat) (y : Int) (H2 : Hp) (D2 : Ends), hs[i]? = some y → (inClock c y = false → ∀ H3, Ex H2 H3 → E (.ref T.a_BadHour) none H3) → (inClock c y = true → ∀ H3, Ex H2 H3 → D2.nx [some (.int c), some a, some (.int y)] H3) → Go tu D2 [some (.int c), some a, some (.int y)] H2)
    (bad : hs.all (inClock c) = false → ∀ H2, Ex H H2 → E (.ref T.a_BadHour) none H2) (good : hs.all (inClock c) = true → ∀ σ2 H2, Ex H H2 → tz D σ2 H2) : Go (tSeq (tFor (iList K (tVar 1)) (gName 2) tu) tz) D [some (.int c), some a, x0] H := by
  refine go_for (K := K) (Hd := Hd) e (ei_list (ed_var rfl ha)) (fun Hn i σ' H' => Ex Hn H' ∧ Ex H H' ∧ (∀ j y, j < i → hs[j]? = some y → inClock c y = true) ∧ ∃ x, σ' = [some (.int c), some a, x]) (fun H' Hn g => ⟨g.sub, g.ex, fun j y hj => absurd hj (by omega), x0, rfl⟩) (fun Hn i σ' H' p => p.1) (fun Hn i σ' σ2 H' en hi p hS => ?_) (fun Hn σ' H' en p => ?_)
  · obtain ⟨p1, p2, p3, x, rfl⟩ := p
    obtain ⟨v, d, q1, q2, rfl⟩ := hS
    rw [List.getElem?_map] at q1
    cases hh : hs[i]? with
    | none => rw [hh] at q1; cases q1
    | some y =>
      rw [hh] at q1
      cases q1
      cases q2
      refine turn i y H' _ hh (fun z H3 e3 => bad ?_ H3 (p2.trans e3)) fun z H3 e3 => ⟨p1.trans e3, p2.trans e3, fun j y2 hj h2 => ?_, _, rfl⟩
      · rw [List.all_eq_false]
        exact ⟨y, List.mem_of_getElem? hh, by rw [z]; decide⟩
      · rcases Nat.lt_succ_iff_lt_or_eq.mp hj with hj | rfl
        · exact p3 j y2 hj h2
        · rw [hh] at h2
          cases h2
          exact z
  · obtain ⟨p1, p2, p3, x, rfl⟩ := p
    refine fun H2 e2 => good ?_ _ H2 (p2.trans e2)
    rw [List.all_eq_true]
    intro y hy
    obtain ⟨j, hj, rfl⟩ := List.mem_iff_getElem.mp hy
    refine p3 j _ ?_ (List.getElem?_eq_getElem hj)
    rw [List.length_map]
    exact hj
theorem okX_need_hours (T : Tx K mg) : FnOk P w K mg base (L2N.CX P w) 1 T.a_need_hours T.d_need_hours ["clock", "hours"] (spX K RX_hours (XX_hours T)) := by
  refine okN T.F_need_hours sc_need_hours (fun vs H Q E h => ?_) (fun cdv A outer s H vs Q E hr h => ?_)
  · obtain ⟨Hd, ds, e, hd, ⟨d, ⟨c, hs, rfl, _⟩, _⟩ | ⟨C, ⟨c, hs, rfl, _⟩, _⟩⟩ := h <;> exact dpa_len hd
  · obtain ⟨Hd, ds, e, hd, h⟩ := h
    have key : ∃ (c : Int) (hs : List Int), ds = [.int c, .list (hs.map .int)] ∧ (hs.all (inClock c) = false → ∀ H2, Ex H H2 → E (.ref T.a_BadHour) none H2) ∧ (hs.all (inClock c) = true → ∀ H2, Ex H H2 → Q .non H2) := by
      rcases h with ⟨d, ⟨c, hs, rfl, rfl, hc⟩, q⟩ | ⟨C, ⟨c, hs, rfl, rfl, hc⟩, q⟩
      · exact ⟨c, hs, rfl, fun z => absurd (hc.symm.trans z) (by decide), fun _ H2 e2 => q .non H2 Hd (Gr.ext e e2) .non⟩
      · exact ⟨c, hs, rfl, fun _ => q, fun z => absurd (hc.symm.trans z) (by decide)⟩
    obtain ⟨c, hs, rfl, bad, good⟩ := key
    cases hd with
    | cons h1 h2 =>
      cases h2 with
      | cons h2 h3 =>
        cases h3
        cases h1
        refine ⟨_, (pss_cons (ps_for PassesOwn.leaving rfl (pi_list (pv 1)) (pg_name (i := 2) sc_need_hours.nd rfl (.inl rfl)) (pss_cons (ps_if (pt_not (pt_chain op_le op_lt pe_int (pv 2) (pv 0))) (pss_cons (L2N.ps_raise rfl (L2N.takes_of rfl rfl rfl rfl) (T.X_BadHour.pmk (by rfl)))
      pss_nil) pss_nil)
      pss_nil))
      pss_nil), Go.go ?_⟩
        refine hours_run T e h2 (fun i y H2 D2 hh b g => ?_) bad (fun z σ2 H2 e2 => good z H2 e2)
        apply go_when
        · walk_at "et"
        · intro z
          refine go_raise (b ?_)
          exact (Bool.not_eq_true' _).mp z
        · intro z
          refine go_next (g ?_)
          simpa [inClock] using z
theorem all2 {f : Int → Bool} {a b : Int} (h1 : f a = true) (h2 : f b = true) : [a, b].all f = true := by simp [h1, h2]
def RX_step (ds : List PyData) (d : PyData) : Prop := ∃ c a b, ds = [.int c, .int a, .int b] ∧ isClock c = true ∧ [a, b].all (inClock c) = true ∧ d = .int (nstep c a b)
def XX_step (T : Tx K mg) (ds : List PyData) (C : Addr) : Prop := ∃ c a b, ds = [.int c, .int a, .int b] ∧ ((isClock c = false ∧ C = T.a_BadClock) ∨ (isClock c = true ∧ [a, b].all (inClock c) = false ∧ C = T.a_BadHour))
theorem okX_step (T : Tx K mg) : FnOk P w K mg base (L2N.CX P w) 3 T.a_step T.d_step ["clock", "one", "other"] (spX K RX_step (XX_step T)) := by
  refine okN T.F_step sc_step (fun vs H Q E h => ?_) (fun cdv A outer s H vs Q E hr h => ?_)
  · obtain ⟨Hd, ds, e, hd, ⟨d, ⟨c, a, b, rfl, _⟩, _⟩ | ⟨C, ⟨c, a, b, rfl, _⟩, _⟩⟩ := h <;> exact dpa_len hd
  · obtain ⟨Hd, ds, e, hd, h⟩ := h
    have key : ∃ c a b, ds = [.int c, .int a, .int b] ∧ (isClock c = false → ∀ H2, Ex H H2 → E (.ref T.a_BadClock) none H2) ∧ (isClock c = true → [a, b].all (inClock c) = false → ∀ H2, Ex H H2 → E (.ref T.a_BadHour) none H2) ∧ (isClock c = true → [a, b].all (inClock c) = true → ∀ H2, Ex H H2 → Q (.int (nstep c a b)) H2) := by
      rcases h with ⟨d, ⟨c, a, b, rfl, hc, ha, rfl⟩, q⟩ | ⟨C, ⟨c, a, b, rfl, ⟨hc, rfl⟩ | ⟨hc, ha, rfl⟩⟩, q⟩
      · exact ⟨c, a, b, rfl, fun z => absurd (hc.symm.trans z) (by decide), fun _ z => absurd (ha.symm.trans z) (by decide), fun _ _ H2 e2 => q _ H2 Hd (Gr.ext e e2) (.int _)⟩
      · exact ⟨c, a, b, rfl, fun _ => q, fun z => absurd (hc.symm.trans z) (by decide), fun z => absurd (hc.symm.trans z) (by decide)⟩
      · exact ⟨c, a, b, rfl, fun z => absurd (hc.symm.trans z) (by decide), fun _ _ => q, fun _ z => absurd (ha.symm.trans z) (by decide)⟩
    obtain ⟨c, a, b, rfl, bad, bad2, good⟩ := key
    cases hd with
    | cons h1 h2 =>
      cases h2 with
      | cons h2 h3 =>
        cases h3 with
        | cons h3 h4 =>
          cases h4
          cases h1
          cases h2
          cases h3
          refine ⟨_, (pss_cons (ps_expr (pe_call (okX_need_clock T) (hr.mono (by omega)) (by rfl) T.g_need_clock T.F_need_clock.kp T.b_need_clock .nil (L2N.passes_call (L2N.takes_of rfl rfl rfl rfl) (fun _ _ _ _ h => h)) (pa_cons (pv 0) pa_nil)))
      (pss_cons (ps_expr (pe_call (okX_need_hours T) (hr.mono (by omega)) (by rfl) T.g_need_hours T.F_need_hours.kp T.b_need_hours .nil (L2N.passes_call (L2N.takes_of rfl rfl rfl rfl) (fun _ _ _ _ h => h)) (pa_cons (pv 0) (pa_cons (pe_lst (pa_cons (pv 1) (pa_cons (pv 2) pa_nil))) pa_nil))))
      (pss_cons (ps_ret (pe_call (ok_nearest_step T) (hr.mono (by omega)) (by rfl) T.g_nearest_step T.F_nearest_step.kp T.b_nearest_step .nil pass0 (pa_cons (pv 0) (pa_cons (pv 1) (pa_cons (pv 2) pa_nil)))))
      pss_nil))), Go.go ?_⟩
          cases hc : isClock c with
          | false => exact go_dropNo (K := K) (Hd := Hd) e (by walk_at "eda") ⟨c, rfl, rfl, hc⟩ (bad hc)
          | true =>
            refine go_dropOk (K := K) (Hd := Hd) e (by walk_at "eda") ⟨c, rfl, rfl, hc⟩ fun v H2 Hn g hv => ?_
            cases hv
            cases ha : [a, b].all (inClock c) with
            | false => exact go_dropNo (K := K) (Hd := Hn) (ds := [.int c, .list [.int a, .int b]]) g.sub (by walk_at "eda") ⟨c, [a, b], rfl, rfl, ha⟩ fun H3 e3 => bad2 hc ha H3 (g.ex.trans e3)
            | true =>
              refine go_dropOk (K := K) (Hd := Hn) (ds := [.int c, .list [.int a, .int b]]) g.sub (by walk_at "eda") ⟨c, [a, b], rfl, rfl, ha⟩ fun v H3 Hm g3 hv => ?_
              have h0 := isClock_iff.mp hc
              exact go_retV (ev_nearest_step (by walk_at "ea") (by omega)) fun H4 e4 => good hc ha H4 ((g.ex.trans g3.ex).trans e4)

def RX_after (ds : List PyData) (d : PyData) : Prop := ∃ c a b, ds = [.int c, .int a, .int b] ∧ isClock c = true ∧ inClock c a = true ∧ d = .int ((a + b) % c)
def XX_after (T : Tx K mg) (ds : List PyData) (C : Addr) : Prop := ∃ c a b, ds = [.int c, .int a, .int b] ∧ ((isClock c = false ∧ C = T.a_BadClock) ∨ (isClock c = true ∧ inClock c a = false ∧ C = T.a_BadHour))
theorem okX_after (T : Tx K mg) : FnOk P w K mg base (L2N.CX P w) 3 T.a_after T.d_after ["clock", "hour", "by"] (spX K RX_after (XX_after T)) := by
  refine T.F_after.ok sc_after (fun vs H Q E h => ?_) (fun cdv A outer s H vs Q E hr h => ?_)
  · obtain ⟨Hd, ds, e, hd, ⟨d, ⟨c, a, b, rfl, _⟩, _⟩ | ⟨C, ⟨c, a, b, rfl, _⟩, _⟩⟩ := h <;> exact dpa_len hd
  · obtain ⟨Hd, ds, e, hd, h⟩ := h
    have key : ∃ c a b, ds = [.int c, .int a, .int b] ∧ (isClock c = false → ∀ H2, Ex H H2 → E (.ref T.a_BadClock) none H2) ∧ (isClock c = true → inClock c a = false → ∀ H2, Ex H H2 → E (.ref T.a_BadHour) none H2) ∧ (isClock c = true → inClock c a = true → ∀ H2, Ex H H2 → Q (.int ((a + b) % c)) H2) := by
      rcases h with ⟨d, ⟨c, a, b, rfl, hc, ha, rfl⟩, q⟩ | ⟨C, ⟨c, a, b, rfl, ⟨hc, rfl⟩ | ⟨hc, ha, rfl⟩⟩, q⟩
      · exact ⟨c, a, b, rfl, fun z => absurd (hc.symm.trans z) (by decide), fun _ z => absurd (ha.symm.trans z) (by decide), fun _ _ H2 e2 => q _ H2 Hd (Gr.ext e e2) (.int _)⟩
      · exact ⟨c, a, b, rfl, fun _ => q, fun z => absurd (hc.symm.trans z) (by decide), fun z => absurd (hc.symm.trans z) (by decide)⟩
      · exact ⟨c, a, b, rfl, fun z => absurd (hc.symm.trans z) (by decide), fun _ _ => q, fun _ z => absurd (ha.symm.trans z) (by decide)⟩
    obtain ⟨c, a, b, rfl, bad, bad2, good⟩ := key
    cases hd with
    | cons h1 h2 =>
      cases h2 with
      | cons h2 h3 =>
        cases h3 with
        | cons h3 h4 =>
          cases h4
          cases h1
          cases h2
          cases h3
          refine ⟨_, (pss_cons (ps_expr (pe_call (okX_need_clock T) (hr.mono (by omega)) (by rfl) T.g_need_clock T.F_need_clock.kp T.b_need_clock .nil (L2N.passes_call (L2N.takes_of rfl rfl rfl rfl) (fun _ _ _ _ h => h)) (pa_cons (pv 0) pa_nil)))
      (pss_cons (ps_expr (pe_call (okX_need_hours T) (hr.mono (by omega)) (by rfl) T.g_need_hours T.F_need_hours.kp T.b_need_hours .nil (L2N.passes_call (L2N.takes_of rfl rfl rfl rfl) (fun _ _ _ _ h => h)) (pa_cons (pv 0) (pa_cons (pe_lst (pa_cons (pv 1) pa_nil)) pa_nil))))
      (pss_cons (ps_ret (pe_op op_mod (pe_op op_add (pv 1) (pv 2)) (pv 0)))
      pss_nil))), Go.go ?_⟩
          cases hc : isClock c with
          | false => exact go_dropNo (K := K) (Hd := Hd) e (by walk_at "eda") ⟨c, rfl, rfl, hc⟩ (bad hc)
          | true =>
            refine go_dropOk (K := K) (Hd := Hd) e (by walk_at "eda") ⟨c, rfl, rfl, hc⟩ fun v H2 Hn g hv => ?_
            cases hv
            cases ha : inClock c a with
            | false => exact go_dropNo (K := K) (Hd := Hn) (ds := [.int c, .list [.int a]]) g.sub (by walk_at "eda") ⟨c, [a], rfl, rfl, by simp [ha]⟩ fun H3 e3 => bad2 hc ha H3 (g.ex.trans e3)
            | true =>
              refine go_dropOk (K := K) (Hd := Hn) (ds := [.int c, .list [.int a]]) g.sub (by walk_at "eda") ⟨c, [a], rfl, rfl, by simp [ha]⟩ fun v H3 Hm g3 hv => ?_
              have h0 := isClock_iff.mp hc
              refine go_retE (v := .int ((a + b) % c)) (by walk_at "ev") rfl fun H4 e4 => good hc ha H4 ((g.ex.trans g3.ex).trans e4)
def RX_rounds (ds : List PyData) (d : PyData) : Prop := ∃ (c : Int) (hs : List Int), ds = [.int c, .list (hs.map .int)] ∧ hs.length ≤ 40000 ∧ isClock c = true ∧ hs.all (inClock c) = true ∧ d = .int (ringSum c hs / c)
def XX_rounds (T : Tx K mg) (ds : List PyData) (C : Addr) : Prop := ∃ (c : Int) (hs : List Int), ds = [.int c, .list (hs.map .int)] ∧ hs.length ≤ 40000 ∧ ((isClock c = false ∧ C = T.a_BadClock) ∨ (isClock c = true ∧ hs.all (inClock c) = false ∧ C = T.a_BadHour))
theorem okX_rounds (T : Tx K mg) : FnOk P w K mg base (L2N.CX P w) 3 T.a_rounds T.d_rounds ["clock", "hours"] (spX K RX_rounds (XX_rounds T)) := by
  refine okN T.F_rounds sc_rounds (fun vs H Q E h => ?_) (fun cdv A outer s H vs Q E hr h => ?_)
  · obtain ⟨Hd, ds, e, hd, ⟨d, ⟨c, hs, rfl, _⟩, _⟩ | ⟨C, ⟨c, hs, rfl, _⟩, _⟩⟩ := h <;> exact dpa_len hd
  · obtain ⟨Hd, ds, e, hd, h⟩ := h
    have key : ∃ (c : Int) (hs : List Int), ds = [.int c, .list (hs.map .int)] ∧ hs.length ≤ 40000 ∧ (isClock c = false → ∀ H2, Ex H H2 → E (.ref T.a_BadClock) none H2) ∧ (isClock c = true → hs.all (inClock c) = false → ∀ H2, Ex H H2 → E (.ref T.a_BadHour) none H2) ∧ (isClock c = true → hs.all (inClock c) = true → ∀ H2, Ex H H2 → Q (.int (ringSum c hs / c)) H2) := by
      rcases h with ⟨d, ⟨c, hs, rfl, hl, hc, ha, rfl⟩, q⟩ | ⟨C, ⟨c, hs, rfl, hl, ⟨hc, rfl⟩ | ⟨hc, ha, rfl⟩⟩, q⟩
      · exact ⟨c, hs, rfl, hl, fun z => absurd (hc.symm.trans z) (by decide), fun _ z => absurd (ha.symm.trans z) (by decide), fun _ _ H2 e2 => q _ H2 Hd (Gr.ext e e2) (.int _)⟩
      · exact ⟨c, hs, rfl, hl, fun _ => q, fun z => absurd (hc.symm.trans z) (by decide), fun z => absurd (hc.symm.trans z) (by decide)⟩
      · exact ⟨c, hs, rfl, hl, fun z => absurd (hc.symm.trans z) (by decide), fun _ _ => q, fun _ z => absurd (ha.symm.trans z) (by decide)⟩
    obtain ⟨c, hs, rfl, hl, bad, bad2, good⟩ := key
    cases hd with
    | cons h1 h2 =>
      cases h2 with
      | @cons v _ _ _ h2 h3 =>
        cases h3
        cases h1
        refine ⟨_, (pss_cons (ps_expr (pe_call (okX_need_clock T) (hr.mono (by omega)) (by rfl) T.g_need_clock T.F_need_clock.kp T.b_need_clock .nil (L2N.passes_call (L2N.takes_of rfl rfl rfl rfl) (fun _ _ _ _ h => h)) (pa_cons (pv 0) pa_nil)))
      (pss_cons (ps_expr (pe_call (okX_need_hours T) (hr.mono (by omega)) (by rfl) T.g_need_hours T.F_need_hours.kp T.b_need_hours .nil (L2N.passes_call (L2N.takes_of rfl rfl rfl rfl) (fun _ _ _ _ h => h)) (pa_cons (pv 0) (pa_cons (pv 1) pa_nil))))
      (pss_cons (ps_set (i := 2) sc_rounds.nd rfl (.inl rfl) (pe_callB (r := rSum K) (cr_sum rfl) (by rfl) T.n_sum (by decide +kernel) (pa_cons (pe_lc (own := [("at", 3), ("hour", 4)]) (g := (gTup K 2 (gCons (gName 3) (gCons (gName 4) gNil)))) (by rfl) sc_rounds.nd (pi_enum (by rfl) T.n_enumerate (pa_cons (pv 1) pa_nil)) (blkOk_by (own := [("at", 3), ("hour", 4)]) (N := N_rounds) (sc := defScope s_rounds) (by decide +kernel)) (fun _ _ _ _ _ => (pg_tup rfl (pgs_cons (pg_name (i := 3) sc_rounds.nd rfl (.inl rfl) (hf := .inr rfl)) (pgs_cons (pg_name (i := 4) sc_rounds.nd rfl (.inl rfl) (hf := .inr rfl)) pgs_nil)))) (fun _ _ _ _ _ => pts_nil) (fun _ _ _ _ _ => (pe_call (ok_nearest_step T) (hr.mono (by omega)) (by rfl) T.g_nearest_step T.F_nearest_step.kp T.b_nearest_step .nil pass0 (pa_cons (pv 0) (pa_cons (pe_ix (r := rIxL K) ix_list (pv 1) (pe_op op_sub (pv 3) pe_int) (fun _ _ => rfl)) (pa_cons (pv 4) pa_nil)))))) pa_nil)))
      (pss_cons (ps_ret (pe_op op_fdiv (pv 2) (pv 0)))
      pss_nil)))), Go.go ?_⟩
        cases hc : isClock c with
        | false => exact go_dropNo (K := K) (Hd := Hd) e (by walk_at "eda") ⟨c, rfl, rfl, hc⟩ (bad hc)
        | true =>
          have h0 := isClock_iff.mp hc
          refine go_dropOk (K := K) (Hd := Hd) e (by walk_at "eda") ⟨c, rfl, rfl, hc⟩ fun _ H2 Hn g _ => ?_
          have h2' := dp_mono g.dx _ h2
          cases ha : hs.all (inClock c) with
          | false => exact go_dropNo (K := K) (Hd := Hn) (ds := [.int c, .list (hs.map .int)]) g.sub (by walk_at "eda") ⟨c, hs, rfl, rfl, ha⟩ fun H3 e3 => bad2 hc ha H3 (g.ex.trans e3)
          | true =>
            refine go_dropOk (K := K) (Hd := Hn) (ds := [.int c, .list (hs.map .int)]) g.sub (by walk_at "eda") ⟨c, hs, rfl, rfl, ha⟩ fun _ H3 Hm g3 _ => ?_
            have hv := dp_mono (g3.dx.trans g3.sub) _ h2'
            obtain ⟨a, xs, rfl, hS, hA⟩ : ∃ a xs, v = .ref a ∧ SqL K H3 a xs ∧ DpAll K H3 xs (hs.map .int) := by
              cases hv with
              | lst h1 h2 => exact ⟨_, _, rfl, h1, h2⟩
            have ex := dpa_ints_inv hA
            subst ex
            apply go_asg (v := .int (ringSum c hs))
            · refine ev_is (ev_sum (K := K) (bs := (List.range hs.length).map (stepAt c (hs.getLast?.getD 0) hs)) ?_) (by rw [sum_steps]; rfl)
              rw [List.map_map, ← List.length_map (f := PyData.int) (as := hs), ← givenD_all]
              refine ed_new (en_lc (ei_enum (K := K) (ds := hs.map .int) (by walk_at "eda")) (by rw [List.length_map]; exact hl) (fun _ => true) _ ?_)
              rintro i σ2 Hn hi e ⟨v, v2, d, d2, h1, h2, h3, h4, rfl⟩
              rw [List.length_map] at hi
              cases h1
              cases h3
              replace h2 : (hs.map PyData.int)[i]? = some d2 := h2
              rw [List.getElem?_map, List.getElem?_eq_getElem hi] at h2
              cases h2
              cases h4
              refine ⟨rfl, et_yes, fun _ => ?_⟩
              obtain ⟨x, hx, _, ex⟩ := atI_prev hi
              refine ed_int (ev_is (ev_nearest_step (a := x) (b := hs[i]) (c := c) ?_ (by omega)) ?_)
              · refine ea_cons (ev_var rfl) (ea_cons (ev_op (ev_var rfl) (by walk_at "ev") (rv_ixL (K := K) (ex_l e hS) (by rw [atI_map, hx]; rfl))) (ea_cons (ev_var rfl) ea_nil))
              · show V.int _ = V.int (stepAt c (hs.getLast?.getD 0) hs i)
                unfold stepAt
                rw [← ex, List.getElem?_eq_getElem hi]
                rfl
            · exact go_retE (v := .int (ringSum c hs / c)) (by walk_at "ev") rfl fun H4 e4 => good hc ha H4 ((g.ex.trans g3.ex).trans e4)

/-! ### the word of an error -/
def kindC (T : Tx K mg) : List Value := [.ref T.a_BadClock, .ref T.a_BadHour, .ref T.a_BadChart, .ref T.a_BadSquare, .ref T.a_BadRing, .ref T.a_BadBreaks, .ref T.a_BadPrices, .ref T.a_NoFill, .ref T.a_Unlike, .ref T.a_BadName, .ref T.a_Taken, .ref T.a_Full, .ref T.a_NoChart, .ref T.a_BadDay, .ref T.a_BadDeed, .ref T.a_NothingLeft, .ref T.a_Knotted, .ref T.a_BadText, .type "ValueError"]
def kindN (i : Nat) : Str := (["clock", "hour", "chart", "square", "ring", "breaks", "prices", "fill", "unlike", "name", "taken", "full", "none", "day", "deed", "left", "knotted", "text", "odd"] : List Str).getD i Str.empty
def kindF (f : Nat → Bool) (i : Nat) : Bool := if i = 18 then !f i else f i
def kindW (f : Nat → Bool) : Str := Txt.join " " (((List.range (18 + 1)).filter (kindF f)).map kindN)
def spKind (T : Tx K mg) (p : Addr × Obj) : Sp := fun vs H Q _ => ∃ (D : Addr) (f : Nat → Bool), vs = [.ref p.1] ∧ Zc (.ref D) none p.2 ∧ (∃ fs, p.2.data = .fields fs) ∧ ExcC K D ∧ (∀ i c, (kindC T)[i]? = some c → PySem.W.kitOne K (.ref D) c = some (f i)) ∧ ∀ H2, Ex H H2 → Q (.str (kindW f)) H2
def kindD (f : Nat → Bool) : List PyData := (List.range (18 + 1)).map fun i => .tuple [.str (kindN i), .bool (kindF f i)]
theorem kind_len (f : Nat → Bool) : ((((List.range (18 + 1)).filter (kindF f)).map kindN).map (·.length)).sum + (((List.range (18 + 1)).filter (kindF f)).map kindN).length * (Str.length " ") ≤ 16777216 := by
  have h1 : (((List.range (18 + 1)).filter (kindF f)).map kindN).length ≤ 18 + 1 := by
    rw [List.length_map]
    have h := List.length_filter_le (kindF f) (List.range (18 + 1))
    rw [List.length_range] at h
    exact h
  have h2 : ∀ i, (kindN i).length ≤ 20 := fun i => by
    by_cases h : i < 18 + 1
    · have all : ∀ j, j < 18 + 1 → (kindN j).length ≤ 20 := by decide +kernel
      exact all i h
    · have e : kindN i = Str.empty := by
        unfold kindN
        rw [List.getD_eq_getElem?_getD, List.getElem?_eq_none (by simp only [List.length_cons, List.length_nil]; omega)]
        rfl
      rw [e]
      decide
  have h3 : ∀ l : List Nat, ((l.map kindN).map (·.length)).sum ≤ 20 * l.length := fun l => by
    induction l with
    | nil => exact Nat.le_refl _
    | cons a l ih =>
      have := h2 a
      simp only [List.map_cons, List.sum_cons, List.length_cons]
      omega
  have h4 := h3 ((List.range (18 + 1)).filter (kindF f))
  have h5 : Str.length " " = 1 := by decide +kernel
  rw [List.length_map] at h1 ⊢
  rw [h5]
  omega
local macro_rules | `(tactic| walk_at "ev") => `(tactic| first
  | ((with_reducible apply ev_isX); walk_at "ev"; assumption)
  | ((with_reducible apply ev_isXT); walk_at "ev"; assumption))
theorem ev_kind {σ : L2.St} {Hd : Hp} {v : V} (f : Nat → Bool) (h1 : σ[1]? = some (some v)) (hd : Dp K Hd v (.list (kindD f))) (hl : σ.length = 4) : Ev (tM1 (rJo K) (tC (.str " ")) (tLc (iList K (tVar 1)) (g2 K 2 3) (tTest (tVar 3)) (tVar 2) [2, 3])) σ Hd (.str (kindW f)) := by
  refine ev_jo ev_c (ed_new ?_) (kind_len f)
  have key : ((List.range (18 + 1)).filter (kindF f)).map (fun i => PyData.str (kindN i)) = (((List.range (18 + 1)).filter (kindF f)).map kindN).map PyData.str := by rw [List.map_map]; rfl
  rw [← key]
  have n : (kindD f).length = 18 + 1 := by unfold kindD; rw [List.length_map, List.length_range]
  refine en_lc (n := 18 + 1) (S := SPair K 2 3 (fun i => if i < 18 + 1 then some (.str (kindN i)) else none) (fun i => if i < 18 + 1 then some (.bool (kindF f i)) else none)) ?_ (by decide) (kindF f) (fun i => .str (kindN i)) fun i σ2 Hn hi e hS => ?_
  · rw [← n]
    refine ei_pairs (ed_var h1 hd) fun i d e => ?_
    have hi : i < 18 + 1 := by rw [← n]; exact (List.getElem?_eq_some_iff.mp e).1
    unfold kindD at e
    rw [List.getElem?_map, List.getElem?_range hi] at e
    cases e
    exact ⟨_, _, rfl, if_pos hi, if_pos hi⟩
  · obtain ⟨v1, v2, d1, d2, q1, q2, p1, p2, rfl⟩ := hS
    dsimp only at q1 q2
    rw [if_pos hi] at q1 q2
    cases q1
    cases q2
    cases p1
    cases p2
    obtain ⟨x0, x1, x2, x3, rfl⟩ : ∃ x0 x1 x2 x3, σ = [x0, x1, x2, x3] := by
      match σ, hl with
      | [a, b, c, d], _ => exact ⟨a, b, c, d, rfl⟩
    refine ⟨rfl, et_test (ev_var rfl), fun _ => ed_var rfl (.str _)⟩
theorem ok_kind (T : Tx K mg) : FnP P w K mg base CX0 1 T.a_law_kind T.d_law_kind ["_law_e"] (spKind T) := by
  refine okP T.F_law_kind sc_law_kind (fun p vs H Q E h => ?_) (fun cdv p A outer s H vs Q E hot hr h => ?_)
  · obtain ⟨D, f, rfl, _⟩ := h
    rfl
  · obtain ⟨D, f, rfl, hz, hf, hD, hk, q⟩ := h
    have k0 := hk 0 _ rfl
    have k1 := hk 1 _ rfl
    have k2 := hk 2 _ rfl
    have k3 := hk 3 _ rfl
    have k4 := hk 4 _ rfl
    have k5 := hk 5 _ rfl
    have k6 := hk 6 _ rfl
    have k7 := hk 7 _ rfl
    have k8 := hk 8 _ rfl
    have k9 := hk 9 _ rfl
    have k10 := hk 10 _ rfl
    have k11 := hk 11 _ rfl
    have k12 := hk 12 _ rfl
    have k13 := hk 13 _ rfl
    have k14 := hk 14 _ rfl
    have k15 := hk 15 _ rfl
    have k16 := hk 16 _ rfl
    have k17 := hk 17 _ rfl
    have k18 := hk 18 _ rfl
    refine ⟨_, (pss_cons (ps_set (i := 1) sc_law_kind.nd rfl (.inl rfl) (pe_lst (pa_cons (pe_tup (pa_cons pe_str (pa_cons (pe_callB (r := rIsE K D p.1) (call_isP hD (List.mem_singleton_self p) hz hf) (by rfl) T.n_isinstance (by decide +kernel) (pa_cons (pv 0) (pa_cons (pe_glob (v := .ref T.a_BadClock) rfl T.x_BadClock.g rfl) pa_nil))) pa_nil))) (pa_cons (pe_tup (pa_cons pe_str (pa_cons (pe_callB (r := rIsE K D p.1) (call_isP hD (List.mem_singleton_self p) hz hf) (by rfl) T.n_isinstance (by decide +kernel) (pa_cons (pv 0) (pa_cons (pe_glob (v := .ref T.a_BadHour) rfl T.x_BadHour.g rfl) pa_nil))) pa_nil))) pa_nil))))
      (pss_cons (ps_set (i := 1) sc_law_kind.nd rfl (.inl rfl) (pe_op op_cat (pv 1) (pe_lst (pa_cons (pe_tup (pa_cons pe_str (pa_cons (pe_callB (r := rIsE K D p.1) (call_isP hD (List.mem_singleton_self p) hz hf) (by rfl) T.n_isinstance (by decide +kernel) (pa_cons (pv 0) (pa_cons (pe_glob (v := .ref T.a_BadChart) rfl T.x_BadChart.g rfl) pa_nil))) pa_nil))) (pa_cons (pe_tup (pa_cons pe_str (pa_cons (pe_callB (r := rIsE K D p.1) (call_isP hD (List.mem_singleton_self p) hz hf) (by rfl) T.n_isinstance (by decide +kernel) (pa_cons (pv 0) (pa_cons (pe_glob (v := .ref T.a_BadSquare) rfl T.x_BadSquare.g rfl) pa_nil))) pa_nil))) pa_nil)))))
      (pss_cons (ps_set (i := 1) sc_law_kind.nd rfl (.inl rfl) (pe_op op_cat (pv 1) (pe_lst (pa_cons (pe_tup (pa_cons pe_str (pa_cons (pe_callB (r := rIsE K D p.1) (call_isP hD (List.mem_singleton_self p) hz hf) (by rfl) T.n_isinstance (by decide +kernel) (pa_cons (pv 0) (pa_cons (pe_glob (v := .ref T.a_BadRing) rfl T.x_BadRing.g rfl) pa_nil))) pa_nil))) (pa_cons (pe_tup (pa_cons pe_str (pa_cons (pe_callB (r := rIsE K D p.1) (call_isP hD (List.mem_singleton_self p) hz hf) (by rfl) T.n_isinstance (by decide +kernel) (pa_cons (pv 0) (pa_cons (pe_glob (v := .ref T.a_BadBreaks) rfl T.x_BadBreaks.g rfl) pa_nil))) pa_nil))) pa_nil)))))
      (pss_cons (ps_set (i := 1) sc_law_kind.nd rfl (.inl rfl) (pe_op op_cat (pv 1) (pe_lst (pa_cons (pe_tup (pa_cons pe_str (pa_cons (pe_callB (r := rIsE K D p.1) (call_isP hD (List.mem_singleton_self p) hz hf) (by rfl) T.n_isinstance (by decide +kernel) (pa_cons (pv 0) (pa_cons (pe_glob (v := .ref T.a_BadPrices) rfl T.x_BadPrices.g rfl) pa_nil))) pa_nil))) (pa_cons (pe_tup (pa_cons pe_str (pa_cons (pe_callB (r := rIsE K D p.1) (call_isP hD (List.mem_singleton_self p) hz hf) (by rfl) T.n_isinstance (by decide +kernel) (pa_cons (pv 0) (pa_cons (pe_glob (v := .ref T.a_NoFill) rfl T.x_NoFill.g rfl) pa_nil))) pa_nil))) pa_nil)))))
      (pss_cons (ps_set (i := 1) sc_law_kind.nd rfl (.inl rfl) (pe_op op_cat (pv 1) (pe_lst (pa_cons (pe_tup (pa_cons pe_str (pa_cons (pe_callB (r := rIsE K D p.1) (call_isP hD (List.mem_singleton_self p) hz hf) (by rfl) T.n_isinstance (by decide +kernel) (pa_cons (pv 0) (pa_cons (pe_glob (v := .ref T.a_Unlike) rfl T.x_Unlike.g rfl) pa_nil))) pa_nil))) (pa_cons (pe_tup (pa_cons pe_str (pa_cons (pe_callB (r := rIsE K D p.1) (call_isP hD (List.mem_singleton_self p) hz hf) (by rfl) T.n_isinstance (by decide +kernel) (pa_cons (pv 0) (pa_cons (pe_glob (v := .ref T.a_BadName) rfl T.x_BadName.g rfl) pa_nil))) pa_nil))) pa_nil)))))
      (pss_cons (ps_set (i := 1) sc_law_kind.nd rfl (.inl rfl) (pe_op op_cat (pv 1) (pe_lst (pa_cons (pe_tup (pa_cons pe_str (pa_cons (pe_callB (r := rIsE K D p.1) (call_isP hD (List.mem_singleton_self p) hz hf) (by rfl) T.n_isinstance (by decide +kernel) (pa_cons (pv 0) (pa_cons (pe_glob (v := .ref T.a_Taken) rfl T.x_Taken.g rfl) pa_nil))) pa_nil))) (pa_cons (pe_tup (pa_cons pe_str (pa_cons (pe_callB (r := rIsE K D p.1) (call_isP hD (List.mem_singleton_self p) hz hf) (by rfl) T.n_isinstance (by decide +kernel) (pa_cons (pv 0) (pa_cons (pe_glob (v := .ref T.a_Full) rfl T.x_Full.g rfl) pa_nil))) pa_nil))) pa_nil)))))
      (pss_cons (ps_set (i := 1) sc_law_kind.nd rfl (.inl rfl) (pe_op op_cat (pv 1) (pe_lst (pa_cons (pe_tup (pa_cons pe_str (pa_cons (pe_callB (r := rIsE K D p.1) (call_isP hD (List.mem_singleton_self p) hz hf) (by rfl) T.n_isinstance (by decide +kernel) (pa_cons (pv 0) (pa_cons (pe_glob (v := .ref T.a_NoChart) rfl T.x_NoChart.g rfl) pa_nil))) pa_nil))) (pa_cons (pe_tup (pa_cons pe_str (pa_cons (pe_callB (r := rIsE K D p.1) (call_isP hD (List.mem_singleton_self p) hz hf) (by rfl) T.n_isinstance (by decide +kernel) (pa_cons (pv 0) (pa_cons (pe_glob (v := .ref T.a_BadDay) rfl T.x_BadDay.g rfl) pa_nil))) pa_nil))) pa_nil)))))
      (pss_cons (ps_set (i := 1) sc_law_kind.nd rfl (.inl rfl) (pe_op op_cat (pv 1) (pe_lst (pa_cons (pe_tup (pa_cons pe_str (pa_cons (pe_callB (r := rIsE K D p.1) (call_isP hD (List.mem_singleton_self p) hz hf) (by rfl) T.n_isinstance (by decide +kernel) (pa_cons (pv 0) (pa_cons (pe_glob (v := .ref T.a_BadDeed) rfl T.x_BadDeed.g rfl) pa_nil))) pa_nil))) (pa_cons (pe_tup (pa_cons pe_str (pa_cons (pe_callB (r := rIsE K D p.1) (call_isP hD (List.mem_singleton_self p) hz hf) (by rfl) T.n_isinstance (by decide +kernel) (pa_cons (pv 0) (pa_cons (pe_glob (v := .ref T.a_NothingLeft) rfl T.x_NothingLeft.g rfl) pa_nil))) pa_nil))) pa_nil)))))
      (pss_cons (ps_set (i := 1) sc_law_kind.nd rfl (.inl rfl) (pe_op op_cat (pv 1) (pe_lst (pa_cons (pe_tup (pa_cons pe_str (pa_cons (pe_callB (r := rIsE K D p.1) (call_isP hD (List.mem_singleton_self p) hz hf) (by rfl) T.n_isinstance (by decide +kernel) (pa_cons (pv 0) (pa_cons (pe_glob (v := .ref T.a_Knotted) rfl T.x_Knotted.g rfl) pa_nil))) pa_nil))) (pa_cons (pe_tup (pa_cons pe_str (pa_cons (pe_callB (r := rIsE K D p.1) (call_isP hD (List.mem_singleton_self p) hz hf) (by rfl) T.n_isinstance (by decide +kernel) (pa_cons (pv 0) (pa_cons (pe_glob (v := .ref T.a_BadText) rfl T.x_BadText.g rfl) pa_nil))) pa_nil))) pa_nil)))))
      (pss_cons (ps_expr (pe_bm PySem.F.plainAttrs_list PySem.F.slot_list_append PySem.F.type_list_append mt_append (pv 1) (pa_cons (pe_tup (pa_cons pe_str (pa_cons (pe_not (pe_callB (r := rIsE K D p.1) (call_isP hD (List.mem_singleton_self p) hz hf) (by rfl) T.n_isinstance (by decide +kernel) (pa_cons (pv 0) (pa_cons (pe_bltn (v := .ty "ValueError") (by rfl) T.n_ValueError (by decide +kernel) rfl) pa_nil)))) pa_nil))) pa_nil)))
      (pss_cons (ps_ret (pe_jo pe_str (pe_lcH (own := [("_law_name", 2), ("_law_so", 3)]) (g := (gTup K 2 (gCons (gName 2) (gCons (gName 3) gNil)))) ⟨p, hot, List.mem_singleton_self p⟩ sc_law_kind.nd (pv 1) (blkOk_by (own := [("_law_name", 2), ("_law_so", 3)]) (N := N_law_kind) (sc := defScope s_law_kind) (by decide +kernel)) (fun _ _ _ _ _ hI => (pg_tupH hI (pgs_cons (pg_name (i := 2) sc_law_kind.nd rfl (.inl rfl) (hf := .inr rfl)) (pgs_cons (pg_name (i := 3) sc_law_kind.nd rfl (.inl rfl) (hf := .inr rfl)) pgs_nil)))) (fun _ _ _ _ _ => (pts_one (pt_val (pv 3)))) (fun _ _ _ _ _ => (pv 2)))))
      pss_nil))))))))))), Go.go ?_⟩
    refine go_asgN (K := K) (Hd := H) (Ex.refl _) (by walk_at "en") fun p1 xs1 H1 Hn1 g1 f1 n1 l1 d1 => ?_
    refine go_asgN (K := K) (Hd := upd Hn1 p1 (.lst xs1)) (ex_add g1.sub l1) (en_cat (em_ref (ev_var rfl) upd_same (dpa_mono (Ex.new n1) _ d1)) (em_new (by walk_at "en")) (by simp only [List.length_cons, List.length_append, List.length_nil]; decide)) fun p2 xs2 H2 Hn2 g2 f2 n2 l2 d2 => ?_
    refine go_asgN (K := K) (Hd := upd Hn2 p2 (.lst xs2)) (ex_add g2.sub l2) (en_cat (em_ref (ev_var rfl) upd_same (dpa_mono (Ex.new n2) _ d2)) (em_new (by walk_at "en")) (by simp only [List.length_cons, List.length_append, List.length_nil]; decide)) fun p3 xs3 H3 Hn3 g3 f3 n3 l3 d3 => ?_
    refine go_asgN (K := K) (Hd := upd Hn3 p3 (.lst xs3)) (ex_add g3.sub l3) (en_cat (em_ref (ev_var rfl) upd_same (dpa_mono (Ex.new n3) _ d3)) (em_new (by walk_at "en")) (by simp only [List.length_cons, List.length_append, List.length_nil]; decide)) fun p4 xs4 H4 Hn4 g4 f4 n4 l4 d4 => ?_
    refine go_asgN (K := K) (Hd := upd Hn4 p4 (.lst xs4)) (ex_add g4.sub l4) (en_cat (em_ref (ev_var rfl) upd_same (dpa_mono (Ex.new n4) _ d4)) (em_new (by walk_at "en")) (by simp only [List.length_cons, List.length_append, List.length_nil]; decide)) fun p5 xs5 H5 Hn5 g5 f5 n5 l5 d5 => ?_
    refine go_asgN (K := K) (Hd := upd Hn5 p5 (.lst xs5)) (ex_add g5.sub l5) (en_cat (em_ref (ev_var rfl) upd_same (dpa_mono (Ex.new n5) _ d5)) (em_new (by walk_at "en")) (by simp only [List.length_cons, List.length_append, List.length_nil]; decide)) fun p6 xs6 H6 Hn6 g6 f6 n6 l6 d6 => ?_
    refine go_asgN (K := K) (Hd := upd Hn6 p6 (.lst xs6)) (ex_add g6.sub l6) (en_cat (em_ref (ev_var rfl) upd_same (dpa_mono (Ex.new n6) _ d6)) (em_new (by walk_at "en")) (by simp only [List.length_cons, List.length_append, List.length_nil]; decide)) fun p7 xs7 H7 Hn7 g7 f7 n7 l7 d7 => ?_
    refine go_asgN (K := K) (Hd := upd Hn7 p7 (.lst xs7)) (ex_add g7.sub l7) (en_cat (em_ref (ev_var rfl) upd_same (dpa_mono (Ex.new n7) _ d7)) (em_new (by walk_at "en")) (by simp only [List.length_cons, List.length_append, List.length_nil]; decide)) fun p8 xs8 H8 Hn8 g8 f8 n8 l8 d8 => ?_
    refine go_asgN (K := K) (Hd := upd Hn8 p8 (.lst xs8)) (ex_add g8.sub l8) (en_cat (em_ref (ev_var rfl) upd_same (dpa_mono (Ex.new n8) _ d8)) (em_new (by walk_at "en")) (by simp only [List.length_cons, List.length_append, List.length_nil]; decide)) fun p9 xs9 H9 Hn9 g9 f9 n9 l9 d9 => ?_
    refine go_appD (K := K) (Hd := Hn9) g9.sub l9 (ev_var rfl) (by walk_at "ed") (by rw [dpa_len d9]; simp only [List.length_cons, List.length_append, List.length_nil]; decide) fun v Ha Hb g hv => ?_
    have np : Hb p9 = none := g.fr _ _ l9 n9
    have all : Ex H H9 := ((((((((g1.ex.trans g2.ex).trans g3.ex).trans g4.ex).trans g5.ex).trans g6.ex).trans g7.ex).trans g8.ex).trans g9.ex)
    have fresh : H p9 = none := fresh_back (((((((g1.ex.trans g2.ex).trans g3.ex).trans g4.ex).trans g5.ex).trans g6.ex).trans g7.ex).trans g8.ex) f9
    have up : Ex H (upd Ha p9 (.lst (xs9 ++ [v]))) := Ex.mut (all.trans g.ex) fresh
    have dd := dpa_app (dpa_mono (g.dx.trans (Ex.new np)) _ d9) (.cons (dp_mono (Ex.new (o := .lst (xs9 ++ [v])) np) _ hv) .nil)
    refine go_retV (v := .str (kindW f)) ((ev_kind (K := K) f rfl (.lst (sq_of upd_same) dd) rfl).mono (ex_upd2 g.sub)) fun H2 e => q H2 (up.trans e)

open LamX in
/-- what _law_word makes of what it was handed -/
def TTw (T : Tx K mg) (tl : XK → Hp → VK → Prop) (H : Hp) (Q : VK) : Prop :=
  tl (fun cls d H1 => ∃ (D : Addr) (f : Nat → Bool), cls = .ref D ∧ d = none ∧ ExcC K D ∧ PySem.W.exmOne K (.ref D) (.ref T.a_TideError) = some true ∧ (∀ i c, (kindC T)[i]? = some c → PySem.W.kitOne K (.ref D) c = some (f i)) ∧ ∀ H2, Ex H1 H2 → Q (.str (kindW f)) H2) H
    (fun _ H1 => Q (.str "") H1)
open LamX in
theorem word_gives {X : Cx} (T : Tx X.K X.mg) {cdg : Value} {q : Str} {k : Nat} (hk : 1 ≤ k + 1) : GivesN X N_law_word "_law_word" (defScope s_law_word) T.a_law_word cdg (defBody s_law_word) "_law_ask" q k (TTw T) := by
  intro f c' s H Q tl hroom act hc h
  refine ⟨_, pss_cons (L2N.ps_try_as (X := (cxOf C8.CX0 X.prog X.w X.K X.mg X.base N_law_word "_law_word" (defScope s_law_word) T.a_law_word cdg X.A X.stack s H C8.E0).nox) (i := 1) (c := .ref T.a_TideError) (Wout := fun _ _ _ _ => False)
      (tb := fun W D σ H => ∃ Ech : XK, (∀ cls d σ1 H1, Ech cls d H1 → W cls d σ1 H1) ∧ σ[0]? = some (some (.ref f)) ∧ H c' = some (CodeO c' q) ∧ tl Ech H (fun _ H1 => D.nx σ H1))
      (ts := fun a cls d D σ H => ∃ (Dd : Addr) (g : Nat → Bool), cls = .ref Dd ∧ d = none ∧ ExcC X.K Dd ∧ (∀ i c, (kindC T)[i]? = some c → PySem.W.kitOne X.K (.ref Dd) c = some (g i)) ∧ (σ.length = 2 → σ[1]? = some (some (.ref a))) ∧ ∀ H2, Ex H H2 → D.rt (.str (kindW g)) H2)
      rfl rfl sc_law_word.nd rfl rfl ⟨rfl, by decide, .inl T.x_TideError.g⟩ (fun u s' z => ?tk) (fun W pn xe tk _ => ?body) (fun a oe cls d pn hz hf => ?suite)) (pss_cons (ps_ret pe_str) pss_nil), ?fin⟩
  case tk =>
    obtain ⟨_, _, _, _, _, _, _, _, _, _, _, _, _, _, _, _, z⟩ := z
    exact z.elim
  case body =>
    refine ⟨fun pins s1 σ H1 D I want => ?_⟩
    obtain ⟨Ech, hW, h1, h2, h3⟩ := want
    exact (pss_cons (ps_expr (act W pn xe Ech _ _ tk hW)) pss_nil).run pins s1 σ H1 D I ⟨h1, h2, h3⟩
  case suite =>
    refine ⟨fun pins s1 σ H1 D I want => ?_⟩
    obtain ⟨Dd, g, rfl, rfl, hD, hkd, hs, hq⟩ := want
    obtain ⟨vs, hv⟩ := hf
    exact (pss_cons (ps_ret (pe_callP (X := (cxOf C8.CX0 X.prog X.w X.K X.mg X.base N_law_word "_law_word" (defScope s_law_word) T.a_law_word cdg X.A X.stack s H C8.E0).nox.suite a ((a, oe) :: pn)) (p := (a, oe)) (x := "_law_kind") (E := fun _ _ _ _ => False) (ok_kind T) ⟨(hroom.mono hk).dp, (hroom.mono hk).un⟩ ⟨rfl, vs, hv, hz.2.2 vs hv⟩ List.mem_cons_self (by rfl) T.g_law_kind T.F_law_kind.kp T.b_law_kind (fun _ _ _ _ _ _ _ z => z.elim) (pa_cons (pv 1) pa_nil))) pss_nil).run pins s1 σ H1 D I ⟨_, hs I.len, Dd, g, rfl, hz.zc, ⟨vs, hv⟩, hD, hkd, hq⟩
  case fin =>
    refine ⟨_, fun cls d σ1 H1 he => ?_, rfl, hc, h⟩
    obtain ⟨D, g, rfl, rfl, hD, hm, hkd, hq⟩ := he
    exact ⟨true, hm, fun _ a ha => ⟨D, g, rfl, rfl, hD, hkd, fun e => by rw [List.length_set] at e; rw [List.getElem?_set_self (by rw [e]; decide)], hq⟩, fun z => nomatch z⟩

open LamX in
theorem pe_law_word {X : Cx} (T : Tx X.K X.mg) {c Pt : Addr} {k : Nat} {params : Arguments} {body : Expr} {scope : Scope} {t : XK → TE} {p lpos pos : Pos} (TB : TabB X.base X.mg c Pt) (hcode : X.env.code = .ref c) (hr : Room (k + 2) X.A) (hk : 1 ≤ k + 1) (hg : Gl X "_law_word")
    (L : LamS X.env.scope scope) (hdef : defaultsOf params X.env = ([], [])) (bnd : ∀ (q : Str) (cl : List (Str × Addr)) (pm cv ctv : Value), bindArgs (PySem.W.kla_fn "<lambda>" q params body scope cl pm cv ctv) ⟨[], []⟩ = pure [])
    (hb : ∀ (A : Around) (outer : List Env) (s : Shared) (H : Hp) (E : XK) (f c' : Addr), Room k (A.deeper (lamEnv X scope s.heap.objs.size f c')) → PE (lamN X A outer s H E scope f c') body (t E)) :
    PE X (.Call (.Name "_law_word" p) [.Lambda params body scope lpos] [] pos) (tLam [(Pt, X.env.qual ++ "<lambda>")] (TTw T) t) := by
  obtain ⟨oc, od, kV, doc, pm, an, cdv, ct, osl, e, lk, hcd⟩ := T.F_law_word.ex
  have bd := T.b_law_word
  rw [e] at bd lk
  refine pe_lamN hg T.g_law_word T.F_law_word.kp lk hcd bd sc_law_word rfl (.inl rfl) (word_gives T hk) TB hcode List.mem_cons_self (fun q hq _ => ?_) hr L hdef bnd hb
  cases hq with
  | head => rfl
  | tail _ h => cases h
/-- a class whose errors have this word -/
def Known (T : Tx K mg) (wd : Str) (C : Addr) : Prop := ExcC K C ∧ PySem.W.exmOne K (.ref C) (.ref T.a_TideError) = some true ∧ ∃ f : Nat → Bool, (∀ i c, (kindC T)[i]? = some c → PySem.W.kitOne K (.ref C) c = some (f i)) ∧ kindW f = wd
open LamX in
theorem word_run (T : Tx K mg) {Tt : List (Addr × Str)} {t : XK → TE} {σ : L2.St} {H : Hp} {Q : VK} {wd : Str} (ht : Tabs Tt H)
    (hb : ∀ H1, ExtN H H1 → ∀ (E : XK) (Q1 : VK), (wd = "" → ∀ v H2, Ex H1 H2 → Q1 v H2) → (∀ C, Known T wd C → ∀ H2, Ex H1 H2 → E (.ref C) none H2) → t E σ H1 Q1)
    (k : ∀ H2, ExtN H H2 → Tabs Tt H2 → Q (.str wd) H2) : tLam Tt (TTw T) t σ H Q := by
  refine ⟨ht, fun H1 e1 t1 => hb H1 e1 _ _ (fun z v H2 e2 => ?_) fun C hC H2 e2 => ?_⟩
  · rw [← z]
    exact k H2 (e1.trans (ExtN.of e2)) (t1.ext e2)
  · obtain ⟨h1, h2, f, h3, rfl⟩ := hC
    exact ⟨C, f, rfl, rfl, h1, h2, h3, fun H3 e3 => k H3 ((e1.trans (ExtN.of e2)).trans (ExtN.of e3)) ((t1.ext e2).ext e3)⟩

open LamX in
/-- what a lambda's body must do, that the word is wd -/
def WordB (T : Tx K mg) (t : XK → TE) (σ : L2.St) (H : Hp) (wd : Str) : Prop := ∀ H1, ExtN H H1 → ∀ (E : XK) (Q1 : VK), (wd = "" → ∀ v H2, Ex H1 H2 → Q1 v H2) → (∀ C, Known T wd C → ∀ H2, Ex H1 H2 → E (.ref C) none H2) → t E σ H1 Q1
open LamX in
theorem go_asgW (T : Tx K mg) {Tt : List (Addr × Str)} {t : XK → TE} {σ : L2.St} {H : Hp} {wd : Str} {tz : TS} {D : Ends} {i : Nat} (ht : Tabs Tt H) (hb : WordB T t σ H wd)
    (k : ∀ p H1, ExtN H H1 → Tabs Tt H1 → H1 p = none → Go tz D (σ.set i (some (.ref p))) (upd H1 p (.lst [.str wd]))) : Go (tSeq (tAsg (tLst (tCons (tLam Tt (TTw T) t) tNil)) (gName i)) tz) D σ H := fun H0 e0 =>
  word_run T (ht.ext e0) (fun H1 e1 => hb H1 ((ExtN.of e0).trans e1)) fun H1 e1 t1 => ⟨by show 1 ≤ sizeLine; decide, fun p hp => k p H1 ((ExtN.of e0).trans e1) t1 hp _ (Ex.refl _)⟩
open LamX in
theorem go_appW (T : Tx K mg) {Tt : List (Addr × Str)} {t : XK → TE} {σ : L2.St} {H : Hp} {wd : Str} {tz : TS} {D : Ends} {ta : TE} {l : Addr} {xs : List V} (hl : H l = some (.lst xs)) (ha : Ev ta σ H (.ref l)) (hz : xs.length < 100000) (ht : Tabs Tt H) (hb : WordB T t σ H wd)
    (k : ∀ H1, ExtN H H1 → Tabs Tt H1 → Go tz D σ (upd H1 l (.lst (xs ++ [.str wd])))) : Go (tSeq (tDrop (tBM K "list" rAppend ta (tCons (tLam Tt (TTw T) t) tNil))) tz) D σ H := fun H0 e0 =>
  ha H0 e0 _ fun H2 e2 => ⟨Or.inl ⟨rfl, xs, sq_of ((e0.trans e2) _ _ hl)⟩, word_run T (ht.ext (e0.trans e2)) (fun H1 e1 => hb H1 ((ExtN.of (e0.trans e2)).trans e1)) fun H1 e1 t1 =>
    ⟨l, xs, .str wd, rfl, rfl, lst_extN ((e0.trans e2) _ _ hl) e1, sz_lt hz, k H1 ((ExtN.of (e0.trans e2)).trans e1) t1 _ (Ex.refl _)⟩⟩
theorem known_clock (T : Tx K mg) : Known T "clock" T.a_BadClock := ⟨T.e_BadClock, T.m_BadClock, _, T.k_BadClock.get, by decide +kernel⟩
theorem known_hour (T : Tx K mg) : Known T "hour" T.a_BadHour := ⟨T.e_BadHour, T.m_BadHour, _, T.k_BadHour.get, by decide +kernel⟩
/-- the word that is due of a clock and hours -/
def hw (c : Int) (hs : List Int) : Str := if isClock c = true then (if hs.all (inClock c) = true then "" else "hour") else "clock"
theorem hw_clock {c : Int} {hs : List Int} (h : isClock c = false) : hw c hs = "clock" := by
  unfold hw
  rw [if_neg (by rw [h]; decide)]
theorem hw_hour {c : Int} {hs : List Int} (h : isClock c = true) (h2 : hs.all (inClock c) = false) : hw c hs = "hour" := by
  unfold hw
  rw [if_pos h, if_neg (by rw [h2]; decide)]
theorem hw_good {c : Int} {hs : List Int} (h : isClock c = true) (h2 : hs.all (inClock c) = true) : hw c hs = "" := by
  unfold hw
  rw [if_pos h, if_pos h2]
theorem wb_step (T : Tx K mg) {tr : TA} {σ : L2.St} {H : Hp} {c a b : Int} (h : EvDA K tr σ hp0 [.int c, .int a, .int b]) : WordB T (fun E => tCall (spX K RX_step (XX_step T)) [] E tr) σ H (hw c [a, b]) := fun H1 _ E Q1 ok no => by
  cases hc : isClock c with
  | false => exact tx_no ex0 h (fun _ => .nil) ⟨c, a, b, rfl, .inl ⟨hc, rfl⟩⟩ (no _ (by rw [hw_clock hc]; exact known_clock T))
  | true =>
    cases ha : [a, b].all (inClock c) with
    | false => exact tx_no ex0 h (fun _ => .nil) ⟨c, a, b, rfl, .inr ⟨hc, ha, rfl⟩⟩ (no _ (by rw [hw_hour hc ha]; exact known_hour T))
    | true => exact tx_ok ex0 h (fun _ => .nil) ⟨c, a, b, rfl, hc, ha, rfl⟩ fun v H2 Hn g _ => ok (hw_good hc ha) v H2 g.ex
theorem wb_after (T : Tx K mg) {tr : TA} {σ : L2.St} {H : Hp} {c a b : Int} (h : EvDA K tr σ hp0 [.int c, .int a, .int b]) : WordB T (fun E => tCall (spX K RX_after (XX_after T)) [] E tr) σ H (hw c [a]) := fun H1 _ E Q1 ok no => by
  cases hc : isClock c with
  | false => exact tx_no ex0 h (fun _ => .nil) ⟨c, a, b, rfl, .inl ⟨hc, rfl⟩⟩ (no _ (by rw [hw_clock hc]; exact known_clock T))
  | true =>
    cases ha : inClock c a with
    | false => exact tx_no ex0 h (fun _ => .nil) ⟨c, a, b, rfl, .inr ⟨hc, ha, rfl⟩⟩ (no _ (by rw [hw_hour hc (by simp [ha])]; exact known_hour T))
    | true => exact tx_ok ex0 h (fun _ => .nil) ⟨c, a, b, rfl, hc, ha, rfl⟩ fun v H2 Hn g _ => ok (hw_good hc (by simp [ha])) v H2 g.ex
theorem wb_rounds (T : Tx K mg) {tr : TA} {σ : L2.St} {H : Hp} {c : Int} {hs : List Int} (hl : hs.length ≤ 40000) (h : EvDA K tr σ hp0 [.int c, .list (hs.map .int)]) : WordB T (fun E => tCall (spX K RX_rounds (XX_rounds T)) [] E tr) σ H (hw c hs) := fun H1 _ E Q1 ok no => by
  cases hc : isClock c with
  | false => exact tx_no ex0 h (fun _ => .nil) ⟨c, hs, rfl, hl, .inl ⟨hc, rfl⟩⟩ (no _ (by rw [hw_clock hc]; exact known_clock T))
  | true =>
    cases ha : hs.all (inClock c) with
    | false => exact tx_no ex0 h (fun _ => .nil) ⟨c, hs, rfl, hl, .inr ⟨hc, ha, rfl⟩⟩ (no _ (by rw [hw_hour hc ha]; exact known_hour T))
    | true => exact tx_ok ex0 h (fun _ => .nil) ⟨c, hs, rfl, hl, hc, ha, rfl⟩ fun v H2 Hn g _ => ok (hw_good hc ha) v H2 g.ex

/-! ### the law's draws -/
def R_mixed (vs : List V) (v : V) : Prop := ∃ a b, vs = [.int a, .int b] ∧ ∃ r, v = .int r
def spMixed : Sp := fun vs H Q _ => ∃ a b, vs = [.int a, .int b] ∧ ∀ r H2, Ex H H2 → Q (.int r) H2
theorem ok_law_mixed (T : Tx K mg) : FnOk P w K mg base CX0 1 T.a_law_mixed T.d_law_mixed ["_law_number_here", "_law_turn"] spMixed := by
  refine T.F_law_mixed.ok sc_law_mixed (fun vs H Q E h => ?_) (fun cdv A outer s H vs Q E hr h => ?_)
  · obtain ⟨a, b, rfl, q⟩ := h
    rfl
  · obtain ⟨a, b, rfl, q⟩ := h
    refine ⟨_, (pss_cons (ps_set (i := 2) sc_law_mixed.nd rfl (.inl rfl) (pe_op op_mod (pe_op op_add (pe_op op_add (pe_op op_mul (pv 0) pe_int) (pe_op op_mul (pv 1) pe_int)) pe_int) pe_int))
      (pss_cons (ps_set (i := 3) sc_law_mixed.nd rfl (.inl rfl) (pe_op op_add (pe_op op_mul (pv 1) pe_int) (pe_op op_mod (pe_op op_fdiv (pv 0) pe_int) pe_int)))
      (pss_cons (ps_ret (pe_op op_fdiv (pe_op op_mod (pe_op op_add (pe_op op_mul (pv 2) (pe_op op_add (pe_op op_mod (pv 2) pe_int) pe_int)) (pv 3)) pe_int) pe_int))
      pss_nil))), Go.go ?_⟩
    have h1 : ∀ x y : Int, 0 ≤ x % y + y * 0 ∨ y = 0 := fun x y => by
      by_cases h : y = 0
      · exact .inr h
      · exact .inl (by have := Int.emod_nonneg x h; omega)
    apply go_asg
    · walk_at "ev"
    have h2 : ∀ x : Int, 0 ≤ x % 2147483647 ∧ x % 2147483647 < 2147483647 := fun x => ⟨by omega, by omega⟩
    generalize hz : (a * 7919 + b * 104729 + 17) % 2147483647 = z
    have hz2 := h2 (a * 7919 + b * 104729 + 17)
    rw [hz] at hz2
    apply go_asg
    · walk_at "ev"
    apply go_retV
    · walk_at "ev"
    exact fun H' e => q _ H' e
/-- a call that gives some int -/
theorem ev_mixed {σ : L2.St} {H : Hp} {E : XK} {tr : TA} {a b : Int} (h : EvA tr σ H [.int a, .int b]) {Q : VK} (k : ∀ r H2, Ex H H2 → Q (.int r) H2) : tCall spMixed [] E tr σ H Q :=
  h H (Ex.refl H) _ fun H2 e2 => ⟨a, b, rfl, fun r H3 e3 => k r H3 (e2.trans e3)⟩
def PreTake (ds : List PyData) : Prop := ∃ m : Int, ds = [.int m] ∧ 0 < m ∧ m < 2 ^ 80
def RTake (ds : List PyData) (d : PyData) : Prop := ∃ m r : Int, ds = [.int m] ∧ d = .int r ∧ 0 ≤ r ∧ r < m
theorem ok_law_take (T : Tx K mg) : FnOk P w K mg base CX0 2 T.a_law_take T.d_law_take ["_law_box_here", "_law_many"] (spB K PreTake RTake) := by
  refine T.F_law_take.ok sc_law_take (fun vs H Q E h => ?_) (fun cdv A outer s H vs Q E hr h => ?_)
  · obtain ⟨b, ws, Hd, ds, rfl, hb, sx, B, hds, ⟨m, rfl, hm, hm2⟩, q⟩ := h
    cases hds with
    | cons h1 h2 => cases h2; rfl
  · obtain ⟨b, ws, Hd, ds, rfl, hb, sx, B, hds, ⟨m, rfl, hm, hm2⟩, q⟩ := h
    obtain ⟨m', rfl⟩ : ∃ m', ws = [m'] := by
      cases hds with
      | cons h1 h2 => cases h2; exact ⟨_, rfl⟩
    have em : m' = .int m := by
      cases hds with
      | cons h1 h2 => cases h1; rfl
    subst em
    obtain ⟨bb, ca⟩ := b
    obtain ⟨cells, xs, h1, ⟨pos, rest, turn, seed, rfl, hpos⟩, h3, h4⟩ := B
    have nca : ca ≠ bb := by
      intro e
      subst e
      rw [h1] at h3
      have h5 := HO.lst.inj (Option.some.inj h3)
      cases cells with
      | nil => cases h5
      | cons c cs => cases h5
    have fin : ∀ (pos' rest' turn' r : Int) (H2 : Hp), 0 ≤ pos' → 0 ≤ r → r < m → Ex (upd H bb (.lst [.ref ca, .int pos', .int rest', .int turn', .int seed])) H2 → Q (.int r) H2 := fun pos' rest' turn' r H2 hp h0 hr e2 => by
      refine q (.int r) H2 Hd (.int r) ⟨fun a o n h => e2 a o (by rw [upd_ne n]; exact h), Ex.refl _, fun a o h => e2 a o (by rw [upd_ne (ne_of_none h hb)]; exact sx a o h), fun a o _ h => h, ?_⟩ (.int r) ⟨m, r, rfl, rfl, h0, hr⟩
      exact Bx.mono e2 ⟨cells, _, upd_same, ⟨pos', rest', turn', seed, rfl, hp⟩, by rw [upd_ne nca]; exact h3, h4⟩
    have wd : ∀ z : Int, CDivW z m := fun z => wide_div (b := 80) hm (by omega) (by decide) (by decide)
    have mm : ∀ z : Int, 0 ≤ z % m ∧ z % m < m := fun z => ⟨Int.emod_nonneg z (by omega), Int.emod_lt_of_pos z hm⟩
    refine ⟨_, (pss_cons (ps_asg (pe_op op_add (pe_ix (r := rIxL K) ix_list (pv 0) pe_int (fun _ _ => rfl)) pe_int) (pg_sub (pv 0) pe_int set_list))
      (pss_cons (ps_if (pt_cmpR op_gt (pe_ix (r := rIxL K) ix_list (pv 0) pe_int (fun _ _ => rfl)) pe_int (nomark _)) (pss_cons (ps_set (i := 2) sc_law_take.nd rfl (.inl rfl) (pe_ix (r := rIxL K) ix_list (pv 0) pe_int (fun _ _ => rfl)))
      (pss_cons (ps_asg (pe_op op_fdivW (pv 2) (pv 1)) (pg_sub (pv 0) pe_int set_list))
      (pss_cons (ps_ret (pe_op op_mod (pv 2) (pv 1)))
      pss_nil))) pss_nil)
      (pss_cons (ps_if (pt_cmpR op_ge (pe_ix (r := rIxL K) ix_list (pv 0) pe_int (fun _ _ => rfl)) (pe_callB (r := rLenS K) call_lenQ (by rfl) T.n_len PySem.boot_len (pa_cons (pe_ix (r := rIxL K) ix_list (pv 0) pe_int (fun _ _ => rfl)) pa_nil)) (nomark _)) (pss_cons (ps_ret (pe_op op_mod (pe_call (ok_law_mixed T) (hr.mono (by omega)) (by rfl) T.g_law_mixed T.F_law_mixed.kp T.b_law_mixed .nil pass0 (pa_cons (pe_ix (r := rIxL K) ix_list (pv 0) pe_int (fun _ _ => rfl)) (pa_cons (pe_ix (r := rIxL K) ix_list (pv 0) pe_int (fun _ _ => rfl)) pa_nil))) (pv 1)))
      pss_nil) pss_nil)
      (pss_cons (ps_set (i := 3) sc_law_take.nd rfl (.inl rfl) (pe_ix (r := rIxL K) ix_list (pe_ix (r := rIxL K) ix_list (pv 0) pe_int (fun _ _ => rfl)) (pe_ix (r := rIxL K) ix_list (pv 0) pe_int (fun _ _ => rfl)) (fun _ _ => rfl)))
      (pss_cons (ps_asg (pe_op op_add (pe_ix (r := rIxL K) ix_list (pv 0) pe_int (fun _ _ => rfl)) pe_int) (pg_sub (pv 0) pe_int set_list))
      (pss_cons (ps_if (pt_cmpR op_lt (pv 3) (pe_op op_pow pe_int pe_int) (nomark _)) (pss_cons (ps_ret (pe_op op_mod (pe_call (ok_law_mixed T) (hr.mono (by omega)) (by rfl) T.g_law_mixed T.F_law_mixed.kp T.b_law_mixed .nil pass0 (pa_cons (pe_op op_add (pv 3) (pe_ix (r := rIxL K) ix_list (pv 0) pe_int (fun _ _ => rfl))) (pa_cons (pe_ix (r := rIxL K) ix_list (pv 0) pe_int (fun _ _ => rfl)) pa_nil))) (pv 1)))
      pss_nil) pss_nil)
      (pss_cons (ps_asg (pe_op op_fdivW (pv 3) (pv 1)) (pg_sub (pv 0) pe_int set_list))
      (pss_cons (ps_ret (pe_op op_mod (pv 3) (pv 1)))
      pss_nil)))))))), Go.go ?_⟩
    refine go_setL (j := 3) h1 (v := .int (turn + 1)) ?_ (ev_var rfl) ev_c (by simp) ?_
    · walk_at "ev"
    show Go _ _ _ (upd H bb (.lst [.ref ca, .int pos, .int rest, .int (turn + 1), .int seed]))
    apply go_when
    · walk_at "et"
    · intro _
      apply go_asg
      · walk_at "ev"
      refine go_setL (j := 2) upd_same (v := .int (rest / m)) ?_ (ev_var rfl) ev_c (by simp) ?_
      · refine ev_op (ev_var rfl) (ev_var rfl) (rv_I (wd _))
      apply go_retV
      · walk_at "ev"
      rw [upd_upd]
      exact fun H' e => fin pos (rest / m) (turn + 1) _ H' hpos (mm _).1 (mm _).2 e
    intro _
    have h3' : upd H bb (.lst [.ref ca, .int pos, .int rest, .int (turn + 1), .int seed]) ca = some (.lst (cells.map V.int)) := by
      rw [upd_ne nca]
      exact h3
    apply go_when
    · apply et_test
      apply ev_op
      · walk_at "ev"
      · refine ev_len (K := K) (p := ca) ?_ (sq_of h3')
        walk_at "ev"
      · exact rv_I0
    · intro _ H1 e1
      refine ev_mixed (a := seed) (b := turn + 1) (EvA.mono e1 (by walk_at "ea")) fun r H2 e2 => ?_
      exact ⟨_, rfl, _, _, rfl, rfl, hm, fin pos rest (turn + 1) _ H2 hpos (mm _).1 (mm _).2 (e1.trans e2)⟩
    intro hlt
    have hlt2 : pos < (cells.length : Int) := by
      have h5 := of_decide_eq_false hlt
      rw [List.length_map] at h5
      omega
    have hget : atI (cells.map V.int) pos = some (.int (cells[pos.toNat]'(by omega))) := by
      refine at_of (j := pos.toNat) (by omega) ?_
      rw [List.getElem?_map, List.getElem?_eq_getElem (by omega)]
      rfl
    generalize hcell : cells[pos.toNat]'(by omega) = cell at hget
    apply go_asg (v := .int cell)
    · refine ev_op (x := .ref ca) (y := .int pos) (by walk_at "ev") (by walk_at "ev") (rv_ixL (K := K) (sq_of h3') hget)
    refine go_setL (j := 1) upd_same (v := .int (pos + 1)) ?_ (ev_var rfl) ev_c (by simp) ?_
    · walk_at "ev"
    rw [upd_upd]
    show Go _ _ _ (upd H bb (.lst [.ref ca, .int (pos + 1), .int rest, .int (turn + 1), .int seed]))
    apply go_when
    · walk_at "et"
    · intro _ H1 e1
      refine ev_mixed (a := cell + seed) (b := turn + 1) (EvA.mono e1 (by walk_at "ea")) fun r H2 e2 => ?_
      exact ⟨_, rfl, _, _, rfl, rfl, hm, fin (pos + 1) rest (turn + 1) _ H2 (by omega) (mm _).1 (mm _).2 (e1.trans e2)⟩
    intro _
    refine go_setL (j := 2) upd_same (v := .int (cell / m)) ?_ (ev_var rfl) ev_c (by simp) ?_
    · refine ev_op (ev_var rfl) (ev_var rfl) (rv_I (wd _))
    apply go_retV
    · walk_at "ev"
    rw [upd_upd]
    exact fun H' e => fin (pos + 1) (cell / m) (turn + 1) _ H' (by omega) (mm _).1 (mm _).2 e
theorem eb_take {σ : L2.St} {Hd : Hp} {E : XK} {b : Bid} {ta tb : TE} {m : Int} (ha : Ev ta σ Hd (.ref b.b)) (hm : Ev tb σ Hd (.int m)) (h0 : 0 < m) (h1 : m < 2 ^ 80) : EvB K b (tCall (spB K PreTake RTake) [] E (tCons ta (tCons tb tNil))) σ Hd (isI fun r => 0 ≤ r ∧ r < m) := by
  refine EvB.imp (eb_call ha (eba_cons (eb_ev hm) eba_nil) ?_) ?_
  · rintro ds ⟨d, es, rfl, ⟨i, rfl, rfl⟩, rfl⟩
    exact ⟨_, rfl, h0, h1⟩
  · rintro d ⟨ds, ⟨d', es, rfl, ⟨i, rfl, rfl⟩, rfl⟩, m', r, e1, rfl, h2, h3⟩
    cases e1
    exact ⟨r, rfl, h2, h3⟩

def RClock (ds : List PyData) (d : PyData) : Prop := ∃ c : Int, d = .int c ∧ isClock c = true
theorem ok_law_clock (T : Tx K mg) : FnOk P w K mg base CX0 3 T.a_law_clock T.d_law_clock ["_law_box_here"] (spB K (fun ds => ds = []) RClock) := by
  refine T.F_law_clock.ok sc_law_clock (fun vs H Q E h => ?_) (fun cdv A outer s H vs Q E hr h => ?_)
  · obtain ⟨b, ws, Hd, ds, rfl, hb, sx, B, hds, rfl, q⟩ := h
    cases hds
    rfl
  · obtain ⟨b, ws, Hd, ds, rfl, hb, sx, B, hds, rfl, q⟩ := h
    cases hds
    refine ⟨_, (pss_cons (ps_ret (pe_op op_add pe_int (pe_op op_mul pe_int (pe_call (ok_law_take T) (hr.mono (by omega)) (by rfl) T.g_law_take T.F_law_take.kp T.b_law_take .nil pass0 (pa_cons (pv 0) (pa_cons pe_int pa_nil))))))
      pss_nil), Go.go ?_⟩
    refine go_retB hb sx B (EvB.imp (eb_opI0 (K := K) (fun _ _ => rfl) (eb_ev ev_c) (eb_opI (fun _ _ => rfl) (eb_ev ev_c) (eb_take (ev_var rfl) ev_c (by decide) (by decide)) (fun i j hi hj => Or.inl (by omega)))) (P' := RClock []) ?_) q
    rintro d ⟨i, rfl, i1, j1, rfl, ⟨i2, j2, rfl, ⟨h1, h2⟩, rfl⟩, rfl⟩
    exact ⟨_, rfl, isClock_iff.mpr ⟨by omega, by omega, by omega⟩⟩
theorem eb_clock {σ : L2.St} {Hd : Hp} {E : XK} {b : Bid} {ta : TE} (ha : Ev ta σ Hd (.ref b.b)) : EvB K b (tCall (spB K (fun ds => ds = []) RClock) [] E (tCons ta tNil)) σ Hd (isI fun c => isClock c = true) := by
  refine EvB.imp (eb_call ha eba_nil fun ds e => e) ?_
  rintro d ⟨ds, rfl, c, rfl, h⟩
  exact ⟨c, rfl, h⟩
/-- the box is made -/
def spBox (K : PySem.W.Frag) : Sp := fun vs H Q _ => ∃ (a : Addr) (ns : List Int), vs = [.ref a] ∧ SqL K H a (ns.map V.int) ∧ ns.length ≤ 63 ∧ ∀ (b : Bid) H2, H b.b = none → H b.ca = none → Ex H H2 → Bx H2 b → Q (.ref b.b) H2
theorem cut_ints {ns : List Int} : cutV (ns.map V.int) none (some 63) = ((ns.take 63).map V.int) := by
  unfold cutV
  rw [HT.sIx_none, show HT.sIx (ns.map V.int).length (ns.map V.int).length (some 63) = min 63 (ns.map V.int).length from HT.sIx_nat _ _ 63]
  rw [List.drop_zero, Nat.sub_zero, List.length_map, List.map_take]
  by_cases h : 63 ≤ ns.length
  · rw [Nat.min_eq_left h]
  · rw [Nat.min_eq_right (by omega), List.take_of_length_le (by rw [List.length_map]; omega), List.take_of_length_le (by rw [List.length_map]; omega)]
theorem ok_law_box (T : Tx K mg) : FnOk P w K mg base CX0 1 T.a_law_box T.d_law_box ["_law_script"] (spBox K) := by
  refine T.F_law_box.ok sc_law_box (fun vs H Q E h => ?_) (fun cdv A outer s H vs Q E hr h => ?_)
  · obtain ⟨a, ns, rfl, _⟩ := h
    rfl
  · obtain ⟨a, ns, rfl, hL, hn, q⟩ := h
    refine ⟨_, (pss_cons (ps_set (i := 1) sc_law_box.nd rfl (.inl rfl) pe_int)
      (pss_cons (ps_for PassesOwn.never rfl (pi_list (pe_slice (r := rSlL K) sl_list (pv 0) po_none (po_some pe_int))) (pg_name (i := 2) sc_law_box.nd rfl (.inl rfl)) (pss_cons (ps_set (i := 1) sc_law_box.nd rfl (.inl rfl) (pe_op op_mod (pe_op op_add (pe_op op_add (pe_op op_mul (pv 1) pe_int) (pe_op op_mod (pv 2) pe_int)) pe_int) pe_int))
      pss_nil))
      (pss_cons (ps_ret (pe_lst (pa_cons (pe_callTy (r := rListS K) call_listQ (by rfl) T.n_list (by decide +kernel) (pa_cons (pe_slice (r := rSlL K) sl_list (pv 0) po_none (po_some pe_int)) pa_nil)) (pa_cons pe_int (pa_cons pe_int (pa_cons pe_int (pa_cons (pv 1) pa_nil)))))))
      pss_nil))), ?_⟩
    refine q_asg ev_c fun H1 e1 => ?_
    refine q_forNLn (K := K) (xs := (ns.take 63).map V.int) ?_ (fun p i σ H' => Ex H H' ∧ H p = none ∧ H' p = some (.lst ((ns.take 63).map V.int)) ∧ ∃ (z : Int) (x : Option V), σ = [some (.ref a), some (.int z), x]) (fun p H2 hp e2 h2 => ⟨e1.trans e2, fresh_back e1 hp, h2, 7, none, rfl⟩) (fun p i σ' H' _ h => sq_of h.2.2.1) ?_ ?_
    · rw [← cut_ints]
      exact el_sl (ev_var rfl) eo_none (eo_some ev_c) (ex_l e1 hL)
    · rintro p i x σ' H' hx ⟨e2, hp, h2, z, x0, rfl⟩
      rw [List.getElem?_map] at hx
      cases hh : (ns.take 63)[i]? with
      | none => rw [hh] at hx; cases hx
      | some y =>
        rw [hh] at hx
        cases hx
        refine Go.go ?_
        apply go_asg
        · walk_at "ev"
        exact go_next fun H3 e3 => ⟨e2.trans e3, hp, e3 _ _ h2, _, _, rfl⟩
    · rintro p σ' H' ⟨e2, hp, h2, z, x0, rfl⟩
      have hE : Ex H H' := e2
      refine el_sl (K := K) (ev_var rfl) eo_none (eo_some ev_c) (ex_l hE hL) H' (Ex.refl _) _ fun c H4 hc e4 h4 => ?_
      rw [cut_ints] at h4
      refine ⟨c, _, rfl, Or.inl (sq_of h4), fun l hl => ?_⟩
      refine ⟨.int z, rfl, by show 5 ≤ sizeLine; decide, fun b hb => ?_⟩
      have nlb : l ≠ b := fun e => by
        subst e
        rw [upd_same] at hb
        cases hb
      have hb4 : H4 b = none := by
        rw [upd_ne nlb.symm] at hb
        exact hb
      refine q ⟨b, l⟩ _ (fresh_back (hE.trans e4) hb4) (fresh_back (hE.trans e4) hl) (((hE.trans e4).trans (Ex.new hl)).trans (Ex.new hb)) ⟨ns.take 63, _, upd_same, ⟨0, 0, 0, z, rfl, by decide⟩, ?_, ?_⟩
      · rw [upd_ne nlb, upd_same]
      · rw [List.length_take]
        omega
theorem go_box {σ : L2.St} {H : Hp} {E : XK} {ta : TE} {tz : TS} {D : Ends} {i : Nat} {a : Addr} {ns : List Int} (hL : SqL K H a (ns.map V.int)) (hn : ns.length ≤ 63) (h : Ev ta σ H (.ref a)) (k : ∀ (b : Bid) H', H b.b = none → H b.ca = none → Ex H H' → Bx H' b → Go tz D (σ.set i (some (.ref b.b))) H') : Go (tSeq (tAsg (tCall (spBox K) [] E (tCons ta tNil)) (gName i)) tz) D σ H := fun H1 e1 =>
  h H1 e1 _ fun H2 e2 => ⟨a, ns, rfl, ex_l (e1.trans e2) hL, hn, fun b H3 hb hc e3 B => k b H3 (fresh_back (e1.trans e2) hb) (fresh_back (e1.trans e2) hc) ((e1.trans e2).trans e3) B H3 (Ex.refl _)⟩
def sp_law (K : PySem.W.Frag) : Sp := fun vs H Q _ => ∃ (a : Addr) (ns : List Int), vs = [.ref a] ∧ SqL K H a (ns.map V.int) ∧ ns.length ≤ 63 ∧ ∀ H', Q (.bl true) H'

theorem ok_law_number (T : Tx K mg) : FnOk P w K mg base CX0 3 T.a_law_number T.d_law_number ["_law_box_here"] (spB K (fun ds => ds = []) (fun _ => isI fun n => -(10 ^ 30) ≤ n ∧ n ≤ 10 ^ 30)) := by
  refine T.F_law_number.ok sc_law_number (fun vs H Q E h => ?_) (fun cdv A outer s H vs Q E hr h => ?_)
  · obtain ⟨b, ws, Hd, ds, rfl, hb, sx, B, hds, rfl, q⟩ := h
    cases hds
    rfl
  · obtain ⟨b, ws, Hd, ds, rfl, hb, sx, B, hds, rfl, q⟩ := h
    cases hds
    refine ⟨_, (pss_cons (ps_ret (pe_ix (r := rIxL K) ix_list (pe_lst (pa_cons (pe_un un_neg (pe_op op_pow pe_int pe_int)) (pa_cons (pe_un un_neg pe_int) (pa_cons pe_int (pa_cons pe_int (pa_cons pe_int (pa_cons pe_int (pa_cons pe_int (pa_cons pe_int (pa_cons pe_int (pa_cons pe_int (pa_cons pe_int (pa_cons pe_int (pa_cons (pe_op op_pow pe_int pe_int) pa_nil)))))))))))))) (pe_call (ok_law_take T) (hr.mono (by omega)) (by rfl) T.g_law_take T.F_law_take.kp T.b_law_take .nil pass0 (pa_cons (pv 0) (pa_cons pe_int pa_nil))) (fun _ _ => rfl)))
      pss_nil), Go.go ?_⟩
    refine go_retB hb sx B (eb_pick (K := K) (n := 13) ?_ (eb_take (ev_var rfl) ev_c (m := 13) (by decide) (by decide)) (by decide)) q
    refine ap_cons (eb_int (m := -(10 ^ 30)) (ev_is (by walk_at "ev") (by decide)) (by decide)) ?_
    refine ap_cons (eb_int (by walk_at "ev") (by decide)) ?_
    refine ap_cons (eb_int ev_c (by decide)) (ap_cons (eb_int ev_c (by decide)) (ap_cons (eb_int ev_c (by decide)) (ap_cons (eb_int ev_c (by decide)) (ap_cons (eb_int ev_c (by decide)) (ap_cons (eb_int ev_c (by decide)) (ap_cons (eb_int ev_c (by decide)) (ap_cons (eb_int ev_c (by decide)) (ap_cons (eb_int ev_c (by decide)) (ap_cons (eb_int ev_c (by decide)) (ap_cons (eb_int (m := 10 ^ 30) (ev_is (by walk_at "ev") (by decide)) (by decide)) ap_nil))))))))))
theorem eb_number {σ : L2.St} {Hd : Hp} {E : XK} {b : Bid} {ta : TE} (ha : Ev ta σ Hd (.ref b.b)) : EvB K b (tCall (spB K (fun ds => ds = []) (fun _ => isI fun n => -(10 ^ 30) ≤ n ∧ n ≤ 10 ^ 30)) [] E (tCons ta tNil)) σ Hd (isI fun n => -(10 ^ 30) ≤ n ∧ n ≤ 10 ^ 30) := by
  refine EvB.imp (eb_call ha eba_nil fun ds e => e) ?_
  rintro d ⟨ds, rfl, h⟩
  exact h

/-! ### the law -/
def sp_lawT (K : PySem.W.Frag) (Pt : Addr) : Sp := fun vs H Q _ => ∃ (a : Addr) (ns : List Int), vs = [.ref a] ∧ SqL K H a (ns.map V.int) ∧ ns.length ≤ 63 ∧ H Pt = some (.tbl #[]) ∧ ∀ H', Q (.bl true) H'
theorem in_clocksAll (c : Int) : inV (.int c) [.int 3, .int 5, .int 7, .int 9, .int 11, .int 13, .int 15] = isClock c := by
  cases h : isClock c with
  | true =>
    have h := isClock_iff.mp h
    obtain rfl | rfl | rfl | rfl | rfl | rfl | rfl : c = 3 ∨ c = 5 ∨ c = 7 ∨ c = 9 ∨ c = 11 ∨ c = 13 ∨ c = 15 := by omega
    all_goals decide
  | false =>
    have hn : ¬ (3 ≤ c ∧ c ≤ 15 ∧ c % 2 = 1) := fun z => by
      rw [isClock_iff.mpr z] at h
      cases h
    have d : ∀ n : Int, n ≠ c → eqV (.int n) (.int c) = false := fun n hne => by
      show decide _ = false
      simp [hne]
    unfold inV
    simp only [List.any_cons, List.any_nil]
    rw [d 3 (by omega), d 5 (by omega), d 7 (by omega), d 9 (by omega), d 11 (by omega), d 13 (by omega), d 15 (by omega)]
    rfl
def hourW (k : Bool) : Str := if k then "hour" else ""
theorem hourW_two (k : Bool) : (if k then PyData.str "hour" else PyData.str "") = .str (hourW k) := by cases k <;> rfl
theorem hw_is (c : Int) (hs : List Int) : hw c hs = "" ∨ hw c hs = "hour" ∨ hw c hs = "clock" := by
  unfold hw
  split
  · split
    · exact .inl rfl
    · exact .inr (.inl rfl)
  · exact .inr (.inr rfl)
theorem atI_two {k : Bool} {x y : PyData} : atI [x, y] (if k then 1 else 0) = some (if k then y else x) := by cases k <;> rfl
theorem ed_two {σ : L2.St} {Hd : Hp} {ta tb : TE} {k : Bool} {x y : PyData} (ha : EvD K ta σ Hd (.list [x, y])) (hk : Ev tb σ Hd (.bl k)) : EvD K (tOp (rIxL K) ta (tCB rInt1 (tCons tb tNil))) σ Hd (if k then y else x) := ed_ixL ha (ev_intB hk) atI_two
theorem ok_law (T : Tx K mg) {c Pt : Addr} {kV doc pm ct oc : Value} {an od : Option Addr} {osl : Array (Option Value)} (lk : K.lookup T.a_law = some ⟨oc, od, .func (PySem.W.fnOf "law" "law" (defArgs s_law) (defBody s_law) (defScope s_law) .none kV doc pm an (.ref c) ct), osl⟩)
    (hcd : PySem.W.codeIn K (.ref c) "law" = true) (TB : LamX.TabB base mg c Pt) : FnOk P w K mg base CX0 6 T.a_law (PySem.W.fnOf "law" "law" (defArgs s_law) (defBody s_law) (defScope s_law) .none kV doc pm an (.ref c) ct) ["_law_script"] (sp_lawT K Pt) := by
  refine fn_of lk hcd sc_law (fun vs H Q E h => ?_) (fun A outer s H vs Q E hr h => ?_)
  · obtain ⟨a, ns, rfl, _⟩ := h
    rfl
  · obtain ⟨a, ns, rfl, hL, hn, hP, q⟩ := h
    refine ⟨_, PSs.nox (pss_cons (ps_set (i := 1) sc_law.nd rfl (.inl rfl) (pe_call (ok_law_box T) (hr.mono (by omega)) (by rfl) T.g_law_box T.F_law_box.kp T.b_law_box .nil pass0 (pa_cons (pv 0) pa_nil)))
      (pss_cons (ps_for PassesOwn.never rfl (pi_range1 (by rfl) T.n_range (pa_cons pe_int pa_nil)) (pg_name (i := 2) sc_law.nd rfl (.inl rfl)) (pss_cons (ps_set (i := 3) sc_law.nd rfl (.inr rfl) (pe_ix (r := rIxL K) ix_list (pe_lst (pa_cons (pe_call (ok_law_clock T) (hr.mono (by omega)) (by rfl) T.g_law_clock T.F_law_clock.kp T.b_law_clock .nil pass0 (pa_cons (pv 1) pa_nil)) (pa_cons (pe_call (ok_law_number T) (hr.mono (by omega)) (by rfl) T.g_law_number T.F_law_number.kp T.b_law_number .nil pass0 (pa_cons (pv 1) pa_nil)) (pa_cons pe_int (pa_cons pe_int (pa_cons pe_int (pa_cons (pe_un un_neg pe_int) (pa_cons pe_int pa_nil)))))))) (pe_call (ok_law_take T) (hr.mono (by omega)) (by rfl) T.g_law_take T.F_law_take.kp T.b_law_take .nil pass0 (pa_cons (pv 1) (pa_cons pe_int pa_nil))) (fun _ _ => rfl)))
      (pss_cons (ps_set (i := 4) sc_law.nd rfl (.inl rfl) (pe_cmpR (r := rIn K false) op_in_seq (pv 3) (pe_tup (pa_cons pe_int (pa_cons pe_int (pa_cons pe_int (pa_cons pe_int (pa_cons pe_int (pa_cons pe_int (pa_cons pe_int pa_nil)))))))) (by rfl)))
      (pss_cons (ps_set (i := 5) sc_law.nd rfl (.inr rfl) (pe_ix (r := rIxL K) ix_list (pe_lst (pa_cons (pe_call (ok_law_number T) (hr.mono (by omega)) (by rfl) T.g_law_number T.F_law_number.kp T.b_law_number .nil pass0 (pa_cons (pv 1) pa_nil)) (pa_cons pe_int (pa_cons pe_int (pa_cons (pv 3) (pa_cons (pe_op op_sub (pv 3) pe_int) pa_nil)))))) (pe_call (ok_law_take T) (hr.mono (by omega)) (by rfl) T.g_law_take T.F_law_take.kp T.b_law_take .nil pass0 (pa_cons (pv 1) (pa_cons pe_int pa_nil))) (fun _ _ => rfl)))
      (pss_cons (ps_set (i := 6) sc_law.nd rfl (.inr rfl) (pe_ix (r := rIxL K) ix_list (pe_lst (pa_cons (pe_call (ok_law_number T) (hr.mono (by omega)) (by rfl) T.g_law_number T.F_law_number.kp T.b_law_number .nil pass0 (pa_cons (pv 1) pa_nil)) (pa_cons pe_int (pa_cons (pe_un un_neg pe_int) (pa_cons (pv 3) pa_nil))))) (pe_call (ok_law_take T) (hr.mono (by omega)) (by rfl) T.g_law_take T.F_law_take.kp T.b_law_take .nil pass0 (pa_cons (pv 1) (pa_cons pe_int pa_nil))) (fun _ _ => rfl)))
      (pss_cons (ps_set (i := 7) sc_law.nd rfl (.inl rfl) (pe_lst (pa_cons (pe_not (pe_chain op_le op_lt pe_int (pv 5) (pv 3))) (pa_cons (pe_not (pe_chain op_le op_lt pe_int (pv 6) (pv 3))) pa_nil))))
      (pss_cons (ps_set (i := 8) sc_law.nd rfl (.inl rfl) (pe_lst (pa_cons pe_str (pa_cons (pe_ix (r := rIxL K) ix_list (pe_lst (pa_cons pe_str (pa_cons pe_str pa_nil))) (pe_callTy (r := rInt1) call_intQ (by rfl) T.n_int (by decide +kernel) (pa_cons (pe_or (pe_ix (r := rIxL K) ix_list (pv 7) pe_int (fun _ _ => rfl)) (pe_one (pe_ix (r := rIxL K) ix_list (pv 7) pe_int (fun _ _ => rfl)))) pa_nil)) (fun _ _ => rfl)) (pa_cons (pe_ix (r := rIxL K) ix_list (pe_lst (pa_cons pe_str (pa_cons pe_str pa_nil))) (pe_callTy (r := rInt1) call_intQ (by rfl) T.n_int (by decide +kernel) (pa_cons (pe_ix (r := rIxL K) ix_list (pv 7) pe_int (fun _ _ => rfl)) pa_nil)) (fun _ _ => rfl)) pa_nil)))))
      (pss_cons (ps_set (i := 9) sc_law.nd rfl (.inl rfl) (pe_lst (pa_cons (pe_law_word T TB rfl hr (by decide) (by rfl) (LamX.lamS_by (sc := defScope s_law) (by decide +kernel)) rfl (fun _ _ _ _ _ => rfl) (fun _ _ _ _ E _ _ hr => (pe_call (okX_step T) (hr.mono (by omega)) (by rfl) T.g_step T.F_step.kp T.b_step .nil (L2N.passes_call (L2N.takes_of rfl rfl rfl rfl) (fun _ _ _ _ h => h)) (pa_cons (pv 3) (pa_cons (pv 5) (pa_cons (pv 6) pa_nil)))))) pa_nil)))
      (pss_cons (ps_expr (pe_bm PySem.F.plainAttrs_list PySem.F.slot_list_append PySem.F.type_list_append mt_append (pv 9) (pa_cons (pe_law_word T TB rfl hr (by decide) (by rfl) (LamX.lamS_by (sc := defScope s_law) (by decide +kernel)) rfl (fun _ _ _ _ _ => rfl) (fun _ _ _ _ E _ _ hr => (pe_call (okX_rounds T) (hr.mono (by omega)) (by rfl) T.g_rounds T.F_rounds.kp T.b_rounds .nil (L2N.passes_call (L2N.takes_of rfl rfl rfl rfl) (fun _ _ _ _ h => h)) (pa_cons (pv 3) (pa_cons (pe_lst (pa_cons (pv 5) (pa_cons (pv 6) pa_nil))) pa_nil))))) pa_nil)))
      (pss_cons (ps_expr (pe_bm PySem.F.plainAttrs_list PySem.F.slot_list_append PySem.F.type_list_append mt_append (pv 9) (pa_cons (pe_law_word T TB rfl hr (by decide) (by rfl) (LamX.lamS_by (sc := defScope s_law) (by decide +kernel)) rfl (fun _ _ _ _ _ => rfl) (fun _ _ _ _ E _ _ hr => (pe_call (okX_after T) (hr.mono (by omega)) (by rfl) T.g_after T.F_after.kp T.b_after .nil (L2N.passes_call (L2N.takes_of rfl rfl rfl rfl) (fun _ _ _ _ h => h)) (pa_cons (pv 3) (pa_cons (pv 5) (pa_cons (pv 6) pa_nil)))))) pa_nil)))
      (pss_cons (ps_if (pt_cmpR (r := rNeD K) (op_neD hr.units) (pv 9) (pe_ix (r := rIxL K) ix_list (pe_lst (pa_cons (pe_lst (pa_cons (pe_ix (r := rIxL K) ix_list (pv 8) pe_int (fun _ _ => rfl)) (pa_cons (pe_ix (r := rIxL K) ix_list (pv 8) pe_int (fun _ _ => rfl)) (pa_cons (pe_ix (r := rIxL K) ix_list (pv 8) pe_int (fun _ _ => rfl)) pa_nil)))) (pa_cons (pe_op op_rep (pe_lst (pa_cons pe_str pa_nil)) pe_int) pa_nil))) (pe_callTy (r := rInt1) call_intQ (by rfl) T.n_int (by decide +kernel) (pa_cons (pe_not (pv 4)) pa_nil)) (fun _ _ => rfl)) (nomark _)) (pss_cons (ps_ret pe_bl)
      pss_nil) pss_nil)
      pss_nil)))))))))))
      (pss_cons (ps_ret (pe_cmpR op_eq (pe_law_word T TB rfl hr (by decide) (by rfl) (LamX.lamS_by (sc := defScope s_law) (by decide +kernel)) rfl (fun _ _ _ _ _ => rfl) (fun _ _ _ _ E _ _ hr => (pe_call (okX_rounds T) (hr.mono (by omega)) (by rfl) T.g_rounds T.F_rounds.kp T.b_rounds .nil (L2N.passes_call (L2N.takes_of rfl rfl rfl rfl) (fun _ _ _ _ h => h)) (pa_cons pe_int (pa_cons (pe_lst pa_nil) pa_nil))))) pe_str (nomark _)))
      pss_nil))), Go.go ?_⟩
    have t0 : ∀ q, LamX.Tabs [(Pt, q)] H := fun q p hp => by
      cases hp with
      | head => exact LamX.TabS.nil hP
      | tail _ h => cases h
    refine go_box hL hn (ev_var rfl) fun b H1 hb _ e1 B => ?_
    refine go_forN (m := 6) (by walk_at "ea") (by decide) (fun i σ' H' => LamX.Tabs [(Pt, (envOfC "law" (defScope s_law) s.heap.objs.size T.a_law (.ref c)).qual ++ "<lambda>")] H' ∧ Bx H' b ∧ ∃ x2 x3 x4 x5 x6 x7 x8 x9, σ' = [some (.ref a), some (.ref b.b), x2, x3, x4, x5, x6, x7, x8, x9]) ?_ ?_ ?_
    · intro H' e
      exact ⟨(t0 _).ext (e1.trans e), B.mono e, _, _, _, _, _, _, _, _, rfl⟩
    · rintro i σ' H2 hi ⟨t2, B2, x2, x3, x4, x5, x6, x7, x8, x9, rfl⟩
      refine go_asgB (K := K) (Hd := hp0) rfl ex0 B2 (eb_pick (n := 7) (p := fun _ => True) (ap_cons (EvB.impI (eb_clock (ev_var rfl)) fun _ _ => trivial) (ap_cons (EvB.impI (eb_number (ev_var rfl)) fun _ _ => trivial) (ap_cons (eb_int ev_c trivial) (ap_cons (eb_int ev_c trivial) (ap_cons (eb_int ev_c trivial) (ap_cons (eb_int (by walk_at "ev") trivial) (ap_cons (eb_int ev_c trivial) ap_nil))))))) (eb_take (ev_var rfl) ev_c (m := 7) (by decide) (by decide)) (by decide)) ?_
      rintro v H3 Hm3 d g3 hd ⟨c0, rfl, _⟩
      cases hd
      have t3 := tabs_box t2 B2 g3
      have B3 := g3.bx
      refine go_asg (v := .bl (isClock c0)) (ev_is (ev_inU (K := K) (xs := [.int 3, .int 5, .int 7, .int 9, .int 11, .int 13, .int 15]) (ev_var rfl) (eu_tup (by walk_at "ea") (by simp)) rfl (by rfl)) (by rw [in_clocksAll])) ?_
      refine go_asgB (K := K) (Hd := hp0) rfl ex0 B3 (eb_pick (n := 5) (p := fun _ => True) (ap_cons (EvB.impI (eb_number (ev_var rfl)) fun _ _ => trivial) (ap_cons (eb_int ev_c trivial) (ap_cons (eb_int ev_c trivial) (ap_cons (eb_int (ev_var rfl) trivial) (ap_cons (eb_int (by walk_at "ev") trivial) ap_nil))))) (eb_take (ev_var rfl) ev_c (m := 5) (by decide) (by decide)) (by decide)) ?_
      rintro v H4 Hm4 d g4 hd ⟨one, rfl, _⟩
      cases hd
      have t4 := tabs_box t3 B3 g4
      have B4 := g4.bx
      refine go_asgB (K := K) (Hd := hp0) rfl ex0 B4 (eb_pick (n := 4) (p := fun _ => True) (ap_cons (EvB.impI (eb_number (ev_var rfl)) fun _ _ => trivial) (ap_cons (eb_int ev_c trivial) (ap_cons (eb_int (by walk_at "ev") trivial) (ap_cons (eb_int (ev_var rfl) trivial) ap_nil)))) (eb_take (ev_var rfl) ev_c (m := 4) (by decide) (by decide)) (by decide)) ?_
      rintro v H5 Hm5 d g5 hd ⟨other, rfl, _⟩
      cases hd
      have t5 := tabs_box t4 B4 g5
      have B5 := g5.bx
      refine go_asgN (K := K) (Hd := hp0) (ds := [!inClock c0 one, !inClock c0 other].map .bool) ex0 (en_lst (eda_cons (ed_bool (ev_is (by walk_at "ev") (by rfl))) (eda_cons (ed_bool (ev_is (by walk_at "ev") (by rfl))) eda_nil)) (by simp)) fun p7 xs7 H6 Hn6 g6 f6 n6 l6 d6 => ?_
      obtain rfl := dpa_bools_inv d6
      have t6 := tabs_ex t5 g6.ex
      have B6 := B5.mono g6.ex
      refine go_asgN (K := K) (Hd := H6) (ds := [("clock" : Str), hourW ((!inClock c0 one) || (!inClock c0 other)), hourW (!inClock c0 one)].map .str) (Ex.refl _) (en_lst (eda_cons (ed_str ev_c) (eda_cons (by rw [← hourW_two]; exact ed_two (ed_new (by walk_at "en")) (by walk_at "ev")) (eda_cons (by rw [← hourW_two]; exact ed_two (ed_new (by walk_at "en")) (by walk_at "ev")) eda_nil))) (by simp)) fun p8 xs8 H7 Hn7 g7 f7 n7 l7 d7 => ?_
      obtain rfl := dpa_strs_inv d7
      have t7 := tabs_ex t6 g7.ex
      have B7 := B6.mono g7.ex
      refine go_asgW T t7 (wb_step T (by walk_at "eda")) fun p9 H8 x8 t8 f8 => ?_
      have l8 := lst_extN l7 x8
      have B8 := (bx_extN B7 x8).mono (Ex.new (o := .lst [.str (hw c0 [one, other])]) f8)
      obtain ⟨m1, m2⟩ := (bx_extN B7 x8).apart f8
      have m3 : p8 ≠ p9 := ne_of_none l8 f8
      refine go_appW T upd_same (ev_var rfl) (by simp) (tabs_ex t8 (Ex.new f8)) (wb_rounds T (hs := [one, other]) (by simp) (show EvDA K _ _ hp0 [.int c0, .list [.int one, .int other]] from by walk_at "eda")) fun H9 y9 t9 => ?_
      have l9 : H9 p9 = some (.lst [.str (hw c0 [one, other])]) := lst_extN upd_same y9
      have l9b := lst_extN ((Ex.new (o := .lst [.str (hw c0 [one, other])]) f8) _ _ l8) y9
      have B9 : Bx (upd H9 p9 (.lst ([.str (hw c0 [one, other])] ++ [.str (hw c0 [one, other])]))) b := (bx_extN B8 y9).keep m1 m2
      have t9' := tabs_but (H2 := upd H9 p9 (.lst ([.str (hw c0 [one, other])] ++ [.str (hw c0 [one, other])]))) l9 (fun a o n h => by rw [upd_ne n]; exact h) t9
      refine go_appW T upd_same (ev_var rfl) (by simp) t9' (wb_after T (by walk_at "eda")) fun Ha ya ta => ?_
      have la : Ha p9 = some (.lst [.str (hw c0 [one, other]), .str (hw c0 [one, other])]) := lst_extN upd_same ya
      have lab := lst_extN (H := upd H9 p9 (.lst ([.str (hw c0 [one, other])] ++ [.str (hw c0 [one, other])]))) (by rw [upd_ne m3]; exact l9b) ya
      have Ba : Bx (upd Ha p9 (.lst ([.str (hw c0 [one, other]), .str (hw c0 [one, other])] ++ [.str (hw c0 [one])]))) b := (bx_extN B9 ya).keep m1 m2
      have ta' := tabs_but (H2 := upd Ha p9 (.lst ([.str (hw c0 [one, other]), .str (hw c0 [one, other])] ++ [.str (hw c0 [one])]))) la (fun a o n h => by rw [upd_ne n]; exact h) ta
      have lb : (upd Ha p9 (.lst ([.str (hw c0 [one, other]), .str (hw c0 [one, other])] ++ [.str (hw c0 [one])]))) p8 = some (.lst ([("clock" : Str), hourW ((!inClock c0 one) || (!inClock c0 other)), hourW (!inClock c0 one)].map V.str)) := by
        rw [upd_ne m3]
        exact lab
      have key : (if !isClock c0 then PyData.list [.str "clock", .str "clock", .str "clock"] else .list [.str (hourW ((!inClock c0 one) || (!inClock c0 other))), .str (hourW ((!inClock c0 one) || (!inClock c0 other))), .str (hourW (!inClock c0 one))]) = .list [.str (hw c0 [one, other]), .str (hw c0 [one, other]), .str (hw c0 [one])] := by
        cases hc : isClock c0 with
        | false =>
          rw [hw_clock hc, hw_clock hc]
          rfl
        | true =>
          show PyData.list _ = _
          have e1 : hourW ((!inClock c0 one) || (!inClock c0 other)) = hw c0 [one, other] := by
            unfold hw hourW
            rw [if_pos hc]
            cases h1 : inClock c0 one <;> cases h2 : inClock c0 other <;> simp [h1, h2]
          have e2 : hourW (!inClock c0 one) = hw c0 [one] := by
            unfold hw hourW
            rw [if_pos hc]
            cases h1 : inClock c0 one <;> simp [h1]
          rw [← e1, ← e2]
      have sh : SeqAt.shaped (.list [.str (hw c0 [one, other]), .str (hw c0 [one, other]), .str (hw c0 [one])]) = true ∧ PyData.eqv (.list [.str (hw c0 [one, other]), .str (hw c0 [one, other]), .str (hw c0 [one])]) (.list [.str (hw c0 [one, other]), .str (hw c0 [one, other]), .str (hw c0 [one])]) = true := by
        rcases hw_is c0 [one, other] with e1 | e1 | e1 <;> rcases hw_is c0 [one] with e2 | e2 | e2 <;> rw [e1, e2] <;> decide +kernel
      refine go_whenF (et_is (et_test (ev_neD (K := K) (d := .list [.str (hw c0 [one, other]), .str (hw c0 [one, other]), .str (hw c0 [one])]) (e := .list [.str (hw c0 [one, other]), .str (hw c0 [one, other]), .str (hw c0 [one])]) (ed_var rfl (.lst (sq_of upd_same) (.cons (.str _) (.cons (.str _) (.cons (.str _) .nil))))) ?dd sh.1 sh.1)) ?de) ?dn
      case dd =>
        rw [← key]
        refine ed_two (ed_new (en_lst (eda_cons (ed_new (en_lst (eda_cons ?d1 (eda_cons ?d1 (eda_cons ?d2 eda_nil))) (by simp))) (eda_cons (ed_new ?d3) eda_nil)) (by simp))) (by walk_at "ev")
        case d1 => exact ed_str (ev_op (ev_var rfl) ev_c (rv_ixL (K := K) (sq_of lb) rfl))
        case d2 => exact ed_str (ev_op (ev_var rfl) ev_c (rv_ixL (K := K) (sq_of lb) rfl))
        case d3 => exact en_rep (k := 3) (ds := [.str "clock"]) (en_lst (eda_cons (ed_str ev_c) eda_nil) (by simp)) ev_c (by decide) (by decide)
      case de =>
        rw [sh.2]
        rfl
      case dn =>
        exact go_next fun H2 e2 => ⟨tabs_ex ta' e2, Ba.mono e2, _, _, _, _, _, _, _, _, rfl⟩
    · rintro σ' H' ⟨t2, B2, x2, x3, x4, x5, x6, x7, x8, x9, rfl⟩
      refine fun H0 e0 => word_run T (wd := "clock") (t2.ext e0) (fun H1 x1 => wb_rounds T (hs := []) (c := 10) (by simp) (show EvDA K _ _ hp0 [.int 10, .list []] from by walk_at "eda") H1 x1) fun H3 x3 t3 => ?_
      exact rv_eq (x := .str "clock") (y := .str "clock") rfl H3 (Ex.refl _) _ fun H4 e4 => q H4

end
theorem all_mk {l : PySem.W.OpenLaw} {w : World} {K : PySem.W.Frag} {h : Heap} {mg : Str → Option Value} {fa : Addr} (X : K.In h) (G : h.Ns mainGlobals mg) (hfa : mg "law" = some (.ref fa))
    {f0 : Addr} {od0 an0 : Option Addr} {sl0 : Array (Option Value)} {oc0 kV0 dc0 pm0 cd0 ct0 : Value}
    {f1 : Addr} {od1 an1 : Option Addr} {sl1 : Array (Option Value)} {oc1 kV1 dc1 pm1 cd1 ct1 : Value}
    {f2 : Addr} {od2 an2 : Option Addr} {sl2 : Array (Option Value)} {oc2 kV2 dc2 pm2 cd2 ct2 : Value}
    {f3 : Addr} {od3 an3 : Option Addr} {sl3 : Array (Option Value)} {oc3 kV3 dc3 pm3 cd3 ct3 : Value}
    {f4 : Addr} {od4 an4 : Option Addr} {sl4 : Array (Option Value)} {oc4 kV4 dc4 pm4 cd4 ct4 : Value}
    {T5 : Addr} {oT5 : Value} {pT5 : Option Addr} {nT5 : Nat} {sT5 : Array (Option Value)} {u5_0 : Tok}
    {f5 : Addr} {od5 an5 : Option Addr} {sl5 : Array (Option Value)} {oc5 kV5 dc5 pm5 cd5 ct5 : Value}
    {f6 : Addr} {od6 an6 : Option Addr} {sl6 : Array (Option Value)} {oc6 kV6 dc6 pm6 cd6 ct6 : Value}
    {f7 : Addr} {od7 an7 : Option Addr} {sl7 : Array (Option Value)} {oc7 kV7 dc7 pm7 cd7 ct7 : Value}
    {f8 : Addr} {od8 an8 : Option Addr} {sl8 : Array (Option Value)} {oc8 kV8 dc8 pm8 cd8 ct8 : Value}
    {f9 : Addr} {od9 an9 : Option Addr} {sl9 : Array (Option Value)} {oc9 kV9 dc9 pm9 cd9 ct9 : Value}
    {f10 : Addr} {od10 an10 : Option Addr} {sl10 : Array (Option Value)} {oc10 kV10 dc10 pm10 cd10 ct10 : Value}
    {f11 : Addr} {od11 an11 : Option Addr} {sl11 : Array (Option Value)} {oc11 kV11 dc11 pm11 cd11 ct11 : Value}
    {f12 : Addr} {od12 an12 : Option Addr} {sl12 : Array (Option Value)} {oc12 kV12 dc12 pm12 cd12 ct12 : Value}
    {f13 : Addr} {od13 an13 : Option Addr} {sl13 : Array (Option Value)} {oc13 kV13 dc13 pm13 cd13 ct13 : Value}
    {f14 : Addr} {od14 an14 : Option Addr} {sl14 : Array (Option Value)} {oc14 kV14 dc14 pm14 ct14 : Value}
    {cL Pt : Addr}
    {t0 : Tok}
    {t1 : Tok}
    {C0 : Addr}
    {C1 : Addr}
    {C2 : Addr}
    {C3 : Addr}
    {C4 : Addr}
    {C5 : Addr}
    {C6 : Addr}
    {C7 : Addr}
    {C8 : Addr}
    {C9 : Addr}
    {C10 : Addr}
    {C11 : Addr}
    {C12 : Addr}
    {C13 : Addr}
    {C14 : Addr}
    {C15 : Addr}
    {C16 : Addr}
    {C17 : Addr}
    {C18 : Addr}
    (a0 : PySem.W.nsIn K mainGlobals "is_clock" = some (some (.ref f0))) (l0 : K.lookup f0 = some ⟨oc0, od0, .func (PySem.W.fnOf "is_clock" "is_clock" (defArgs s_is_clock) (defBody s_is_clock) (defScope s_is_clock) .none kV0 dc0 pm0 an0 cd0 ct0), sl0⟩) (c0 : PySem.W.codeIn K cd0 "is_clock" = true) (k0 : PySem.W.keepIn K (.ref f0) = true)
    (a1 : PySem.W.nsIn K mainGlobals "need_clock" = some (some (.ref f1))) (l1 : K.lookup f1 = some ⟨oc1, od1, .func (PySem.W.fnOf "need_clock" "need_clock" (defArgs s_need_clock) (defBody s_need_clock) (defScope s_need_clock) .none kV1 dc1 pm1 an1 cd1 ct1), sl1⟩) (c1 : PySem.W.codeIn K cd1 "need_clock" = true) (k1 : PySem.W.keepIn K (.ref f1) = true)
    (a2 : PySem.W.nsIn K mainGlobals "need_hours" = some (some (.ref f2))) (l2 : K.lookup f2 = some ⟨oc2, od2, .func (PySem.W.fnOf "need_hours" "need_hours" (defArgs s_need_hours) (defBody s_need_hours) (defScope s_need_hours) .none kV2 dc2 pm2 an2 cd2 ct2), sl2⟩) (c2 : PySem.W.codeIn K cd2 "need_hours" = true) (k2 : PySem.W.keepIn K (.ref f2) = true)
    (a3 : PySem.W.nsIn K mainGlobals "nearest_step" = some (some (.ref f3))) (l3 : K.lookup f3 = some ⟨oc3, od3, .func (PySem.W.fnOf "nearest_step" "nearest_step" (defArgs s_nearest_step) (defBody s_nearest_step) (defScope s_nearest_step) .none kV3 dc3 pm3 an3 cd3 ct3), sl3⟩) (c3 : PySem.W.codeIn K cd3 "nearest_step" = true) (k3 : PySem.W.keepIn K (.ref f3) = true)
    (a4 : PySem.W.nsIn K mainGlobals "step" = some (some (.ref f4))) (l4 : K.lookup f4 = some ⟨oc4, od4, .func (PySem.W.fnOf "step" "step" (defArgs s_step) (defBody s_step) (defScope s_step) .none kV4 dc4 pm4 an4 cd4 ct4), sl4⟩) (c4 : PySem.W.codeIn K cd4 "step" = true) (k4 : PySem.W.keepIn K (.ref f4) = true)
    (a5 : PySem.W.nsIn K mainGlobals "after" = some (some (.ref f5))) (l5 : K.lookup f5 = some ⟨oc5, od5, .func (PySem.W.fnOf "after" "after" (defArgs s_after) (defBody s_after) (defScope s_after) (.ref T5) kV5 dc5 pm5 an5 cd5 ct5), sl5⟩) (c5 : PySem.W.codeIn K cd5 "after" = true) (k5 : PySem.W.keepIn K (.ref f5) = true)
    (dt5 : K.lookup T5 = some ⟨oT5, pT5, .seq #[.int (1) u5_0] nT5, sT5⟩)
    (a6 : PySem.W.nsIn K mainGlobals "rounds" = some (some (.ref f6))) (l6 : K.lookup f6 = some ⟨oc6, od6, .func (PySem.W.fnOf "rounds" "rounds" (defArgs s_rounds) (defBody s_rounds) (defScope s_rounds) .none kV6 dc6 pm6 an6 cd6 ct6), sl6⟩) (c6 : PySem.W.codeIn K cd6 "rounds" = true) (k6 : PySem.W.keepIn K (.ref f6) = true)
    (a7 : PySem.W.nsIn K mainGlobals "_law_box" = some (some (.ref f7))) (l7 : K.lookup f7 = some ⟨oc7, od7, .func (PySem.W.fnOf "_law_box" "_law_box" (defArgs s_law_box) (defBody s_law_box) (defScope s_law_box) .none kV7 dc7 pm7 an7 cd7 ct7), sl7⟩) (c7 : PySem.W.codeIn K cd7 "_law_box" = true) (k7 : PySem.W.keepIn K (.ref f7) = true)
    (a8 : PySem.W.nsIn K mainGlobals "_law_mixed" = some (some (.ref f8))) (l8 : K.lookup f8 = some ⟨oc8, od8, .func (PySem.W.fnOf "_law_mixed" "_law_mixed" (defArgs s_law_mixed) (defBody s_law_mixed) (defScope s_law_mixed) .none kV8 dc8 pm8 an8 cd8 ct8), sl8⟩) (c8 : PySem.W.codeIn K cd8 "_law_mixed" = true) (k8 : PySem.W.keepIn K (.ref f8) = true)
    (a9 : PySem.W.nsIn K mainGlobals "_law_take" = some (some (.ref f9))) (l9 : K.lookup f9 = some ⟨oc9, od9, .func (PySem.W.fnOf "_law_take" "_law_take" (defArgs s_law_take) (defBody s_law_take) (defScope s_law_take) .none kV9 dc9 pm9 an9 cd9 ct9), sl9⟩) (c9 : PySem.W.codeIn K cd9 "_law_take" = true) (k9 : PySem.W.keepIn K (.ref f9) = true)
    (a10 : PySem.W.nsIn K mainGlobals "_law_clock" = some (some (.ref f10))) (l10 : K.lookup f10 = some ⟨oc10, od10, .func (PySem.W.fnOf "_law_clock" "_law_clock" (defArgs s_law_clock) (defBody s_law_clock) (defScope s_law_clock) .none kV10 dc10 pm10 an10 cd10 ct10), sl10⟩) (c10 : PySem.W.codeIn K cd10 "_law_clock" = true) (k10 : PySem.W.keepIn K (.ref f10) = true)
    (a11 : PySem.W.nsIn K mainGlobals "_law_number" = some (some (.ref f11))) (l11 : K.lookup f11 = some ⟨oc11, od11, .func (PySem.W.fnOf "_law_number" "_law_number" (defArgs s_law_number) (defBody s_law_number) (defScope s_law_number) .none kV11 dc11 pm11 an11 cd11 ct11), sl11⟩) (c11 : PySem.W.codeIn K cd11 "_law_number" = true) (k11 : PySem.W.keepIn K (.ref f11) = true)
    (a12 : PySem.W.nsIn K mainGlobals "_law_word" = some (some (.ref f12))) (l12 : K.lookup f12 = some ⟨oc12, od12, .func (PySem.W.fnOf "_law_word" "_law_word" (defArgs s_law_word) (defBody s_law_word) (defScope s_law_word) .none kV12 dc12 pm12 an12 cd12 ct12), sl12⟩) (c12 : PySem.W.codeIn K cd12 "_law_word" = true) (k12 : PySem.W.keepIn K (.ref f12) = true)
    (a13 : PySem.W.nsIn K mainGlobals "_law_kind" = some (some (.ref f13))) (l13 : K.lookup f13 = some ⟨oc13, od13, .func (PySem.W.fnOf "_law_kind" "_law_kind" (defArgs s_law_kind) (defBody s_law_kind) (defScope s_law_kind) .none kV13 dc13 pm13 an13 cd13 ct13), sl13⟩) (c13 : PySem.W.codeIn K cd13 "_law_kind" = true) (k13 : PySem.W.keepIn K (.ref f13) = true)
    (a14 : PySem.W.nsIn K mainGlobals "law" = some (some (.ref f14))) (l14 : K.lookup f14 = some ⟨oc14, od14, .func (PySem.W.fnOf "law" "law" (defArgs s_law) (defBody s_law) (defScope s_law) .none kV14 dc14 pm14 an14 (.ref cL) ct14), sl14⟩) (c14 : PySem.W.codeIn K (.ref cL) "law" = true) (k14 : PySem.W.keepIn K (.ref f14) = true)
    (q0 : PySem.W.nsIn K mainGlobals "LEAST_HOURS" = some (some (.int (3) t0)))
    (q1 : PySem.W.nsIn K mainGlobals "MOST_HOURS" = some (some (.int (15) t1)))
    (z0 : PySem.W.nsIn K mainGlobals "ValueError" = some none)
    (z1 : PySem.W.nsIn K mainGlobals "enumerate" = some none)
    (z2 : PySem.W.nsIn K mainGlobals "int" = some none)
    (z3 : PySem.W.nsIn K mainGlobals "isinstance" = some none)
    (z4 : PySem.W.nsIn K mainGlobals "len" = some none)
    (z5 : PySem.W.nsIn K mainGlobals "list" = some none)
    (z6 : PySem.W.nsIn K mainGlobals "range" = some none)
    (z7 : PySem.W.nsIn K mainGlobals "sum" = some none)
    (ga0 : PySem.W.nsIn K mainGlobals "TideError" = some (some (.ref C0)))
    (gk0 : PySem.W.keepIn K (.ref C0) = true)
    (ga1 : PySem.W.nsIn K mainGlobals "BadClock" = some (some (.ref C1)))
    (gk1 : PySem.W.keepIn K (.ref C1) = true)
    (ga2 : PySem.W.nsIn K mainGlobals "BadHour" = some (some (.ref C2)))
    (gk2 : PySem.W.keepIn K (.ref C2) = true)
    (ga3 : PySem.W.nsIn K mainGlobals "BadChart" = some (some (.ref C3)))
    (gk3 : PySem.W.keepIn K (.ref C3) = true)
    (ga4 : PySem.W.nsIn K mainGlobals "BadSquare" = some (some (.ref C4)))
    (gk4 : PySem.W.keepIn K (.ref C4) = true)
    (ga5 : PySem.W.nsIn K mainGlobals "BadRing" = some (some (.ref C5)))
    (gk5 : PySem.W.keepIn K (.ref C5) = true)
    (ga6 : PySem.W.nsIn K mainGlobals "BadBreaks" = some (some (.ref C6)))
    (gk6 : PySem.W.keepIn K (.ref C6) = true)
    (ga7 : PySem.W.nsIn K mainGlobals "BadPrices" = some (some (.ref C7)))
    (gk7 : PySem.W.keepIn K (.ref C7) = true)
    (ga8 : PySem.W.nsIn K mainGlobals "NoFill" = some (some (.ref C8)))
    (gk8 : PySem.W.keepIn K (.ref C8) = true)
    (ga9 : PySem.W.nsIn K mainGlobals "Unlike" = some (some (.ref C9)))
    (gk9 : PySem.W.keepIn K (.ref C9) = true)
    (ga10 : PySem.W.nsIn K mainGlobals "BadName" = some (some (.ref C10)))
    (gk10 : PySem.W.keepIn K (.ref C10) = true)
    (ga11 : PySem.W.nsIn K mainGlobals "Taken" = some (some (.ref C11)))
    (gk11 : PySem.W.keepIn K (.ref C11) = true)
    (ga12 : PySem.W.nsIn K mainGlobals "Full" = some (some (.ref C12)))
    (gk12 : PySem.W.keepIn K (.ref C12) = true)
    (ga13 : PySem.W.nsIn K mainGlobals "NoChart" = some (some (.ref C13)))
    (gk13 : PySem.W.keepIn K (.ref C13) = true)
    (ga14 : PySem.W.nsIn K mainGlobals "BadDay" = some (some (.ref C14)))
    (gk14 : PySem.W.keepIn K (.ref C14) = true)
    (ga15 : PySem.W.nsIn K mainGlobals "BadDeed" = some (some (.ref C15)))
    (gk15 : PySem.W.keepIn K (.ref C15) = true)
    (ga16 : PySem.W.nsIn K mainGlobals "NothingLeft" = some (some (.ref C16)))
    (gk16 : PySem.W.keepIn K (.ref C16) = true)
    (ga17 : PySem.W.nsIn K mainGlobals "Knotted" = some (some (.ref C17)))
    (gk17 : PySem.W.keepIn K (.ref C17) = true)
    (ga18 : PySem.W.nsIn K mainGlobals "BadText" = some (some (.ref C18)))
    (gk18 : PySem.W.keepIn K (.ref C18) = true)
    (te1 : PySem.W.subIn K (.ref C0) (.type "BaseException") = some true)
    (te2 : PySem.W.hasDictIn K C0 = true)
    (te3 : PySem.W.typeIn K (.ref C0) = some (.type "type"))
    (gx1 : PySem.W.excIn K C1 [.type "ValueError", .type "Exception", .type "BaseException", .type "object"] "ValueError.__new__" = true)
    (gs1 : PySem.W.subIn K (.ref C1) (.type "BaseException") = some true)
    (gt1 : PySem.W.typeIn K (.ref C1) = some (.type "type"))
    (gm1 : PySem.W.subIn K (.ref C1) (.ref C0) = some true)
    (ge1_1 : PySem.W.findIn K (.ref C1) "__getattribute__" = some (some (.builtin "BaseException.__getattribute__")))
    (ge1_2 : PySem.W.findIn K (.ref C1) "__getattr__" = some none)
    (ge1_3 : PySem.W.hasDictIn K C1 = true)
    (ge1_4 : PySem.W.findIn K (.ref C1) "__class__" = some (some (.builtin "object.__class__")))
    (ge1_5 : PySem.W.specialIn K (.builtin "object.__class__") "__get__" = some (some (.builtin "getset_descriptor.__get__")))
    (ge1_6 : PySem.W.takesIn K (.builtin "object.__class__") = some true)
    (ge1_7 : PySem.W.mroIn K C1 (.type "object") = some true)
    (gq1_0 : PySem.W.kitOne K (.ref C1) (.ref C1) = some true)
    (gq1_1 : PySem.W.kitOne K (.ref C1) (.ref C2) = some false)
    (gq1_2 : PySem.W.kitOne K (.ref C1) (.ref C3) = some false)
    (gq1_3 : PySem.W.kitOne K (.ref C1) (.ref C4) = some false)
    (gq1_4 : PySem.W.kitOne K (.ref C1) (.ref C5) = some false)
    (gq1_5 : PySem.W.kitOne K (.ref C1) (.ref C6) = some false)
    (gq1_6 : PySem.W.kitOne K (.ref C1) (.ref C7) = some false)
    (gq1_7 : PySem.W.kitOne K (.ref C1) (.ref C8) = some false)
    (gq1_8 : PySem.W.kitOne K (.ref C1) (.ref C9) = some false)
    (gq1_9 : PySem.W.kitOne K (.ref C1) (.ref C10) = some false)
    (gq1_10 : PySem.W.kitOne K (.ref C1) (.ref C11) = some false)
    (gq1_11 : PySem.W.kitOne K (.ref C1) (.ref C12) = some false)
    (gq1_12 : PySem.W.kitOne K (.ref C1) (.ref C13) = some false)
    (gq1_13 : PySem.W.kitOne K (.ref C1) (.ref C14) = some false)
    (gq1_14 : PySem.W.kitOne K (.ref C1) (.ref C15) = some false)
    (gq1_15 : PySem.W.kitOne K (.ref C1) (.ref C16) = some false)
    (gq1_16 : PySem.W.kitOne K (.ref C1) (.ref C17) = some false)
    (gq1_17 : PySem.W.kitOne K (.ref C1) (.ref C18) = some false)
    (gq1_18 : PySem.W.kitOne K (.ref C1) (.type "ValueError") = some true)
    (gx2 : PySem.W.excIn K C2 [.type "ValueError", .type "Exception", .type "BaseException", .type "object"] "ValueError.__new__" = true)
    (gs2 : PySem.W.subIn K (.ref C2) (.type "BaseException") = some true)
    (gt2 : PySem.W.typeIn K (.ref C2) = some (.type "type"))
    (gm2 : PySem.W.subIn K (.ref C2) (.ref C0) = some true)
    (ge2_1 : PySem.W.findIn K (.ref C2) "__getattribute__" = some (some (.builtin "BaseException.__getattribute__")))
    (ge2_2 : PySem.W.findIn K (.ref C2) "__getattr__" = some none)
    (ge2_3 : PySem.W.hasDictIn K C2 = true)
    (ge2_4 : PySem.W.findIn K (.ref C2) "__class__" = some (some (.builtin "object.__class__")))
    (ge2_5 : PySem.W.specialIn K (.builtin "object.__class__") "__get__" = some (some (.builtin "getset_descriptor.__get__")))
    (ge2_6 : PySem.W.takesIn K (.builtin "object.__class__") = some true)
    (ge2_7 : PySem.W.mroIn K C2 (.type "object") = some true)
    (gq2_0 : PySem.W.kitOne K (.ref C2) (.ref C1) = some false)
    (gq2_1 : PySem.W.kitOne K (.ref C2) (.ref C2) = some true)
    (gq2_2 : PySem.W.kitOne K (.ref C2) (.ref C3) = some false)
    (gq2_3 : PySem.W.kitOne K (.ref C2) (.ref C4) = some false)
    (gq2_4 : PySem.W.kitOne K (.ref C2) (.ref C5) = some false)
    (gq2_5 : PySem.W.kitOne K (.ref C2) (.ref C6) = some false)
    (gq2_6 : PySem.W.kitOne K (.ref C2) (.ref C7) = some false)
    (gq2_7 : PySem.W.kitOne K (.ref C2) (.ref C8) = some false)
    (gq2_8 : PySem.W.kitOne K (.ref C2) (.ref C9) = some false)
    (gq2_9 : PySem.W.kitOne K (.ref C2) (.ref C10) = some false)
    (gq2_10 : PySem.W.kitOne K (.ref C2) (.ref C11) = some false)
    (gq2_11 : PySem.W.kitOne K (.ref C2) (.ref C12) = some false)
    (gq2_12 : PySem.W.kitOne K (.ref C2) (.ref C13) = some false)
    (gq2_13 : PySem.W.kitOne K (.ref C2) (.ref C14) = some false)
    (gq2_14 : PySem.W.kitOne K (.ref C2) (.ref C15) = some false)
    (gq2_15 : PySem.W.kitOne K (.ref C2) (.ref C16) = some false)
    (gq2_16 : PySem.W.kitOne K (.ref C2) (.ref C17) = some false)
    (gq2_17 : PySem.W.kitOne K (.ref C2) (.ref C18) = some false)
    (gq2_18 : PySem.W.kitOne K (.ref C2) (.type "ValueError") = some true)
    (hT : h.get? Pt = some { cls := .none, data := .fields #[] }) (nT : K.lookup Pt = none) (cH : PySem.W.codeHdIn K cL Pt = true) :
    LamX.LawAtS l w K CX0 6 63 "_law_script" mg fa h := by
  have e := hfa.symm.trans (PySem.W.mg_of X G a14)
  cases e
  have F5 : FunD K "after" "after" (defArgs s_after) (defBody s_after) (defScope s_after) [.int (1)] [] f5 _ := ⟨⟨_, _, _, _, _, _, _, _, _, _, rfl, l5, c5, .inr ⟨(by simp), T5, _, [.int (1) u5_0], _, rfl, dt5, rfl, (.cons ⟨_, rfl⟩ .nil)⟩, .inl rfl⟩, k5⟩
  have B5 := bindsAll F5 (ps := ["clock", "hour", "by"]) 3 (by simp) (by rfl) fun _ _ _ _ _ _ _ us its hl hi => match us, its, hl, hi with | [_, _, _], [_], _, _ => ⟨_, rfl, rfl⟩
  have one : ∀ p : Addr × Addr, p ∈ [(cL, Pt)] → p = (cL, Pt) := fun p hp => List.mem_singleton.mp hp
  refine ⟨_, [(cL, Pt)], sp_lawT K Pt, fun p hp => by rw [one p hp]; exact hT, fun p hp => by rw [one p hp]; exact nT, fun p hp => by rw [one p hp]; exact PySem.W.codeHd_of_K X cH, fun s v => ?_, fun H a ns hl _ hH hS => ⟨a, ns, rfl, hS, hl, hH (cL, Pt) List.mem_cons_self, fun _ => rfl⟩, fun base _ _ hB => ok_law (T := ⟨_, _, fun_mk (st := s_is_clock) l0 c0 k0, PySem.W.mg_of X G a0, (fun_mk (st := s_is_clock) l0 c0 k0).binds fun _ _ _ _ _ _ us hl => match us, hl with | [_], _ => rfl,
    _, _, fun_mk (st := s_need_clock) l1 c1 k1, PySem.W.mg_of X G a1, (fun_mk (st := s_need_clock) l1 c1 k1).binds fun _ _ _ _ _ _ us hl => match us, hl with | [_], _ => rfl,
    _, _, fun_mk (st := s_need_hours) l2 c2 k2, PySem.W.mg_of X G a2, (fun_mk (st := s_need_hours) l2 c2 k2).binds fun _ _ _ _ _ _ us hl => match us, hl with | [_, _], _ => rfl,
    _, _, fun_mk (st := s_nearest_step) l3 c3 k3, PySem.W.mg_of X G a3, (fun_mk (st := s_nearest_step) l3 c3 k3).binds fun _ _ _ _ _ _ us hl => match us, hl with | [_, _, _], _ => rfl,
    _, _, fun_mk (st := s_step) l4 c4 k4, PySem.W.mg_of X G a4, (fun_mk (st := s_step) l4 c4 k4).binds fun _ _ _ _ _ _ us hl => match us, hl with | [_, _, _], _ => rfl,
    _, _, F5, PySem.W.mg_of X G a5, B5,
    _, _, fun_mk (st := s_rounds) l6 c6 k6, PySem.W.mg_of X G a6, (fun_mk (st := s_rounds) l6 c6 k6).binds fun _ _ _ _ _ _ us hl => match us, hl with | [_, _], _ => rfl,
    _, _, fun_mk (st := s_law_box) l7 c7 k7, PySem.W.mg_of X G a7, (fun_mk (st := s_law_box) l7 c7 k7).binds fun _ _ _ _ _ _ us hl => match us, hl with | [_], _ => rfl,
    _, _, fun_mk (st := s_law_mixed) l8 c8 k8, PySem.W.mg_of X G a8, (fun_mk (st := s_law_mixed) l8 c8 k8).binds fun _ _ _ _ _ _ us hl => match us, hl with | [_, _], _ => rfl,
    _, _, fun_mk (st := s_law_take) l9 c9 k9, PySem.W.mg_of X G a9, (fun_mk (st := s_law_take) l9 c9 k9).binds fun _ _ _ _ _ _ us hl => match us, hl with | [_, _], _ => rfl,
    _, _, fun_mk (st := s_law_clock) l10 c10 k10, PySem.W.mg_of X G a10, (fun_mk (st := s_law_clock) l10 c10 k10).binds fun _ _ _ _ _ _ us hl => match us, hl with | [_], _ => rfl,
    _, _, fun_mk (st := s_law_number) l11 c11 k11, PySem.W.mg_of X G a11, (fun_mk (st := s_law_number) l11 c11 k11).binds fun _ _ _ _ _ _ us hl => match us, hl with | [_], _ => rfl,
    _, _, fun_mk (st := s_law_word) l12 c12 k12, PySem.W.mg_of X G a12, (fun_mk (st := s_law_word) l12 c12 k12).binds fun _ _ _ _ _ _ us hl => match us, hl with | [_], _ => rfl,
    _, _, fun_mk (st := s_law_kind) l13 c13 k13, PySem.W.mg_of X G a13, (fun_mk (st := s_law_kind) l13 c13 k13).binds fun _ _ _ _ _ _ us hl => match us, hl with | [_], _ => rfl,
    _, _, fun_mk (st := s_law) l14 c14 k14, PySem.W.mg_of X G a14, (fun_mk (st := s_law) l14 c14 k14).binds fun _ _ _ _ _ _ us hl => match us, hl with | [_], _ => rfl,
    t0, PySem.W.mg_of X G q0,
    t1, PySem.W.mg_of X G q1,
    PySem.W.mg_none_of X G z0,
    PySem.W.mg_none_of X G z1,
    PySem.W.mg_none_of X G z2,
    PySem.W.mg_none_of X G z3,
    PySem.W.mg_none_of X G z4,
    PySem.W.mg_none_of X G z5,
    PySem.W.mg_none_of X G z6,
    PySem.W.mg_none_of X G z7,
    C0,
    C1,
    C2,
    C3,
    C4,
    C5,
    C6,
    C7,
    C8,
    C9,
    C10,
    C11,
    C12,
    C13,
    C14,
    C15,
    C16,
    C17,
    C18,
    ⟨PySem.W.mg_of X G ga0, gk0⟩,
    ⟨PySem.W.mg_of X G ga1, gk1⟩,
    ⟨PySem.W.mg_of X G ga2, gk2⟩,
    ⟨PySem.W.mg_of X G ga3, gk3⟩,
    ⟨PySem.W.mg_of X G ga4, gk4⟩,
    ⟨PySem.W.mg_of X G ga5, gk5⟩,
    ⟨PySem.W.mg_of X G ga6, gk6⟩,
    ⟨PySem.W.mg_of X G ga7, gk7⟩,
    ⟨PySem.W.mg_of X G ga8, gk8⟩,
    ⟨PySem.W.mg_of X G ga9, gk9⟩,
    ⟨PySem.W.mg_of X G ga10, gk10⟩,
    ⟨PySem.W.mg_of X G ga11, gk11⟩,
    ⟨PySem.W.mg_of X G ga12, gk12⟩,
    ⟨PySem.W.mg_of X G ga13, gk13⟩,
    ⟨PySem.W.mg_of X G ga14, gk14⟩,
    ⟨PySem.W.mg_of X G ga15, gk15⟩,
    ⟨PySem.W.mg_of X G ga16, gk16⟩,
    ⟨PySem.W.mg_of X G ga17, gk17⟩,
    ⟨PySem.W.mg_of X G ga18, gk18⟩,
    ⟨⟨PySem.W.mg_of X G ga1, gk1⟩, gx1, gs1, gt1⟩,
    ⟨ge1_1, ge1_2, gs1, ge1_3, ge1_4, ge1_5, ge1_6, ge1_7⟩,
    (.cons gq1_0 (.cons gq1_1 (.cons gq1_2 (.cons gq1_3 (.cons gq1_4 (.cons gq1_5 (.cons gq1_6 (.cons gq1_7 (.cons gq1_8 (.cons gq1_9 (.cons gq1_10 (.cons gq1_11 (.cons gq1_12 (.cons gq1_13 (.cons gq1_14 (.cons gq1_15 (.cons gq1_16 (.cons gq1_17 (.cons gq1_18 .nil))))))))))))))))))),
    PySem.W.exm_ref te1 te2 te3 gm1,
    ⟨⟨PySem.W.mg_of X G ga2, gk2⟩, gx2, gs2, gt2⟩,
    ⟨ge2_1, ge2_2, gs2, ge2_3, ge2_4, ge2_5, ge2_6, ge2_7⟩,
    (.cons gq2_0 (.cons gq2_1 (.cons gq2_2 (.cons gq2_3 (.cons gq2_4 (.cons gq2_5 (.cons gq2_6 (.cons gq2_7 (.cons gq2_8 (.cons gq2_9 (.cons gq2_10 (.cons gq2_11 (.cons gq2_12 (.cons gq2_13 (.cons gq2_14 (.cons gq2_15 (.cons gq2_16 (.cons gq2_17 (.cons gq2_18 .nil))))))))))))))))))),
    PySem.W.exm_ref te1 te2 te3 gm2⟩) l14 c14 (hB (cL, Pt) List.mem_cons_self)⟩
  exact .of_eq rfl
end C_k04
open PySem PySem.W PyProof.Rows
set_option maxHeartbeats 0 in
theorem PySem.Challenge.cw_cotide_k04_clocks_and_hours_refused_holds : PySem.Challenge.rw_cotide_k04_clocks_and_hours_refused.Holds := by
  w_on; o_law; k_head; (case hw => w_witness2)
  k_fill
  refine LamX.walk_ofTs (l := PySem.Challenge.rw_cotide_k04_clocks_and_hours_refused) (n := 63) (k := 6) (x := "_law_script") (CX := fun _ => L2.CX0) rfl (by decide) rfl ⟨rfl, by decide, by decide⟩ (fun w h Y => PySem.W.km_in_of Y) ?F (fun _ _ _ _ _ h => h)
  case F =>
    intro w mg fa h Y KX G hmg
    have hT := PySem.W.km_tabs_of Y
    refine' C_k04.all_mk KX G hmg ?a0 ?l0 ?c0 ?k0 ?a1 ?l1 ?c1 ?k1 ?a2 ?l2 ?c2 ?k2 ?a3 ?l3 ?c3 ?k3 ?a4 ?l4 ?c4 ?k4 ?a5 ?l5 ?c5 ?k5 ?dt5 ?a6 ?l6 ?c6 ?k6 ?a7 ?l7 ?c7 ?k7 ?a8 ?l8 ?c8 ?k8 ?a9 ?l9 ?c9 ?k9 ?a10 ?l10 ?c10 ?k10 ?a11 ?l11 ?c11 ?k11 ?a12 ?l12 ?c12 ?k12 ?a13 ?l13 ?c13 ?k13 ?a14 ?l14 ?c14 ?k14 ?q0 ?q1 ?z0 ?z1 ?z2 ?z3 ?z4 ?z5 ?z6 ?z7 ?ga0 ?gk0 ?ga1 ?gk1 ?ga2 ?gk2 ?ga3 ?gk3 ?ga4 ?gk4 ?ga5 ?gk5 ?ga6 ?gk6 ?ga7 ?gk7 ?ga8 ?gk8 ?ga9 ?gk9 ?ga10 ?gk10 ?ga11 ?gk11 ?ga12 ?gk12 ?ga13 ?gk13 ?ga14 ?gk14 ?ga15 ?gk15 ?ga16 ?gk16 ?ga17 ?gk17 ?ga18 ?gk18 ?te1 ?te2 ?te3 ?gx1 ?gs1 ?gt1 ?gm1 ?ge1_1 ?ge1_2 ?ge1_3 ?ge1_4 ?ge1_5 ?ge1_6 ?ge1_7 ?gq1_0 ?gq1_1 ?gq1_2 ?gq1_3 ?gq1_4 ?gq1_5 ?gq1_6 ?gq1_7 ?gq1_8 ?gq1_9 ?gq1_10 ?gq1_11 ?gq1_12 ?gq1_13 ?gq1_14 ?gq1_15 ?gq1_16 ?gq1_17 ?gq1_18 ?gx2 ?gs2 ?gt2 ?gm2 ?ge2_1 ?ge2_2 ?ge2_3 ?ge2_4 ?ge2_5 ?ge2_6 ?ge2_7 ?gq2_0 ?gq2_1 ?gq2_2 ?gq2_3 ?gq2_4 ?gq2_5 ?gq2_6 ?gq2_7 ?gq2_8 ?gq2_9 ?gq2_10 ?gq2_11 ?gq2_12 ?gq2_13 ?gq2_14 ?gq2_15 ?gq2_16 ?gq2_17 ?gq2_18 (hT _ List.mem_cons_self) ?nT ?cH
    (case a0 => k_is); (case l0 => k_is); (case c0 => k_is); (case k0 => k_is); (case a1 => k_is); (case l1 => k_is); (case c1 => k_is); (case k1 => k_is); (case a2 => k_is); (case l2 => k_is); (case c2 => k_is); (case k2 => k_is); (case a3 => k_is); (case l3 => k_is); (case c3 => k_is); (case k3 => k_is); (case a4 => k_is); (case l4 => k_is); (case c4 => k_is); (case k4 => k_is); (case a5 => k_is); (case l5 => k_is); (case c5 => k_is); (case k5 => k_is); (case dt5 => k_is); (case a6 => k_is); (case l6 => k_is); (case c6 => k_is); (case k6 => k_is); (case a7 => k_is); (case l7 => k_is); (case c7 => k_is); (case k7 => k_is); (case a8 => k_is); (case l8 => k_is); (case c8 => k_is); (case k8 => k_is); (case a9 => k_is); (case l9 => k_is); (case c9 => k_is); (case k9 => k_is); (case a10 => k_is); (case l10 => k_is); (case c10 => k_is); (case k10 => k_is); (case a11 => k_is); (case l11 => k_is); (case c11 => k_is); (case k11 => k_is); (case a12 => k_is); (case l12 => k_is); (case c12 => k_is); (case k12 => k_is); (case a13 => k_is); (case l13 => k_is); (case c13 => k_is); (case k13 => k_is); (case a14 => k_is); (case l14 => k_is); (case c14 => k_is); (case k14 => k_is); (case q0 => k_is); (case q1 => k_is); (case z0 => k_is); (case z1 => k_is); (case z2 => k_is); (case z3 => k_is); (case z4 => k_is); (case z5 => k_is); (case z6 => k_is); (case z7 => k_is); (case ga0 => k_is); (case gk0 => k_is); (case ga1 => k_is); (case gk1 => k_is); (case ga2 => k_is); (case gk2 => k_is); (case ga3 => k_is); (case gk3 => k_is); (case ga4 => k_is); (case gk4 => k_is); (case ga5 => k_is); (case gk5 => k_is); (case ga6 => k_is); (case gk6 => k_is); (case ga7 => k_is); (case gk7 => k_is); (case ga8 => k_is); (case gk8 => k_is); (case ga9 => k_is); (case gk9 => k_is); (case ga10 => k_is); (case gk10 => k_is); (case ga11 => k_is); (case gk11 => k_is); (case ga12 => k_is); (case gk12 => k_is); (case ga13 => k_is); (case gk13 => k_is); (case ga14 => k_is); (case gk14 => k_is); (case ga15 => k_is); (case gk15 => k_is); (case ga16 => k_is); (case gk16 => k_is); (case ga17 => k_is); (case gk17 => k_is); (case ga18 => k_is); (case gk18 => k_is); (case te1 => k_is); (case te2 => k_is); (case te3 => k_is); (case gx1 => k_exc); (case gs1 => k_is); (case gt1 => k_is); (case gm1 => k_is); (case ge1_1 => k_is); (case ge1_2 => k_is); (case ge1_3 => k_is); (case ge1_4 => k_is); (case ge1_5 => k_is); (case ge1_6 => k_is); (case ge1_7 => k_is); (case gq1_0 => kit_is); (case gq1_1 => kit_is); (case gq1_2 => kit_is); (case gq1_3 => kit_is); (case gq1_4 => kit_is); (case gq1_5 => kit_is); (case gq1_6 => kit_is); (case gq1_7 => kit_is); (case gq1_8 => kit_is); (case gq1_9 => kit_is); (case gq1_10 => kit_is); (case gq1_11 => kit_is); (case gq1_12 => kit_is); (case gq1_13 => kit_is); (case gq1_14 => kit_is); (case gq1_15 => kit_is); (case gq1_16 => kit_is); (case gq1_17 => kit_is); (case gq1_18 => kit_is); (case gx2 => k_exc); (case gs2 => k_is); (case gt2 => k_is); (case gm2 => k_is); (case ge2_1 => k_is); (case ge2_2 => k_is); (case ge2_3 => k_is); (case ge2_4 => k_is); (case ge2_5 => k_is); (case ge2_6 => k_is); (case ge2_7 => k_is); (case gq2_0 => kit_is); (case gq2_1 => kit_is); (case gq2_2 => kit_is); (case gq2_3 => kit_is); (case gq2_4 => kit_is); (case gq2_5 => kit_is); (case gq2_6 => kit_is); (case gq2_7 => kit_is); (case gq2_8 => kit_is); (case gq2_9 => kit_is); (case gq2_10 => kit_is); (case gq2_11 => kit_is); (case gq2_12 => kit_is); (case gq2_13 => kit_is); (case gq2_14 => kit_is); (case gq2_15 => kit_is); (case gq2_16 => kit_is); (case gq2_17 => kit_is); (case gq2_18 => kit_is); (case nT => kernel_rfl); (case cH => kernel_rfl)
