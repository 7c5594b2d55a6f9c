import PyProof.Rows.All
import Wide.All
import OpenK.AllK
import Wide.FinOn
import HandS.Defaults
import HandS.ForMost
import HandS.Evl
import HandS.IsInst
import HandS.Wide
import HandS.Zip
import HandS.Walk
import HandS.Style
import HandS.TupAny
import HandS.TupMul
import HandS.Sort
import PySem.Challenge.RW_cotide_k05_charts_judged
set_option Elab.async false
set_option linter.all false
set_option maxRecDepth 100000
set_option maxHeartbeats 4000000
set_option Elab.async false
set_option linter.all false
set_option maxRecDepth 100000
set_option maxHeartbeats 4000000
/-! Data in two heaps: Hd, what is data and stays; H, all that stands now. -/
namespace Cot
open PySem L2 Evl
section
variable {K : PySem.W.Frag} {H H' Hd Hn H1 H2 Hm : Hp}
mutual
theorem dp_mono (e : Ex H H') : ∀ (d : PyData) {v : V}, Dp K H v d → Dp K H' v d
  | .none, _, h => by cases h; exact .non
  | .bool b, _, h => by cases h; exact .bl b
  | .int i, _, h => by cases h; exact .int i
  | .str x, _, h => by cases h; exact .str x
  | .list ds, _, h => by
    cases h with
    | lst hs ha => exact .lst (ex_l e hs) (dpa_mono e ds ha)
  | .tuple ds, _, h => by
    cases h with
    | tup hs ha => exact .tup (ex_t e hs) (dpa_mono e ds ha)
  | .dict _, _, h => by cases h
theorem dpa_mono (e : Ex H H') : ∀ (ds : List PyData) {vs : List V}, DpAll K H vs ds → DpAll K H' vs ds
  | [], _, h => by cases h; exact .nil
  | d :: ds, _, h => by
    cases h with
    | cons h1 h2 => exact .cons (dp_mono e d h1) (dpa_mono e ds h2)
end
theorem dpa_len : ∀ {vs : List V} {ds : List PyData}, DpAll K H vs ds → vs.length = ds.length
  | _, [], h => by cases h; rfl
  | _, d :: ds, h => by
    cases h with
    | cons h1 h2 => rw [List.length_cons, List.length_cons, dpa_len h2]
theorem dpa_get : ∀ {ds : List PyData} {vs : List V} {i : Nat} {d : PyData}, DpAll K H vs ds → ds[i]? = some d → ∃ v, vs[i]? = some v ∧ Dp K H v d
  | [], _, i, d, h, e => by simp at e
  | d0 :: ds, _, 0, d, h, e => by
    cases h with
    | cons h1 h2 =>
      have e' : d0 = d := Option.some.inj e
      subst e'
      exact ⟨_, rfl, h1⟩
  | d0 :: ds, _, i + 1, d, h, e => by
    cases h with
    | cons h1 h2 =>
      obtain ⟨v, q1, q2⟩ := dpa_get (i := i) h2 (by simpa using e)
      exact ⟨v, by simpa using q1, q2⟩
theorem dpa_get2 : ∀ {ds : List PyData} {vs : List V} {i : Nat} {v : V}, DpAll K H vs ds → vs[i]? = some v → ∃ d, ds[i]? = some d ∧ Dp K H v d
  | [], _, i, d, h, e => by cases h; simp at e
  | d0 :: ds, _, 0, v, h, e => by
    cases h with
    | cons h1 h2 =>
      have e' := Option.some.inj e
      subst e'
      exact ⟨_, rfl, h1⟩
  | d0 :: ds, _, i + 1, v, h, e => by
    cases h with
    | cons h1 h2 =>
      obtain ⟨v, q1, q2⟩ := dpa_get2 (i := i) h2 (by simpa using e)
      exact ⟨v, by simpa using q1, q2⟩
theorem dpa_at {ds : List PyData} {vs : List V} {i : Int} {d : PyData} (h : DpAll K H vs ds) (e : atI ds i = some d) : ∃ v, atI vs i = some v ∧ Dp K H v d := by
  unfold atI at e ⊢
  rw [dpa_len h]
  cases hx : ixN ds.length i with
  | none => rw [hx] at e; cases e
  | some j =>
    rw [hx] at e
    exact dpa_get h e
theorem dpa_app : ∀ {ds es : List PyData} {vs ws : List V}, DpAll K H vs ds → DpAll K H ws es → DpAll K H (vs ++ ws) (ds ++ es)
  | [], _, _, _, h, h2 => by cases h; exact h2
  | d :: ds, es, _, ws, h, h2 => by
    cases h with
    | cons a b => exact .cons a (dpa_app b h2)
theorem dpa_take : ∀ (n : Nat) {ds : List PyData} {vs : List V}, DpAll K H vs ds → DpAll K H (vs.take n) (ds.take n)
  | 0, _, _, _ => by rw [List.take_zero, List.take_zero]; exact .nil
  | n + 1, [], _, h => by cases h; exact .nil
  | n + 1, d :: ds, _, h => by
    cases h with
    | cons a b => exact .cons a (dpa_take n b)
theorem dpa_drop : ∀ (n : Nat) {ds : List PyData} {vs : List V}, DpAll K H vs ds → DpAll K H (vs.drop n) (ds.drop n)
  | 0, _, _, h => h
  | n + 1, [], _, h => by cases h; exact .nil
  | n + 1, d :: ds, _, h => by
    cases h with
    | cons a b => exact dpa_drop n b
theorem dpa_ints : ∀ (ns : List Int), DpAll K H (ns.map V.int) (ns.map PyData.int)
  | [] => .nil
  | n :: ns => .cons (.int n) (dpa_ints ns)
theorem dpa_bools : ∀ (ns : List Bool), DpAll K H (ns.map V.bl) (ns.map PyData.bool)
  | [] => .nil
  | n :: ns => .cons (.bl n) (dpa_bools ns)
theorem dpa_ints_inv : ∀ {ns : List Int} {vs : List V}, DpAll K H vs (ns.map PyData.int) → vs = ns.map V.int
  | [], _, h => by cases h; rfl
  | n :: ns, _, h => by
    cases h with
    | cons a b =>
      cases a
      rw [dpa_ints_inv b]
      rfl
theorem dpa_bools_inv : ∀ {ns : List Bool} {vs : List V}, DpAll K H vs (ns.map PyData.bool) → vs = ns.map V.bl
  | [], _, h => by cases h; rfl
  | n :: ns, _, h => by
    cases h with
    | cons a b =>
      cases a
      rw [dpa_bools_inv b]
      rfl

/-- Hd grows to Hn by new places alone, H to H2 -/
structure Gr (Hd H Hn H2 : Hp) : Prop where
  ex : Ex H H2
  dx : Ex Hd Hn
  sub : Ex Hn H2
  fr : ∀ a o, H a = some o → Hd a = none → Hn a = none
theorem Gr.refl (s : Ex Hd H) : Gr Hd H Hd H := ⟨Ex.refl _, Ex.refl _, s, fun _ _ _ h => h⟩
theorem Gr.trans (g1 : Gr Hd H Hn H1) (g2 : Gr Hn H1 Hm H2) : Gr Hd H Hm H2 := ⟨g1.ex.trans g2.ex, g1.dx.trans g2.dx, g2.sub, fun a o ha hd => g2.fr a o (g1.ex a o ha) (g1.fr a o ha hd)⟩
theorem Gr.ext (s : Ex Hd H) (e : Ex H H2) : Gr Hd H Hd H2 := ⟨e, Ex.refl _, s.trans e, fun _ _ _ h => h⟩
theorem Gr.pre (e : Ex H H1) (g : Gr Hd H1 Hn H2) : Gr Hd H Hn H2 := ⟨e.trans g.ex, g.dx, g.sub, fun a o ha hd => g.fr a o (e a o ha) hd⟩
theorem Gr.post (g : Gr Hd H Hn H1) (e : Ex H1 H2) : Gr Hd H Hn H2 := ⟨g.ex.trans e, g.dx, g.sub.trans e, g.fr⟩
theorem ex_upd2 {p : Addr} {o : HO} (s : Ex Hd H) : Ex (upd Hd p o) (upd H p o) := fun a u h => by
  by_cases e : a = p
  · subst e
    rw [upd_same] at h ⊢
    exact h
  · rw [upd_ne e] at h ⊢
    exact s a u h
theorem Gr.new {p : Addr} {o : HO} (s : Ex Hd H) (h : H p = none) : Gr Hd H (upd Hd p o) (upd H p o) :=
  ⟨Ex.new h, Ex.new (fresh_back s h), ex_upd2 s, fun a u ha hd => by rw [upd_ne (ne_of_none ha h)]; exact hd⟩
/-- a new place that is no data -/
theorem Gr.alloc {p : Addr} {o : HO} (s : Ex Hd H) (h : H p = none) : Gr Hd H Hd (upd H p o) := Gr.ext s (Ex.new h)

def un (A B : Hp) : Hp := fun a => match A a with | some o => some o | none => B a
theorem un_l {A B : Hp} : Ex A (un A B) := fun a o h => by unfold un; rw [h]
theorem un_r {A B C : Hp} (a : Ex A C) (b : Ex B C) : Ex B (un A B) := fun x o h => by
  unfold un
  cases hA : A x with
  | none => exact h
  | some u =>
    have h1 := a x u hA
    rw [b x o h] at h1
    exact h1.symm
theorem un_sub {A B C : Hp} (a : Ex A C) (b : Ex B C) : Ex (un A B) C := fun x o h => by
  unfold un at h
  cases hA : A x with
  | none => rw [hA] at h; exact b x o h
  | some u => rw [hA] at h; exact a x o (hA.trans h)
theorem Gr.up {Hd' : Hp} (e : Ex Hd Hd') (s : Ex Hd' H) (g : Gr Hd H Hn H2) : Gr Hd' H (un Hd' Hn) H2 :=
  ⟨g.ex, un_l, un_sub (s.trans g.ex) g.sub, fun a o ha hd => by
    unfold un
    rw [hd]
    exact g.fr a o ha (fresh_back e hd)⟩
theorem Gr.upr {Hd' : Hp} (e : Ex Hd Hd') (s : Ex Hd' H) (g : Gr Hd H Hn H2) : Ex Hn (un Hd' Hn) := un_r (s.trans g.ex) g.sub

/-! ### what evaluates to which data -/
def EvD (K : PySem.W.Frag) (te : TE) (σ : L2.St) (Hd : Hp) (d : PyData) : Prop := ∀ H, Ex Hd H → ∀ Q : VK, (∀ v H2 Hn, Gr Hd H Hn H2 → Dp K Hn v d → Q v H2) → te σ H Q
def EvDA (K : PySem.W.Frag) (ta : TA) (σ : L2.St) (Hd : Hp) (ds : List PyData) : Prop := ∀ H, Ex Hd H → ∀ Q : List V → Hp → Prop, (∀ vs H2 Hn, Gr Hd H Hn H2 → DpAll K Hn vs ds → Q vs H2) → ta σ H Q
/-- a new list -/
def EvN (K : PySem.W.Frag) (te : TE) (σ : L2.St) (Hd : Hp) (ds : List PyData) : Prop := ∀ H, Ex Hd H → ∀ Q : VK, (∀ p xs H2 Hn, Gr Hd H Hn H2 → H p = none → Hn p = none → H2 p = some (.lst xs) → DpAll K Hn xs ds → Q (.ref p) H2) → te σ H Q
end
section
variable {K : PySem.W.Frag} {σ : L2.St} {H H' Hd Hd' Hn H1 H2 : Hp} {ta tb te tx : TE} {t u : TT} {x y z v : V} {r : R2} {d : PyData} {ds : List PyData} {tr : TA}
theorem EvD.mono (e : Ex Hd Hd') (h : EvD K te σ Hd d) : EvD K te σ Hd' d := fun H s Q q => h H (e.trans s) Q fun v H2 Hn g hd => q v H2 _ (g.up e s) (dp_mono (g.upr e s) d hd)
theorem EvDA.mono (e : Ex Hd Hd') (h : EvDA K tr σ Hd ds) : EvDA K tr σ Hd' ds := fun H s Q q => h H (e.trans s) Q fun v H2 Hn g hd => q v H2 _ (g.up e s) (dpa_mono (g.upr e s) ds hd)
theorem EvN.mono (e : Ex Hd Hd') (h : EvN K te σ Hd ds) : EvN K te σ Hd' ds := fun H s Q q => h H (e.trans s) Q fun p xs H2 Hn g hp hn h2 hd => q p xs H2 _ (g.up e s) hp (by
  unfold un
  rw [fresh_back s hp]
  exact hn) h2 (dpa_mono (g.upr e s) ds hd)
theorem ed_ev (h : Ev te σ Hd v) (hd : Dp K Hd v d) : EvD K te σ Hd d := fun H s Q q => h H s Q fun H2 e => q v H2 Hd (Gr.ext s e) hd
theorem ed_var {i : Nat} (h : σ[i]? = some (some v)) (hd : Dp K Hd v d) : EvD K (tVar i) σ Hd d := ed_ev (ev_var h) hd
theorem ev_int {i : Int} (h : EvD K te σ Hd (.int i)) : Ev te σ Hd (.int i) := fun H s Q q => h H s Q fun v H2 Hn g hd => by cases hd; exact q H2 g.ex
theorem ev_bool {i : Bool} (h : EvD K te σ Hd (.bool i)) : Ev te σ Hd (.bl i) := fun H s Q q => h H s Q fun v H2 Hn g hd => by cases hd; exact q H2 g.ex
theorem ev_str {i : Str} (h : EvD K te σ Hd (.str i)) : Ev te σ Hd (.str i) := fun H s Q q => h H s Q fun v H2 Hn g hd => by cases hd; exact q H2 g.ex
theorem ev_none (h : EvD K te σ Hd .none) : Ev te σ Hd .non := fun H s Q q => h H s Q fun v H2 Hn g hd => by cases hd; exact q H2 g.ex
theorem ed_int {i : Int} (h : Ev te σ Hd (.int i)) : EvD K te σ Hd (.int i) := ed_ev h (.int i)
theorem ed_bool {i : Bool} (h : Ev te σ Hd (.bl i)) : EvD K te σ Hd (.bool i) := ed_ev h (.bl i)
theorem ed_str {i : Str} (h : Ev te σ Hd (.str i)) : EvD K te σ Hd (.str i) := ed_ev h (.str i)
theorem ed_non (h : Ev te σ Hd .non) : EvD K te σ Hd .none := ed_ev h .non
theorem eda_nil : EvDA K tNil σ Hd [] := fun H s _ q => q [] H Hd (Gr.refl s) .nil
theorem eda_cons (h : EvD K ta σ Hd d) (hr : EvDA K tr σ Hd ds) : EvDA K (tCons ta tr) σ Hd (d :: ds) := fun H s _ q =>
  h H s _ fun v H1 Hn g hd => hr.mono g.dx H1 g.sub _ fun vs H2 Hm g2 hds => q (v :: vs) H2 Hm (g.trans g2) (.cons (dp_mono g2.dx d hd) hds)
theorem ed_tup (h : EvDA K tr σ Hd ds) (hl : ds.length ≤ 100000) : EvD K (tTup tr) σ Hd (.tuple ds) := fun H s _ q =>
  h H s _ fun vs H1 Hn g hd => ⟨sz_of (by rw [dpa_len hd]; exact hl), fun p hp => q (.ref p) _ _ (g.trans (Gr.new g.sub hp)) (.tup (st_of upd_same) (dpa_mono (Ex.new (fresh_back g.sub hp)) ds hd))⟩
theorem en_lst (h : EvDA K tr σ Hd ds) (hl : ds.length ≤ 100000) : EvN K (tLst tr) σ Hd ds := fun H s _ q =>
  h H s _ fun vs H1 Hn g hd => ⟨sz_of (by rw [dpa_len hd]; exact hl), fun p hp => q p vs _ Hn (g.trans (Gr.alloc g.sub hp)) (fresh_back g.ex hp) (fresh_back g.sub hp) upd_same hd⟩
theorem ed_new (h : EvN K te σ Hd ds) : EvD K te σ Hd (.list ds) := fun H s _ q =>
  h H s _ fun p xs H2 Hn g hp hn h2 hd => q (.ref p) H2 (upd Hn p (.lst xs)) ⟨g.ex, g.dx.trans (Ex.new hn), fun a o ha => by
    by_cases e : a = p
    · subst e
      rw [upd_same] at ha
      exact h2.trans ha
    · rw [upd_ne e] at ha
      exact g.sub a o ha, fun a o ha hda => by
    rw [upd_ne (ne_of_none ha hp)]
    exact g.fr a o ha hda⟩ (.lst (sq_of upd_same) (dpa_mono (Ex.new hn) ds hd))
theorem ed_ixT {i : Int} (ha : EvD K ta σ Hd (.tuple ds)) (hi : Ev tb σ Hd (.int i)) (he : atI ds i = some d) : EvD K (tOp (rIxT K) ta tb) σ Hd d := fun H s Q q =>
  ha H s _ fun v H1 Hn g hd => hi.mono g.dx H1 g.sub _ fun H2 e2 => by
    cases hd with
    | @tup p xs ds hs hall =>
      obtain ⟨w, h1, h2⟩ := dpa_at hall he
      exact ⟨p, xs, i, w, rfl, rfl, ex_t (g.sub.trans e2) hs, h1, q w H2 Hn (g.post e2) h2⟩
theorem ed_ixL {i : Int} (ha : EvD K ta σ Hd (.list ds)) (hi : Ev tb σ Hd (.int i)) (he : atI ds i = some d) : EvD K (tOp (rIxL K) ta tb) σ Hd d := fun H s Q q =>
  ha H s _ fun v H1 Hn g hd => hi.mono g.dx H1 g.sub _ fun H2 e2 => by
    cases hd with
    | @lst p xs ds hs hall =>
      obtain ⟨w, h1, h2⟩ := dpa_at hall he
      exact ⟨p, xs, i, w, rfl, rfl, ex_l (g.sub.trans e2) hs, h1, q w H2 Hn (g.post e2) h2⟩
theorem ev_lenT (ha : EvD K ta σ Hd (.tuple ds)) : Ev (tCB (rLenS K) (tCons ta tNil)) σ Hd (.int (ds.length : Int)) := fun H s Q q =>
  ha H s _ fun v H1 Hn g hd => by
    cases hd with
    | @tup p xs ds hs hall => exact ⟨p, xs, rfl, Or.inr (ex_t g.sub hs), by rw [dpa_len hall]; exact q H1 g.ex⟩
theorem ev_lenL (ha : EvD K ta σ Hd (.list ds)) : Ev (tCB (rLenS K) (tCons ta tNil)) σ Hd (.int (ds.length : Int)) := fun H s Q q =>
  ha H s _ fun v H1 Hn g hd => by
    cases hd with
    | @lst p xs ds hs hall => exact ⟨p, xs, rfl, Or.inl (ex_l g.sub hs), by rw [dpa_len hall]; exact q H1 g.ex⟩

/-! ### promises: a pure def, by a relation of its data -/
def spF (K : PySem.W.Frag) (R : List PyData → PyData → Prop) : Sp := fun vs H Q _ => ∃ Hd ds d, Ex Hd H ∧ DpAll K Hd vs ds ∧ R ds d ∧ ∀ v H2 Hn, Gr Hd H Hn H2 → Dp K Hn v d → Q v H2
/-- the answer is a new list -/
def spN (K : PySem.W.Frag) (R : List PyData → List PyData → Prop) : Sp := fun vs H Q _ => ∃ Hd ds es, Ex Hd H ∧ DpAll K Hd vs ds ∧ R ds es ∧ ∀ p xs H2 Hn, Gr Hd H Hn H2 → H p = none → Hn p = none → H2 p = some (.lst xs) → DpAll K Hn xs es → Q (.ref p) H2
theorem ed_call {R : List PyData → PyData → Prop} {E : XK} (h : EvDA K tr σ Hd ds) (hr : R ds d) : EvD K (tCall (spF K R) [] E tr) σ Hd d := fun H s Q q =>
  h H s _ fun vs H2 Hn g hd => ⟨Hn, ds, d, g.sub, by rw [List.append_nil]; exact hd, hr, fun v H3 Hm g2 hv => q v H3 Hm (g.trans g2) hv⟩
theorem en_call {R : List PyData → List PyData → Prop} {es : List PyData} {E : XK} (h : EvDA K tr σ Hd ds) (hr : R ds es) : EvN K (tCall (spN K R) [] E tr) σ Hd es := fun H s Q q =>
  h H s _ fun vs H2 Hn g hd => ⟨Hn, ds, es, g.sub, by rw [List.append_nil]; exact hd, hr, fun p xs H3 Hm g2 hp hm h3 hv => q p xs H3 Hm (g.trans g2) (fresh_back g.ex hp) hm h3 hv⟩

/-! ### statements -/
variable {D : Ends} {tu tw tz : TS} {g : TG} {i : Nat}
def Go (t : TS) (D : Ends) (σ : L2.St) (H : Hp) : Prop := ∀ H2, Ex H H2 → t D σ H2
theorem Go.go (h : Go tz D σ H) : tz D σ H := h H (Ex.refl H)
theorem go_asg (h : Ev te σ H v) (k : Go tz D (σ.set i (some v)) H) : Go (tSeq (tAsg te (gName i)) tz) D σ H := fun H1 e1 => h H1 e1 _ fun H2 e2 => k H2 (e1.trans e2)
theorem go_asgD (s : Ex Hd H) (h : EvD K te σ Hd d) (k : ∀ v H' Hn, Gr Hd H Hn H' → Dp K Hn v d → Go tz D (σ.set i (some v)) H') : Go (tSeq (tAsg te (gName i)) tz) D σ H := fun H1 e1 =>
  h H1 (s.trans e1) _ fun v H2 Hn g hd => k v H2 Hn (g.pre e1) hd H2 (Ex.refl _)
theorem go_asgN (s : Ex Hd H) (h : EvN K te σ Hd ds) (k : ∀ p xs H' Hn, Gr Hd H Hn H' → H p = none → Hn p = none → H' p = some (.lst xs) → DpAll K Hn xs ds → Go tz D (σ.set i (some (.ref p))) H') : Go (tSeq (tAsg te (gName i)) tz) D σ H := fun H1 e1 =>
  h H1 (s.trans e1) _ fun p xs H2 Hn g hp hn h2 hd => k p xs H2 Hn (g.pre e1) (fresh_back e1 hp) hn h2 hd H2 (Ex.refl _)
theorem go_if {b : Bool} (h : EvT t σ H b) (h1 : b = true → Go tu { D with nx := tz D } σ H) (h2 : b = false → Go tw { D with nx := tz D } σ H) : Go (tSeq (tIfS t tu tw) tz) D σ H := fun H1 e1 => h H1 e1 _ fun H2 e2 => by
  cases b with
  | true =>
    show tu { D with nx := tz D } σ H2
    exact h1 rfl H2 (e1.trans e2)
  | false =>
    show tw { D with nx := tz D } σ H2
    exact h2 rfl H2 (e1.trans e2)
theorem go_when {b : Bool} (h : EvT t σ H b) (h1 : b = true → Go tu { D with nx := tz D } σ H) (h2 : b = false → Go tz D σ H) : Go (tSeq (tIfS t tu tNext) tz) D σ H := go_if h h1 h2
theorem go_next (k : ∀ H', Ex H H' → D.nx σ H') : Go tNext D σ H := k
theorem go_ret (s : Ex Hd H) (h : EvD K te σ Hd d) (k : ∀ v H' Hn, Gr Hd H Hn H' → Dp K Hn v d → D.rt v H') : Go (tSeq (tRet te) tz) D σ H := fun H1 e1 => h H1 (s.trans e1) _ fun v H2 Hn g hd => k v H2 Hn (g.pre e1) hd
theorem go_retN (s : Ex Hd H) (h : EvN K te σ Hd ds) (k : ∀ p xs H' Hn, Gr Hd H Hn H' → H p = none → Hn p = none → H' p = some (.lst xs) → DpAll K Hn xs ds → D.rt (.ref p) H') : Go (tSeq (tRet te) tz) D σ H := fun H1 e1 => h H1 (s.trans e1) _ fun p xs H2 Hn g hp hn h2 hd => k p xs H2 Hn (g.pre e1) (fresh_back e1 hp) hn h2 hd
theorem go_retV (h : Ev te σ H v) (k : ∀ H', Ex H H' → D.rt v H') : Go (tSeq (tRet te) tz) D σ H := fun H1 e1 => h H1 e1 _ fun H2 e2 => k H2 (e1.trans e2)
theorem go_drop (h : Ev te σ H v) (k : Go tz D σ H) : Go (tSeq (tDrop te) tz) D σ H := fun H1 e1 => h H1 e1 _ fun H2 e2 => k H2 (e1.trans e2)
theorem Go.mono (e : Ex H H') (h : Go tz D σ H) : Go tz D σ H' := fun H2 e2 => h H2 (e.trans e2)
/-- a chain of two comparisons of ints -/
theorem ev_chain {r' : R2} {tc : TE} {k : Bool} (ha : Ev ta σ H x) (hb : Ev tb σ H y) (hr : RV r x y H (.bl k)) (hc : k = true → Ev tc σ H z) (hr' : k = true → RV r' y z H v) (hv : k = false → v = .bl false) : Ev (tChain r r' ta tb tc) σ H v := fun H1 e1 Q q =>
  ha H1 e1 _ fun H2 e2 => hb H2 (e1.trans e2) _ fun H3 e3 => hr H3 ((e1.trans e2).trans e3) _ fun H4 e4 => ⟨k, rfl, by
    cases k with
    | true =>
      show tc σ H4 fun w' H5 => r' y w' H5 Q
      exact hc rfl H4 (((e1.trans e2).trans e3).trans e4) _ fun H5 e5 => hr' rfl H5 ((((e1.trans e2).trans e3).trans e4).trans e5) _ fun H6 e6 => q H6 ((((e2.trans e3).trans e4).trans e5).trans e6)
    | false =>
      show Q (.bl false) H4
      rw [← hv rfl]
      exact q H4 ((e2.trans e3).trans e4)⟩
end
end Cot
namespace Cot
open PySem L2 Evl
/-! ### defs of scalars -/
def spS (R : List V → V → Prop) : Sp := fun vs H Q _ => ∃ v, R vs v ∧ ∀ H2, Ex H H2 → Q v H2
section
variable {K : PySem.W.Frag} {σ : L2.St} {H H' Hd Hd' Hn H1 H2 : Hp} {ta tb tc te tx : TE} {t u : TT} {x y z v v' : V} {r r' : R2} {d : PyData} {ds : List PyData} {tr : TA} {D : Ends} {tu tw tz : TS} {g : TG} {i : Nat}
theorem ev_callS {R : List V → V → Prop} {vs : List V} {E : XK} (h : EvA tr σ H vs) (hr : R vs v) : Ev (tCall (spS R) [] E tr) σ H v := fun H1 e Q q =>
  h H1 e _ fun H2 e2 => ⟨v, by rw [List.append_nil]; exact hr, fun H3 e3 => q H3 (e2.trans e3)⟩
theorem go_retE (h : Ev te σ H v') (e : v' = v) (k : ∀ H', Ex H H' → D.rt v H') : Go (tSeq (tRet te) tz) D σ H := go_retV (by rw [← e]; exact h) k
theorem ev_chainB {k k' : Bool} (ha : Ev ta σ H x) (hb : Ev tb σ H y) (hr : RV r x y H (.bl k)) (hc : Ev tc σ H z) (hr' : RV r' y z H (.bl k')) : Ev (tChain r r' ta tb tc) σ H (.bl (k && k')) :=
  ev_chain ha hb hr (fun _ => hc) (fun e => by subst e; exact hr') (fun e => by subst e; rfl)
theorem ev_ifB {b : Bool} (h : EvT t σ H b) (h1 : Ev ta σ H x) (h2 : Ev tb σ H y) : Ev (tIf t ta tb) σ H (if b = true then x else y) := by
  refine ev_if h (fun e => ?_) (fun e => ?_)
  · rw [if_pos e]; exact h1
  · rw [if_neg (by rw [e]; decide)]; exact h2
theorem et_andB {a b : Bool} (h1 : EvT t σ H a) (h2 : EvT u σ H b) : EvT (tAnd t u) σ H (a && b) := et_and h1 fun _ => h2
theorem et_orB {a b : Bool} (h1 : EvT t σ H a) (h2 : EvT u σ H b) : EvT (tOr t u) σ H (a || b) := et_or h1 fun _ => h2
theorem ev_andB {a b : Bool} (h1 : Ev ta σ H (.bl a)) (h2 : Ev tb σ H (.bl b)) : Ev (tAndV ta tb) σ H (.bl (a && b)) := ev_andV h1 fun _ => h2
theorem ev_orB {a b : Bool} (h1 : Ev ta σ H (.bl a)) (h2 : Ev tb σ H (.bl b)) : Ev (tOrV ta tb) σ H (.bl (a || b)) := ev_orV h1 fun _ => h2
theorem rv_isN : RV (fun x y H Q => y = .non ∧ Q (.bl (decide (x = .non))) H) x .non H (.bl (decide (x = .non))) := fun H1 _ _ q => ⟨rfl, q H1 (Ex.refl H1)⟩
end
end Cot

set_option Elab.async false
set_option linter.all false
set_option maxRecDepth 100000
set_option maxHeartbeats 4000000
/-! A box of draws: a list that changes; all else grows. -/
namespace Cot
open PySem L2 Evl
section
variable {K : PySem.W.Frag} {X : Cx}
theorem call_lenQ : CallR X (.builtin "len") (rLenS X.K) := call_len_seq
theorem call_listQ : CallR X (.type "list") (rListS X.K) := call_list_of
def BoxL (xs : List V) (ca : Addr) : Prop := ∃ pos rest turn seed : Int, xs = [.ref ca, .int pos, .int rest, .int turn, .int seed] ∧ 0 ≤ pos
/-- a box: its own place, and that of its cells -/
structure Bid where
  b : Addr
  ca : Addr
def Bx (H : Hp) (b : Bid) : Prop := ∃ (cells : List Int) (xs : List V), H b.b = some (.lst xs) ∧ BoxL xs b.ca ∧ H b.ca = some (.lst (cells.map V.int)) ∧ cells.length ≤ 63
theorem Bx.mono {H H' : Hp} {b : Bid} (e : Ex H H') (B : Bx H b) : Bx H' b := by
  obtain ⟨cells, xs, h1, h2, h3, h4⟩ := B
  exact ⟨cells, xs, e _ _ h1, h2, e _ _ h3, h4⟩
theorem Bx.some {H : Hp} {b : Bid} (B : Bx H b) : ∃ o, H b.b = Option.some o := by
  obtain ⟨cells, xs, h1, h2, h3, h4⟩ := B
  exact ⟨_, h1⟩
theorem Bx.keep {H : Hp} {b : Bid} {l : Addr} {o : HO} (B : Bx H b) (n1 : l ≠ b.b) (n2 : l ≠ b.ca) : Bx (upd H l o) b := by
  obtain ⟨cells, xs, h1, h2, h3, h4⟩ := B
  exact ⟨cells, xs, by rw [upd_ne n1.symm]; exact h1, h2, by rw [upd_ne n2.symm]; exact h3, h4⟩
theorem Bx.cell {H : Hp} {b : Bid} (B : Bx H b) : ∃ o, H b.ca = Option.some o := by
  obtain ⟨cells, xs, h1, h2, h3, h4⟩ := B
  exact ⟨_, h3⟩
theorem Bx.apart {H : Hp} {b : Bid} {l : Addr} (B : Bx H b) (h : H l = none) : l ≠ b.b ∧ l ≠ b.ca := by
  obtain ⟨o, h1⟩ := B.some
  obtain ⟨o2, h2⟩ := B.cell
  exact ⟨(ne_of_none h1 h).symm, (ne_of_none h2 h).symm⟩
structure GrB (b : Bid) (Hd H Hn H2 : Hp) : Prop where
  exb : ∀ a o, a ≠ b.b → H a = some o → H2 a = some o
  dx : Ex Hd Hn
  sub : Ex Hn H2
  fr : ∀ a o, H a = some o → Hd a = none → Hn a = none
  bx : Bx H2 b
variable {b : Bid} {H H' Hd Hd' Hn H1 H2 Hm : Hp}
theorem GrB.bn (g : GrB b Hd H Hn H2) (hb : Hd b.b = none) (B : Bx H b) : Hn b.b = none := by
  obtain ⟨o, h⟩ := B.some
  exact g.fr b.b o h hb
theorem GrB.of (g : Gr Hd H Hn H2) (B : Bx H b) : GrB b Hd H Hn H2 := ⟨fun a o _ h => g.ex a o h, g.dx, g.sub, g.fr, B.mono g.ex⟩
theorem GrB.trans (g1 : GrB b Hd H Hn H1) (g2 : GrB b Hn H1 Hm H2) (hb : Hd b.b = none) (B : Bx H b) : GrB b Hd H Hm H2 :=
  ⟨fun a o n h => g2.exb a o n (g1.exb a o n h), g1.dx.trans g2.dx, g2.sub, fun a o h hd => by
    by_cases e : a = b.b
    · rw [e]
      exact g2.bn (g1.bn hb B) g1.bx
    · exact g2.fr a o (g1.exb a o e h) (g1.fr a o h hd), g2.bx⟩
theorem GrB.pre (e : Ex H H1) (g : GrB b Hd H1 Hn H2) : GrB b Hd H Hn H2 := ⟨fun a o n h => g.exb a o n (e a o h), g.dx, g.sub, fun a o ha hd => g.fr a o (e a o ha) hd, g.bx⟩
theorem GrB.up (e : Ex Hd Hd') (s : Ex Hd' H) (hb : Hd' b.b = none) (g : GrB b Hd H Hn H2) : GrB b Hd' H (un Hd' Hn) H2 ∧ Ex Hn (un Hd' Hn) := by
  have s2 : Ex Hd' H2 := fun a o h => g.exb a o (ne_of_none h hb) (s a o h)
  exact ⟨⟨g.exb, un_l, un_sub s2 g.sub, fun a o ha hd => by
    unfold un
    rw [hd]
    exact g.fr a o ha (fresh_back e hd), g.bx⟩, un_r s2 g.sub⟩
def EvB (K : PySem.W.Frag) (b : Bid) (te : TE) (σ : L2.St) (Hd : Hp) (P : PyData → Prop) : Prop := Hd b.b = none → ∀ H, Ex Hd H → Bx H b → ∀ Q : VK, (∀ v H2 Hn d, GrB b Hd H Hn H2 → Dp K Hn v d → P d → Q v H2) → te σ H Q
def EvBA (K : PySem.W.Frag) (b : Bid) (ta : TA) (σ : L2.St) (Hd : Hp) (P : List PyData → Prop) : Prop := Hd b.b = none → ∀ H, Ex Hd H → Bx H b → ∀ Q : List V → Hp → Prop, (∀ vs H2 Hn ds, GrB b Hd H Hn H2 → DpAll K Hn vs ds → P ds → Q vs H2) → ta σ H Q
def isI (p : Int → Prop) (d : PyData) : Prop := ∃ i, d = .int i ∧ p i
/-- a def that draws: its first argument the box -/
def spB (K : PySem.W.Frag) (Pre : List PyData → Prop) (P : List PyData → PyData → Prop) : Sp := fun vs H Q _ => ∃ b ws Hd ds, vs = .ref b.b :: ws ∧ Hd b.b = none ∧ Ex Hd H ∧ Bx H b ∧ DpAll K Hd ws ds ∧ Pre ds ∧ ∀ v H2 Hn d, GrB b Hd H Hn H2 → Dp K Hn v d → P ds d → Q v H2
variable {σ : L2.St} {ta tb tc te tx : TE} {t u : TT} {x y z v v' : V} {r r' : R2} {d : PyData} {ds : List PyData} {tr : TA} {D : Ends} {tu tw tz : TS} {i : Nat} {P P' : PyData → Prop} {Ps : List PyData → Prop} {p p' : Int → Prop}
theorem EvB.mono (e : Ex Hd Hd') (h : EvB K b te σ Hd P) : EvB K b te σ Hd' P := fun hb H s B Q q => h (fresh_back e hb) H (e.trans s) B Q fun v H2 Hn d g hd hp =>
  q v H2 _ d (g.up e s hb).1 (dp_mono (g.up e s hb).2 d hd) hp
theorem EvBA.mono (e : Ex Hd Hd') (h : EvBA K b tr σ Hd Ps) : EvBA K b tr σ Hd' Ps := fun hb H s B Q q => h (fresh_back e hb) H (e.trans s) B Q fun v H2 Hn d g hd hp =>
  q v H2 _ d (g.up e s hb).1 (dpa_mono (g.up e s hb).2 d hd) hp
theorem EvB.imp (h : EvB K b te σ Hd P) (k : ∀ d, P d → P' d) : EvB K b te σ Hd P' := fun hb H s B Q q => h hb H s B Q fun v H2 Hn d g hd hp => q v H2 Hn d g hd (k d hp)
theorem eb_ed (h : EvD K te σ Hd d) : EvB K b te σ Hd (fun d' => d' = d) := fun hb H s B Q q => h H s Q fun v H2 Hn g hd => q v H2 Hn d (GrB.of g B) hd rfl
theorem eb_ev {n : Int} (h : Ev te σ Hd (.int n)) : EvB K b te σ Hd (isI fun m => m = n) := (eb_ed (ed_int h)).imp fun d e => ⟨n, e, rfl⟩
theorem eba_nil : EvBA K b tNil σ Hd (fun ds => ds = []) := fun hb H s B Q q => q [] H Hd [] (GrB.of (Gr.refl s) B) .nil rfl
theorem eba_cons (h : EvB K b ta σ Hd P) (hr : EvBA K b tr σ Hd Ps) : EvBA K b (tCons ta tr) σ Hd (fun ds => ∃ d es, ds = d :: es ∧ P d ∧ Ps es) := fun hb H s B Q q =>
  h hb H s B _ fun v H1 Hn d g hd hp => hr.mono g.dx (g.bn hb B) H1 g.sub g.bx _ fun vs H2 Hm es g2 hes hps => q (v :: vs) H2 Hm (d :: es) (g.trans g2 hb B) (.cons (dp_mono g2.dx d hd) hes) ⟨d, es, rfl, hp, hps⟩
theorem eb_call {Pre : List PyData → Prop} {R : List PyData → PyData → Prop} {E : XK} (ha : Ev ta σ Hd (.ref b.b)) (h : EvBA K b tr σ Hd Ps) (hp : ∀ ds, Ps ds → Pre ds) : EvB K b (tCall (spB K Pre R) [] E (tCons ta tr)) σ Hd (fun d => ∃ ds, Ps ds ∧ R ds d) := fun hb H s B Q q =>
  ha H s _ fun H1 e1 => h hb H1 (s.trans e1) (B.mono e1) _ fun vs H2 Hn ds g hds hps => ⟨b, vs, Hn, ds, by rw [List.append_nil], g.bn hb (B.mono e1), g.sub, g.bx, hds, hp ds hps, fun v H3 Hm d g2 hd hR =>
    q v H3 Hm d ((g.trans g2 hb (B.mono e1)).pre e1) hd ⟨ds, hps, hR⟩⟩
theorem eb_opI {gg : Int → Int → V} {f : Int → Int → Int} (hg : ∀ i j, gg i j = .int (f i j)) {C : Int → Int → Prop} (ha : EvB K b ta σ Hd (isI p)) (hb' : EvB K b tb σ Hd (isI p')) (hc : ∀ i j, p i → p' j → C i j) : EvB K b (tOp (rI C gg) ta tb) σ Hd (isI fun k => ∃ i j, p i ∧ p' j ∧ k = f i j) := fun hb H s B Q q =>
  ha hb H s B _ fun v H1 Hn d g hd hp => hb'.mono g.dx (g.bn hb B) H1 g.sub g.bx _ fun v2 H2 Hm d2 g2 hd2 hp2 => by
    obtain ⟨i, rfl, pi⟩ := hp
    obtain ⟨j, rfl, pj⟩ := hp2
    cases hd
    cases hd2
    refine ⟨i, j, rfl, rfl, hc i j pi pj, ?_⟩
    rw [hg]
    exact q _ H2 Hm (.int (f i j)) (g.trans g2 hb B) (.int _) ⟨_, rfl, i, j, pi, pj, rfl⟩
theorem eb_opI0 {gg : Int → Int → V} {f : Int → Int → Int} (hg : ∀ i j, gg i j = .int (f i j)) (ha : EvB K b ta σ Hd (isI p)) (hb' : EvB K b tb σ Hd (isI p')) : EvB K b (tOp (rI0 gg) ta tb) σ Hd (isI fun k => ∃ i j, p i ∧ p' j ∧ k = f i j) := fun hb H s B Q q =>
  ha hb H s B _ fun v H1 Hn d g hd hp => hb'.mono g.dx (g.bn hb B) H1 g.sub g.bx _ fun v2 H2 Hm d2 g2 hd2 hp2 => by
    obtain ⟨i, rfl, pi⟩ := hp
    obtain ⟨j, rfl, pj⟩ := hp2
    cases hd
    cases hd2
    refine ⟨i, j, rfl, rfl, ?_⟩
    rw [hg]
    exact q _ H2 Hm (.int (f i j)) (g.trans g2 hb B) (.int _) ⟨_, rfl, i, j, pi, pj, rfl⟩
theorem eb_lst (h : EvBA K b tr σ Hd Ps) (hl : ∀ ds, Ps ds → ds.length ≤ 100000) : EvB K b (tLst tr) σ Hd (fun d => ∃ ds, d = .list ds ∧ Ps ds) := fun hb H s B Q q =>
  h hb H s B _ fun vs H1 Hn ds g hd hp => ⟨sz_of (by rw [dpa_len hd]; exact hl ds hp), fun a ha => q (.ref a) _ _ (.list ds) (g.trans (GrB.of (Gr.new g.sub ha) g.bx) hb B) (.lst (sq_of upd_same) (dpa_mono (Ex.new (fresh_back g.sub ha)) ds hd)) ⟨ds, rfl, hp⟩⟩
theorem eb_tup (h : EvBA K b tr σ Hd Ps) (hl : ∀ ds, Ps ds → ds.length ≤ 100000) : EvB K b (tTup tr) σ Hd (fun d => ∃ ds, d = .tuple ds ∧ Ps ds) := fun hb H s B Q q =>
  h hb H s B _ fun vs H1 Hn ds g hd hp => ⟨sz_of (by rw [dpa_len hd]; exact hl ds hp), fun a ha => q (.ref a) _ _ (.tuple ds) (g.trans (GrB.of (Gr.new g.sub ha) g.bx) hb B) (.tup (st_of upd_same) (dpa_mono (Ex.new (fresh_back g.sub ha)) ds hd)) ⟨ds, rfl, hp⟩⟩
theorem eb_ixL (ha : EvB K b ta σ Hd (fun d => ∃ ds, d = .list ds ∧ Ps ds)) (hi : EvB K b tb σ Hd (isI p)) (he : ∀ ds i, Ps ds → p i → ∃ d, atI ds i = some d) : EvB K b (tOp (rIxL K) ta tb) σ Hd (fun d => ∃ ds i, Ps ds ∧ p i ∧ atI ds i = some d) := fun hb H s B Q q =>
  ha hb H s B _ fun v H1 Hn d g hd hp => hi.mono g.dx (g.bn hb B) H1 g.sub g.bx _ fun v2 H2 Hm d2 g2 hd2 hp2 => by
    obtain ⟨ds, rfl, ps⟩ := hp
    obtain ⟨i, rfl, pi⟩ := hp2
    cases hd2
    cases dp_mono g2.dx _ hd with
    | @lst pa xs ds hs hall =>
      obtain ⟨d, hd⟩ := he ds i ps pi
      obtain ⟨w, h1, h2⟩ := dpa_at hall hd
      exact ⟨pa, xs, i, w, rfl, rfl, ex_l g2.sub hs, h1, q w H2 Hm d (g.trans g2 hb B) h2 ⟨ds, i, ps, pi, hd⟩⟩
theorem go_asgB (hb : Hd b.b = none) (s : Ex Hd H) (B : Bx H b) (h : EvB K b te σ Hd P) (k : ∀ v H' Hn d, GrB b Hd H Hn H' → Dp K Hn v d → P d → Go tz D (σ.set i (some v)) H') : Go (tSeq (tAsg te (gName i)) tz) D σ H := fun H1 e1 =>
  h hb H1 (s.trans e1) (B.mono e1) _ fun v H2 Hn d g hd hp => k v H2 Hn d (g.pre e1) hd hp H2 (Ex.refl _)
theorem go_retB (hb : Hd b.b = none) (s : Ex Hd H) (B : Bx H b) (h : EvB K b te σ Hd P) (k : ∀ v H' Hn d, GrB b Hd H Hn H' → Dp K Hn v d → P d → D.rt v H') : Go (tSeq (tRet te) tz) D σ H := fun H1 e1 =>
  h hb H1 (s.trans e1) (B.mono e1) _ fun v H2 Hn d g hd hp => k v H2 Hn d (g.pre e1) hd hp
theorem go_setL {l : Addr} {xs : List V} {j : Nat} (hl : H l = some (.lst xs)) (h : Ev te σ H v) (ho : Ev ta σ H (.ref l)) (hi : Ev tb σ H (.int (j : Int))) (hj : j < xs.length) (k : Go tz D σ (upd H l (.lst (xs.set j v)))) :
    Go (tSeq (tAsg te (gSub ta tb rSetL)) tz) D σ H := fun H1 e1 => q_setL (e1 _ _ hl) (h.mono e1) (ho.mono e1) (hi.mono e1) hj fun H2 e2 => k _ (ex_upd2 (e1.trans e2))
theorem go_app {l : Addr} {xs : List V} (hl : H l = some (.lst xs)) (ha : Ev ta σ H (.ref l)) (h : Ev te σ H v) (hz : xs.length < 100000) (k : Go tz D σ (upd H l (.lst (xs ++ [v])))) :
    Go (tSeq (tDrop (tBM K "list" rAppend ta (tCons te tNil))) tz) D σ H := fun H1 e1 => q_app (e1 _ _ hl) (ha.mono e1) (h.mono e1) hz fun H2 e2 => k _ (ex_upd2 (e1.trans e2))
end
end Cot

set_option Elab.async false
set_option linter.all false
set_option maxRecDepth 100000
set_option maxHeartbeats 4000000
/-! What is walked, and comprehensions over it. -/
namespace Cot
open PySem L2 Evl RZ
section
variable {K : PySem.W.Frag} {X : Cx} {H H' Hd Hd' Hn H1 H2 Hm : Hp} {σ : L2.St} {ta tb tc te tx tl : TE} {t u tt : TT} {x y z v v' : V} {d : PyData} {ds es : List PyData} {tr : TA} {D : Ends} {tu tw tz : TS} {i j j2 n : Nat} {wi : TI} {g : TG}
/-- what is walked: n turns; S tells the slots behind the target, by the turn and the slots ahead -/
def EvI (K : PySem.W.Frag) (wi : TI) (g : TG) (σ : L2.St) (Hd : Hp) (n : Nat) (S : Nat → L2.St → L2.St → Hp → Prop) : Prop := ∀ H, Ex Hd H → ∀ R : It → Hp → Prop,
  (∀ J H2 Hn (G : Hp → Prop) (Y : Nat → Hp → V → Hp → Prop), Gr Hd H Hn H2 → Walk J n G Y → (∀ H', Ex Hn H' → G H') →
    (∀ (i : Nat) (x : V) (H' H'' : Hp) (σ' : L2.St) (k : L2.St → Hp → Prop), i < n → Ex Hn H' → Y i H' x H'' → (∀ σ2 H3, Ex H' H3 → S i σ' σ2 Hn → k σ2 H3) → g x σ' H'' k) → R J H2) → wi σ H R
def SName (K : PySem.W.Frag) (j : Nat) (ds : List PyData) (i : Nat) (σ' σ2 : L2.St) (Hn : Hp) : Prop := ∃ v d, ds[i]? = some d ∧ Dp K Hn v d ∧ σ2 = σ'.set j (some v)
def SPair (K : PySem.W.Frag) (j j2 : Nat) (f f2 : Nat → Option PyData) (i : Nat) (σ' σ2 : L2.St) (Hn : Hp) : Prop := ∃ v v2 d d2, f i = some d ∧ f2 i = some d2 ∧ Dp K Hn v d ∧ Dp K Hn v2 d2 ∧ σ2 = (σ'.set j (some v)).set j2 (some v2)
def SInt (j : Nat) (lo : Int) (i : Nat) (σ' σ2 : L2.St) (_ : Hp) : Prop := σ2 = σ'.set j (some (.int (lo + (i : Int))))
theorem ei_list (h : EvD K tl σ Hd (.list ds)) : EvI K (iList K tl) (gName j) σ Hd ds.length (SName K j ds) := fun H s R r =>
  h H s _ fun v H2 Hn g hd => by
    cases hd with
    | @lst a xs ds hs hall =>
      refine ⟨a, rfl, ⟨xs, ex_l g.sub hs⟩, r _ H2 Hn _ _ g (by rw [← dpa_len hall]; exact walk_list) (fun H' e => ex_l e hs) fun i x H' H'' σ' k hi e y q => ?_⟩
      obtain ⟨rfl, hx⟩ := y
      obtain ⟨d, h1, h2⟩ := dpa_get2 hall hx
      exact q _ _ (Ex.refl _) ⟨x, d, h1, h2, rfl⟩
theorem ei_tup (h : EvD K tl σ Hd (.tuple ds)) : EvI K (iTup K tl) (gName j) σ Hd ds.length (SName K j ds) := fun H s R r =>
  h H s _ fun v H2 Hn g hd => by
    cases hd with
    | @tup a xs ds hs hall =>
      refine ⟨a, rfl, ⟨xs, ex_t g.sub hs⟩, r _ H2 Hn _ _ g (by rw [← dpa_len hall]; exact walk_tup) (fun H' e => ex_t e hs) fun i x H' H'' σ' k hi e y q => ?_⟩
      obtain ⟨rfl, hx⟩ := y
      obtain ⟨d, h1, h2⟩ := dpa_get2 hall hx
      exact q _ _ (Ex.refl _) ⟨x, d, h1, h2, rfl⟩
theorem ei_range1 {m : Int} (h : EvA tr σ Hd [.int m]) (hm : -100000 ≤ m ∧ m ≤ 100000) : EvI K (iRng1 tr) (gName j) σ Hd m.toNat (SInt j 0) := fun H s R r =>
  h H s _ fun H2 e2 => ⟨m, rfl, by omega, by omega, r _ H2 Hd _ _ (Gr.ext s e2) walk_range (fun _ _ => trivial) fun i x H' H'' σ' k hi e y q => by
    obtain ⟨rfl, rfl⟩ := y
    exact q _ _ (Ex.refl _) rfl⟩
theorem ei_range2 {lo m : Int} (h : EvA tr σ Hd [.int lo, .int m]) (hl : -100000 ≤ lo ∧ lo ≤ 100000) (hm : -100000 ≤ m ∧ m ≤ 100000) : EvI K (iRng2 tr) (gName j) σ Hd (m - lo).toNat (SInt j lo) := fun H s R r =>
  h H s _ fun H2 e2 => ⟨lo, m, rfl, ⟨by omega, by omega, by omega, by omega⟩, r _ H2 Hd _ _ (Gr.ext s e2) walk_range (fun _ _ => trivial) fun i x H' H'' σ' k hi e y q => by
    obtain ⟨rfl, rfl⟩ := y
    exact q _ _ (Ex.refl _) rfl⟩
/-- the target of a pair: two names -/
abbrev g2 (K : PySem.W.Frag) (j j2 : Nat) : TG := gTup K 2 (gCons (gName j) (gCons (gName j2) gNil))
theorem pair_turn {f f2 : Nat → Option V} {fd fd2 : Nat → Option PyData} {x : V} {H' H'' : Hp} {σ' : L2.St} {k : L2.St → Hp → Prop} (hf : ∀ v, f i = some v → ∃ d, fd i = some d ∧ Dp K Hn v d) (hf2 : ∀ v, f2 i = some v → ∃ d, fd2 i = some d ∧ Dp K Hn v d)
    (y : YPair f f2 i H' x H'') (q : ∀ σ2 H3, Ex H' H3 → SPair K j j2 fd fd2 i σ' σ2 Hn → k σ2 H3) : g2 K j j2 x σ' H'' k := by
  obtain ⟨T, a, b, rfl, hT, rfl, h1, h2⟩ := y
  obtain ⟨d, e1, q1⟩ := hf a h1
  obtain ⟨d2, e2, q2⟩ := hf2 b h2
  exact ⟨T, [a, b], rfl, st_of upd_same, rfl, a, [b], rfl, b, [], rfl, rfl, q _ _ (Ex.new hT) ⟨a, b, d, d2, e1, e2, q1, q2, rfl⟩⟩
theorem ei_zipL (h : EvDA K tr σ Hd [.list ds, .list es]) (hl : ds.length = es.length) : EvI K (iZipA K tr) (g2 K j j2) σ Hd ds.length (SPair K j j2 (fun i => ds[i]?) (fun i => es[i]?)) := fun H s R r =>
  h H s _ fun vs H2 Hn g hd => by
    cases hd with
    | cons h1 h2 =>
      cases h2 with
      | cons h2 h3 =>
        cases h3
        cases h1 with
        | @lst a xs ds hs hall =>
          cases h2 with
          | @lst b ys es hs2 hall2 =>
            refine ⟨a, b, xs, ys, rfl, Or.inl ⟨ex_l g.sub hs, ex_l g.sub hs2, r _ H2 Hn _ _ g (walk_zip (xs := xs) (ys := ys) (by rw [dpa_len hall, dpa_len hall2]; omega)) (fun H' e => ⟨ex_l e hs, ex_l e hs2⟩) fun i x H' H'' σ' k hi e y q => ?_⟩⟩
            exact pair_turn (fun v e => dpa_get2 hall e) (fun v e => dpa_get2 hall2 e) y q
theorem walk_zipT {a b : Addr} {xs ys : List V} {n : Nat} (hn : n = min xs.length ys.length) : Walk (ItzT K a b) n (fun H => SqT K H a xs ∧ SqT K H b ys) (YPair (fun i => xs[i]?) (fun i => ys[i]?)) := by
  subst hn
  refine ⟨fun i _ hi q => ?_, fun _ q => ⟨xs, ys, q.1, q.2, by omega⟩, fun i H v H' _ q y => ?_⟩
  · have h1 : i < xs.length := by omega
    have h2 : i < ys.length := by omega
    exact ⟨xs, ys, xs[i], ys[i], q.1, q.2, by simp [h1], by simp [h2]⟩
  · obtain ⟨T, x, z, h1, h2, h3, h4, h5⟩ := y
    exact ⟨T, x, z, h1, h2, h3, h4 xs q.1, h5 ys q.2⟩
theorem ei_zipT (h : EvDA K tr σ Hd [.tuple ds, .tuple es]) (hl : ds.length = es.length) : EvI K (iZipA K tr) (g2 K j j2) σ Hd ds.length (SPair K j j2 (fun i => ds[i]?) (fun i => es[i]?)) := fun H s R r =>
  h H s _ fun vs H2 Hn g hd => by
    cases hd with
    | cons h1 h2 =>
      cases h2 with
      | cons h2 h3 =>
        cases h3
        cases h1 with
        | @tup a xs ds hs hall =>
          cases h2 with
          | @tup b ys es hs2 hall2 =>
            refine ⟨a, b, xs, ys, rfl, Or.inr ⟨ex_t g.sub hs, ex_t g.sub hs2, r _ H2 Hn _ _ g (walk_zipT (xs := xs) (ys := ys) (by rw [dpa_len hall, dpa_len hall2]; omega)) (fun H' e => ⟨ex_t e hs, ex_t e hs2⟩) fun i x H' H'' σ' k hi e y q => ?_⟩⟩
            exact pair_turn (fun v e => dpa_get2 hall e) (fun v e => dpa_get2 hall2 e) y q
theorem ei_enum (h : EvDA K tr σ Hd [.list ds]) : EvI K (iEnum K tr) (g2 K j j2) σ Hd ds.length (SPair K j j2 (fun i => some (.int (i : Int))) (fun i => ds[i]?)) := fun H s R r =>
  h H s _ fun vs H2 Hn g hd => by
    cases hd with
    | cons h1 h2 =>
      cases h2
      cases h1 with
      | @lst a xs ds hs hall =>
        refine ⟨a, xs, rfl, ex_l g.sub hs, r _ H2 Hn _ _ g (by rw [← dpa_len hall]; exact walk_enum) (fun H' e => ex_l e hs) fun i x H' H'' σ' k hi e y q => ?_⟩
        refine pair_turn (fun v e => ?_) (fun v e => dpa_get2 hall e) y q
        cases e
        exact ⟨_, rfl, .int _⟩

/-! ### comprehensions -/
def givenD (n : Nat) (f : Nat → Bool) (v : Nat → PyData) : List PyData := ((List.range n).filter f).map v
theorem givenD_yes {f : Nat → Bool} {v : Nat → PyData} (h : f n = true) : givenD (n + 1) f v = givenD n f v ++ [v n] := by
  unfold givenD
  rw [List.range_succ, List.filter_append, List.map_append, List.filter_cons, if_pos h] <;> rfl
theorem givenD_no {f : Nat → Bool} {v : Nat → PyData} (h : f n = false) : givenD (n + 1) f v = givenD n f v := by
  unfold givenD
  rw [List.range_succ, List.filter_append, List.map_append, List.filter_cons, if_neg (by rw [h]; decide)]
  show _ ++ [] = _
  rw [List.append_nil]
theorem givenD_len (n : Nat) (f : Nat → Bool) (v : Nat → PyData) : (givenD n f v).length ≤ n := by
  unfold givenD
  rw [List.length_map]
  have h := List.length_filter_le f (List.range n)
  rw [List.length_range] at h
  exact h
theorem givenD_all (n : Nat) (v : Nat → PyData) : givenD n (fun _ => true) v = (List.range n).map v := by
  unfold givenD
  rw [List.filter_eq_self.mpr (fun _ _ => rfl)]
theorem range_get (ds : List PyData) (F : PyData → PyData) : (List.range ds.length).map (fun i => F (ds[i]?.getD .none)) = ds.map F := by
  apply List.ext_getElem
  · simp
  · intro i h1 h2
    simp at h1 h2 ⊢
    rw [List.getElem?_eq_getElem h1]
    rfl
theorem et_yes : EvT tYes σ H true := fun H1 e Q q => q H1 (Ex.refl H1)
theorem en_lc {S : Nat → L2.St → L2.St → Hp → Prop} {vs : List Nat} (h : EvI K wi g σ Hd n S) (hn : n ≤ 40000) (f : Nat → Bool) (v : Nat → PyData)
    (ht : ∀ (i : Nat) (σ2 : L2.St) (Hn : Hp), i < n → Ex Hd Hn → S i (wipe σ vs) σ2 Hn → wipe σ2 vs = wipe σ vs ∧ EvT tt σ2 Hn (f i) ∧ (f i = true → EvD K te σ2 Hn (v i))) : EvN K (tLc wi g tt te vs) σ Hd (givenD n f v) := fun H s Q q =>
  h H s _ fun J H1 Hn G Y gr w hG hY Dl hD => by
    refine lc_it w (fun i H' => i ≤ n ∧ ∃ Hm acc, Gr Hn H1 Hm H' ∧ Hm Dl = none ∧ H' Dl = some (.lst acc) ∧ DpAll K Hm acc (givenD i f v)) ⟨Nat.zero_le _, Hn, [], Gr.alloc gr.sub hD, fresh_back gr.sub hD, upd_same, .nil⟩ (fun i H' _ p => ?_) (fun i x H' H'' hi p y => ?_) (fun H' p => ?_)
    · obtain ⟨_, Hm, acc, g1, _⟩ := p
      exact hG H' (g1.dx.trans g1.sub)
    · obtain ⟨_, Hm, acc, g1, hm, h2, hac⟩ := p
      refine hY i x H' H'' _ _ hi (g1.dx.trans g1.sub) y fun σ2 H3 e3 hS => ?_
      obtain ⟨hw, hT, hE⟩ := ht i σ2 Hn hi gr.dx hS
      refine ⟨hw, hT H3 ((g1.dx.trans g1.sub).trans e3) _ fun H4 e4 => ?_⟩
      have al : acc.length < sizeLine := sz_lt (by have := givenD_len i f v; rw [dpa_len hac]; omega)
      cases hf : f i with
      | false =>
        show (i + 1 ≤ n ∧ _)
        refine ⟨hi, Hm, acc, g1.post (e3.trans e4), hm, (e3.trans e4) _ _ h2, ?_⟩
        rw [givenD_no hf]
        exact hac
      | true =>
        show te σ2 H4 _
        refine ((hE hf).mono g1.dx) H4 ((g1.sub.trans e3).trans e4) _ fun y H5 Ho g5 hy => ?_
        have h4 : H4 Dl = some (.lst acc) := (e3.trans e4) _ _ h2
        have ho : Ho Dl = none := g5.fr _ _ h4 hm
        have hD1 : H1 Dl = none := hD
        refine ⟨acc, g5.ex _ _ h4, al, hi, Ho, acc ++ [y], ⟨Ex.mut ((g1.ex.trans (e3.trans e4)).trans g5.ex) hD1, g1.dx.trans g5.dx, Ex.mut g5.sub ho, fun a o ha hd => g5.fr a o ((e3.trans e4) a o (g1.ex a o ha)) (g1.fr a o ha hd)⟩, ho, upd_same, ?_⟩
        rw [givenD_yes hf]
        exact dpa_app (dpa_mono g5.dx _ hac) (.cons hy .nil)
    · obtain ⟨_, Hm, acc, g1, hm, h2, hac⟩ := p
      exact q Dl acc H' Hm (gr.trans g1) (fresh_back gr.ex hD) hm h2 hac
theorem ev_all {bs : List Bool} (h : EvD K ta σ Hd (.list (bs.map .bool))) : Ev (tCB (rAll K) (tCons ta tNil)) σ Hd (.bl (bs.all id)) := fun H s Q q =>
  h H s _ fun v H2 Hn g hd => by
    cases hd with
    | @lst a xs ds hs hall =>
      have e := dpa_bools_inv hall
      subst e
      exact ⟨a, bs, rfl, ex_l g.sub hs, q H2 g.ex⟩
theorem ev_sum {bs : List Int} (h : EvD K ta σ Hd (.list (bs.map .int))) : Ev (tCB (rSum K) (tCons ta tNil)) σ Hd (.int bs.sum) := fun H s Q q =>
  h H s _ fun v H2 Hn g hd => by
    cases hd with
    | @lst a xs ds hs hall =>
      have e := dpa_ints_inv hall
      subst e
      exact ⟨a, bs, rfl, ex_l g.sub hs, q H2 g.ex⟩

/-! ### types of data -/
def tyN : PyData → String
  | .none => "NoneType"
  | .bool _ => "bool"
  | .int _ => "int"
  | .str _ => "str"
  | .list _ => "list"
  | .tuple _ => "tuple"
  | .dict _ => "dict"
theorem dp_ty (h : Dp K H v d) : TyX K H v (.type (tyN d)) := by
  cases h with
  | non => exact .base .non
  | bl b => exact .base (.bl b)
  | int i => exact .base (.int i)
  | str z => exact .base (.str z)
  | lst hs _ =>
    rcases hs with (h | ⟨o, h⟩) | ⟨o, its, n, h1, h2, _⟩
    · exact .base (.lst h)
    · exact .base (.frz h)
    · exact .kList h1 h2
  | tup hs _ =>
    rcases hs with (h | ⟨o, h⟩) | ⟨o, its, n, h1, h2, _⟩
    · exact .base (.tup h)
    · exact .fTuple h
    · exact .kTuple h1 h2
theorem ev_isi {T : String} {b : Bool} (ha : EvD K ta σ Hd d) (k : kitB (tyN d) T = some b) : Ev (tCB (rIsi K) (tCons ta (tCons (tC (.ty T)) tNil))) σ Hd (.bl b) := fun H s Q q =>
  ha H s _ fun v H2 Hn g hd => ⟨v, .ty T, _, _, b, rfl, .ty T, dp_ty (dp_mono g.sub _ hd), kit_ty k, q H2 g.ex⟩
theorem ev_isiT2 {T T2 : String} {b b2 : Bool} (ha : EvD K ta σ Hd d) (k : kitB (tyN d) T = some b) (k2 : kitB (tyN d) T2 = some b2) : Ev (tCB (rIsiT K) (tCons ta (tCons (tTup (tCons (tC (.ty T)) (tCons (tC (.ty T2)) tNil))) tNil))) σ Hd (.bl (b || b2)) := fun H s Q q =>
  ha H s _ fun v H2 Hn g hd => ⟨by show 2 ≤ sizeLine; decide, fun p hp => ⟨v, p, [.ty T, .ty T2], _, [.type T, .type T2], b || b2, rfl, upd_same, .cons (.ty T) (.cons (.ty T2) .nil), dp_ty (dp_mono (g.sub.trans (Ex.new hp)) _ hd), by
    refine kitAny_cons (kit_ty k) (fun e => kitAny_cons (kit_ty k2) (fun e2 => ?_) (fun e2 => ?_)) (fun e => ?_)
    · rw [e, e2]; rfl
    · rw [e2, Bool.or_true]
    · rw [e]; rfl, q _ (g.ex.trans (Ex.new hp))⟩⟩
theorem ev_eqD {e : PyData} (ha : EvD K ta σ Hd d) (hb : EvD K tb σ Hd e) (hd : SeqAt.shaped d = true) (he : SeqAt.shaped e = true) : Ev (tOp (rEqD K) ta tb) σ Hd (.bl (PyData.eqv d e)) := fun H s Q q =>
  ha H s _ fun v H2 Hn g h1 => hb.mono g.dx H2 g.sub _ fun v2 H3 Hm g2 h2 => ⟨d, e, dp_mono (g2.dx.trans g2.sub) _ h1, dp_mono g2.sub _ h2, hd, he, q H3 (g.ex.trans g2.ex)⟩
theorem ev_neD {e : PyData} (ha : EvD K ta σ Hd d) (hb : EvD K tb σ Hd e) (hd : SeqAt.shaped d = true) (he : SeqAt.shaped e = true) : Ev (tOp (rNeD K) ta tb) σ Hd (.bl (!PyData.eqv d e)) := fun H s Q q =>
  ha H s _ fun v H2 Hn g h1 => hb.mono g.dx H2 g.sub _ fun v2 H3 Hm g2 h2 => ⟨d, e, dp_mono (g2.dx.trans g2.sub) _ h1, dp_mono g2.sub _ h2, hd, he, q H3 (g.ex.trans g2.ex)⟩
end
end Cot

namespace Cot
open PySem L2 Evl
theorem kb_NoneType_bool : kitB "NoneType" "bool" = some false := by decide +kernel
theorem kb_NoneType_int : kitB "NoneType" "int" = some false := by decide +kernel
theorem kb_NoneType_str : kitB "NoneType" "str" = some false := by decide +kernel
theorem kb_NoneType_list : kitB "NoneType" "list" = some false := by decide +kernel
theorem kb_NoneType_tuple : kitB "NoneType" "tuple" = some false := by decide +kernel
theorem kb_bool_bool : kitB "bool" "bool" = some true := by decide +kernel
theorem kb_bool_int : kitB "bool" "int" = some true := by decide +kernel
theorem kb_bool_str : kitB "bool" "str" = some false := by decide +kernel
theorem kb_bool_list : kitB "bool" "list" = some false := by decide +kernel
theorem kb_bool_tuple : kitB "bool" "tuple" = some false := by decide +kernel
theorem kb_int_bool : kitB "int" "bool" = some false := by decide +kernel
theorem kb_int_int : kitB "int" "int" = some true := by decide +kernel
theorem kb_int_str : kitB "int" "str" = some false := by decide +kernel
theorem kb_int_list : kitB "int" "list" = some false := by decide +kernel
theorem kb_int_tuple : kitB "int" "tuple" = some false := by decide +kernel
theorem kb_str_bool : kitB "str" "bool" = some false := by decide +kernel
theorem kb_str_int : kitB "str" "int" = some false := by decide +kernel
theorem kb_str_str : kitB "str" "str" = some true := by decide +kernel
theorem kb_str_list : kitB "str" "list" = some false := by decide +kernel
theorem kb_str_tuple : kitB "str" "tuple" = some false := by decide +kernel
theorem kb_list_bool : kitB "list" "bool" = some false := by decide +kernel
theorem kb_list_int : kitB "list" "int" = some false := by decide +kernel
theorem kb_list_str : kitB "list" "str" = some false := by decide +kernel
theorem kb_list_list : kitB "list" "list" = some true := by decide +kernel
theorem kb_list_tuple : kitB "list" "tuple" = some false := by decide +kernel
theorem kb_tuple_bool : kitB "tuple" "bool" = some false := by decide +kernel
theorem kb_tuple_int : kitB "tuple" "int" = some false := by decide +kernel
theorem kb_tuple_str : kitB "tuple" "str" = some false := by decide +kernel
theorem kb_tuple_list : kitB "tuple" "list" = some false := by decide +kernel
theorem kb_tuple_tuple : kitB "tuple" "tuple" = some true := by decide +kernel
/-- data of a depth of at most n, without dicts -/
def okD : Nat → PyData → Prop
  | _, .none => True
  | _, .bool _ => True
  | _, .int _ => True
  | _, .str _ => True
  | _, .dict _ => False
  | 0, .list ds => ds = []
  | 0, .tuple ds => ds = []
  | n + 1, .list ds => ds.length ≤ 40000 ∧ ∀ e ∈ ds, okD n e
  | n + 1, .tuple ds => ds.length ≤ 40000 ∧ ∀ e ∈ ds, okD n e
def spSame (K : PySem.W.Frag) : Nat → Sp
  | 0 => fun _ _ _ _ => False
  | n + 1 => fun vs H Q _ => ∃ Hd d v1 v2, vs = [v1, v2] ∧ Ex Hd H ∧ Dp K Hd v1 d ∧ Dp K Hd v2 d ∧ okD n d ∧ ∀ H2, Ex H H2 → Q (.bl true) H2
section
variable {K : PySem.W.Frag} {X : Cx} {H H' Hd Hd' Hn H1 H2 Hm : Hp} {σ : L2.St} {ta tb tc te tx tl : TE} {t u tt : TT} {x y z v v' : V} {d : PyData} {ds es : List PyData} {tr : TA} {D : Ends} {tu tw tz : TS} {i j j2 n : Nat} {wi : TI} {g : TG}
theorem ev_same {E : XK} (h : EvDA K tr σ Hd [d, d]) (hk : okD n d) : Ev (tCall (spSame K (n + 1)) [] E tr) σ Hd (.bl true) := fun H s Q q =>
  h H s _ fun vs H2 Hn g hd => by
    cases hd with
    | cons h1 h2 =>
      cases h2 with
      | cons h2 h3 =>
        cases h3
        exact ⟨Hn, d, _, _, rfl, g.sub, h1, h2, hk, fun H3 e3 => q H3 (g.ex.trans e3)⟩
theorem go_whenT (h : EvT t σ H true) (h1 : Go tu { D with nx := tz D } σ H) : Go (tSeq (tIfS t tu tNext) tz) D σ H := go_when h (fun _ => h1) (fun e => by cases e)
theorem go_whenF (h : EvT t σ H false) (h2 : Go tz D σ H) : Go (tSeq (tIfS t tu tNext) tz) D σ H := go_when h (fun e => by cases e) (fun _ => h2)
end
end Cot
namespace Cot
open PySem L2 Evl
section
variable {K : PySem.W.Frag} {X : Cx} {H H' Hd Hd' Hn H1 H2 Hm : Hp} {σ : L2.St} {ta tb tc te tx tl : TE} {t u tt : TT} {x y z v v' : V} {d : PyData} {ds es : List PyData} {tr : TA} {D : Ends} {tu tw tz : TS} {i j j2 n : Nat} {wi : TI} {g : TG}
theorem go_for {S : Nat → L2.St → L2.St → Hp → Prop} (s : Ex Hd H) (h : EvI K wi g σ Hd n S) (Pv : Hp → Nat → L2.St → Hp → Prop) (h0 : ∀ H' Hn, Gr Hd H Hn H' → Pv Hn 0 σ H') (hE : ∀ Hn i σ' H', Pv Hn i σ' H' → Ex Hn H')
    (hs : ∀ Hn i σ' σ2 H', Ex Hd Hn → i < n → Pv Hn i σ' H' → S i σ' σ2 Hn → Go tu { D with nx := Pv Hn (i + 1), ct := Pv Hn (i + 1), bk := tz D } σ2 H')
    (hd : ∀ Hn σ' H', Ex Hd Hn → Pv Hn n σ' H' → Go tz D σ' H') : Go (tSeq (tFor wi g tu) tz) D σ H := fun H1 e1 =>
  h H1 (s.trans e1) _ fun J H2 Hn G Y gr w hG hY => by
    refine for_it w (Pv Hn) (h0 H2 Hn (gr.pre e1)) (fun i σ' H' _ p => hG H' (hE Hn i σ' H' p)) (fun i x σ' H' H'' hi p y => ?_) (fun σ' H' p => hd Hn σ' H' gr.dx p H' (Ex.refl _))
    exact hY i x H' H'' σ' _ hi (hE Hn i σ' H' p) y fun σ2 H3 e3 hS => hs Hn i σ' σ2 H' gr.dx hi p hS H3 e3
theorem eu_of (h : EvA tr σ Hd [x]) : True := trivial
end
end Cot
namespace Cot
open PySem L2 Evl
section
variable {K : PySem.W.Frag} {b : Bid} {H H' Hd Hd' Hn H1 H2 Hm : Hp} {σ : L2.St} {ta tb te : TE} {tr : TA} {n : Nat} {p : Int → Prop}
def AllP (p : Int → Prop) (n : Nat) (ds : List PyData) : Prop := ds.length = n ∧ ∀ d ∈ ds, isI p d
theorem ap_nil : EvBA K b tNil σ Hd (AllP p 0) := fun hb H s B Q q => eba_nil hb H s B Q fun vs H2 Hn ds g h e => q vs H2 Hn ds g h (by subst e; exact ⟨rfl, fun _ h => by cases h⟩)
theorem ap_cons (h : EvB K b ta σ Hd (isI p)) (hr : EvBA K b tr σ Hd (AllP p n)) : EvBA K b (tCons ta tr) σ Hd (AllP p (n + 1)) := fun hb H s B Q q => eba_cons h hr hb H s B Q fun vs H2 Hn ds g hd hp => q vs H2 Hn ds g hd (by
  obtain ⟨d, es, rfl, h1, h2, h3⟩ := hp
  refine ⟨by rw [List.length_cons, h2], fun e he => ?_⟩
  rcases List.mem_cons.mp he with rfl | he
  · exact h1
  · exact h3 e he)
theorem atI_get {α : Type} {ds : List α} {i : Int} (h0 : 0 ≤ i) (h1 : i < (ds.length : Int)) : ∃ d, atI ds i = some d ∧ d ∈ ds := by
  have h : i.toNat < ds.length := by omega
  refine ⟨ds[i.toNat], ?_, List.getElem_mem h⟩
  unfold atI ixN
  rw [if_pos h0, if_pos (by omega)]
  simp [h]
theorem eb_pick (h : EvBA K b tr σ Hd (AllP p n)) (hi : EvB K b tb σ Hd (isI fun i => 0 ≤ i ∧ i < (n : Int))) (hn : n ≤ 100000) : EvB K b (tOp (rIxL K) (tLst tr) tb) σ Hd (isI p) := by
  refine EvB.imp (eb_ixL (eb_lst h fun ds h => by rw [h.1]; exact hn) hi fun ds i h1 h2 => ?_) ?_
  · obtain ⟨d, h3, _⟩ := atI_get (ds := ds) h2.1 (by rw [h1.1]; exact h2.2)
    exact ⟨d, h3⟩
  · rintro d ⟨ds, i, h1, h2, h3⟩
    obtain ⟨d', h4, h5⟩ := atI_get (ds := ds) h2.1 (by rw [h1.1]; exact h2.2)
    rw [h3] at h4
    cases h4
    exact h1.2 d h5
theorem eb_int {q : Int → Prop} {m : Int} (h : Ev te σ Hd (.int m)) (hq : q m) : EvB K b te σ Hd (isI q) := (eb_ev h).imp fun d ⟨i, e, e2⟩ => ⟨i, e, by rw [e2]; exact hq⟩
theorem EvB.impI {p q : Int → Prop} (h : EvB K b te σ Hd (isI p)) (k : ∀ i, p i → q i) : EvB K b te σ Hd (isI q) := h.imp fun d ⟨i, e, e2⟩ => ⟨i, e, k i e2⟩
end
end Cot
namespace Cot
open PySem L2 Evl
section
variable {K : PySem.W.Frag} {b : Bid} {H H' Hd Hd' Hn H1 H2 Hm : Hp} {σ : L2.St} {ta tb te : TE} {tr : TA} {n i j : Nat} {p : Int → Prop} {Ps : List PyData → Prop} {D : Ends} {tu tz : TS} {ds : List PyData}
theorem go_forTB (hb : Hd b.b = none) (s : Ex Hd H) (B : Bx H b) (h : EvB K b te σ Hd (fun d => ∃ ds, d = .tuple ds ∧ Ps ds)) (Pv : List PyData → Hp → Nat → L2.St → Hp → Prop)
    (h0 : ∀ H' Hn ds, GrB b Hd H Hn H' → Ps ds → Pv ds Hn 0 σ H') (hE : ∀ ds Hn i σ' H', Pv ds Hn i σ' H' → Ex Hn H')
    (hs : ∀ ds Hn i σ' H' v d, Ps ds → Ex Hd Hn → Hn b.b = none → ds[i]? = some d → Dp K Hn v d → Pv ds Hn i σ' H' → Go tu { D with nx := Pv ds Hn (i + 1), ct := Pv ds Hn (i + 1), bk := tz D } (σ'.set j (some v)) H')
    (hd : ∀ ds Hn σ' H', Ps ds → Ex Hd Hn → Hn b.b = none → Pv ds Hn ds.length σ' H' → Go tz D σ' H') : Go (tSeq (tFor (iTup K te) (gName j) tu) tz) D σ H := fun H1 e1 =>
  h hb H1 (s.trans e1) (B.mono e1) _ fun v H2 Hn d g hdp hp => by
    obtain ⟨ds, rfl, ps⟩ := hp
    have hbn := g.bn hb (B.mono e1)
    cases hdp with
    | @tup a xs ds hx hall =>
      refine ⟨a, rfl, ⟨xs, ex_t g.sub hx⟩, for_it (n := ds.length) (G := fun H => SqT K H a xs) (Y := YAt xs) (by rw [← dpa_len hall]; exact walk_tup) (Pv ds Hn) (h0 H2 Hn ds (g.pre e1) ps) (fun i σ' H' _ p => ex_t (hE ds Hn i σ' H' p) hx) (fun i x σ' H' H'' hi p y => ?_) (fun σ' H' p => hd ds Hn σ' H' ps g.dx hbn p H' (Ex.refl _))⟩
      obtain ⟨rfl, hx⟩ := y
      obtain ⟨d, q1, q2⟩ := dpa_get2 hall hx
      exact hs ds Hn i σ' _ x d ps g.dx hbn q1 q2 p _ (Ex.refl _)
theorem dpa_rep {vs : List V} (h : DpAll K H vs ds) : ∀ k : Nat, DpAll K H (List.replicate k vs).flatten (List.replicate k ds).flatten
  | 0 => .nil
  | k + 1 => by
    rw [List.replicate_succ, List.replicate_succ, List.flatten_cons, List.flatten_cons]
    exact dpa_app h (dpa_rep h k)
theorem en_rep {k : Int} (h : EvN K ta σ Hd ds) (hk : Ev tb σ Hd (.int k)) (h0 : -1000 ≤ k ∧ k ≤ 1000) (hl : ds.length * k.toNat ≤ 100000) : EvN K (tOp rRep ta tb) σ Hd (List.replicate k.toNat ds).flatten := fun H s Q q =>
  h H s _ fun p xs H2 Hn g hp hn h2 hd => hk.mono g.dx H2 g.sub _ fun H3 e3 => ⟨p, k, xs, rfl, rfl, e3 _ _ h2, by omega, by omega, by rw [dpa_len hd]; exact sz_of hl, fun r hr => q r _ _ Hn ((g.post e3).trans (Gr.alloc (g.sub.trans e3) hr)) (fresh_back (g.ex.trans e3) hr) (fresh_back (g.sub.trans e3) hr) upd_same (dpa_rep hd _)⟩
end
end Cot
namespace Cot
open PySem L2 Evl
section
variable {K : PySem.W.Frag} {x qual : Str} {params : Arguments} {body : List Stmt} {scope : Scope} {dvs : List V} {kws : List (Str × V)} {f : Addr} {fd : FuncData} {ps : List Str}
theorem bindsAll (F : FunD K x qual params body scope dvs kws f fd) (n : Nat) (hd : dvs ≠ []) (hn : n = ps.length)
    (h : ∀ (T : Addr) (kV doc pm : Value) (an : Option Addr) (cdv ct : Value) (us its : List Value), us.length = n → its.length = dvs.length →
      ∃ k, bindArgs (PySem.W.fnOf x qual params body scope (.ref T) kV doc pm an cdv ct) ⟨us, []⟩ = seqItems? (.ref T) >>= k ∧ k (some its.toArray) = pure (ps.zip us)) : Binds K fd ps [] := by
  obtain ⟨ds, v, b⟩ := F.binds1 (ps := ps) n dvs.length hd (by omega) (fun T kV doc pm an cdv ct us its hu hi => by
    obtain ⟨k, h1, h2⟩ := h T kV doc pm an cdv ct us its hu hi
    refine ⟨k, h1, ?_⟩
    rw [List.drop_of_length_le (by omega), List.append_nil]
    exact h2)
  rw [List.drop_of_length_le (Nat.le_refl _)] at v
  cases v
  exact b
theorem bindsKw (F : FunD K x qual params body scope dvs kws f fd) {n : Nat} {ks : List Str} (hd : dvs ≠ [])
    (h : ∀ (T : Addr) (kV doc pm : Value) (an : Option Addr) (cdv ct : Value) (us ws its : List Value), us.length = n → ws.length = ks.length → its.length = dvs.length →
      ∃ k, bindArgs (PySem.W.fnOf x qual params body scope (.ref T) kV doc pm an cdv ct) ⟨us, ks.zip ws⟩ = seqItems? (.ref T) >>= k ∧ k (some its.toArray) = pure (ps.zip (us ++ ws))) :
    KBn K fd ps n ks (fun us ws => us ++ ws) (fun us ws => us ++ ws) := by
  obtain ⟨oc, od, dV, kV, doc, pm, an, cdv, ct, osl, rfl, lk, hcd, hD, hK⟩ := F.ex
  rcases hD with ⟨e, _⟩ | ⟨_, T, o, its, m, rfl, lT, oT, rT⟩
  · exact absurd e hd
  · refine ⟨fun s us ws X h1 h2 => ?_, fun r1 r2 => r1.append r2⟩
    obtain ⟨k, e1, e2⟩ := h T kV doc pm an cdv ct us ws its h1 h2 rT.length.symm
    refine BindsTo.of_looks fun M => ?_
    rw [e1]
    exact looks_items X lT oT (.of_pure e2)
end
end Cot

set_option Elab.async false
set_option linter.all false
set_option maxRecDepth 100000
set_option maxHeartbeats 4000000
/-! Lists that stand in the heap, loops that draw, equality of data. -/
namespace Cot
open PySem L2 Evl
def okE : Nat → PyData → Prop
  | _, .none => True
  | _, .bool _ => True
  | _, .int _ => True
  | _, .str x => PyData.strOk x = true
  | _, .dict _ => False
  | 0, .list ds => ds = []
  | 0, .tuple ds => ds = []
  | n + 1, .list ds => ∀ e ∈ ds, okE n e
  | n + 1, .tuple ds => ∀ e ∈ ds, okE n e
theorem canAll : ∀ {ds : List PyData}, (∀ e ∈ ds, e.canLay0 = true) → PyData.canLayAll0 ds = true
  | [], _ => by unfold PyData.canLayAll0; rfl
  | d :: ds, h => by
    unfold PyData.canLayAll0
    rw [h d List.mem_cons_self, canAll fun e he => h e (List.mem_cons_of_mem _ he)]
    rfl
theorem depAll {n : Nat} : ∀ {ds : List PyData}, (∀ e ∈ ds, e.depth ≤ n) → PyData.depthAll ds ≤ n
  | [], _ => by unfold PyData.depthAll; omega
  | d :: ds, h => by
    unfold PyData.depthAll
    have h1 := h d List.mem_cons_self
    have h2 := depAll fun e he => h e (List.mem_cons_of_mem _ he)
    omega
theorem okE_lay : ∀ (n : Nat) (d : PyData), okE n d → d.canLay0 = true ∧ d.depth ≤ n + 1
  | n, .none, _ => ⟨by unfold PyData.canLay0; rfl, by unfold PyData.depth; omega⟩
  | n, .bool _, _ => ⟨by unfold PyData.canLay0; rfl, by unfold PyData.depth; omega⟩
  | n, .int _, _ => ⟨by unfold PyData.canLay0; rfl, by unfold PyData.depth; omega⟩
  | n, .str x, h => ⟨by unfold PyData.canLay0; cases n <;> exact h, by unfold PyData.depth; omega⟩
  | n, .dict _, h => by cases n <;> exact h.elim
  | 0, .list ds, h => by
    have e : ds = [] := h
    subst e
    exact ⟨by unfold PyData.canLay0; exact canAll (fun _ h => by cases h), by unfold PyData.depth PyData.depthAll; omega⟩
  | 0, .tuple ds, h => by
    have e : ds = [] := h
    subst e
    exact ⟨by unfold PyData.canLay0; exact canAll (fun _ h => by cases h), by unfold PyData.depth PyData.depthAll; omega⟩
  | n + 1, .list ds, h => ⟨by unfold PyData.canLay0; exact canAll fun e he => (okE_lay n e (h e he)).1, by
      unfold PyData.depth
      have := depAll (n := n + 1) (ds := ds) fun e he => (okE_lay n e (h e he)).2
      omega⟩
  | n + 1, .tuple ds, h => ⟨by unfold PyData.canLay0; exact canAll fun e he => (okE_lay n e (h e he)).1, by
      unfold PyData.depth
      have := depAll (n := n + 1) (ds := ds) fun e he => (okE_lay n e (h e he)).2
      omega⟩
theorem okE_shaped {n : Nat} {d : PyData} (h : okE n d) (hn : n ≤ 63) : SeqAt.shaped d = true := by
  have h1 := okE_lay n d h
  unfold SeqAt.shaped
  rw [h1.1, decide_eq_true (by omega)]
  rfl
theorem okE_ints (n : Nat) (ns : List Int) : okE (n + 1) (.list (ns.map .int)) := fun e he => by
  obtain ⟨i, _, rfl⟩ := List.mem_map.mp he
  cases n <;> trivial
theorem okE_nil : okE 0 (.list []) := rfl
theorem eqv_ints (xs ys : List Int) : PyData.eqv (.list (xs.map .int)) (.list (ys.map .int)) = decide (xs = ys) := by
  unfold PyData.eqv
  induction xs generalizing ys with
  | nil => cases ys <;> simp [PyData.eqvAll]
  | cons x xs ih =>
    cases ys with
    | nil => simp [PyData.eqvAll]
    | cons y ys =>
      simp only [List.map_cons, PyData.eqvAll]
      rw [ih ys]
      simp only [PyData.eqv, List.cons.injEq, Bool.decide_and]
      rfl
section
variable {K : PySem.W.Frag} {X : Cx} {b : Bid} {l : Addr} {H H' Hd Hd' Hn H1 H2 Hm : Hp} {σ : L2.St} {ta tb te : TE} {tl th : TO} {tr : TA} {n i j : Nat} {p : Int → Prop} {P : PyData → Prop} {D : Ends} {tu tz : TS} {ds es : List PyData} {xs : List V} {lo hi : Option Int}
/-- a list that stands in the heap -/
def EvM (K : PySem.W.Frag) (te : TE) (σ : L2.St) (Hd : Hp) (ds : List PyData) : Prop := ∀ H, Ex Hd H → ∀ Q : VK, (∀ p xs H2 Hn, Gr Hd H Hn H2 → H2 p = some (.lst xs) → DpAll K Hn xs ds → Q (.ref p) H2) → te σ H Q
theorem EvM.mono (e : Ex Hd Hd') (h : EvM K te σ Hd ds) : EvM K te σ Hd' ds := fun H s Q q => h H (e.trans s) Q fun p xs H2 Hn g h2 hd => q p xs H2 _ (g.up e s) h2 (dpa_mono (g.upr e s) ds hd)
theorem em_new (h : EvN K te σ Hd ds) : EvM K te σ Hd ds := fun H s Q q => h H s Q fun p xs H2 Hn g _ _ h2 hd => q p xs H2 Hn g h2 hd
theorem em_ref (h : Ev te σ Hd (.ref l)) (hl : Hd l = some (.lst xs)) (hd : DpAll K Hd xs ds) : EvM K te σ Hd ds := fun H s Q q => h H s Q fun H2 e => q l xs H2 Hd (Gr.ext s e) (e _ _ (s _ _ hl)) hd
theorem en_cat (ha : EvM K ta σ Hd ds) (hb : EvM K tb σ Hd es) (hl : ds.length + es.length ≤ 100000) : EvN K (tOp rCat ta tb) σ Hd (ds ++ es) := fun H s Q q =>
  ha H s _ fun p xs H2 Hn g h2 hd => hb.mono g.dx H2 g.sub _ fun p' ys H3 Hm g3 h3 hd3 => ⟨p, p', xs, ys, rfl, rfl, g3.ex _ _ h2, h3, sz_of (by rw [dpa_len hd, dpa_len hd3]; exact hl), fun r hr =>
    q r _ _ Hm ((g.trans g3).trans (Gr.alloc g3.sub hr)) (fresh_back (g.ex.trans g3.ex) hr) (fresh_back g3.sub hr) upd_same (dpa_app (dpa_mono g3.dx _ hd) hd3)⟩
theorem en_slice (h : EvD K te σ Hd (.list ds)) (h1 : EvO tl σ Hd lo) (h2 : EvO th σ Hd hi) : EvN K (tSl (rSlL K) te tl th) σ Hd ((ds.drop (HT.sIx ds.length 0 lo)).take (HT.sIx ds.length ds.length hi - HT.sIx ds.length 0 lo)) := fun H s Q q =>
  h H s _ fun v H2 Hn g hd => by
    cases hd with
    | @lst a xs ds hs hall =>
      have e0 : ∀ {H3}, Ex H2 H3 → Ex Hd H3 := fun e => (g.dx.trans g.sub).trans e
      refine h1 H2 (g.dx.trans g.sub) _ fun H3 e3 => h2 H3 (e0 e3) _ fun H4 e4 => ⟨a, xs, rfl, ex_l ((g.sub.trans e3).trans e4) hs, fun r hr => ?_⟩
      refine q r _ _ Hn ((g.post (e3.trans e4)).trans (Gr.alloc (g.sub.trans (e3.trans e4)) hr)) (fresh_back (g.ex.trans (e3.trans e4)) hr) (fresh_back (g.sub.trans (e3.trans e4)) hr) upd_same ?_
      unfold cutV
      rw [dpa_len hall]
      exact dpa_take _ (dpa_drop _ hall)
theorem dpa_rev : ∀ {ds : List PyData} {vs : List V}, DpAll K H vs ds → DpAll K H vs.reverse ds.reverse
  | [], _, h => by cases h; exact .nil
  | d :: ds, _, h => by
    cases h with
    | cons a b =>
      rw [List.reverse_cons, List.reverse_cons]
      exact dpa_app (dpa_rev b) (.cons a .nil)
theorem en_rev (h : EvD K te σ Hd (.list ds)) : EvN K (tRevL K te) σ Hd ds.reverse := fun H s Q q =>
  h H s _ fun v H2 Hn g hd => by
    cases hd with
    | @lst a xs ds hs hall => exact ⟨a, xs, rfl, ex_l g.sub hs, fun r hr => q r _ _ Hn (g.trans (Gr.alloc g.sub hr)) (fresh_back g.ex hr) (fresh_back g.sub hr) upd_same (dpa_rev hall)⟩
theorem en_list (h : EvD K te σ Hd (.list ds)) : EvN K (tCB (rListS K) (tCons te tNil)) σ Hd ds := fun H s Q q =>
  h H s _ fun v H2 Hn g hd => by
    cases hd with
    | @lst a xs ds hs hall => exact ⟨a, xs, rfl, Or.inl (ex_l g.sub hs), fun r hr => q r _ _ Hn (g.trans (Gr.alloc g.sub hr)) (fresh_back g.ex hr) (fresh_back g.sub hr) upd_same hall⟩
theorem go_forRB (hb : Hd b.b = none) (s : Ex Hd H) (B : Bx H b) (h : EvBA K b tr σ Hd (fun ds => ∃ m, ds = [.int m] ∧ p m)) (hp : ∀ m, p m → -100000 ≤ m ∧ m ≤ 100000) (Pv : Int → Hp → Nat → L2.St → Hp → Prop)
    (h0 : ∀ H' Hn m, GrB b Hd H Hn H' → p m → Pv m Hn 0 σ H')
    (hs : ∀ m Hn i σ' H', p m → Ex Hd Hn → Hn b.b = none → i < m.toNat → Pv m Hn i σ' H' → Go tu { D with nx := Pv m Hn (i + 1), ct := Pv m Hn (i + 1), bk := tz D } (σ'.set j (some (.int (i : Int)))) H')
    (hd : ∀ m Hn σ' H', p m → Ex Hd Hn → Hn b.b = none → Pv m Hn m.toNat σ' H' → Go tz D σ' H') : Go (tSeq (tFor (iRng1 tr) (gName j) tu) tz) D σ H := fun H1 e1 =>
  h hb H1 (s.trans e1) (B.mono e1) _ fun vs H2 Hn ds g hdp hq => by
    obtain ⟨m, rfl, pm⟩ := hq
    have hbn := g.bn hb (B.mono e1)
    have hpm := hp m pm
    cases hdp with
    | cons h1 h2 =>
      cases h2
      cases h1
      refine ⟨m, rfl, by omega, by omega, for_it (walk_range (lo := 0) (n := m.toNat)) (Pv m Hn) (h0 H2 Hn m (g.pre e1) pm) (fun _ _ _ _ _ => trivial) (fun i x σ' H' H'' hi q y => ?_) (fun σ' H' q => hd m Hn σ' H' pm g.dx hbn q H' (Ex.refl _))⟩
      obtain ⟨rfl, rfl⟩ := y
      have e0 : (0 : Int) + (i : Int) = (i : Int) := Int.zero_add _
      show tu _ (σ'.set j (some (.int ((0 : Int) + (i : Int))))) _
      rw [e0]
      exact hs m Hn i σ' _ pm g.dx hbn hi q _ (Ex.refl _)
theorem go_appB (hb : Hd b.b = none) (s : Ex Hd H) (B : Bx H b) (hl : H l = some (.lst xs)) (nl : l ≠ b.b) (ha : Ev ta σ H (.ref l)) (h : EvB K b te σ Hd P) (hz : xs.length < 100000)
    (k : ∀ v H' Hn d, GrB b Hd H Hn H' → Dp K Hn v d → P d → Go tz D σ (upd H' l (.lst (xs ++ [v])))) : Go (tSeq (tDrop (tBM K "list" rAppend ta (tCons te tNil))) tz) D σ H := fun H1 e1 =>
  ha H1 e1 _ fun H2 e2 => ⟨Or.inl ⟨rfl, xs, sq_of ((e1.trans e2) _ _ hl)⟩, h hb H2 ((s.trans e1).trans e2) ((B.mono e1).mono e2) _ fun v H3 Hn d g hd hp => ⟨l, xs, v, rfl, rfl, g.exb _ _ nl ((e1.trans e2) _ _ hl), sz_lt hz, k v H3 Hn d (g.pre (e1.trans e2)) hd hp _ (Ex.refl _)⟩⟩
end
end Cot
namespace Cot
open PySem L2 Evl
section
variable {K : PySem.W.Frag} {b : Bid} {H H' Hd Hd' Hn H1 H2 Hm : Hp} {σ : L2.St} {ta tb te : TE} {tl th : TO} {tr : TA} {Ps Ps' : List PyData → Prop} {ds : List PyData}
theorem EvBA.imp (h : EvBA K b tr σ Hd Ps) (k : ∀ d, Ps d → Ps' d) : EvBA K b tr σ Hd Ps' := fun hb H s B Q q => h hb H s B Q fun v H2 Hn d g hd hp => q v H2 Hn d g hd (k d hp)
theorem eba_one {p : Int → Prop} (h : EvB K b ta σ Hd (isI p)) : EvBA K b (tCons ta tNil) σ Hd (fun ds => ∃ m, ds = [.int m] ∧ p m) := (eba_cons h eba_nil).imp fun ds ⟨d, es, e1, ⟨m, e2, pm⟩, e3⟩ => ⟨m, by rw [e1, e2, e3], pm⟩
theorem en_from {j : Nat} (h : EvD K te σ Hd (.list ds)) (h1 : Ev ta σ Hd (.int (j : Int))) : EvN K (tSl (rSlL K) te (tPart ta) tNoPart) σ Hd (ds.drop j) := by
  have h2 := en_slice h (eo_some h1) (eo_none (σ := σ) (H := Hd))
  rw [HT.sIx_none, HT.sIx_nat] at h2
  by_cases hj : j ≤ ds.length
  · rw [Nat.min_eq_left hj, List.take_of_length_le (by rw [List.length_drop]; omega)] at h2
    exact h2
  · rw [Nat.min_eq_right (by omega), Nat.sub_self, List.take_zero] at h2
    rw [List.drop_of_length_le (by omega)]
    exact h2
theorem en_upto {j : Nat} (h : EvD K te σ Hd (.list ds)) (h1 : Ev ta σ Hd (.int (j : Int))) : EvN K (tSl (rSlL K) te tNoPart (tPart ta)) σ Hd (ds.take j) := by
  have h2 := en_slice h (eo_none (σ := σ) (H := Hd)) (eo_some h1)
  rw [HT.sIx_none, HT.sIx_nat, List.drop_zero, Nat.sub_zero] at h2
  by_cases hj : j ≤ ds.length
  · rw [Nat.min_eq_left hj] at h2
    exact h2
  · rw [Nat.min_eq_right (by omega), List.take_length] at h2
    rw [List.take_of_length_le (by omega)]
    exact h2
end
end Cot

set_option Elab.async false
set_option linter.all false
set_option maxRecDepth 100000
set_option maxHeartbeats 4000000
/-! Tuples of any kind, ranges asked, tests and comprehensions that draw. -/
namespace Cot
open PySem L2 Evl PyProof.Rows
section
variable {X : Cx}
def rTupS (K : PySem.W.Frag) : List V → Hp → VK → Prop := fun xs H Q => ∃ p ys, xs = [.ref p] ∧ ((SqL K H p ys ∧ ∀ l, H l = none → Q (.ref l) (upd H l (.tup ys))) ∨ (SqT K H p ys ∧ Q (.ref p) H))
theorem call_tupleQ : CallR X (.type "tuple") (rTupS X.K) := call_tuple_of
def rRg2 : List V → Hp → VK → Prop := fun vs H Q => ∃ i j, vs = [V.int i, V.int j] ∧ ∀ p, H p = none → Q (.ref p) (upd H p (.rng i j))
theorem call_rangeQ : CallR X (.type "range") rRg2 := cr_range2
def rInR (neg : Bool) : R2 := fun x y H Q => ∃ i a lo hi, x = V.int i ∧ y = V.ref a ∧ H a = some (.rng lo hi) ∧ Q (.bl (if neg then !decide (lo ≤ i ∧ i < hi) else decide (lo ≤ i ∧ i < hi))) H
theorem op_inR : OpR X (compareOp .In) (rInR false) := op_in_rng
theorem op_notInR : OpR X (compareOp .NotIn) (rInR true) := by
  intro ps s0 σ0 H0 x y vx vy Q I rx ry hq
  obtain ⟨i, a, lo, hi, rfl, rfl, ha, q⟩ := hq
  obtain ⟨k, rfl⟩ := rx
  cases ry
  obtain ⟨ta, tb, tc, ho⟩ := I.hok a _ ha
  show wpAny _ _ (do return Value.bool (!(← contains (.ref a) (.int i k)))) _ _ s0
  refine wpAny_bind ?_
  refine wpAny_contains_slot (T := "range") ?t1 F.slot_range_contains ?t2
  case t1 => exact ⟨_, ho, rfl⟩
  case t2 =>
  refine call_meets F.slot_range_contains ?t3 F.entry_range_contains (F.args_range_contains_2 _ _) (q_contains a lo hi i ta tb tc k) ?t4
  case t3 => exact ⟨_, ho, rfl⟩
  case t4 =>
  refine ⟨ho, wpAny_truthy_bool (wpAny_pure ?_)⟩
  refine ⟨.bl _, H0, I, rfl, ?_⟩
  rw [place1]
  exact q
end
section
variable {K : PySem.W.Frag} {b : Bid} {l : Addr} {H H' Hd Hd' Hn H1 H2 Hm : Hp} {σ : L2.St} {ta tb te : TE} {t u : TT} {tl th : TO} {tr : TA} {n i j j2 : Nat} {p : Int → Prop} {P : PyData → Prop} {D : Ends} {tu tw tz : TS} {d d1 d2 : PyData} {ds es : List PyData} {xs : List V} {lo hi : Option Int} {wi : TI} {g : TG} {x : V}
theorem ed_tupleL (h : EvD K te σ Hd (.list ds)) : EvD K (tCB (rTupS K) (tCons te tNil)) σ Hd (.tuple ds) := fun H s Q q =>
  h H s _ fun v H2 Hn g hd => by
    cases hd with
    | @lst a xs ds hs hall => exact ⟨a, xs, rfl, Or.inl ⟨ex_l g.sub hs, fun r hr => q (.ref r) _ _ (g.trans (Gr.new g.sub hr)) (.tup (st_of upd_same) (dpa_mono (Ex.new (fresh_back g.sub hr)) _ hall))⟩⟩
theorem ed_catT (ha : EvD K ta σ Hd (.tuple ds)) (hb : EvD K tb σ Hd (.tuple es)) (hl : ds.length + es.length ≤ 100000) : EvD K (tOp (rCatA K) ta tb) σ Hd (.tuple (ds ++ es)) := fun H s Q q =>
  ha H s _ fun v H2 Hn g hd => hb.mono g.dx H2 g.sub _ fun v2 H3 Hm g3 hd3 => by
    have hd' := dp_mono g3.dx _ hd
    cases hd' with
    | @tup a xs ds hs hall =>
      have h3 := hd3
      cases hd3 with
      | @tup a2 ys es hs2 hall2 =>
        refine ⟨a, a2, xs, ys, rfl, rfl, ex_t g3.sub hs, ex_t g3.sub hs2, sz_of (by rw [dpa_len hall, dpa_len hall2]; exact hl), fun e => ?_, fun e e2 => ?_, fun e e2 r hr => ?_⟩
        · subst e
          cases hall
          exact q _ H3 Hm (g.trans g3) h3
        · subst e2
          cases hall2
          rw [List.append_nil] at q
          exact q _ H3 Hm (g.trans g3) (.tup hs hall)
        · exact q (.ref r) _ _ ((g.trans g3).trans (Gr.new g3.sub hr)) (.tup (st_of upd_same) (dpa_mono (Ex.new (fresh_back g3.sub hr)) _ (dpa_app hall hall2)))
def cutD (ds : List PyData) (lo hi : Option Int) : List PyData := (ds.drop (HT.sIx ds.length 0 lo)).take (HT.sIx ds.length ds.length hi - HT.sIx ds.length 0 lo)
theorem cutD_mem {e : PyData} (h : e ∈ cutD ds lo hi) : e ∈ ds := List.mem_of_mem_drop (List.mem_of_mem_take h)
theorem cutD_len : (cutD ds lo hi).length ≤ ds.length := by
  unfold cutD
  rw [List.length_take, List.length_drop]
  omega
theorem dpa_cut {vs : List V} (h : DpAll K H vs ds) : DpAll K H (cutV vs lo hi) (cutD ds lo hi) := by
  unfold cutV cutD
  rw [dpa_len h]
  exact dpa_take _ (dpa_drop _ h)
theorem cut_done {a : Addr} {Q : VK} {H4 : Hp} (hs : SqT K Hn a xs) (hall : DpAll K Hn xs ds) (s : Ex Hn H4) (q : ∀ v H5 Hm, Gr Hn H4 Hm H5 → Dp K Hm v (.tuple (cutD ds lo hi)) → Q v H5) : rSlA K (.ref a) lo hi H4 Q := by
  refine ⟨a, xs, rfl, ex_t s hs, fun hw => ?_, fun _ r hr => ?_⟩
  · have e : cutD ds lo hi = ds := by
      unfold cutD
      rw [dpa_len hall] at hw
      rw [hw.1, hw.2, List.drop_zero, Nat.sub_zero, List.take_length]
    refine q _ H4 Hn (Gr.refl s) ?_
    rw [e]
    exact .tup hs hall
  · exact q (.ref r) _ _ (Gr.new s hr) (.tup (st_of upd_same) (dpa_mono (Ex.new (fresh_back s hr)) _ (dpa_cut hall)))
theorem ed_slT (h : EvD K te σ Hd (.tuple ds)) (h1 : EvO tl σ Hd lo) (h2 : EvO th σ Hd hi) : EvD K (tSl (rSlA K) te tl th) σ Hd (.tuple (cutD ds lo hi)) := fun H s Q q =>
  h H s _ fun v H2 Hn g hd => by
    cases hd with
    | @tup a xs ds hs hall =>
      have e0 : ∀ {H3}, Ex H2 H3 → Ex Hd H3 := fun e => (g.dx.trans g.sub).trans e
      refine h1 H2 (g.dx.trans g.sub) _ fun H3 e3 => h2 H3 (e0 e3) _ fun H4 e4 => cut_done hs hall ((g.sub.trans e3).trans e4) fun v H5 Hm g5 hv => q v H5 Hm ((g.post (e3.trans e4)).trans g5) hv
/-- t[:e], e drawn -/
theorem eb_slT (h : EvD K te σ Hd (.tuple ds)) (h2 : EvB K b tb σ Hd (isI p)) : EvB K b (tSl (rSlA K) te tNoPart (tPart tb)) σ Hd (fun d => ∃ i, p i ∧ d = .tuple (cutD ds none (some i))) := fun hb H s B Q q =>
  h H s _ fun v H2 Hn g hd => by
    cases hd with
    | @tup a xs ds hs hall =>
      have gb := GrB.of g B
      refine h2.mono g.dx (gb.bn hb B) H2 g.sub gb.bx _ fun v3 H3 Hm d3 g3 hd3 hp3 => ?_
      obtain ⟨i, rfl, pi⟩ := hp3
      cases hd3
      refine ⟨i, rfl, cut_done (ex_t g3.dx hs) (dpa_mono g3.dx _ hall) g3.sub fun v H5 Hk g5 hv => q v H5 Hk _ ?_ hv ⟨i, pi, rfl⟩⟩
      exact (gb.trans g3 hb B).trans (GrB.of g5 g3.bx) hb B
theorem ed_repT {k : Int} (ha : EvD K ta σ Hd (.tuple ds)) (hk : Ev tb σ Hd (.int k)) (hne : ds ≠ []) (h0 : 2 ≤ k ∧ k ≤ 1000) (hl : ds.length ≤ 1000) : EvD K (tOp (rRepT K) ta tb) σ Hd (.tuple (List.replicate k.toNat ds).flatten) := fun H s Q q =>
  ha H s _ fun v H2 Hn g hd => hk.mono g.dx H2 g.sub _ fun H3 e3 => by
    cases hd with
    | @tup a xs ds hs hall =>
      refine ⟨a, k, xs, rfl, rfl, ex_t (g.sub.trans e3) hs, fun e => ?_, h0.1, h0.2, by rw [dpa_len hall]; exact hl, fun r hr => q (.ref r) _ _ ((g.post e3).trans (Gr.new (g.sub.trans e3) hr)) (.tup (st_of upd_same) (dpa_mono (Ex.new (fresh_back (g.sub.trans e3) hr)) _ (dpa_rep hall _)))⟩
      subst e
      cases hall
      exact hne rfl
theorem ev_inR {neg : Bool} {i lo hi : Int} (ha : Ev ta σ H (.int i)) (h1 : EvA tr σ H [.int lo, .int hi]) : Ev (tOp (rInR neg) ta (tCB rRg2 tr)) σ H (.bl (if neg then !decide (lo ≤ i ∧ i < hi) else decide (lo ≤ i ∧ i < hi))) := fun H1 e1 Q q =>
  ha H1 e1 _ fun H2 e2 => h1 H2 (e1.trans e2) _ fun H3 e3 => ⟨lo, hi, rfl, fun p hp => ⟨i, p, lo, hi, rfl, rfl, upd_same, q _ ((e2.trans e3).trans (Ex.new hp))⟩⟩
/-- a, b = e -/
theorem go_two (s : Ex Hd H) (h : EvD K te σ Hd (.tuple [d1, d2])) (k : ∀ v1 v2 H' Hn, Gr Hd H Hn H' → Dp K Hn v1 d1 → Dp K Hn v2 d2 → Go tz D ((σ.set i (some v1)).set j (some v2)) H') : Go (tSeq (tAsg te (gTup K 2 (gCons (gName i) (gCons (gName j) gNil)))) tz) D σ H := fun H1 e1 =>
  h H1 (s.trans e1) _ fun v H2 Hn g hd => by
    cases hd with
    | @tup a xs ds hs hall =>
      cases hall with
      | cons h1 h2 =>
        cases h2 with
        | cons h2 h3 =>
          cases h3
          exact ⟨a, _, rfl, ex_t g.sub hs, rfl, _, _, rfl, _, _, rfl, rfl, k _ _ H2 Hn (g.pre e1) h1 h2 H2 (Ex.refl _)⟩
theorem go_appD (s : Ex Hd H) (hl : H l = some (.lst xs)) (ha : Ev ta σ H (.ref l)) (h : EvD K te σ Hd d) (hz : xs.length < 100000) (k : ∀ v H' Hn, Gr Hd H Hn H' → Dp K Hn v d → Go tz D σ (upd H' l (.lst (xs ++ [v])))) :
    Go (tSeq (tDrop (tBM K "list" rAppend ta (tCons te tNil))) tz) D σ H := fun H1 e1 =>
  ha H1 e1 _ fun H2 e2 => ⟨Or.inl ⟨rfl, xs, sq_of ((e1.trans e2) _ _ hl)⟩, h H2 ((s.trans e1).trans e2) _ fun v H3 Hn g hd => ⟨l, xs, v, rfl, rfl, g.ex _ _ ((e1.trans e2) _ _ hl), sz_lt hz, k v H3 Hn (g.pre (e1.trans e2)) hd _ (Ex.refl _)⟩⟩
theorem ex_add {o : HO} (s : Ex Hd H) (h : H l = some o) : Ex (upd Hd l o) H := fun a u ha => by
  by_cases e : a = l
  · subst e
    rw [upd_same] at ha
    exact h.trans ha
  · rw [upd_ne e] at ha
    exact s a u ha
/-- a test that draws -/
def EvBT (K : PySem.W.Frag) (b : Bid) (t : TT) (σ : L2.St) (Hd : Hp) : Prop := Hd b.b = none → ∀ H, Ex Hd H → Bx H b → ∀ Q : Bool → Hp → Prop, (∀ c H2 Hn, GrB b Hd H Hn H2 → Q c H2) → t σ H Q
theorem ebt_of {c : Bool} (h : EvT t σ Hd c) : EvBT K b t σ Hd := fun hb H s B Q q => h H s _ fun H2 e => q c H2 Hd (GrB.of (Gr.ext s e) B)
theorem EvBT.mono (e : Ex Hd Hd') (h : EvBT K b t σ Hd) : EvBT K b t σ Hd' := fun hb H s B Q q => h (fresh_back e hb) H (e.trans s) B Q fun c H2 Hn g => q c H2 _ (g.up e s hb).1
theorem ebt_and (h : EvBT K b t σ Hd) (h2 : EvBT K b u σ Hd) : EvBT K b (tAnd t u) σ Hd := fun hb H s B Q q => h hb H s B _ fun c H2 Hn g => by
  cases c with
  | true =>
    show u σ H2 Q
    exact h2.mono g.dx (g.bn hb B) H2 g.sub g.bx Q fun c H3 Hm g3 => q c H3 Hm (g.trans g3 hb B)
  | false => exact q false H2 Hn g
theorem ebt_I0 {gg : Int → Int → V} {f : Int → Int → Bool} {p p' : Int → Prop} (hg : ∀ i j, gg i j = .bl (f i j)) (ha : EvB K b ta σ Hd (isI p)) (hb' : EvB K b tb σ Hd (isI p')) : EvBT K b (tTest (tOp (rI0 gg) ta tb)) σ Hd := fun hb H s B Q q =>
  ha hb H s B _ fun v H1 Hn d g hd hp => hb'.mono g.dx (g.bn hb B) H1 g.sub g.bx _ fun v2 H2 Hm d2 g2 hd2 hp2 => by
    obtain ⟨i, rfl, pi⟩ := hp
    obtain ⟨j, rfl, pj⟩ := hp2
    cases hd
    cases hd2
    exact ⟨i, j, rfl, rfl, f i j, hg i j, q _ H2 Hm (g.trans g2 hb B)⟩
theorem go_whenB (hb : Hd b.b = none) (s : Ex Hd H) (B : Bx H b) (h : EvBT K b t σ Hd) (h1 : ∀ H' Hn, GrB b Hd H Hn H' → Go tu { D with nx := tz D } σ H') (h2 : ∀ H' Hn, GrB b Hd H Hn H' → Go tz D σ H') : Go (tSeq (tIfS t tu tNext) tz) D σ H := fun H1 e1 =>
  h hb H1 (s.trans e1) (B.mono e1) _ fun c H2 Hn g => by
    cases c with
    | true => exact h1 H2 Hn (g.pre e1) H2 (Ex.refl _)
    | false => exact h2 H2 Hn (g.pre e1) H2 (Ex.refl _)
/-- a comprehension whose items draw -/
theorem eb_lc {S : Nat → L2.St → L2.St → Hp → Prop} {vs : List Nat} {PP : PyData → Prop} (h : EvI K wi g σ Hd n S) (hn : n ≤ 40000)
    (ht : ∀ (i : Nat) (σ2 : L2.St) (Hn : Hp), i < n → Ex Hd Hn → S i (wipe σ vs) σ2 Hn → wipe σ2 vs = wipe σ vs ∧ EvB K b te σ2 Hn PP) : EvB K b (tLc wi g tYes te vs) σ Hd (fun d => ∃ ds, d = .list ds ∧ ds.length = n ∧ ∀ e ∈ ds, PP e) := fun hb H s B Q q =>
  h H s _ fun J H1 Hn G Y gr w hG hY Dl hD => by
    have gb := GrB.of gr B
    have hbn := gb.bn hb B
    obtain ⟨nb, nca⟩ := gb.bx.apart hD
    refine lc_it w (fun i H' => i ≤ n ∧ ∃ Hm acc ds, GrB b Hn H1 Hm H' ∧ Hm Dl = none ∧ H' Dl = some (.lst acc) ∧ DpAll K Hm acc ds ∧ ds.length = i ∧ ∀ e ∈ ds, PP e) ⟨Nat.zero_le _, Hn, [], [], GrB.of (Gr.alloc gr.sub hD) gb.bx, fresh_back gr.sub hD, upd_same, .nil, rfl, fun _ h => by cases h⟩ (fun i H' _ p => ?_) (fun i x H' H'' hi p y => ?_) (fun H' p => ?_)
    · obtain ⟨_, Hm, acc, ds, g1, _⟩ := p
      exact hG H' (g1.dx.trans g1.sub)
    · obtain ⟨_, Hm, acc, ds, g1, hm, h2, hac, hln, hpp⟩ := p
      refine hY i x H' H'' _ _ hi (g1.dx.trans g1.sub) y fun σ2 H3 e3 hS => ?_
      obtain ⟨hw, hE⟩ := ht i σ2 Hn hi gr.dx hS
      refine ⟨hw, ?_⟩
      have al : acc.length < sizeLine := sz_lt (by rw [dpa_len hac]; omega)
      have hbm := g1.bn hbn gb.bx
      refine (hE.mono g1.dx) hbm H3 (g1.sub.trans e3) (g1.bx.mono e3) _ fun y H5 Ho d5 g5 hy hp5 => ?_
      have h3 : H3 Dl = some (.lst acc) := e3 _ _ h2
      have ho : Ho Dl = none := g5.fr _ _ h3 hm
      refine ⟨acc, g5.exb _ _ nb h3, al, hi, Ho, acc ++ [y], ds ++ [d5], ⟨fun a o na ha => ?_, g1.dx.trans g5.dx, Ex.mut g5.sub ho, fun a o ha hd => ?_, g5.bx.keep nb nca⟩, ho, upd_same, dpa_app (dpa_mono g5.dx _ hac) (.cons hy .nil), by rw [List.length_append, hln]; rfl, fun e he => ?_⟩
      · rw [upd_ne (ne_of_none ha hD)]
        exact g5.exb a o na (e3 a o (g1.exb a o na ha))
      · by_cases e : a = b.b
        · rw [e]
          exact g5.bn hbm (g1.bx.mono e3)
        · exact g5.fr a o (e3 a o (g1.exb a o e ha)) (g1.fr a o ha hd)
      · rcases List.mem_append.mp he with he | he
        · exact hpp e he
        · rcases List.mem_cons.mp he with rfl | he
          · exact hp5
          · cases he
    · obtain ⟨_, Hm, acc, ds, g1, hm, h2, hac, hln, hpp⟩ := p
      refine q (.ref Dl) H' (upd Hm Dl (.lst acc)) (.list ds) ⟨fun a o na ha => g1.exb a o na (gr.ex a o ha), (gr.dx.trans g1.dx).trans (Ex.new hm), ex_add g1.sub h2, fun a o ha hd => ?_, g1.bx⟩ (.lst (sq_of upd_same) (dpa_mono (Ex.new hm) _ hac)) ⟨ds, rfl, hln, hpp⟩
      have ha1 := gr.ex a o ha
      rw [upd_ne (ne_of_none ha1 hD)]
      exact g1.fr a o ha1 (gr.fr a o ha hd)
theorem eb_tupleL {Ps : List PyData → Prop} (h : EvB K b te σ Hd (fun d => ∃ ds, d = .list ds ∧ Ps ds)) : EvB K b (tCB (rTupS K) (tCons te tNil)) σ Hd (fun d => ∃ ds, d = .tuple ds ∧ Ps ds) := fun hb H s B Q q =>
  h hb H s B _ fun v H2 Hn d g hd hp => by
    obtain ⟨ds, rfl, ps⟩ := hp
    cases hd with
    | @lst a xs ds hs hall => exact ⟨a, xs, rfl, Or.inl ⟨ex_l g.sub hs, fun r hr => q (.ref r) _ _ (.tuple ds) (g.trans (GrB.of (Gr.new g.sub hr) g.bx) hb B) (.tup (st_of upd_same) (dpa_mono (Ex.new (fresh_back g.sub hr)) _ hall)) ⟨ds, rfl, ps⟩⟩⟩
end
end Cot
namespace Cot
open PySem L2 Evl
section
variable {K : PySem.W.Frag} {b : Bid} {l : Addr} {o : HO} {H H' Hd Hg Hd' Hn H1 H2 Hm : Hp}
theorem GrB.fresh (G : GrB b Hd H Hg H') (h : H' l = none) : H l = none := by
  obtain ⟨ob, hob⟩ := G.bx.some
  have n : l ≠ b.b := (ne_of_none hob h).symm
  cases e : H l with
  | none => rfl
  | some u =>
    rw [G.exb l u n e] at h
    cases h
theorem GrB.mut (G : GrB b Hd H Hg H') (h0 : H l = none) (hg : Hg l = none) (n1 : l ≠ b.b) (n2 : l ≠ b.ca) : GrB b Hd H Hg (upd H' l o) :=
  ⟨fun a u na ha => by rw [upd_ne (ne_of_none ha h0)]; exact G.exb a u na ha, G.dx, Ex.mut G.sub hg, G.fr, G.bx.keep n1 n2⟩
theorem GrB.add (G : GrB b Hd H Hg H') (h0 : H l = none) (hg : Hg l = none) (hl : H' l = some o) : GrB b Hd H (upd Hg l o) H' :=
  ⟨G.exb, G.dx.trans (Ex.new hg), ex_add G.sub hl, fun a u ha hd => by rw [upd_ne (ne_of_none ha h0)]; exact G.fr a u ha hd, G.bx⟩
theorem GrB.low (e : Ex Hg Hd') (g : GrB b Hd' H Hn H2) : GrB b Hg H Hg H2 := ⟨g.exb, Ex.refl _, (e.trans g.dx).trans g.sub, fun _ _ _ h => h, g.bx⟩
theorem GrB.post (g : GrB b Hd H Hn H1) (e : Ex H1 H2) : GrB b Hd H Hn H2 := ⟨fun a o n h => e a o (g.exb a o n h), g.dx, g.sub.trans e, g.fr, g.bx.mono e⟩
end
end Cot

namespace C_k05
open PySem PySem.Spec PyProof.Rows L2 Evl Cot RZ
local macro_rules | `(tactic| walk_at "side") => `(tactic| first | decide | omega | (show (0 : Int) < _; omega) | (show (0 : Int) < _ ∧ _ < (1073741824 : Int); omega) | (exact Or.inr (by omega)) | (exact Or.inl (by omega)) | (show (0 : Int) ≤ _ ∧ _ ≤ (1000000 : Int) ∧ _; refine ⟨by decide, by decide, by decide⟩))
local macro_rules | `(tactic| walk_at "rv") => `(tactic| first
  | with_reducible exact rv_I0
  | ((with_reducible apply rv_I); walk_at "side")
  | ((with_reducible apply rv_eq); rfl)
  | ((with_reducible apply rv_ne); rfl)
  | ((with_reducible apply rv_ixL); (first | exact sq_of (by assumption) | exact sq_of upd_same); rfl)
  | with_reducible exact rv_isN)
local macro_rules | `(tactic| walk_at "ev") => `(tactic| first
  | ((with_reducible apply ev_var); rfl)
  | with_reducible exact ev_c
  | ((with_reducible apply ev_op); walk_at "ev"; walk_at "ev"; walk_at "rv")
  | ((with_reducible apply ev_un); walk_at "ev"; exact ru_neg)
  | ((with_reducible apply ev_chainB); walk_at "ev"; walk_at "ev"; walk_at "rv"; walk_at "ev"; walk_at "rv")
  | ((with_reducible apply ev_andB); walk_at "ev"; walk_at "ev")
  | ((with_reducible apply ev_orB); walk_at "ev"; walk_at "ev")
  | ((with_reducible apply ev_notV); walk_at "ev")
  | ((with_reducible apply ev_ifB); walk_at "et"; walk_at "ev"; walk_at "ev"))
local macro_rules | `(tactic| walk_at "ea") => `(tactic| first
  | with_reducible exact ea_nil
  | ((with_reducible apply ea_cons); walk_at "ev"; walk_at "ea"))
local macro_rules | `(tactic| walk_at "et") => `(tactic| first
  | ((with_reducible apply et_test); walk_at "ev")
  | ((with_reducible apply et_B); walk_at "ev")
  | ((with_reducible apply et_not); walk_at "et")
  | ((with_reducible apply et_andB); walk_at "et"; walk_at "et")
  | ((with_reducible apply et_orB); walk_at "et"; walk_at "et"))
local macro_rules | `(tactic| walk_at "kb") => `(tactic| first | exact kb_NoneType_bool | exact kb_NoneType_int | exact kb_NoneType_str | exact kb_NoneType_list | exact kb_NoneType_tuple | exact kb_bool_bool | exact kb_bool_int | exact kb_bool_str | exact kb_bool_list | exact kb_bool_tuple | exact kb_int_bool | exact kb_int_int | exact kb_int_str | exact kb_int_list | exact kb_int_tuple | exact kb_str_bool | exact kb_str_int | exact kb_str_str | exact kb_str_list | exact kb_str_tuple | exact kb_list_bool | exact kb_list_int | exact kb_list_str | exact kb_list_list | exact kb_list_tuple | exact kb_tuple_bool | exact kb_tuple_int | exact kb_tuple_str | exact kb_tuple_list | exact kb_tuple_tuple)
local macro_rules | `(tactic| walk_at "ed") => `(tactic| first
  | ((with_reducible apply ed_var); rfl; first | assumption | exact Dp.int _ | exact Dp.bl _ | exact Dp.str _ | exact Dp.non)
  | ((with_reducible apply ed_tup); walk_at "eda"; (simp only [List.length_cons, List.length_nil]; decide))
  | ((with_reducible apply ed_new); walk_at "en")
  | ((with_reducible apply ed_int); walk_at "ev")
  | ((with_reducible apply ed_bool); walk_at "ev")
  | ((with_reducible apply ed_str); walk_at "ev")
  | ((with_reducible apply ed_non); walk_at "ev"))
local macro_rules | `(tactic| walk_at "en") => `(tactic| first
  | ((with_reducible apply en_lst); walk_at "eda"; (simp only [List.length_cons, List.length_nil]; decide)))
local macro_rules | `(tactic| walk_at "eda") => `(tactic| first
  | with_reducible exact eda_nil
  | ((with_reducible apply eda_cons); walk_at "ed"; walk_at "eda"))
local macro_rules | `(tactic| walk_at "ev") => `(tactic| first
  | ((with_reducible apply ev_isi); walk_at "ed"; walk_at "kb")
  | ((with_reducible apply ev_isiT2); walk_at "ed"; walk_at "kb"; walk_at "kb")
  | ((with_reducible apply ev_eqD); walk_at "ed"; walk_at "ed"; rfl; rfl)
  | ((with_reducible apply ev_neD); walk_at "ed"; walk_at "ed"; rfl; rfl)
  | ((with_reducible apply ev_lenL); walk_at "ed")
  | ((with_reducible apply ev_lenT); walk_at "ed"))

def topS (i : Nat) : Stmt := PySem.Challenge.pw_cotide_k05_charts_judged.main.body.getD i (.Pass ⟨0, 0, 0, 0⟩)
abbrev s_is_clock : Stmt := topS 3
abbrev N_is_clock : List Str := ["clock"]
theorem sc_is_clock : FnScope N_is_clock ["clock"] (defScope s_is_clock) := ⟨rfl, rfl, rfl, by decide +kernel, rfl, by decide +kernel, by decide +kernel⟩
abbrev s_is_what : Stmt := topS 7
abbrev N_is_what : List Str := ["clock", "one"]
theorem sc_is_what : FnScope N_is_what ["clock", "one"] (defScope s_is_what) := ⟨rfl, rfl, rfl, by decide +kernel, rfl, by decide +kernel, by decide +kernel⟩
abbrev s_is_row : Stmt := topS 8
abbrev N_is_row : List Str := ["clock", "row", "wide", "one"]
theorem sc_is_row : FnScope N_is_row ["clock", "row", "wide"] (defScope s_is_row) := ⟨rfl, rfl, rfl, by decide +kernel, rfl, by decide +kernel, by decide +kernel⟩
abbrev s_is_chart : Stmt := topS 9
abbrev N_is_chart : List Str := ["chart", "clock", "rows", "wide", "row"]
theorem sc_is_chart : FnScope N_is_chart ["chart"] (defScope s_is_chart) := ⟨rfl, rfl, rfl, by decide +kernel, rfl, by decide +kernel, by decide +kernel⟩
abbrev s_law_box : Stmt := topS 11
abbrev N_law_box : List Str := ["_law_script", "_law_seed", "_law_cell"]
theorem sc_law_box : FnScope N_law_box ["_law_script"] (defScope s_law_box) := ⟨rfl, rfl, rfl, by decide +kernel, rfl, by decide +kernel, by decide +kernel⟩
abbrev s_law_mixed : Stmt := topS 12
abbrev N_law_mixed : List Str := ["_law_number_here", "_law_turn", "_law_base", "_law_more"]
theorem sc_law_mixed : FnScope N_law_mixed ["_law_number_here", "_law_turn"] (defScope s_law_mixed) := ⟨rfl, rfl, rfl, by decide +kernel, rfl, by decide +kernel, by decide +kernel⟩
abbrev s_law_take : Stmt := topS 13
abbrev N_law_take : List Str := ["_law_box_here", "_law_many", "_law_rest", "_law_cell"]
theorem sc_law_take : FnScope N_law_take ["_law_box_here", "_law_many"] (defScope s_law_take) := ⟨rfl, rfl, rfl, by decide +kernel, rfl, by decide +kernel, by decide +kernel⟩
abbrev s_law_whole : Stmt := topS 14
abbrev N_law_whole : List Str := ["_law_found"]
theorem sc_law_whole : FnScope N_law_whole ["_law_found"] (defScope s_law_whole) := ⟨rfl, rfl, rfl, by decide +kernel, rfl, by decide +kernel, by decide +kernel⟩
abbrev s_law_same : Stmt := topS 15
abbrev N_law_same : List Str := ["_law_found", "_law_due", "_law_one", "_law_other"]
theorem sc_law_same : FnScope N_law_same ["_law_found", "_law_due"] (defScope s_law_same) := ⟨rfl, rfl, rfl, by decide +kernel, rfl, by decide +kernel, by decide +kernel⟩
abbrev s_law_clock : Stmt := topS 16
abbrev N_law_clock : List Str := ["_law_box_here"]
theorem sc_law_clock : FnScope N_law_clock ["_law_box_here"] (defScope s_law_clock) := ⟨rfl, rfl, rfl, by decide +kernel, rfl, by decide +kernel, by decide +kernel⟩
abbrev s_law_number : Stmt := topS 17
abbrev N_law_number : List Str := ["_law_box_here"]
theorem sc_law_number : FnScope N_law_number ["_law_box_here"] (defScope s_law_number) := ⟨rfl, rfl, rfl, by decide +kernel, rfl, by decide +kernel, by decide +kernel⟩
abbrev s_law_square : Stmt := topS 18
abbrev N_law_square : List Str := ["_law_box_here", "_law_clock_here", "_law_land", "_law_untold", "_law_calm", "_law_old", "_law_way"]
theorem sc_law_square : FnScope N_law_square ["_law_box_here", "_law_clock_here", "_law_land", "_law_untold", "_law_calm", "_law_old"] (defScope s_law_square) := ⟨rfl, rfl, rfl, by decide +kernel, rfl, by decide +kernel, by decide +kernel⟩
abbrev s_law_near_hour : Stmt := topS 19
abbrev N_law_near_hour : List Str := ["_law_rows", "_law_line"]
theorem sc_law_near_hour : FnScope N_law_near_hour ["_law_rows", "_law_line"] (defScope s_law_near_hour) := ⟨rfl, rfl, rfl, by decide +kernel, rfl, by decide +kernel, by decide +kernel⟩
abbrev s_law_chart : Stmt := topS 20
abbrev N_law_chart : List Str := ["_law_box_here", "_law_most", "_law_untold", "_law_clock_here", "_law_high", "_law_wide", "_law_land", "_law_calm", "_law_rows", "_law_row", "_law_line", "_law_column"]
theorem sc_law_chart : FnScope N_law_chart ["_law_box_here", "_law_most", "_law_untold"] (defScope s_law_chart) := ⟨rfl, rfl, rfl, by decide +kernel, rfl, by decide +kernel, by decide +kernel⟩
abbrev s_law_bent_chart : Stmt := topS 21
abbrev N_law_bent_chart : List Str := ["_law_box_here", "_law_chart_here", "_law_clock_here", "_law_rows", "_law_at", "_law_column", "_law_way", "_law_odd", "_law_line"]
theorem sc_law_bent_chart : FnScope N_law_bent_chart ["_law_box_here", "_law_chart_here"] (defScope s_law_bent_chart) := ⟨rfl, rfl, rfl, by decide +kernel, rfl, by decide +kernel, by decide +kernel⟩
abbrev s_law_is_chart : Stmt := topS 22
abbrev N_law_is_chart : List Str := ["_law_chart_here", "_law_clock_here", "_law_rows", "_law_line", "_law_one"]
theorem sc_law_is_chart : FnScope N_law_is_chart ["_law_chart_here"] (defScope s_law_is_chart) := ⟨rfl, rfl, rfl, by decide +kernel, rfl, by decide +kernel, by decide +kernel⟩
abbrev s_law : Stmt := topS 23
abbrev N_law : List Str := ["_law_script", "_law_box_here", "_law_k", "_law_chart_here"]
theorem sc_law : FnScope N_law ["_law_script"] (defScope s_law) := ⟨rfl, rfl, rfl, by decide +kernel, rfl, by decide +kernel, by decide +kernel⟩
structure Tx (K : PySem.W.Frag) (mg : Str → Option Value) where
  a_is_clock : Addr
  d_is_clock : FuncData
  F_is_clock : Fun K "is_clock" "is_clock" s_is_clock a_is_clock d_is_clock
  g_is_clock : mg "is_clock" = some (.ref a_is_clock)
  b_is_clock : Binds K d_is_clock ["clock"] []
  a_is_what : Addr
  d_is_what : FuncData
  F_is_what : Fun K "is_what" "is_what" s_is_what a_is_what d_is_what
  g_is_what : mg "is_what" = some (.ref a_is_what)
  b_is_what : Binds K d_is_what ["clock", "one"] []
  a_is_row : Addr
  d_is_row : FuncData
  F_is_row : Fun K "is_row" "is_row" s_is_row a_is_row d_is_row
  g_is_row : mg "is_row" = some (.ref a_is_row)
  b_is_row : Binds K d_is_row ["clock", "row", "wide"] []
  a_is_chart : Addr
  d_is_chart : FuncData
  F_is_chart : Fun K "is_chart" "is_chart" s_is_chart a_is_chart d_is_chart
  g_is_chart : mg "is_chart" = some (.ref a_is_chart)
  b_is_chart : Binds K d_is_chart ["chart"] []
  a_law_box : Addr
  d_law_box : FuncData
  F_law_box : Fun K "_law_box" "_law_box" s_law_box a_law_box d_law_box
  g_law_box : mg "_law_box" = some (.ref a_law_box)
  b_law_box : Binds K d_law_box ["_law_script"] []
  a_law_mixed : Addr
  d_law_mixed : FuncData
  F_law_mixed : Fun K "_law_mixed" "_law_mixed" s_law_mixed a_law_mixed d_law_mixed
  g_law_mixed : mg "_law_mixed" = some (.ref a_law_mixed)
  b_law_mixed : Binds K d_law_mixed ["_law_number_here", "_law_turn"] []
  a_law_take : Addr
  d_law_take : FuncData
  F_law_take : Fun K "_law_take" "_law_take" s_law_take a_law_take d_law_take
  g_law_take : mg "_law_take" = some (.ref a_law_take)
  b_law_take : Binds K d_law_take ["_law_box_here", "_law_many"] []
  a_law_whole : Addr
  d_law_whole : FuncData
  F_law_whole : Fun K "_law_whole" "_law_whole" s_law_whole a_law_whole d_law_whole
  g_law_whole : mg "_law_whole" = some (.ref a_law_whole)
  b_law_whole : Binds K d_law_whole ["_law_found"] []
  a_law_same : Addr
  d_law_same : FuncData
  F_law_same : Fun K "_law_same" "_law_same" s_law_same a_law_same d_law_same
  g_law_same : mg "_law_same" = some (.ref a_law_same)
  b_law_same : Binds K d_law_same ["_law_found", "_law_due"] []
  a_law_clock : Addr
  d_law_clock : FuncData
  F_law_clock : Fun K "_law_clock" "_law_clock" s_law_clock a_law_clock d_law_clock
  g_law_clock : mg "_law_clock" = some (.ref a_law_clock)
  b_law_clock : Binds K d_law_clock ["_law_box_here"] []
  a_law_number : Addr
  d_law_number : FuncData
  F_law_number : Fun K "_law_number" "_law_number" s_law_number a_law_number d_law_number
  g_law_number : mg "_law_number" = some (.ref a_law_number)
  b_law_number : Binds K d_law_number ["_law_box_here"] []
  a_law_square : Addr
  d_law_square : FuncData
  F_law_square : Fun K "_law_square" "_law_square" s_law_square a_law_square d_law_square
  g_law_square : mg "_law_square" = some (.ref a_law_square)
  b_law_square : Binds K d_law_square ["_law_box_here", "_law_clock_here", "_law_land", "_law_untold", "_law_calm", "_law_old"] []
  a_law_near_hour : Addr
  d_law_near_hour : FuncData
  F_law_near_hour : Fun K "_law_near_hour" "_law_near_hour" s_law_near_hour a_law_near_hour d_law_near_hour
  g_law_near_hour : mg "_law_near_hour" = some (.ref a_law_near_hour)
  b_law_near_hour : Binds K d_law_near_hour ["_law_rows", "_law_line"] []
  a_law_chart : Addr
  d_law_chart : FuncData
  F_law_chart : Fun K "_law_chart" "_law_chart" s_law_chart a_law_chart d_law_chart
  g_law_chart : mg "_law_chart" = some (.ref a_law_chart)
  b_law_chart : Binds K d_law_chart ["_law_box_here", "_law_most", "_law_untold"] []
  a_law_bent_chart : Addr
  d_law_bent_chart : FuncData
  F_law_bent_chart : Fun K "_law_bent_chart" "_law_bent_chart" s_law_bent_chart a_law_bent_chart d_law_bent_chart
  g_law_bent_chart : mg "_law_bent_chart" = some (.ref a_law_bent_chart)
  b_law_bent_chart : Binds K d_law_bent_chart ["_law_box_here", "_law_chart_here"] []
  a_law_is_chart : Addr
  d_law_is_chart : FuncData
  F_law_is_chart : Fun K "_law_is_chart" "_law_is_chart" s_law_is_chart a_law_is_chart d_law_is_chart
  g_law_is_chart : mg "_law_is_chart" = some (.ref a_law_is_chart)
  b_law_is_chart : Binds K d_law_is_chart ["_law_chart_here"] []
  a_law : Addr
  d_law : FuncData
  F_law : Fun K "law" "law" s_law a_law d_law
  g_law : mg "law" = some (.ref a_law)
  b_law : Binds K d_law ["_law_script"] []
  t_LEAST_HOURS : Tok
  c_LEAST_HOURS : mg "LEAST_HOURS" = some (.int (3) t_LEAST_HOURS)
  t_MOST_HOURS : Tok
  c_MOST_HOURS : mg "MOST_HOURS" = some (.int (15) t_MOST_HOURS)
  t_MOST_SQUARES : Tok
  c_MOST_SQUARES : mg "MOST_SQUARES" = some (.int (9) t_MOST_SQUARES)
  t_UNTOLD : Tok
  c_UNTOLD : mg "UNTOLD" = some (.int (-2) t_UNTOLD)
  n_all : mg "all" = none
  n_bool : mg "bool" = none
  n_int : mg "int" = none
  n_isinstance : mg "isinstance" = none
  n_len : mg "len" = none
  n_list : mg "list" = none
  n_range : mg "range" = none
  n_str : mg "str" = none
  n_tuple : mg "tuple" = none
  n_zip : mg "zip" = none
section
variable {P : Program} {w : World} {K : PySem.W.Frag} {mg : Str → Option Value} {base : Heap}
/-! ### cotide.hours -/
def isClock (c : Int) : Bool := decide (3 ≤ c) && decide (c ≤ 15) && decide (c % 2 = 1)
theorem isClock_iff {c : Int} : isClock c = true ↔ 3 ≤ c ∧ c ≤ 15 ∧ c % 2 = 1 := by
  unfold isClock
  simp only [Bool.and_eq_true, decide_eq_true_eq, and_assoc]
def R_is_clock (vs : List V) (v : V) : Prop := ∃ c, vs = [.int c] ∧ v = .bl (isClock c)
theorem ok_is_clock (T : Tx K mg) : FnOk P w K mg base CX0 1 T.a_is_clock T.d_is_clock ["clock"] (spS R_is_clock) := by
  refine T.F_is_clock.ok sc_is_clock (fun vs H Q E h => ?_) (fun cdv A outer s H vs Q E hr h => ?_)
  · obtain ⟨v, ⟨c, rfl, rfl⟩, q⟩ := h
    rfl
  · obtain ⟨v, ⟨c, rfl, rfl⟩, q⟩ := h
    refine ⟨_, (pss_cons (ps_ret (pe_and (pe_chain op_le op_le (pe_glob (v := .int (3)) rfl T.c_LEAST_HOURS ⟨_, rfl⟩) (pv 0) (pe_glob (v := .int (15)) rfl T.c_MOST_HOURS ⟨_, rfl⟩)) (pe_one (pe_cmpR op_eq (pe_op op_mod (pv 0) pe_int) pe_int (nomark _)))))
      pss_nil), Go.go ?_⟩
    apply go_retE (k := q)
    · walk_at "ev"
    · unfold isClock
      simp only [V.int.injEq]
theorem ev_is_clock {σ : L2.St} {H : Hp} {E : XK} {tr : TA} {c : Int} (h : EvA tr σ H [.int c]) : Ev (tCall (spS R_is_clock) [] E tr) σ H (.bl (isClock c)) := ev_callS h ⟨c, rfl, rfl⟩
local macro_rules | `(tactic| walk_at "ev") => `(tactic| ((with_reducible apply ev_is_clock); walk_at "ea"))

/-! ### the law's draws -/
def R_mixed (vs : List V) (v : V) : Prop := ∃ a b, vs = [.int a, .int b] ∧ ∃ r, v = .int r
def spMixed : Sp := fun vs H Q _ => ∃ a b, vs = [.int a, .int b] ∧ ∀ r H2, Ex H H2 → Q (.int r) H2
theorem ok_law_mixed (T : Tx K mg) : FnOk P w K mg base CX0 1 T.a_law_mixed T.d_law_mixed ["_law_number_here", "_law_turn"] spMixed := by
  refine T.F_law_mixed.ok sc_law_mixed (fun vs H Q E h => ?_) (fun cdv A outer s H vs Q E hr h => ?_)
  · obtain ⟨a, b, rfl, q⟩ := h
    rfl
  · obtain ⟨a, b, rfl, q⟩ := h
    refine ⟨_, (pss_cons (ps_set (i := 2) sc_law_mixed.nd rfl (.inl rfl) (pe_op op_mod (pe_op op_add (pe_op op_add (pe_op op_mul (pv 0) pe_int) (pe_op op_mul (pv 1) pe_int)) pe_int) pe_int))
      (pss_cons (ps_set (i := 3) sc_law_mixed.nd rfl (.inl rfl) (pe_op op_add (pe_op op_mul (pv 1) pe_int) (pe_op op_mod (pe_op op_fdiv (pv 0) pe_int) pe_int)))
      (pss_cons (ps_ret (pe_op op_fdiv (pe_op op_mod (pe_op op_add (pe_op op_mul (pv 2) (pe_op op_add (pe_op op_mod (pv 2) pe_int) pe_int)) (pv 3)) pe_int) pe_int))
      pss_nil))), Go.go ?_⟩
    have h1 : ∀ x y : Int, 0 ≤ x % y + y * 0 ∨ y = 0 := fun x y => by
      by_cases h : y = 0
      · exact .inr h
      · exact .inl (by have := Int.emod_nonneg x h; omega)
    apply go_asg
    · walk_at "ev"
    have h2 : ∀ x : Int, 0 ≤ x % 2147483647 ∧ x % 2147483647 < 2147483647 := fun x => ⟨by omega, by omega⟩
    generalize hz : (a * 7919 + b * 104729 + 17) % 2147483647 = z
    have hz2 := h2 (a * 7919 + b * 104729 + 17)
    rw [hz] at hz2
    apply go_asg
    · walk_at "ev"
    apply go_retV
    · walk_at "ev"
    exact fun H' e => q _ H' e
/-- a call that gives some int -/
theorem ev_mixed {σ : L2.St} {H : Hp} {E : XK} {tr : TA} {a b : Int} (h : EvA tr σ H [.int a, .int b]) {Q : VK} (k : ∀ r H2, Ex H H2 → Q (.int r) H2) : tCall spMixed [] E tr σ H Q :=
  h H (Ex.refl H) _ fun H2 e2 => ⟨a, b, rfl, fun r H3 e3 => k r H3 (e2.trans e3)⟩
def PreTake (ds : List PyData) : Prop := ∃ m : Int, ds = [.int m] ∧ 0 < m ∧ m < 2 ^ 80
def RTake (ds : List PyData) (d : PyData) : Prop := ∃ m r : Int, ds = [.int m] ∧ d = .int r ∧ 0 ≤ r ∧ r < m
theorem ok_law_take (T : Tx K mg) : FnOk P w K mg base CX0 2 T.a_law_take T.d_law_take ["_law_box_here", "_law_many"] (spB K PreTake RTake) := by
  refine T.F_law_take.ok sc_law_take (fun vs H Q E h => ?_) (fun cdv A outer s H vs Q E hr h => ?_)
  · obtain ⟨b, ws, Hd, ds, rfl, hb, sx, B, hds, ⟨m, rfl, hm, hm2⟩, q⟩ := h
    cases hds with
    | cons h1 h2 => cases h2; rfl
  · obtain ⟨b, ws, Hd, ds, rfl, hb, sx, B, hds, ⟨m, rfl, hm, hm2⟩, q⟩ := h
    obtain ⟨m', rfl⟩ : ∃ m', ws = [m'] := by
      cases hds with
      | cons h1 h2 => cases h2; exact ⟨_, rfl⟩
    have em : m' = .int m := by
      cases hds with
      | cons h1 h2 => cases h1; rfl
    subst em
    obtain ⟨bb, ca⟩ := b
    obtain ⟨cells, xs, h1, ⟨pos, rest, turn, seed, rfl, hpos⟩, h3, h4⟩ := B
    have nca : ca ≠ bb := by
      intro e
      subst e
      rw [h1] at h3
      have h5 := HO.lst.inj (Option.some.inj h3)
      cases cells with
      | nil => cases h5
      | cons c cs => cases h5
    have fin : ∀ (pos' rest' turn' r : Int) (H2 : Hp), 0 ≤ pos' → 0 ≤ r → r < m → Ex (upd H bb (.lst [.ref ca, .int pos', .int rest', .int turn', .int seed])) H2 → Q (.int r) H2 := fun pos' rest' turn' r H2 hp h0 hr e2 => by
      refine q (.int r) H2 Hd (.int r) ⟨fun a o n h => e2 a o (by rw [upd_ne n]; exact h), Ex.refl _, fun a o h => e2 a o (by rw [upd_ne (ne_of_none h hb)]; exact sx a o h), fun a o _ h => h, ?_⟩ (.int r) ⟨m, r, rfl, rfl, h0, hr⟩
      exact Bx.mono e2 ⟨cells, _, upd_same, ⟨pos', rest', turn', seed, rfl, hp⟩, by rw [upd_ne nca]; exact h3, h4⟩
    have wd : ∀ z : Int, CDivW z m := fun z => wide_div (b := 80) hm (by omega) (by decide) (by decide)
    have mm : ∀ z : Int, 0 ≤ z % m ∧ z % m < m := fun z => ⟨Int.emod_nonneg z (by omega), Int.emod_lt_of_pos z hm⟩
    refine ⟨_, (pss_cons (ps_asg (pe_op op_add (pe_ix (r := rIxL K) ix_list (pv 0) pe_int (fun _ _ => rfl)) pe_int) (pg_sub (pv 0) pe_int set_list))
      (pss_cons (ps_if (pt_cmpR op_gt (pe_ix (r := rIxL K) ix_list (pv 0) pe_int (fun _ _ => rfl)) pe_int (nomark _)) (pss_cons (ps_set (i := 2) sc_law_take.nd rfl (.inl rfl) (pe_ix (r := rIxL K) ix_list (pv 0) pe_int (fun _ _ => rfl)))
      (pss_cons (ps_asg (pe_op op_fdivW (pv 2) (pv 1)) (pg_sub (pv 0) pe_int set_list))
      (pss_cons (ps_ret (pe_op op_mod (pv 2) (pv 1)))
      pss_nil))) pss_nil)
      (pss_cons (ps_if (pt_cmpR op_ge (pe_ix (r := rIxL K) ix_list (pv 0) pe_int (fun _ _ => rfl)) (pe_callB (r := rLenS K) call_lenQ (by rfl) T.n_len PySem.boot_len (pa_cons (pe_ix (r := rIxL K) ix_list (pv 0) pe_int (fun _ _ => rfl)) pa_nil)) (nomark _)) (pss_cons (ps_ret (pe_op op_mod (pe_call (ok_law_mixed (P := P) (w := w) T) (hr.mono (by omega)) (by rfl) T.g_law_mixed T.F_law_mixed.kp T.b_law_mixed .nil pass0 (pa_cons (pe_ix (r := rIxL K) ix_list (pv 0) pe_int (fun _ _ => rfl)) (pa_cons (pe_ix (r := rIxL K) ix_list (pv 0) pe_int (fun _ _ => rfl)) pa_nil))) (pv 1)))
      pss_nil) pss_nil)
      (pss_cons (ps_set (i := 3) sc_law_take.nd rfl (.inl rfl) (pe_ix (r := rIxL K) ix_list (pe_ix (r := rIxL K) ix_list (pv 0) pe_int (fun _ _ => rfl)) (pe_ix (r := rIxL K) ix_list (pv 0) pe_int (fun _ _ => rfl)) (fun _ _ => rfl)))
      (pss_cons (ps_asg (pe_op op_add (pe_ix (r := rIxL K) ix_list (pv 0) pe_int (fun _ _ => rfl)) pe_int) (pg_sub (pv 0) pe_int set_list))
      (pss_cons (ps_if (pt_cmpR op_lt (pv 3) (pe_op op_pow pe_int pe_int) (nomark _)) (pss_cons (ps_ret (pe_op op_mod (pe_call (ok_law_mixed (P := P) (w := w) T) (hr.mono (by omega)) (by rfl) T.g_law_mixed T.F_law_mixed.kp T.b_law_mixed .nil pass0 (pa_cons (pe_op op_add (pv 3) (pe_ix (r := rIxL K) ix_list (pv 0) pe_int (fun _ _ => rfl))) (pa_cons (pe_ix (r := rIxL K) ix_list (pv 0) pe_int (fun _ _ => rfl)) pa_nil))) (pv 1)))
      pss_nil) pss_nil)
      (pss_cons (ps_asg (pe_op op_fdivW (pv 3) (pv 1)) (pg_sub (pv 0) pe_int set_list))
      (pss_cons (ps_ret (pe_op op_mod (pv 3) (pv 1)))
      pss_nil)))))))), Go.go ?_⟩
    refine go_setL (j := 3) h1 (v := .int (turn + 1)) ?_ (ev_var rfl) ev_c (by simp) ?_
    · walk_at "ev"
    show Go _ _ _ (upd H bb (.lst [.ref ca, .int pos, .int rest, .int (turn + 1), .int seed]))
    apply go_when
    · walk_at "et"
    · intro _
      apply go_asg
      · walk_at "ev"
      refine go_setL (j := 2) upd_same (v := .int (rest / m)) ?_ (ev_var rfl) ev_c (by simp) ?_
      · refine ev_op (ev_var rfl) (ev_var rfl) (rv_I (wd _))
      apply go_retV
      · walk_at "ev"
      rw [upd_upd]
      exact fun H' e => fin pos (rest / m) (turn + 1) _ H' hpos (mm _).1 (mm _).2 e
    intro _
    have h3' : upd H bb (.lst [.ref ca, .int pos, .int rest, .int (turn + 1), .int seed]) ca = some (.lst (cells.map V.int)) := by
      rw [upd_ne nca]
      exact h3
    apply go_when
    · apply et_test
      apply ev_op
      · walk_at "ev"
      · refine ev_len (K := K) (p := ca) ?_ (sq_of h3')
        walk_at "ev"
      · exact rv_I0
    · intro _ H1 e1
      refine ev_mixed (a := seed) (b := turn + 1) (EvA.mono e1 (by walk_at "ea")) fun r H2 e2 => ?_
      exact ⟨_, rfl, _, _, rfl, rfl, hm, fin pos rest (turn + 1) _ H2 hpos (mm _).1 (mm _).2 (e1.trans e2)⟩
    intro hlt
    have hlt2 : pos < (cells.length : Int) := by
      have h5 := of_decide_eq_false hlt
      rw [List.length_map] at h5
      omega
    have hget : atI (cells.map V.int) pos = some (.int (cells[pos.toNat]'(by omega))) := by
      refine at_of (j := pos.toNat) (by omega) ?_
      rw [List.getElem?_map, List.getElem?_eq_getElem (by omega)]
      rfl
    generalize hcell : cells[pos.toNat]'(by omega) = cell at hget
    apply go_asg (v := .int cell)
    · refine ev_op (x := .ref ca) (y := .int pos) (by walk_at "ev") (by walk_at "ev") (rv_ixL (K := K) (sq_of h3') hget)
    refine go_setL (j := 1) upd_same (v := .int (pos + 1)) ?_ (ev_var rfl) ev_c (by simp) ?_
    · walk_at "ev"
    rw [upd_upd]
    show Go _ _ _ (upd H bb (.lst [.ref ca, .int (pos + 1), .int rest, .int (turn + 1), .int seed]))
    apply go_when
    · walk_at "et"
    · intro _ H1 e1
      refine ev_mixed (a := cell + seed) (b := turn + 1) (EvA.mono e1 (by walk_at "ea")) fun r H2 e2 => ?_
      exact ⟨_, rfl, _, _, rfl, rfl, hm, fin (pos + 1) rest (turn + 1) _ H2 (by omega) (mm _).1 (mm _).2 (e1.trans e2)⟩
    intro _
    refine go_setL (j := 2) upd_same (v := .int (cell / m)) ?_ (ev_var rfl) ev_c (by simp) ?_
    · refine ev_op (ev_var rfl) (ev_var rfl) (rv_I (wd _))
    apply go_retV
    · walk_at "ev"
    rw [upd_upd]
    exact fun H' e => fin (pos + 1) (cell / m) (turn + 1) _ H' (by omega) (mm _).1 (mm _).2 e
theorem eb_take {σ : L2.St} {Hd : Hp} {E : XK} {b : Bid} {ta tb : TE} {m : Int} (ha : Ev ta σ Hd (.ref b.b)) (hm : Ev tb σ Hd (.int m)) (h0 : 0 < m) (h1 : m < 2 ^ 80) : EvB K b (tCall (spB K PreTake RTake) [] E (tCons ta (tCons tb tNil))) σ Hd (isI fun r => 0 ≤ r ∧ r < m) := by
  refine EvB.imp (eb_call ha (eba_cons (eb_ev hm) eba_nil) ?_) ?_
  · rintro ds ⟨d, es, rfl, ⟨i, rfl, rfl⟩, rfl⟩
    exact ⟨_, rfl, h0, h1⟩
  · rintro d ⟨ds, ⟨d', es, rfl, ⟨i, rfl, rfl⟩, rfl⟩, m', r, e1, rfl, h2, h3⟩
    cases e1
    exact ⟨r, rfl, h2, h3⟩

def RClock (ds : List PyData) (d : PyData) : Prop := ∃ c : Int, d = .int c ∧ isClock c = true
theorem ok_law_clock (T : Tx K mg) : FnOk P w K mg base CX0 3 T.a_law_clock T.d_law_clock ["_law_box_here"] (spB K (fun ds => ds = []) RClock) := by
  refine T.F_law_clock.ok sc_law_clock (fun vs H Q E h => ?_) (fun cdv A outer s H vs Q E hr h => ?_)
  · obtain ⟨b, ws, Hd, ds, rfl, hb, sx, B, hds, rfl, q⟩ := h
    cases hds
    rfl
  · obtain ⟨b, ws, Hd, ds, rfl, hb, sx, B, hds, rfl, q⟩ := h
    cases hds
    refine ⟨_, (pss_cons (ps_ret (pe_op op_add pe_int (pe_op op_mul pe_int (pe_call (ok_law_take (P := P) (w := w) T) (hr.mono (by omega)) (by rfl) T.g_law_take T.F_law_take.kp T.b_law_take .nil pass0 (pa_cons (pv 0) (pa_cons pe_int pa_nil))))))
      pss_nil), Go.go ?_⟩
    refine go_retB hb sx B (EvB.imp (eb_opI0 (K := K) (fun _ _ => rfl) (eb_ev ev_c) (eb_opI (fun _ _ => rfl) (eb_ev ev_c) (eb_take (ev_var rfl) ev_c (by decide) (by decide)) (fun i j hi hj => Or.inl (by omega)))) (P' := RClock []) ?_) q
    rintro d ⟨i, rfl, i1, j1, rfl, ⟨i2, j2, rfl, ⟨h1, h2⟩, rfl⟩, rfl⟩
    exact ⟨_, rfl, isClock_iff.mpr ⟨by omega, by omega, by omega⟩⟩
theorem eb_clock {σ : L2.St} {Hd : Hp} {E : XK} {b : Bid} {ta : TE} (ha : Ev ta σ Hd (.ref b.b)) : EvB K b (tCall (spB K (fun ds => ds = []) RClock) [] E (tCons ta tNil)) σ Hd (isI fun c => isClock c = true) := by
  refine EvB.imp (eb_call ha eba_nil fun ds e => e) ?_
  rintro d ⟨ds, rfl, c, rfl, h⟩
  exact ⟨c, rfl, h⟩
/-- the box is made -/
def spBox (K : PySem.W.Frag) : Sp := fun vs H Q _ => ∃ (a : Addr) (ns : List Int), vs = [.ref a] ∧ SqL K H a (ns.map V.int) ∧ ns.length ≤ 63 ∧ ∀ (b : Bid) H2, H b.b = none → H b.ca = none → Ex H H2 → Bx H2 b → Q (.ref b.b) H2
theorem cut_ints {ns : List Int} : cutV (ns.map V.int) none (some 63) = ((ns.take 63).map V.int) := by
  unfold cutV
  rw [HT.sIx_none, show HT.sIx (ns.map V.int).length (ns.map V.int).length (some 63) = min 63 (ns.map V.int).length from HT.sIx_nat _ _ 63]
  rw [List.drop_zero, Nat.sub_zero, List.length_map, List.map_take]
  by_cases h : 63 ≤ ns.length
  · rw [Nat.min_eq_left h]
  · rw [Nat.min_eq_right (by omega), List.take_of_length_le (by rw [List.length_map]; omega), List.take_of_length_le (by rw [List.length_map]; omega)]
theorem ok_law_box (T : Tx K mg) : FnOk P w K mg base CX0 1 T.a_law_box T.d_law_box ["_law_script"] (spBox K) := by
  refine T.F_law_box.ok sc_law_box (fun vs H Q E h => ?_) (fun cdv A outer s H vs Q E hr h => ?_)
  · obtain ⟨a, ns, rfl, _⟩ := h
    rfl
  · obtain ⟨a, ns, rfl, hL, hn, q⟩ := h
    refine ⟨_, (pss_cons (ps_set (i := 1) sc_law_box.nd rfl (.inl rfl) pe_int)
      (pss_cons (ps_for PassesOwn.never rfl (pi_list (pe_slice (r := rSlL K) sl_list (pv 0) po_none (po_some pe_int))) (pg_name (i := 2) sc_law_box.nd rfl (.inl rfl)) (pss_cons (ps_set (i := 1) sc_law_box.nd rfl (.inl rfl) (pe_op op_mod (pe_op op_add (pe_op op_add (pe_op op_mul (pv 1) pe_int) (pe_op op_mod (pv 2) pe_int)) pe_int) pe_int))
      pss_nil))
      (pss_cons (ps_ret (pe_lst (pa_cons (pe_callTy (r := rListS K) call_listQ (by rfl) T.n_list (by decide +kernel) (pa_cons (pe_slice (r := rSlL K) sl_list (pv 0) po_none (po_some pe_int)) pa_nil)) (pa_cons pe_int (pa_cons pe_int (pa_cons pe_int (pa_cons (pv 1) pa_nil)))))))
      pss_nil))), ?_⟩
    refine q_asg ev_c fun H1 e1 => ?_
    refine q_forNLn (K := K) (xs := (ns.take 63).map V.int) ?_ (fun p i σ H' => Ex H H' ∧ H p = none ∧ H' p = some (.lst ((ns.take 63).map V.int)) ∧ ∃ (z : Int) (x : Option V), σ = [some (.ref a), some (.int z), x]) (fun p H2 hp e2 h2 => ⟨e1.trans e2, fresh_back e1 hp, h2, 7, none, rfl⟩) (fun p i σ' H' _ h => sq_of h.2.2.1) ?_ ?_
    · rw [← cut_ints]
      exact el_sl (ev_var rfl) eo_none (eo_some ev_c) (ex_l e1 hL)
    · rintro p i x σ' H' hx ⟨e2, hp, h2, z, x0, rfl⟩
      rw [List.getElem?_map] at hx
      cases hh : (ns.take 63)[i]? with
      | none => rw [hh] at hx; cases hx
      | some y =>
        rw [hh] at hx
        cases hx
        refine Go.go ?_
        apply go_asg
        · walk_at "ev"
        exact go_next fun H3 e3 => ⟨e2.trans e3, hp, e3 _ _ h2, _, _, rfl⟩
    · rintro p σ' H' ⟨e2, hp, h2, z, x0, rfl⟩
      have hE : Ex H H' := e2
      refine el_sl (K := K) (ev_var rfl) eo_none (eo_some ev_c) (ex_l hE hL) H' (Ex.refl _) _ fun c H4 hc e4 h4 => ?_
      rw [cut_ints] at h4
      refine ⟨c, _, rfl, Or.inl (sq_of h4), fun l hl => ?_⟩
      refine ⟨.int z, rfl, by show 5 ≤ sizeLine; decide, fun b hb => ?_⟩
      have nlb : l ≠ b := fun e => by
        subst e
        rw [upd_same] at hb
        cases hb
      have hb4 : H4 b = none := by
        rw [upd_ne nlb.symm] at hb
        exact hb
      refine q ⟨b, l⟩ _ (fresh_back (hE.trans e4) hb4) (fresh_back (hE.trans e4) hl) (((hE.trans e4).trans (Ex.new hl)).trans (Ex.new hb)) ⟨ns.take 63, _, upd_same, ⟨0, 0, 0, z, rfl, by decide⟩, ?_, ?_⟩
      · rw [upd_ne nlb, upd_same]
      · rw [List.length_take]
        omega
theorem go_box {σ : L2.St} {H : Hp} {E : XK} {ta : TE} {tz : TS} {D : Ends} {i : Nat} {a : Addr} {ns : List Int} (hL : SqL K H a (ns.map V.int)) (hn : ns.length ≤ 63) (h : Ev ta σ H (.ref a)) (k : ∀ (b : Bid) H', H b.b = none → H b.ca = none → Ex H H' → Bx H' b → Go tz D (σ.set i (some (.ref b.b))) H') : Go (tSeq (tAsg (tCall (spBox K) [] E (tCons ta tNil)) (gName i)) tz) D σ H := fun H1 e1 =>
  h H1 e1 _ fun H2 e2 => ⟨a, ns, rfl, ex_l (e1.trans e2) hL, hn, fun b H3 hb hc e3 B => k b H3 (fresh_back (e1.trans e2) hb) (fresh_back (e1.trans e2) hc) ((e1.trans e2).trans e3) B H3 (Ex.refl _)⟩
def sp_law (K : PySem.W.Frag) : Sp := fun vs H Q _ => ∃ (a : Addr) (ns : List Int), vs = [.ref a] ∧ SqL K H a (ns.map V.int) ∧ ns.length ≤ 63 ∧ ∀ H', Q (.bl true) H'

theorem ok_law_number (T : Tx K mg) : FnOk P w K mg base CX0 3 T.a_law_number T.d_law_number ["_law_box_here"] (spB K (fun ds => ds = []) (fun _ => isI fun n => -(10 ^ 30) ≤ n ∧ n ≤ 10 ^ 30)) := by
  refine T.F_law_number.ok sc_law_number (fun vs H Q E h => ?_) (fun cdv A outer s H vs Q E hr h => ?_)
  · obtain ⟨b, ws, Hd, ds, rfl, hb, sx, B, hds, rfl, q⟩ := h
    cases hds
    rfl
  · obtain ⟨b, ws, Hd, ds, rfl, hb, sx, B, hds, rfl, q⟩ := h
    cases hds
    refine ⟨_, (pss_cons (ps_ret (pe_ix (r := rIxL K) ix_list (pe_lst (pa_cons (pe_un un_neg (pe_op op_pow pe_int pe_int)) (pa_cons (pe_un un_neg pe_int) (pa_cons pe_int (pa_cons pe_int (pa_cons pe_int (pa_cons pe_int (pa_cons pe_int (pa_cons pe_int (pa_cons pe_int (pa_cons pe_int (pa_cons pe_int (pa_cons pe_int (pa_cons (pe_op op_pow pe_int pe_int) pa_nil)))))))))))))) (pe_call (ok_law_take (P := P) (w := w) T) (hr.mono (by omega)) (by rfl) T.g_law_take T.F_law_take.kp T.b_law_take .nil pass0 (pa_cons (pv 0) (pa_cons pe_int pa_nil))) (fun _ _ => rfl)))
      pss_nil), Go.go ?_⟩
    refine go_retB hb sx B (eb_pick (K := K) (n := 13) ?_ (eb_take (ev_var rfl) ev_c (m := 13) (by decide) (by decide)) (by decide)) q
    refine ap_cons (eb_int (m := -(10 ^ 30)) (ev_is (by walk_at "ev") (by decide)) (by decide)) ?_
    refine ap_cons (eb_int (by walk_at "ev") (by decide)) ?_
    refine ap_cons (eb_int ev_c (by decide)) (ap_cons (eb_int ev_c (by decide)) (ap_cons (eb_int ev_c (by decide)) (ap_cons (eb_int ev_c (by decide)) (ap_cons (eb_int ev_c (by decide)) (ap_cons (eb_int ev_c (by decide)) (ap_cons (eb_int ev_c (by decide)) (ap_cons (eb_int ev_c (by decide)) (ap_cons (eb_int ev_c (by decide)) (ap_cons (eb_int ev_c (by decide)) (ap_cons (eb_int (m := 10 ^ 30) (ev_is (by walk_at "ev") (by decide)) (by decide)) ap_nil))))))))))
theorem eb_number {σ : L2.St} {Hd : Hp} {E : XK} {b : Bid} {ta : TE} (ha : Ev ta σ Hd (.ref b.b)) : EvB K b (tCall (spB K (fun ds => ds = []) (fun _ => isI fun n => -(10 ^ 30) ≤ n ∧ n ≤ 10 ^ 30)) [] E (tCons ta tNil)) σ Hd (isI fun n => -(10 ^ 30) ≤ n ∧ n ≤ 10 ^ 30) := by
  refine EvB.imp (eb_call ha eba_nil fun ds e => e) ?_
  rintro d ⟨ds, rfl, h⟩
  exact h

/-! ### _law_whole, _law_same -/
theorem ok_law_whole (T : Tx K mg) : FnOk P w K mg base CX0 1 T.a_law_whole T.d_law_whole ["_law_found"] (spS fun vs v => ∃ i, vs = [.int i] ∧ v = .bl true) := by
  refine T.F_law_whole.ok sc_law_whole (fun vs H Q E h => ?_) (fun cdv A outer s H vs Q E hr h => ?_)
  · obtain ⟨v, ⟨i, rfl, rfl⟩, q⟩ := h
    rfl
  · obtain ⟨v, ⟨i, rfl, rfl⟩, q⟩ := h
    refine ⟨_, (pss_cons (ps_ret (pe_and (pe_callB (r := rIsi K) call_isi (by rfl) T.n_isinstance (by decide +kernel) (pa_cons (pv 0) (pa_cons (pe_bltn (v := .ty "int") (by rfl) T.n_int (by decide +kernel) rfl) pa_nil))) (pe_one (pe_not (pe_callB (r := rIsi K) call_isi (by rfl) T.n_isinstance (by decide +kernel) (pa_cons (pv 0) (pa_cons (pe_bltn (v := .ty "bool") (by rfl) T.n_bool (by decide +kernel) rfl) pa_nil)))))))
      pss_nil), Go.go ?_⟩
    have hi : Dp K H (.int i) (.int i) := .int i
    apply go_retE (k := q)
    · walk_at "ev"
    · rfl
theorem ev_whole {σ : L2.St} {H : Hp} {E : XK} {tr : TA} {i : Int} (h : EvA tr σ H [.int i]) : Ev (tCall (spS fun vs v => ∃ i, vs = [.int i] ∧ v = .bl true) [] E tr) σ H (.bl true) := ev_callS h ⟨i, rfl, rfl⟩
local macro_rules | `(tactic| walk_at "ev") => `(tactic| ((with_reducible apply ev_whole); walk_at "ea"))
theorem ok_law_same_n (T : Tx K mg) : ∀ n : Nat, FnOk P w K mg base CX0 (n + 1) T.a_law_same T.d_law_same ["_law_found", "_law_due"] (spSame K n) := by
  intro n
  induction n with
  | zero => exact T.F_law_same.ok sc_law_same (fun vs H Q E h => h.elim) (fun cdv A outer s H vs Q E hr h => h.elim)
  | succ n ih =>
  refine T.F_law_same.ok sc_law_same (fun vs H Q E h => ?_) (fun cdv A outer s H vs Q E hr h => ?_)
  · obtain ⟨Hd, d, v1, v2, rfl, _⟩ := h
    rfl
  · obtain ⟨Hd, d, v1, v2, rfl, sx, hd1, hd2, hk, q⟩ := h
    refine ⟨_, (pss_cons (ps_if (pt_cmpR op_isN (pv 1) pe_non (nomark _)) (pss_cons (ps_ret (pe_cmpR op_isN (pv 0) pe_non (nomark _)))
      pss_nil) pss_nil)
      (pss_cons (ps_if (pt_val (pe_callB (r := rIsi K) call_isi (by rfl) T.n_isinstance (by decide +kernel) (pa_cons (pv 1) (pa_cons (pe_bltn (v := .ty "bool") (by rfl) T.n_bool (by decide +kernel) rfl) pa_nil)))) (pss_cons (ps_ret (pe_and (pe_callB (r := rIsi K) call_isi (by rfl) T.n_isinstance (by decide +kernel) (pa_cons (pv 0) (pa_cons (pe_bltn (v := .ty "bool") (by rfl) T.n_bool (by decide +kernel) rfl) pa_nil))) (pe_one (pe_cmpR op_eq (pv 0) (pv 1) (nomark _)))))
      pss_nil) pss_nil)
      (pss_cons (ps_if (pt_val (pe_callB (r := rIsi K) call_isi (by rfl) T.n_isinstance (by decide +kernel) (pa_cons (pv 1) (pa_cons (pe_bltn (v := .ty "int") (by rfl) T.n_int (by decide +kernel) rfl) pa_nil)))) (pss_cons (ps_ret (pe_and (pe_call (ok_law_whole (P := P) (w := w) T) (hr.mono (by omega)) (by rfl) T.g_law_whole T.F_law_whole.kp T.b_law_whole .nil pass0 (pa_cons (pv 0) pa_nil)) (pe_one (pe_cmpR op_eq (pv 0) (pv 1) (nomark _)))))
      pss_nil) pss_nil)
      (pss_cons (ps_if (pt_val (pe_callB (r := rIsi K) call_isi (by rfl) T.n_isinstance (by decide +kernel) (pa_cons (pv 1) (pa_cons (pe_bltn (v := .ty "str") (by rfl) T.n_str (by decide +kernel) rfl) pa_nil)))) (pss_cons (ps_ret (pe_and (pe_callB (r := rIsi K) call_isi (by rfl) T.n_isinstance (by decide +kernel) (pa_cons (pv 0) (pa_cons (pe_bltn (v := .ty "str") (by rfl) T.n_str (by decide +kernel) rfl) pa_nil))) (pe_one (pe_cmpR op_eq (pv 0) (pv 1) (nomark _)))))
      pss_nil) pss_nil)
      (pss_cons (ps_if (pt_cmpR op_ne (pe_callB (r := rIsi K) call_isi (by rfl) T.n_isinstance (by decide +kernel) (pa_cons (pv 1) (pa_cons (pe_bltn (v := .ty "list") (by rfl) T.n_list (by decide +kernel) rfl) pa_nil))) (pe_callB (r := rIsi K) call_isi (by rfl) T.n_isinstance (by decide +kernel) (pa_cons (pv 0) (pa_cons (pe_bltn (v := .ty "list") (by rfl) T.n_list (by decide +kernel) rfl) pa_nil))) (nomark _)) (pss_cons (ps_ret pe_bl)
      pss_nil) pss_nil)
      (pss_cons (ps_if (pt_cmpR op_ne (pe_callB (r := rIsi K) call_isi (by rfl) T.n_isinstance (by decide +kernel) (pa_cons (pv 1) (pa_cons (pe_bltn (v := .ty "tuple") (by rfl) T.n_tuple (by decide +kernel) rfl) pa_nil))) (pe_callB (r := rIsi K) call_isi (by rfl) T.n_isinstance (by decide +kernel) (pa_cons (pv 0) (pa_cons (pe_bltn (v := .ty "tuple") (by rfl) T.n_tuple (by decide +kernel) rfl) pa_nil))) (nomark _)) (pss_cons (ps_ret pe_bl)
      pss_nil) pss_nil)
      (pss_cons (ps_if (PW.pt (pw_or (pt_not (pt_val (pe_callB (r := rIsiT K) call_isiT (by rfl) T.n_isinstance (by decide +kernel) (pa_cons (pv 0) (pa_cons (pe_tup (pa_cons (pe_bltn (v := .ty "list") (by rfl) T.n_list (by decide +kernel) rfl) (pa_cons (pe_bltn (v := .ty "tuple") (by rfl) T.n_tuple (by decide +kernel) rfl) pa_nil))) pa_nil))))) (pw_or1 (pt_cmpR op_ne (pe_callB (r := rLenS K) call_lenQ (by rfl) T.n_len PySem.boot_len (pa_cons (pv 0) pa_nil)) (pe_callB (r := rLenS K) call_lenQ (by rfl) T.n_len PySem.boot_len (pa_cons (pv 1) pa_nil)) (nomark _))))) (pss_cons (ps_ret pe_bl)
      pss_nil) pss_nil)
      (pss_cons (ps_ret (pe_callB (r := rAll K) (cr_all rfl) (by rfl) T.n_all (by decide +kernel) (pa_cons (pe_lc (own := [("_law_one", 2), ("_law_other", 3)]) (g := (gTup K 2 (gCons (gName 2) (gCons (gName 3) gNil)))) (by rfl) sc_law_same.nd (pi_zipA (by rfl) T.n_zip (pa_cons (pv 0) (pa_cons (pv 1) pa_nil))) (blkOk_by (own := [("_law_one", 2), ("_law_other", 3)]) (N := N_law_same) (sc := defScope s_law_same) (by decide +kernel)) (fun _ _ _ _ _ => (pg_tup rfl (pgs_cons (pg_name (i := 2) sc_law_same.nd rfl (.inl rfl) (hf := .inr rfl)) (pgs_cons (pg_name (i := 3) sc_law_same.nd rfl (.inl rfl) (hf := .inr rfl)) pgs_nil)))) (fun _ _ _ _ _ => pts_nil) (fun _ _ _ _ _ => (pe_call (ih) (hr.mono (by omega)) (by rfl) T.g_law_same T.F_law_same.kp T.b_law_same .nil pass0 (pa_cons (pv 2) (pa_cons (pv 3) pa_nil))))) pa_nil)))
      pss_nil)))))))), Go.go ?_⟩
    have items : ∀ (ds : List PyData), (n = 0 → ds = []) → (∀ m, n = m + 1 → ∀ e ∈ ds, okD m e) → ∀ (i : Nat) (e : PyData) (σ2 : L2.St) (Hn : Hp) (tr : TA) (E : XK), ds[i]? = some e → EvDA K tr σ2 Hn [e, e] → EvD K (tCall (spSame K n) [] E tr) σ2 Hn (.bool true) := by
      intro ds h0 h1 i e σ2 Hn tr E he hv
      have hm := List.mem_of_getElem? he
      cases n with
      | zero => rw [h0 rfl] at hm; cases hm
      | succ m => exact ed_bool (ev_same hv (h1 m rfl e hm))
    have trues : ∀ n : Nat, (List.range n).map (fun _ => PyData.bool true) = (List.replicate n true).map PyData.bool := by
      intro n
      apply List.ext_getElem
      · simp
      · intro i h1 h2
        simp
    cases d with
    | none =>
      cases hd1
      cases hd2
      refine go_whenT (et_is (by walk_at "et") (by decide)) ?_
      apply go_retE (k := q)
      · walk_at "ev"
      · rfl
    | bool b =>
      cases hd1
      cases hd2
      refine go_whenF (et_is (by walk_at "et") (by rfl)) ?_
      refine go_whenT (et_is (by walk_at "et") (by rfl)) ?_
      apply go_retE (k := q)
      · walk_at "ev"
      · simp
    | int b =>
      cases hd1
      cases hd2
      refine go_whenF (et_is (by walk_at "et") (by rfl)) ?_
      refine go_whenF (et_is (by walk_at "et") (by rfl)) ?_
      refine go_whenT (et_is (by walk_at "et") (by rfl)) ?_
      apply go_retE (k := q)
      · walk_at "ev"
      · simp
    | str b =>
      cases hd1
      cases hd2
      refine go_whenF (et_is (by walk_at "et") (by rfl)) ?_
      refine go_whenF (et_is (by walk_at "et") (by rfl)) ?_
      refine go_whenF (et_is (by walk_at "et") (by rfl)) ?_
      refine go_whenT (et_is (by walk_at "et") (by rfl)) ?_
      apply go_retE (k := q)
      · walk_at "ev"
      · simp
    | list ds =>
      obtain ⟨a1, rfl⟩ : ∃ a, v1 = .ref a := by cases hd1; exact ⟨_, rfl⟩
      obtain ⟨a2, rfl⟩ : ∃ a, v2 = .ref a := by cases hd2; exact ⟨_, rfl⟩
      have hd1' := dp_mono sx _ hd1
      have hd2' := dp_mono sx _ hd2
      have hl : ds.length ≤ 40000 := by
        cases n with
        | zero => rw [show ds = [] from hk]; decide
        | succ m => exact hk.1
      refine go_whenF (et_is (by walk_at "et") (by rfl)) ?_
      refine go_whenF (et_is (by walk_at "et") (by rfl)) ?_
      refine go_whenF (et_is (by walk_at "et") (by rfl)) ?_
      refine go_whenF (et_is (by walk_at "et") (by rfl)) ?_
      refine go_whenF (et_is (by walk_at "et") (by simp)) ?_
      refine go_whenF (et_is (by walk_at "et") (by simp)) ?_
      refine go_whenF (et_is (by walk_at "et") (by simp)) ?_
      apply go_retE (k := q)
      · apply ev_all (K := K) (bs := List.replicate ds.length true)
        rw [← trues, ← givenD_all]
        refine ed_new (en_lc (ei_zipL (K := K) (ds := ds) (es := ds) (by walk_at "eda") rfl) hl (fun _ => true) (fun _ => .bool true) ?_)
        rintro i σ2 Hn hi e ⟨v, v2, d, d2, h1, h2, h3, h4, rfl⟩
        rw [h1] at h2
        cases h2
        refine ⟨rfl, et_yes, fun _ => ?_⟩
        refine items ds (fun z => by subst z; exact hk) (fun m hm => by subst hm; exact hk.2) i d _ Hn _ _ h1 ?_
        walk_at "eda"
      · simp
    | tuple ds =>
      obtain ⟨a1, rfl⟩ : ∃ a, v1 = .ref a := by cases hd1; exact ⟨_, rfl⟩
      obtain ⟨a2, rfl⟩ : ∃ a, v2 = .ref a := by cases hd2; exact ⟨_, rfl⟩
      have hd1' := dp_mono sx _ hd1
      have hd2' := dp_mono sx _ hd2
      have hl : ds.length ≤ 40000 := by
        cases n with
        | zero => rw [show ds = [] from hk]; decide
        | succ m => exact hk.1
      refine go_whenF (et_is (by walk_at "et") (by rfl)) ?_
      refine go_whenF (et_is (by walk_at "et") (by rfl)) ?_
      refine go_whenF (et_is (by walk_at "et") (by rfl)) ?_
      refine go_whenF (et_is (by walk_at "et") (by rfl)) ?_
      refine go_whenF (et_is (by walk_at "et") (by simp)) ?_
      refine go_whenF (et_is (by walk_at "et") (by simp)) ?_
      refine go_whenF (et_is (by walk_at "et") (by simp)) ?_
      apply go_retE (k := q)
      · apply ev_all (K := K) (bs := List.replicate ds.length true)
        rw [← trues, ← givenD_all]
        refine ed_new (en_lc (ei_zipT (K := K) (ds := ds) (es := ds) (by walk_at "eda") rfl) hl (fun _ => true) (fun _ => .bool true) ?_)
        rintro i σ2 Hn hi e ⟨v, v2, d, d2, h1, h2, h3, h4, rfl⟩
        rw [h1] at h2
        cases h2
        refine ⟨rfl, et_yes, fun _ => ?_⟩
        refine items ds (fun z => by subst z; exact hk) (fun m hm => by subst hm; exact hk.2) i d _ Hn _ _ h1 ?_
        walk_at "eda"
      · simp
    | dict _ => cases hd1
theorem ok_law_same (T : Tx K mg) : FnOk P w K mg base CX0 8 T.a_law_same T.d_law_same ["_law_found", "_law_due"] (spSame K 7) := ok_law_same_n T 7

/-! ### charts as data -/
def dRow (r : List Int) : PyData := .tuple (r.map .int)
def dChart (c : Int) (rows : List (List Int)) : PyData := .tuple [.int c, .tuple (rows.map dRow)]
def isRow (c : Int) (w : Int) (r : List Int) : Bool := decide ((r.length : Int) = w) && r.all fun x => decide (-2 ≤ x) && decide (x < c)
def isChart (c : Int) (rows : List (List Int)) : Bool := isClock c && (decide (1 ≤ (rows.length : Int)) && decide ((rows.length : Int) ≤ 9)) && (decide (1 ≤ (((rows.headD []).length : Nat) : Int)) && decide (((rows.headD []).length : Int) ≤ 9) && rows.all (isRow c (rows.headD []).length))
theorem range_all (ns : List Int) (f : Int → Bool) : (List.range ns.length).map (fun i => PyData.bool (f ((ns[i]?).getD 0))) = (ns.map f).map PyData.bool := by
  apply List.ext_getElem
  · simp
  · intro i h1 h2
    simp at h1 h2
    simp [h1]
theorem range_rows (ns : List (List Int)) (f : List Int → Bool) : (List.range ns.length).map (fun i => PyData.bool (f ((ns[i]?).getD []))) = (ns.map f).map PyData.bool := by
  apply List.ext_getElem
  · simp
  · intro i h1 h2
    simp at h1 h2
    simp [h1]
def R_is_what (vs : List V) (v : V) : Prop := ∃ c x, vs = [.int c, .int x] ∧ v = .bl (decide (-2 ≤ x) && decide (x < c))
theorem ok_is_what (T : Tx K mg) : FnOk P w K mg base CX0 1 T.a_is_what T.d_is_what ["clock", "one"] (spS R_is_what) := by
  refine T.F_is_what.ok sc_is_what (fun vs H Q E h => ?_) (fun cdv A outer s H vs Q E hr h => ?_)
  · obtain ⟨v, ⟨c, x, rfl, rfl⟩, q⟩ := h
    rfl
  · obtain ⟨v, ⟨c, x, rfl, rfl⟩, q⟩ := h
    refine ⟨_, (pss_cons (ps_ret (pe_chain op_le op_lt (pe_glob (v := .int (-2)) rfl T.c_UNTOLD ⟨_, rfl⟩) (pv 1) (pv 0)))
      pss_nil), Go.go ?_⟩
    apply go_retE (k := q)
    · walk_at "ev"
    · rfl
theorem ev_is_what {σ : L2.St} {H : Hp} {E : XK} {tr : TA} {c x : Int} (h : EvA tr σ H [.int c, .int x]) : Ev (tCall (spS R_is_what) [] E tr) σ H (.bl (decide (-2 ≤ x) && decide (x < c))) := ev_callS h ⟨c, x, rfl, rfl⟩
local macro_rules | `(tactic| walk_at "ev") => `(tactic| ((with_reducible apply ev_is_what); walk_at "ea"))
def spIsRow (K : PySem.W.Frag) : Sp := fun vs H Q _ => ∃ (c w : Int) (v : V) (r : List Int), vs = [.int c, v, .int w] ∧ Dp K H v (dRow r) ∧ r.length ≤ 40000 ∧ ∀ H2, Ex H H2 → Q (.bl (isRow c w r)) H2
theorem ok_is_row (T : Tx K mg) : FnOk P w K mg base CX0 2 T.a_is_row T.d_is_row ["clock", "row", "wide"] (spIsRow K) := by
  refine T.F_is_row.ok sc_is_row (fun vs H Q E h => ?_) (fun cdv A outer s H vs Q E hr h => ?_)
  · obtain ⟨c, w, v, r, rfl, _⟩ := h
    rfl
  · obtain ⟨c, wd, v, r, rfl, hv, hl, q⟩ := h
    refine ⟨_, (pss_cons (ps_ret (pe_and (pe_cmpR op_eq (pe_callB (r := rLenS K) call_lenQ (by rfl) T.n_len PySem.boot_len (pa_cons (pv 1) pa_nil)) (pv 2) (nomark _)) (pe_one (pe_callB (r := rAll K) (cr_all rfl) (by rfl) T.n_all (by decide +kernel) (pa_cons (pe_lc (own := [("one", 3)]) (g := (gName 3)) (by rfl) sc_is_row.nd (pi_tup (pv 1)) (blkOk_by (own := [("one", 3)]) (N := N_is_row) (sc := defScope s_is_row) (by decide +kernel)) (fun _ _ _ _ _ => (pg_name (i := 3) sc_is_row.nd rfl (.inl rfl) (hf := .inr rfl))) (fun _ _ _ _ _ => pts_nil) (fun _ _ _ _ _ => (pe_call (ok_is_what (P := P) (w := w) T) (hr.mono (by omega)) (by rfl) T.g_is_what T.F_is_what.kp T.b_is_what .nil pass0 (pa_cons (pv 0) (pa_cons (pv 3) pa_nil))))) pa_nil)))))
      pss_nil), Go.go ?_⟩
    apply go_retE (k := q)
    · refine ev_andB (ev_op (ev_lenT (K := K) (ds := r.map .int) (ed_var rfl hv)) (by walk_at "ev") (by walk_at "rv")) (ev_all (K := K) (bs := r.map fun x => decide (-2 ≤ x) && decide (x < c)) ?_)
      rw [← range_all, ← List.length_map (f := PyData.int) (as := r), ← givenD_all]
      refine ed_new (en_lc (ei_tup (K := K) (ds := r.map .int) (ed_var rfl hv)) (by rw [List.length_map]; exact hl) (fun _ => true) _ ?_)
      rintro i σ2 Hn hi e ⟨v, d, h1, h2, rfl⟩
      rw [List.length_map] at hi
      rw [List.getElem?_map, List.getElem?_eq_getElem hi] at h1
      cases h1
      cases h2
      refine ⟨rfl, et_yes, fun _ => ed_bool (ev_is (by walk_at "ev") ?_)⟩
      rw [List.getElem?_eq_getElem hi]
      rfl
    · unfold isRow
      simp [List.all_map, V.int.injEq]
theorem ev_is_row {σ : L2.St} {Hd : Hp} {E : XK} {tr : TA} {c w : Int} {r : List Int} (h : EvDA K tr σ Hd [.int c, dRow r, .int w]) (hl : r.length ≤ 40000) : Ev (tCall (spIsRow K) [] E tr) σ Hd (.bl (isRow c w r)) := fun H s Q q =>
  h H s _ fun vs H2 Hn g hd => by
    cases hd with
    | cons h1 h2 =>
      cases h2 with
      | cons h2 h3 =>
        cases h3 with
        | cons h3 h4 =>
          cases h4
          cases h1
          cases h3
          exact ⟨c, w, _, r, rfl, dp_mono g.sub _ h2, hl, fun H3 e3 => q H3 (g.ex.trans e3)⟩
def spIsChart (K : PySem.W.Frag) : Sp := fun vs H Q _ => ∃ (c : Int) (v : V) (rows : List (List Int)), vs = [v] ∧ Dp K H v (dChart c rows) ∧ rows.length ≤ 40000 ∧ (∀ r ∈ rows, r.length ≤ 40000) ∧ ∀ H2, Ex H H2 → Q (.bl (isChart c rows)) H2
theorem ok_is_chart (T : Tx K mg) : FnOk P w K mg base CX0 3 T.a_is_chart T.d_is_chart ["chart"] (spIsChart K) := by
  refine T.F_is_chart.ok sc_is_chart (fun vs H Q E h => ?_) (fun cdv A outer s H vs Q E hr h => ?_)
  · obtain ⟨c, v, rows, rfl, _⟩ := h
    rfl
  · obtain ⟨c, v, rows, rfl, hv, hl, hls, q⟩ := h
    refine ⟨_, (pss_cons (ps_asg (pv 0) (pg_tup rfl (pgs_cons (pg_name (i := 1) sc_is_chart.nd rfl (.inr rfl)) (pgs_cons (pg_name (i := 2) sc_is_chart.nd rfl (.inl rfl)) pgs_nil))))
      (pss_cons (ps_if (PW.pt (pw_or (pt_not (pt_val (pe_call (ok_is_clock (P := P) (w := w) T) (hr.mono (by omega)) (by rfl) T.g_is_clock T.F_is_clock.kp T.b_is_clock .nil pass0 (pa_cons (pv 1) pa_nil)))) (pw_or1 (pt_not (pt_chain op_le op_le pe_int (pe_callB (r := rLenS K) call_lenQ (by rfl) T.n_len PySem.boot_len (pa_cons (pv 2) pa_nil)) (pe_glob (v := .int (9)) rfl T.c_MOST_SQUARES ⟨_, rfl⟩)))))) (pss_cons (ps_ret pe_bl)
      pss_nil) pss_nil)
      (pss_cons (ps_set (i := 3) sc_is_chart.nd rfl (.inr rfl) (pe_callB (r := rLenS K) call_lenQ (by rfl) T.n_len PySem.boot_len (pa_cons (pe_ix (r := rIxT K) ix_tup (pv 2) pe_int (fun _ _ => rfl)) pa_nil)))
      (pss_cons (ps_ret (pe_and (pe_chain op_le op_le pe_int (pv 3) (pe_glob (v := .int (9)) rfl T.c_MOST_SQUARES ⟨_, rfl⟩)) (pe_one (pe_callB (r := rAll K) (cr_all rfl) (by rfl) T.n_all (by decide +kernel) (pa_cons (pe_lc (own := [("row", 4)]) (g := (gName 4)) (by rfl) sc_is_chart.nd (pi_tup (pv 2)) (blkOk_by (own := [("row", 4)]) (N := N_is_chart) (sc := defScope s_is_chart) (by decide +kernel)) (fun _ _ _ _ _ => (pg_name (i := 4) sc_is_chart.nd rfl (.inl rfl) (hf := .inr rfl))) (fun _ _ _ _ _ => pts_nil) (fun _ _ _ _ _ => (pe_call (ok_is_row (P := P) (w := w) T) (hr.mono (by omega)) (by rfl) T.g_is_row T.F_is_row.kp T.b_is_row .nil pass0 (pa_cons (pv 1) (pa_cons (pv 4) (pa_cons (pv 3) pa_nil)))))) pa_nil)))))
      pss_nil)))), Go.go ?_⟩
    refine go_two (Ex.refl H) (ed_var rfl hv) ?_
    intro v1 v2 H' Hn g d1 d2
    cases d1
    have hl1 : Ev (tCB (rLenS K) (tCons (tVar 2) tNil)) (((L2.start N_is_chart [v]).set 1 (some (.int c))).set 2 (some v2)) Hn (.int (rows.length : Int)) := ev_is (ev_lenT (K := K) (ds := rows.map dRow) (ed_var rfl d2)) (by rw [List.length_map])
    apply go_when (b := !isClock c || !(decide (1 ≤ (rows.length : Int)) && decide ((rows.length : Int) ≤ 9)))
    · refine EvT.mono g.sub (et_orB (by walk_at "et") (et_not (et_test (ev_chainB ev_c hl1 rv_I0 (by walk_at "ev") rv_I0))))
    · intro e
      refine Go.mono (Ex.refl _) ?_
      apply go_retE (k := fun H2 e2 => q H2 (g.ex.trans e2))
      · walk_at "ev"
      · unfold isChart
        cases h1 : isClock c
        · rfl
        · rw [h1] at e
          cases h2 : (decide (1 ≤ (rows.length : Int)) && decide ((rows.length : Int) ≤ 9))
          · rfl
          · rw [h2] at e
            cases e
    · intro e
      have h1 : isClock c = true := by
        cases h1 : isClock c
        · rw [h1] at e; cases e
        · rfl
      have h2 : (decide (1 ≤ (rows.length : Int)) && decide ((rows.length : Int) ≤ 9)) = true := by
        cases h2 : (decide (1 ≤ (rows.length : Int)) && decide ((rows.length : Int) ≤ 9))
        · rw [h1, h2] at e; cases e
        · rfl
      obtain ⟨r0, rest, rfl⟩ : ∃ r0 rest, rows = r0 :: rest := by
        cases rows with
        | nil => simp at h2
        | cons r0 rest => exact ⟨r0, rest, rfl⟩
      apply go_asg (v := .int (r0.length : Int))
      · refine Ev.mono g.sub (ev_is (ev_lenT (K := K) (ds := r0.map .int) (ed_ixT (ed_var rfl d2) ev_c (d := dRow r0) (atI_nat (j := 0) rfl))) (by rw [List.length_map]))
      apply go_retE (k := fun H2 e2 => q H2 (g.ex.trans e2))
      · refine Ev.mono g.sub (ev_andB (by walk_at "ev") (ev_all (K := K) (bs := (r0 :: rest).map (isRow c r0.length)) ?_))
        rw [← range_rows, ← List.length_map (f := dRow) (as := r0 :: rest), ← givenD_all]
        refine ed_new (en_lc (ei_tup (K := K) (ds := (r0 :: rest).map dRow) (ed_var rfl d2)) (by rw [List.length_map]; exact hl) (fun _ => true) _ ?_)
        rintro i σ2 Hm hi e ⟨v, d, h3, h4, rfl⟩
        rw [List.length_map] at hi
        rw [List.getElem?_map, List.getElem?_eq_getElem hi] at h3
        cases h3
        refine ⟨rfl, et_yes, fun _ => ed_bool (ev_is (ev_is_row (c := c) (w := r0.length) (r := (r0 :: rest)[i]) (eda_cons (ed_int (ev_var rfl)) (eda_cons (ed_var rfl h4) (eda_cons (ed_int (ev_var rfl)) eda_nil))) (hls _ (List.getElem_mem hi))) ?_)⟩
        rw [List.getElem?_eq_getElem hi]
        rfl
      · unfold isChart
        rw [h1, h2, List.all_map]
        rfl
theorem ev_is_chart {σ : L2.St} {Hd : Hp} {E : XK} {tr : TA} {c : Int} {rows : List (List Int)} (h : EvDA K tr σ Hd [dChart c rows]) (hl : rows.length ≤ 40000) (hls : ∀ r ∈ rows, r.length ≤ 40000) : Ev (tCall (spIsChart K) [] E tr) σ Hd (.bl (isChart c rows)) := fun H s Q q =>
  h H s _ fun vs H2 Hn g hd => by
    cases hd with
    | cons h1 h2 =>
      cases h2
      exact ⟨c, _, rows, rfl, dp_mono g.sub _ h1, hl, hls, fun H3 e3 => q H3 (g.ex.trans e3)⟩

/-! ### the law's charts -/
def nearHour (rows : List (List Int)) (line : List Int) : Int := if line ≠ [] ∧ 0 ≤ line.getLast?.getD 0 then line.getLast?.getD 0 else if rows ≠ [] then ((rows.getLast?.getD [])[line.length]?).getD 0 else 0
theorem okE_rows (n : Nat) (rows : List (List Int)) : okE (n + 2) (.list (rows.map dRow)) := fun e he => by
  obtain ⟨r, _, rfl⟩ := List.mem_map.mp he
  intro e he
  obtain ⟨i, _, rfl⟩ := List.mem_map.mp he
  cases n <;> trivial
theorem eqv_nil (ds : List PyData) : PyData.eqv (.list ds) (.list []) = decide (ds = []) := by
  unfold PyData.eqv
  cases ds with
  | nil => simp [PyData.eqvAll]
  | cons d ds => simp [PyData.eqvAll]
theorem atI_lastI {α : Type} {xs : List α} (h : xs ≠ []) : atI xs (-1) = xs.getLast? := by
  have hp := List.length_pos_iff.mpr h
  unfold atI ixN
  rw [if_neg (by decide), if_pos (by omega)]
  have e2 : (-1 + (xs.length : Int)).toNat = xs.length - 1 := by omega
  rw [List.getLast?_eq_getElem?]
  show xs[_]? = _
  rw [e2]
def spNear (K : PySem.W.Frag) : Sp := fun vs H Q _ => ∃ (v1 v2 : V) (rows : List (List Int)) (line : List Int), vs = [v1, v2] ∧ Dp K H v1 (.list (rows.map dRow)) ∧ Dp K H v2 (.list (line.map .int)) ∧ (∀ r ∈ rows, line.length < r.length) ∧ ∀ H2, Ex H H2 → Q (.int (nearHour rows line)) H2
theorem ok_law_near_hour (T : Tx K mg) : FnOk P w K mg base CX0 1 T.a_law_near_hour T.d_law_near_hour ["_law_rows", "_law_line"] (spNear K) := by
  refine T.F_law_near_hour.ok sc_law_near_hour (fun vs H Q E h => ?_) (fun cdv A outer s H vs Q E hr h => ?_)
  · obtain ⟨v1, v2, rows, line, rfl, _⟩ := h
    rfl
  · obtain ⟨v1, v2, rows, line, rfl, d1, d2, hw, q⟩ := h
    refine ⟨_, (pss_cons (ps_if (PW.pt (pw_and (pt_cmpR (r := rNeD K) (op_neD hr.units) (pv 1) (pe_lst pa_nil) (nomark _)) (pw_and1 (pt_cmpR op_ge (pe_ix (r := rIxL K) ix_list (pv 1) (pe_un un_neg pe_int) (fun _ _ => rfl)) pe_int (nomark _))))) (pss_cons (ps_ret (pe_ix (r := rIxL K) ix_list (pv 1) (pe_un un_neg pe_int) (fun _ _ => rfl)))
      pss_nil) pss_nil)
      (pss_cons (ps_ret (pe_ifExp (pt_cmpR (r := rNeD K) (op_neD hr.units) (pv 0) (pe_lst pa_nil) (nomark _)) (pe_ix (r := rIxT K) ix_tup (pe_ix (r := rIxL K) ix_list (pv 0) (pe_un un_neg pe_int) (fun _ _ => rfl)) (pe_callB (r := rLenS K) call_lenQ (by rfl) T.n_len PySem.boot_len (pa_cons (pv 1) pa_nil)) (fun _ _ => rfl)) pe_int))
      pss_nil)), Go.go ?_⟩
    have last1 : line ≠ [] → Ev (tOp (rIxL K) (tVar 1) (tUn (rU fun i => .int (-i)) (tC (.int 1)))) (L2.start N_law_near_hour [v1, v2]) H (.int (line.getLast?.getD 0)) := fun hne => by
      refine ev_int (K := K) (ed_ixL (ed_var rfl d2) (by walk_at "ev") ?_)
      rw [atI_lastI (by simpa using hne), List.getLast?_map]
      cases e : line.getLast? with
      | none => exact absurd (List.getLast?_eq_none_iff.mp e) hne
      | some x => rfl
    apply go_when (b := decide (line ≠ [] ∧ 0 ≤ line.getLast?.getD 0))
    · by_cases hne : line = []
      · refine et_is (et_and (a := false) (b := false) (et_is (et_test (ev_neD (K := K) (e := .list ([] : List PyData)) (ed_var rfl d2) (ed_new (en_lst eda_nil (by simp))) (okE_shaped (okE_ints 0 line) (by decide)) (okE_shaped okE_nil (by decide)))) (by rw [eqv_nil, hne]; rfl)) (fun e => by cases e)) (by simp [hne])
      · refine et_is (et_and (et_is (et_test (ev_neD (K := K) (e := .list ([] : List PyData)) (ed_var rfl d2) (ed_new (en_lst eda_nil (by simp))) (okE_shaped (okE_ints 0 line) (by decide)) (okE_shaped okE_nil (by decide)))) (by rw [eqv_nil])) (fun _ => et_test (ev_op (last1 hne) ev_c rv_I0))) (by simp [hne])
    · intro e
      have e2 := of_decide_eq_true e
      apply go_retE (k := q)
      · exact last1 e2.1
      · unfold nearHour
        rw [if_pos e2]
    · intro e
      have e2 := of_decide_eq_false e
      apply go_retE (k := q) (v' := .int (nearHour rows line))
      · refine ev_if (b := decide (rows ≠ [])) (et_is (et_test (ev_neD (K := K) (e := .list ([] : List PyData)) (ed_var rfl d1) (ed_new (en_lst eda_nil (by simp))) (okE_shaped (okE_rows 0 rows) (by decide)) (okE_shaped okE_nil (by decide)))) (by rw [eqv_nil]; simp)) (fun h => ?_) (fun h => ?_)
        · have hne := of_decide_eq_true h
          obtain ⟨r, hr'⟩ : ∃ r, rows.getLast? = some r := by
            cases e : rows.getLast? with
            | none => exact absurd (List.getLast?_eq_none_iff.mp e) hne
            | some x => exact ⟨x, rfl⟩
          have hlt := hw r (List.mem_of_getLast? hr')
          refine ev_int (K := K) (ed_ixT (ds := r.map .int) (ed_ixL (ed_var rfl d1) (by walk_at "ev") ?_) (ev_lenL (K := K) (ds := line.map .int) (ed_var rfl d2)) ?_)
          · rw [atI_lastI (by simpa using hne), List.getLast?_map, hr']
            rfl
          · unfold nearHour
            rw [if_neg e2, if_pos hne, hr', List.length_map]
            refine atI_nat (j := line.length) ?_
            rw [List.getElem?_map]
            show _ = some (PyData.int ((r[line.length]?).getD 0))
            rw [List.getElem?_eq_getElem hlt]
            rfl
        · have hne := of_decide_eq_false h
          unfold nearHour
          rw [if_neg e2, if_neg hne]
          exact ev_c
      · rfl
theorem ev_near {σ : L2.St} {Hd : Hp} {E : XK} {tr : TA} {rows : List (List Int)} {line : List Int} (h : EvDA K tr σ Hd [.list (rows.map dRow), .list (line.map .int)]) (hw : ∀ r ∈ rows, line.length < r.length) : Ev (tCall (spNear K) [] E tr) σ Hd (.int (nearHour rows line)) := fun H s Q q =>
  h H s _ fun vs H2 Hn g hd => by
    cases hd with
    | cons h1 h2 =>
      cases h2 with
      | cons h2 h3 =>
        cases h3
        exact ⟨_, _, rows, line, rfl, dp_mono g.sub _ h1, dp_mono g.sub _ h2, hw, fun H3 e3 => q H3 (g.ex.trans e3)⟩
def PreSq (ds : List PyData) : Prop := ∃ c land unt calm old : Int, ds = [.int c, .int land, .int unt, .int calm, .int old] ∧ isClock c = true ∧ calm ≤ 5
def RSq (ds : List PyData) (d : PyData) : Prop := ∃ c : Int, ∃ r, ds = .int c :: r ∧ isI (fun x => -2 ≤ x ∧ x < c) d
theorem ok_law_square (T : Tx K mg) : FnOk P w K mg base CX0 3 T.a_law_square T.d_law_square ["_law_box_here", "_law_clock_here", "_law_land", "_law_untold", "_law_calm", "_law_old"] (spB K PreSq RSq) := by
  refine T.F_law_square.ok sc_law_square (fun vs H Q E h => ?_) (fun cdv A outer s H vs Q E hr h => ?_)
  · obtain ⟨b, ws, Hd, ds, rfl, hb, sx, B, hds, ⟨c, land, unt, calm, old, rfl, hc⟩, q⟩ := h
    rw [List.length_cons, dpa_len hds]
    rfl
  · obtain ⟨b, ws, Hd, ds, rfl, hb, sx, B, hds, ⟨c, land, unt, calm, old, rfl, hc, hcalm⟩, q⟩ := h
    have hws : ws = [.int c, .int land, .int unt, .int calm, .int old] := dpa_ints_inv (ns := [c, land, unt, calm, old]) hds
    subst hws
    have h0 := isClock_iff.mp hc
    refine ⟨_, (pss_cons (ps_set (i := 6) sc_law_square.nd rfl (.inl rfl) (pe_call (ok_law_take (P := P) (w := w) T) (hr.mono (by omega)) (by rfl) T.g_law_take T.F_law_take.kp T.b_law_take .nil pass0 (pa_cons (pv 0) (pa_cons pe_int pa_nil))))
      (pss_cons (ps_if (pt_cmpR op_lt (pv 6) (pv 2) (nomark _)) (pss_cons (ps_ret (pe_un un_neg pe_int))
      pss_nil) pss_nil)
      (pss_cons (ps_if (pt_cmpR op_lt (pv 6) (pe_op op_add (pv 2) (pv 3)) (nomark _)) (pss_cons (ps_ret (pe_un un_neg pe_int))
      pss_nil) pss_nil)
      (pss_cons (ps_if (PW.pt (pw_and (pt_cmpR op_gt (pv 4) pe_int (nomark _)) (pw_and (pt_cmpR op_ge (pv 5) pe_int (nomark _)) (pw_and1 (pt_cmpR op_gt (pe_call (ok_law_take (P := P) (w := w) T) (hr.mono (by omega)) (by rfl) T.g_law_take T.F_law_take.kp T.b_law_take .nil pass0 (pa_cons (pv 0) (pa_cons pe_int pa_nil))) pe_int (nomark _)))))) (pss_cons (ps_ret (pe_op op_mod (pe_op op_sub (pe_op op_add (pv 5) (pe_call (ok_law_take (P := P) (w := w) T) (hr.mono (by omega)) (by rfl) T.g_law_take T.F_law_take.kp T.b_law_take .nil pass0 (pa_cons (pv 0) (pa_cons (pe_op op_add (pe_op op_mul pe_int (pv 4)) pe_int) pa_nil)))) (pv 4)) (pv 1)))
      pss_nil) pss_nil)
      (pss_cons (ps_ret (pe_call (ok_law_take (P := P) (w := w) T) (hr.mono (by omega)) (by rfl) T.g_law_take T.F_law_take.kp T.b_law_take .nil pass0 (pa_cons (pv 0) (pa_cons (pv 1) pa_nil))))
      pss_nil))))), Go.go ?_⟩
    have fin : ∀ (x : Int) (H2 Hn : Hp), -2 ≤ x → x < c → GrB b Hd H Hn H2 → Q (.int x) H2 := fun x H2 Hn h1 h2 g => q _ H2 Hn (.int x) g (.int x) ⟨c, _, rfl, x, rfl, h1, h2⟩
    refine go_asgB hb sx B (eb_take (ev_var rfl) ev_c (m := 12) (by decide) (by decide)) ?_
    rintro v H1 D1 d g1 hd ⟨way, rfl, hway⟩
    cases hd
    apply go_when
    · walk_at "et"
    · intro _
      apply go_retV
      · walk_at "ev"
      exact fun H' e => fin (-1) H' D1 (by decide) (by omega) ⟨fun a o n h => e a o (g1.exb a o n h), g1.dx, g1.sub.trans e, g1.fr, g1.bx.mono e⟩
    intro _
    apply go_when
    · walk_at "et"
    · intro _
      apply go_retV
      · walk_at "ev"
      exact fun H' e => fin (-2) H' D1 (by decide) (by omega) ⟨fun a o n h => e a o (g1.exb a o n h), g1.dx, g1.sub.trans e, g1.fr, g1.bx.mono e⟩
    intro _
    have hb1 := g1.bn hb B
    -- the calm way only where calm is above nought
    by_cases hcp : 0 < calm
    · refine go_whenB hb1 g1.sub g1.bx (ebt_and (ebt_of (by walk_at "et")) (ebt_and (ebt_of (by walk_at "et")) (ebt_I0 (f := fun i j => decide (j < i)) (fun _ _ => rfl) (eb_take (ev_var rfl) ev_c (m := 4) (by decide) (by decide)) (eb_int (q := fun _ => True) ev_c trivial)))) ?_ ?_
      · intro H2 D2 g2
        have hb2 := g2.bn hb1 g1.bx
        refine go_retB hb2 g2.sub g2.bx (P := isI fun x => 0 ≤ x ∧ x < c) (EvB.impI (eb_opI (K := K) (p := fun _ => True) (p' := fun z => z = c) (f := fun i j => i % j) (fun _ _ => rfl) (EvB.impI (eb_opI0 (K := K) (p := fun _ => True) (p' := fun _ => True) (f := fun i j => i - j) (fun _ _ => rfl) (EvB.impI (eb_opI0 (K := K) (p := fun _ => True) (p' := fun _ => True) (f := fun i j => i + j) (fun _ _ => rfl) (eb_int (ev_var rfl) trivial) (EvB.impI (eb_take (ev_var rfl) (m := 2 * calm + 1) (by walk_at "ev") (by omega) (by omega)) fun _ _ => trivial)) fun _ _ => trivial) (eb_int (ev_var rfl) trivial)) fun _ _ => trivial) (eb_ev (ev_var rfl)) (fun i j _ hj => by show 0 < j; omega)) ?_) ?_
        · rintro z ⟨i, j, _, rfl, rfl⟩
          exact ⟨Int.emod_nonneg _ (by omega), Int.emod_lt_of_pos _ (by omega)⟩
        · rintro v H3 D3 d g3 hd ⟨x, rfl, hx⟩
          cases hd
          exact fin x H3 D3 (by omega) hx.2 ((g1.trans g2 hb B).trans g3 hb B)
      · intro H2 D2 g2
        have hb2 := g2.bn hb1 g1.bx
        refine go_retB hb2 g2.sub g2.bx (eb_take (ev_var rfl) (ev_var rfl) (m := c) (by omega) (by omega)) ?_
        rintro v H3 D3 d g3 hd ⟨x, rfl, hx⟩
        cases hd
        exact fin x H3 D3 (by omega) hx.2 ((g1.trans g2 hb B).trans g3 hb B)
    · refine go_whenF (et_is (et_and (a := false) (b := false) (et_is (by walk_at "et") (decide_eq_false hcp)) (fun e => by cases e)) rfl) ?_
      refine go_retB hb1 g1.sub g1.bx (eb_take (ev_var rfl) (ev_var rfl) (m := c) (by omega) (by omega)) ?_
      rintro v H3 D3 d g3 hd ⟨x, rfl, hx⟩
      cases hd
      exact fin x H3 D3 (by omega) hx.2 (g1.trans g3 hb B)
theorem eb_square {σ : L2.St} {Hd : Hp} {E : XK} {b : Bid} {ta t1 t2 t3 t4 t5 : TE} {c land unt calm old : Int} (ha : Ev ta σ Hd (.ref b.b)) (h1 : Ev t1 σ Hd (.int c)) (h2 : Ev t2 σ Hd (.int land)) (h3 : Ev t3 σ Hd (.int unt)) (h4 : Ev t4 σ Hd (.int calm)) (h5 : Ev t5 σ Hd (.int old)) (hc : isClock c = true) (hcalm : calm ≤ 5) :
    EvB K b (tCall (spB K PreSq RSq) [] E (tCons ta (tCons t1 (tCons t2 (tCons t3 (tCons t4 (tCons t5 tNil))))))) σ Hd (isI fun x => -2 ≤ x ∧ x < c) := by
  refine EvB.imp (eb_call ha (Ps := fun ds => ds = [.int c, .int land, .int unt, .int calm, .int old]) ?_ ?_) ?_
  · refine EvBA.imp (eba_cons (eb_ev h1) (eba_cons (eb_ev h2) (eba_cons (eb_ev h3) (eba_cons (eb_ev h4) (eba_cons (eb_ev h5) eba_nil))))) ?_
    rintro ds ⟨d1, e1, rfl, ⟨i1, rfl, rfl⟩, d2, e2, rfl, ⟨i2, rfl, rfl⟩, d3, e3, rfl, ⟨i3, rfl, rfl⟩, d4, e4, rfl, ⟨i4, rfl, rfl⟩, d5, e5, rfl, ⟨i5, rfl, rfl⟩, rfl⟩
    rfl
  · rintro ds rfl
    exact ⟨c, land, unt, calm, old, rfl, hc, hcalm⟩
  · rintro d ⟨ds, rfl, c', r, e, h⟩
    cases e
    exact h

def goodC (m : Int) (c : Int) (rows : List (List Int)) : Prop := isClock c = true ∧ 1 ≤ rows.length ∧ (rows.length : Int) ≤ m ∧ ∃ w : Nat, 1 ≤ w ∧ (w : Int) ≤ m ∧ ∀ r ∈ rows, r.length = w ∧ ∀ x ∈ r, -2 ≤ x ∧ x < c
def PreCh (ds : List PyData) : Prop := ∃ most unt : Int, ds = [.int most, .int unt] ∧ 1 ≤ most ∧ most ≤ 9
def RCh (ds : List PyData) (d : PyData) : Prop := ∃ (most unt c : Int) (rows : List (List Int)), ds = [.int most, .int unt] ∧ d = dChart c rows ∧ goodC most c rows
theorem ok_law_chart (T : Tx K mg) : FnOk P w K mg base CX0 4 T.a_law_chart T.d_law_chart ["_law_box_here", "_law_most", "_law_untold"] (spB K PreCh RCh) := by
  refine T.F_law_chart.ok sc_law_chart (fun vs H Q E h => ?_) (fun cdv A outer s H vs Q E hr h => ?_)
  · obtain ⟨b, ws, Hd, ds, rfl, hb, sx, B, hds, ⟨m, unt, rfl, hm⟩, q⟩ := h
    rw [List.length_cons, dpa_len hds]
    rfl
  · obtain ⟨b, ws, Hd, ds, rfl, hb, sx, B, hds, ⟨m, unt, rfl, hm1, hm2⟩, q⟩ := h
    have hws : ws = [.int m, .int unt] := dpa_ints_inv (ns := [m, unt]) hds
    subst hws
    refine ⟨_, (pss_cons (ps_set (i := 3) sc_law_chart.nd rfl (.inl rfl) (pe_call (ok_law_clock (P := P) (w := w) T) (hr.mono (by omega)) (by rfl) T.g_law_clock T.F_law_clock.kp T.b_law_clock .nil pass0 (pa_cons (pv 0) pa_nil)))
      (pss_cons (ps_set (i := 4) sc_law_chart.nd rfl (.inl rfl) (pe_op op_add pe_int (pe_call (ok_law_take (P := P) (w := w) T) (hr.mono (by omega)) (by rfl) T.g_law_take T.F_law_take.kp T.b_law_take .nil pass0 (pa_cons (pv 0) (pa_cons (pv 1) pa_nil)))))
      (pss_cons (ps_set (i := 5) sc_law_chart.nd rfl (.inl rfl) (pe_op op_add pe_int (pe_call (ok_law_take (P := P) (w := w) T) (hr.mono (by omega)) (by rfl) T.g_law_take T.F_law_take.kp T.b_law_take .nil pass0 (pa_cons (pv 0) (pa_cons (pv 1) pa_nil)))))
      (pss_cons (ps_set (i := 6) sc_law_chart.nd rfl (.inl rfl) (pe_ix (r := rIxL K) ix_list (pe_lst (pa_cons pe_int (pa_cons pe_int (pa_cons pe_int (pa_cons pe_int (pa_cons pe_int pa_nil)))))) (pe_call (ok_law_take (P := P) (w := w) T) (hr.mono (by omega)) (by rfl) T.g_law_take T.F_law_take.kp T.b_law_take .nil pass0 (pa_cons (pv 0) (pa_cons pe_int pa_nil))) (fun _ _ => rfl)))
      (pss_cons (ps_set (i := 7) sc_law_chart.nd rfl (.inl rfl) (pe_ix (r := rIxL K) ix_list (pe_lst (pa_cons pe_int (pa_cons pe_int (pa_cons (pe_op op_fdiv (pv 3) pe_int) pa_nil)))) (pe_call (ok_law_take (P := P) (w := w) T) (hr.mono (by omega)) (by rfl) T.g_law_take T.F_law_take.kp T.b_law_take .nil pass0 (pa_cons (pv 0) (pa_cons pe_int pa_nil))) (fun _ _ => rfl)))
      (pss_cons (ps_set (i := 8) sc_law_chart.nd rfl (.inl rfl) (pe_lst pa_nil))
      (pss_cons (ps_for PassesOwn.never rfl (pi_range1 (by rfl) T.n_range (pa_cons (pv 4) pa_nil)) (pg_name (i := 9) sc_law_chart.nd rfl (.inl rfl)) (pss_cons (ps_set (i := 10) sc_law_chart.nd rfl (.inl rfl) (pe_lst pa_nil))
      (pss_cons (ps_for PassesOwn.never rfl (pi_range1 (by rfl) T.n_range (pa_cons (pv 5) pa_nil)) (pg_name (i := 11) sc_law_chart.nd rfl (.inl rfl)) (pss_cons (ps_expr (pe_bm PySem.F.plainAttrs_list PySem.F.slot_list_append PySem.F.type_list_append mt_append (pv 10) (pa_cons (pe_call (ok_law_square (P := P) (w := w) T) (hr.mono (by omega)) (by rfl) T.g_law_square T.F_law_square.kp T.b_law_square .nil pass0 (pa_cons (pv 0) (pa_cons (pv 3) (pa_cons (pv 6) (pa_cons (pv 2) (pa_cons (pv 7) (pa_cons (pe_call (ok_law_near_hour (P := P) (w := w) T) (hr.mono (by omega)) (by rfl) T.g_law_near_hour T.F_law_near_hour.kp T.b_law_near_hour .nil pass0 (pa_cons (pv 8) (pa_cons (pv 10) pa_nil))) pa_nil))))))) pa_nil)))
      pss_nil))
      (pss_cons (ps_expr (pe_bm PySem.F.plainAttrs_list PySem.F.slot_list_append PySem.F.type_list_append mt_append (pv 8) (pa_cons (pe_callTy (r := rTupS K) call_tupleQ (by rfl) T.n_tuple (by decide +kernel) (pa_cons (pv 10) pa_nil)) pa_nil)))
      pss_nil))))
      (pss_cons (ps_ret (pe_tup (pa_cons (pv 3) (pa_cons (pe_callTy (r := rTupS K) call_tupleQ (by rfl) T.n_tuple (by decide +kernel) (pa_cons (pv 8) pa_nil)) pa_nil))))
      pss_nil)))))))), Go.go ?_⟩
    refine go_asgB hb sx B (eb_clock (ev_var rfl)) ?_
    rintro v H1 D1 d G1 hd ⟨c, rfl, hc⟩
    cases hd
    have h0 := isClock_iff.mp hc
    have hb1 := G1.bn hb B
    refine go_asgB hb1 G1.sub G1.bx (EvB.impI (q := fun z => 1 ≤ z ∧ z ≤ m) (eb_opI0 (K := K) (p := fun z => z = 1) (f := fun i j => i + j) (fun _ _ => rfl) (eb_ev ev_c) (eb_take (ev_var rfl) (ev_var rfl) (m := m) (by omega) (by omega))) ?_) ?_
    · rintro z ⟨i, j, rfl, hj, rfl⟩
      omega
    rintro v H2 D2 d g2 hd ⟨high, rfl, hhi⟩
    cases hd
    have G2 := G1.trans g2 hb B
    have hb2 := G2.bn hb B
    refine go_asgB hb2 G2.sub G2.bx (EvB.impI (q := fun z => 1 ≤ z ∧ z ≤ m) (eb_opI0 (K := K) (p := fun z => z = 1) (f := fun i j => i + j) (fun _ _ => rfl) (eb_ev ev_c) (eb_take (ev_var rfl) (ev_var rfl) (m := m) (by omega) (by omega))) ?_) ?_
    · rintro z ⟨i, j, rfl, hj, rfl⟩
      omega
    rintro v H3 D3 d g3 hd ⟨wide, rfl, hwi⟩
    cases hd
    have G3 := G2.trans g3 hb B
    have hb3 := G3.bn hb B
    refine go_asgB hb3 G3.sub G3.bx (eb_pick (n := 5) (p := fun _ => True) (ap_cons (eb_int ev_c trivial) (ap_cons (eb_int ev_c trivial) (ap_cons (eb_int ev_c trivial) (ap_cons (eb_int ev_c trivial) (ap_cons (eb_int ev_c trivial) ap_nil))))) (eb_take (ev_var rfl) ev_c (m := 5) (by decide) (by decide)) (by decide)) ?_
    rintro v H4 D4 d g4 hd ⟨land, rfl, _⟩
    cases hd
    have G4 := G3.trans g4 hb B
    have hb4 := G4.bn hb B
    refine go_asgB hb4 G4.sub G4.bx (eb_pick (n := 3) (p := fun z => z ≤ 5) (ap_cons (eb_int ev_c (by decide)) (ap_cons (eb_int ev_c (by decide)) (ap_cons (eb_int (m := c / 3) (by walk_at "ev") (by omega)) ap_nil))) (eb_take (ev_var rfl) ev_c (m := 3) (by decide) (by decide)) (by decide)) ?_
    rintro v H5 D5 d g5 hd ⟨calm, rfl, hcalm⟩
    cases hd
    have G5 := G4.trans g5 hb B
    have hb5 := G5.bn hb B
    refine go_asgN (K := K) G5.sub (en_lst eda_nil (by simp)) ?_
    intro lr xs H6 D6 g6 hl5 hl6 h6 hxs
    cases hxs
    obtain ⟨nb, nca⟩ := G5.bx.apart hl5
    have hl0 := G5.fresh hl5
    have G6 := G5.trans (GrB.of g6 G5.bx) hb B
    refine go_for (K := K) G6.sub (ei_range1 (m := high) (ea_cons (ev_var rfl) ea_nil) (by omega)) (fun Hn i σ' H' => ∃ (Hg : Hp) (rvs : List V) (rows : List (List Int)) (x y z : Option V), GrB b Hd H Hg H' ∧ Ex Hn Hg ∧ Hg lr = none ∧ H' lr = some (.lst rvs) ∧ DpAll K Hg rvs (rows.map dRow) ∧ rows.length = i ∧ (∀ r ∈ rows, r.length = wide.toNat ∧ ∀ x ∈ r, -2 ≤ x ∧ x < c) ∧
      σ' = [some (.ref b.b), some (.int m), some (.int unt), some (.int c), some (.int high), some (.int wide), some (.int land), some (.int calm), some (.ref lr), x, y, z]) ?_ ?_ ?_ ?_
    · intro H' Hn g
      exact ⟨Hn, [], [], none, none, none, G6.trans (GrB.of g G6.bx) hb B, Ex.refl _, g.fr _ _ h6 hl6, g.ex _ _ h6, .nil, rfl, fun _ h => (by cases h), rfl⟩
    · rintro Hn i σ' H' ⟨Hg, rvs, rows, x, y, z, G, e, _⟩
      exact e.trans G.sub
    · rintro Hn i σ' σ2 H7 e hi ⟨Hg, rvs, rows, x, y, z, G, e2, hgl, hlr, hrv, hlen, hrows, rfl⟩ rfl
      have hbg := G.bn hb B
      refine go_asgN (K := K) G.sub (en_lst eda_nil (by simp)) ?_
      intro ll xs H8 D8 g8 hll7 hll8 h8 hxs
      cases hxs
      obtain ⟨nb', nca'⟩ := G.bx.apart hll7
      have hll0 := G.fresh hll7
      have nlr : ll ≠ lr := (ne_of_none hlr hll7).symm
      have G8 := G.trans (GrB.of g8 G.bx) hb B
      have hlr8 := g8.ex _ _ hlr
      have hgl8 := g8.fr _ _ hlr hgl
      have hrv8 := dpa_mono g8.dx _ hrv
      refine go_for (K := K) G8.sub (ei_range1 (m := wide) (ea_cons (ev_var rfl) ea_nil) (by omega)) (fun Hn' j σ' H' => ∃ (line : List Int) (x z : Option V), GrB b Hd H Hn' H' ∧ Ex D8 Hn' ∧ Hn' lr = none ∧ Hn' ll = none ∧ H' lr = some (.lst rvs) ∧ H' ll = some (.lst (line.map V.int)) ∧ line.length = j ∧ (∀ x ∈ line, -2 ≤ x ∧ x < c) ∧
        σ' = [some (.ref b.b), some (.int m), some (.int unt), some (.int c), some (.int high), some (.int wide), some (.int land), some (.int calm), some (.ref lr), x, some (.ref ll), z]) ?_ ?_ ?_ ?_
      · intro H' Hn' g
        exact ⟨[], _, z, G8.trans (GrB.of g G8.bx) hb B, g.dx, g.fr _ _ hlr8 hgl8, g.fr _ _ h8 hll8, g.ex _ _ hlr8, g.ex _ _ h8, rfl, fun _ h => (by cases h), rfl⟩
      · rintro Hn' j σ' H' ⟨line, x, z, G', _⟩
        exact G'.sub
      · rintro Hn' j σ' σ2 H9 e9 hj ⟨line, x, z, G', e10, q1, q2, q3, q4, hln, hline, rfl⟩ rfl
        have hb9 := G'.bn hb B
        -- both lists are data while the square is drawn
        have s1 : Ex (upd (upd Hn' lr (.lst rvs)) ll (.lst (line.map V.int))) H9 := ex_add (ex_add G'.sub q3) q4
        have e11 : Ex Hn' (upd (upd Hn' lr (.lst rvs)) ll (.lst (line.map V.int))) := (Ex.new q1).trans (Ex.new (by rw [upd_ne nlr]; exact q2))
        have b1 : upd (upd Hn' lr (.lst rvs)) ll (.lst (line.map V.int)) b.b = none := by rw [upd_ne nb'.symm, upd_ne nb.symm]; exact hb9
        have d1 : Dp K (upd (upd Hn' lr (.lst rvs)) ll (.lst (line.map V.int))) (.ref lr) (.list (rows.map dRow)) := .lst (sq_of (by rw [upd_ne nlr.symm, upd_same])) (dpa_mono (e10.trans e11) _ hrv8)
        have d2 : Dp K (upd (upd Hn' lr (.lst rvs)) ll (.lst (line.map V.int))) (.ref ll) (.list (line.map .int)) := .lst (sq_of upd_same) (dpa_ints line)
        refine go_appB b1 s1 G'.bx q4 nb' (ev_var rfl) (eb_square (ev_var rfl) (ev_var rfl) (ev_var rfl) (ev_var rfl) (ev_var rfl) (ev_near (rows := rows) (line := line) (eda_cons (ed_var rfl d1) (eda_cons (ed_var rfl d2) eda_nil)) (fun r hr => by rw [(hrows r hr).1]; omega)) hc hcalm) (by rw [List.length_map]; omega) ?_
        rintro v H10 D10 d g10 hd ⟨x1, rfl, hx1⟩
        cases hd
        refine go_next fun H11 e12 => ⟨line ++ [x1], _, _, ((G'.trans (g10.low e11) hb B).mut hll0 q2 nb' nca').post e12, e10, q1, q2, e12 _ _ ?_, e12 _ _ ?_, by rw [List.length_append, hln]; rfl, fun z hz => ?_, rfl⟩
        · rw [upd_ne nlr.symm]
          exact g10.exb _ _ nb q3
        · rw [upd_same, List.map_append]
          rfl
        · rcases List.mem_append.mp hz with hz | hz
          · exact hline z hz
          · rcases List.mem_cons.mp hz with rfl | hz
            · exact hx1
            · cases hz
      · rintro Hn' σ' H9 e9 ⟨line, x, z, G', e10, q1, q2, q3, q4, hln, hline, rfl⟩
        have Ga := G'.add hll0 q2 q4
        have dl : Dp K (upd Hn' ll (.lst (line.map V.int))) (.ref ll) (.list (line.map .int)) := .lst (sq_of upd_same) (dpa_ints line)
        have hb9 := Ga.bn hb B
        refine go_appD (d := dRow line) Ga.sub q3 (ev_var rfl) (ed_tupleL (ed_var rfl dl)) ?_ ?_
        · rw [dpa_len hrv, List.length_map]
          omega
        intro v H10 D10 g10 hdv
        have q5 : D10 lr = none := g10.fr _ _ q3 (by rw [upd_ne nlr.symm]; exact q1)
        refine go_next fun H11 e12 => ⟨D10, rvs ++ [v], rows ++ [line], _, _, _, ((Ga.trans (GrB.of g10 Ga.bx) hb B).mut hl0 q5 nb nca).post e12, ?_, q5, e12 _ _ upd_same, ?_, by rw [List.length_append, hlen]; rfl, fun r hr => ?_, rfl⟩
        · exact (((e2.trans g8.dx).trans e10).trans (Ex.new q2)).trans g10.dx
        · rw [List.map_append]
          exact dpa_app (dpa_mono ((e10.trans (Ex.new q2)).trans g10.dx) _ hrv8) (.cons hdv .nil)
        · rcases List.mem_append.mp hr with hr | hr
          · exact hrows r hr
          · rcases List.mem_cons.mp hr with rfl | hr
            · exact ⟨by omega, hline⟩
            · cases hr
    · rintro Hn σ' H7 e ⟨Hg, rvs, rows, x, y, z, G, e2, hgl, hlr, hrv, hlen, hrows, rfl⟩
      have Ga := G.add hl0 hgl hlr
      have dl : Dp K (upd Hg lr (.lst rvs)) (.ref lr) (.list (rows.map dRow)) := .lst (sq_of upd_same) (dpa_mono (Ex.new hgl) _ hrv)
      refine go_ret (d := dChart c rows) Ga.sub (ed_tup (eda_cons (ed_int (ev_var rfl)) (eda_cons (ed_tupleL (ed_var rfl dl)) eda_nil)) (by simp)) ?_
      intro v H8 D8 g8 hdv
      exact q v H8 D8 _ (Ga.trans (GrB.of g8 Ga.bx) hb B) hdv ⟨m, unt, c, rows, rfl, rfl, hc, by omega, by omega, wide.toNat, by omega, by omega, hrows⟩
theorem eb_chart {σ : L2.St} {Hd : Hp} {E : XK} {b : Bid} {ta t1 t2 : TE} {most unt : Int} (ha : Ev ta σ Hd (.ref b.b)) (h1 : Ev t1 σ Hd (.int most)) (h2 : Ev t2 σ Hd (.int unt)) (hm : 1 ≤ most ∧ most ≤ 9) : EvB K b (tCall (spB K PreCh RCh) [] E (tCons ta (tCons t1 (tCons t2 tNil)))) σ Hd (fun d => ∃ c rows, d = dChart c rows ∧ goodC most c rows) := by
  refine EvB.imp (eb_call ha (Ps := fun ds => ds = [.int most, .int unt]) ?_ ?_) ?_
  · refine EvBA.imp (eba_cons (eb_ev h1) (eba_cons (eb_ev h2) eba_nil)) ?_
    rintro ds ⟨d1, e1, rfl, ⟨i1, rfl, rfl⟩, d2, e2, rfl, ⟨i2, rfl, rfl⟩, rfl⟩
    rfl
  · rintro ds rfl
    exact ⟨most, unt, rfl, hm.1, hm.2⟩
  · rintro d ⟨ds, rfl, m', u', c, rows, e, h, g⟩
    cases e
    exact ⟨c, rows, h, g⟩

def cutG {α : Type} (xs : List α) (lo hi : Option Int) : List α := (xs.drop (HT.sIx xs.length 0 lo)).take (HT.sIx xs.length xs.length hi - HT.sIx xs.length 0 lo)
theorem cutD_map {α : Type} (f : α → PyData) (xs : List α) (lo hi : Option Int) : cutD (xs.map f) lo hi = (cutG xs lo hi).map f := by
  unfold Cot.cutD cutG
  rw [List.length_map, List.map_take, List.map_drop]
theorem cutG_mem {α : Type} {xs : List α} {lo hi : Option Int} {x : α} (h : x ∈ cutG xs lo hi) : x ∈ xs := List.mem_of_mem_drop (List.mem_of_mem_take h)
theorem cutG_len {α : Type} (xs : List α) (lo hi : Option Int) : (cutG xs lo hi).length ≤ xs.length := by
  unfold cutG
  rw [List.length_take, List.length_drop]
  omega
theorem rep_map {α : Type} (f : α → PyData) (xs : List α) : ∀ k : Nat, (List.replicate k (xs.map f)).flatten = ((List.replicate k xs).flatten).map f
  | 0 => rfl
  | k + 1 => by
    rw [List.replicate_succ, List.replicate_succ, List.flatten_cons, List.flatten_cons, List.map_append, rep_map f xs k]
theorem rep_mem {α : Type} {xs : List α} {x : α} : ∀ {k : Nat}, x ∈ (List.replicate k xs).flatten → x ∈ xs
  | 0, h => by cases h
  | k + 1, h => by
    rw [List.replicate_succ, List.flatten_cons] at h
    rcases List.mem_append.mp h with h | h
    · exact h
    · exact rep_mem h
theorem rep_len {α : Type} (xs : List α) : ∀ k : Nat, (List.replicate k xs).flatten.length = k * xs.length
  | 0 => by simp
  | k + 1 => by
    rw [List.replicate_succ, List.flatten_cons, List.length_append, rep_len xs k, Nat.succ_mul]
    omega
def bdC (rows : List (List Int)) : Prop := rows.length ≤ 100 ∧ ∀ r ∈ rows, r.length ≤ 100
def PreBent (ds : List PyData) : Prop := ∃ (c : Int) (rows : List (List Int)), ds = [dChart c rows] ∧ goodC 9 c rows
def RBent (_ : List PyData) (d : PyData) : Prop := ∃ (c : Int) (rows : List (List Int)), d = dChart c rows ∧ bdC rows
theorem all_rows : ∀ {ds : List PyData}, (∀ e ∈ ds, ∃ r, e = dRow r ∧ r.length ≤ 100) → ∃ rows : List (List Int), ds = rows.map dRow ∧ rows.length = ds.length ∧ ∀ r ∈ rows, r.length ≤ 100
  | [], _ => ⟨[], rfl, rfl, fun _ h => by cases h⟩
  | e :: ds, h => by
    obtain ⟨r, rfl, hr⟩ := h e List.mem_cons_self
    obtain ⟨rows, rfl, hl, hrs⟩ := all_rows fun e he => h e (List.mem_cons_of_mem _ he)
    refine ⟨r :: rows, rfl, by rw [List.length_cons, List.length_cons, hl], fun x hx => ?_⟩
    rcases List.mem_cons.mp hx with rfl | hx
    · exact hr
    · exact hrs x hx
theorem ok_law_bent_chart (T : Tx K mg) : FnOk P w K mg base CX0 4 T.a_law_bent_chart T.d_law_bent_chart ["_law_box_here", "_law_chart_here"] (spB K PreBent RBent) := by
  refine T.F_law_bent_chart.ok sc_law_bent_chart (fun vs H Q E h => ?_) (fun cdv A outer s H vs Q E hr h => ?_)
  · obtain ⟨b, ws, Hd, ds, rfl, hb, sx, B, hds, ⟨c, rows, rfl, hm⟩, q⟩ := h
    rw [List.length_cons, dpa_len hds]
    rfl
  · obtain ⟨b, ws, Hd, ds, rfl, hb, sx, B, hds, ⟨c, rows, rfl, hc, hn1, hn2, wd, hw1, hw2, hrows⟩, q⟩ := h
    obtain ⟨v0, rfl, hv0⟩ : ∃ v0, ws = [v0] ∧ Dp K Hd v0 (dChart c rows) := by
      cases hds with
      | cons h1 h2 => cases h2; exact ⟨_, rfl, h1⟩
    have h0 := isClock_iff.mp hc
    obtain ⟨r0, rest, er⟩ : ∃ r0 rest, rows = r0 :: rest := by
      cases rows with
      | nil => simp at hn1
      | cons r0 rest => exact ⟨r0, rest, rfl⟩
    have hr0 : r0.length = wd := (hrows r0 (by rw [er]; exact List.mem_cons_self)).1
    have bd : bdC rows := ⟨by omega, fun r h => by rw [(hrows r h).1]; omega⟩
    have len9 : rows.length ≤ 9 := by omega
    refine ⟨_, (pss_cons (ps_asg (pv 1) (pg_tup rfl (pgs_cons (pg_name (i := 2) sc_law_bent_chart.nd rfl (.inl rfl)) (pgs_cons (pg_name (i := 3) sc_law_bent_chart.nd rfl (.inl rfl)) pgs_nil))))
      (pss_cons (ps_set (i := 4) sc_law_bent_chart.nd rfl (.inl rfl) (pe_call (ok_law_take (P := P) (w := w) T) (hr.mono (by omega)) (by rfl) T.g_law_take T.F_law_take.kp T.b_law_take .nil pass0 (pa_cons (pv 0) (pa_cons (pe_callB (r := rLenS K) call_lenQ (by rfl) T.n_len PySem.boot_len (pa_cons (pv 3) pa_nil)) pa_nil))))
      (pss_cons (ps_set (i := 5) sc_law_bent_chart.nd rfl (.inl rfl) (pe_call (ok_law_take (P := P) (w := w) T) (hr.mono (by omega)) (by rfl) T.g_law_take T.F_law_take.kp T.b_law_take .nil pass0 (pa_cons (pv 0) (pa_cons (pe_callB (r := rLenS K) call_lenQ (by rfl) T.n_len PySem.boot_len (pa_cons (pe_ix (r := rIxT K) ix_tup (pv 3) pe_int (fun _ _ => rfl)) pa_nil)) pa_nil))))
      (pss_cons (ps_set (i := 6) sc_law_bent_chart.nd rfl (.inl rfl) (pe_call (ok_law_take (P := P) (w := w) T) (hr.mono (by omega)) (by rfl) T.g_law_take T.F_law_take.kp T.b_law_take .nil pass0 (pa_cons (pv 0) (pa_cons pe_int pa_nil))))
      (pss_cons (ps_if (pt_cmpR op_eq (pv 6) pe_int (nomark _)) (pss_cons (ps_ret (pe_tup (pa_cons (pe_call (ok_law_number (P := P) (w := w) T) (hr.mono (by omega)) (by rfl) T.g_law_number T.F_law_number.kp T.b_law_number .nil pass0 (pa_cons (pv 0) pa_nil)) (pa_cons (pv 3) pa_nil))))
      pss_nil) pss_nil)
      (pss_cons (ps_if (pt_cmpR op_eq (pv 6) pe_int (nomark _)) (pss_cons (ps_set (i := 7) sc_law_bent_chart.nd rfl (.inl rfl) (pe_ix (r := rIxL K) ix_list (pe_lst (pa_cons (pe_call (ok_law_number (P := P) (w := w) T) (hr.mono (by omega)) (by rfl) T.g_law_number T.F_law_number.kp T.b_law_number .nil pass0 (pa_cons (pv 0) pa_nil)) (pa_cons (pe_un un_neg pe_int) (pa_cons (pv 2) (pa_cons (pe_op op_sub (pv 2) pe_int) pa_nil))))) (pe_call (ok_law_take (P := P) (w := w) T) (hr.mono (by omega)) (by rfl) T.g_law_take T.F_law_take.kp T.b_law_take .nil pass0 (pa_cons (pv 0) (pa_cons pe_int pa_nil))) (fun _ _ => rfl)))
      (pss_cons (ps_set (i := 8) sc_law_bent_chart.nd rfl (.inl rfl) (pe_op (r := rCatA K) op_catA (pe_op (r := rCatA K) op_catA (pe_slice (r := rSlA K) sl_tupA (pe_ix (r := rIxT K) ix_tup (pv 3) (pv 4) (fun _ _ => rfl)) po_none (po_some (pv 5))) (pe_tup (pa_cons (pv 7) pa_nil))) (pe_slice (r := rSlA K) sl_tupA (pe_ix (r := rIxT K) ix_tup (pv 3) (pv 4) (fun _ _ => rfl)) (po_some (pe_op op_add (pv 5) pe_int)) po_none)))
      (pss_cons (ps_ret (pe_tup (pa_cons (pv 2) (pa_cons (pe_op (r := rCatA K) op_catA (pe_op (r := rCatA K) op_catA (pe_slice (r := rSlA K) sl_tupA (pv 3) po_none (po_some (pv 4))) (pe_tup (pa_cons (pv 8) pa_nil))) (pe_slice (r := rSlA K) sl_tupA (pv 3) (po_some (pe_op op_add (pv 4) pe_int)) po_none)) pa_nil))))
      pss_nil))) pss_nil)
      (pss_cons (ps_if (pt_cmpR op_eq (pv 6) pe_int (nomark _)) (pss_cons (ps_ret (pe_tup (pa_cons (pv 2) (pa_cons (pe_op (r := rCatA K) op_catA (pe_op (r := rCatA K) op_catA (pe_slice (r := rSlA K) sl_tupA (pv 3) po_none (po_some (pv 4))) (pe_tup (pa_cons (pe_op (r := rCatA K) op_catA (pe_ix (r := rIxT K) ix_tup (pv 3) (pv 4) (fun _ _ => rfl)) (pe_tup (pa_cons pe_int pa_nil))) pa_nil))) (pe_slice (r := rSlA K) sl_tupA (pv 3) (po_some (pe_op op_add (pv 4) pe_int)) po_none)) pa_nil))))
      pss_nil) pss_nil)
      (pss_cons (ps_if (pt_cmpR op_eq (pv 6) pe_int (nomark _)) (pss_cons (ps_ret (pe_tup (pa_cons (pv 2) (pa_cons (pe_op (r := rCatA K) op_catA (pe_op (r := rCatA K) op_catA (pe_slice (r := rSlA K) sl_tupA (pv 3) po_none (po_some (pv 4))) (pe_tup (pa_cons (pe_slice (r := rSlA K) sl_tupA (pe_ix (r := rIxT K) ix_tup (pv 3) (pv 4) (fun _ _ => rfl)) (po_some pe_int) po_none) pa_nil))) (pe_slice (r := rSlA K) sl_tupA (pv 3) (po_some (pe_op op_add (pv 4) pe_int)) po_none)) pa_nil))))
      pss_nil) pss_nil)
      (pss_cons (ps_if (pt_cmpR op_eq (pv 6) pe_int (nomark _)) (pss_cons (ps_ret (pe_tup (pa_cons (pv 2) (pa_cons (pe_op (r := rCatA K) op_catA (pe_slice (r := rSlA K) sl_tupA (pv 3) po_none (po_some (pv 4))) (pe_slice (r := rSlA K) sl_tupA (pv 3) (po_some (pe_op op_add (pv 4) pe_int)) po_none)) pa_nil))))
      pss_nil) pss_nil)
      (pss_cons (ps_if (pt_cmpR op_eq (pv 6) pe_int (nomark _)) (pss_cons (ps_ret (pe_tup (pa_cons (pv 2) (pa_cons (pe_slice (r := rSlA K) sl_tupA (pe_op (r := rRepT K) op_repT (pv 3) pe_int) po_none (po_some (pe_op op_add pe_int (pe_call (ok_law_take (P := P) (w := w) T) (hr.mono (by omega)) (by rfl) T.g_law_take T.F_law_take.kp T.b_law_take .nil pass0 (pa_cons (pv 0) (pa_cons pe_int pa_nil)))))) pa_nil))))
      pss_nil) pss_nil)
      (pss_cons (ps_if (pt_cmpR op_eq (pv 6) pe_int (nomark _)) (pss_cons (ps_ret (pe_tup (pa_cons (pv 2) (pa_cons (pe_callTy (r := rTupS K) call_tupleQ (by rfl) T.n_tuple (by decide +kernel) (pa_cons (pe_lc (own := [("_law_line", 8)]) (g := (gName 8)) (by rfl) sc_law_bent_chart.nd (pi_tup (pv 3)) (blkOk_by (own := [("_law_line", 8)]) (N := N_law_bent_chart) (sc := defScope s_law_bent_chart) (by decide +kernel)) (fun _ _ _ _ _ => (pg_name (i := 8) sc_law_bent_chart.nd rfl (.inl rfl) (hf := .inr rfl))) (fun _ _ _ _ _ => pts_nil) (fun _ _ _ _ _ => (pe_slice (r := rSlA K) sl_tupA (pe_op (r := rRepT K) op_repT (pv 8) pe_int) po_none (po_some (pe_op op_add pe_int (pe_call (ok_law_take (P := P) (w := w) T) (hr.mono (by omega)) (by rfl) T.g_law_take T.F_law_take.kp T.b_law_take .nil pass0 (pa_cons (pv 0) (pa_cons pe_int pa_nil)))))))) pa_nil)) pa_nil))))
      pss_nil) pss_nil)
      (pss_cons (ps_ret (pv 1))
      pss_nil)))))))))))), Go.go ?_⟩
    refine go_two sx (ed_var rfl hv0) ?_
    intro v1 v2 H1 D1 g1 dc1 dr1
    cases dc1
    have G1 := GrB.of g1 B
    have hb1 := G1.bn hb B
    have dr : ∀ {D : Hp}, Ex D1 D → Dp K D v2 (.tuple (rows.map dRow)) := fun e => dp_mono e _ dr1
    refine go_asgB hb1 G1.sub G1.bx (eb_take (ev_var rfl) (m := (rows.length : Int)) (ev_is (ev_lenT (K := K) (ds := rows.map dRow) (ed_var rfl dr1)) (by rw [List.length_map])) (by omega) (by omega)) ?_
    rintro v H2 D2 d g2 hd ⟨a2, rfl, ha⟩
    cases hd
    obtain ⟨at', rfl⟩ : ∃ j : Nat, a2 = (j : Int) := ⟨a2.toNat, by omega⟩
    have G2 := G1.trans g2 hb B
    have hb2 := G2.bn hb B
    refine go_asgB hb2 G2.sub G2.bx (eb_take (ev_var rfl) (m := (wd : Int)) (ev_is (ev_lenT (K := K) (ds := r0.map .int) (ed_ixT (ed_var rfl (dr g2.dx)) ev_c (d := dRow r0) (atI_nat (j := 0) (by rw [er]; rfl)))) (by rw [List.length_map, hr0])) (by omega) (by omega)) ?_
    rintro v H3 D3 d g3 hd ⟨a3, rfl, ha3⟩
    cases hd
    obtain ⟨col, rfl⟩ : ∃ j : Nat, a3 = (j : Int) := ⟨a3.toNat, by omega⟩
    have G3 := G2.trans g3 hb B
    have hb3 := G3.bn hb B
    have dr3 := dr (g2.dx.trans g3.dx)
    refine go_asgB hb3 G3.sub G3.bx (eb_take (ev_var rfl) ev_c (m := 9) (by decide) (by decide)) ?_
    rintro v H4 D4 d g4 hd ⟨way, rfl, hway⟩
    cases hd
    have G4 := G3.trans g4 hb B
    have hb4 := G4.bn hb B
    have dr4 := dr ((g2.dx.trans g3.dx).trans g4.dx)
    have dv4 : Dp K D4 v0 (dChart c rows) := dp_mono (((g1.dx.trans g2.dx).trans g3.dx).trans g4.dx) _ hv0
    have hlt : at' < rows.length := by omega
    have hra : (rows.map dRow)[at']? = some (dRow rows[at']) := by
      rw [List.getElem?_map, List.getElem?_eq_getElem hlt]
      rfl
    have lrow : ∀ r ∈ rows, r.length ≤ 9 := fun r h => by rw [(hrows r h).1]; omega
    have la := lrow _ (List.getElem_mem hlt)
    apply go_when
    · walk_at "et"
    · intro _
      refine go_retB hb4 G4.sub G4.bx (eb_tup (eba_cons (eb_number (ev_var rfl)) (eba_cons (eb_ed (ed_var rfl dr4)) eba_nil)) ?_) ?_
      · rintro ds ⟨d1, e1, rfl, ⟨n, rfl, _⟩, d2, e2, rfl, rfl, rfl⟩
        simp
      · rintro v H5 D5 d g5 hdv ⟨ds, rfl, d1, e1, rfl, ⟨n, rfl, _⟩, d2, e2, rfl, rfl, rfl⟩
        exact q v H5 D5 _ (G4.trans g5 hb B) hdv ⟨n, rows, rfl, bd⟩
    intro _
    -- the pieces of the rows about the place
    have cutLen : ∀ lo hi, (cutG rows lo hi).length ≤ 9 := fun lo hi => Nat.le_trans (cutG_len _ _ _) len9
    have fin : ∀ {H' : Hp} {Dn : Hp} {G : GrB b Hd H Dn H'} {v : V} {rs : List (List Int)} {H5 D5 : Hp}, Gr Dn H' D5 H5 → Dp K D5 v (dChart c rs) → bdC rs → Q v H5 := fun {H' Dn G v rs H5 D5} g5 hdv hbd => q v H5 D5 _ (G.trans (GrB.of g5 G.bx) hb B) hdv ⟨c, rs, rfl, hbd⟩
    have bdApp : ∀ {l1 l2 l3 : List (List Int)}, l1.length + l2.length + l3.length ≤ 100 → (∀ r ∈ l1, r.length ≤ 100) → (∀ r ∈ l2, r.length ≤ 100) → (∀ r ∈ l3, r.length ≤ 100) → bdC (l1 ++ l2 ++ l3) := fun {l1 l2 l3} h a1 a2 a3 => ⟨by rw [List.length_append, List.length_append]; exact h, fun r hr => by
      rcases List.mem_append.mp hr with hr | hr
      · rcases List.mem_append.mp hr with hr | hr
        · exact a1 r hr
        · exact a2 r hr
      · exact a3 r hr⟩
    have cutBd : ∀ lo hi, ∀ r ∈ cutG rows lo hi, r.length ≤ 100 := fun lo hi r h => Nat.le_trans (lrow r (cutG_mem h)) (by decide)
    apply go_when
    · walk_at "et"
    · intro _
      refine go_asgB hb4 G4.sub G4.bx (eb_pick (n := 4) (p := fun _ => True) (ap_cons (EvB.impI (eb_number (ev_var rfl)) fun _ _ => trivial) (ap_cons (eb_int (by walk_at "ev") trivial) (ap_cons (eb_int (ev_var rfl) trivial) (ap_cons (eb_int (by walk_at "ev") trivial) ap_nil)))) (eb_take (ev_var rfl) ev_c (m := 4) (by decide) (by decide)) (by decide)) ?_
      rintro v H5 D5 d g5 hd ⟨odd, rfl, _⟩
      cases hd
      have G5 := G4.trans g5 hb B
      have dr5 := dp_mono g5.dx _ dr4
      have one : ∀ (x : Int), cutG (rows[at']) none (some x) ++ [odd] ++ cutG (rows[at']) (some (x + 1)) none = cutG (rows[at']) none (some x) ++ [odd] ++ cutG (rows[at']) (some (x + 1)) none := fun _ => rfl
      have ll : ∀ lo hi, (cutG rows[at'] lo hi).length ≤ 9 := fun lo hi => Nat.le_trans (cutG_len _ _ _) la
      refine go_asgD (K := K) G5.sub (d := dRow (cutG (rows[at']) none (some (col : Int)) ++ [odd] ++ cutG (rows[at']) (some ((col : Int) + 1)) none)) ?_ ?_
      · unfold dRow
        rw [List.map_append, List.map_append, ← cutD_map, ← cutD_map]
        refine ed_catT (ed_catT (ed_slT (ed_ixT (ed_var rfl dr5) (ev_var rfl) (atI_nat hra)) eo_none (eo_some (ev_var rfl))) (ed_tup (eda_cons (ed_int (ev_var rfl)) eda_nil) (by simp)) ?_) (ed_slT (ed_ixT (ed_var rfl dr5) (ev_var rfl) (atI_nat hra)) (eo_some (by walk_at "ev")) eo_none) ?_
        · have := ll none (some (col : Int))
          rw [cutD_map, List.length_map]
          simp
          omega
        · have h1 := ll none (some (col : Int))
          have h2 := ll (some ((col : Int) + 1)) none
          rw [cutD_map, cutD_map, List.length_append, List.length_map, List.length_map]
          simp
          omega
      intro v6 H6 D6 g6 dl6
      have G6 := G5.trans (GrB.of g6 G5.bx) hb B
      have dr6 := dp_mono g6.dx _ dr5
      refine go_ret (K := K) (d := dChart c (cutG rows none (some (at' : Int)) ++ [cutG (rows[at']) none (some (col : Int)) ++ [odd] ++ cutG (rows[at']) (some ((col : Int) + 1)) none] ++ cutG rows (some ((at' : Int) + 1)) none)) G6.sub ?_ ?_
      · unfold dChart
        rw [List.map_append, List.map_append, ← cutD_map, ← cutD_map]
        refine ed_tup (eda_cons (ed_int (ev_var rfl)) (eda_cons (ed_catT (ed_catT (ed_slT (ed_var rfl dr6) eo_none (eo_some (ev_var rfl))) (ed_tup (eda_cons (ed_var rfl dl6) eda_nil) (by simp)) ?_) (ed_slT (ed_var rfl dr6) (eo_some (by walk_at "ev")) eo_none) ?_) eda_nil)) (by simp)
        · have := cutLen none (some (at' : Int))
          rw [cutD_map, List.length_map]
          simp
          omega
        · have h1 := cutLen none (some (at' : Int))
          have h2 := cutLen (some ((at' : Int) + 1)) none
          rw [cutD_map, cutD_map, List.length_append, List.length_map, List.length_map]
          simp
          omega
      · intro v7 H7 D7 g7 dv7
        refine fin (G := G6) g7 dv7 (bdApp ?_ (cutBd _ _) (fun r hr => ?_) (cutBd _ _))
        · have h1 := cutLen none (some (at' : Int))
          have h2 := cutLen (some ((at' : Int) + 1)) none
          simp
          omega
        · rcases List.mem_cons.mp hr with rfl | hr
          · have h1 := ll none (some (col : Int))
            have h2 := ll (some ((col : Int) + 1)) none
            rw [List.length_append, List.length_append]
            simp
            omega
          · cases hr
    intro _
    -- a row put in another's place
    have swap : ∀ {te : TE} {r' : List Int}, EvD K te ((((((L2.start N_law_bent_chart [.ref b.b, v0]).set 2 (some (.int c))).set 3 (some v2)).set 4 (some (.int (at' : Int)))).set 5 (some (.int (col : Int)))).set 6 (some (.int way))) D4 (dRow r') →
        EvD K (tTup (tCons (tVar 2) (tCons (tOp (rCatA K) (tOp (rCatA K) (tSl (rSlA K) (tVar 3) tNoPart (tPart (tVar 4))) (tTup (tCons te tNil))) (tSl (rSlA K) (tVar 3) (tPart (tOp (rI0 fun i j => .int (i + j)) (tVar 4) (tC (.int 1)))) tNoPart)) tNil))) ((((((L2.start N_law_bent_chart [.ref b.b, v0]).set 2 (some (.int c))).set 3 (some v2)).set 4 (some (.int (at' : Int)))).set 5 (some (.int (col : Int)))).set 6 (some (.int way))) D4 (dChart c (cutG rows none (some (at' : Int)) ++ [r'] ++ cutG rows (some ((at' : Int) + 1)) none)) := fun {te r'} hte => by
      unfold dChart
      rw [List.map_append, List.map_append, ← cutD_map, ← cutD_map]
      refine ed_tup (eda_cons (ed_int (ev_var rfl)) (eda_cons (ed_catT (ed_catT (ed_slT (ed_var rfl dr4) eo_none (eo_some (ev_var rfl))) (ed_tup (eda_cons hte eda_nil) (by simp)) ?_) (ed_slT (ed_var rfl dr4) (eo_some (by walk_at "ev")) eo_none) ?_) eda_nil)) (by simp)
      · have := cutLen none (some (at' : Int))
        rw [cutD_map, List.length_map]
        simp
        omega
      · have h1 := cutLen none (some (at' : Int))
        have h2 := cutLen (some ((at' : Int) + 1)) none
        rw [cutD_map, cutD_map, List.length_append, List.length_map, List.length_map]
        simp
        omega
    have swapBd : ∀ {r' : List Int}, r'.length ≤ 100 → bdC (cutG rows none (some (at' : Int)) ++ [r'] ++ cutG rows (some ((at' : Int) + 1)) none) := fun {r'} h => by
      refine bdApp ?_ (cutBd _ _) (fun r hr => ?_) (cutBd _ _)
      · have h1 := cutLen none (some (at' : Int))
        have h2 := cutLen (some ((at' : Int) + 1)) none
        simp
        omega
      · rcases List.mem_cons.mp hr with rfl | hr
        · exact h
        · cases hr
    apply go_when
    · walk_at "et"
    · intro _
      refine go_ret G4.sub (swap (r' := rows[at'] ++ [0]) ?_) fun v5 H5 D5 g5 dv5 => fin (G := G4) g5 dv5 (swapBd (by rw [List.length_append]; simp; omega))
      unfold dRow
      rw [List.map_append]
      refine ed_catT (ed_ixT (ed_var rfl dr4) (ev_var rfl) (atI_nat hra)) (ed_tup (eda_cons (ed_int ev_c) eda_nil) (by simp)) (by rw [List.length_map]; simp; omega)
    intro _
    apply go_when
    · walk_at "et"
    · intro _
      refine go_ret G4.sub (swap (r' := cutG rows[at'] (some 1) none) ?_) fun v5 H5 D5 g5 dv5 => fin (G := G4) g5 dv5 (swapBd (Nat.le_trans (cutG_len _ _ _) (by omega)))
      unfold dRow
      rw [← cutD_map]
      exact ed_slT (ed_ixT (ed_var rfl dr4) (ev_var rfl) (atI_nat hra)) (eo_some ev_c) eo_none
    intro _
    apply go_when
    · walk_at "et"
    · intro _
      refine go_ret (K := K) (d := dChart c (cutG rows none (some (at' : Int)) ++ [] ++ cutG rows (some ((at' : Int) + 1)) none)) G4.sub ?_ fun v5 H5 D5 g5 dv5 => fin (G := G4) g5 dv5 (bdApp ?_ (cutBd _ _) (fun _ h => by cases h) (cutBd _ _))
      · unfold dChart
        rw [List.append_nil, List.map_append, ← cutD_map, ← cutD_map]
        refine ed_tup (eda_cons (ed_int (ev_var rfl)) (eda_cons (ed_catT (ed_slT (ed_var rfl dr4) eo_none (eo_some (ev_var rfl))) (ed_slT (ed_var rfl dr4) (eo_some (by walk_at "ev")) eo_none) ?_) eda_nil)) (by simp)
        have h1 := cutLen none (some (at' : Int))
        have h2 := cutLen (some ((at' : Int) + 1)) none
        rw [cutD_map, cutD_map, List.length_map, List.length_map]
        omega
      · have h1 := cutLen none (some (at' : Int))
        have h2 := cutLen (some ((at' : Int) + 1)) none
        simp
        omega
    intro _
    apply go_when
    · walk_at "et"
    · intro _
      refine go_retB hb4 G4.sub G4.bx (eb_tup (eba_cons (eb_ev (ev_var rfl)) (eba_cons (eb_slT (p := fun _ => True) (ed_repT (k := 10) (ed_var rfl dr4) ev_c (by rw [er]; simp) (by decide) (by rw [List.length_map]; omega)) (EvB.impI (eb_opI0 (K := K) (p := fun _ => True) (f := fun i j => i + j) (fun _ _ => rfl) (eb_int ev_c trivial) (eb_take (ev_var rfl) ev_c (m := 2) (by decide) (by decide))) fun _ _ => trivial)) eba_nil)) ?_) ?_
      · rintro ds ⟨d1, e1, rfl, ⟨n, rfl, _⟩, d2, e2, rfl, _, rfl⟩
        simp
      · rintro v H5 D5 d g5 hdv ⟨ds, rfl, d1, e1, rfl, ⟨n, rfl, rfl⟩, d2, e2, rfl, ⟨i, _, rfl⟩, rfl⟩
        rw [rep_map, cutD_map] at hdv
        refine q v H5 D5 _ (G4.trans g5 hb B) hdv ⟨_, _, rfl, Nat.le_trans (cutG_len _ _ _) ?_, fun r hr => Nat.le_trans (lrow r (rep_mem (cutG_mem hr))) (by decide)⟩
        rw [rep_len]
        show 10 * rows.length ≤ 100
        omega
    intro _
    apply go_when
    · walk_at "et"
    · intro _
      refine go_retB hb4 G4.sub G4.bx (eb_tup (eba_cons (eb_ev (ev_var rfl)) (eba_cons (eb_tupleL (eb_lc (PP := fun e => ∃ r, e = dRow r ∧ r.length ≤ 100) (ei_tup (K := K) (ds := rows.map dRow) (ed_var rfl dr4)) (by rw [List.length_map]; omega) ?_)) eba_nil)) ?_) ?_
      · rintro i σ2 Hm hi e ⟨v, d, h3, h4, rfl⟩
        rw [List.length_map] at hi
        rw [List.getElem?_map, List.getElem?_eq_getElem hi] at h3
        cases h3
        have hri := hrows _ (List.getElem_mem hi)
        refine ⟨rfl, EvB.imp (eb_slT (p := fun _ => True) (ed_repT (k := 10) (ed_var rfl h4) ev_c (by intro z; have := congrArg List.length z; rw [List.length_map, hri.1] at this; simp at this; omega) (by decide) (by rw [List.length_map, hri.1]; omega)) (EvB.impI (eb_opI0 (K := K) (p := fun _ => True) (f := fun i j => i + j) (fun _ _ => rfl) (eb_int ev_c trivial) (eb_take (ev_var rfl) ev_c (m := 2) (by decide) (by decide))) fun _ _ => trivial)) ?_⟩
        rintro d ⟨i2, _, rfl⟩
        rw [rep_map, cutD_map]
        refine ⟨_, rfl, Nat.le_trans (cutG_len _ _ _) ?_⟩
        rw [rep_len, hri.1]
        show 10 * wd ≤ 100
        omega
      · rintro ds ⟨d1, e1, rfl, ⟨n, rfl, _⟩, d2, e2, rfl, _, rfl⟩
        simp
      · rintro v H5 D5 d g5 hdv ⟨ds, rfl, d1, e1, rfl, ⟨n, rfl, rfl⟩, d2, e2, rfl, ⟨es, rfl, hl, hes⟩, rfl⟩
        obtain ⟨rs, rfl, hl2, hrs⟩ := all_rows hes
        exact q v H5 D5 _ (G4.trans g5 hb B) hdv ⟨_, rs, rfl, by rw [hl2, hl, List.length_map]; omega, hrs⟩
    intro _
    exact go_ret G4.sub (ed_var rfl dv4) fun v5 H5 D5 g5 dv5 => fin (G := G4) g5 dv5 bd

theorem in_clocks_all (c : Int) : inV (.int c) [.int 3, .int 5, .int 7, .int 9, .int 11, .int 13, .int 15] = isClock c := by
  by_cases h : 3 ≤ c ∧ c ≤ 15
  · have e : c = 3 ∨ c = 4 ∨ c = 5 ∨ c = 6 ∨ c = 7 ∨ c = 8 ∨ c = 9 ∨ c = 10 ∨ c = 11 ∨ c = 12 ∨ c = 13 ∨ c = 14 ∨ c = 15 := by omega
    rcases e with rfl | rfl | rfl | rfl | rfl | rfl | rfl | rfl | rfl | rfl | rfl | rfl | rfl <;> decide +kernel
  · have e1 : isClock c = false := by
      cases e : isClock c with
      | false => rfl
      | true =>
        have := isClock_iff.mp e
        omega
    rw [e1]
    have ne : ∀ k : Int, 3 ≤ k → k ≤ 15 → eqV (.int k) (.int c) = false := fun k h1 h2 => by
      simp only [eqV]
      first | exact decide_eq_false (by intro z; cases z; omega) | (rw [beq_eq_false_iff_ne]; intro z; omega) | (simp; omega)
    simp only [inV, List.any_cons, List.any_nil, ne 3 (by decide) (by decide), ne 5 (by decide) (by decide), ne 7 (by decide) (by decide), ne 9 (by decide) (by decide), ne 11 (by decide) (by decide), ne 13 (by decide) (by decide), ne 15 (by decide) (by decide)]
    rfl
theorem ok_law_is_chart (T : Tx K mg) : FnOk P w K mg base CX0 1 T.a_law_is_chart T.d_law_is_chart ["_law_chart_here"] (spIsChart K) := by
  refine T.F_law_is_chart.ok sc_law_is_chart (fun vs H Q E h => ?_) (fun cdv A outer s H vs Q E hr h => ?_)
  · obtain ⟨c, v, rows, rfl, _⟩ := h
    rfl
  · obtain ⟨c, v, rows, rfl, hv, hl, hls, q⟩ := h
    refine ⟨_, (pss_cons (ps_asg (pv 0) (pg_tup rfl (pgs_cons (pg_name (i := 1) sc_law_is_chart.nd rfl (.inr rfl)) (pgs_cons (pg_name (i := 2) sc_law_is_chart.nd rfl (.inl rfl)) pgs_nil))))
      (pss_cons (ps_if (PW.pt (pw_or (pt_cmpR (r := rIn K true) op_notIn_seq (pv 1) (pe_tup (pa_cons pe_int (pa_cons pe_int (pa_cons pe_int (pa_cons pe_int (pa_cons pe_int (pa_cons pe_int (pa_cons pe_int pa_nil)))))))) (by rfl)) (pw_or1 (pt_cmpR (r := rInR true) op_notInR (pe_callB (r := rLenS K) call_lenQ (by rfl) T.n_len PySem.boot_len (pa_cons (pv 2) pa_nil)) (pe_callTy (r := rRg2) call_rangeQ (by rfl) T.n_range (by decide +kernel) (pa_cons pe_int (pa_cons pe_int pa_nil))) (by rfl))))) (pss_cons (ps_ret pe_bl)
      pss_nil) pss_nil)
      (pss_cons (ps_if (pt_cmpR (r := rInR true) op_notInR (pe_callB (r := rLenS K) call_lenQ (by rfl) T.n_len PySem.boot_len (pa_cons (pe_ix (r := rIxT K) ix_tup (pv 2) pe_int (fun _ _ => rfl)) pa_nil)) (pe_callTy (r := rRg2) call_rangeQ (by rfl) T.n_range (by decide +kernel) (pa_cons pe_int (pa_cons pe_int pa_nil))) (by rfl)) (pss_cons (ps_ret pe_bl)
      pss_nil) pss_nil)
      (pss_cons (ps_for PassesOwn.never rfl (pi_tup (pv 2)) (pg_name (i := 3) sc_law_is_chart.nd rfl (.inl rfl)) (pss_cons (ps_if (PW.pt (pw_or (pt_cmpR op_ne (pe_callB (r := rLenS K) call_lenQ (by rfl) T.n_len PySem.boot_len (pa_cons (pv 3) pa_nil)) (pe_callB (r := rLenS K) call_lenQ (by rfl) T.n_len PySem.boot_len (pa_cons (pe_ix (r := rIxT K) ix_tup (pv 2) pe_int (fun _ _ => rfl)) pa_nil)) (nomark _)) (pw_or1 (pt_not (pt_val (pe_callB (r := rAll K) (cr_all rfl) (by rfl) T.n_all (by decide +kernel) (pa_cons (pe_lc (own := [("_law_one", 4)]) (g := (gName 4)) (by rfl) sc_law_is_chart.nd (pi_tup (pv 3)) (blkOk_by (own := [("_law_one", 4)]) (N := N_law_is_chart) (sc := defScope s_law_is_chart) (by decide +kernel)) (fun _ _ _ _ _ => (pg_name (i := 4) sc_law_is_chart.nd rfl (.inl rfl) (hf := .inr rfl))) (fun _ _ _ _ _ => pts_nil) (fun _ _ _ _ _ => (pe_chain op_le op_lt (pe_un un_neg pe_int) (pv 4) (pv 1)))) pa_nil))))))) (pss_cons (ps_ret pe_bl)
      pss_nil) pss_nil)
      pss_nil))
      (pss_cons (ps_ret pe_bl)
      pss_nil))))), Go.go ?_⟩
    refine go_two (Ex.refl H) (ed_var rfl hv) ?_
    intro v1 v2 H' Hn g d1 d2
    cases d1
    have hl1 : Ev (tCB (rLenS K) (tCons (tVar 2) tNil)) (((L2.start N_law_is_chart [v]).set 1 (some (.int c))).set 2 (some v2)) Hn (.int (rows.length : Int)) := ev_is (ev_lenT (K := K) (ds := rows.map dRow) (ed_var rfl d2)) (by rw [List.length_map])
    apply go_when (b := !isClock c || !decide (1 ≤ (rows.length : Int) ∧ (rows.length : Int) < 10))
    · refine EvT.mono g.sub (et_orB (et_test ?_) (et_test (ev_inR (neg := true) hl1 (ea_cons ev_c (ea_cons ev_c ea_nil)))))
      refine ev_is (ev_niU (K := K) (xs := [.int 3, .int 5, .int 7, .int 9, .int 11, .int 13, .int 15]) (ev_var rfl) (eu_tup (by walk_at "ea") (by simp)) rfl (by rfl)) (by rw [in_clocks_all])
    · intro e
      apply go_retE (k := fun H2 e2 => q H2 (g.ex.trans e2))
      · walk_at "ev"
      · unfold isChart
        cases h1 : isClock c
        · rfl
        · rw [h1] at e
          have h2 : ¬ (1 ≤ (rows.length : Int) ∧ (rows.length : Int) < 10) := by
            intro z
            rw [decide_eq_true z] at e
            cases e
          have h3 : (decide (1 ≤ (rows.length : Int)) && decide ((rows.length : Int) ≤ 9)) = false := by
            rw [← Bool.decide_and]
            exact decide_eq_false (by omega)
          rw [h3]
          rfl
    · intro e
      have h1 : isClock c = true := by
        cases h1 : isClock c
        · rw [h1] at e; cases e
        · rfl
      have h2 : 1 ≤ (rows.length : Int) ∧ (rows.length : Int) < 10 := by
        rw [h1] at e
        simpa using e
      have h3 : (decide (1 ≤ (rows.length : Int)) && decide ((rows.length : Int) ≤ 9)) = true := by
        rw [← Bool.decide_and]
        exact decide_eq_true (by omega)
      obtain ⟨r0, rest, rfl⟩ : ∃ r0 rest, rows = r0 :: rest := by
        cases rows with
        | nil => simp at h2
        | cons r0 rest => exact ⟨r0, rest, rfl⟩
      have hr0 : ∀ {σ : L2.St} {D : Hp}, Ex Hn D → σ[2]? = some (some v2) → Ev (tCB (rLenS K) (tCons (tOp (rIxT K) (tVar 2) (tC (.int 0))) tNil)) σ D (.int (r0.length : Int)) := fun {σ D} e hs => ev_is (ev_lenT (K := K) (ds := r0.map .int) (ed_ixT (ed_var hs (dp_mono e _ d2)) ev_c (d := dRow r0) (atI_nat (j := 0) rfl))) (by rw [List.length_map])
      apply go_when (b := !decide (1 ≤ (r0.length : Int) ∧ (r0.length : Int) < 10))
      · exact EvT.mono g.sub (et_test (ev_inR (neg := true) (hr0 (Ex.refl _) rfl) (ea_cons ev_c (ea_cons ev_c ea_nil))))
      · intro e2
        apply go_retE (k := fun H2 e2 => q H2 (g.ex.trans e2))
        · walk_at "ev"
        · have h4 : ¬ (1 ≤ (r0.length : Int) ∧ (r0.length : Int) < 10) := by
            intro z
            rw [decide_eq_true z] at e2
            cases e2
          have h5 : (decide (1 ≤ (r0.length : Int)) && decide ((r0.length : Int) ≤ 9)) = false := by
            rw [← Bool.decide_and]
            exact decide_eq_false (by omega)
          unfold isChart
          rw [h1, h3]
          show V.bl false = V.bl (true && true && ((decide (1 ≤ (r0.length : Int)) && decide ((r0.length : Int) ≤ 9)) && _))
          rw [h5]
          rfl
      · intro e2
        have h4 : 1 ≤ (r0.length : Int) ∧ (r0.length : Int) < 10 := by simpa using e2
        have h5 : (decide (1 ≤ (r0.length : Int)) && decide ((r0.length : Int) ≤ 9)) = true := by
          rw [← Bool.decide_and]
          exact decide_eq_true (by omega)
        have isV : isChart c (r0 :: rest) = (r0 :: rest).all (isRow c r0.length) := by
          unfold isChart
          rw [h1, h3]
          show (true && true && ((decide (1 ≤ (r0.length : Int)) && decide ((r0.length : Int) ≤ 9)) && _)) = _
          rw [h5]
          rfl
        refine go_for (K := K) g.sub (ei_tup (K := K) (ds := (r0 :: rest).map dRow) (ed_var rfl d2)) (fun Hm i σ' H2 => Ex Hm H2 ∧ Ex H H2 ∧ (((r0 :: rest).take i).all (isRow c r0.length)) = true ∧ ∃ x y, σ' = [some v, some (.int c), some v2, x, y]) ?_ (fun Hm i σ' H2 p => p.1) ?_ ?_
        · intro H2 Hm g2
          exact ⟨g2.sub, g.ex.trans g2.ex, rfl, none, none, rfl⟩
        · rintro Hm i σ' σ2 H2 em hi ⟨p1, p2, p3, x, y, rfl⟩ ⟨v3, d3, q1, q2, rfl⟩
          rw [List.length_map] at hi
          rw [List.getElem?_map, List.getElem?_eq_getElem hi] at q1
          cases q1
          have hln := hls _ (List.getElem_mem hi)
          generalize hri : (r0 :: rest)[i] = ri at q2 hln
          have hlen : Ev (tCB (rLenS K) (tCons (tVar 3) tNil)) [some v, some (.int c), some v2, some v3, y] Hm (.int (ri.length : Int)) := ev_is (ev_lenT (K := K) (ds := ri.map .int) (ed_var rfl q2)) (by rw [List.length_map])
          have hall : Ev (tCB (rAll K) (tCons (tLc (iTup K (tVar 3)) (gName 4) tYes (tChain (rI0 fun i j => .bl (decide (i ≤ j))) (rI0 fun i j => .bl (decide (i < j))) (tUn (rU fun i => .int (-i)) (tC (.int 2))) (tVar 4) (tVar 1)) [4]) tNil)) [some v, some (.int c), some v2, some v3, y] Hm (.bl ((ri.map fun x => decide (-2 ≤ x) && decide (x < c)).all id)) := by
            apply ev_all (K := K)
            rw [← range_all, ← List.length_map (f := PyData.int) (as := ri), ← givenD_all]
            refine ed_new (en_lc (ei_tup (K := K) (ds := ri.map .int) (ed_var rfl q2)) (by rw [List.length_map]; exact hln) (fun _ => true) _ ?_)
            rintro i2 σ2 Hk hi2 ek ⟨v4, d4, z1, z2, rfl⟩
            rw [List.length_map] at hi2
            rw [List.getElem?_map, List.getElem?_eq_getElem hi2] at z1
            cases z1
            cases z2
            refine ⟨rfl, et_yes, fun _ => ed_bool (ev_is (by walk_at "ev") ?_)⟩
            rw [List.getElem?_eq_getElem hi2]
            rfl
          apply go_when (b := !isRow c r0.length ri)
          · refine EvT.mono p1 (et_is (et_orB (et_test (ev_op hlen (hr0 (g.dx.trans (Ex.refl _) |> fun _ => em) rfl) (by walk_at "rv"))) (et_not (et_B hall))) ?_)
            unfold isRow
            simp [List.all_map, V.int.injEq, Bool.not_and]
          · intro e3
            have e4 : isRow c r0.length ri = false := by simpa using e3
            apply go_retE (k := fun H3 e5 => q H3 (p2.trans e5))
            · walk_at "ev"
            · rw [isV]
              have : (r0 :: rest).all (isRow c r0.length) = false := by
                rw [List.all_eq_false]
                exact ⟨ri, by rw [← hri]; exact List.getElem_mem hi, by rw [e4]; decide⟩
              rw [this]
          · intro e3
            have e4 : isRow c r0.length ri = true := by simpa using e3
            refine go_next fun H3 e5 => ⟨p1.trans e5, p2.trans e5, ?_, _, _, rfl⟩
            rw [List.take_add_one, List.getElem?_eq_getElem hi, List.all_append, p3, hri]
            simp [e4]
        · rintro Hm σ' H2 em ⟨p1, p2, p3, x, y, rfl⟩
          apply go_retE (k := fun H3 e5 => q H3 (p2.trans e5))
          · walk_at "ev"
          · rw [isV]
            rw [List.length_map, List.take_length] at p3
            rw [p3]

theorem ok_law (T : Tx K mg) : FnOk P w K mg base CX0 9 T.a_law T.d_law ["_law_script"] (sp_law K) := by
  refine T.F_law.ok sc_law (fun vs H Q E h => ?_) (fun cdv A outer s H vs Q E hr h => ?_)
  · obtain ⟨a, ns, rfl, _⟩ := h
    rfl
  · obtain ⟨a, ns, rfl, hL, hn, q⟩ := h
    refine ⟨_, (pss_cons (ps_set (i := 1) sc_law.nd rfl (.inl rfl) (pe_call (ok_law_box (P := P) (w := w) T) (hr.mono (by omega)) (by rfl) T.g_law_box T.F_law_box.kp T.b_law_box .nil pass0 (pa_cons (pv 0) pa_nil)))
      (pss_cons (ps_for PassesOwn.never rfl (pi_range1 (by rfl) T.n_range (pa_cons pe_int pa_nil)) (pg_name (i := 2) sc_law.nd rfl (.inl rfl)) (pss_cons (ps_set (i := 3) sc_law.nd rfl (.inl rfl) (pe_call (ok_law_bent_chart (P := P) (w := w) T) (hr.mono (by omega)) (by rfl) T.g_law_bent_chart T.F_law_bent_chart.kp T.b_law_bent_chart .nil pass0 (pa_cons (pv 1) (pa_cons (pe_call (ok_law_chart (P := P) (w := w) T) (hr.mono (by omega)) (by rfl) T.g_law_chart T.F_law_chart.kp T.b_law_chart .nil pass0 (pa_cons (pv 1) (pa_cons pe_int (pa_cons pe_int pa_nil)))) pa_nil))))
      (pss_cons (ps_if (pt_not (pt_val (pe_call (ok_law_same (P := P) (w := w) T) (hr.mono (by omega)) (by rfl) T.g_law_same T.F_law_same.kp T.b_law_same .nil pass0 (pa_cons (pe_call (ok_is_chart (P := P) (w := w) T) (hr.mono (by omega)) (by rfl) T.g_is_chart T.F_is_chart.kp T.b_is_chart .nil pass0 (pa_cons (pv 3) pa_nil)) (pa_cons (pe_call (ok_law_is_chart (P := P) (w := w) T) (hr.mono (by omega)) (by rfl) T.g_law_is_chart T.F_law_is_chart.kp T.b_law_is_chart .nil pass0 (pa_cons (pv 3) pa_nil)) pa_nil))))) (pss_cons (ps_ret pe_bl)
      pss_nil) pss_nil)
      pss_nil)))
      (pss_cons (ps_ret (pe_call (ok_law_same (P := P) (w := w) T) (hr.mono (by omega)) (by rfl) T.g_law_same T.F_law_same.kp T.b_law_same .nil pass0 (pa_cons (pe_lst (pa_cons (pe_call (ok_is_chart (P := P) (w := w) T) (hr.mono (by omega)) (by rfl) T.g_is_chart T.F_is_chart.kp T.b_is_chart .nil pass0 (pa_cons (pe_tup (pa_cons pe_int (pa_cons (pe_tup pa_nil) pa_nil))) pa_nil)) (pa_cons (pe_call (ok_is_chart (P := P) (w := w) T) (hr.mono (by omega)) (by rfl) T.g_is_chart T.F_is_chart.kp T.b_is_chart .nil pass0 (pa_cons (pe_tup (pa_cons pe_int (pa_cons (pe_tup (pa_cons (pe_tup pa_nil) pa_nil)) pa_nil))) pa_nil)) pa_nil))) (pa_cons (pe_lst (pa_cons pe_bl (pa_cons pe_bl pa_nil))) pa_nil))))
      pss_nil))), Go.go ?_⟩
    refine go_box hL hn (ev_var rfl) fun b H1 hb hca e1 B => ?_
    refine go_for (K := K) e1 (ei_range1 (m := 5) (by walk_at "ea") (by decide)) (fun Hn i σ' H' => Ex Hn H' ∧ Hn b.b = none ∧ Bx H' b ∧ ∃ x y, σ' = [some (.ref a), some (.ref b.b), x, y]) ?_ (fun Hn i σ' H' p => p.1) ?_ ?_
    · intro H' Hn g
      obtain ⟨o, ho⟩ := B.some
      exact ⟨g.sub, g.fr b.b o ho hb, B.mono g.ex, none, none, rfl⟩
    · rintro Hn i σ' σ2 H' e hi ⟨p1, p2, p3, x, y, rfl⟩ rfl
      refine go_asgB (P := fun d => ∃ c rows, d = dChart c rows ∧ bdC rows) p2 p1 p3 (EvB.imp (eb_call (ev_var rfl) (eba_cons (eb_chart (ev_var rfl) ev_c ev_c (by decide)) eba_nil) ?_) ?_) ?_
      · rintro ds ⟨d, es, rfl, ⟨c, rows, rfl, g⟩, rfl⟩
        exact ⟨c, rows, rfl, g⟩
      · rintro d ⟨ds, _, h⟩
        exact h
      rintro v H2 D2 d g2 hd ⟨c, rows, rfl, hbd⟩
      have hl : rows.length ≤ 40000 := Nat.le_trans hbd.1 (by decide)
      have hls : ∀ r ∈ rows, r.length ≤ 40000 := fun r h => Nat.le_trans (hbd.2 r h) (by decide)
      refine go_whenF (EvT.mono g2.sub (et_is (et_not (et_B (ev_same (K := K) (d := .bool (isChart c rows)) (n := 6) (eda_cons (ed_bool (ev_is_chart (eda_cons (ed_var rfl hd) eda_nil) hl hls)) (eda_cons (ed_bool (ev_is_chart (eda_cons (ed_var rfl hd) eda_nil) hl hls)) eda_nil)) trivial))) rfl)) ?_
      exact go_next fun H3 e3 => ⟨((g2.dx.trans g2.sub).trans e3), p2, g2.bx.mono e3, _, _, rfl⟩
    · rintro Hn σ' H' e ⟨p1, p2, p3, x, y, rfl⟩
      apply go_retE (k := fun H' _ => q H') (v' := .bl true)
      · refine ev_same (K := K) (d := .list [.bool false, .bool false]) (n := 6) (eda_cons (ed_new (en_lst (eda_cons (ed_bool (ev_is (ev_is_chart (c := 3) (rows := []) (eda_cons (ed_tup (eda_cons (ed_int ev_c) (eda_cons (ed_tup eda_nil (by simp)) eda_nil)) (by simp)) eda_nil) (by decide) (fun _ h => by cases h)) (by decide +kernel))) (eda_cons (ed_bool (ev_is (ev_is_chart (c := 3) (rows := [[]]) (eda_cons (ed_tup (eda_cons (ed_int ev_c) (eda_cons (ed_tup (eda_cons (ed_tup eda_nil (by simp)) eda_nil) (by simp)) eda_nil)) (by simp)) eda_nil) (by decide) (fun r h => ?_)) (by decide +kernel))) eda_nil)) (by simp))) (eda_cons (ed_new (en_lst (eda_cons (ed_bool ev_c) (eda_cons (ed_bool ev_c) eda_nil)) (by simp))) eda_nil)) (by simp [okD])
        rcases List.mem_cons.mp h with rfl | h
        · decide
        · cases h
      · rfl

end
theorem all_mk {l : PySem.W.OpenLaw} {w : World} {K : PySem.W.Frag} {h : Heap} {mg : Str → Option Value} {fa : Addr} (X : K.In h) (G : h.Ns mainGlobals mg) (hfa : mg "law" = some (.ref fa))
    {f0 : Addr} {od0 an0 : Option Addr} {sl0 : Array (Option Value)} {oc0 kV0 dc0 pm0 cd0 ct0 : Value}
    {f1 : Addr} {od1 an1 : Option Addr} {sl1 : Array (Option Value)} {oc1 kV1 dc1 pm1 cd1 ct1 : Value}
    {f2 : Addr} {od2 an2 : Option Addr} {sl2 : Array (Option Value)} {oc2 kV2 dc2 pm2 cd2 ct2 : Value}
    {f3 : Addr} {od3 an3 : Option Addr} {sl3 : Array (Option Value)} {oc3 kV3 dc3 pm3 cd3 ct3 : Value}
    {f4 : Addr} {od4 an4 : Option Addr} {sl4 : Array (Option Value)} {oc4 kV4 dc4 pm4 cd4 ct4 : Value}
    {f5 : Addr} {od5 an5 : Option Addr} {sl5 : Array (Option Value)} {oc5 kV5 dc5 pm5 cd5 ct5 : Value}
    {f6 : Addr} {od6 an6 : Option Addr} {sl6 : Array (Option Value)} {oc6 kV6 dc6 pm6 cd6 ct6 : Value}
    {f7 : Addr} {od7 an7 : Option Addr} {sl7 : Array (Option Value)} {oc7 kV7 dc7 pm7 cd7 ct7 : Value}
    {f8 : Addr} {od8 an8 : Option Addr} {sl8 : Array (Option Value)} {oc8 kV8 dc8 pm8 cd8 ct8 : Value}
    {f9 : Addr} {od9 an9 : Option Addr} {sl9 : Array (Option Value)} {oc9 kV9 dc9 pm9 cd9 ct9 : Value}
    {f10 : Addr} {od10 an10 : Option Addr} {sl10 : Array (Option Value)} {oc10 kV10 dc10 pm10 cd10 ct10 : Value}
    {f11 : Addr} {od11 an11 : Option Addr} {sl11 : Array (Option Value)} {oc11 kV11 dc11 pm11 cd11 ct11 : Value}
    {f12 : Addr} {od12 an12 : Option Addr} {sl12 : Array (Option Value)} {oc12 kV12 dc12 pm12 cd12 ct12 : Value}
    {f13 : Addr} {od13 an13 : Option Addr} {sl13 : Array (Option Value)} {oc13 kV13 dc13 pm13 cd13 ct13 : Value}
    {f14 : Addr} {od14 an14 : Option Addr} {sl14 : Array (Option Value)} {oc14 kV14 dc14 pm14 cd14 ct14 : Value}
    {f15 : Addr} {od15 an15 : Option Addr} {sl15 : Array (Option Value)} {oc15 kV15 dc15 pm15 cd15 ct15 : Value}
    {f16 : Addr} {od16 an16 : Option Addr} {sl16 : Array (Option Value)} {oc16 kV16 dc16 pm16 cd16 ct16 : Value}
    {t0 : Tok}
    {t1 : Tok}
    {t2 : Tok}
    {t3 : Tok}
    (a0 : PySem.W.nsIn K mainGlobals "is_clock" = some (some (.ref f0))) (l0 : K.lookup f0 = some ⟨oc0, od0, .func (PySem.W.fnOf "is_clock" "is_clock" (defArgs s_is_clock) (defBody s_is_clock) (defScope s_is_clock) .none kV0 dc0 pm0 an0 cd0 ct0), sl0⟩) (c0 : PySem.W.codeIn K cd0 "is_clock" = true) (k0 : PySem.W.keepIn K (.ref f0) = true)
    (a1 : PySem.W.nsIn K mainGlobals "is_what" = some (some (.ref f1))) (l1 : K.lookup f1 = some ⟨oc1, od1, .func (PySem.W.fnOf "is_what" "is_what" (defArgs s_is_what) (defBody s_is_what) (defScope s_is_what) .none kV1 dc1 pm1 an1 cd1 ct1), sl1⟩) (c1 : PySem.W.codeIn K cd1 "is_what" = true) (k1 : PySem.W.keepIn K (.ref f1) = true)
    (a2 : PySem.W.nsIn K mainGlobals "is_row" = some (some (.ref f2))) (l2 : K.lookup f2 = some ⟨oc2, od2, .func (PySem.W.fnOf "is_row" "is_row" (defArgs s_is_row) (defBody s_is_row) (defScope s_is_row) .none kV2 dc2 pm2 an2 cd2 ct2), sl2⟩) (c2 : PySem.W.codeIn K cd2 "is_row" = true) (k2 : PySem.W.keepIn K (.ref f2) = true)
    (a3 : PySem.W.nsIn K mainGlobals "is_chart" = some (some (.ref f3))) (l3 : K.lookup f3 = some ⟨oc3, od3, .func (PySem.W.fnOf "is_chart" "is_chart" (defArgs s_is_chart) (defBody s_is_chart) (defScope s_is_chart) .none kV3 dc3 pm3 an3 cd3 ct3), sl3⟩) (c3 : PySem.W.codeIn K cd3 "is_chart" = true) (k3 : PySem.W.keepIn K (.ref f3) = true)
    (a4 : PySem.W.nsIn K mainGlobals "_law_box" = some (some (.ref f4))) (l4 : K.lookup f4 = some ⟨oc4, od4, .func (PySem.W.fnOf "_law_box" "_law_box" (defArgs s_law_box) (defBody s_law_box) (defScope s_law_box) .none kV4 dc4 pm4 an4 cd4 ct4), sl4⟩) (c4 : PySem.W.codeIn K cd4 "_law_box" = true) (k4 : PySem.W.keepIn K (.ref f4) = true)
    (a5 : PySem.W.nsIn K mainGlobals "_law_mixed" = some (some (.ref f5))) (l5 : K.lookup f5 = some ⟨oc5, od5, .func (PySem.W.fnOf "_law_mixed" "_law_mixed" (defArgs s_law_mixed) (defBody s_law_mixed) (defScope s_law_mixed) .none kV5 dc5 pm5 an5 cd5 ct5), sl5⟩) (c5 : PySem.W.codeIn K cd5 "_law_mixed" = true) (k5 : PySem.W.keepIn K (.ref f5) = true)
    (a6 : PySem.W.nsIn K mainGlobals "_law_take" = some (some (.ref f6))) (l6 : K.lookup f6 = some ⟨oc6, od6, .func (PySem.W.fnOf "_law_take" "_law_take" (defArgs s_law_take) (defBody s_law_take) (defScope s_law_take) .none kV6 dc6 pm6 an6 cd6 ct6), sl6⟩) (c6 : PySem.W.codeIn K cd6 "_law_take" = true) (k6 : PySem.W.keepIn K (.ref f6) = true)
    (a7 : PySem.W.nsIn K mainGlobals "_law_whole" = some (some (.ref f7))) (l7 : K.lookup f7 = some ⟨oc7, od7, .func (PySem.W.fnOf "_law_whole" "_law_whole" (defArgs s_law_whole) (defBody s_law_whole) (defScope s_law_whole) .none kV7 dc7 pm7 an7 cd7 ct7), sl7⟩) (c7 : PySem.W.codeIn K cd7 "_law_whole" = true) (k7 : PySem.W.keepIn K (.ref f7) = true)
    (a8 : PySem.W.nsIn K mainGlobals "_law_same" = some (some (.ref f8))) (l8 : K.lookup f8 = some ⟨oc8, od8, .func (PySem.W.fnOf "_law_same" "_law_same" (defArgs s_law_same) (defBody s_law_same) (defScope s_law_same) .none kV8 dc8 pm8 an8 cd8 ct8), sl8⟩) (c8 : PySem.W.codeIn K cd8 "_law_same" = true) (k8 : PySem.W.keepIn K (.ref f8) = true)
    (a9 : PySem.W.nsIn K mainGlobals "_law_clock" = some (some (.ref f9))) (l9 : K.lookup f9 = some ⟨oc9, od9, .func (PySem.W.fnOf "_law_clock" "_law_clock" (defArgs s_law_clock) (defBody s_law_clock) (defScope s_law_clock) .none kV9 dc9 pm9 an9 cd9 ct9), sl9⟩) (c9 : PySem.W.codeIn K cd9 "_law_clock" = true) (k9 : PySem.W.keepIn K (.ref f9) = true)
    (a10 : PySem.W.nsIn K mainGlobals "_law_number" = some (some (.ref f10))) (l10 : K.lookup f10 = some ⟨oc10, od10, .func (PySem.W.fnOf "_law_number" "_law_number" (defArgs s_law_number) (defBody s_law_number) (defScope s_law_number) .none kV10 dc10 pm10 an10 cd10 ct10), sl10⟩) (c10 : PySem.W.codeIn K cd10 "_law_number" = true) (k10 : PySem.W.keepIn K (.ref f10) = true)
    (a11 : PySem.W.nsIn K mainGlobals "_law_square" = some (some (.ref f11))) (l11 : K.lookup f11 = some ⟨oc11, od11, .func (PySem.W.fnOf "_law_square" "_law_square" (defArgs s_law_square) (defBody s_law_square) (defScope s_law_square) .none kV11 dc11 pm11 an11 cd11 ct11), sl11⟩) (c11 : PySem.W.codeIn K cd11 "_law_square" = true) (k11 : PySem.W.keepIn K (.ref f11) = true)
    (a12 : PySem.W.nsIn K mainGlobals "_law_near_hour" = some (some (.ref f12))) (l12 : K.lookup f12 = some ⟨oc12, od12, .func (PySem.W.fnOf "_law_near_hour" "_law_near_hour" (defArgs s_law_near_hour) (defBody s_law_near_hour) (defScope s_law_near_hour) .none kV12 dc12 pm12 an12 cd12 ct12), sl12⟩) (c12 : PySem.W.codeIn K cd12 "_law_near_hour" = true) (k12 : PySem.W.keepIn K (.ref f12) = true)
    (a13 : PySem.W.nsIn K mainGlobals "_law_chart" = some (some (.ref f13))) (l13 : K.lookup f13 = some ⟨oc13, od13, .func (PySem.W.fnOf "_law_chart" "_law_chart" (defArgs s_law_chart) (defBody s_law_chart) (defScope s_law_chart) .none kV13 dc13 pm13 an13 cd13 ct13), sl13⟩) (c13 : PySem.W.codeIn K cd13 "_law_chart" = true) (k13 : PySem.W.keepIn K (.ref f13) = true)
    (a14 : PySem.W.nsIn K mainGlobals "_law_bent_chart" = some (some (.ref f14))) (l14 : K.lookup f14 = some ⟨oc14, od14, .func (PySem.W.fnOf "_law_bent_chart" "_law_bent_chart" (defArgs s_law_bent_chart) (defBody s_law_bent_chart) (defScope s_law_bent_chart) .none kV14 dc14 pm14 an14 cd14 ct14), sl14⟩) (c14 : PySem.W.codeIn K cd14 "_law_bent_chart" = true) (k14 : PySem.W.keepIn K (.ref f14) = true)
    (a15 : PySem.W.nsIn K mainGlobals "_law_is_chart" = some (some (.ref f15))) (l15 : K.lookup f15 = some ⟨oc15, od15, .func (PySem.W.fnOf "_law_is_chart" "_law_is_chart" (defArgs s_law_is_chart) (defBody s_law_is_chart) (defScope s_law_is_chart) .none kV15 dc15 pm15 an15 cd15 ct15), sl15⟩) (c15 : PySem.W.codeIn K cd15 "_law_is_chart" = true) (k15 : PySem.W.keepIn K (.ref f15) = true)
    (a16 : PySem.W.nsIn K mainGlobals "law" = some (some (.ref f16))) (l16 : K.lookup f16 = some ⟨oc16, od16, .func (PySem.W.fnOf "law" "law" (defArgs s_law) (defBody s_law) (defScope s_law) .none kV16 dc16 pm16 an16 cd16 ct16), sl16⟩) (c16 : PySem.W.codeIn K cd16 "law" = true) (k16 : PySem.W.keepIn K (.ref f16) = true)
    (q0 : PySem.W.nsIn K mainGlobals "LEAST_HOURS" = some (some (.int (3) t0)))
    (q1 : PySem.W.nsIn K mainGlobals "MOST_HOURS" = some (some (.int (15) t1)))
    (q2 : PySem.W.nsIn K mainGlobals "MOST_SQUARES" = some (some (.int (9) t2)))
    (q3 : PySem.W.nsIn K mainGlobals "UNTOLD" = some (some (.int (-2) t3)))
    (z0 : PySem.W.nsIn K mainGlobals "all" = some none)
    (z1 : PySem.W.nsIn K mainGlobals "bool" = some none)
    (z2 : PySem.W.nsIn K mainGlobals "int" = some none)
    (z3 : PySem.W.nsIn K mainGlobals "isinstance" = some none)
    (z4 : PySem.W.nsIn K mainGlobals "len" = some none)
    (z5 : PySem.W.nsIn K mainGlobals "list" = some none)
    (z6 : PySem.W.nsIn K mainGlobals "range" = some none)
    (z7 : PySem.W.nsIn K mainGlobals "str" = some none)
    (z8 : PySem.W.nsIn K mainGlobals "tuple" = some none)
    (z9 : PySem.W.nsIn K mainGlobals "zip" = some none) :
    ∃ fd : FuncData, (∀ (s : Shared) (v : Value), BindsTo s fd ⟨[v], []⟩ [("_law_script", v)]) ∧ ∀ base : Heap, K.In base → base.Ns mainGlobals mg → FnOk l.prog w K mg base CX0 9 fa fd ["_law_script"] (sp_law K) := by
  have e := hfa.symm.trans (PySem.W.mg_of X G a16)
  cases e
  refine ⟨_, fun s v => ?_, fun base _ _ => ok_law (T := ⟨_, _, fun_mk (st := s_is_clock) l0 c0 k0, PySem.W.mg_of X G a0, (fun_mk (st := s_is_clock) l0 c0 k0).binds fun _ _ _ _ _ _ us hl => match us, hl with | [_], _ => rfl,
    _, _, fun_mk (st := s_is_what) l1 c1 k1, PySem.W.mg_of X G a1, (fun_mk (st := s_is_what) l1 c1 k1).binds fun _ _ _ _ _ _ us hl => match us, hl with | [_, _], _ => rfl,
    _, _, fun_mk (st := s_is_row) l2 c2 k2, PySem.W.mg_of X G a2, (fun_mk (st := s_is_row) l2 c2 k2).binds fun _ _ _ _ _ _ us hl => match us, hl with | [_, _, _], _ => rfl,
    _, _, fun_mk (st := s_is_chart) l3 c3 k3, PySem.W.mg_of X G a3, (fun_mk (st := s_is_chart) l3 c3 k3).binds fun _ _ _ _ _ _ us hl => match us, hl with | [_], _ => rfl,
    _, _, fun_mk (st := s_law_box) l4 c4 k4, PySem.W.mg_of X G a4, (fun_mk (st := s_law_box) l4 c4 k4).binds fun _ _ _ _ _ _ us hl => match us, hl with | [_], _ => rfl,
    _, _, fun_mk (st := s_law_mixed) l5 c5 k5, PySem.W.mg_of X G a5, (fun_mk (st := s_law_mixed) l5 c5 k5).binds fun _ _ _ _ _ _ us hl => match us, hl with | [_, _], _ => rfl,
    _, _, fun_mk (st := s_law_take) l6 c6 k6, PySem.W.mg_of X G a6, (fun_mk (st := s_law_take) l6 c6 k6).binds fun _ _ _ _ _ _ us hl => match us, hl with | [_, _], _ => rfl,
    _, _, fun_mk (st := s_law_whole) l7 c7 k7, PySem.W.mg_of X G a7, (fun_mk (st := s_law_whole) l7 c7 k7).binds fun _ _ _ _ _ _ us hl => match us, hl with | [_], _ => rfl,
    _, _, fun_mk (st := s_law_same) l8 c8 k8, PySem.W.mg_of X G a8, (fun_mk (st := s_law_same) l8 c8 k8).binds fun _ _ _ _ _ _ us hl => match us, hl with | [_, _], _ => rfl,
    _, _, fun_mk (st := s_law_clock) l9 c9 k9, PySem.W.mg_of X G a9, (fun_mk (st := s_law_clock) l9 c9 k9).binds fun _ _ _ _ _ _ us hl => match us, hl with | [_], _ => rfl,
    _, _, fun_mk (st := s_law_number) l10 c10 k10, PySem.W.mg_of X G a10, (fun_mk (st := s_law_number) l10 c10 k10).binds fun _ _ _ _ _ _ us hl => match us, hl with | [_], _ => rfl,
    _, _, fun_mk (st := s_law_square) l11 c11 k11, PySem.W.mg_of X G a11, (fun_mk (st := s_law_square) l11 c11 k11).binds fun _ _ _ _ _ _ us hl => match us, hl with | [_, _, _, _, _, _], _ => rfl,
    _, _, fun_mk (st := s_law_near_hour) l12 c12 k12, PySem.W.mg_of X G a12, (fun_mk (st := s_law_near_hour) l12 c12 k12).binds fun _ _ _ _ _ _ us hl => match us, hl with | [_, _], _ => rfl,
    _, _, fun_mk (st := s_law_chart) l13 c13 k13, PySem.W.mg_of X G a13, (fun_mk (st := s_law_chart) l13 c13 k13).binds fun _ _ _ _ _ _ us hl => match us, hl with | [_, _, _], _ => rfl,
    _, _, fun_mk (st := s_law_bent_chart) l14 c14 k14, PySem.W.mg_of X G a14, (fun_mk (st := s_law_bent_chart) l14 c14 k14).binds fun _ _ _ _ _ _ us hl => match us, hl with | [_, _], _ => rfl,
    _, _, fun_mk (st := s_law_is_chart) l15 c15 k15, PySem.W.mg_of X G a15, (fun_mk (st := s_law_is_chart) l15 c15 k15).binds fun _ _ _ _ _ _ us hl => match us, hl with | [_], _ => rfl,
    _, _, fun_mk (st := s_law) l16 c16 k16, PySem.W.mg_of X G a16, (fun_mk (st := s_law) l16 c16 k16).binds fun _ _ _ _ _ _ us hl => match us, hl with | [_], _ => rfl,
    t0, PySem.W.mg_of X G q0,
    t1, PySem.W.mg_of X G q1,
    t2, PySem.W.mg_of X G q2,
    t3, PySem.W.mg_of X G q3,
    PySem.W.mg_none_of X G z0,
    PySem.W.mg_none_of X G z1,
    PySem.W.mg_none_of X G z2,
    PySem.W.mg_none_of X G z3,
    PySem.W.mg_none_of X G z4,
    PySem.W.mg_none_of X G z5,
    PySem.W.mg_none_of X G z6,
    PySem.W.mg_none_of X G z7,
    PySem.W.mg_none_of X G z8,
    PySem.W.mg_none_of X G z9⟩)⟩
  exact .of_eq rfl
end C_k05
open PySem PySem.W PyProof.Rows
set_option maxHeartbeats 0 in
theorem PySem.Challenge.cw_cotide_k05_charts_judged_holds : PySem.Challenge.rw_cotide_k05_charts_judged.Holds := by
  w_on; o_law; k_head; (case hw => w_witness2)
  k_fill
  refine L2.walk_of (l := PySem.Challenge.rw_cotide_k05_charts_judged) (n := 63) (k := 9) (x := "_law_script") (CX := fun _ => L2.CX0) (sp := fun w => C_k05.sp_law _) rfl (by decide) rfl ⟨rfl, by decide, by decide⟩ (fun w h Y => PySem.W.kIn_of Y) ?F (fun _ _ a ns hl _ hS => ⟨a, ns, rfl, hS, hl, fun _ => rfl⟩) (fun _ _ _ _ _ h => h)
  case F =>
    intro w mg fa h KX G hmg
    refine' C_k05.all_mk KX G hmg ?a0 ?l0 ?c0 ?k0 ?a1 ?l1 ?c1 ?k1 ?a2 ?l2 ?c2 ?k2 ?a3 ?l3 ?c3 ?k3 ?a4 ?l4 ?c4 ?k4 ?a5 ?l5 ?c5 ?k5 ?a6 ?l6 ?c6 ?k6 ?a7 ?l7 ?c7 ?k7 ?a8 ?l8 ?c8 ?k8 ?a9 ?l9 ?c9 ?k9 ?a10 ?l10 ?c10 ?k10 ?a11 ?l11 ?c11 ?k11 ?a12 ?l12 ?c12 ?k12 ?a13 ?l13 ?c13 ?k13 ?a14 ?l14 ?c14 ?k14 ?a15 ?l15 ?c15 ?k15 ?a16 ?l16 ?c16 ?k16 ?q0 ?q1 ?q2 ?q3 ?z0 ?z1 ?z2 ?z3 ?z4 ?z5 ?z6 ?z7 ?z8 ?z9
    (case a0 => k_is); (case l0 => k_is); (case c0 => k_is); (case k0 => k_is); (case a1 => k_is); (case l1 => k_is); (case c1 => k_is); (case k1 => k_is); (case a2 => k_is); (case l2 => k_is); (case c2 => k_is); (case k2 => k_is); (case a3 => k_is); (case l3 => k_is); (case c3 => k_is); (case k3 => k_is); (case a4 => k_is); (case l4 => k_is); (case c4 => k_is); (case k4 => k_is); (case a5 => k_is); (case l5 => k_is); (case c5 => k_is); (case k5 => k_is); (case a6 => k_is); (case l6 => k_is); (case c6 => k_is); (case k6 => k_is); (case a7 => k_is); (case l7 => k_is); (case c7 => k_is); (case k7 => k_is); (case a8 => k_is); (case l8 => k_is); (case c8 => k_is); (case k8 => k_is); (case a9 => k_is); (case l9 => k_is); (case c9 => k_is); (case k9 => k_is); (case a10 => k_is); (case l10 => k_is); (case c10 => k_is); (case k10 => k_is); (case a11 => k_is); (case l11 => k_is); (case c11 => k_is); (case k11 => k_is); (case a12 => k_is); (case l12 => k_is); (case c12 => k_is); (case k12 => k_is); (case a13 => k_is); (case l13 => k_is); (case c13 => k_is); (case k13 => k_is); (case a14 => k_is); (case l14 => k_is); (case c14 => k_is); (case k14 => k_is); (case a15 => k_is); (case l15 => k_is); (case c15 => k_is); (case k15 => k_is); (case a16 => k_is); (case l16 => k_is); (case c16 => k_is); (case k16 => k_is); (case q0 => k_is); (case q1 => k_is); (case q2 => k_is); (case q3 => k_is); (case z0 => k_is); (case z1 => k_is); (case z2 => k_is); (case z3 => k_is); (case z4 => k_is); (case z5 => k_is); (case z6 => k_is); (case z7 => k_is); (case z8 => k_is); (case z9 => k_is)
