import PyProof.Rows.All
import Wide.All
import OpenK.AllK
import Wide.FinOn
import HandS.Defaults
import HandS.ForMost
import HandS.Evl
import HandS.IsInst
import HandS.Wide
import HandS.Zip
import HandS.Walk
import PySem.Challenge.RW_cotide_k02_hours_later
set_option Elab.async false
set_option linter.all false
set_option maxRecDepth 100000
set_option maxHeartbeats 4000000
set_option Elab.async false
set_option linter.all false
set_option maxRecDepth 100000
set_option maxHeartbeats 4000000
/-! Data in two heaps: Hd, what is data and stays; H, all that stands now. -/
namespace Cot
open PySem L2 Evl
section
variable {K : PySem.W.Frag} {H H' Hd Hn H1 H2 Hm : Hp}
mutual
theorem dp_mono (e : Ex H H') : ∀ (d : PyData) {v : V}, Dp K H v d → Dp K H' v d
  | .none, _, h => by cases h; exact .non
  | .bool b, _, h => by cases h; exact .bl b
  | .int i, _, h => by cases h; exact .int i
  | .str x, _, h => by cases h; exact .str x
  | .list ds, _, h => by
    cases h with
    | lst hs ha => exact .lst (ex_l e hs) (dpa_mono e ds ha)
  | .tuple ds, _, h => by
    cases h with
    | tup hs ha => exact .tup (ex_t e hs) (dpa_mono e ds ha)
  | .dict _, _, h => by cases h
theorem dpa_mono (e : Ex H H') : ∀ (ds : List PyData) {vs : List V}, DpAll K H vs ds → DpAll K H' vs ds
  | [], _, h => by cases h; exact .nil
  | d :: ds, _, h => by
    cases h with
    | cons h1 h2 => exact .cons (dp_mono e d h1) (dpa_mono e ds h2)
end
theorem dpa_len : ∀ {vs : List V} {ds : List PyData}, DpAll K H vs ds → vs.length = ds.length
  | _, [], h => by cases h; rfl
  | _, d :: ds, h => by
    cases h with
    | cons h1 h2 => rw [List.length_cons, List.length_cons, dpa_len h2]
theorem dpa_get : ∀ {ds : List PyData} {vs : List V} {i : Nat} {d : PyData}, DpAll K H vs ds → ds[i]? = some d → ∃ v, vs[i]? = some v ∧ Dp K H v d
  | [], _, i, d, h, e => by simp at e
  | d0 :: ds, _, 0, d, h, e => by
    cases h with
    | cons h1 h2 =>
      have e' : d0 = d := Option.some.inj e
      subst e'
      exact ⟨_, rfl, h1⟩
  | d0 :: ds, _, i + 1, d, h, e => by
    cases h with
    | cons h1 h2 =>
      obtain ⟨v, q1, q2⟩ := dpa_get (i := i) h2 (by simpa using e)
      exact ⟨v, by simpa using q1, q2⟩
theorem dpa_get2 : ∀ {ds : List PyData} {vs : List V} {i : Nat} {v : V}, DpAll K H vs ds → vs[i]? = some v → ∃ d, ds[i]? = some d ∧ Dp K H v d
  | [], _, i, d, h, e => by cases h; simp at e
  | d0 :: ds, _, 0, v, h, e => by
    cases h with
    | cons h1 h2 =>
      have e' := Option.some.inj e
      subst e'
      exact ⟨_, rfl, h1⟩
  | d0 :: ds, _, i + 1, v, h, e => by
    cases h with
    | cons h1 h2 =>
      obtain ⟨v, q1, q2⟩ := dpa_get2 (i := i) h2 (by simpa using e)
      exact ⟨v, by simpa using q1, q2⟩
theorem dpa_at {ds : List PyData} {vs : List V} {i : Int} {d : PyData} (h : DpAll K H vs ds) (e : atI ds i = some d) : ∃ v, atI vs i = some v ∧ Dp K H v d := by
  unfold atI at e ⊢
  rw [dpa_len h]
  cases hx : ixN ds.length i with
  | none => rw [hx] at e; cases e
  | some j =>
    rw [hx] at e
    exact dpa_get h e
theorem dpa_app : ∀ {ds es : List PyData} {vs ws : List V}, DpAll K H vs ds → DpAll K H ws es → DpAll K H (vs ++ ws) (ds ++ es)
  | [], _, _, _, h, h2 => by cases h; exact h2
  | d :: ds, es, _, ws, h, h2 => by
    cases h with
    | cons a b => exact .cons a (dpa_app b h2)
theorem dpa_take : ∀ (n : Nat) {ds : List PyData} {vs : List V}, DpAll K H vs ds → DpAll K H (vs.take n) (ds.take n)
  | 0, _, _, _ => by rw [List.take_zero, List.take_zero]; exact .nil
  | n + 1, [], _, h => by cases h; exact .nil
  | n + 1, d :: ds, _, h => by
    cases h with
    | cons a b => exact .cons a (dpa_take n b)
theorem dpa_drop : ∀ (n : Nat) {ds : List PyData} {vs : List V}, DpAll K H vs ds → DpAll K H (vs.drop n) (ds.drop n)
  | 0, _, _, h => h
  | n + 1, [], _, h => by cases h; exact .nil
  | n + 1, d :: ds, _, h => by
    cases h with
    | cons a b => exact dpa_drop n b
theorem dpa_ints : ∀ (ns : List Int), DpAll K H (ns.map V.int) (ns.map PyData.int)
  | [] => .nil
  | n :: ns => .cons (.int n) (dpa_ints ns)
theorem dpa_bools : ∀ (ns : List Bool), DpAll K H (ns.map V.bl) (ns.map PyData.bool)
  | [] => .nil
  | n :: ns => .cons (.bl n) (dpa_bools ns)
theorem dpa_ints_inv : ∀ {ns : List Int} {vs : List V}, DpAll K H vs (ns.map PyData.int) → vs = ns.map V.int
  | [], _, h => by cases h; rfl
  | n :: ns, _, h => by
    cases h with
    | cons a b =>
      cases a
      rw [dpa_ints_inv b]
      rfl
theorem dpa_bools_inv : ∀ {ns : List Bool} {vs : List V}, DpAll K H vs (ns.map PyData.bool) → vs = ns.map V.bl
  | [], _, h => by cases h; rfl
  | n :: ns, _, h => by
    cases h with
    | cons a b =>
      cases a
      rw [dpa_bools_inv b]
      rfl

/-- Hd grows to Hn by new places alone, H to H2 -/
structure Gr (Hd H Hn H2 : Hp) : Prop where
  ex : Ex H H2
  dx : Ex Hd Hn
  sub : Ex Hn H2
  fr : ∀ a o, H a = some o → Hd a = none → Hn a = none
theorem Gr.refl (s : Ex Hd H) : Gr Hd H Hd H := ⟨Ex.refl _, Ex.refl _, s, fun _ _ _ h => h⟩
theorem Gr.trans (g1 : Gr Hd H Hn H1) (g2 : Gr Hn H1 Hm H2) : Gr Hd H Hm H2 := ⟨g1.ex.trans g2.ex, g1.dx.trans g2.dx, g2.sub, fun a o ha hd => g2.fr a o (g1.ex a o ha) (g1.fr a o ha hd)⟩
theorem Gr.ext (s : Ex Hd H) (e : Ex H H2) : Gr Hd H Hd H2 := ⟨e, Ex.refl _, s.trans e, fun _ _ _ h => h⟩
theorem Gr.pre (e : Ex H H1) (g : Gr Hd H1 Hn H2) : Gr Hd H Hn H2 := ⟨e.trans g.ex, g.dx, g.sub, fun a o ha hd => g.fr a o (e a o ha) hd⟩
theorem Gr.post (g : Gr Hd H Hn H1) (e : Ex H1 H2) : Gr Hd H Hn H2 := ⟨g.ex.trans e, g.dx, g.sub.trans e, g.fr⟩
theorem ex_upd2 {p : Addr} {o : HO} (s : Ex Hd H) : Ex (upd Hd p o) (upd H p o) := fun a u h => by
  by_cases e : a = p
  · subst e
    rw [upd_same] at h ⊢
    exact h
  · rw [upd_ne e] at h ⊢
    exact s a u h
theorem Gr.new {p : Addr} {o : HO} (s : Ex Hd H) (h : H p = none) : Gr Hd H (upd Hd p o) (upd H p o) :=
  ⟨Ex.new h, Ex.new (fresh_back s h), ex_upd2 s, fun a u ha hd => by rw [upd_ne (ne_of_none ha h)]; exact hd⟩
/-- a new place that is no data -/
theorem Gr.alloc {p : Addr} {o : HO} (s : Ex Hd H) (h : H p = none) : Gr Hd H Hd (upd H p o) := Gr.ext s (Ex.new h)

def un (A B : Hp) : Hp := fun a => match A a with | some o => some o | none => B a
theorem un_l {A B : Hp} : Ex A (un A B) := fun a o h => by unfold un; rw [h]
theorem un_r {A B C : Hp} (a : Ex A C) (b : Ex B C) : Ex B (un A B) := fun x o h => by
  unfold un
  cases hA : A x with
  | none => exact h
  | some u =>
    have h1 := a x u hA
    rw [b x o h] at h1
    exact h1.symm
theorem un_sub {A B C : Hp} (a : Ex A C) (b : Ex B C) : Ex (un A B) C := fun x o h => by
  unfold un at h
  cases hA : A x with
  | none => rw [hA] at h; exact b x o h
  | some u => rw [hA] at h; exact a x o (hA.trans h)
theorem Gr.up {Hd' : Hp} (e : Ex Hd Hd') (s : Ex Hd' H) (g : Gr Hd H Hn H2) : Gr Hd' H (un Hd' Hn) H2 :=
  ⟨g.ex, un_l, un_sub (s.trans g.ex) g.sub, fun a o ha hd => by
    unfold un
    rw [hd]
    exact g.fr a o ha (fresh_back e hd)⟩
theorem Gr.upr {Hd' : Hp} (e : Ex Hd Hd') (s : Ex Hd' H) (g : Gr Hd H Hn H2) : Ex Hn (un Hd' Hn) := un_r (s.trans g.ex) g.sub

/-! ### what evaluates to which data -/
def EvD (K : PySem.W.Frag) (te : TE) (σ : L2.St) (Hd : Hp) (d : PyData) : Prop := ∀ H, Ex Hd H → ∀ Q : VK, (∀ v H2 Hn, Gr Hd H Hn H2 → Dp K Hn v d → Q v H2) → te σ H Q
def EvDA (K : PySem.W.Frag) (ta : TA) (σ : L2.St) (Hd : Hp) (ds : List PyData) : Prop := ∀ H, Ex Hd H → ∀ Q : List V → Hp → Prop, (∀ vs H2 Hn, Gr Hd H Hn H2 → DpAll K Hn vs ds → Q vs H2) → ta σ H Q
/-- a new list -/
def EvN (K : PySem.W.Frag) (te : TE) (σ : L2.St) (Hd : Hp) (ds : List PyData) : Prop := ∀ H, Ex Hd H → ∀ Q : VK, (∀ p xs H2 Hn, Gr Hd H Hn H2 → H p = none → Hn p = none → H2 p = some (.lst xs) → DpAll K Hn xs ds → Q (.ref p) H2) → te σ H Q
end
section
variable {K : PySem.W.Frag} {σ : L2.St} {H H' Hd Hd' Hn H1 H2 : Hp} {ta tb te tx : TE} {t u : TT} {x y z v : V} {r : R2} {d : PyData} {ds : List PyData} {tr : TA}
theorem EvD.mono (e : Ex Hd Hd') (h : EvD K te σ Hd d) : EvD K te σ Hd' d := fun H s Q q => h H (e.trans s) Q fun v H2 Hn g hd => q v H2 _ (g.up e s) (dp_mono (g.upr e s) d hd)
theorem EvDA.mono (e : Ex Hd Hd') (h : EvDA K tr σ Hd ds) : EvDA K tr σ Hd' ds := fun H s Q q => h H (e.trans s) Q fun v H2 Hn g hd => q v H2 _ (g.up e s) (dpa_mono (g.upr e s) ds hd)
theorem EvN.mono (e : Ex Hd Hd') (h : EvN K te σ Hd ds) : EvN K te σ Hd' ds := fun H s Q q => h H (e.trans s) Q fun p xs H2 Hn g hp hn h2 hd => q p xs H2 _ (g.up e s) hp (by
  unfold un
  rw [fresh_back s hp]
  exact hn) h2 (dpa_mono (g.upr e s) ds hd)
theorem ed_ev (h : Ev te σ Hd v) (hd : Dp K Hd v d) : EvD K te σ Hd d := fun H s Q q => h H s Q fun H2 e => q v H2 Hd (Gr.ext s e) hd
theorem ed_var {i : Nat} (h : σ[i]? = some (some v)) (hd : Dp K Hd v d) : EvD K (tVar i) σ Hd d := ed_ev (ev_var h) hd
theorem ev_int {i : Int} (h : EvD K te σ Hd (.int i)) : Ev te σ Hd (.int i) := fun H s Q q => h H s Q fun v H2 Hn g hd => by cases hd; exact q H2 g.ex
theorem ev_bool {i : Bool} (h : EvD K te σ Hd (.bool i)) : Ev te σ Hd (.bl i) := fun H s Q q => h H s Q fun v H2 Hn g hd => by cases hd; exact q H2 g.ex
theorem ev_str {i : Str} (h : EvD K te σ Hd (.str i)) : Ev te σ Hd (.str i) := fun H s Q q => h H s Q fun v H2 Hn g hd => by cases hd; exact q H2 g.ex
theorem ev_none (h : EvD K te σ Hd .none) : Ev te σ Hd .non := fun H s Q q => h H s Q fun v H2 Hn g hd => by cases hd; exact q H2 g.ex
theorem ed_int {i : Int} (h : Ev te σ Hd (.int i)) : EvD K te σ Hd (.int i) := ed_ev h (.int i)
theorem ed_bool {i : Bool} (h : Ev te σ Hd (.bl i)) : EvD K te σ Hd (.bool i) := ed_ev h (.bl i)
theorem ed_str {i : Str} (h : Ev te σ Hd (.str i)) : EvD K te σ Hd (.str i) := ed_ev h (.str i)
theorem ed_non (h : Ev te σ Hd .non) : EvD K te σ Hd .none := ed_ev h .non
theorem eda_nil : EvDA K tNil σ Hd [] := fun H s _ q => q [] H Hd (Gr.refl s) .nil
theorem eda_cons (h : EvD K ta σ Hd d) (hr : EvDA K tr σ Hd ds) : EvDA K (tCons ta tr) σ Hd (d :: ds) := fun H s _ q =>
  h H s _ fun v H1 Hn g hd => hr.mono g.dx H1 g.sub _ fun vs H2 Hm g2 hds => q (v :: vs) H2 Hm (g.trans g2) (.cons (dp_mono g2.dx d hd) hds)
theorem ed_tup (h : EvDA K tr σ Hd ds) (hl : ds.length ≤ 100000) : EvD K (tTup tr) σ Hd (.tuple ds) := fun H s _ q =>
  h H s _ fun vs H1 Hn g hd => ⟨sz_of (by rw [dpa_len hd]; exact hl), fun p hp => q (.ref p) _ _ (g.trans (Gr.new g.sub hp)) (.tup (st_of upd_same) (dpa_mono (Ex.new (fresh_back g.sub hp)) ds hd))⟩
theorem en_lst (h : EvDA K tr σ Hd ds) (hl : ds.length ≤ 100000) : EvN K (tLst tr) σ Hd ds := fun H s _ q =>
  h H s _ fun vs H1 Hn g hd => ⟨sz_of (by rw [dpa_len hd]; exact hl), fun p hp => q p vs _ Hn (g.trans (Gr.alloc g.sub hp)) (fresh_back g.ex hp) (fresh_back g.sub hp) upd_same hd⟩
theorem ed_new (h : EvN K te σ Hd ds) : EvD K te σ Hd (.list ds) := fun H s _ q =>
  h H s _ fun p xs H2 Hn g hp hn h2 hd => q (.ref p) H2 (upd Hn p (.lst xs)) ⟨g.ex, g.dx.trans (Ex.new hn), fun a o ha => by
    by_cases e : a = p
    · subst e
      rw [upd_same] at ha
      exact h2.trans ha
    · rw [upd_ne e] at ha
      exact g.sub a o ha, fun a o ha hda => by
    rw [upd_ne (ne_of_none ha hp)]
    exact g.fr a o ha hda⟩ (.lst (sq_of upd_same) (dpa_mono (Ex.new hn) ds hd))
theorem ed_ixT {i : Int} (ha : EvD K ta σ Hd (.tuple ds)) (hi : Ev tb σ Hd (.int i)) (he : atI ds i = some d) : EvD K (tOp (rIxT K) ta tb) σ Hd d := fun H s Q q =>
  ha H s _ fun v H1 Hn g hd => hi.mono g.dx H1 g.sub _ fun H2 e2 => by
    cases hd with
    | @tup p xs ds hs hall =>
      obtain ⟨w, h1, h2⟩ := dpa_at hall he
      exact ⟨p, xs, i, w, rfl, rfl, ex_t (g.sub.trans e2) hs, h1, q w H2 Hn (g.post e2) h2⟩
theorem ed_ixL {i : Int} (ha : EvD K ta σ Hd (.list ds)) (hi : Ev tb σ Hd (.int i)) (he : atI ds i = some d) : EvD K (tOp (rIxL K) ta tb) σ Hd d := fun H s Q q =>
  ha H s _ fun v H1 Hn g hd => hi.mono g.dx H1 g.sub _ fun H2 e2 => by
    cases hd with
    | @lst p xs ds hs hall =>
      obtain ⟨w, h1, h2⟩ := dpa_at hall he
      exact ⟨p, xs, i, w, rfl, rfl, ex_l (g.sub.trans e2) hs, h1, q w H2 Hn (g.post e2) h2⟩
theorem ev_lenT (ha : EvD K ta σ Hd (.tuple ds)) : Ev (tCB (rLenS K) (tCons ta tNil)) σ Hd (.int (ds.length : Int)) := fun H s Q q =>
  ha H s _ fun v H1 Hn g hd => by
    cases hd with
    | @tup p xs ds hs hall => exact ⟨p, xs, rfl, Or.inr (ex_t g.sub hs), by rw [dpa_len hall]; exact q H1 g.ex⟩
theorem ev_lenL (ha : EvD K ta σ Hd (.list ds)) : Ev (tCB (rLenS K) (tCons ta tNil)) σ Hd (.int (ds.length : Int)) := fun H s Q q =>
  ha H s _ fun v H1 Hn g hd => by
    cases hd with
    | @lst p xs ds hs hall => exact ⟨p, xs, rfl, Or.inl (ex_l g.sub hs), by rw [dpa_len hall]; exact q H1 g.ex⟩

/-! ### promises: a pure def, by a relation of its data -/
def spF (K : PySem.W.Frag) (R : List PyData → PyData → Prop) : Sp := fun vs H Q _ => ∃ Hd ds d, Ex Hd H ∧ DpAll K Hd vs ds ∧ R ds d ∧ ∀ v H2 Hn, Gr Hd H Hn H2 → Dp K Hn v d → Q v H2
/-- the answer is a new list -/
def spN (K : PySem.W.Frag) (R : List PyData → List PyData → Prop) : Sp := fun vs H Q _ => ∃ Hd ds es, Ex Hd H ∧ DpAll K Hd vs ds ∧ R ds es ∧ ∀ p xs H2 Hn, Gr Hd H Hn H2 → H p = none → Hn p = none → H2 p = some (.lst xs) → DpAll K Hn xs es → Q (.ref p) H2
theorem ed_call {R : List PyData → PyData → Prop} {E : XK} (h : EvDA K tr σ Hd ds) (hr : R ds d) : EvD K (tCall (spF K R) [] E tr) σ Hd d := fun H s Q q =>
  h H s _ fun vs H2 Hn g hd => ⟨Hn, ds, d, g.sub, by rw [List.append_nil]; exact hd, hr, fun v H3 Hm g2 hv => q v H3 Hm (g.trans g2) hv⟩
theorem en_call {R : List PyData → List PyData → Prop} {es : List PyData} {E : XK} (h : EvDA K tr σ Hd ds) (hr : R ds es) : EvN K (tCall (spN K R) [] E tr) σ Hd es := fun H s Q q =>
  h H s _ fun vs H2 Hn g hd => ⟨Hn, ds, es, g.sub, by rw [List.append_nil]; exact hd, hr, fun p xs H3 Hm g2 hp hm h3 hv => q p xs H3 Hm (g.trans g2) (fresh_back g.ex hp) hm h3 hv⟩

/-! ### statements -/
variable {D : Ends} {tu tw tz : TS} {g : TG} {i : Nat}
def Go (t : TS) (D : Ends) (σ : L2.St) (H : Hp) : Prop := ∀ H2, Ex H H2 → t D σ H2
theorem Go.go (h : Go tz D σ H) : tz D σ H := h H (Ex.refl H)
theorem go_asg (h : Ev te σ H v) (k : Go tz D (σ.set i (some v)) H) : Go (tSeq (tAsg te (gName i)) tz) D σ H := fun H1 e1 => h H1 e1 _ fun H2 e2 => k H2 (e1.trans e2)
theorem go_asgD (s : Ex Hd H) (h : EvD K te σ Hd d) (k : ∀ v H' Hn, Gr Hd H Hn H' → Dp K Hn v d → Go tz D (σ.set i (some v)) H') : Go (tSeq (tAsg te (gName i)) tz) D σ H := fun H1 e1 =>
  h H1 (s.trans e1) _ fun v H2 Hn g hd => k v H2 Hn (g.pre e1) hd H2 (Ex.refl _)
theorem go_asgN (s : Ex Hd H) (h : EvN K te σ Hd ds) (k : ∀ p xs H' Hn, Gr Hd H Hn H' → H p = none → Hn p = none → H' p = some (.lst xs) → DpAll K Hn xs ds → Go tz D (σ.set i (some (.ref p))) H') : Go (tSeq (tAsg te (gName i)) tz) D σ H := fun H1 e1 =>
  h H1 (s.trans e1) _ fun p xs H2 Hn g hp hn h2 hd => k p xs H2 Hn (g.pre e1) (fresh_back e1 hp) hn h2 hd H2 (Ex.refl _)
theorem go_if {b : Bool} (h : EvT t σ H b) (h1 : b = true → Go tu { D with nx := tz D } σ H) (h2 : b = false → Go tw { D with nx := tz D } σ H) : Go (tSeq (tIfS t tu tw) tz) D σ H := fun H1 e1 => h H1 e1 _ fun H2 e2 => by
  cases b with
  | true =>
    show tu { D with nx := tz D } σ H2
    exact h1 rfl H2 (e1.trans e2)
  | false =>
    show tw { D with nx := tz D } σ H2
    exact h2 rfl H2 (e1.trans e2)
theorem go_when {b : Bool} (h : EvT t σ H b) (h1 : b = true → Go tu { D with nx := tz D } σ H) (h2 : b = false → Go tz D σ H) : Go (tSeq (tIfS t tu tNext) tz) D σ H := go_if h h1 h2
theorem go_next (k : ∀ H', Ex H H' → D.nx σ H') : Go tNext D σ H := k
theorem go_ret (s : Ex Hd H) (h : EvD K te σ Hd d) (k : ∀ v H' Hn, Gr Hd H Hn H' → Dp K Hn v d → D.rt v H') : Go (tSeq (tRet te) tz) D σ H := fun H1 e1 => h H1 (s.trans e1) _ fun v H2 Hn g hd => k v H2 Hn (g.pre e1) hd
theorem go_retN (s : Ex Hd H) (h : EvN K te σ Hd ds) (k : ∀ p xs H' Hn, Gr Hd H Hn H' → H p = none → Hn p = none → H' p = some (.lst xs) → DpAll K Hn xs ds → D.rt (.ref p) H') : Go (tSeq (tRet te) tz) D σ H := fun H1 e1 => h H1 (s.trans e1) _ fun p xs H2 Hn g hp hn h2 hd => k p xs H2 Hn (g.pre e1) (fresh_back e1 hp) hn h2 hd
theorem go_retV (h : Ev te σ H v) (k : ∀ H', Ex H H' → D.rt v H') : Go (tSeq (tRet te) tz) D σ H := fun H1 e1 => h H1 e1 _ fun H2 e2 => k H2 (e1.trans e2)
theorem go_drop (h : Ev te σ H v) (k : Go tz D σ H) : Go (tSeq (tDrop te) tz) D σ H := fun H1 e1 => h H1 e1 _ fun H2 e2 => k H2 (e1.trans e2)
theorem Go.mono (e : Ex H H') (h : Go tz D σ H) : Go tz D σ H' := fun H2 e2 => h H2 (e.trans e2)
/-- a chain of two comparisons of ints -/
theorem ev_chain {r' : R2} {tc : TE} {k : Bool} (ha : Ev ta σ H x) (hb : Ev tb σ H y) (hr : RV r x y H (.bl k)) (hc : k = true → Ev tc σ H z) (hr' : k = true → RV r' y z H v) (hv : k = false → v = .bl false) : Ev (tChain r r' ta tb tc) σ H v := fun H1 e1 Q q =>
  ha H1 e1 _ fun H2 e2 => hb H2 (e1.trans e2) _ fun H3 e3 => hr H3 ((e1.trans e2).trans e3) _ fun H4 e4 => ⟨k, rfl, by
    cases k with
    | true =>
      show tc σ H4 fun w' H5 => r' y w' H5 Q
      exact hc rfl H4 (((e1.trans e2).trans e3).trans e4) _ fun H5 e5 => hr' rfl H5 ((((e1.trans e2).trans e3).trans e4).trans e5) _ fun H6 e6 => q H6 ((((e2.trans e3).trans e4).trans e5).trans e6)
    | false =>
      show Q (.bl false) H4
      rw [← hv rfl]
      exact q H4 ((e2.trans e3).trans e4)⟩
end
end Cot
namespace Cot
open PySem L2 Evl
/-! ### defs of scalars -/
def spS (R : List V → V → Prop) : Sp := fun vs H Q _ => ∃ v, R vs v ∧ ∀ H2, Ex H H2 → Q v H2
section
variable {K : PySem.W.Frag} {σ : L2.St} {H H' Hd Hd' Hn H1 H2 : Hp} {ta tb tc te tx : TE} {t u : TT} {x y z v v' : V} {r r' : R2} {d : PyData} {ds : List PyData} {tr : TA} {D : Ends} {tu tw tz : TS} {g : TG} {i : Nat}
theorem ev_callS {R : List V → V → Prop} {vs : List V} {E : XK} (h : EvA tr σ H vs) (hr : R vs v) : Ev (tCall (spS R) [] E tr) σ H v := fun H1 e Q q =>
  h H1 e _ fun H2 e2 => ⟨v, by rw [List.append_nil]; exact hr, fun H3 e3 => q H3 (e2.trans e3)⟩
theorem go_retE (h : Ev te σ H v') (e : v' = v) (k : ∀ H', Ex H H' → D.rt v H') : Go (tSeq (tRet te) tz) D σ H := go_retV (by rw [← e]; exact h) k
theorem ev_chainB {k k' : Bool} (ha : Ev ta σ H x) (hb : Ev tb σ H y) (hr : RV r x y H (.bl k)) (hc : Ev tc σ H z) (hr' : RV r' y z H (.bl k')) : Ev (tChain r r' ta tb tc) σ H (.bl (k && k')) :=
  ev_chain ha hb hr (fun _ => hc) (fun e => by subst e; exact hr') (fun e => by subst e; rfl)
theorem ev_ifB {b : Bool} (h : EvT t σ H b) (h1 : Ev ta σ H x) (h2 : Ev tb σ H y) : Ev (tIf t ta tb) σ H (if b = true then x else y) := by
  refine ev_if h (fun e => ?_) (fun e => ?_)
  · rw [if_pos e]; exact h1
  · rw [if_neg (by rw [e]; decide)]; exact h2
theorem et_andB {a b : Bool} (h1 : EvT t σ H a) (h2 : EvT u σ H b) : EvT (tAnd t u) σ H (a && b) := et_and h1 fun _ => h2
theorem et_orB {a b : Bool} (h1 : EvT t σ H a) (h2 : EvT u σ H b) : EvT (tOr t u) σ H (a || b) := et_or h1 fun _ => h2
theorem ev_andB {a b : Bool} (h1 : Ev ta σ H (.bl a)) (h2 : Ev tb σ H (.bl b)) : Ev (tAndV ta tb) σ H (.bl (a && b)) := ev_andV h1 fun _ => h2
theorem ev_orB {a b : Bool} (h1 : Ev ta σ H (.bl a)) (h2 : Ev tb σ H (.bl b)) : Ev (tOrV ta tb) σ H (.bl (a || b)) := ev_orV h1 fun _ => h2
theorem rv_isN : RV (fun x y H Q => y = .non ∧ Q (.bl (decide (x = .non))) H) x .non H (.bl (decide (x = .non))) := fun H1 _ _ q => ⟨rfl, q H1 (Ex.refl H1)⟩
end
end Cot

set_option Elab.async false
set_option linter.all false
set_option maxRecDepth 100000
set_option maxHeartbeats 4000000
/-! A box of draws: a list that changes; all else grows. -/
namespace Cot
open PySem L2 Evl
section
variable {K : PySem.W.Frag} {X : Cx}
theorem call_lenQ : CallR X (.builtin "len") (rLenS X.K) := call_len_seq
theorem call_listQ : CallR X (.type "list") (rListS X.K) := call_list_of
def BoxL (xs : List V) (ca : Addr) : Prop := ∃ pos rest turn seed : Int, xs = [.ref ca, .int pos, .int rest, .int turn, .int seed] ∧ 0 ≤ pos
def Bx (H : Hp) (b : Addr) : Prop := ∃ (ca : Addr) (cells : List Int) (xs : List V), H b = some (.lst xs) ∧ BoxL xs ca ∧ H ca = some (.lst (cells.map V.int)) ∧ cells.length ≤ 63
theorem Bx.mono {H H' : Hp} {b : Addr} (e : Ex H H') (B : Bx H b) : Bx H' b := by
  obtain ⟨ca, cells, xs, h1, h2, h3, h4⟩ := B
  exact ⟨ca, cells, xs, e _ _ h1, h2, e _ _ h3, h4⟩
theorem Bx.some {H : Hp} {b : Addr} (B : Bx H b) : ∃ o, H b = Option.some o := by
  obtain ⟨ca, cells, xs, h1, h2, h3, h4⟩ := B
  exact ⟨_, h1⟩
structure GrB (b : Addr) (Hd H Hn H2 : Hp) : Prop where
  exb : ∀ a o, a ≠ b → H a = some o → H2 a = some o
  dx : Ex Hd Hn
  sub : Ex Hn H2
  fr : ∀ a o, H a = some o → Hd a = none → Hn a = none
  bx : Bx H2 b
variable {b : Addr} {H H' Hd Hd' Hn H1 H2 Hm : Hp}
theorem GrB.bn (g : GrB b Hd H Hn H2) (hb : Hd b = none) (B : Bx H b) : Hn b = none := by
  obtain ⟨o, h⟩ := B.some
  exact g.fr b o h hb
theorem GrB.of (g : Gr Hd H Hn H2) (B : Bx H b) : GrB b Hd H Hn H2 := ⟨fun a o _ h => g.ex a o h, g.dx, g.sub, g.fr, B.mono g.ex⟩
theorem GrB.trans (g1 : GrB b Hd H Hn H1) (g2 : GrB b Hn H1 Hm H2) (hb : Hd b = none) (B : Bx H b) : GrB b Hd H Hm H2 :=
  ⟨fun a o n h => g2.exb a o n (g1.exb a o n h), g1.dx.trans g2.dx, g2.sub, fun a o h hd => by
    by_cases e : a = b
    · subst e
      exact g2.bn (g1.bn hb B) g1.bx
    · exact g2.fr a o (g1.exb a o e h) (g1.fr a o h hd), g2.bx⟩
theorem GrB.pre (e : Ex H H1) (g : GrB b Hd H1 Hn H2) : GrB b Hd H Hn H2 := ⟨fun a o n h => g.exb a o n (e a o h), g.dx, g.sub, fun a o ha hd => g.fr a o (e a o ha) hd, g.bx⟩
theorem GrB.up (e : Ex Hd Hd') (s : Ex Hd' H) (hb : Hd' b = none) (g : GrB b Hd H Hn H2) : GrB b Hd' H (un Hd' Hn) H2 ∧ Ex Hn (un Hd' Hn) := by
  have s2 : Ex Hd' H2 := fun a o h => g.exb a o (ne_of_none h hb) (s a o h)
  exact ⟨⟨g.exb, un_l, un_sub s2 g.sub, fun a o ha hd => by
    unfold un
    rw [hd]
    exact g.fr a o ha (fresh_back e hd), g.bx⟩, un_r s2 g.sub⟩
def EvB (K : PySem.W.Frag) (b : Addr) (te : TE) (σ : L2.St) (Hd : Hp) (P : PyData → Prop) : Prop := Hd b = none → ∀ H, Ex Hd H → Bx H b → ∀ Q : VK, (∀ v H2 Hn d, GrB b Hd H Hn H2 → Dp K Hn v d → P d → Q v H2) → te σ H Q
def EvBA (K : PySem.W.Frag) (b : Addr) (ta : TA) (σ : L2.St) (Hd : Hp) (P : List PyData → Prop) : Prop := Hd b = none → ∀ H, Ex Hd H → Bx H b → ∀ Q : List V → Hp → Prop, (∀ vs H2 Hn ds, GrB b Hd H Hn H2 → DpAll K Hn vs ds → P ds → Q vs H2) → ta σ H Q
def isI (p : Int → Prop) (d : PyData) : Prop := ∃ i, d = .int i ∧ p i
/-- a def that draws: its first argument the box -/
def spB (K : PySem.W.Frag) (Pre : List PyData → Prop) (P : List PyData → PyData → Prop) : Sp := fun vs H Q _ => ∃ b ws Hd ds, vs = .ref b :: ws ∧ Hd b = none ∧ Ex Hd H ∧ Bx H b ∧ DpAll K Hd ws ds ∧ Pre ds ∧ ∀ v H2 Hn d, GrB b Hd H Hn H2 → Dp K Hn v d → P ds d → Q v H2
variable {σ : L2.St} {ta tb tc te tx : TE} {t u : TT} {x y z v v' : V} {r r' : R2} {d : PyData} {ds : List PyData} {tr : TA} {D : Ends} {tu tw tz : TS} {i : Nat} {P P' : PyData → Prop} {Ps : List PyData → Prop} {p p' : Int → Prop}
theorem EvB.mono (e : Ex Hd Hd') (h : EvB K b te σ Hd P) : EvB K b te σ Hd' P := fun hb H s B Q q => h (fresh_back e hb) H (e.trans s) B Q fun v H2 Hn d g hd hp =>
  q v H2 _ d (g.up e s hb).1 (dp_mono (g.up e s hb).2 d hd) hp
theorem EvBA.mono (e : Ex Hd Hd') (h : EvBA K b tr σ Hd Ps) : EvBA K b tr σ Hd' Ps := fun hb H s B Q q => h (fresh_back e hb) H (e.trans s) B Q fun v H2 Hn d g hd hp =>
  q v H2 _ d (g.up e s hb).1 (dpa_mono (g.up e s hb).2 d hd) hp
theorem EvB.imp (h : EvB K b te σ Hd P) (k : ∀ d, P d → P' d) : EvB K b te σ Hd P' := fun hb H s B Q q => h hb H s B Q fun v H2 Hn d g hd hp => q v H2 Hn d g hd (k d hp)
theorem eb_ed (h : EvD K te σ Hd d) : EvB K b te σ Hd (fun d' => d' = d) := fun hb H s B Q q => h H s Q fun v H2 Hn g hd => q v H2 Hn d (GrB.of g B) hd rfl
theorem eb_ev {n : Int} (h : Ev te σ Hd (.int n)) : EvB K b te σ Hd (isI fun m => m = n) := (eb_ed (ed_int h)).imp fun d e => ⟨n, e, rfl⟩
theorem eba_nil : EvBA K b tNil σ Hd (fun ds => ds = []) := fun hb H s B Q q => q [] H Hd [] (GrB.of (Gr.refl s) B) .nil rfl
theorem eba_cons (h : EvB K b ta σ Hd P) (hr : EvBA K b tr σ Hd Ps) : EvBA K b (tCons ta tr) σ Hd (fun ds => ∃ d es, ds = d :: es ∧ P d ∧ Ps es) := fun hb H s B Q q =>
  h hb H s B _ fun v H1 Hn d g hd hp => hr.mono g.dx (g.bn hb B) H1 g.sub g.bx _ fun vs H2 Hm es g2 hes hps => q (v :: vs) H2 Hm (d :: es) (g.trans g2 hb B) (.cons (dp_mono g2.dx d hd) hes) ⟨d, es, rfl, hp, hps⟩
theorem eb_call {Pre : List PyData → Prop} {R : List PyData → PyData → Prop} {E : XK} (ha : Ev ta σ Hd (.ref b)) (h : EvBA K b tr σ Hd Ps) (hp : ∀ ds, Ps ds → Pre ds) : EvB K b (tCall (spB K Pre R) [] E (tCons ta tr)) σ Hd (fun d => ∃ ds, Ps ds ∧ R ds d) := fun hb H s B Q q =>
  ha H s _ fun H1 e1 => h hb H1 (s.trans e1) (B.mono e1) _ fun vs H2 Hn ds g hds hps => ⟨b, vs, Hn, ds, by rw [List.append_nil], g.bn hb (B.mono e1), g.sub, g.bx, hds, hp ds hps, fun v H3 Hm d g2 hd hR =>
    q v H3 Hm d ((g.trans g2 hb (B.mono e1)).pre e1) hd ⟨ds, hps, hR⟩⟩
theorem eb_opI {gg : Int → Int → V} {f : Int → Int → Int} (hg : ∀ i j, gg i j = .int (f i j)) {C : Int → Int → Prop} (ha : EvB K b ta σ Hd (isI p)) (hb' : EvB K b tb σ Hd (isI p')) (hc : ∀ i j, p i → p' j → C i j) : EvB K b (tOp (rI C gg) ta tb) σ Hd (isI fun k => ∃ i j, p i ∧ p' j ∧ k = f i j) := fun hb H s B Q q =>
  ha hb H s B _ fun v H1 Hn d g hd hp => hb'.mono g.dx (g.bn hb B) H1 g.sub g.bx _ fun v2 H2 Hm d2 g2 hd2 hp2 => by
    obtain ⟨i, rfl, pi⟩ := hp
    obtain ⟨j, rfl, pj⟩ := hp2
    cases hd
    cases hd2
    refine ⟨i, j, rfl, rfl, hc i j pi pj, ?_⟩
    rw [hg]
    exact q _ H2 Hm (.int (f i j)) (g.trans g2 hb B) (.int _) ⟨_, rfl, i, j, pi, pj, rfl⟩
theorem eb_opI0 {gg : Int → Int → V} {f : Int → Int → Int} (hg : ∀ i j, gg i j = .int (f i j)) (ha : EvB K b ta σ Hd (isI p)) (hb' : EvB K b tb σ Hd (isI p')) : EvB K b (tOp (rI0 gg) ta tb) σ Hd (isI fun k => ∃ i j, p i ∧ p' j ∧ k = f i j) := fun hb H s B Q q =>
  ha hb H s B _ fun v H1 Hn d g hd hp => hb'.mono g.dx (g.bn hb B) H1 g.sub g.bx _ fun v2 H2 Hm d2 g2 hd2 hp2 => by
    obtain ⟨i, rfl, pi⟩ := hp
    obtain ⟨j, rfl, pj⟩ := hp2
    cases hd
    cases hd2
    refine ⟨i, j, rfl, rfl, ?_⟩
    rw [hg]
    exact q _ H2 Hm (.int (f i j)) (g.trans g2 hb B) (.int _) ⟨_, rfl, i, j, pi, pj, rfl⟩
theorem eb_lst (h : EvBA K b tr σ Hd Ps) (hl : ∀ ds, Ps ds → ds.length ≤ 100000) : EvB K b (tLst tr) σ Hd (fun d => ∃ ds, d = .list ds ∧ Ps ds) := fun hb H s B Q q =>
  h hb H s B _ fun vs H1 Hn ds g hd hp => ⟨sz_of (by rw [dpa_len hd]; exact hl ds hp), fun a ha => q (.ref a) _ _ (.list ds) (g.trans (GrB.of (Gr.new g.sub ha) g.bx) hb B) (.lst (sq_of upd_same) (dpa_mono (Ex.new (fresh_back g.sub ha)) ds hd)) ⟨ds, rfl, hp⟩⟩
theorem eb_tup (h : EvBA K b tr σ Hd Ps) (hl : ∀ ds, Ps ds → ds.length ≤ 100000) : EvB K b (tTup tr) σ Hd (fun d => ∃ ds, d = .tuple ds ∧ Ps ds) := fun hb H s B Q q =>
  h hb H s B _ fun vs H1 Hn ds g hd hp => ⟨sz_of (by rw [dpa_len hd]; exact hl ds hp), fun a ha => q (.ref a) _ _ (.tuple ds) (g.trans (GrB.of (Gr.new g.sub ha) g.bx) hb B) (.tup (st_of upd_same) (dpa_mono (Ex.new (fresh_back g.sub ha)) ds hd)) ⟨ds, rfl, hp⟩⟩
theorem eb_ixL (ha : EvB K b ta σ Hd (fun d => ∃ ds, d = .list ds ∧ Ps ds)) (hi : EvB K b tb σ Hd (isI p)) (he : ∀ ds i, Ps ds → p i → ∃ d, atI ds i = some d) : EvB K b (tOp (rIxL K) ta tb) σ Hd (fun d => ∃ ds i, Ps ds ∧ p i ∧ atI ds i = some d) := fun hb H s B Q q =>
  ha hb H s B _ fun v H1 Hn d g hd hp => hi.mono g.dx (g.bn hb B) H1 g.sub g.bx _ fun v2 H2 Hm d2 g2 hd2 hp2 => by
    obtain ⟨ds, rfl, ps⟩ := hp
    obtain ⟨i, rfl, pi⟩ := hp2
    cases hd2
    cases dp_mono g2.dx _ hd with
    | @lst pa xs ds hs hall =>
      obtain ⟨d, hd⟩ := he ds i ps pi
      obtain ⟨w, h1, h2⟩ := dpa_at hall hd
      exact ⟨pa, xs, i, w, rfl, rfl, ex_l g2.sub hs, h1, q w H2 Hm d (g.trans g2 hb B) h2 ⟨ds, i, ps, pi, hd⟩⟩
theorem go_asgB (hb : Hd b = none) (s : Ex Hd H) (B : Bx H b) (h : EvB K b te σ Hd P) (k : ∀ v H' Hn d, GrB b Hd H Hn H' → Dp K Hn v d → P d → Go tz D (σ.set i (some v)) H') : Go (tSeq (tAsg te (gName i)) tz) D σ H := fun H1 e1 =>
  h hb H1 (s.trans e1) (B.mono e1) _ fun v H2 Hn d g hd hp => k v H2 Hn d (g.pre e1) hd hp H2 (Ex.refl _)
theorem go_retB (hb : Hd b = none) (s : Ex Hd H) (B : Bx H b) (h : EvB K b te σ Hd P) (k : ∀ v H' Hn d, GrB b Hd H Hn H' → Dp K Hn v d → P d → D.rt v H') : Go (tSeq (tRet te) tz) D σ H := fun H1 e1 =>
  h hb H1 (s.trans e1) (B.mono e1) _ fun v H2 Hn d g hd hp => k v H2 Hn d (g.pre e1) hd hp
theorem go_setL {l : Addr} {xs : List V} {j : Nat} (hl : H l = some (.lst xs)) (h : Ev te σ H v) (ho : Ev ta σ H (.ref l)) (hi : Ev tb σ H (.int (j : Int))) (hj : j < xs.length) (k : Go tz D σ (upd H l (.lst (xs.set j v)))) :
    Go (tSeq (tAsg te (gSub ta tb rSetL)) tz) D σ H := fun H1 e1 => q_setL (e1 _ _ hl) (h.mono e1) (ho.mono e1) (hi.mono e1) hj fun H2 e2 => k _ (ex_upd2 (e1.trans e2))
theorem go_app {l : Addr} {xs : List V} (hl : H l = some (.lst xs)) (ha : Ev ta σ H (.ref l)) (h : Ev te σ H v) (hz : xs.length < 100000) (k : Go tz D σ (upd H l (.lst (xs ++ [v])))) :
    Go (tSeq (tDrop (tBM K "list" rAppend ta (tCons te tNil))) tz) D σ H := fun H1 e1 => q_app (e1 _ _ hl) (ha.mono e1) (h.mono e1) hz fun H2 e2 => k _ (ex_upd2 (e1.trans e2))
end
end Cot

set_option Elab.async false
set_option linter.all false
set_option maxRecDepth 100000
set_option maxHeartbeats 4000000
/-! What is walked, and comprehensions over it. -/
namespace Cot
open PySem L2 Evl RZ
section
variable {K : PySem.W.Frag} {X : Cx} {H H' Hd Hd' Hn H1 H2 Hm : Hp} {σ : L2.St} {ta tb tc te tx tl : TE} {t u tt : TT} {x y z v v' : V} {d : PyData} {ds es : List PyData} {tr : TA} {D : Ends} {tu tw tz : TS} {i j j2 n : Nat} {wi : TI} {g : TG}
/-- what is walked: n turns; S tells the slots behind the target, by the turn and the slots ahead -/
def EvI (K : PySem.W.Frag) (wi : TI) (g : TG) (σ : L2.St) (Hd : Hp) (n : Nat) (S : Nat → L2.St → L2.St → Hp → Prop) : Prop := ∀ H, Ex Hd H → ∀ R : It → Hp → Prop,
  (∀ J H2 Hn (G : Hp → Prop) (Y : Nat → Hp → V → Hp → Prop), Gr Hd H Hn H2 → Walk J n G Y → (∀ H', Ex Hn H' → G H') →
    (∀ (i : Nat) (x : V) (H' H'' : Hp) (σ' : L2.St) (k : L2.St → Hp → Prop), i < n → Ex Hn H' → Y i H' x H'' → (∀ σ2 H3, Ex H' H3 → S i σ' σ2 Hn → k σ2 H3) → g x σ' H'' k) → R J H2) → wi σ H R
def SName (K : PySem.W.Frag) (j : Nat) (ds : List PyData) (i : Nat) (σ' σ2 : L2.St) (Hn : Hp) : Prop := ∃ v d, ds[i]? = some d ∧ Dp K Hn v d ∧ σ2 = σ'.set j (some v)
def SPair (K : PySem.W.Frag) (j j2 : Nat) (f f2 : Nat → Option PyData) (i : Nat) (σ' σ2 : L2.St) (Hn : Hp) : Prop := ∃ v v2 d d2, f i = some d ∧ f2 i = some d2 ∧ Dp K Hn v d ∧ Dp K Hn v2 d2 ∧ σ2 = (σ'.set j (some v)).set j2 (some v2)
def SInt (j : Nat) (lo : Int) (i : Nat) (σ' σ2 : L2.St) (_ : Hp) : Prop := σ2 = σ'.set j (some (.int (lo + (i : Int))))
theorem ei_list (h : EvD K tl σ Hd (.list ds)) : EvI K (iList K tl) (gName j) σ Hd ds.length (SName K j ds) := fun H s R r =>
  h H s _ fun v H2 Hn g hd => by
    cases hd with
    | @lst a xs ds hs hall =>
      refine ⟨a, rfl, ⟨xs, ex_l g.sub hs⟩, r _ H2 Hn _ _ g (by rw [← dpa_len hall]; exact walk_list) (fun H' e => ex_l e hs) fun i x H' H'' σ' k hi e y q => ?_⟩
      obtain ⟨rfl, hx⟩ := y
      obtain ⟨d, h1, h2⟩ := dpa_get2 hall hx
      exact q _ _ (Ex.refl _) ⟨x, d, h1, h2, rfl⟩
theorem ei_tup (h : EvD K tl σ Hd (.tuple ds)) : EvI K (iTup K tl) (gName j) σ Hd ds.length (SName K j ds) := fun H s R r =>
  h H s _ fun v H2 Hn g hd => by
    cases hd with
    | @tup a xs ds hs hall =>
      refine ⟨a, rfl, ⟨xs, ex_t g.sub hs⟩, r _ H2 Hn _ _ g (by rw [← dpa_len hall]; exact walk_tup) (fun H' e => ex_t e hs) fun i x H' H'' σ' k hi e y q => ?_⟩
      obtain ⟨rfl, hx⟩ := y
      obtain ⟨d, h1, h2⟩ := dpa_get2 hall hx
      exact q _ _ (Ex.refl _) ⟨x, d, h1, h2, rfl⟩
theorem ei_range1 {m : Int} (h : EvA tr σ Hd [.int m]) (hm : -100000 ≤ m ∧ m ≤ 100000) : EvI K (iRng1 tr) (gName j) σ Hd m.toNat (SInt j 0) := fun H s R r =>
  h H s _ fun H2 e2 => ⟨m, rfl, by omega, by omega, r _ H2 Hd _ _ (Gr.ext s e2) walk_range (fun _ _ => trivial) fun i x H' H'' σ' k hi e y q => by
    obtain ⟨rfl, rfl⟩ := y
    exact q _ _ (Ex.refl _) rfl⟩
theorem ei_range2 {lo m : Int} (h : EvA tr σ Hd [.int lo, .int m]) (hl : -100000 ≤ lo ∧ lo ≤ 100000) (hm : -100000 ≤ m ∧ m ≤ 100000) : EvI K (iRng2 tr) (gName j) σ Hd (m - lo).toNat (SInt j lo) := fun H s R r =>
  h H s _ fun H2 e2 => ⟨lo, m, rfl, ⟨by omega, by omega, by omega, by omega⟩, r _ H2 Hd _ _ (Gr.ext s e2) walk_range (fun _ _ => trivial) fun i x H' H'' σ' k hi e y q => by
    obtain ⟨rfl, rfl⟩ := y
    exact q _ _ (Ex.refl _) rfl⟩
/-- the target of a pair: two names -/
abbrev g2 (K : PySem.W.Frag) (j j2 : Nat) : TG := gTup K 2 (gCons (gName j) (gCons (gName j2) gNil))
theorem pair_turn {f f2 : Nat → Option V} {fd fd2 : Nat → Option PyData} {x : V} {H' H'' : Hp} {σ' : L2.St} {k : L2.St → Hp → Prop} (hf : ∀ v, f i = some v → ∃ d, fd i = some d ∧ Dp K Hn v d) (hf2 : ∀ v, f2 i = some v → ∃ d, fd2 i = some d ∧ Dp K Hn v d)
    (y : YPair f f2 i H' x H'') (q : ∀ σ2 H3, Ex H' H3 → SPair K j j2 fd fd2 i σ' σ2 Hn → k σ2 H3) : g2 K j j2 x σ' H'' k := by
  obtain ⟨T, a, b, rfl, hT, rfl, h1, h2⟩ := y
  obtain ⟨d, e1, q1⟩ := hf a h1
  obtain ⟨d2, e2, q2⟩ := hf2 b h2
  exact ⟨T, [a, b], rfl, st_of upd_same, rfl, a, [b], rfl, b, [], rfl, rfl, q _ _ (Ex.new hT) ⟨a, b, d, d2, e1, e2, q1, q2, rfl⟩⟩
theorem ei_zipL (h : EvDA K tr σ Hd [.list ds, .list es]) (hl : ds.length = es.length) : EvI K (iZipA K tr) (g2 K j j2) σ Hd ds.length (SPair K j j2 (fun i => ds[i]?) (fun i => es[i]?)) := fun H s R r =>
  h H s _ fun vs H2 Hn g hd => by
    cases hd with
    | cons h1 h2 =>
      cases h2 with
      | cons h2 h3 =>
        cases h3
        cases h1 with
        | @lst a xs ds hs hall =>
          cases h2 with
          | @lst b ys es hs2 hall2 =>
            refine ⟨a, b, xs, ys, rfl, Or.inl ⟨ex_l g.sub hs, ex_l g.sub hs2, r _ H2 Hn _ _ g (walk_zip (xs := xs) (ys := ys) (by rw [dpa_len hall, dpa_len hall2]; omega)) (fun H' e => ⟨ex_l e hs, ex_l e hs2⟩) fun i x H' H'' σ' k hi e y q => ?_⟩⟩
            exact pair_turn (fun v e => dpa_get2 hall e) (fun v e => dpa_get2 hall2 e) y q
theorem walk_zipT {a b : Addr} {xs ys : List V} {n : Nat} (hn : n = min xs.length ys.length) : Walk (ItzT K a b) n (fun H => SqT K H a xs ∧ SqT K H b ys) (YPair (fun i => xs[i]?) (fun i => ys[i]?)) := by
  subst hn
  refine ⟨fun i _ hi q => ?_, fun _ q => ⟨xs, ys, q.1, q.2, by omega⟩, fun i H v H' _ q y => ?_⟩
  · have h1 : i < xs.length := by omega
    have h2 : i < ys.length := by omega
    exact ⟨xs, ys, xs[i], ys[i], q.1, q.2, by simp [h1], by simp [h2]⟩
  · obtain ⟨T, x, z, h1, h2, h3, h4, h5⟩ := y
    exact ⟨T, x, z, h1, h2, h3, h4 xs q.1, h5 ys q.2⟩
theorem ei_zipT (h : EvDA K tr σ Hd [.tuple ds, .tuple es]) (hl : ds.length = es.length) : EvI K (iZipA K tr) (g2 K j j2) σ Hd ds.length (SPair K j j2 (fun i => ds[i]?) (fun i => es[i]?)) := fun H s R r =>
  h H s _ fun vs H2 Hn g hd => by
    cases hd with
    | cons h1 h2 =>
      cases h2 with
      | cons h2 h3 =>
        cases h3
        cases h1 with
        | @tup a xs ds hs hall =>
          cases h2 with
          | @tup b ys es hs2 hall2 =>
            refine ⟨a, b, xs, ys, rfl, Or.inr ⟨ex_t g.sub hs, ex_t g.sub hs2, r _ H2 Hn _ _ g (walk_zipT (xs := xs) (ys := ys) (by rw [dpa_len hall, dpa_len hall2]; omega)) (fun H' e => ⟨ex_t e hs, ex_t e hs2⟩) fun i x H' H'' σ' k hi e y q => ?_⟩⟩
            exact pair_turn (fun v e => dpa_get2 hall e) (fun v e => dpa_get2 hall2 e) y q
theorem ei_enum (h : EvDA K tr σ Hd [.list ds]) : EvI K (iEnum K tr) (g2 K j j2) σ Hd ds.length (SPair K j j2 (fun i => some (.int (i : Int))) (fun i => ds[i]?)) := fun H s R r =>
  h H s _ fun vs H2 Hn g hd => by
    cases hd with
    | cons h1 h2 =>
      cases h2
      cases h1 with
      | @lst a xs ds hs hall =>
        refine ⟨a, xs, rfl, ex_l g.sub hs, r _ H2 Hn _ _ g (by rw [← dpa_len hall]; exact walk_enum) (fun H' e => ex_l e hs) fun i x H' H'' σ' k hi e y q => ?_⟩
        refine pair_turn (fun v e => ?_) (fun v e => dpa_get2 hall e) y q
        cases e
        exact ⟨_, rfl, .int _⟩

/-! ### comprehensions -/
def givenD (n : Nat) (f : Nat → Bool) (v : Nat → PyData) : List PyData := ((List.range n).filter f).map v
theorem givenD_yes {f : Nat → Bool} {v : Nat → PyData} (h : f n = true) : givenD (n + 1) f v = givenD n f v ++ [v n] := by
  unfold givenD
  rw [List.range_succ, List.filter_append, List.map_append, List.filter_cons, if_pos h] <;> rfl
theorem givenD_no {f : Nat → Bool} {v : Nat → PyData} (h : f n = false) : givenD (n + 1) f v = givenD n f v := by
  unfold givenD
  rw [List.range_succ, List.filter_append, List.map_append, List.filter_cons, if_neg (by rw [h]; decide)]
  show _ ++ [] = _
  rw [List.append_nil]
theorem givenD_len (n : Nat) (f : Nat → Bool) (v : Nat → PyData) : (givenD n f v).length ≤ n := by
  unfold givenD
  rw [List.length_map]
  have h := List.length_filter_le f (List.range n)
  rw [List.length_range] at h
  exact h
theorem givenD_all (n : Nat) (v : Nat → PyData) : givenD n (fun _ => true) v = (List.range n).map v := by
  unfold givenD
  rw [List.filter_eq_self.mpr (fun _ _ => rfl)]
theorem range_get (ds : List PyData) (F : PyData → PyData) : (List.range ds.length).map (fun i => F (ds[i]?.getD .none)) = ds.map F := by
  apply List.ext_getElem
  · simp
  · intro i h1 h2
    simp at h1 h2 ⊢
    rw [List.getElem?_eq_getElem h1]
    rfl
theorem et_yes : EvT tYes σ H true := fun H1 e Q q => q H1 (Ex.refl H1)
theorem en_lc {S : Nat → L2.St → L2.St → Hp → Prop} {vs : List Nat} (h : EvI K wi g σ Hd n S) (hn : n ≤ 40000) (f : Nat → Bool) (v : Nat → PyData)
    (ht : ∀ (i : Nat) (σ2 : L2.St) (Hn : Hp), i < n → Ex Hd Hn → S i (wipe σ vs) σ2 Hn → wipe σ2 vs = wipe σ vs ∧ EvT tt σ2 Hn (f i) ∧ (f i = true → EvD K te σ2 Hn (v i))) : EvN K (tLc wi g tt te vs) σ Hd (givenD n f v) := fun H s Q q =>
  h H s _ fun J H1 Hn G Y gr w hG hY Dl hD => by
    refine lc_it w (fun i H' => i ≤ n ∧ ∃ Hm acc, Gr Hn H1 Hm H' ∧ Hm Dl = none ∧ H' Dl = some (.lst acc) ∧ DpAll K Hm acc (givenD i f v)) ⟨Nat.zero_le _, Hn, [], Gr.alloc gr.sub hD, fresh_back gr.sub hD, upd_same, .nil⟩ (fun i H' _ p => ?_) (fun i x H' H'' hi p y => ?_) (fun H' p => ?_)
    · obtain ⟨_, Hm, acc, g1, _⟩ := p
      exact hG H' (g1.dx.trans g1.sub)
    · obtain ⟨_, Hm, acc, g1, hm, h2, hac⟩ := p
      refine hY i x H' H'' _ _ hi (g1.dx.trans g1.sub) y fun σ2 H3 e3 hS => ?_
      obtain ⟨hw, hT, hE⟩ := ht i σ2 Hn hi gr.dx hS
      refine ⟨hw, hT H3 ((g1.dx.trans g1.sub).trans e3) _ fun H4 e4 => ?_⟩
      have al : acc.length < sizeLine := sz_lt (by have := givenD_len i f v; rw [dpa_len hac]; omega)
      cases hf : f i with
      | false =>
        show (i + 1 ≤ n ∧ _)
        refine ⟨hi, Hm, acc, g1.post (e3.trans e4), hm, (e3.trans e4) _ _ h2, ?_⟩
        rw [givenD_no hf]
        exact hac
      | true =>
        show te σ2 H4 _
        refine ((hE hf).mono g1.dx) H4 ((g1.sub.trans e3).trans e4) _ fun y H5 Ho g5 hy => ?_
        have h4 : H4 Dl = some (.lst acc) := (e3.trans e4) _ _ h2
        have ho : Ho Dl = none := g5.fr _ _ h4 hm
        have hD1 : H1 Dl = none := hD
        refine ⟨acc, g5.ex _ _ h4, al, hi, Ho, acc ++ [y], ⟨Ex.mut ((g1.ex.trans (e3.trans e4)).trans g5.ex) hD1, g1.dx.trans g5.dx, Ex.mut g5.sub ho, fun a o ha hd => g5.fr a o ((e3.trans e4) a o (g1.ex a o ha)) (g1.fr a o ha hd)⟩, ho, upd_same, ?_⟩
        rw [givenD_yes hf]
        exact dpa_app (dpa_mono g5.dx _ hac) (.cons hy .nil)
    · obtain ⟨_, Hm, acc, g1, hm, h2, hac⟩ := p
      exact q Dl acc H' Hm (gr.trans g1) (fresh_back gr.ex hD) hm h2 hac
theorem ev_all {bs : List Bool} (h : EvD K ta σ Hd (.list (bs.map .bool))) : Ev (tCB (rAll K) (tCons ta tNil)) σ Hd (.bl (bs.all id)) := fun H s Q q =>
  h H s _ fun v H2 Hn g hd => by
    cases hd with
    | @lst a xs ds hs hall =>
      have e := dpa_bools_inv hall
      subst e
      exact ⟨a, bs, rfl, ex_l g.sub hs, q H2 g.ex⟩
theorem ev_sum {bs : List Int} (h : EvD K ta σ Hd (.list (bs.map .int))) : Ev (tCB (rSum K) (tCons ta tNil)) σ Hd (.int bs.sum) := fun H s Q q =>
  h H s _ fun v H2 Hn g hd => by
    cases hd with
    | @lst a xs ds hs hall =>
      have e := dpa_ints_inv hall
      subst e
      exact ⟨a, bs, rfl, ex_l g.sub hs, q H2 g.ex⟩

/-! ### types of data -/
def tyN : PyData → String
  | .none => "NoneType"
  | .bool _ => "bool"
  | .int _ => "int"
  | .str _ => "str"
  | .list _ => "list"
  | .tuple _ => "tuple"
  | .dict _ => "dict"
theorem dp_ty (h : Dp K H v d) : TyX K H v (.type (tyN d)) := by
  cases h with
  | non => exact .base .non
  | bl b => exact .base (.bl b)
  | int i => exact .base (.int i)
  | str z => exact .base (.str z)
  | lst hs _ =>
    rcases hs with (h | ⟨o, h⟩) | ⟨o, its, n, h1, h2, _⟩
    · exact .base (.lst h)
    · exact .base (.frz h)
    · exact .kList h1 h2
  | tup hs _ =>
    rcases hs with (h | ⟨o, h⟩) | ⟨o, its, n, h1, h2, _⟩
    · exact .base (.tup h)
    · exact .fTuple h
    · exact .kTuple h1 h2
theorem ev_isi {T : String} {b : Bool} (ha : EvD K ta σ Hd d) (k : kitB (tyN d) T = some b) : Ev (tCB (rIsi K) (tCons ta (tCons (tC (.ty T)) tNil))) σ Hd (.bl b) := fun H s Q q =>
  ha H s _ fun v H2 Hn g hd => ⟨v, .ty T, _, _, b, rfl, .ty T, dp_ty (dp_mono g.sub _ hd), kit_ty k, q H2 g.ex⟩
theorem ev_isiT2 {T T2 : String} {b b2 : Bool} (ha : EvD K ta σ Hd d) (k : kitB (tyN d) T = some b) (k2 : kitB (tyN d) T2 = some b2) : Ev (tCB (rIsiT K) (tCons ta (tCons (tTup (tCons (tC (.ty T)) (tCons (tC (.ty T2)) tNil))) tNil))) σ Hd (.bl (b || b2)) := fun H s Q q =>
  ha H s _ fun v H2 Hn g hd => ⟨by show 2 ≤ sizeLine; decide, fun p hp => ⟨v, p, [.ty T, .ty T2], _, [.type T, .type T2], b || b2, rfl, upd_same, .cons (.ty T) (.cons (.ty T2) .nil), dp_ty (dp_mono (g.sub.trans (Ex.new hp)) _ hd), by
    refine kitAny_cons (kit_ty k) (fun e => kitAny_cons (kit_ty k2) (fun e2 => ?_) (fun e2 => ?_)) (fun e => ?_)
    · rw [e, e2]; rfl
    · rw [e2, Bool.or_true]
    · rw [e]; rfl, q _ (g.ex.trans (Ex.new hp))⟩⟩
theorem ev_eqD {e : PyData} (ha : EvD K ta σ Hd d) (hb : EvD K tb σ Hd e) (hd : SeqAt.shaped d = true) (he : SeqAt.shaped e = true) : Ev (tOp (rEqD K) ta tb) σ Hd (.bl (PyData.eqv d e)) := fun H s Q q =>
  ha H s _ fun v H2 Hn g h1 => hb.mono g.dx H2 g.sub _ fun v2 H3 Hm g2 h2 => ⟨d, e, dp_mono (g2.dx.trans g2.sub) _ h1, dp_mono g2.sub _ h2, hd, he, q H3 (g.ex.trans g2.ex)⟩
theorem ev_neD {e : PyData} (ha : EvD K ta σ Hd d) (hb : EvD K tb σ Hd e) (hd : SeqAt.shaped d = true) (he : SeqAt.shaped e = true) : Ev (tOp (rNeD K) ta tb) σ Hd (.bl (!PyData.eqv d e)) := fun H s Q q =>
  ha H s _ fun v H2 Hn g h1 => hb.mono g.dx H2 g.sub _ fun v2 H3 Hm g2 h2 => ⟨d, e, dp_mono (g2.dx.trans g2.sub) _ h1, dp_mono g2.sub _ h2, hd, he, q H3 (g.ex.trans g2.ex)⟩
end
end Cot

namespace Cot
open PySem L2 Evl
theorem kb_NoneType_bool : kitB "NoneType" "bool" = some false := by decide +kernel
theorem kb_NoneType_int : kitB "NoneType" "int" = some false := by decide +kernel
theorem kb_NoneType_str : kitB "NoneType" "str" = some false := by decide +kernel
theorem kb_NoneType_list : kitB "NoneType" "list" = some false := by decide +kernel
theorem kb_NoneType_tuple : kitB "NoneType" "tuple" = some false := by decide +kernel
theorem kb_bool_bool : kitB "bool" "bool" = some true := by decide +kernel
theorem kb_bool_int : kitB "bool" "int" = some true := by decide +kernel
theorem kb_bool_str : kitB "bool" "str" = some false := by decide +kernel
theorem kb_bool_list : kitB "bool" "list" = some false := by decide +kernel
theorem kb_bool_tuple : kitB "bool" "tuple" = some false := by decide +kernel
theorem kb_int_bool : kitB "int" "bool" = some false := by decide +kernel
theorem kb_int_int : kitB "int" "int" = some true := by decide +kernel
theorem kb_int_str : kitB "int" "str" = some false := by decide +kernel
theorem kb_int_list : kitB "int" "list" = some false := by decide +kernel
theorem kb_int_tuple : kitB "int" "tuple" = some false := by decide +kernel
theorem kb_str_bool : kitB "str" "bool" = some false := by decide +kernel
theorem kb_str_int : kitB "str" "int" = some false := by decide +kernel
theorem kb_str_str : kitB "str" "str" = some true := by decide +kernel
theorem kb_str_list : kitB "str" "list" = some false := by decide +kernel
theorem kb_str_tuple : kitB "str" "tuple" = some false := by decide +kernel
theorem kb_list_bool : kitB "list" "bool" = some false := by decide +kernel
theorem kb_list_int : kitB "list" "int" = some false := by decide +kernel
theorem kb_list_str : kitB "list" "str" = some false := by decide +kernel
theorem kb_list_list : kitB "list" "list" = some true := by decide +kernel
theorem kb_list_tuple : kitB "list" "tuple" = some false := by decide +kernel
theorem kb_tuple_bool : kitB "tuple" "bool" = some false := by decide +kernel
theorem kb_tuple_int : kitB "tuple" "int" = some false := by decide +kernel
theorem kb_tuple_str : kitB "tuple" "str" = some false := by decide +kernel
theorem kb_tuple_list : kitB "tuple" "list" = some false := by decide +kernel
theorem kb_tuple_tuple : kitB "tuple" "tuple" = some true := by decide +kernel
/-- data of a depth of at most n, without dicts -/
def okD : Nat → PyData → Prop
  | _, .none => True
  | _, .bool _ => True
  | _, .int _ => True
  | _, .str _ => True
  | _, .dict _ => False
  | 0, .list ds => ds = []
  | 0, .tuple ds => ds = []
  | n + 1, .list ds => ds.length ≤ 40000 ∧ ∀ e ∈ ds, okD n e
  | n + 1, .tuple ds => ds.length ≤ 40000 ∧ ∀ e ∈ ds, okD n e
def spSame (K : PySem.W.Frag) : Nat → Sp
  | 0 => fun _ _ _ _ => False
  | n + 1 => fun vs H Q _ => ∃ Hd d v1 v2, vs = [v1, v2] ∧ Ex Hd H ∧ Dp K Hd v1 d ∧ Dp K Hd v2 d ∧ okD n d ∧ ∀ H2, Ex H H2 → Q (.bl true) H2
section
variable {K : PySem.W.Frag} {X : Cx} {H H' Hd Hd' Hn H1 H2 Hm : Hp} {σ : L2.St} {ta tb tc te tx tl : TE} {t u tt : TT} {x y z v v' : V} {d : PyData} {ds es : List PyData} {tr : TA} {D : Ends} {tu tw tz : TS} {i j j2 n : Nat} {wi : TI} {g : TG}
theorem ev_same {E : XK} (h : EvDA K tr σ Hd [d, d]) (hk : okD n d) : Ev (tCall (spSame K (n + 1)) [] E tr) σ Hd (.bl true) := fun H s Q q =>
  h H s _ fun vs H2 Hn g hd => by
    cases hd with
    | cons h1 h2 =>
      cases h2 with
      | cons h2 h3 =>
        cases h3
        exact ⟨Hn, d, _, _, rfl, g.sub, h1, h2, hk, fun H3 e3 => q H3 (g.ex.trans e3)⟩
theorem go_whenT (h : EvT t σ H true) (h1 : Go tu { D with nx := tz D } σ H) : Go (tSeq (tIfS t tu tNext) tz) D σ H := go_when h (fun _ => h1) (fun e => by cases e)
theorem go_whenF (h : EvT t σ H false) (h2 : Go tz D σ H) : Go (tSeq (tIfS t tu tNext) tz) D σ H := go_when h (fun e => by cases e) (fun _ => h2)
end
end Cot
namespace Cot
open PySem L2 Evl
section
variable {K : PySem.W.Frag} {X : Cx} {H H' Hd Hd' Hn H1 H2 Hm : Hp} {σ : L2.St} {ta tb tc te tx tl : TE} {t u tt : TT} {x y z v v' : V} {d : PyData} {ds es : List PyData} {tr : TA} {D : Ends} {tu tw tz : TS} {i j j2 n : Nat} {wi : TI} {g : TG}
theorem go_for {S : Nat → L2.St → L2.St → Hp → Prop} (s : Ex Hd H) (h : EvI K wi g σ Hd n S) (Pv : Hp → Nat → L2.St → Hp → Prop) (h0 : ∀ H' Hn, Gr Hd H Hn H' → Pv Hn 0 σ H') (hE : ∀ Hn i σ' H', Pv Hn i σ' H' → Ex Hn H')
    (hs : ∀ Hn i σ' σ2 H', Ex Hd Hn → i < n → Pv Hn i σ' H' → S i σ' σ2 Hn → Go tu { D with nx := Pv Hn (i + 1), ct := Pv Hn (i + 1), bk := tz D } σ2 H')
    (hd : ∀ Hn σ' H', Ex Hd Hn → Pv Hn n σ' H' → Go tz D σ' H') : Go (tSeq (tFor wi g tu) tz) D σ H := fun H1 e1 =>
  h H1 (s.trans e1) _ fun J H2 Hn G Y gr w hG hY => by
    refine for_it w (Pv Hn) (h0 H2 Hn (gr.pre e1)) (fun i σ' H' _ p => hG H' (hE Hn i σ' H' p)) (fun i x σ' H' H'' hi p y => ?_) (fun σ' H' p => hd Hn σ' H' gr.dx p H' (Ex.refl _))
    exact hY i x H' H'' σ' _ hi (hE Hn i σ' H' p) y fun σ2 H3 e3 hS => hs Hn i σ' σ2 H' gr.dx hi p hS H3 e3
theorem eu_of (h : EvA tr σ Hd [x]) : True := trivial
end
end Cot
namespace Cot
open PySem L2 Evl
section
variable {K : PySem.W.Frag} {b : Addr} {H H' Hd Hd' Hn H1 H2 Hm : Hp} {σ : L2.St} {ta tb te : TE} {tr : TA} {n : Nat} {p : Int → Prop}
def AllP (p : Int → Prop) (n : Nat) (ds : List PyData) : Prop := ds.length = n ∧ ∀ d ∈ ds, isI p d
theorem ap_nil : EvBA K b tNil σ Hd (AllP p 0) := fun hb H s B Q q => eba_nil hb H s B Q fun vs H2 Hn ds g h e => q vs H2 Hn ds g h (by subst e; exact ⟨rfl, fun _ h => by cases h⟩)
theorem ap_cons (h : EvB K b ta σ Hd (isI p)) (hr : EvBA K b tr σ Hd (AllP p n)) : EvBA K b (tCons ta tr) σ Hd (AllP p (n + 1)) := fun hb H s B Q q => eba_cons h hr hb H s B Q fun vs H2 Hn ds g hd hp => q vs H2 Hn ds g hd (by
  obtain ⟨d, es, rfl, h1, h2, h3⟩ := hp
  refine ⟨by rw [List.length_cons, h2], fun e he => ?_⟩
  rcases List.mem_cons.mp he with rfl | he
  · exact h1
  · exact h3 e he)
theorem atI_get {α : Type} {ds : List α} {i : Int} (h0 : 0 ≤ i) (h1 : i < (ds.length : Int)) : ∃ d, atI ds i = some d ∧ d ∈ ds := by
  have h : i.toNat < ds.length := by omega
  refine ⟨ds[i.toNat], ?_, List.getElem_mem h⟩
  unfold atI ixN
  rw [if_pos h0, if_pos (by omega)]
  simp [h]
theorem eb_pick (h : EvBA K b tr σ Hd (AllP p n)) (hi : EvB K b tb σ Hd (isI fun i => 0 ≤ i ∧ i < (n : Int))) (hn : n ≤ 100000) : EvB K b (tOp (rIxL K) (tLst tr) tb) σ Hd (isI p) := by
  refine EvB.imp (eb_ixL (eb_lst h fun ds h => by rw [h.1]; exact hn) hi fun ds i h1 h2 => ?_) ?_
  · obtain ⟨d, h3, _⟩ := atI_get (ds := ds) h2.1 (by rw [h1.1]; exact h2.2)
    exact ⟨d, h3⟩
  · rintro d ⟨ds, i, h1, h2, h3⟩
    obtain ⟨d', h4, h5⟩ := atI_get (ds := ds) h2.1 (by rw [h1.1]; exact h2.2)
    rw [h3] at h4
    cases h4
    exact h1.2 d h5
theorem eb_int {q : Int → Prop} {m : Int} (h : Ev te σ Hd (.int m)) (hq : q m) : EvB K b te σ Hd (isI q) := (eb_ev h).imp fun d ⟨i, e, e2⟩ => ⟨i, e, by rw [e2]; exact hq⟩
theorem EvB.impI {p q : Int → Prop} (h : EvB K b te σ Hd (isI p)) (k : ∀ i, p i → q i) : EvB K b te σ Hd (isI q) := h.imp fun d ⟨i, e, e2⟩ => ⟨i, e, k i e2⟩
end
end Cot
namespace Cot
open PySem L2 Evl
section
variable {K : PySem.W.Frag} {b : Addr} {H H' Hd Hd' Hn H1 H2 Hm : Hp} {σ : L2.St} {ta tb te : TE} {tr : TA} {n i j : Nat} {p : Int → Prop} {Ps : List PyData → Prop} {D : Ends} {tu tz : TS} {ds : List PyData}
theorem go_forTB (hb : Hd b = none) (s : Ex Hd H) (B : Bx H b) (h : EvB K b te σ Hd (fun d => ∃ ds, d = .tuple ds ∧ Ps ds)) (Pv : List PyData → Hp → Nat → L2.St → Hp → Prop)
    (h0 : ∀ H' Hn ds, GrB b Hd H Hn H' → Ps ds → Pv ds Hn 0 σ H') (hE : ∀ ds Hn i σ' H', Pv ds Hn i σ' H' → Ex Hn H')
    (hs : ∀ ds Hn i σ' H' v d, Ps ds → Ex Hd Hn → Hn b = none → ds[i]? = some d → Dp K Hn v d → Pv ds Hn i σ' H' → Go tu { D with nx := Pv ds Hn (i + 1), ct := Pv ds Hn (i + 1), bk := tz D } (σ'.set j (some v)) H')
    (hd : ∀ ds Hn σ' H', Ps ds → Ex Hd Hn → Hn b = none → Pv ds Hn ds.length σ' H' → Go tz D σ' H') : Go (tSeq (tFor (iTup K te) (gName j) tu) tz) D σ H := fun H1 e1 =>
  h hb H1 (s.trans e1) (B.mono e1) _ fun v H2 Hn d g hdp hp => by
    obtain ⟨ds, rfl, ps⟩ := hp
    have hbn := g.bn hb (B.mono e1)
    cases hdp with
    | @tup a xs ds hx hall =>
      refine ⟨a, rfl, ⟨xs, ex_t g.sub hx⟩, for_it (n := ds.length) (G := fun H => SqT K H a xs) (Y := YAt xs) (by rw [← dpa_len hall]; exact walk_tup) (Pv ds Hn) (h0 H2 Hn ds (g.pre e1) ps) (fun i σ' H' _ p => ex_t (hE ds Hn i σ' H' p) hx) (fun i x σ' H' H'' hi p y => ?_) (fun σ' H' p => hd ds Hn σ' H' ps g.dx hbn p H' (Ex.refl _))⟩
      obtain ⟨rfl, hx⟩ := y
      obtain ⟨d, q1, q2⟩ := dpa_get2 hall hx
      exact hs ds Hn i σ' _ x d ps g.dx hbn q1 q2 p _ (Ex.refl _)
theorem dpa_rep {vs : List V} (h : DpAll K H vs ds) : ∀ k : Nat, DpAll K H (List.replicate k vs).flatten (List.replicate k ds).flatten
  | 0 => .nil
  | k + 1 => by
    rw [List.replicate_succ, List.replicate_succ, List.flatten_cons, List.flatten_cons]
    exact dpa_app h (dpa_rep h k)
theorem en_rep {k : Int} (h : EvN K ta σ Hd ds) (hk : Ev tb σ Hd (.int k)) (h0 : -1000 ≤ k ∧ k ≤ 1000) (hl : ds.length * k.toNat ≤ 100000) : EvN K (tOp rRep ta tb) σ Hd (List.replicate k.toNat ds).flatten := fun H s Q q =>
  h H s _ fun p xs H2 Hn g hp hn h2 hd => hk.mono g.dx H2 g.sub _ fun H3 e3 => ⟨p, k, xs, rfl, rfl, e3 _ _ h2, by omega, by omega, by rw [dpa_len hd]; exact sz_of hl, fun r hr => q r _ _ Hn ((g.post e3).trans (Gr.alloc (g.sub.trans e3) hr)) (fresh_back (g.ex.trans e3) hr) (fresh_back (g.sub.trans e3) hr) upd_same (dpa_rep hd _)⟩
end
end Cot
namespace Cot
open PySem L2 Evl
section
variable {K : PySem.W.Frag} {x qual : Str} {params : Arguments} {body : List Stmt} {scope : Scope} {dvs : List V} {kws : List (Str × V)} {f : Addr} {fd : FuncData} {ps : List Str}
theorem bindsAll (F : FunD K x qual params body scope dvs kws f fd) (n : Nat) (hd : dvs ≠ []) (hn : n = ps.length)
    (h : ∀ (T : Addr) (kV doc pm : Value) (an : Option Addr) (cdv ct : Value) (us its : List Value), us.length = n → its.length = dvs.length →
      ∃ k, bindArgs (PySem.W.fnOf x qual params body scope (.ref T) kV doc pm an cdv ct) ⟨us, []⟩ = seqItems? (.ref T) >>= k ∧ k (some its.toArray) = pure (ps.zip us)) : Binds K fd ps [] := by
  obtain ⟨ds, v, b⟩ := F.binds1 (ps := ps) n dvs.length hd (by omega) (fun T kV doc pm an cdv ct us its hu hi => by
    obtain ⟨k, h1, h2⟩ := h T kV doc pm an cdv ct us its hu hi
    refine ⟨k, h1, ?_⟩
    rw [List.drop_of_length_le (by omega), List.append_nil]
    exact h2)
  rw [List.drop_of_length_le (Nat.le_refl _)] at v
  cases v
  exact b
theorem bindsKw (F : FunD K x qual params body scope dvs kws f fd) {n : Nat} {ks : List Str} (hd : dvs ≠ [])
    (h : ∀ (T : Addr) (kV doc pm : Value) (an : Option Addr) (cdv ct : Value) (us ws its : List Value), us.length = n → ws.length = ks.length → its.length = dvs.length →
      ∃ k, bindArgs (PySem.W.fnOf x qual params body scope (.ref T) kV doc pm an cdv ct) ⟨us, ks.zip ws⟩ = seqItems? (.ref T) >>= k ∧ k (some its.toArray) = pure (ps.zip (us ++ ws))) :
    KBn K fd ps n ks (fun us ws => us ++ ws) (fun us ws => us ++ ws) := by
  obtain ⟨oc, od, dV, kV, doc, pm, an, cdv, ct, osl, rfl, lk, hcd, hD, hK⟩ := F.ex
  rcases hD with ⟨e, _⟩ | ⟨_, T, o, its, m, rfl, lT, oT, rT⟩
  · exact absurd e hd
  · refine ⟨fun s us ws X h1 h2 => ?_, fun r1 r2 => r1.append r2⟩
    obtain ⟨k, e1, e2⟩ := h T kV doc pm an cdv ct us ws its h1 h2 rT.length.symm
    refine BindsTo.of_looks fun M => ?_
    rw [e1]
    exact looks_items X lT oT (.of_pure e2)
end
end Cot

namespace C_k02
open PySem PySem.Spec PyProof.Rows L2 Evl Cot RZ
local macro_rules | `(tactic| walk_at "side") => `(tactic| first | decide | omega | (show (0 : Int) < _; omega) | (show (0 : Int) < _ ∧ _ < (1073741824 : Int); omega) | (exact Or.inr (by omega)) | (exact Or.inl (by omega)) | (show (0 : Int) ≤ _ ∧ _ ≤ (1000000 : Int) ∧ _; refine ⟨by decide, by decide, by decide⟩))
local macro_rules | `(tactic| walk_at "rv") => `(tactic| first
  | with_reducible exact rv_I0
  | ((with_reducible apply rv_I); walk_at "side")
  | ((with_reducible apply rv_eq); rfl)
  | ((with_reducible apply rv_ne); rfl)
  | ((with_reducible apply rv_ixL); (first | exact sq_of (by assumption) | exact sq_of upd_same); rfl)
  | with_reducible exact rv_isN)
local macro_rules | `(tactic| walk_at "ev") => `(tactic| first
  | ((with_reducible apply ev_var); rfl)
  | with_reducible exact ev_c
  | ((with_reducible apply ev_op); walk_at "ev"; walk_at "ev"; walk_at "rv")
  | ((with_reducible apply ev_un); walk_at "ev"; exact ru_neg)
  | ((with_reducible apply ev_chainB); walk_at "ev"; walk_at "ev"; walk_at "rv"; walk_at "ev"; walk_at "rv")
  | ((with_reducible apply ev_andB); walk_at "ev"; walk_at "ev")
  | ((with_reducible apply ev_orB); walk_at "ev"; walk_at "ev")
  | ((with_reducible apply ev_notV); walk_at "ev")
  | ((with_reducible apply ev_ifB); walk_at "et"; walk_at "ev"; walk_at "ev"))
local macro_rules | `(tactic| walk_at "ea") => `(tactic| first
  | with_reducible exact ea_nil
  | ((with_reducible apply ea_cons); walk_at "ev"; walk_at "ea"))
local macro_rules | `(tactic| walk_at "et") => `(tactic| first
  | ((with_reducible apply et_test); walk_at "ev")
  | ((with_reducible apply et_B); walk_at "ev")
  | ((with_reducible apply et_not); walk_at "et")
  | ((with_reducible apply et_andB); walk_at "et"; walk_at "et")
  | ((with_reducible apply et_orB); walk_at "et"; walk_at "et"))
local macro_rules | `(tactic| walk_at "kb") => `(tactic| first | exact kb_NoneType_bool | exact kb_NoneType_int | exact kb_NoneType_str | exact kb_NoneType_list | exact kb_NoneType_tuple | exact kb_bool_bool | exact kb_bool_int | exact kb_bool_str | exact kb_bool_list | exact kb_bool_tuple | exact kb_int_bool | exact kb_int_int | exact kb_int_str | exact kb_int_list | exact kb_int_tuple | exact kb_str_bool | exact kb_str_int | exact kb_str_str | exact kb_str_list | exact kb_str_tuple | exact kb_list_bool | exact kb_list_int | exact kb_list_str | exact kb_list_list | exact kb_list_tuple | exact kb_tuple_bool | exact kb_tuple_int | exact kb_tuple_str | exact kb_tuple_list | exact kb_tuple_tuple)
local macro_rules | `(tactic| walk_at "ed") => `(tactic| first
  | ((with_reducible apply ed_var); rfl; first | assumption | exact Dp.int _ | exact Dp.bl _ | exact Dp.str _ | exact Dp.non)
  | ((with_reducible apply ed_tup); walk_at "eda"; (simp only [List.length_cons, List.length_nil]; decide))
  | ((with_reducible apply ed_new); walk_at "en")
  | ((with_reducible apply ed_int); walk_at "ev")
  | ((with_reducible apply ed_bool); walk_at "ev")
  | ((with_reducible apply ed_str); walk_at "ev")
  | ((with_reducible apply ed_non); walk_at "ev"))
local macro_rules | `(tactic| walk_at "en") => `(tactic| first
  | ((with_reducible apply en_lst); walk_at "eda"; (simp only [List.length_cons, List.length_nil]; decide)))
local macro_rules | `(tactic| walk_at "eda") => `(tactic| first
  | with_reducible exact eda_nil
  | ((with_reducible apply eda_cons); walk_at "ed"; walk_at "eda"))
local macro_rules | `(tactic| walk_at "ev") => `(tactic| first
  | ((with_reducible apply ev_isi); walk_at "ed"; walk_at "kb")
  | ((with_reducible apply ev_isiT2); walk_at "ed"; walk_at "kb"; walk_at "kb")
  | ((with_reducible apply ev_eqD); walk_at "ed"; walk_at "ed"; rfl; rfl)
  | ((with_reducible apply ev_neD); walk_at "ed"; walk_at "ed"; rfl; rfl)
  | ((with_reducible apply ev_lenL); walk_at "ed")
  | ((with_reducible apply ev_lenT); walk_at "ed"))

def topS (i : Nat) : Stmt := PySem.Challenge.pw_cotide_k02_hours_later.main.body.getD i (.Pass ⟨0, 0, 0, 0⟩)
abbrev s_is_clock : Stmt := topS 7
abbrev N_is_clock : List Str := ["clock"]
theorem sc_is_clock : FnScope N_is_clock ["clock"] (defScope s_is_clock) := ⟨rfl, rfl, rfl, by decide +kernel, rfl, by decide +kernel, by decide +kernel⟩
abbrev s_need_clock : Stmt := topS 8
abbrev N_need_clock : List Str := ["clock"]
theorem sc_need_clock : FnScope N_need_clock ["clock"] (defScope s_need_clock) := ⟨rfl, rfl, rfl, by decide +kernel, rfl, by decide +kernel, by decide +kernel⟩
abbrev s_need_hours : Stmt := topS 9
abbrev N_need_hours : List Str := ["clock", "hours", "hour"]
theorem sc_need_hours : FnScope N_need_hours ["clock", "hours"] (defScope s_need_hours) := ⟨rfl, rfl, rfl, by decide +kernel, rfl, by decide +kernel, by decide +kernel⟩
abbrev s_after : Stmt := topS 10
abbrev N_after : List Str := ["clock", "hour", "by"]
theorem sc_after : FnScope N_after ["clock", "hour", "by"] (defScope s_after) := ⟨rfl, rfl, rfl, by decide +kernel, rfl, by decide +kernel, by decide +kernel⟩
abbrev s_law_box : Stmt := topS 12
abbrev N_law_box : List Str := ["_law_script", "_law_seed", "_law_cell"]
theorem sc_law_box : FnScope N_law_box ["_law_script"] (defScope s_law_box) := ⟨rfl, rfl, rfl, by decide +kernel, rfl, by decide +kernel, by decide +kernel⟩
abbrev s_law_mixed : Stmt := topS 13
abbrev N_law_mixed : List Str := ["_law_number_here", "_law_turn", "_law_base", "_law_more"]
theorem sc_law_mixed : FnScope N_law_mixed ["_law_number_here", "_law_turn"] (defScope s_law_mixed) := ⟨rfl, rfl, rfl, by decide +kernel, rfl, by decide +kernel, by decide +kernel⟩
abbrev s_law_take : Stmt := topS 14
abbrev N_law_take : List Str := ["_law_box_here", "_law_many", "_law_rest", "_law_cell"]
theorem sc_law_take : FnScope N_law_take ["_law_box_here", "_law_many"] (defScope s_law_take) := ⟨rfl, rfl, rfl, by decide +kernel, rfl, by decide +kernel, by decide +kernel⟩
abbrev s_law_whole : Stmt := topS 15
abbrev N_law_whole : List Str := ["_law_found"]
theorem sc_law_whole : FnScope N_law_whole ["_law_found"] (defScope s_law_whole) := ⟨rfl, rfl, rfl, by decide +kernel, rfl, by decide +kernel, by decide +kernel⟩
abbrev s_law_same : Stmt := topS 16
abbrev N_law_same : List Str := ["_law_found", "_law_due", "_law_one", "_law_other"]
theorem sc_law_same : FnScope N_law_same ["_law_found", "_law_due"] (defScope s_law_same) := ⟨rfl, rfl, rfl, by decide +kernel, rfl, by decide +kernel, by decide +kernel⟩
abbrev s_law_clock : Stmt := topS 17
abbrev N_law_clock : List Str := ["_law_box_here"]
theorem sc_law_clock : FnScope N_law_clock ["_law_box_here"] (defScope s_law_clock) := ⟨rfl, rfl, rfl, by decide +kernel, rfl, by decide +kernel, by decide +kernel⟩
abbrev s_law_number : Stmt := topS 18
abbrev N_law_number : List Str := ["_law_box_here"]
theorem sc_law_number : FnScope N_law_number ["_law_box_here"] (defScope s_law_number) := ⟨rfl, rfl, rfl, by decide +kernel, rfl, by decide +kernel, by decide +kernel⟩
abbrev s_law : Stmt := topS 19
abbrev N_law : List Str := ["_law_script", "_law_box_here", "_law_clock_here", "_law_hour", "_law_many"]
theorem sc_law : FnScope N_law ["_law_script"] (defScope s_law) := ⟨rfl, rfl, rfl, by decide +kernel, rfl, by decide +kernel, by decide +kernel⟩
structure Tx (K : PySem.W.Frag) (mg : Str → Option Value) where
  a_is_clock : Addr
  d_is_clock : FuncData
  F_is_clock : Fun K "is_clock" "is_clock" s_is_clock a_is_clock d_is_clock
  g_is_clock : mg "is_clock" = some (.ref a_is_clock)
  b_is_clock : Binds K d_is_clock ["clock"] []
  a_need_clock : Addr
  d_need_clock : FuncData
  F_need_clock : Fun K "need_clock" "need_clock" s_need_clock a_need_clock d_need_clock
  g_need_clock : mg "need_clock" = some (.ref a_need_clock)
  b_need_clock : Binds K d_need_clock ["clock"] []
  a_need_hours : Addr
  d_need_hours : FuncData
  F_need_hours : Fun K "need_hours" "need_hours" s_need_hours a_need_hours d_need_hours
  g_need_hours : mg "need_hours" = some (.ref a_need_hours)
  b_need_hours : Binds K d_need_hours ["clock", "hours"] []
  a_after : Addr
  d_after : FuncData
  F_after : FunD K "after" "after" (defArgs s_after) (defBody s_after) (defScope s_after) [.int (1)] [] a_after d_after
  g_after : mg "after" = some (.ref a_after)
  b_after : Binds K d_after ["clock", "hour", "by"] []
  ds_after_2 : List Value
  vd_after_2 : Vals [.int (1)] ds_after_2
  bd_after_2 : Binds K d_after ["clock", "hour", "by"] ds_after_2
  kb_after_2_by : KBn K d_after ["clock", "hour", "by"] 2 ["by"] (fun us ws => us ++ ws) (fun us ws => us ++ ws)
  a_law_box : Addr
  d_law_box : FuncData
  F_law_box : Fun K "_law_box" "_law_box" s_law_box a_law_box d_law_box
  g_law_box : mg "_law_box" = some (.ref a_law_box)
  b_law_box : Binds K d_law_box ["_law_script"] []
  a_law_mixed : Addr
  d_law_mixed : FuncData
  F_law_mixed : Fun K "_law_mixed" "_law_mixed" s_law_mixed a_law_mixed d_law_mixed
  g_law_mixed : mg "_law_mixed" = some (.ref a_law_mixed)
  b_law_mixed : Binds K d_law_mixed ["_law_number_here", "_law_turn"] []
  a_law_take : Addr
  d_law_take : FuncData
  F_law_take : Fun K "_law_take" "_law_take" s_law_take a_law_take d_law_take
  g_law_take : mg "_law_take" = some (.ref a_law_take)
  b_law_take : Binds K d_law_take ["_law_box_here", "_law_many"] []
  a_law_whole : Addr
  d_law_whole : FuncData
  F_law_whole : Fun K "_law_whole" "_law_whole" s_law_whole a_law_whole d_law_whole
  g_law_whole : mg "_law_whole" = some (.ref a_law_whole)
  b_law_whole : Binds K d_law_whole ["_law_found"] []
  a_law_same : Addr
  d_law_same : FuncData
  F_law_same : Fun K "_law_same" "_law_same" s_law_same a_law_same d_law_same
  g_law_same : mg "_law_same" = some (.ref a_law_same)
  b_law_same : Binds K d_law_same ["_law_found", "_law_due"] []
  a_law_clock : Addr
  d_law_clock : FuncData
  F_law_clock : Fun K "_law_clock" "_law_clock" s_law_clock a_law_clock d_law_clock
  g_law_clock : mg "_law_clock" = some (.ref a_law_clock)
  b_law_clock : Binds K d_law_clock ["_law_box_here"] []
  a_law_number : Addr
  d_law_number : FuncData
  F_law_number : Fun K "_law_number" "_law_number" s_law_number a_law_number d_law_number
  g_law_number : mg "_law_number" = some (.ref a_law_number)
  b_law_number : Binds K d_law_number ["_law_box_here"] []
  a_law : Addr
  d_law : FuncData
  F_law : Fun K "law" "law" s_law a_law d_law
  g_law : mg "law" = some (.ref a_law)
  b_law : Binds K d_law ["_law_script"] []
  t_LEAST_HOURS : Tok
  c_LEAST_HOURS : mg "LEAST_HOURS" = some (.int (3) t_LEAST_HOURS)
  t_MOST_HOURS : Tok
  c_MOST_HOURS : mg "MOST_HOURS" = some (.int (15) t_MOST_HOURS)
  n_all : mg "all" = none
  n_bool : mg "bool" = none
  n_int : mg "int" = none
  n_isinstance : mg "isinstance" = none
  n_len : mg "len" = none
  n_list : mg "list" = none
  n_str : mg "str" = none
  n_tuple : mg "tuple" = none
  n_zip : mg "zip" = none
section
variable {P : Program} {w : World} {K : PySem.W.Frag} {mg : Str → Option Value} {base : Heap}
/-! ### cotide.hours -/
def isClock (c : Int) : Bool := decide (3 ≤ c) && decide (c ≤ 15) && decide (c % 2 = 1)
theorem isClock_iff {c : Int} : isClock c = true ↔ 3 ≤ c ∧ c ≤ 15 ∧ c % 2 = 1 := by
  unfold isClock
  simp only [Bool.and_eq_true, decide_eq_true_eq, and_assoc]
def R_is_clock (vs : List V) (v : V) : Prop := ∃ c, vs = [.int c] ∧ v = .bl (isClock c)
theorem ok_is_clock (T : Tx K mg) : FnOk P w K mg base CX0 1 T.a_is_clock T.d_is_clock ["clock"] (spS R_is_clock) := by
  refine T.F_is_clock.ok sc_is_clock (fun vs H Q E h => ?_) (fun cdv A outer s H vs Q E hr h => ?_)
  · obtain ⟨v, ⟨c, rfl, rfl⟩, q⟩ := h
    rfl
  · obtain ⟨v, ⟨c, rfl, rfl⟩, q⟩ := h
    refine ⟨_, (pss_cons (ps_ret (pe_and (pe_chain op_le op_le (pe_glob (v := .int (3)) rfl T.c_LEAST_HOURS ⟨_, rfl⟩) (pv 0) (pe_glob (v := .int (15)) rfl T.c_MOST_HOURS ⟨_, rfl⟩)) (pe_one (pe_cmpR op_eq (pe_op op_mod (pv 0) pe_int) pe_int (nomark _)))))
      pss_nil), Go.go ?_⟩
    apply go_retE (k := q)
    · walk_at "ev"
    · unfold isClock
      simp only [V.int.injEq]
theorem ev_is_clock {σ : L2.St} {H : Hp} {E : XK} {tr : TA} {c : Int} (h : EvA tr σ H [.int c]) : Ev (tCall (spS R_is_clock) [] E tr) σ H (.bl (isClock c)) := ev_callS h ⟨c, rfl, rfl⟩
local macro_rules | `(tactic| walk_at "ev") => `(tactic| ((with_reducible apply ev_is_clock); walk_at "ea"))

def R_need_clock (vs : List V) (v : V) : Prop := ∃ c, vs = [.int c] ∧ v = .non ∧ isClock c = true
theorem ok_need_clock (T : Tx K mg) : FnOk P w K mg base CX0 2 T.a_need_clock T.d_need_clock ["clock"] (spS R_need_clock) := by
  refine T.F_need_clock.ok sc_need_clock (fun vs H Q E h => ?_) (fun cdv A outer s H vs Q E hr h => ?_)
  · obtain ⟨v, ⟨c, rfl, rfl, hc⟩, q⟩ := h
    rfl
  · obtain ⟨v, ⟨c, rfl, rfl, hc⟩, q⟩ := h
    refine ⟨_, (pss_cons (ps_if (pt_not (pt_val (pe_call (ok_is_clock T) (hr.mono (by omega)) (by rfl) T.g_is_clock T.F_is_clock.kp T.b_is_clock .nil pass0 (pa_cons (pv 0) pa_nil)))) (pss_cons ps_never
      pss_nil) pss_nil)
      pss_nil), Go.go ?_⟩
    apply go_when
    · walk_at "et"
    · intro e
      rw [hc] at e
      cases e
    · intro _
      exact go_next q
theorem ev_need_clock {σ : L2.St} {H : Hp} {E : XK} {tr : TA} {c : Int} (h : EvA tr σ H [.int c]) (hc : isClock c = true) : Ev (tCall (spS R_need_clock) [] E tr) σ H .non := ev_callS h ⟨c, rfl, rfl, hc⟩
/-- the hours at a list, all of the clock -/
def spHours (K : PySem.W.Frag) : Sp := fun vs H Q _ => ∃ (c : Int) (a : Addr) (hs : List Int), vs = [.int c, .ref a] ∧ SqL K H a (hs.map V.int) ∧ (∀ h ∈ hs, 0 ≤ h ∧ h < c) ∧ ∀ H2, Ex H H2 → Q .non H2
theorem ok_need_hours (T : Tx K mg) : FnOk P w K mg base CX0 1 T.a_need_hours T.d_need_hours ["clock", "hours"] (spHours K) := by
  refine T.F_need_hours.ok sc_need_hours (fun vs H Q E h => ?_) (fun cdv A outer s H vs Q E hr h => ?_)
  · obtain ⟨c, a, hs, rfl, _⟩ := h
    rfl
  · obtain ⟨c, a, hs, rfl, hL, hc, q⟩ := h
    refine ⟨_, (pss_cons (ps_for PassesOwn.never rfl (pi_list (pv 1)) (pg_name (i := 2) sc_need_hours.nd rfl (.inl rfl)) (pss_cons (ps_if (pt_not (pt_chain op_le op_lt pe_int (pv 2) (pv 0))) (pss_cons ps_never
      pss_nil) pss_nil)
      pss_nil))
      pss_nil), ?_⟩
    refine q_forLn (K := K) (a := a) (xs := hs.map V.int) (ev_var rfl) hL (fun i σ H' => Ex H H' ∧ ∃ x, σ = [some (.int c), some (.ref a), x]) (fun H1 e1 => ⟨e1, none, rfl⟩) (fun i σ' H' _ p => ex_l p.1 hL) (fun i x σ' H' hx p => ?_) (fun σ' H' p => q H' p.1)
    obtain ⟨e1, x0, rfl⟩ := p
    rw [List.getElem?_map] at hx
    cases hh : hs[i]? with
    | none => rw [hh] at hx; cases hx
    | some y =>
      rw [hh] at hx
      cases hx
      have hy := hc y (List.mem_of_getElem? hh)
      refine Go.go ?_
      apply go_when
      · walk_at "et"
      · intro e
        rw [decide_eq_true hy.1, decide_eq_true hy.2] at e
        cases e
      · intro _
        exact go_next fun H2 e2 => ⟨e1.trans e2, some (.int y), rfl⟩
def nstep (c a b : Int) : Int := (b - a + c / 2) % c - c / 2
theorem nstep_spec {c a b : Int} (hc : isClock c = true) : -c < 2 * nstep c a b ∧ 2 * nstep c a b < c ∧ (a + nstep c a b - b) % c = 0 := by
  have h := isClock_iff.mp hc
  unfold nstep
  have h1 := Int.emod_nonneg (b - a + c / 2) (show c ≠ 0 by omega)
  have h2 := Int.emod_lt_of_pos (b - a + c / 2) (show 0 < c by omega)
  have h3 := Int.mul_ediv_add_emod (b - a + c / 2) c
  refine ⟨by omega, by omega, ?_⟩
  have e : a + ((b - a + c / 2) % c - c / 2) - b = -(c * ((b - a + c / 2) / c)) := by omega
  rw [e, Int.neg_emod_eq_sub_emod]
  simp
theorem dvd_small {c x : Int} (h : x % c = 0) (h1 : -c < x) (h2 : x < c) : x = 0 := Int.eq_zero_of_dvd_of_natAbs_lt_natAbs (Int.dvd_of_emod_eq_zero h) (by omega)
theorem nstep_neg {c a b : Int} (hc : isClock c = true) : nstep c b a = -nstep c a b := by
  have h1 := nstep_spec (a := a) (b := b) hc
  have h2 := nstep_spec (a := b) (b := a) hc
  have e : (nstep c a b + nstep c b a) % c = 0 := by
    have e2 : nstep c a b + nstep c b a = (a + nstep c a b - b) + (b + nstep c b a - a) := by omega
    rw [e2, Int.add_emod, h1.2.2, h2.2.2]
    simp
  have := dvd_small e (by omega) (by omega)
  omega
theorem nstep_zero {c a b : Int} (hc : isClock c = true) (ha : 0 ≤ a ∧ a < c) (hb : 0 ≤ b ∧ b < c) : decide (nstep c a b = 0) = decide (a = b) := by
  have h1 := nstep_spec (a := a) (b := b) hc
  have h0 := isClock_iff.mp hc
  by_cases e : a = b
  · subst e
    have : nstep c a a = 0 := by
      refine dvd_small (c := c) ?_ (by omega) (by omega)
      have e2 : a + nstep c a a - a = nstep c a a := by omega
      rw [← e2]
      exact h1.2.2
    rw [this]
    simp
  · have : nstep c a b ≠ 0 := by
      intro z
      rw [z] at h1
      have := dvd_small h1.2.2 (by omega) (by omega)
      omega
    rw [decide_eq_false this, decide_eq_false e]

def R_after (vs : List V) (v : V) : Prop := ∃ c h y, vs = [.int c, .int h, .int y] ∧ v = .int ((h + y) % c) ∧ isClock c = true ∧ 0 ≤ h ∧ h < c
theorem ok_after (T : Tx K mg) : FnOk P w K mg base CX0 3 T.a_after T.d_after ["clock", "hour", "by"] (spS R_after) := by
  refine T.F_after.ok sc_after (fun vs H Q E h => ?_) (fun cdv A outer s H vs Q E hr h => ?_)
  · obtain ⟨v, ⟨c, a, b, rfl, rfl, hc⟩, q⟩ := h
    rfl
  · obtain ⟨v, ⟨c, a, b, rfl, rfl, hc, ha, ha2⟩, q⟩ := h
    have h0 := isClock_iff.mp hc
    refine ⟨_, PSs.nox (pss_cons (ps_expr (pe_call (ok_need_clock T) (hr.mono (by omega)) (by rfl) T.g_need_clock T.F_need_clock.kp T.b_need_clock .nil pass0 (pa_cons (pv 0) pa_nil)))
      (pss_cons (ps_expr (pe_call (ok_need_hours T) (hr.mono (by omega)) (by rfl) T.g_need_hours T.F_need_hours.kp T.b_need_hours .nil pass0 (pa_cons (pv 0) (pa_cons (pe_lst (pa_cons (pv 1) pa_nil)) pa_nil))))
      (pss_cons (ps_ret (pe_op op_mod (pe_op op_add (pv 1) (pv 2)) (pv 0)))
      pss_nil))), Go.go ?_⟩
    apply go_drop
    · exact ev_need_clock (by walk_at "ea") hc
    apply go_drop (v := .non)
    · intro H1 e1 Q1 q1
      refine ⟨_, rfl, _, rfl, by show 1 ≤ sizeLine; decide, fun p hp => ⟨c, p, [a], rfl, sq_of upd_same, fun h hh => ?_, fun H2 e2 => q1 H2 ((Ex.new hp).trans e2)⟩⟩
      rcases List.mem_cons.mp hh with rfl | hh
      · exact ⟨ha, ha2⟩
      · cases hh
    apply go_retE (k := q)
    · walk_at "ev"
    · rfl
theorem ev_after {σ : L2.St} {H : Hp} {E : XK} {tr : TA} {c a b : Int} (h : EvA tr σ H [.int c, .int a, .int b]) (hc : isClock c = true) (ha : 0 ≤ a ∧ a < c) : Ev (tCall (spS R_after) [] E tr) σ H (.int ((a + b) % c)) := ev_callS h ⟨c, a, b, rfl, rfl, hc, ha.1, ha.2⟩
theorem ev_after1 {σ : L2.St} {H : Hp} {E : XK} {tr : TA} {c a b : Int} (h : EvA tr σ H [.int c, .int a]) (hc : isClock c = true) (ha : 0 ≤ a ∧ a < c) : Ev (tCall (spS R_after) [.int b] E tr) σ H (.int ((a + b) % c)) := fun H1 e Q q =>
  h H1 e _ fun H2 e2 => ⟨_, ⟨c, a, b, rfl, rfl, hc, ha.1, ha.2⟩, fun H3 e3 => q H3 (e2.trans e3)⟩
theorem ev_afterK {σ : L2.St} {H : Hp} {E : XK} {tr tk : TA} {c a b : Int} (h : EvA tr σ H [.int c, .int a]) (hk : EvA tk σ H [.int b]) (hc : isClock c = true) (ha : 0 ≤ a ∧ a < c) : Ev (tCallN 2 1 (spS R_after) (fun us ws => us ++ ws) E tr tk) σ H (.int ((a + b) % c)) := fun H1 e Q q =>
  h H1 e _ fun H2 e2 => hk H2 (e.trans e2) _ fun H3 e3 => ⟨rfl, rfl, _, ⟨c, a, b, rfl, rfl, hc, ha.1, ha.2⟩, fun H4 e4 => q H4 ((e2.trans e3).trans e4)⟩

/-! ### the law's draws -/
def R_mixed (vs : List V) (v : V) : Prop := ∃ a b, vs = [.int a, .int b] ∧ ∃ r, v = .int r
def spMixed : Sp := fun vs H Q _ => ∃ a b, vs = [.int a, .int b] ∧ ∀ r H2, Ex H H2 → Q (.int r) H2
theorem ok_law_mixed (T : Tx K mg) : FnOk P w K mg base CX0 1 T.a_law_mixed T.d_law_mixed ["_law_number_here", "_law_turn"] spMixed := by
  refine T.F_law_mixed.ok sc_law_mixed (fun vs H Q E h => ?_) (fun cdv A outer s H vs Q E hr h => ?_)
  · obtain ⟨a, b, rfl, q⟩ := h
    rfl
  · obtain ⟨a, b, rfl, q⟩ := h
    refine ⟨_, (pss_cons (ps_set (i := 2) sc_law_mixed.nd rfl (.inl rfl) (pe_op op_mod (pe_op op_add (pe_op op_add (pe_op op_mul (pv 0) pe_int) (pe_op op_mul (pv 1) pe_int)) pe_int) pe_int))
      (pss_cons (ps_set (i := 3) sc_law_mixed.nd rfl (.inl rfl) (pe_op op_add (pe_op op_mul (pv 1) pe_int) (pe_op op_mod (pe_op op_fdiv (pv 0) pe_int) pe_int)))
      (pss_cons (ps_ret (pe_op op_fdiv (pe_op op_mod (pe_op op_add (pe_op op_mul (pv 2) (pe_op op_add (pe_op op_mod (pv 2) pe_int) pe_int)) (pv 3)) pe_int) pe_int))
      pss_nil))), Go.go ?_⟩
    have h1 : ∀ x y : Int, 0 ≤ x % y + y * 0 ∨ y = 0 := fun x y => by
      by_cases h : y = 0
      · exact .inr h
      · exact .inl (by have := Int.emod_nonneg x h; omega)
    apply go_asg
    · walk_at "ev"
    have h2 : ∀ x : Int, 0 ≤ x % 2147483647 ∧ x % 2147483647 < 2147483647 := fun x => ⟨by omega, by omega⟩
    generalize hz : (a * 7919 + b * 104729 + 17) % 2147483647 = z
    have hz2 := h2 (a * 7919 + b * 104729 + 17)
    rw [hz] at hz2
    apply go_asg
    · walk_at "ev"
    apply go_retV
    · walk_at "ev"
    exact fun H' e => q _ H' e
/-- a call that gives some int -/
theorem ev_mixed {σ : L2.St} {H : Hp} {E : XK} {tr : TA} {a b : Int} (h : EvA tr σ H [.int a, .int b]) {Q : VK} (k : ∀ r H2, Ex H H2 → Q (.int r) H2) : tCall spMixed [] E tr σ H Q :=
  h H (Ex.refl H) _ fun H2 e2 => ⟨a, b, rfl, fun r H3 e3 => k r H3 (e2.trans e3)⟩
def PreTake (ds : List PyData) : Prop := ∃ m : Int, ds = [.int m] ∧ 0 < m ∧ m < 2 ^ 80
def RTake (ds : List PyData) (d : PyData) : Prop := ∃ m r : Int, ds = [.int m] ∧ d = .int r ∧ 0 ≤ r ∧ r < m
theorem ok_law_take (T : Tx K mg) : FnOk P w K mg base CX0 2 T.a_law_take T.d_law_take ["_law_box_here", "_law_many"] (spB K PreTake RTake) := by
  refine T.F_law_take.ok sc_law_take (fun vs H Q E h => ?_) (fun cdv A outer s H vs Q E hr h => ?_)
  · obtain ⟨b, ws, Hd, ds, rfl, hb, sx, B, hds, ⟨m, rfl, hm, hm2⟩, q⟩ := h
    cases hds with
    | cons h1 h2 => cases h2; rfl
  · obtain ⟨b, ws, Hd, ds, rfl, hb, sx, B, hds, ⟨m, rfl, hm, hm2⟩, q⟩ := h
    obtain ⟨m', rfl⟩ : ∃ m', ws = [m'] := by
      cases hds with
      | cons h1 h2 => cases h2; exact ⟨_, rfl⟩
    have em : m' = .int m := by
      cases hds with
      | cons h1 h2 => cases h1; rfl
    subst em
    obtain ⟨ca, cells, xs, h1, ⟨pos, rest, turn, seed, rfl, hpos⟩, h3, h4⟩ := B
    have nca : ca ≠ b := by
      intro e
      subst e
      rw [h1] at h3
      have h5 := HO.lst.inj (Option.some.inj h3)
      cases cells with
      | nil => cases h5
      | cons c cs => cases h5
    have fin : ∀ (pos' rest' turn' r : Int) (H2 : Hp), 0 ≤ pos' → 0 ≤ r → r < m → Ex (upd H b (.lst [.ref ca, .int pos', .int rest', .int turn', .int seed])) H2 → Q (.int r) H2 := fun pos' rest' turn' r H2 hp h0 hr e2 => by
      refine q (.int r) H2 Hd (.int r) ⟨fun a o n h => e2 a o (by rw [upd_ne n]; exact h), Ex.refl _, fun a o h => e2 a o (by rw [upd_ne (ne_of_none h hb)]; exact sx a o h), fun a o _ h => h, ?_⟩ (.int r) ⟨m, r, rfl, rfl, h0, hr⟩
      exact Bx.mono e2 ⟨ca, cells, _, upd_same, ⟨pos', rest', turn', seed, rfl, hp⟩, by rw [upd_ne nca]; exact h3, h4⟩
    have wd : ∀ z : Int, CDivW z m := fun z => wide_div (b := 80) hm (by omega) (by decide) (by decide)
    have mm : ∀ z : Int, 0 ≤ z % m ∧ z % m < m := fun z => ⟨Int.emod_nonneg z (by omega), Int.emod_lt_of_pos z hm⟩
    refine ⟨_, (pss_cons (ps_asg (pe_op op_add (pe_ix ix_list (pv 0) pe_int (fun _ _ => rfl)) pe_int) (pg_sub (pv 0) pe_int set_list))
      (pss_cons (ps_if (pt_cmpR op_gt (pe_ix ix_list (pv 0) pe_int (fun _ _ => rfl)) pe_int (nomark _)) (pss_cons (ps_set (i := 2) sc_law_take.nd rfl (.inl rfl) (pe_ix ix_list (pv 0) pe_int (fun _ _ => rfl)))
      (pss_cons (ps_asg (pe_op op_fdivW (pv 2) (pv 1)) (pg_sub (pv 0) pe_int set_list))
      (pss_cons (ps_ret (pe_op op_mod (pv 2) (pv 1)))
      pss_nil))) pss_nil)
      (pss_cons (ps_if (pt_cmpR op_ge (pe_ix ix_list (pv 0) pe_int (fun _ _ => rfl)) (pe_callB call_lenQ (by rfl) T.n_len PySem.boot_len (pa_cons (pe_ix ix_list (pv 0) pe_int (fun _ _ => rfl)) pa_nil)) (nomark _)) (pss_cons (ps_ret (pe_op op_mod (pe_call (ok_law_mixed T) (hr.mono (by omega)) (by rfl) T.g_law_mixed T.F_law_mixed.kp T.b_law_mixed .nil pass0 (pa_cons (pe_ix ix_list (pv 0) pe_int (fun _ _ => rfl)) (pa_cons (pe_ix ix_list (pv 0) pe_int (fun _ _ => rfl)) pa_nil))) (pv 1)))
      pss_nil) pss_nil)
      (pss_cons (ps_set (i := 3) sc_law_take.nd rfl (.inl rfl) (pe_ix ix_list (pe_ix ix_list (pv 0) pe_int (fun _ _ => rfl)) (pe_ix ix_list (pv 0) pe_int (fun _ _ => rfl)) (fun _ _ => rfl)))
      (pss_cons (ps_asg (pe_op op_add (pe_ix ix_list (pv 0) pe_int (fun _ _ => rfl)) pe_int) (pg_sub (pv 0) pe_int set_list))
      (pss_cons (ps_if (pt_cmpR op_lt (pv 3) (pe_op op_pow pe_int pe_int) (nomark _)) (pss_cons (ps_ret (pe_op op_mod (pe_call (ok_law_mixed T) (hr.mono (by omega)) (by rfl) T.g_law_mixed T.F_law_mixed.kp T.b_law_mixed .nil pass0 (pa_cons (pe_op op_add (pv 3) (pe_ix ix_list (pv 0) pe_int (fun _ _ => rfl))) (pa_cons (pe_ix ix_list (pv 0) pe_int (fun _ _ => rfl)) pa_nil))) (pv 1)))
      pss_nil) pss_nil)
      (pss_cons (ps_asg (pe_op op_fdivW (pv 3) (pv 1)) (pg_sub (pv 0) pe_int set_list))
      (pss_cons (ps_ret (pe_op op_mod (pv 3) (pv 1)))
      pss_nil)))))))), Go.go ?_⟩
    refine go_setL (j := 3) h1 (v := .int (turn + 1)) ?_ (ev_var rfl) ev_c (by simp) ?_
    · walk_at "ev"
    show Go _ _ _ (upd H b (.lst [.ref ca, .int pos, .int rest, .int (turn + 1), .int seed]))
    apply go_when
    · walk_at "et"
    · intro _
      apply go_asg
      · walk_at "ev"
      refine go_setL (j := 2) upd_same (v := .int (rest / m)) ?_ (ev_var rfl) ev_c (by simp) ?_
      · refine ev_op (ev_var rfl) (ev_var rfl) (rv_I (wd _))
      apply go_retV
      · walk_at "ev"
      rw [upd_upd]
      exact fun H' e => fin pos (rest / m) (turn + 1) _ H' hpos (mm _).1 (mm _).2 e
    intro _
    have h3' : upd H b (.lst [.ref ca, .int pos, .int rest, .int (turn + 1), .int seed]) ca = some (.lst (cells.map V.int)) := by
      rw [upd_ne nca]
      exact h3
    apply go_when
    · apply et_test
      apply ev_op
      · walk_at "ev"
      · refine ev_len (K := K) (p := ca) ?_ (sq_of h3')
        walk_at "ev"
      · exact rv_I0
    · intro _ H1 e1
      refine ev_mixed (a := seed) (b := turn + 1) (EvA.mono e1 (by walk_at "ea")) fun r H2 e2 => ?_
      exact ⟨_, rfl, _, _, rfl, rfl, hm, fin pos rest (turn + 1) _ H2 hpos (mm _).1 (mm _).2 (e1.trans e2)⟩
    intro hlt
    have hlt2 : pos < (cells.length : Int) := by
      have h5 := of_decide_eq_false hlt
      rw [List.length_map] at h5
      omega
    have hget : atI (cells.map V.int) pos = some (.int (cells[pos.toNat]'(by omega))) := by
      refine at_of (j := pos.toNat) (by omega) ?_
      rw [List.getElem?_map, List.getElem?_eq_getElem (by omega)]
      rfl
    generalize hcell : cells[pos.toNat]'(by omega) = cell at hget
    apply go_asg (v := .int cell)
    · refine ev_op (x := .ref ca) (y := .int pos) (by walk_at "ev") (by walk_at "ev") (rv_ixL (K := K) (sq_of h3') hget)
    refine go_setL (j := 1) upd_same (v := .int (pos + 1)) ?_ (ev_var rfl) ev_c (by simp) ?_
    · walk_at "ev"
    rw [upd_upd]
    show Go _ _ _ (upd H b (.lst [.ref ca, .int (pos + 1), .int rest, .int (turn + 1), .int seed]))
    apply go_when
    · walk_at "et"
    · intro _ H1 e1
      refine ev_mixed (a := cell + seed) (b := turn + 1) (EvA.mono e1 (by walk_at "ea")) fun r H2 e2 => ?_
      exact ⟨_, rfl, _, _, rfl, rfl, hm, fin (pos + 1) rest (turn + 1) _ H2 (by omega) (mm _).1 (mm _).2 (e1.trans e2)⟩
    intro _
    refine go_setL (j := 2) upd_same (v := .int (cell / m)) ?_ (ev_var rfl) ev_c (by simp) ?_
    · refine ev_op (ev_var rfl) (ev_var rfl) (rv_I (wd _))
    apply go_retV
    · walk_at "ev"
    rw [upd_upd]
    exact fun H' e => fin (pos + 1) (cell / m) (turn + 1) _ H' (by omega) (mm _).1 (mm _).2 e
theorem eb_take {σ : L2.St} {Hd : Hp} {E : XK} {b : Addr} {ta tb : TE} {m : Int} (ha : Ev ta σ Hd (.ref b)) (hm : Ev tb σ Hd (.int m)) (h0 : 0 < m) (h1 : m < 2 ^ 80) : EvB K b (tCall (spB K PreTake RTake) [] E (tCons ta (tCons tb tNil))) σ Hd (isI fun r => 0 ≤ r ∧ r < m) := by
  refine EvB.imp (eb_call ha (eba_cons (eb_ev hm) eba_nil) ?_) ?_
  · rintro ds ⟨d, es, rfl, ⟨i, rfl, rfl⟩, rfl⟩
    exact ⟨_, rfl, h0, h1⟩
  · rintro d ⟨ds, ⟨d', es, rfl, ⟨i, rfl, rfl⟩, rfl⟩, m', r, e1, rfl, h2, h3⟩
    cases e1
    exact ⟨r, rfl, h2, h3⟩

def RClock (ds : List PyData) (d : PyData) : Prop := ∃ c : Int, d = .int c ∧ isClock c = true
theorem ok_law_clock (T : Tx K mg) : FnOk P w K mg base CX0 3 T.a_law_clock T.d_law_clock ["_law_box_here"] (spB K (fun ds => ds = []) RClock) := by
  refine T.F_law_clock.ok sc_law_clock (fun vs H Q E h => ?_) (fun cdv A outer s H vs Q E hr h => ?_)
  · obtain ⟨b, ws, Hd, ds, rfl, hb, sx, B, hds, rfl, q⟩ := h
    cases hds
    rfl
  · obtain ⟨b, ws, Hd, ds, rfl, hb, sx, B, hds, rfl, q⟩ := h
    cases hds
    refine ⟨_, (pss_cons (ps_ret (pe_op op_add pe_int (pe_op op_mul pe_int (pe_call (ok_law_take T) (hr.mono (by omega)) (by rfl) T.g_law_take T.F_law_take.kp T.b_law_take .nil pass0 (pa_cons (pv 0) (pa_cons pe_int pa_nil))))))
      pss_nil), Go.go ?_⟩
    refine go_retB hb sx B (EvB.imp (eb_opI0 (K := K) (fun _ _ => rfl) (eb_ev ev_c) (eb_opI (fun _ _ => rfl) (eb_ev ev_c) (eb_take (ev_var rfl) ev_c (by decide) (by decide)) (fun i j hi hj => Or.inl (by omega)))) (P' := RClock []) ?_) q
    rintro d ⟨i, rfl, i1, j1, rfl, ⟨i2, j2, rfl, ⟨h1, h2⟩, rfl⟩, rfl⟩
    exact ⟨_, rfl, isClock_iff.mpr ⟨by omega, by omega, by omega⟩⟩
theorem eb_clock {σ : L2.St} {Hd : Hp} {E : XK} {b : Addr} {ta : TE} (ha : Ev ta σ Hd (.ref b)) : EvB K b (tCall (spB K (fun ds => ds = []) RClock) [] E (tCons ta tNil)) σ Hd (isI fun c => isClock c = true) := by
  refine EvB.imp (eb_call ha eba_nil fun ds e => e) ?_
  rintro d ⟨ds, rfl, c, rfl, h⟩
  exact ⟨c, rfl, h⟩
/-- the box is made -/
def spBox (K : PySem.W.Frag) : Sp := fun vs H Q _ => ∃ (a : Addr) (ns : List Int), vs = [.ref a] ∧ SqL K H a (ns.map V.int) ∧ ns.length ≤ 63 ∧ ∀ b H2, H b = none → Ex H H2 → Bx H2 b → Q (.ref b) H2
theorem cut_ints {ns : List Int} : cutV (ns.map V.int) none (some 63) = ((ns.take 63).map V.int) := by
  unfold cutV
  rw [HT.sIx_none, show HT.sIx (ns.map V.int).length (ns.map V.int).length (some 63) = min 63 (ns.map V.int).length from HT.sIx_nat _ _ 63]
  rw [List.drop_zero, Nat.sub_zero, List.length_map, List.map_take]
  by_cases h : 63 ≤ ns.length
  · rw [Nat.min_eq_left h]
  · rw [Nat.min_eq_right (by omega), List.take_of_length_le (by rw [List.length_map]; omega), List.take_of_length_le (by rw [List.length_map]; omega)]
theorem ok_law_box (T : Tx K mg) : FnOk P w K mg base CX0 1 T.a_law_box T.d_law_box ["_law_script"] (spBox K) := by
  refine T.F_law_box.ok sc_law_box (fun vs H Q E h => ?_) (fun cdv A outer s H vs Q E hr h => ?_)
  · obtain ⟨a, ns, rfl, _⟩ := h
    rfl
  · obtain ⟨a, ns, rfl, hL, hn, q⟩ := h
    refine ⟨_, (pss_cons (ps_set (i := 1) sc_law_box.nd rfl (.inl rfl) pe_int)
      (pss_cons (ps_for PassesOwn.never rfl (pi_list (pe_slice sl_list (pv 0) po_none (po_some pe_int))) (pg_name (i := 2) sc_law_box.nd rfl (.inl rfl)) (pss_cons (ps_set (i := 1) sc_law_box.nd rfl (.inl rfl) (pe_op op_mod (pe_op op_add (pe_op op_add (pe_op op_mul (pv 1) pe_int) (pe_op op_mod (pv 2) pe_int)) pe_int) pe_int))
      pss_nil))
      (pss_cons (ps_ret (pe_lst (pa_cons (pe_callTy call_listQ (by rfl) T.n_list (by decide +kernel) (pa_cons (pe_slice sl_list (pv 0) po_none (po_some pe_int)) pa_nil)) (pa_cons pe_int (pa_cons pe_int (pa_cons pe_int (pa_cons (pv 1) pa_nil)))))))
      pss_nil))), ?_⟩
    refine q_asg ev_c fun H1 e1 => ?_
    refine q_forNLn (K := K) (xs := (ns.take 63).map V.int) ?_ (fun p i σ H' => Ex H H' ∧ H p = none ∧ H' p = some (.lst ((ns.take 63).map V.int)) ∧ ∃ (z : Int) (x : Option V), σ = [some (.ref a), some (.int z), x]) (fun p H2 hp e2 h2 => ⟨e1.trans e2, fresh_back e1 hp, h2, 7, none, rfl⟩) (fun p i σ' H' _ h => sq_of h.2.2.1) ?_ ?_
    · rw [← cut_ints]
      exact el_sl (ev_var rfl) eo_none (eo_some ev_c) (ex_l e1 hL)
    · rintro p i x σ' H' hx ⟨e2, hp, h2, z, x0, rfl⟩
      rw [List.getElem?_map] at hx
      cases hh : (ns.take 63)[i]? with
      | none => rw [hh] at hx; cases hx
      | some y =>
        rw [hh] at hx
        cases hx
        refine Go.go ?_
        apply go_asg
        · walk_at "ev"
        exact go_next fun H3 e3 => ⟨e2.trans e3, hp, e3 _ _ h2, _, _, rfl⟩
    · rintro p σ' H' ⟨e2, hp, h2, z, x0, rfl⟩
      have hE : Ex H H' := e2
      refine el_sl (K := K) (ev_var rfl) eo_none (eo_some ev_c) (ex_l hE hL) H' (Ex.refl _) _ fun c H4 hc e4 h4 => ?_
      rw [cut_ints] at h4
      refine ⟨c, _, rfl, Or.inl (sq_of h4), fun l hl => ?_⟩
      refine ⟨.int z, rfl, by show 5 ≤ sizeLine; decide, fun b hb => ?_⟩
      have nlb : l ≠ b := fun e => by
        subst e
        rw [upd_same] at hb
        cases hb
      have hb4 : H4 b = none := by
        rw [upd_ne nlb.symm] at hb
        exact hb
      refine q b _ (fresh_back (hE.trans e4) hb4) (((hE.trans e4).trans (Ex.new hl)).trans (Ex.new hb)) ⟨l, ns.take 63, _, upd_same, ⟨0, 0, 0, z, rfl, by decide⟩, ?_, ?_⟩
      · rw [upd_ne nlb, upd_same]
      · rw [List.length_take]
        omega
theorem go_box {σ : L2.St} {H : Hp} {E : XK} {ta : TE} {tz : TS} {D : Ends} {i : Nat} {a : Addr} {ns : List Int} (hL : SqL K H a (ns.map V.int)) (hn : ns.length ≤ 63) (h : Ev ta σ H (.ref a)) (k : ∀ b H', H b = none → Ex H H' → Bx H' b → Go tz D (σ.set i (some (.ref b))) H') : Go (tSeq (tAsg (tCall (spBox K) [] E (tCons ta tNil)) (gName i)) tz) D σ H := fun H1 e1 =>
  h H1 e1 _ fun H2 e2 => ⟨a, ns, rfl, ex_l (e1.trans e2) hL, hn, fun b H3 hb e3 B => k b H3 (fresh_back (e1.trans e2) hb) ((e1.trans e2).trans e3) B H3 (Ex.refl _)⟩
def sp_law (K : PySem.W.Frag) : Sp := fun vs H Q _ => ∃ (a : Addr) (ns : List Int), vs = [.ref a] ∧ SqL K H a (ns.map V.int) ∧ ns.length ≤ 63 ∧ ∀ H', Q (.bl true) H'

theorem ok_law_number (T : Tx K mg) : FnOk P w K mg base CX0 3 T.a_law_number T.d_law_number ["_law_box_here"] (spB K (fun ds => ds = []) (fun _ => isI fun n => -(10 ^ 30) ≤ n ∧ n ≤ 10 ^ 30)) := by
  refine T.F_law_number.ok sc_law_number (fun vs H Q E h => ?_) (fun cdv A outer s H vs Q E hr h => ?_)
  · obtain ⟨b, ws, Hd, ds, rfl, hb, sx, B, hds, rfl, q⟩ := h
    cases hds
    rfl
  · obtain ⟨b, ws, Hd, ds, rfl, hb, sx, B, hds, rfl, q⟩ := h
    cases hds
    refine ⟨_, (pss_cons (ps_ret (pe_ix ix_list (pe_lst (pa_cons (pe_un un_neg (pe_op op_pow pe_int pe_int)) (pa_cons (pe_un un_neg pe_int) (pa_cons pe_int (pa_cons pe_int (pa_cons pe_int (pa_cons pe_int (pa_cons pe_int (pa_cons pe_int (pa_cons pe_int (pa_cons pe_int (pa_cons pe_int (pa_cons pe_int (pa_cons (pe_op op_pow pe_int pe_int) pa_nil)))))))))))))) (pe_call (ok_law_take T) (hr.mono (by omega)) (by rfl) T.g_law_take T.F_law_take.kp T.b_law_take .nil pass0 (pa_cons (pv 0) (pa_cons pe_int pa_nil))) (fun _ _ => rfl)))
      pss_nil), Go.go ?_⟩
    refine go_retB hb sx B (eb_pick (K := K) (n := 13) ?_ (eb_take (ev_var rfl) ev_c (m := 13) (by decide) (by decide)) (by decide)) q
    refine ap_cons (eb_int (m := -(10 ^ 30)) (ev_is (by walk_at "ev") (by decide)) (by decide)) ?_
    refine ap_cons (eb_int (by walk_at "ev") (by decide)) ?_
    refine ap_cons (eb_int ev_c (by decide)) (ap_cons (eb_int ev_c (by decide)) (ap_cons (eb_int ev_c (by decide)) (ap_cons (eb_int ev_c (by decide)) (ap_cons (eb_int ev_c (by decide)) (ap_cons (eb_int ev_c (by decide)) (ap_cons (eb_int ev_c (by decide)) (ap_cons (eb_int ev_c (by decide)) (ap_cons (eb_int ev_c (by decide)) (ap_cons (eb_int ev_c (by decide)) (ap_cons (eb_int (m := 10 ^ 30) (ev_is (by walk_at "ev") (by decide)) (by decide)) ap_nil))))))))))
theorem eb_number {σ : L2.St} {Hd : Hp} {E : XK} {b : Addr} {ta : TE} (ha : Ev ta σ Hd (.ref b)) : EvB K b (tCall (spB K (fun ds => ds = []) (fun _ => isI fun n => -(10 ^ 30) ≤ n ∧ n ≤ 10 ^ 30)) [] E (tCons ta tNil)) σ Hd (isI fun n => -(10 ^ 30) ≤ n ∧ n ≤ 10 ^ 30) := by
  refine EvB.imp (eb_call ha eba_nil fun ds e => e) ?_
  rintro d ⟨ds, rfl, h⟩
  exact h

/-! ### _law_whole, _law_same -/
theorem ok_law_whole (T : Tx K mg) : FnOk P w K mg base CX0 1 T.a_law_whole T.d_law_whole ["_law_found"] (spS fun vs v => ∃ i, vs = [.int i] ∧ v = .bl true) := by
  refine T.F_law_whole.ok sc_law_whole (fun vs H Q E h => ?_) (fun cdv A outer s H vs Q E hr h => ?_)
  · obtain ⟨v, ⟨i, rfl, rfl⟩, q⟩ := h
    rfl
  · obtain ⟨v, ⟨i, rfl, rfl⟩, q⟩ := h
    refine ⟨_, (pss_cons (ps_ret (pe_and (pe_callB call_isi (by rfl) T.n_isinstance (by decide +kernel) (pa_cons (pv 0) (pa_cons (pe_bltn (v := .ty "int") (by rfl) T.n_int (by decide +kernel) rfl) pa_nil))) (pe_one (pe_not (pe_callB call_isi (by rfl) T.n_isinstance (by decide +kernel) (pa_cons (pv 0) (pa_cons (pe_bltn (v := .ty "bool") (by rfl) T.n_bool (by decide +kernel) rfl) pa_nil)))))))
      pss_nil), Go.go ?_⟩
    have hi : Dp K H (.int i) (.int i) := .int i
    apply go_retE (k := q)
    · walk_at "ev"
    · rfl
theorem ev_whole {σ : L2.St} {H : Hp} {E : XK} {tr : TA} {i : Int} (h : EvA tr σ H [.int i]) : Ev (tCall (spS fun vs v => ∃ i, vs = [.int i] ∧ v = .bl true) [] E tr) σ H (.bl true) := ev_callS h ⟨i, rfl, rfl⟩
local macro_rules | `(tactic| walk_at "ev") => `(tactic| ((with_reducible apply ev_whole); walk_at "ea"))
theorem ok_law_same_n (T : Tx K mg) : ∀ n : Nat, FnOk P w K mg base CX0 (n + 1) T.a_law_same T.d_law_same ["_law_found", "_law_due"] (spSame K n) := by
  intro n
  induction n with
  | zero => exact T.F_law_same.ok sc_law_same (fun vs H Q E h => h.elim) (fun cdv A outer s H vs Q E hr h => h.elim)
  | succ n ih =>
  refine T.F_law_same.ok sc_law_same (fun vs H Q E h => ?_) (fun cdv A outer s H vs Q E hr h => ?_)
  · obtain ⟨Hd, d, v1, v2, rfl, _⟩ := h
    rfl
  · obtain ⟨Hd, d, v1, v2, rfl, sx, hd1, hd2, hk, q⟩ := h
    refine ⟨_, (pss_cons (ps_if (pt_cmpR op_isN (pv 1) pe_non (nomark _)) (pss_cons (ps_ret (pe_cmpR op_isN (pv 0) pe_non (nomark _)))
      pss_nil) pss_nil)
      (pss_cons (ps_if (pt_val (pe_callB call_isi (by rfl) T.n_isinstance (by decide +kernel) (pa_cons (pv 1) (pa_cons (pe_bltn (v := .ty "bool") (by rfl) T.n_bool (by decide +kernel) rfl) pa_nil)))) (pss_cons (ps_ret (pe_and (pe_callB call_isi (by rfl) T.n_isinstance (by decide +kernel) (pa_cons (pv 0) (pa_cons (pe_bltn (v := .ty "bool") (by rfl) T.n_bool (by decide +kernel) rfl) pa_nil))) (pe_one (pe_cmpR op_eq (pv 0) (pv 1) (nomark _)))))
      pss_nil) pss_nil)
      (pss_cons (ps_if (pt_val (pe_callB call_isi (by rfl) T.n_isinstance (by decide +kernel) (pa_cons (pv 1) (pa_cons (pe_bltn (v := .ty "int") (by rfl) T.n_int (by decide +kernel) rfl) pa_nil)))) (pss_cons (ps_ret (pe_and (pe_call (ok_law_whole T) (hr.mono (by omega)) (by rfl) T.g_law_whole T.F_law_whole.kp T.b_law_whole .nil pass0 (pa_cons (pv 0) pa_nil)) (pe_one (pe_cmpR op_eq (pv 0) (pv 1) (nomark _)))))
      pss_nil) pss_nil)
      (pss_cons (ps_if (pt_val (pe_callB call_isi (by rfl) T.n_isinstance (by decide +kernel) (pa_cons (pv 1) (pa_cons (pe_bltn (v := .ty "str") (by rfl) T.n_str (by decide +kernel) rfl) pa_nil)))) (pss_cons (ps_ret (pe_and (pe_callB call_isi (by rfl) T.n_isinstance (by decide +kernel) (pa_cons (pv 0) (pa_cons (pe_bltn (v := .ty "str") (by rfl) T.n_str (by decide +kernel) rfl) pa_nil))) (pe_one (pe_cmpR op_eq (pv 0) (pv 1) (nomark _)))))
      pss_nil) pss_nil)
      (pss_cons (ps_if (pt_cmpR op_ne (pe_callB call_isi (by rfl) T.n_isinstance (by decide +kernel) (pa_cons (pv 1) (pa_cons (pe_bltn (v := .ty "list") (by rfl) T.n_list (by decide +kernel) rfl) pa_nil))) (pe_callB call_isi (by rfl) T.n_isinstance (by decide +kernel) (pa_cons (pv 0) (pa_cons (pe_bltn (v := .ty "list") (by rfl) T.n_list (by decide +kernel) rfl) pa_nil))) (nomark _)) (pss_cons (ps_ret pe_bl)
      pss_nil) pss_nil)
      (pss_cons (ps_if (pt_cmpR op_ne (pe_callB call_isi (by rfl) T.n_isinstance (by decide +kernel) (pa_cons (pv 1) (pa_cons (pe_bltn (v := .ty "tuple") (by rfl) T.n_tuple (by decide +kernel) rfl) pa_nil))) (pe_callB call_isi (by rfl) T.n_isinstance (by decide +kernel) (pa_cons (pv 0) (pa_cons (pe_bltn (v := .ty "tuple") (by rfl) T.n_tuple (by decide +kernel) rfl) pa_nil))) (nomark _)) (pss_cons (ps_ret pe_bl)
      pss_nil) pss_nil)
      (pss_cons (ps_if (PW.pt (pw_or (pt_not (pt_val (pe_callB call_isiT (by rfl) T.n_isinstance (by decide +kernel) (pa_cons (pv 0) (pa_cons (pe_tup (pa_cons (pe_bltn (v := .ty "list") (by rfl) T.n_list (by decide +kernel) rfl) (pa_cons (pe_bltn (v := .ty "tuple") (by rfl) T.n_tuple (by decide +kernel) rfl) pa_nil))) pa_nil))))) (pw_or1 (pt_cmpR op_ne (pe_callB call_lenQ (by rfl) T.n_len PySem.boot_len (pa_cons (pv 0) pa_nil)) (pe_callB call_lenQ (by rfl) T.n_len PySem.boot_len (pa_cons (pv 1) pa_nil)) (nomark _))))) (pss_cons (ps_ret pe_bl)
      pss_nil) pss_nil)
      (pss_cons (ps_ret (pe_callB (cr_all rfl) (by rfl) T.n_all (by decide +kernel) (pa_cons (pe_lc (own := [("_law_one", 2), ("_law_other", 3)]) (g := (gTup K 2 (gCons (gName 2) (gCons (gName 3) gNil)))) (by rfl) sc_law_same.nd (pi_zipA (by rfl) T.n_zip (pa_cons (pv 0) (pa_cons (pv 1) pa_nil))) (blkOk_by (own := [("_law_one", 2), ("_law_other", 3)]) (N := N_law_same) (sc := defScope s_law_same) (by decide +kernel)) (fun _ _ _ _ _ => (pg_tup rfl (pgs_cons (pg_name (i := 2) sc_law_same.nd rfl (.inl rfl) (hf := .inr rfl)) (pgs_cons (pg_name (i := 3) sc_law_same.nd rfl (.inl rfl) (hf := .inr rfl)) pgs_nil)))) (fun _ _ _ _ _ => pts_nil) (fun _ _ _ _ _ => (pe_call (ih) (hr.mono (by omega)) (by rfl) T.g_law_same T.F_law_same.kp T.b_law_same .nil pass0 (pa_cons (pv 2) (pa_cons (pv 3) pa_nil))))) pa_nil)))
      pss_nil)))))))), Go.go ?_⟩
    have items : ∀ (ds : List PyData), (n = 0 → ds = []) → (∀ m, n = m + 1 → ∀ e ∈ ds, okD m e) → ∀ (i : Nat) (e : PyData) (σ2 : L2.St) (Hn : Hp) (tr : TA) (E : XK), ds[i]? = some e → EvDA K tr σ2 Hn [e, e] → EvD K (tCall (spSame K n) [] E tr) σ2 Hn (.bool true) := by
      intro ds h0 h1 i e σ2 Hn tr E he hv
      have hm := List.mem_of_getElem? he
      cases n with
      | zero => rw [h0 rfl] at hm; cases hm
      | succ m => exact ed_bool (ev_same hv (h1 m rfl e hm))
    have trues : ∀ n : Nat, (List.range n).map (fun _ => PyData.bool true) = (List.replicate n true).map PyData.bool := by
      intro n
      apply List.ext_getElem
      · simp
      · intro i h1 h2
        simp
    cases d with
    | none =>
      cases hd1
      cases hd2
      refine go_whenT (et_is (by walk_at "et") (by decide)) ?_
      apply go_retE (k := q)
      · walk_at "ev"
      · rfl
    | bool b =>
      cases hd1
      cases hd2
      refine go_whenF (et_is (by walk_at "et") (by rfl)) ?_
      refine go_whenT (et_is (by walk_at "et") (by rfl)) ?_
      apply go_retE (k := q)
      · walk_at "ev"
      · simp
    | int b =>
      cases hd1
      cases hd2
      refine go_whenF (et_is (by walk_at "et") (by rfl)) ?_
      refine go_whenF (et_is (by walk_at "et") (by rfl)) ?_
      refine go_whenT (et_is (by walk_at "et") (by rfl)) ?_
      apply go_retE (k := q)
      · walk_at "ev"
      · simp
    | str b =>
      cases hd1
      cases hd2
      refine go_whenF (et_is (by walk_at "et") (by rfl)) ?_
      refine go_whenF (et_is (by walk_at "et") (by rfl)) ?_
      refine go_whenF (et_is (by walk_at "et") (by rfl)) ?_
      refine go_whenT (et_is (by walk_at "et") (by rfl)) ?_
      apply go_retE (k := q)
      · walk_at "ev"
      · simp
    | list ds =>
      obtain ⟨a1, rfl⟩ : ∃ a, v1 = .ref a := by cases hd1; exact ⟨_, rfl⟩
      obtain ⟨a2, rfl⟩ : ∃ a, v2 = .ref a := by cases hd2; exact ⟨_, rfl⟩
      have hd1' := dp_mono sx _ hd1
      have hd2' := dp_mono sx _ hd2
      have hl : ds.length ≤ 40000 := by
        cases n with
        | zero => rw [show ds = [] from hk]; decide
        | succ m => exact hk.1
      refine go_whenF (et_is (by walk_at "et") (by rfl)) ?_
      refine go_whenF (et_is (by walk_at "et") (by rfl)) ?_
      refine go_whenF (et_is (by walk_at "et") (by rfl)) ?_
      refine go_whenF (et_is (by walk_at "et") (by rfl)) ?_
      refine go_whenF (et_is (by walk_at "et") (by simp)) ?_
      refine go_whenF (et_is (by walk_at "et") (by simp)) ?_
      refine go_whenF (et_is (by walk_at "et") (by simp)) ?_
      apply go_retE (k := q)
      · apply ev_all (K := K) (bs := List.replicate ds.length true)
        rw [← trues, ← givenD_all]
        refine ed_new (en_lc (ei_zipL (K := K) (ds := ds) (es := ds) (by walk_at "eda") rfl) hl (fun _ => true) (fun _ => .bool true) ?_)
        rintro i σ2 Hn hi e ⟨v, v2, d, d2, h1, h2, h3, h4, rfl⟩
        rw [h1] at h2
        cases h2
        refine ⟨rfl, et_yes, fun _ => ?_⟩
        refine items ds (fun z => by subst z; exact hk) (fun m hm => by subst hm; exact hk.2) i d _ Hn _ _ h1 ?_
        walk_at "eda"
      · simp
    | tuple ds =>
      obtain ⟨a1, rfl⟩ : ∃ a, v1 = .ref a := by cases hd1; exact ⟨_, rfl⟩
      obtain ⟨a2, rfl⟩ : ∃ a, v2 = .ref a := by cases hd2; exact ⟨_, rfl⟩
      have hd1' := dp_mono sx _ hd1
      have hd2' := dp_mono sx _ hd2
      have hl : ds.length ≤ 40000 := by
        cases n with
        | zero => rw [show ds = [] from hk]; decide
        | succ m => exact hk.1
      refine go_whenF (et_is (by walk_at "et") (by rfl)) ?_
      refine go_whenF (et_is (by walk_at "et") (by rfl)) ?_
      refine go_whenF (et_is (by walk_at "et") (by rfl)) ?_
      refine go_whenF (et_is (by walk_at "et") (by rfl)) ?_
      refine go_whenF (et_is (by walk_at "et") (by simp)) ?_
      refine go_whenF (et_is (by walk_at "et") (by simp)) ?_
      refine go_whenF (et_is (by walk_at "et") (by simp)) ?_
      apply go_retE (k := q)
      · apply ev_all (K := K) (bs := List.replicate ds.length true)
        rw [← trues, ← givenD_all]
        refine ed_new (en_lc (ei_zipT (K := K) (ds := ds) (es := ds) (by walk_at "eda") rfl) hl (fun _ => true) (fun _ => .bool true) ?_)
        rintro i σ2 Hn hi e ⟨v, v2, d, d2, h1, h2, h3, h4, rfl⟩
        rw [h1] at h2
        cases h2
        refine ⟨rfl, et_yes, fun _ => ?_⟩
        refine items ds (fun z => by subst z; exact hk) (fun m hm => by subst hm; exact hk.2) i d _ Hn _ _ h1 ?_
        walk_at "eda"
      · simp
    | dict _ => cases hd1
theorem ok_law_same (T : Tx K mg) : FnOk P w K mg base CX0 8 T.a_law_same T.d_law_same ["_law_found", "_law_due"] (spSame K 7) := ok_law_same_n T 7

theorem ok_law (T : Tx K mg) : FnOk P w K mg base CX0 9 T.a_law T.d_law ["_law_script"] (sp_law K) := by
  refine T.F_law.ok sc_law (fun vs H Q E h => ?_) (fun cdv A outer s H vs Q E hr h => ?_)
  · obtain ⟨a, ns, rfl, _⟩ := h
    rfl
  · obtain ⟨a, ns, rfl, hL, hn, q⟩ := h
    refine ⟨_, (pss_cons (ps_set (i := 1) sc_law.nd rfl (.inl rfl) (pe_call (ok_law_box T) (hr.mono (by omega)) (by rfl) T.g_law_box T.F_law_box.kp T.b_law_box .nil pass0 (pa_cons (pv 0) pa_nil)))
      (pss_cons (ps_set (i := 2) sc_law.nd rfl (.inl rfl) (pe_call (ok_law_clock T) (hr.mono (by omega)) (by rfl) T.g_law_clock T.F_law_clock.kp T.b_law_clock .nil pass0 (pa_cons (pv 1) pa_nil)))
      (pss_cons (ps_set (i := 3) sc_law.nd rfl (.inl rfl) (pe_call (ok_law_take T) (hr.mono (by omega)) (by rfl) T.g_law_take T.F_law_take.kp T.b_law_take .nil pass0 (pa_cons (pv 1) (pa_cons (pv 2) pa_nil))))
      (pss_cons (ps_for PassesOwn.never rfl (pi_tup (pe_tup (pa_cons pe_int (pa_cons pe_int (pa_cons (pe_un un_neg pe_int) (pa_cons (pv 2) (pa_cons (pe_call (ok_law_number T) (hr.mono (by omega)) (by rfl) T.g_law_number T.F_law_number.kp T.b_law_number .nil pass0 (pa_cons (pv 1) pa_nil)) (pa_cons (pe_op op_sub (pe_call (ok_law_take T) (hr.mono (by omega)) (by rfl) T.g_law_take T.F_law_take.kp T.b_law_take .nil pass0 (pa_cons (pv 1) (pa_cons (pe_op op_pow pe_int pe_int) pa_nil))) (pe_op op_pow pe_int pe_int)) pa_nil)))))))) (pg_name (i := 4) sc_law.nd rfl (.inl rfl)) (pss_cons (ps_if (pt_not (pt_val (pe_call (ok_law_same T) (hr.mono (by omega)) (by rfl) T.g_law_same T.F_law_same.kp T.b_law_same .nil pass0 (pa_cons (pe_lst (pa_cons (pe_call (ok_after T) (hr.mono (by omega)) (by rfl) T.g_after T.F_after.kp T.b_after .nil pass0 (pa_cons (pv 2) (pa_cons (pv 3) (pa_cons (pv 4) pa_nil)))) (pa_cons (pe_callN (ok_after T) (hr.mono (by omega)) (by rfl) T.g_after T.F_after.kp T.kb_after_2_by pass0 (pa_cons (pv 2) (pa_cons (pv 3) pa_nil)) (pk_cons (pv 4) pk_nil)) pa_nil))) (pa_cons (pe_op op_rep (pe_lst (pa_cons (pe_op op_mod (pe_op op_add (pv 3) (pv 4)) (pv 2)) pa_nil)) pe_int) pa_nil))))) (pss_cons (ps_ret pe_bl)
      pss_nil) pss_nil)
      pss_nil))
      (pss_cons (ps_ret (pe_call (ok_law_same T) (hr.mono (by omega)) (by rfl) T.g_law_same T.F_law_same.kp T.b_law_same .nil pass0 (pa_cons (pe_call (ok_after T) (hr.mono (by omega)) (by rfl) T.g_after T.F_after.kp T.bd_after_2 T.vd_after_2 pass0 (pa_cons (pv 2) (pa_cons (pv 3) pa_nil))) (pa_cons (pe_op op_mod (pe_op op_add (pv 3) pe_int) (pv 2)) pa_nil))))
      pss_nil))))), Go.go ?_⟩
    refine go_box hL hn (ev_var rfl) fun b H1 hb e1 B => ?_
    refine go_asgB hb e1 B (eb_clock (ev_var rfl)) ?_
    rintro v H2 H2d d g hd ⟨c, rfl, hc⟩
    cases hd
    have hc0 := isClock_iff.mp hc
    have hb2 := g.bn hb B
    refine go_asgB hb2 g.sub g.bx (eb_take (ev_var rfl) (ev_var rfl) (m := c) (by omega) (by omega)) ?_
    rintro v H3 H3d d g3 hd ⟨h, rfl, hh⟩
    cases hd
    have hb3 := g3.bn hb2 g.bx
    have hd20 : (10 : Int) ^ (20 : Int).toNat = 100000000000000000000 := by decide
    have hd19 : (10 : Int) ^ (19 : Int).toNat = 10000000000000000000 := by decide
    refine go_forTB (K := K) hb3 g3.sub g3.bx (Ps := AllP (fun _ => True) 6) (eb_tup ?_ (fun ds h => by rw [h.1]; decide)) (fun ds Hn i σ' H' => Ex Hn H' ∧ ∃ x, σ' = [some (.ref a), some (.ref b), some (.int c), some (.int h), x]) ?_ (fun ds Hn i σ' H' p => p.1) ?_ ?_
    · refine ap_cons (eb_int ev_c trivial) (ap_cons (eb_int ev_c trivial) (ap_cons (eb_int (by walk_at "ev") trivial) (ap_cons (eb_int (ev_var rfl) trivial) (ap_cons (EvB.impI (eb_number (ev_var rfl)) fun _ _ => trivial) (ap_cons (EvB.impI (eb_opI0 (K := K) (f := fun i j => i - j) (fun _ _ => rfl) (eb_take (ev_var rfl) (m := 10 ^ 20) (ev_is (by walk_at "ev") (by rw [hd20]; decide)) (by decide) (by decide)) (eb_int (q := fun _ => True) (by walk_at "ev") trivial)) fun _ _ => trivial) ap_nil)))))
    · intro H' Hn ds g4 _
      exact ⟨g4.sub, none, rfl⟩
    · rintro ds Hn i σ' H' v d ps e hbn hd hv ⟨p1, x, rfl⟩
      obtain ⟨m, rfl, _⟩ := ps.2 d (List.mem_of_getElem? hd)
      cases hv
      refine go_whenF (et_is (et_not (et_B (ev_same (K := K) (d := .list [.int ((h + m) % c), .int ((h + m) % c)]) (n := 6) (eda_cons (ed_new (en_lst (eda_cons (ed_int (ev_after (by walk_at "ea") hc hh)) (eda_cons (ed_int (ev_afterK (by walk_at "ea") (by walk_at "ea") hc hh)) eda_nil)) (by simp))) (eda_cons (ed_new (en_rep (k := 2) (en_lst (eda_cons (ed_int (by walk_at "ev")) eda_nil) (by simp)) ev_c (by decide) (by simp))) eda_nil)) (by simp [okD])))) rfl) ?_
      exact go_next fun H4 e4 => ⟨p1.trans e4, _, rfl⟩
    · rintro ds Hn σ' H' ps e hbn ⟨p1, x, rfl⟩
      apply go_retE (k := fun H' _ => q H')
      · exact ev_same (K := K) (d := .int ((h + 1) % c)) (n := 6) (eda_cons (ed_int (ev_after1 (by walk_at "ea") hc hh)) (eda_cons (ed_int (by walk_at "ev")) eda_nil)) trivial
      · rfl

end
theorem all_mk {l : PySem.W.OpenLaw} {w : World} {K : PySem.W.Frag} {h : Heap} {mg : Str → Option Value} {fa : Addr} (X : K.In h) (G : h.Ns mainGlobals mg) (hfa : mg "law" = some (.ref fa))
    {f0 : Addr} {od0 an0 : Option Addr} {sl0 : Array (Option Value)} {oc0 kV0 dc0 pm0 cd0 ct0 : Value}
    {f1 : Addr} {od1 an1 : Option Addr} {sl1 : Array (Option Value)} {oc1 kV1 dc1 pm1 cd1 ct1 : Value}
    {f2 : Addr} {od2 an2 : Option Addr} {sl2 : Array (Option Value)} {oc2 kV2 dc2 pm2 cd2 ct2 : Value}
    {T3 : Addr} {oT3 : Value} {pT3 : Option Addr} {nT3 : Nat} {sT3 : Array (Option Value)} {u3_0 : Tok}
    {f3 : Addr} {od3 an3 : Option Addr} {sl3 : Array (Option Value)} {oc3 kV3 dc3 pm3 cd3 ct3 : Value}
    {f4 : Addr} {od4 an4 : Option Addr} {sl4 : Array (Option Value)} {oc4 kV4 dc4 pm4 cd4 ct4 : Value}
    {f5 : Addr} {od5 an5 : Option Addr} {sl5 : Array (Option Value)} {oc5 kV5 dc5 pm5 cd5 ct5 : Value}
    {f6 : Addr} {od6 an6 : Option Addr} {sl6 : Array (Option Value)} {oc6 kV6 dc6 pm6 cd6 ct6 : Value}
    {f7 : Addr} {od7 an7 : Option Addr} {sl7 : Array (Option Value)} {oc7 kV7 dc7 pm7 cd7 ct7 : Value}
    {f8 : Addr} {od8 an8 : Option Addr} {sl8 : Array (Option Value)} {oc8 kV8 dc8 pm8 cd8 ct8 : Value}
    {f9 : Addr} {od9 an9 : Option Addr} {sl9 : Array (Option Value)} {oc9 kV9 dc9 pm9 cd9 ct9 : Value}
    {f10 : Addr} {od10 an10 : Option Addr} {sl10 : Array (Option Value)} {oc10 kV10 dc10 pm10 cd10 ct10 : Value}
    {f11 : Addr} {od11 an11 : Option Addr} {sl11 : Array (Option Value)} {oc11 kV11 dc11 pm11 cd11 ct11 : Value}
    {t0 : Tok}
    {t1 : Tok}
    (a0 : PySem.W.nsIn K mainGlobals "is_clock" = some (some (.ref f0))) (l0 : K.lookup f0 = some ⟨oc0, od0, .func (PySem.W.fnOf "is_clock" "is_clock" (defArgs s_is_clock) (defBody s_is_clock) (defScope s_is_clock) .none kV0 dc0 pm0 an0 cd0 ct0), sl0⟩) (c0 : PySem.W.codeIn K cd0 "is_clock" = true) (k0 : PySem.W.keepIn K (.ref f0) = true)
    (a1 : PySem.W.nsIn K mainGlobals "need_clock" = some (some (.ref f1))) (l1 : K.lookup f1 = some ⟨oc1, od1, .func (PySem.W.fnOf "need_clock" "need_clock" (defArgs s_need_clock) (defBody s_need_clock) (defScope s_need_clock) .none kV1 dc1 pm1 an1 cd1 ct1), sl1⟩) (c1 : PySem.W.codeIn K cd1 "need_clock" = true) (k1 : PySem.W.keepIn K (.ref f1) = true)
    (a2 : PySem.W.nsIn K mainGlobals "need_hours" = some (some (.ref f2))) (l2 : K.lookup f2 = some ⟨oc2, od2, .func (PySem.W.fnOf "need_hours" "need_hours" (defArgs s_need_hours) (defBody s_need_hours) (defScope s_need_hours) .none kV2 dc2 pm2 an2 cd2 ct2), sl2⟩) (c2 : PySem.W.codeIn K cd2 "need_hours" = true) (k2 : PySem.W.keepIn K (.ref f2) = true)
    (a3 : PySem.W.nsIn K mainGlobals "after" = some (some (.ref f3))) (l3 : K.lookup f3 = some ⟨oc3, od3, .func (PySem.W.fnOf "after" "after" (defArgs s_after) (defBody s_after) (defScope s_after) (.ref T3) kV3 dc3 pm3 an3 cd3 ct3), sl3⟩) (c3 : PySem.W.codeIn K cd3 "after" = true) (k3 : PySem.W.keepIn K (.ref f3) = true)
    (dt3 : K.lookup T3 = some ⟨oT3, pT3, .seq #[.int (1) u3_0] nT3, sT3⟩)
    (a4 : PySem.W.nsIn K mainGlobals "_law_box" = some (some (.ref f4))) (l4 : K.lookup f4 = some ⟨oc4, od4, .func (PySem.W.fnOf "_law_box" "_law_box" (defArgs s_law_box) (defBody s_law_box) (defScope s_law_box) .none kV4 dc4 pm4 an4 cd4 ct4), sl4⟩) (c4 : PySem.W.codeIn K cd4 "_law_box" = true) (k4 : PySem.W.keepIn K (.ref f4) = true)
    (a5 : PySem.W.nsIn K mainGlobals "_law_mixed" = some (some (.ref f5))) (l5 : K.lookup f5 = some ⟨oc5, od5, .func (PySem.W.fnOf "_law_mixed" "_law_mixed" (defArgs s_law_mixed) (defBody s_law_mixed) (defScope s_law_mixed) .none kV5 dc5 pm5 an5 cd5 ct5), sl5⟩) (c5 : PySem.W.codeIn K cd5 "_law_mixed" = true) (k5 : PySem.W.keepIn K (.ref f5) = true)
    (a6 : PySem.W.nsIn K mainGlobals "_law_take" = some (some (.ref f6))) (l6 : K.lookup f6 = some ⟨oc6, od6, .func (PySem.W.fnOf "_law_take" "_law_take" (defArgs s_law_take) (defBody s_law_take) (defScope s_law_take) .none kV6 dc6 pm6 an6 cd6 ct6), sl6⟩) (c6 : PySem.W.codeIn K cd6 "_law_take" = true) (k6 : PySem.W.keepIn K (.ref f6) = true)
    (a7 : PySem.W.nsIn K mainGlobals "_law_whole" = some (some (.ref f7))) (l7 : K.lookup f7 = some ⟨oc7, od7, .func (PySem.W.fnOf "_law_whole" "_law_whole" (defArgs s_law_whole) (defBody s_law_whole) (defScope s_law_whole) .none kV7 dc7 pm7 an7 cd7 ct7), sl7⟩) (c7 : PySem.W.codeIn K cd7 "_law_whole" = true) (k7 : PySem.W.keepIn K (.ref f7) = true)
    (a8 : PySem.W.nsIn K mainGlobals "_law_same" = some (some (.ref f8))) (l8 : K.lookup f8 = some ⟨oc8, od8, .func (PySem.W.fnOf "_law_same" "_law_same" (defArgs s_law_same) (defBody s_law_same) (defScope s_law_same) .none kV8 dc8 pm8 an8 cd8 ct8), sl8⟩) (c8 : PySem.W.codeIn K cd8 "_law_same" = true) (k8 : PySem.W.keepIn K (.ref f8) = true)
    (a9 : PySem.W.nsIn K mainGlobals "_law_clock" = some (some (.ref f9))) (l9 : K.lookup f9 = some ⟨oc9, od9, .func (PySem.W.fnOf "_law_clock" "_law_clock" (defArgs s_law_clock) (defBody s_law_clock) (defScope s_law_clock) .none kV9 dc9 pm9 an9 cd9 ct9), sl9⟩) (c9 : PySem.W.codeIn K cd9 "_law_clock" = true) (k9 : PySem.W.keepIn K (.ref f9) = true)
    (a10 : PySem.W.nsIn K mainGlobals "_law_number" = some (some (.ref f10))) (l10 : K.lookup f10 = some ⟨oc10, od10, .func (PySem.W.fnOf "_law_number" "_law_number" (defArgs s_law_number) (defBody s_law_number) (defScope s_law_number) .none kV10 dc10 pm10 an10 cd10 ct10), sl10⟩) (c10 : PySem.W.codeIn K cd10 "_law_number" = true) (k10 : PySem.W.keepIn K (.ref f10) = true)
    (a11 : PySem.W.nsIn K mainGlobals "law" = some (some (.ref f11))) (l11 : K.lookup f11 = some ⟨oc11, od11, .func (PySem.W.fnOf "law" "law" (defArgs s_law) (defBody s_law) (defScope s_law) .none kV11 dc11 pm11 an11 cd11 ct11), sl11⟩) (c11 : PySem.W.codeIn K cd11 "law" = true) (k11 : PySem.W.keepIn K (.ref f11) = true)
    (q0 : PySem.W.nsIn K mainGlobals "LEAST_HOURS" = some (some (.int (3) t0)))
    (q1 : PySem.W.nsIn K mainGlobals "MOST_HOURS" = some (some (.int (15) t1)))
    (z0 : PySem.W.nsIn K mainGlobals "all" = some none)
    (z1 : PySem.W.nsIn K mainGlobals "bool" = some none)
    (z2 : PySem.W.nsIn K mainGlobals "int" = some none)
    (z3 : PySem.W.nsIn K mainGlobals "isinstance" = some none)
    (z4 : PySem.W.nsIn K mainGlobals "len" = some none)
    (z5 : PySem.W.nsIn K mainGlobals "list" = some none)
    (z6 : PySem.W.nsIn K mainGlobals "str" = some none)
    (z7 : PySem.W.nsIn K mainGlobals "tuple" = some none)
    (z8 : PySem.W.nsIn K mainGlobals "zip" = some none) :
    ∃ fd : FuncData, (∀ (s : Shared) (v : Value), BindsTo s fd ⟨[v], []⟩ [("_law_script", v)]) ∧ ∀ base : Heap, K.In base → base.Ns mainGlobals mg → FnOk l.prog w K mg base CX0 9 fa fd ["_law_script"] (sp_law K) := by
  have e := hfa.symm.trans (PySem.W.mg_of X G a11)
  cases e
  have F3 : FunD K "after" "after" (defArgs s_after) (defBody s_after) (defScope s_after) [.int (1)] [] f3 _ := ⟨⟨_, _, _, _, _, _, _, _, _, _, rfl, l3, c3, .inr ⟨(by simp), T3, _, [.int (1) u3_0], _, rfl, dt3, rfl, (.cons ⟨_, rfl⟩ .nil)⟩, .inl rfl⟩, k3⟩
  have B3 := bindsAll F3 (ps := ["clock", "hour", "by"]) 3 (by simp) (by rfl) fun _ _ _ _ _ _ _ us its hl hi => match us, its, hl, hi with | [_, _, _], [_], _, _ => ⟨_, rfl, rfl⟩
  obtain ⟨ds3_2, vd3_2, bd3_2⟩ := F3.binds1 (ps := ["clock", "hour", "by"]) 2 0 (by simp) (by rfl) (fun T kV doc pm an cdv ct us its hu hi => match us, its, hu, hi with | [_, _], [_], _, _ => ⟨_, rfl, rfl⟩)
  have KB3_2_by := bindsKw F3 (ps := ["clock", "hour", "by"]) (n := 2) (ks := ["by"]) (by simp) fun _ _ _ _ _ _ _ us ws its hu hw hi => match us, ws, its, hu, hw, hi with | [_, _], [_], [_], _, _, _ => ⟨_, rfl, rfl⟩
  refine ⟨_, fun s v => ?_, fun base _ _ => ok_law (T := ⟨_, _, fun_mk (st := s_is_clock) l0 c0 k0, PySem.W.mg_of X G a0, (fun_mk (st := s_is_clock) l0 c0 k0).binds fun _ _ _ _ _ _ us hl => match us, hl with | [_], _ => rfl,
    _, _, fun_mk (st := s_need_clock) l1 c1 k1, PySem.W.mg_of X G a1, (fun_mk (st := s_need_clock) l1 c1 k1).binds fun _ _ _ _ _ _ us hl => match us, hl with | [_], _ => rfl,
    _, _, fun_mk (st := s_need_hours) l2 c2 k2, PySem.W.mg_of X G a2, (fun_mk (st := s_need_hours) l2 c2 k2).binds fun _ _ _ _ _ _ us hl => match us, hl with | [_, _], _ => rfl,
    _, _, F3, PySem.W.mg_of X G a3, B3,
    _, vd3_2, bd3_2,
    KB3_2_by,
    _, _, fun_mk (st := s_law_box) l4 c4 k4, PySem.W.mg_of X G a4, (fun_mk (st := s_law_box) l4 c4 k4).binds fun _ _ _ _ _ _ us hl => match us, hl with | [_], _ => rfl,
    _, _, fun_mk (st := s_law_mixed) l5 c5 k5, PySem.W.mg_of X G a5, (fun_mk (st := s_law_mixed) l5 c5 k5).binds fun _ _ _ _ _ _ us hl => match us, hl with | [_, _], _ => rfl,
    _, _, fun_mk (st := s_law_take) l6 c6 k6, PySem.W.mg_of X G a6, (fun_mk (st := s_law_take) l6 c6 k6).binds fun _ _ _ _ _ _ us hl => match us, hl with | [_, _], _ => rfl,
    _, _, fun_mk (st := s_law_whole) l7 c7 k7, PySem.W.mg_of X G a7, (fun_mk (st := s_law_whole) l7 c7 k7).binds fun _ _ _ _ _ _ us hl => match us, hl with | [_], _ => rfl,
    _, _, fun_mk (st := s_law_same) l8 c8 k8, PySem.W.mg_of X G a8, (fun_mk (st := s_law_same) l8 c8 k8).binds fun _ _ _ _ _ _ us hl => match us, hl with | [_, _], _ => rfl,
    _, _, fun_mk (st := s_law_clock) l9 c9 k9, PySem.W.mg_of X G a9, (fun_mk (st := s_law_clock) l9 c9 k9).binds fun _ _ _ _ _ _ us hl => match us, hl with | [_], _ => rfl,
    _, _, fun_mk (st := s_law_number) l10 c10 k10, PySem.W.mg_of X G a10, (fun_mk (st := s_law_number) l10 c10 k10).binds fun _ _ _ _ _ _ us hl => match us, hl with | [_], _ => rfl,
    _, _, fun_mk (st := s_law) l11 c11 k11, PySem.W.mg_of X G a11, (fun_mk (st := s_law) l11 c11 k11).binds fun _ _ _ _ _ _ us hl => match us, hl with | [_], _ => rfl,
    t0, PySem.W.mg_of X G q0,
    t1, PySem.W.mg_of X G q1,
    PySem.W.mg_none_of X G z0,
    PySem.W.mg_none_of X G z1,
    PySem.W.mg_none_of X G z2,
    PySem.W.mg_none_of X G z3,
    PySem.W.mg_none_of X G z4,
    PySem.W.mg_none_of X G z5,
    PySem.W.mg_none_of X G z6,
    PySem.W.mg_none_of X G z7,
    PySem.W.mg_none_of X G z8⟩)⟩
  exact .of_eq rfl
end C_k02
open PySem PySem.W PyProof.Rows
set_option maxHeartbeats 0 in
theorem PySem.Challenge.cw_cotide_k02_hours_later_holds : PySem.Challenge.rw_cotide_k02_hours_later.Holds := by
  w_on; o_law; k_head; (case hw => w_witness2)
  k_fill
  refine L2.walk_of (l := PySem.Challenge.rw_cotide_k02_hours_later) (n := 63) (k := 9) (x := "_law_script") (CX := fun _ => L2.CX0) (sp := fun w => C_k02.sp_law _) rfl (by decide) rfl ⟨rfl, by decide, by decide⟩ (fun w h Y => PySem.W.kIn_of Y) ?F (fun _ _ a ns hl _ hS => ⟨a, ns, rfl, hS, hl, fun _ => rfl⟩) (fun _ _ _ _ _ h => h)
  case F =>
    intro w mg fa h KX G hmg
    refine' C_k02.all_mk KX G hmg ?a0 ?l0 ?c0 ?k0 ?a1 ?l1 ?c1 ?k1 ?a2 ?l2 ?c2 ?k2 ?a3 ?l3 ?c3 ?k3 ?dt3 ?a4 ?l4 ?c4 ?k4 ?a5 ?l5 ?c5 ?k5 ?a6 ?l6 ?c6 ?k6 ?a7 ?l7 ?c7 ?k7 ?a8 ?l8 ?c8 ?k8 ?a9 ?l9 ?c9 ?k9 ?a10 ?l10 ?c10 ?k10 ?a11 ?l11 ?c11 ?k11 ?q0 ?q1 ?z0 ?z1 ?z2 ?z3 ?z4 ?z5 ?z6 ?z7 ?z8
    (case a0 => k_is); (case l0 => k_is); (case c0 => k_is); (case k0 => k_is); (case a1 => k_is); (case l1 => k_is); (case c1 => k_is); (case k1 => k_is); (case a2 => k_is); (case l2 => k_is); (case c2 => k_is); (case k2 => k_is); (case a3 => k_is); (case l3 => k_is); (case c3 => k_is); (case k3 => k_is); (case dt3 => k_is); (case a4 => k_is); (case l4 => k_is); (case c4 => k_is); (case k4 => k_is); (case a5 => k_is); (case l5 => k_is); (case c5 => k_is); (case k5 => k_is); (case a6 => k_is); (case l6 => k_is); (case c6 => k_is); (case k6 => k_is); (case a7 => k_is); (case l7 => k_is); (case c7 => k_is); (case k7 => k_is); (case a8 => k_is); (case l8 => k_is); (case c8 => k_is); (case k8 => k_is); (case a9 => k_is); (case l9 => k_is); (case c9 => k_is); (case k9 => k_is); (case a10 => k_is); (case l10 => k_is); (case c10 => k_is); (case k10 => k_is); (case a11 => k_is); (case l11 => k_is); (case c11 => k_is); (case k11 => k_is); (case q0 => k_is); (case q1 => k_is); (case z0 => k_is); (case z1 => k_is); (case z2 => k_is); (case z3 => k_is); (case z4 => k_is); (case z5 => k_is); (case z6 => k_is); (case z7 => k_is); (case z8 => k_is)
