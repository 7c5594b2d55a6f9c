import PyProof.Rows.All
import Wide.All
import OpenK.AllK
import Wide.FinOn
import HandS.Defaults
import KE.RegKIsAll
import KE.KLam
import KE.KNestM
import HandS.EndTab
import HandS.ForMost
import HandS.Evl
import HandS.IsInst
import HandS.Wide
import HandS.Zip
import HandS.Walk
import HandS.Style
import HandS.TupAny
import HandS.TupMul
import HandS.Sort
import KE.GoesMore
import HandS.HotCalls
import HandS.Lambda
import HandS.ExcCtx
import HandS.ExcIs
import HandS.Text
import HandS.TupSets
import HandS.TupLen
import KE.KDictDisplayH
import HandS.SortInts
import HandS.DictComp
import HandS.Conv
import HandS.SortOrd
import HandS.SortRule
import HandS.Deep
import KE.KDictSum
import KE.KeyNested
import KE.KDictWalk
import KE.KDictList
import KE.GoesZip
import HandS.TryOnly
import HandS.ExcInit
import HandS.ExcField
import HandS.FStr
import HandS.Iter
import KE.DataMinMax
import HandS.Replace
import HandS.RaiseMore
import HandS.More
import HandS.HeadHook3
import HandS.Star
import PyProof.DictUpdate
import PySem.Challenge.RW_cotide_k49_texts_of_no_deed
set_option Elab.async false
set_option linter.all false
set_option maxRecDepth 100000
set_option maxHeartbeats 4000000
set_option Elab.async false
set_option linter.all false
set_option maxRecDepth 100000
set_option maxHeartbeats 4000000
/-! Data in two heaps: Hd, what is data and stays; H, all that stands now. -/
namespace Cot
open PySem L2 Evl
section
variable {K : PySem.W.Frag} {H H' Hd Hn H1 H2 Hm : Hp}
mutual
theorem dp_mono (e : Ex H H') : ∀ (d : PyData) {v : V}, Dp K H v d → Dp K H' v d
  | .none, _, h => by cases h; exact .non
  | .bool b, _, h => by cases h; exact .bl b
  | .int i, _, h => by cases h; exact .int i
  | .str x, _, h => by cases h; exact .str x
  | .list ds, _, h => by
    cases h with
    | lst hs ha => exact .lst (ex_l e hs) (dpa_mono e ds ha)
  | .tuple ds, _, h => by
    cases h with
    | tup hs ha => exact .tup (ex_t e hs) (dpa_mono e ds ha)
  | .dict _, _, h => by cases h
theorem dpa_mono (e : Ex H H') : ∀ (ds : List PyData) {vs : List V}, DpAll K H vs ds → DpAll K H' vs ds
  | [], _, h => by cases h; exact .nil
  | d :: ds, _, h => by
    cases h with
    | cons h1 h2 => exact .cons (dp_mono e d h1) (dpa_mono e ds h2)
end
theorem dpa_len : ∀ {vs : List V} {ds : List PyData}, DpAll K H vs ds → vs.length = ds.length
  | _, [], h => by cases h; rfl
  | _, d :: ds, h => by
    cases h with
    | cons h1 h2 => rw [List.length_cons, List.length_cons, dpa_len h2]
theorem dpa_get : ∀ {ds : List PyData} {vs : List V} {i : Nat} {d : PyData}, DpAll K H vs ds → ds[i]? = some d → ∃ v, vs[i]? = some v ∧ Dp K H v d
  | [], _, i, d, h, e => by simp at e
  | d0 :: ds, _, 0, d, h, e => by
    cases h with
    | cons h1 h2 =>
      have e' : d0 = d := Option.some.inj e
      subst e'
      exact ⟨_, rfl, h1⟩
  | d0 :: ds, _, i + 1, d, h, e => by
    cases h with
    | cons h1 h2 =>
      obtain ⟨v, q1, q2⟩ := dpa_get (i := i) h2 (by simpa using e)
      exact ⟨v, by simpa using q1, q2⟩
theorem dpa_get2 : ∀ {ds : List PyData} {vs : List V} {i : Nat} {v : V}, DpAll K H vs ds → vs[i]? = some v → ∃ d, ds[i]? = some d ∧ Dp K H v d
  | [], _, i, d, h, e => by cases h; simp at e
  | d0 :: ds, _, 0, v, h, e => by
    cases h with
    | cons h1 h2 =>
      have e' := Option.some.inj e
      subst e'
      exact ⟨_, rfl, h1⟩
  | d0 :: ds, _, i + 1, v, h, e => by
    cases h with
    | cons h1 h2 =>
      obtain ⟨v, q1, q2⟩ := dpa_get2 (i := i) h2 (by simpa using e)
      exact ⟨v, by simpa using q1, q2⟩
theorem dpa_at {ds : List PyData} {vs : List V} {i : Int} {d : PyData} (h : DpAll K H vs ds) (e : atI ds i = some d) : ∃ v, atI vs i = some v ∧ Dp K H v d := by
  unfold atI at e ⊢
  rw [dpa_len h]
  cases hx : ixN ds.length i with
  | none => rw [hx] at e; cases e
  | some j =>
    rw [hx] at e
    exact dpa_get h e
theorem dpa_app : ∀ {ds es : List PyData} {vs ws : List V}, DpAll K H vs ds → DpAll K H ws es → DpAll K H (vs ++ ws) (ds ++ es)
  | [], _, _, _, h, h2 => by cases h; exact h2
  | d :: ds, es, _, ws, h, h2 => by
    cases h with
    | cons a b => exact .cons a (dpa_app b h2)
theorem dpa_take : ∀ (n : Nat) {ds : List PyData} {vs : List V}, DpAll K H vs ds → DpAll K H (vs.take n) (ds.take n)
  | 0, _, _, _ => by rw [List.take_zero, List.take_zero]; exact .nil
  | n + 1, [], _, h => by cases h; exact .nil
  | n + 1, d :: ds, _, h => by
    cases h with
    | cons a b => exact .cons a (dpa_take n b)
theorem dpa_drop : ∀ (n : Nat) {ds : List PyData} {vs : List V}, DpAll K H vs ds → DpAll K H (vs.drop n) (ds.drop n)
  | 0, _, _, h => h
  | n + 1, [], _, h => by cases h; exact .nil
  | n + 1, d :: ds, _, h => by
    cases h with
    | cons a b => exact dpa_drop n b
theorem dpa_ints : ∀ (ns : List Int), DpAll K H (ns.map V.int) (ns.map PyData.int)
  | [] => .nil
  | n :: ns => .cons (.int n) (dpa_ints ns)
theorem dpa_bools : ∀ (ns : List Bool), DpAll K H (ns.map V.bl) (ns.map PyData.bool)
  | [] => .nil
  | n :: ns => .cons (.bl n) (dpa_bools ns)
theorem dpa_ints_inv : ∀ {ns : List Int} {vs : List V}, DpAll K H vs (ns.map PyData.int) → vs = ns.map V.int
  | [], _, h => by cases h; rfl
  | n :: ns, _, h => by
    cases h with
    | cons a b =>
      cases a
      rw [dpa_ints_inv b]
      rfl
theorem dpa_bools_inv : ∀ {ns : List Bool} {vs : List V}, DpAll K H vs (ns.map PyData.bool) → vs = ns.map V.bl
  | [], _, h => by cases h; rfl
  | n :: ns, _, h => by
    cases h with
    | cons a b =>
      cases a
      rw [dpa_bools_inv b]
      rfl

/-- Hd grows to Hn by new places alone, H to H2 -/
structure Gr (Hd H Hn H2 : Hp) : Prop where
  ex : Ex H H2
  dx : Ex Hd Hn
  sub : Ex Hn H2
  fr : ∀ a o, H a = some o → Hd a = none → Hn a = none
theorem Gr.refl (s : Ex Hd H) : Gr Hd H Hd H := ⟨Ex.refl _, Ex.refl _, s, fun _ _ _ h => h⟩
theorem Gr.trans (g1 : Gr Hd H Hn H1) (g2 : Gr Hn H1 Hm H2) : Gr Hd H Hm H2 := ⟨g1.ex.trans g2.ex, g1.dx.trans g2.dx, g2.sub, fun a o ha hd => g2.fr a o (g1.ex a o ha) (g1.fr a o ha hd)⟩
theorem Gr.ext (s : Ex Hd H) (e : Ex H H2) : Gr Hd H Hd H2 := ⟨e, Ex.refl _, s.trans e, fun _ _ _ h => h⟩
theorem Gr.pre (e : Ex H H1) (g : Gr Hd H1 Hn H2) : Gr Hd H Hn H2 := ⟨e.trans g.ex, g.dx, g.sub, fun a o ha hd => g.fr a o (e a o ha) hd⟩
theorem Gr.post (g : Gr Hd H Hn H1) (e : Ex H1 H2) : Gr Hd H Hn H2 := ⟨g.ex.trans e, g.dx, g.sub.trans e, g.fr⟩
theorem ex_upd2 {p : Addr} {o : HO} (s : Ex Hd H) : Ex (upd Hd p o) (upd H p o) := fun a u h => by
  by_cases e : a = p
  · subst e
    rw [upd_same] at h ⊢
    exact h
  · rw [upd_ne e] at h ⊢
    exact s a u h
theorem Gr.new {p : Addr} {o : HO} (s : Ex Hd H) (h : H p = none) : Gr Hd H (upd Hd p o) (upd H p o) :=
  ⟨Ex.new h, Ex.new (fresh_back s h), ex_upd2 s, fun a u ha hd => by rw [upd_ne (ne_of_none ha h)]; exact hd⟩
/-- a new place that is no data -/
theorem Gr.alloc {p : Addr} {o : HO} (s : Ex Hd H) (h : H p = none) : Gr Hd H Hd (upd H p o) := Gr.ext s (Ex.new h)

def un (A B : Hp) : Hp := fun a => match A a with | some o => some o | none => B a
theorem un_l {A B : Hp} : Ex A (un A B) := fun a o h => by unfold un; rw [h]
theorem un_r {A B C : Hp} (a : Ex A C) (b : Ex B C) : Ex B (un A B) := fun x o h => by
  unfold un
  cases hA : A x with
  | none => exact h
  | some u =>
    have h1 := a x u hA
    rw [b x o h] at h1
    exact h1.symm
theorem un_sub {A B C : Hp} (a : Ex A C) (b : Ex B C) : Ex (un A B) C := fun x o h => by
  unfold un at h
  cases hA : A x with
  | none => rw [hA] at h; exact b x o h
  | some u => rw [hA] at h; exact a x o (hA.trans h)
theorem Gr.up {Hd' : Hp} (e : Ex Hd Hd') (s : Ex Hd' H) (g : Gr Hd H Hn H2) : Gr Hd' H (un Hd' Hn) H2 :=
  ⟨g.ex, un_l, un_sub (s.trans g.ex) g.sub, fun a o ha hd => by
    unfold un
    rw [hd]
    exact g.fr a o ha (fresh_back e hd)⟩
theorem Gr.upr {Hd' : Hp} (e : Ex Hd Hd') (s : Ex Hd' H) (g : Gr Hd H Hn H2) : Ex Hn (un Hd' Hn) := un_r (s.trans g.ex) g.sub

/-! ### what evaluates to which data -/
def EvD (K : PySem.W.Frag) (te : TE) (σ : L2.St) (Hd : Hp) (d : PyData) : Prop := ∀ H, Ex Hd H → ∀ Q : VK, (∀ v H2 Hn, Gr Hd H Hn H2 → Dp K Hn v d → Q v H2) → te σ H Q
def EvDA (K : PySem.W.Frag) (ta : TA) (σ : L2.St) (Hd : Hp) (ds : List PyData) : Prop := ∀ H, Ex Hd H → ∀ Q : List V → Hp → Prop, (∀ vs H2 Hn, Gr Hd H Hn H2 → DpAll K Hn vs ds → Q vs H2) → ta σ H Q
/-- a new list -/
def EvN (K : PySem.W.Frag) (te : TE) (σ : L2.St) (Hd : Hp) (ds : List PyData) : Prop := ∀ H, Ex Hd H → ∀ Q : VK, (∀ p xs H2 Hn, Gr Hd H Hn H2 → H p = none → Hn p = none → H2 p = some (.lst xs) → DpAll K Hn xs ds → Q (.ref p) H2) → te σ H Q
end
section
variable {K : PySem.W.Frag} {σ : L2.St} {H H' Hd Hd' Hn H1 H2 : Hp} {ta tb te tx : TE} {t u : TT} {x y z v : V} {r : R2} {d : PyData} {ds : List PyData} {tr : TA}
theorem EvD.mono (e : Ex Hd Hd') (h : EvD K te σ Hd d) : EvD K te σ Hd' d := fun H s Q q => h H (e.trans s) Q fun v H2 Hn g hd => q v H2 _ (g.up e s) (dp_mono (g.upr e s) d hd)
theorem EvDA.mono (e : Ex Hd Hd') (h : EvDA K tr σ Hd ds) : EvDA K tr σ Hd' ds := fun H s Q q => h H (e.trans s) Q fun v H2 Hn g hd => q v H2 _ (g.up e s) (dpa_mono (g.upr e s) ds hd)
theorem EvN.mono (e : Ex Hd Hd') (h : EvN K te σ Hd ds) : EvN K te σ Hd' ds := fun H s Q q => h H (e.trans s) Q fun p xs H2 Hn g hp hn h2 hd => q p xs H2 _ (g.up e s) hp (by
  unfold un
  rw [fresh_back s hp]
  exact hn) h2 (dpa_mono (g.upr e s) ds hd)
theorem ed_ev (h : Ev te σ Hd v) (hd : Dp K Hd v d) : EvD K te σ Hd d := fun H s Q q => h H s Q fun H2 e => q v H2 Hd (Gr.ext s e) hd
theorem ed_var {i : Nat} (h : σ[i]? = some (some v)) (hd : Dp K Hd v d) : EvD K (tVar i) σ Hd d := ed_ev (ev_var h) hd
theorem ev_int {i : Int} (h : EvD K te σ Hd (.int i)) : Ev te σ Hd (.int i) := fun H s Q q => h H s Q fun v H2 Hn g hd => by cases hd; exact q H2 g.ex
theorem ev_bool {i : Bool} (h : EvD K te σ Hd (.bool i)) : Ev te σ Hd (.bl i) := fun H s Q q => h H s Q fun v H2 Hn g hd => by cases hd; exact q H2 g.ex
theorem ev_str {i : Str} (h : EvD K te σ Hd (.str i)) : Ev te σ Hd (.str i) := fun H s Q q => h H s Q fun v H2 Hn g hd => by cases hd; exact q H2 g.ex
theorem ev_none (h : EvD K te σ Hd .none) : Ev te σ Hd .non := fun H s Q q => h H s Q fun v H2 Hn g hd => by cases hd; exact q H2 g.ex
theorem ed_int {i : Int} (h : Ev te σ Hd (.int i)) : EvD K te σ Hd (.int i) := ed_ev h (.int i)
theorem ed_bool {i : Bool} (h : Ev te σ Hd (.bl i)) : EvD K te σ Hd (.bool i) := ed_ev h (.bl i)
theorem ed_str {i : Str} (h : Ev te σ Hd (.str i)) : EvD K te σ Hd (.str i) := ed_ev h (.str i)
theorem ed_non (h : Ev te σ Hd .non) : EvD K te σ Hd .none := ed_ev h .non
theorem eda_nil : EvDA K tNil σ Hd [] := fun H s _ q => q [] H Hd (Gr.refl s) .nil
theorem eda_cons (h : EvD K ta σ Hd d) (hr : EvDA K tr σ Hd ds) : EvDA K (tCons ta tr) σ Hd (d :: ds) := fun H s _ q =>
  h H s _ fun v H1 Hn g hd => hr.mono g.dx H1 g.sub _ fun vs H2 Hm g2 hds => q (v :: vs) H2 Hm (g.trans g2) (.cons (dp_mono g2.dx d hd) hds)
theorem ed_tup (h : EvDA K tr σ Hd ds) (hl : ds.length ≤ 100000) : EvD K (tTup tr) σ Hd (.tuple ds) := fun H s _ q =>
  h H s _ fun vs H1 Hn g hd => ⟨sz_of (by rw [dpa_len hd]; exact hl), fun p hp => q (.ref p) _ _ (g.trans (Gr.new g.sub hp)) (.tup (st_of upd_same) (dpa_mono (Ex.new (fresh_back g.sub hp)) ds hd))⟩
theorem en_lst (h : EvDA K tr σ Hd ds) (hl : ds.length ≤ 100000) : EvN K (tLst tr) σ Hd ds := fun H s _ q =>
  h H s _ fun vs H1 Hn g hd => ⟨sz_of (by rw [dpa_len hd]; exact hl), fun p hp => q p vs _ Hn (g.trans (Gr.alloc g.sub hp)) (fresh_back g.ex hp) (fresh_back g.sub hp) upd_same hd⟩
theorem ed_new (h : EvN K te σ Hd ds) : EvD K te σ Hd (.list ds) := fun H s _ q =>
  h H s _ fun p xs H2 Hn g hp hn h2 hd => q (.ref p) H2 (upd Hn p (.lst xs)) ⟨g.ex, g.dx.trans (Ex.new hn), fun a o ha => by
    by_cases e : a = p
    · subst e
      rw [upd_same] at ha
      exact h2.trans ha
    · rw [upd_ne e] at ha
      exact g.sub a o ha, fun a o ha hda => by
    rw [upd_ne (ne_of_none ha hp)]
    exact g.fr a o ha hda⟩ (.lst (sq_of upd_same) (dpa_mono (Ex.new hn) ds hd))
theorem ed_ixT {i : Int} (ha : EvD K ta σ Hd (.tuple ds)) (hi : Ev tb σ Hd (.int i)) (he : atI ds i = some d) : EvD K (tOp (rIxT K) ta tb) σ Hd d := fun H s Q q =>
  ha H s _ fun v H1 Hn g hd => hi.mono g.dx H1 g.sub _ fun H2 e2 => by
    cases hd with
    | @tup p xs ds hs hall =>
      obtain ⟨w, h1, h2⟩ := dpa_at hall he
      exact ⟨p, xs, i, w, rfl, rfl, ex_t (g.sub.trans e2) hs, h1, q w H2 Hn (g.post e2) h2⟩
theorem ed_ixL {i : Int} (ha : EvD K ta σ Hd (.list ds)) (hi : Ev tb σ Hd (.int i)) (he : atI ds i = some d) : EvD K (tOp (rIxL K) ta tb) σ Hd d := fun H s Q q =>
  ha H s _ fun v H1 Hn g hd => hi.mono g.dx H1 g.sub _ fun H2 e2 => by
    cases hd with
    | @lst p xs ds hs hall =>
      obtain ⟨w, h1, h2⟩ := dpa_at hall he
      exact ⟨p, xs, i, w, rfl, rfl, ex_l (g.sub.trans e2) hs, h1, q w H2 Hn (g.post e2) h2⟩
theorem ev_lenT (ha : EvD K ta σ Hd (.tuple ds)) : Ev (tCB (rLenS K) (tCons ta tNil)) σ Hd (.int (ds.length : Int)) := fun H s Q q =>
  ha H s _ fun v H1 Hn g hd => by
    cases hd with
    | @tup p xs ds hs hall => exact ⟨p, xs, rfl, Or.inr (ex_t g.sub hs), by rw [dpa_len hall]; exact q H1 g.ex⟩
theorem ev_lenL (ha : EvD K ta σ Hd (.list ds)) : Ev (tCB (rLenS K) (tCons ta tNil)) σ Hd (.int (ds.length : Int)) := fun H s Q q =>
  ha H s _ fun v H1 Hn g hd => by
    cases hd with
    | @lst p xs ds hs hall => exact ⟨p, xs, rfl, Or.inl (ex_l g.sub hs), by rw [dpa_len hall]; exact q H1 g.ex⟩

/-! ### promises: a pure def, by a relation of its data -/
def spF (K : PySem.W.Frag) (R : List PyData → PyData → Prop) : Sp := fun vs H Q _ => ∃ Hd ds d, Ex Hd H ∧ DpAll K Hd vs ds ∧ R ds d ∧ ∀ v H2 Hn, Gr Hd H Hn H2 → Dp K Hn v d → Q v H2
/-- the answer is a new list -/
def spN (K : PySem.W.Frag) (R : List PyData → List PyData → Prop) : Sp := fun vs H Q _ => ∃ Hd ds es, Ex Hd H ∧ DpAll K Hd vs ds ∧ R ds es ∧ ∀ p xs H2 Hn, Gr Hd H Hn H2 → H p = none → Hn p = none → H2 p = some (.lst xs) → DpAll K Hn xs es → Q (.ref p) H2
theorem ed_call {R : List PyData → PyData → Prop} {E : XK} (h : EvDA K tr σ Hd ds) (hr : R ds d) : EvD K (tCall (spF K R) [] E tr) σ Hd d := fun H s Q q =>
  h H s _ fun vs H2 Hn g hd => ⟨Hn, ds, d, g.sub, by rw [List.append_nil]; exact hd, hr, fun v H3 Hm g2 hv => q v H3 Hm (g.trans g2) hv⟩
theorem en_call {R : List PyData → List PyData → Prop} {es : List PyData} {E : XK} (h : EvDA K tr σ Hd ds) (hr : R ds es) : EvN K (tCall (spN K R) [] E tr) σ Hd es := fun H s Q q =>
  h H s _ fun vs H2 Hn g hd => ⟨Hn, ds, es, g.sub, by rw [List.append_nil]; exact hd, hr, fun p xs H3 Hm g2 hp hm h3 hv => q p xs H3 Hm (g.trans g2) (fresh_back g.ex hp) hm h3 hv⟩

/-! ### statements -/
variable {D : Ends} {tu tw tz : TS} {g : TG} {i : Nat}
def Go (t : TS) (D : Ends) (σ : L2.St) (H : Hp) : Prop := ∀ H2, Ex H H2 → t D σ H2
theorem Go.go (h : Go tz D σ H) : tz D σ H := h H (Ex.refl H)
theorem go_asg (h : Ev te σ H v) (k : Go tz D (σ.set i (some v)) H) : Go (tSeq (tAsg te (gName i)) tz) D σ H := fun H1 e1 => h H1 e1 _ fun H2 e2 => k H2 (e1.trans e2)
theorem go_asgD (s : Ex Hd H) (h : EvD K te σ Hd d) (k : ∀ v H' Hn, Gr Hd H Hn H' → Dp K Hn v d → Go tz D (σ.set i (some v)) H') : Go (tSeq (tAsg te (gName i)) tz) D σ H := fun H1 e1 =>
  h H1 (s.trans e1) _ fun v H2 Hn g hd => k v H2 Hn (g.pre e1) hd H2 (Ex.refl _)
theorem go_asgN (s : Ex Hd H) (h : EvN K te σ Hd ds) (k : ∀ p xs H' Hn, Gr Hd H Hn H' → H p = none → Hn p = none → H' p = some (.lst xs) → DpAll K Hn xs ds → Go tz D (σ.set i (some (.ref p))) H') : Go (tSeq (tAsg te (gName i)) tz) D σ H := fun H1 e1 =>
  h H1 (s.trans e1) _ fun p xs H2 Hn g hp hn h2 hd => k p xs H2 Hn (g.pre e1) (fresh_back e1 hp) hn h2 hd H2 (Ex.refl _)
theorem go_if {b : Bool} (h : EvT t σ H b) (h1 : b = true → Go tu { D with nx := tz D } σ H) (h2 : b = false → Go tw { D with nx := tz D } σ H) : Go (tSeq (tIfS t tu tw) tz) D σ H := fun H1 e1 => h H1 e1 _ fun H2 e2 => by
  cases b with
  | true =>
    show tu { D with nx := tz D } σ H2
    exact h1 rfl H2 (e1.trans e2)
  | false =>
    show tw { D with nx := tz D } σ H2
    exact h2 rfl H2 (e1.trans e2)
theorem go_when {b : Bool} (h : EvT t σ H b) (h1 : b = true → Go tu { D with nx := tz D } σ H) (h2 : b = false → Go tz D σ H) : Go (tSeq (tIfS t tu tNext) tz) D σ H := go_if h h1 h2
theorem go_next (k : ∀ H', Ex H H' → D.nx σ H') : Go tNext D σ H := k
theorem go_ret (s : Ex Hd H) (h : EvD K te σ Hd d) (k : ∀ v H' Hn, Gr Hd H Hn H' → Dp K Hn v d → D.rt v H') : Go (tSeq (tRet te) tz) D σ H := fun H1 e1 => h H1 (s.trans e1) _ fun v H2 Hn g hd => k v H2 Hn (g.pre e1) hd
theorem go_retN (s : Ex Hd H) (h : EvN K te σ Hd ds) (k : ∀ p xs H' Hn, Gr Hd H Hn H' → H p = none → Hn p = none → H' p = some (.lst xs) → DpAll K Hn xs ds → D.rt (.ref p) H') : Go (tSeq (tRet te) tz) D σ H := fun H1 e1 => h H1 (s.trans e1) _ fun p xs H2 Hn g hp hn h2 hd => k p xs H2 Hn (g.pre e1) (fresh_back e1 hp) hn h2 hd
theorem go_retV (h : Ev te σ H v) (k : ∀ H', Ex H H' → D.rt v H') : Go (tSeq (tRet te) tz) D σ H := fun H1 e1 => h H1 e1 _ fun H2 e2 => k H2 (e1.trans e2)
theorem go_drop (h : Ev te σ H v) (k : Go tz D σ H) : Go (tSeq (tDrop te) tz) D σ H := fun H1 e1 => h H1 e1 _ fun H2 e2 => k H2 (e1.trans e2)
theorem Go.mono (e : Ex H H') (h : Go tz D σ H) : Go tz D σ H' := fun H2 e2 => h H2 (e.trans e2)
/-- a chain of two comparisons of ints -/
theorem ev_chain {r' : R2} {tc : TE} {k : Bool} (ha : Ev ta σ H x) (hb : Ev tb σ H y) (hr : RV r x y H (.bl k)) (hc : k = true → Ev tc σ H z) (hr' : k = true → RV r' y z H v) (hv : k = false → v = .bl false) : Ev (tChain r r' ta tb tc) σ H v := fun H1 e1 Q q =>
  ha H1 e1 _ fun H2 e2 => hb H2 (e1.trans e2) _ fun H3 e3 => hr H3 ((e1.trans e2).trans e3) _ fun H4 e4 => ⟨k, rfl, by
    cases k with
    | true =>
      show tc σ H4 fun w' H5 => r' y w' H5 Q
      exact hc rfl H4 (((e1.trans e2).trans e3).trans e4) _ fun H5 e5 => hr' rfl H5 ((((e1.trans e2).trans e3).trans e4).trans e5) _ fun H6 e6 => q H6 ((((e2.trans e3).trans e4).trans e5).trans e6)
    | false =>
      show Q (.bl false) H4
      rw [← hv rfl]
      exact q H4 ((e2.trans e3).trans e4)⟩
end
end Cot
namespace Cot
open PySem L2 Evl
/-! ### defs of scalars -/
def spS (R : List V → V → Prop) : Sp := fun vs H Q _ => ∃ v, R vs v ∧ ∀ H2, Ex H H2 → Q v H2
section
variable {K : PySem.W.Frag} {σ : L2.St} {H H' Hd Hd' Hn H1 H2 : Hp} {ta tb tc te tx : TE} {t u : TT} {x y z v v' : V} {r r' : R2} {d : PyData} {ds : List PyData} {tr : TA} {D : Ends} {tu tw tz : TS} {g : TG} {i : Nat}
theorem ev_callS {R : List V → V → Prop} {vs : List V} {E : XK} (h : EvA tr σ H vs) (hr : R vs v) : Ev (tCall (spS R) [] E tr) σ H v := fun H1 e Q q =>
  h H1 e _ fun H2 e2 => ⟨v, by rw [List.append_nil]; exact hr, fun H3 e3 => q H3 (e2.trans e3)⟩
theorem go_retE (h : Ev te σ H v') (e : v' = v) (k : ∀ H', Ex H H' → D.rt v H') : Go (tSeq (tRet te) tz) D σ H := go_retV (by rw [← e]; exact h) k
theorem ev_chainB {k k' : Bool} (ha : Ev ta σ H x) (hb : Ev tb σ H y) (hr : RV r x y H (.bl k)) (hc : Ev tc σ H z) (hr' : RV r' y z H (.bl k')) : Ev (tChain r r' ta tb tc) σ H (.bl (k && k')) :=
  ev_chain ha hb hr (fun _ => hc) (fun e => by subst e; exact hr') (fun e => by subst e; rfl)
theorem ev_ifB {b : Bool} (h : EvT t σ H b) (h1 : Ev ta σ H x) (h2 : Ev tb σ H y) : Ev (tIf t ta tb) σ H (if b = true then x else y) := by
  refine ev_if h (fun e => ?_) (fun e => ?_)
  · rw [if_pos e]; exact h1
  · rw [if_neg (by rw [e]; decide)]; exact h2
theorem et_andB {a b : Bool} (h1 : EvT t σ H a) (h2 : EvT u σ H b) : EvT (tAnd t u) σ H (a && b) := et_and h1 fun _ => h2
theorem et_orB {a b : Bool} (h1 : EvT t σ H a) (h2 : EvT u σ H b) : EvT (tOr t u) σ H (a || b) := et_or h1 fun _ => h2
theorem ev_andB {a b : Bool} (h1 : Ev ta σ H (.bl a)) (h2 : Ev tb σ H (.bl b)) : Ev (tAndV ta tb) σ H (.bl (a && b)) := ev_andV h1 fun _ => h2
theorem ev_orB {a b : Bool} (h1 : Ev ta σ H (.bl a)) (h2 : Ev tb σ H (.bl b)) : Ev (tOrV ta tb) σ H (.bl (a || b)) := ev_orV h1 fun _ => h2
theorem rv_isN : RV (fun x y H Q => y = .non ∧ Q (.bl (decide (x = .non))) H) x .non H (.bl (decide (x = .non))) := fun H1 _ _ q => ⟨rfl, q H1 (Ex.refl H1)⟩
end
end Cot

set_option Elab.async false
set_option linter.all false
set_option maxRecDepth 100000
set_option maxHeartbeats 4000000
/-! A box of draws: a list that changes; all else grows. -/
namespace Cot
open PySem L2 Evl
section
variable {K : PySem.W.Frag} {X : Cx}
theorem call_lenQ : CallR X (.builtin "len") (rLenS X.K) := call_len_seq
theorem call_listQ : CallR X (.type "list") (rListS X.K) := call_list_of
def BoxL (xs : List V) (ca : Addr) : Prop := ∃ pos rest turn seed : Int, xs = [.ref ca, .int pos, .int rest, .int turn, .int seed] ∧ 0 ≤ pos
/-- a box: its own place, and that of its cells -/
structure Bid where
  b : Addr
  ca : Addr
def Bx (H : Hp) (b : Bid) : Prop := ∃ (cells : List Int) (xs : List V), H b.b = some (.lst xs) ∧ BoxL xs b.ca ∧ H b.ca = some (.lst (cells.map V.int)) ∧ cells.length ≤ 63
theorem Bx.mono {H H' : Hp} {b : Bid} (e : Ex H H') (B : Bx H b) : Bx H' b := by
  obtain ⟨cells, xs, h1, h2, h3, h4⟩ := B
  exact ⟨cells, xs, e _ _ h1, h2, e _ _ h3, h4⟩
theorem Bx.some {H : Hp} {b : Bid} (B : Bx H b) : ∃ o, H b.b = Option.some o := by
  obtain ⟨cells, xs, h1, h2, h3, h4⟩ := B
  exact ⟨_, h1⟩
theorem Bx.keep {H : Hp} {b : Bid} {l : Addr} {o : HO} (B : Bx H b) (n1 : l ≠ b.b) (n2 : l ≠ b.ca) : Bx (upd H l o) b := by
  obtain ⟨cells, xs, h1, h2, h3, h4⟩ := B
  exact ⟨cells, xs, by rw [upd_ne n1.symm]; exact h1, h2, by rw [upd_ne n2.symm]; exact h3, h4⟩
theorem Bx.cell {H : Hp} {b : Bid} (B : Bx H b) : ∃ o, H b.ca = Option.some o := by
  obtain ⟨cells, xs, h1, h2, h3, h4⟩ := B
  exact ⟨_, h3⟩
theorem Bx.apart {H : Hp} {b : Bid} {l : Addr} (B : Bx H b) (h : H l = none) : l ≠ b.b ∧ l ≠ b.ca := by
  obtain ⟨o, h1⟩ := B.some
  obtain ⟨o2, h2⟩ := B.cell
  exact ⟨(ne_of_none h1 h).symm, (ne_of_none h2 h).symm⟩
structure GrB (b : Bid) (Hd H Hn H2 : Hp) : Prop where
  exb : ∀ a o, a ≠ b.b → H a = some o → H2 a = some o
  dx : Ex Hd Hn
  sub : Ex Hn H2
  fr : ∀ a o, H a = some o → Hd a = none → Hn a = none
  bx : Bx H2 b
variable {b : Bid} {H H' Hd Hd' Hn H1 H2 Hm : Hp}
theorem GrB.bn (g : GrB b Hd H Hn H2) (hb : Hd b.b = none) (B : Bx H b) : Hn b.b = none := by
  obtain ⟨o, h⟩ := B.some
  exact g.fr b.b o h hb
theorem GrB.of (g : Gr Hd H Hn H2) (B : Bx H b) : GrB b Hd H Hn H2 := ⟨fun a o _ h => g.ex a o h, g.dx, g.sub, g.fr, B.mono g.ex⟩
theorem GrB.trans (g1 : GrB b Hd H Hn H1) (g2 : GrB b Hn H1 Hm H2) (hb : Hd b.b = none) (B : Bx H b) : GrB b Hd H Hm H2 :=
  ⟨fun a o n h => g2.exb a o n (g1.exb a o n h), g1.dx.trans g2.dx, g2.sub, fun a o h hd => by
    by_cases e : a = b.b
    · rw [e]
      exact g2.bn (g1.bn hb B) g1.bx
    · exact g2.fr a o (g1.exb a o e h) (g1.fr a o h hd), g2.bx⟩
theorem GrB.pre (e : Ex H H1) (g : GrB b Hd H1 Hn H2) : GrB b Hd H Hn H2 := ⟨fun a o n h => g.exb a o n (e a o h), g.dx, g.sub, fun a o ha hd => g.fr a o (e a o ha) hd, g.bx⟩
theorem GrB.up (e : Ex Hd Hd') (s : Ex Hd' H) (hb : Hd' b.b = none) (g : GrB b Hd H Hn H2) : GrB b Hd' H (un Hd' Hn) H2 ∧ Ex Hn (un Hd' Hn) := by
  have s2 : Ex Hd' H2 := fun a o h => g.exb a o (ne_of_none h hb) (s a o h)
  exact ⟨⟨g.exb, un_l, un_sub s2 g.sub, fun a o ha hd => by
    unfold un
    rw [hd]
    exact g.fr a o ha (fresh_back e hd), g.bx⟩, un_r s2 g.sub⟩
def EvB (K : PySem.W.Frag) (b : Bid) (te : TE) (σ : L2.St) (Hd : Hp) (P : PyData → Prop) : Prop := Hd b.b = none → ∀ H, Ex Hd H → Bx H b → ∀ Q : VK, (∀ v H2 Hn d, GrB b Hd H Hn H2 → Dp K Hn v d → P d → Q v H2) → te σ H Q
def EvBA (K : PySem.W.Frag) (b : Bid) (ta : TA) (σ : L2.St) (Hd : Hp) (P : List PyData → Prop) : Prop := Hd b.b = none → ∀ H, Ex Hd H → Bx H b → ∀ Q : List V → Hp → Prop, (∀ vs H2 Hn ds, GrB b Hd H Hn H2 → DpAll K Hn vs ds → P ds → Q vs H2) → ta σ H Q
def isI (p : Int → Prop) (d : PyData) : Prop := ∃ i, d = .int i ∧ p i
/-- a def that draws: its first argument the box -/
def spB (K : PySem.W.Frag) (Pre : List PyData → Prop) (P : List PyData → PyData → Prop) : Sp := fun vs H Q _ => ∃ b ws Hd ds, vs = .ref b.b :: ws ∧ Hd b.b = none ∧ Ex Hd H ∧ Bx H b ∧ DpAll K Hd ws ds ∧ Pre ds ∧ ∀ v H2 Hn d, GrB b Hd H Hn H2 → Dp K Hn v d → P ds d → Q v H2
variable {σ : L2.St} {ta tb tc te tx : TE} {t u : TT} {x y z v v' : V} {r r' : R2} {d : PyData} {ds : List PyData} {tr : TA} {D : Ends} {tu tw tz : TS} {i : Nat} {P P' : PyData → Prop} {Ps : List PyData → Prop} {p p' : Int → Prop}
theorem EvB.mono (e : Ex Hd Hd') (h : EvB K b te σ Hd P) : EvB K b te σ Hd' P := fun hb H s B Q q => h (fresh_back e hb) H (e.trans s) B Q fun v H2 Hn d g hd hp =>
  q v H2 _ d (g.up e s hb).1 (dp_mono (g.up e s hb).2 d hd) hp
theorem EvBA.mono (e : Ex Hd Hd') (h : EvBA K b tr σ Hd Ps) : EvBA K b tr σ Hd' Ps := fun hb H s B Q q => h (fresh_back e hb) H (e.trans s) B Q fun v H2 Hn d g hd hp =>
  q v H2 _ d (g.up e s hb).1 (dpa_mono (g.up e s hb).2 d hd) hp
theorem EvB.imp (h : EvB K b te σ Hd P) (k : ∀ d, P d → P' d) : EvB K b te σ Hd P' := fun hb H s B Q q => h hb H s B Q fun v H2 Hn d g hd hp => q v H2 Hn d g hd (k d hp)
theorem eb_ed (h : EvD K te σ Hd d) : EvB K b te σ Hd (fun d' => d' = d) := fun hb H s B Q q => h H s Q fun v H2 Hn g hd => q v H2 Hn d (GrB.of g B) hd rfl
theorem eb_ev {n : Int} (h : Ev te σ Hd (.int n)) : EvB K b te σ Hd (isI fun m => m = n) := (eb_ed (ed_int h)).imp fun d e => ⟨n, e, rfl⟩
theorem eba_nil : EvBA K b tNil σ Hd (fun ds => ds = []) := fun hb H s B Q q => q [] H Hd [] (GrB.of (Gr.refl s) B) .nil rfl
theorem eba_cons (h : EvB K b ta σ Hd P) (hr : EvBA K b tr σ Hd Ps) : EvBA K b (tCons ta tr) σ Hd (fun ds => ∃ d es, ds = d :: es ∧ P d ∧ Ps es) := fun hb H s B Q q =>
  h hb H s B _ fun v H1 Hn d g hd hp => hr.mono g.dx (g.bn hb B) H1 g.sub g.bx _ fun vs H2 Hm es g2 hes hps => q (v :: vs) H2 Hm (d :: es) (g.trans g2 hb B) (.cons (dp_mono g2.dx d hd) hes) ⟨d, es, rfl, hp, hps⟩
theorem eb_call {Pre : List PyData → Prop} {R : List PyData → PyData → Prop} {E : XK} (ha : Ev ta σ Hd (.ref b.b)) (h : EvBA K b tr σ Hd Ps) (hp : ∀ ds, Ps ds → Pre ds) : EvB K b (tCall (spB K Pre R) [] E (tCons ta tr)) σ Hd (fun d => ∃ ds, Ps ds ∧ R ds d) := fun hb H s B Q q =>
  ha H s _ fun H1 e1 => h hb H1 (s.trans e1) (B.mono e1) _ fun vs H2 Hn ds g hds hps => ⟨b, vs, Hn, ds, by rw [List.append_nil], g.bn hb (B.mono e1), g.sub, g.bx, hds, hp ds hps, fun v H3 Hm d g2 hd hR =>
    q v H3 Hm d ((g.trans g2 hb (B.mono e1)).pre e1) hd ⟨ds, hps, hR⟩⟩
theorem eb_opI {gg : Int → Int → V} {f : Int → Int → Int} (hg : ∀ i j, gg i j = .int (f i j)) {C : Int → Int → Prop} (ha : EvB K b ta σ Hd (isI p)) (hb' : EvB K b tb σ Hd (isI p')) (hc : ∀ i j, p i → p' j → C i j) : EvB K b (tOp (rI C gg) ta tb) σ Hd (isI fun k => ∃ i j, p i ∧ p' j ∧ k = f i j) := fun hb H s B Q q =>
  ha hb H s B _ fun v H1 Hn d g hd hp => hb'.mono g.dx (g.bn hb B) H1 g.sub g.bx _ fun v2 H2 Hm d2 g2 hd2 hp2 => by
    obtain ⟨i, rfl, pi⟩ := hp
    obtain ⟨j, rfl, pj⟩ := hp2
    cases hd
    cases hd2
    refine ⟨i, j, rfl, rfl, hc i j pi pj, ?_⟩
    rw [hg]
    exact q _ H2 Hm (.int (f i j)) (g.trans g2 hb B) (.int _) ⟨_, rfl, i, j, pi, pj, rfl⟩
theorem eb_opI0 {gg : Int → Int → V} {f : Int → Int → Int} (hg : ∀ i j, gg i j = .int (f i j)) (ha : EvB K b ta σ Hd (isI p)) (hb' : EvB K b tb σ Hd (isI p')) : EvB K b (tOp (rI0 gg) ta tb) σ Hd (isI fun k => ∃ i j, p i ∧ p' j ∧ k = f i j) := fun hb H s B Q q =>
  ha hb H s B _ fun v H1 Hn d g hd hp => hb'.mono g.dx (g.bn hb B) H1 g.sub g.bx _ fun v2 H2 Hm d2 g2 hd2 hp2 => by
    obtain ⟨i, rfl, pi⟩ := hp
    obtain ⟨j, rfl, pj⟩ := hp2
    cases hd
    cases hd2
    refine ⟨i, j, rfl, rfl, ?_⟩
    rw [hg]
    exact q _ H2 Hm (.int (f i j)) (g.trans g2 hb B) (.int _) ⟨_, rfl, i, j, pi, pj, rfl⟩
theorem eb_lst (h : EvBA K b tr σ Hd Ps) (hl : ∀ ds, Ps ds → ds.length ≤ 100000) : EvB K b (tLst tr) σ Hd (fun d => ∃ ds, d = .list ds ∧ Ps ds) := fun hb H s B Q q =>
  h hb H s B _ fun vs H1 Hn ds g hd hp => ⟨sz_of (by rw [dpa_len hd]; exact hl ds hp), fun a ha => q (.ref a) _ _ (.list ds) (g.trans (GrB.of (Gr.new g.sub ha) g.bx) hb B) (.lst (sq_of upd_same) (dpa_mono (Ex.new (fresh_back g.sub ha)) ds hd)) ⟨ds, rfl, hp⟩⟩
theorem eb_tup (h : EvBA K b tr σ Hd Ps) (hl : ∀ ds, Ps ds → ds.length ≤ 100000) : EvB K b (tTup tr) σ Hd (fun d => ∃ ds, d = .tuple ds ∧ Ps ds) := fun hb H s B Q q =>
  h hb H s B _ fun vs H1 Hn ds g hd hp => ⟨sz_of (by rw [dpa_len hd]; exact hl ds hp), fun a ha => q (.ref a) _ _ (.tuple ds) (g.trans (GrB.of (Gr.new g.sub ha) g.bx) hb B) (.tup (st_of upd_same) (dpa_mono (Ex.new (fresh_back g.sub ha)) ds hd)) ⟨ds, rfl, hp⟩⟩
theorem eb_ixL (ha : EvB K b ta σ Hd (fun d => ∃ ds, d = .list ds ∧ Ps ds)) (hi : EvB K b tb σ Hd (isI p)) (he : ∀ ds i, Ps ds → p i → ∃ d, atI ds i = some d) : EvB K b (tOp (rIxL K) ta tb) σ Hd (fun d => ∃ ds i, Ps ds ∧ p i ∧ atI ds i = some d) := fun hb H s B Q q =>
  ha hb H s B _ fun v H1 Hn d g hd hp => hi.mono g.dx (g.bn hb B) H1 g.sub g.bx _ fun v2 H2 Hm d2 g2 hd2 hp2 => by
    obtain ⟨ds, rfl, ps⟩ := hp
    obtain ⟨i, rfl, pi⟩ := hp2
    cases hd2
    cases dp_mono g2.dx _ hd with
    | @lst pa xs ds hs hall =>
      obtain ⟨d, hd⟩ := he ds i ps pi
      obtain ⟨w, h1, h2⟩ := dpa_at hall hd
      exact ⟨pa, xs, i, w, rfl, rfl, ex_l g2.sub hs, h1, q w H2 Hm d (g.trans g2 hb B) h2 ⟨ds, i, ps, pi, hd⟩⟩
theorem go_asgB (hb : Hd b.b = none) (s : Ex Hd H) (B : Bx H b) (h : EvB K b te σ Hd P) (k : ∀ v H' Hn d, GrB b Hd H Hn H' → Dp K Hn v d → P d → Go tz D (σ.set i (some v)) H') : Go (tSeq (tAsg te (gName i)) tz) D σ H := fun H1 e1 =>
  h hb H1 (s.trans e1) (B.mono e1) _ fun v H2 Hn d g hd hp => k v H2 Hn d (g.pre e1) hd hp H2 (Ex.refl _)
theorem go_retB (hb : Hd b.b = none) (s : Ex Hd H) (B : Bx H b) (h : EvB K b te σ Hd P) (k : ∀ v H' Hn d, GrB b Hd H Hn H' → Dp K Hn v d → P d → D.rt v H') : Go (tSeq (tRet te) tz) D σ H := fun H1 e1 =>
  h hb H1 (s.trans e1) (B.mono e1) _ fun v H2 Hn d g hd hp => k v H2 Hn d (g.pre e1) hd hp
theorem go_setL {l : Addr} {xs : List V} {j : Nat} (hl : H l = some (.lst xs)) (h : Ev te σ H v) (ho : Ev ta σ H (.ref l)) (hi : Ev tb σ H (.int (j : Int))) (hj : j < xs.length) (k : Go tz D σ (upd H l (.lst (xs.set j v)))) :
    Go (tSeq (tAsg te (gSub ta tb rSetL)) tz) D σ H := fun H1 e1 => q_setL (e1 _ _ hl) (h.mono e1) (ho.mono e1) (hi.mono e1) hj fun H2 e2 => k _ (ex_upd2 (e1.trans e2))
theorem go_app {l : Addr} {xs : List V} (hl : H l = some (.lst xs)) (ha : Ev ta σ H (.ref l)) (h : Ev te σ H v) (hz : xs.length < 100000) (k : Go tz D σ (upd H l (.lst (xs ++ [v])))) :
    Go (tSeq (tDrop (tBM K "list" rAppend ta (tCons te tNil))) tz) D σ H := fun H1 e1 => q_app (e1 _ _ hl) (ha.mono e1) (h.mono e1) hz fun H2 e2 => k _ (ex_upd2 (e1.trans e2))
end
end Cot

set_option Elab.async false
set_option linter.all false
set_option maxRecDepth 100000
set_option maxHeartbeats 4000000
/-! What is walked, and comprehensions over it. -/
namespace Cot
open PySem L2 Evl RZ
section
variable {K : PySem.W.Frag} {X : Cx} {H H' Hd Hd' Hn H1 H2 Hm : Hp} {σ : L2.St} {ta tb tc te tx tl : TE} {t u tt : TT} {x y z v v' : V} {d : PyData} {ds es : List PyData} {tr : TA} {D : Ends} {tu tw tz : TS} {i j j2 n : Nat} {wi : TI} {g : TG}
/-- what is walked: n turns; S tells the slots behind the target, by the turn and the slots ahead -/
def EvI (K : PySem.W.Frag) (wi : TI) (g : TG) (σ : L2.St) (Hd : Hp) (n : Nat) (S : Nat → L2.St → L2.St → Hp → Prop) : Prop := ∀ H, Ex Hd H → ∀ R : It → Hp → Prop,
  (∀ J H2 Hn (G : Hp → Prop) (Y : Nat → Hp → V → Hp → Prop), Gr Hd H Hn H2 → Walk J n G Y → (∀ H', Ex Hn H' → G H') →
    (∀ (i : Nat) (x : V) (H' H'' : Hp) (σ' : L2.St) (k : L2.St → Hp → Prop), i < n → Ex Hn H' → Y i H' x H'' → (∀ σ2 H3, Ex H' H3 → S i σ' σ2 Hn → k σ2 H3) → g x σ' H'' k) → R J H2) → wi σ H R
def SName (K : PySem.W.Frag) (j : Nat) (ds : List PyData) (i : Nat) (σ' σ2 : L2.St) (Hn : Hp) : Prop := ∃ v d, ds[i]? = some d ∧ Dp K Hn v d ∧ σ2 = σ'.set j (some v)
def SPair (K : PySem.W.Frag) (j j2 : Nat) (f f2 : Nat → Option PyData) (i : Nat) (σ' σ2 : L2.St) (Hn : Hp) : Prop := ∃ v v2 d d2, f i = some d ∧ f2 i = some d2 ∧ Dp K Hn v d ∧ Dp K Hn v2 d2 ∧ σ2 = (σ'.set j (some v)).set j2 (some v2)
def SInt (j : Nat) (lo : Int) (i : Nat) (σ' σ2 : L2.St) (_ : Hp) : Prop := σ2 = σ'.set j (some (.int (lo + (i : Int))))
theorem ei_list (h : EvD K tl σ Hd (.list ds)) : EvI K (iList K tl) (gName j) σ Hd ds.length (SName K j ds) := fun H s R r =>
  h H s _ fun v H2 Hn g hd => by
    cases hd with
    | @lst a xs ds hs hall =>
      refine ⟨a, rfl, ⟨xs, ex_l g.sub hs⟩, r _ H2 Hn _ _ g (by rw [← dpa_len hall]; exact walk_list) (fun H' e => ex_l e hs) fun i x H' H'' σ' k hi e y q => ?_⟩
      obtain ⟨rfl, hx⟩ := y
      obtain ⟨d, h1, h2⟩ := dpa_get2 hall hx
      exact q _ _ (Ex.refl _) ⟨x, d, h1, h2, rfl⟩
theorem ei_tup (h : EvD K tl σ Hd (.tuple ds)) : EvI K (iTup K tl) (gName j) σ Hd ds.length (SName K j ds) := fun H s R r =>
  h H s _ fun v H2 Hn g hd => by
    cases hd with
    | @tup a xs ds hs hall =>
      refine ⟨a, rfl, ⟨xs, ex_t g.sub hs⟩, r _ H2 Hn _ _ g (by rw [← dpa_len hall]; exact walk_tup) (fun H' e => ex_t e hs) fun i x H' H'' σ' k hi e y q => ?_⟩
      obtain ⟨rfl, hx⟩ := y
      obtain ⟨d, h1, h2⟩ := dpa_get2 hall hx
      exact q _ _ (Ex.refl _) ⟨x, d, h1, h2, rfl⟩
theorem ei_range1 {m : Int} (h : EvA tr σ Hd [.int m]) (hm : -100000 ≤ m ∧ m ≤ 100000) : EvI K (iRng1 tr) (gName j) σ Hd m.toNat (SInt j 0) := fun H s R r =>
  h H s _ fun H2 e2 => ⟨m, rfl, by omega, by omega, r _ H2 Hd _ _ (Gr.ext s e2) walk_range (fun _ _ => trivial) fun i x H' H'' σ' k hi e y q => by
    obtain ⟨rfl, rfl⟩ := y
    exact q _ _ (Ex.refl _) rfl⟩
theorem ei_range2 {lo m : Int} (h : EvA tr σ Hd [.int lo, .int m]) (hl : -100000 ≤ lo ∧ lo ≤ 100000) (hm : -100000 ≤ m ∧ m ≤ 100000) : EvI K (iRng2 tr) (gName j) σ Hd (m - lo).toNat (SInt j lo) := fun H s R r =>
  h H s _ fun H2 e2 => ⟨lo, m, rfl, ⟨by omega, by omega, by omega, by omega⟩, r _ H2 Hd _ _ (Gr.ext s e2) walk_range (fun _ _ => trivial) fun i x H' H'' σ' k hi e y q => by
    obtain ⟨rfl, rfl⟩ := y
    exact q _ _ (Ex.refl _) rfl⟩
/-- the target of a pair: two names -/
abbrev g2 (K : PySem.W.Frag) (j j2 : Nat) : TG := gTup K 2 (gCons (gName j) (gCons (gName j2) gNil))
theorem pair_turn {f f2 : Nat → Option V} {fd fd2 : Nat → Option PyData} {x : V} {H' H'' : Hp} {σ' : L2.St} {k : L2.St → Hp → Prop} (hf : ∀ v, f i = some v → ∃ d, fd i = some d ∧ Dp K Hn v d) (hf2 : ∀ v, f2 i = some v → ∃ d, fd2 i = some d ∧ Dp K Hn v d)
    (y : YPair f f2 i H' x H'') (q : ∀ σ2 H3, Ex H' H3 → SPair K j j2 fd fd2 i σ' σ2 Hn → k σ2 H3) : g2 K j j2 x σ' H'' k := by
  obtain ⟨T, a, b, rfl, hT, rfl, h1, h2⟩ := y
  obtain ⟨d, e1, q1⟩ := hf a h1
  obtain ⟨d2, e2, q2⟩ := hf2 b h2
  exact ⟨T, [a, b], rfl, st_of upd_same, rfl, a, [b], rfl, b, [], rfl, rfl, q _ _ (Ex.new hT) ⟨a, b, d, d2, e1, e2, q1, q2, rfl⟩⟩
theorem ei_zipL (h : EvDA K tr σ Hd [.list ds, .list es]) (hl : ds.length = es.length) : EvI K (iZipA K tr) (g2 K j j2) σ Hd ds.length (SPair K j j2 (fun i => ds[i]?) (fun i => es[i]?)) := fun H s R r =>
  h H s _ fun vs H2 Hn g hd => by
    cases hd with
    | cons h1 h2 =>
      cases h2 with
      | cons h2 h3 =>
        cases h3
        cases h1 with
        | @lst a xs ds hs hall =>
          cases h2 with
          | @lst b ys es hs2 hall2 =>
            refine ⟨a, b, xs, ys, rfl, Or.inl ⟨ex_l g.sub hs, ex_l g.sub hs2, r _ H2 Hn _ _ g (walk_zip (xs := xs) (ys := ys) (by rw [dpa_len hall, dpa_len hall2]; omega)) (fun H' e => ⟨ex_l e hs, ex_l e hs2⟩) fun i x H' H'' σ' k hi e y q => ?_⟩⟩
            exact pair_turn (fun v e => dpa_get2 hall e) (fun v e => dpa_get2 hall2 e) y q
theorem walk_zipT {a b : Addr} {xs ys : List V} {n : Nat} (hn : n = min xs.length ys.length) : Walk (ItzT K a b) n (fun H => SqT K H a xs ∧ SqT K H b ys) (YPair (fun i => xs[i]?) (fun i => ys[i]?)) := by
  subst hn
  refine ⟨fun i _ hi q => ?_, fun _ q => ⟨xs, ys, q.1, q.2, by omega⟩, fun i H v H' _ q y => ?_⟩
  · have h1 : i < xs.length := by omega
    have h2 : i < ys.length := by omega
    exact ⟨xs, ys, xs[i], ys[i], q.1, q.2, by simp [h1], by simp [h2]⟩
  · obtain ⟨T, x, z, h1, h2, h3, h4, h5⟩ := y
    exact ⟨T, x, z, h1, h2, h3, h4 xs q.1, h5 ys q.2⟩
theorem ei_zipT (h : EvDA K tr σ Hd [.tuple ds, .tuple es]) (hl : ds.length = es.length) : EvI K (iZipA K tr) (g2 K j j2) σ Hd ds.length (SPair K j j2 (fun i => ds[i]?) (fun i => es[i]?)) := fun H s R r =>
  h H s _ fun vs H2 Hn g hd => by
    cases hd with
    | cons h1 h2 =>
      cases h2 with
      | cons h2 h3 =>
        cases h3
        cases h1 with
        | @tup a xs ds hs hall =>
          cases h2 with
          | @tup b ys es hs2 hall2 =>
            refine ⟨a, b, xs, ys, rfl, Or.inr ⟨ex_t g.sub hs, ex_t g.sub hs2, r _ H2 Hn _ _ g (walk_zipT (xs := xs) (ys := ys) (by rw [dpa_len hall, dpa_len hall2]; omega)) (fun H' e => ⟨ex_t e hs, ex_t e hs2⟩) fun i x H' H'' σ' k hi e y q => ?_⟩⟩
            exact pair_turn (fun v e => dpa_get2 hall e) (fun v e => dpa_get2 hall2 e) y q
theorem ei_enum (h : EvDA K tr σ Hd [.list ds]) : EvI K (iEnum K tr) (g2 K j j2) σ Hd ds.length (SPair K j j2 (fun i => some (.int (i : Int))) (fun i => ds[i]?)) := fun H s R r =>
  h H s _ fun vs H2 Hn g hd => by
    cases hd with
    | cons h1 h2 =>
      cases h2
      cases h1 with
      | @lst a xs ds hs hall =>
        refine ⟨a, xs, rfl, ex_l g.sub hs, r _ H2 Hn _ _ g (by rw [← dpa_len hall]; exact walk_enum) (fun H' e => ex_l e hs) fun i x H' H'' σ' k hi e y q => ?_⟩
        refine pair_turn (fun v e => ?_) (fun v e => dpa_get2 hall e) y q
        cases e
        exact ⟨_, rfl, .int _⟩

/-! ### comprehensions -/
def givenD (n : Nat) (f : Nat → Bool) (v : Nat → PyData) : List PyData := ((List.range n).filter f).map v
theorem givenD_yes {f : Nat → Bool} {v : Nat → PyData} (h : f n = true) : givenD (n + 1) f v = givenD n f v ++ [v n] := by
  unfold givenD
  rw [List.range_succ, List.filter_append, List.map_append, List.filter_cons, if_pos h] <;> rfl
theorem givenD_no {f : Nat → Bool} {v : Nat → PyData} (h : f n = false) : givenD (n + 1) f v = givenD n f v := by
  unfold givenD
  rw [List.range_succ, List.filter_append, List.map_append, List.filter_cons, if_neg (by rw [h]; decide)]
  show _ ++ [] = _
  rw [List.append_nil]
theorem givenD_len (n : Nat) (f : Nat → Bool) (v : Nat → PyData) : (givenD n f v).length ≤ n := by
  unfold givenD
  rw [List.length_map]
  have h := List.length_filter_le f (List.range n)
  rw [List.length_range] at h
  exact h
theorem givenD_all (n : Nat) (v : Nat → PyData) : givenD n (fun _ => true) v = (List.range n).map v := by
  unfold givenD
  rw [List.filter_eq_self.mpr (fun _ _ => rfl)]
theorem range_get (ds : List PyData) (F : PyData → PyData) : (List.range ds.length).map (fun i => F (ds[i]?.getD .none)) = ds.map F := by
  apply List.ext_getElem
  · simp
  · intro i h1 h2
    simp at h1 h2 ⊢
    rw [List.getElem?_eq_getElem h1]
    rfl
theorem et_yes : EvT tYes σ H true := fun H1 e Q q => q H1 (Ex.refl H1)
theorem en_lc {S : Nat → L2.St → L2.St → Hp → Prop} {vs : List Nat} (h : EvI K wi g σ Hd n S) (hn : n ≤ 40000) (f : Nat → Bool) (v : Nat → PyData)
    (ht : ∀ (i : Nat) (σ2 : L2.St) (Hn : Hp), i < n → Ex Hd Hn → S i (wipe σ vs) σ2 Hn → wipe σ2 vs = wipe σ vs ∧ EvT tt σ2 Hn (f i) ∧ (f i = true → EvD K te σ2 Hn (v i))) : EvN K (tLc wi g tt te vs) σ Hd (givenD n f v) := fun H s Q q =>
  h H s _ fun J H1 Hn G Y gr w hG hY Dl hD => by
    refine lc_it w (fun i H' => i ≤ n ∧ ∃ Hm acc, Gr Hn H1 Hm H' ∧ Hm Dl = none ∧ H' Dl = some (.lst acc) ∧ DpAll K Hm acc (givenD i f v)) ⟨Nat.zero_le _, Hn, [], Gr.alloc gr.sub hD, fresh_back gr.sub hD, upd_same, .nil⟩ (fun i H' _ p => ?_) (fun i x H' H'' hi p y => ?_) (fun H' p => ?_)
    · obtain ⟨_, Hm, acc, g1, _⟩ := p
      exact hG H' (g1.dx.trans g1.sub)
    · obtain ⟨_, Hm, acc, g1, hm, h2, hac⟩ := p
      refine hY i x H' H'' _ _ hi (g1.dx.trans g1.sub) y fun σ2 H3 e3 hS => ?_
      obtain ⟨hw, hT, hE⟩ := ht i σ2 Hn hi gr.dx hS
      refine ⟨hw, hT H3 ((g1.dx.trans g1.sub).trans e3) _ fun H4 e4 => ?_⟩
      have al : acc.length < sizeLine := sz_lt (by have := givenD_len i f v; rw [dpa_len hac]; omega)
      cases hf : f i with
      | false =>
        show (i + 1 ≤ n ∧ _)
        refine ⟨hi, Hm, acc, g1.post (e3.trans e4), hm, (e3.trans e4) _ _ h2, ?_⟩
        rw [givenD_no hf]
        exact hac
      | true =>
        show te σ2 H4 _
        refine ((hE hf).mono g1.dx) H4 ((g1.sub.trans e3).trans e4) _ fun y H5 Ho g5 hy => ?_
        have h4 : H4 Dl = some (.lst acc) := (e3.trans e4) _ _ h2
        have ho : Ho Dl = none := g5.fr _ _ h4 hm
        have hD1 : H1 Dl = none := hD
        refine ⟨acc, g5.ex _ _ h4, al, hi, Ho, acc ++ [y], ⟨Ex.mut ((g1.ex.trans (e3.trans e4)).trans g5.ex) hD1, g1.dx.trans g5.dx, Ex.mut g5.sub ho, fun a o ha hd => g5.fr a o ((e3.trans e4) a o (g1.ex a o ha)) (g1.fr a o ha hd)⟩, ho, upd_same, ?_⟩
        rw [givenD_yes hf]
        exact dpa_app (dpa_mono g5.dx _ hac) (.cons hy .nil)
    · obtain ⟨_, Hm, acc, g1, hm, h2, hac⟩ := p
      exact q Dl acc H' Hm (gr.trans g1) (fresh_back gr.ex hD) hm h2 hac
theorem ev_all {bs : List Bool} (h : EvD K ta σ Hd (.list (bs.map .bool))) : Ev (tCB (rAll K) (tCons ta tNil)) σ Hd (.bl (bs.all id)) := fun H s Q q =>
  h H s _ fun v H2 Hn g hd => by
    cases hd with
    | @lst a xs ds hs hall =>
      have e := dpa_bools_inv hall
      subst e
      exact ⟨a, bs, rfl, ex_l g.sub hs, q H2 g.ex⟩
theorem ev_sum {bs : List Int} (h : EvD K ta σ Hd (.list (bs.map .int))) : Ev (tCB (rSum K) (tCons ta tNil)) σ Hd (.int bs.sum) := fun H s Q q =>
  h H s _ fun v H2 Hn g hd => by
    cases hd with
    | @lst a xs ds hs hall =>
      have e := dpa_ints_inv hall
      subst e
      exact ⟨a, bs, rfl, ex_l g.sub hs, q H2 g.ex⟩

/-! ### types of data -/
def tyN : PyData → String
  | .none => "NoneType"
  | .bool _ => "bool"
  | .int _ => "int"
  | .str _ => "str"
  | .list _ => "list"
  | .tuple _ => "tuple"
  | .dict _ => "dict"
theorem dp_ty (h : Dp K H v d) : TyX K H v (.type (tyN d)) := by
  cases h with
  | non => exact .base .non
  | bl b => exact .base (.bl b)
  | int i => exact .base (.int i)
  | str z => exact .base (.str z)
  | lst hs _ =>
    rcases hs with (h | ⟨o, h⟩) | ⟨o, its, n, h1, h2, _⟩
    · exact .base (.lst h)
    · exact .base (.frz h)
    · exact .kList h1 h2
  | tup hs _ =>
    rcases hs with (h | ⟨o, h⟩) | ⟨o, its, n, h1, h2, _⟩
    · exact .base (.tup h)
    · exact .fTuple h
    · exact .kTuple h1 h2
theorem ev_isi {T : String} {b : Bool} (ha : EvD K ta σ Hd d) (k : kitB (tyN d) T = some b) : Ev (tCB (rIsi K) (tCons ta (tCons (tC (.ty T)) tNil))) σ Hd (.bl b) := fun H s Q q =>
  ha H s _ fun v H2 Hn g hd => ⟨v, .ty T, _, _, b, rfl, .ty T, dp_ty (dp_mono g.sub _ hd), kit_ty k, q H2 g.ex⟩
theorem ev_isiT2 {T T2 : String} {b b2 : Bool} (ha : EvD K ta σ Hd d) (k : kitB (tyN d) T = some b) (k2 : kitB (tyN d) T2 = some b2) : Ev (tCB (rIsiT K) (tCons ta (tCons (tTup (tCons (tC (.ty T)) (tCons (tC (.ty T2)) tNil))) tNil))) σ Hd (.bl (b || b2)) := fun H s Q q =>
  ha H s _ fun v H2 Hn g hd => ⟨by show 2 ≤ sizeLine; decide, fun p hp => ⟨v, p, [.ty T, .ty T2], _, [.type T, .type T2], b || b2, rfl, upd_same, .cons (.ty T) (.cons (.ty T2) .nil), dp_ty (dp_mono (g.sub.trans (Ex.new hp)) _ hd), by
    refine kitAny_cons (kit_ty k) (fun e => kitAny_cons (kit_ty k2) (fun e2 => ?_) (fun e2 => ?_)) (fun e => ?_)
    · rw [e, e2]; rfl
    · rw [e2, Bool.or_true]
    · rw [e]; rfl, q _ (g.ex.trans (Ex.new hp))⟩⟩
theorem ev_eqD {e : PyData} (ha : EvD K ta σ Hd d) (hb : EvD K tb σ Hd e) (hd : SeqAt.shaped d = true) (he : SeqAt.shaped e = true) : Ev (tOp (rEqD K) ta tb) σ Hd (.bl (PyData.eqv d e)) := fun H s Q q =>
  ha H s _ fun v H2 Hn g h1 => hb.mono g.dx H2 g.sub _ fun v2 H3 Hm g2 h2 => ⟨d, e, dp_mono (g2.dx.trans g2.sub) _ h1, dp_mono g2.sub _ h2, hd, he, q H3 (g.ex.trans g2.ex)⟩
theorem ev_neD {e : PyData} (ha : EvD K ta σ Hd d) (hb : EvD K tb σ Hd e) (hd : SeqAt.shaped d = true) (he : SeqAt.shaped e = true) : Ev (tOp (rNeD K) ta tb) σ Hd (.bl (!PyData.eqv d e)) := fun H s Q q =>
  ha H s _ fun v H2 Hn g h1 => hb.mono g.dx H2 g.sub _ fun v2 H3 Hm g2 h2 => ⟨d, e, dp_mono (g2.dx.trans g2.sub) _ h1, dp_mono g2.sub _ h2, hd, he, q H3 (g.ex.trans g2.ex)⟩
end
end Cot

namespace Cot
open PySem L2 Evl
theorem kb_NoneType_bool : kitB "NoneType" "bool" = some false := by decide +kernel
theorem kb_NoneType_int : kitB "NoneType" "int" = some false := by decide +kernel
theorem kb_NoneType_str : kitB "NoneType" "str" = some false := by decide +kernel
theorem kb_NoneType_list : kitB "NoneType" "list" = some false := by decide +kernel
theorem kb_NoneType_tuple : kitB "NoneType" "tuple" = some false := by decide +kernel
theorem kb_bool_bool : kitB "bool" "bool" = some true := by decide +kernel
theorem kb_bool_int : kitB "bool" "int" = some true := by decide +kernel
theorem kb_bool_str : kitB "bool" "str" = some false := by decide +kernel
theorem kb_bool_list : kitB "bool" "list" = some false := by decide +kernel
theorem kb_bool_tuple : kitB "bool" "tuple" = some false := by decide +kernel
theorem kb_int_bool : kitB "int" "bool" = some false := by decide +kernel
theorem kb_int_int : kitB "int" "int" = some true := by decide +kernel
theorem kb_int_str : kitB "int" "str" = some false := by decide +kernel
theorem kb_int_list : kitB "int" "list" = some false := by decide +kernel
theorem kb_int_tuple : kitB "int" "tuple" = some false := by decide +kernel
theorem kb_str_bool : kitB "str" "bool" = some false := by decide +kernel
theorem kb_str_int : kitB "str" "int" = some false := by decide +kernel
theorem kb_str_str : kitB "str" "str" = some true := by decide +kernel
theorem kb_str_list : kitB "str" "list" = some false := by decide +kernel
theorem kb_str_tuple : kitB "str" "tuple" = some false := by decide +kernel
theorem kb_list_bool : kitB "list" "bool" = some false := by decide +kernel
theorem kb_list_int : kitB "list" "int" = some false := by decide +kernel
theorem kb_list_str : kitB "list" "str" = some false := by decide +kernel
theorem kb_list_list : kitB "list" "list" = some true := by decide +kernel
theorem kb_list_tuple : kitB "list" "tuple" = some false := by decide +kernel
theorem kb_tuple_bool : kitB "tuple" "bool" = some false := by decide +kernel
theorem kb_tuple_int : kitB "tuple" "int" = some false := by decide +kernel
theorem kb_tuple_str : kitB "tuple" "str" = some false := by decide +kernel
theorem kb_tuple_list : kitB "tuple" "list" = some false := by decide +kernel
theorem kb_tuple_tuple : kitB "tuple" "tuple" = some true := by decide +kernel
/-- data of a depth of at most n, without dicts -/
def okD : Nat → PyData → Prop
  | _, .none => True
  | _, .bool _ => True
  | _, .int _ => True
  | _, .str _ => True
  | _, .dict _ => False
  | 0, .list ds => ds = []
  | 0, .tuple ds => ds = []
  | n + 1, .list ds => ds.length ≤ 40000 ∧ ∀ e ∈ ds, okD n e
  | n + 1, .tuple ds => ds.length ≤ 40000 ∧ ∀ e ∈ ds, okD n e
def spSame (K : PySem.W.Frag) : Nat → Sp
  | 0 => fun _ _ _ _ => False
  | n + 1 => fun vs H Q _ => ∃ Hd d v1 v2, vs = [v1, v2] ∧ Ex Hd H ∧ Dp K Hd v1 d ∧ Dp K Hd v2 d ∧ okD n d ∧ ∀ H2, Ex H H2 → Q (.bl true) H2
section
variable {K : PySem.W.Frag} {X : Cx} {H H' Hd Hd' Hn H1 H2 Hm : Hp} {σ : L2.St} {ta tb tc te tx tl : TE} {t u tt : TT} {x y z v v' : V} {d : PyData} {ds es : List PyData} {tr : TA} {D : Ends} {tu tw tz : TS} {i j j2 n : Nat} {wi : TI} {g : TG}
theorem ev_same {E : XK} (h : EvDA K tr σ Hd [d, d]) (hk : okD n d) : Ev (tCall (spSame K (n + 1)) [] E tr) σ Hd (.bl true) := fun H s Q q =>
  h H s _ fun vs H2 Hn g hd => by
    cases hd with
    | cons h1 h2 =>
      cases h2 with
      | cons h2 h3 =>
        cases h3
        exact ⟨Hn, d, _, _, rfl, g.sub, h1, h2, hk, fun H3 e3 => q H3 (g.ex.trans e3)⟩
theorem go_whenT (h : EvT t σ H true) (h1 : Go tu { D with nx := tz D } σ H) : Go (tSeq (tIfS t tu tNext) tz) D σ H := go_when h (fun _ => h1) (fun e => by cases e)
theorem go_whenF (h : EvT t σ H false) (h2 : Go tz D σ H) : Go (tSeq (tIfS t tu tNext) tz) D σ H := go_when h (fun e => by cases e) (fun _ => h2)
end
end Cot
namespace Cot
open PySem L2 Evl
section
variable {K : PySem.W.Frag} {X : Cx} {H H' Hd Hd' Hn H1 H2 Hm : Hp} {σ : L2.St} {ta tb tc te tx tl : TE} {t u tt : TT} {x y z v v' : V} {d : PyData} {ds es : List PyData} {tr : TA} {D : Ends} {tu tw tz : TS} {i j j2 n : Nat} {wi : TI} {g : TG}
theorem go_for {S : Nat → L2.St → L2.St → Hp → Prop} (s : Ex Hd H) (h : EvI K wi g σ Hd n S) (Pv : Hp → Nat → L2.St → Hp → Prop) (h0 : ∀ H' Hn, Gr Hd H Hn H' → Pv Hn 0 σ H') (hE : ∀ Hn i σ' H', Pv Hn i σ' H' → Ex Hn H')
    (hs : ∀ Hn i σ' σ2 H', Ex Hd Hn → i < n → Pv Hn i σ' H' → S i σ' σ2 Hn → Go tu { D with nx := Pv Hn (i + 1), ct := Pv Hn (i + 1), bk := tz D } σ2 H')
    (hd : ∀ Hn σ' H', Ex Hd Hn → Pv Hn n σ' H' → Go tz D σ' H') : Go (tSeq (tFor wi g tu) tz) D σ H := fun H1 e1 =>
  h H1 (s.trans e1) _ fun J H2 Hn G Y gr w hG hY => by
    refine for_it w (Pv Hn) (h0 H2 Hn (gr.pre e1)) (fun i σ' H' _ p => hG H' (hE Hn i σ' H' p)) (fun i x σ' H' H'' hi p y => ?_) (fun σ' H' p => hd Hn σ' H' gr.dx p H' (Ex.refl _))
    exact hY i x H' H'' σ' _ hi (hE Hn i σ' H' p) y fun σ2 H3 e3 hS => hs Hn i σ' σ2 H' gr.dx hi p hS H3 e3
theorem eu_of (h : EvA tr σ Hd [x]) : True := trivial
end
end Cot
namespace Cot
open PySem L2 Evl
section
variable {K : PySem.W.Frag} {b : Bid} {H H' Hd Hd' Hn H1 H2 Hm : Hp} {σ : L2.St} {ta tb te : TE} {tr : TA} {n : Nat} {p : Int → Prop}
def AllP (p : Int → Prop) (n : Nat) (ds : List PyData) : Prop := ds.length = n ∧ ∀ d ∈ ds, isI p d
theorem ap_nil : EvBA K b tNil σ Hd (AllP p 0) := fun hb H s B Q q => eba_nil hb H s B Q fun vs H2 Hn ds g h e => q vs H2 Hn ds g h (by subst e; exact ⟨rfl, fun _ h => by cases h⟩)
theorem ap_cons (h : EvB K b ta σ Hd (isI p)) (hr : EvBA K b tr σ Hd (AllP p n)) : EvBA K b (tCons ta tr) σ Hd (AllP p (n + 1)) := fun hb H s B Q q => eba_cons h hr hb H s B Q fun vs H2 Hn ds g hd hp => q vs H2 Hn ds g hd (by
  obtain ⟨d, es, rfl, h1, h2, h3⟩ := hp
  refine ⟨by rw [List.length_cons, h2], fun e he => ?_⟩
  rcases List.mem_cons.mp he with rfl | he
  · exact h1
  · exact h3 e he)
theorem atI_get {α : Type} {ds : List α} {i : Int} (h0 : 0 ≤ i) (h1 : i < (ds.length : Int)) : ∃ d, atI ds i = some d ∧ d ∈ ds := by
  have h : i.toNat < ds.length := by omega
  refine ⟨ds[i.toNat], ?_, List.getElem_mem h⟩
  unfold atI ixN
  rw [if_pos h0, if_pos (by omega)]
  simp [h]
theorem eb_pick (h : EvBA K b tr σ Hd (AllP p n)) (hi : EvB K b tb σ Hd (isI fun i => 0 ≤ i ∧ i < (n : Int))) (hn : n ≤ 100000) : EvB K b (tOp (rIxL K) (tLst tr) tb) σ Hd (isI p) := by
  refine EvB.imp (eb_ixL (eb_lst h fun ds h => by rw [h.1]; exact hn) hi fun ds i h1 h2 => ?_) ?_
  · obtain ⟨d, h3, _⟩ := atI_get (ds := ds) h2.1 (by rw [h1.1]; exact h2.2)
    exact ⟨d, h3⟩
  · rintro d ⟨ds, i, h1, h2, h3⟩
    obtain ⟨d', h4, h5⟩ := atI_get (ds := ds) h2.1 (by rw [h1.1]; exact h2.2)
    rw [h3] at h4
    cases h4
    exact h1.2 d h5
theorem eb_int {q : Int → Prop} {m : Int} (h : Ev te σ Hd (.int m)) (hq : q m) : EvB K b te σ Hd (isI q) := (eb_ev h).imp fun d ⟨i, e, e2⟩ => ⟨i, e, by rw [e2]; exact hq⟩
theorem EvB.impI {p q : Int → Prop} (h : EvB K b te σ Hd (isI p)) (k : ∀ i, p i → q i) : EvB K b te σ Hd (isI q) := h.imp fun d ⟨i, e, e2⟩ => ⟨i, e, k i e2⟩
end
end Cot
namespace Cot
open PySem L2 Evl
section
variable {K : PySem.W.Frag} {b : Bid} {H H' Hd Hd' Hn H1 H2 Hm : Hp} {σ : L2.St} {ta tb te : TE} {tr : TA} {n i j : Nat} {p : Int → Prop} {Ps : List PyData → Prop} {D : Ends} {tu tz : TS} {ds : List PyData}
theorem go_forTB (hb : Hd b.b = none) (s : Ex Hd H) (B : Bx H b) (h : EvB K b te σ Hd (fun d => ∃ ds, d = .tuple ds ∧ Ps ds)) (Pv : List PyData → Hp → Nat → L2.St → Hp → Prop)
    (h0 : ∀ H' Hn ds, GrB b Hd H Hn H' → Ps ds → Pv ds Hn 0 σ H') (hE : ∀ ds Hn i σ' H', Pv ds Hn i σ' H' → Ex Hn H')
    (hs : ∀ ds Hn i σ' H' v d, Ps ds → Ex Hd Hn → Hn b.b = none → ds[i]? = some d → Dp K Hn v d → Pv ds Hn i σ' H' → Go tu { D with nx := Pv ds Hn (i + 1), ct := Pv ds Hn (i + 1), bk := tz D } (σ'.set j (some v)) H')
    (hd : ∀ ds Hn σ' H', Ps ds → Ex Hd Hn → Hn b.b = none → Pv ds Hn ds.length σ' H' → Go tz D σ' H') : Go (tSeq (tFor (iTup K te) (gName j) tu) tz) D σ H := fun H1 e1 =>
  h hb H1 (s.trans e1) (B.mono e1) _ fun v H2 Hn d g hdp hp => by
    obtain ⟨ds, rfl, ps⟩ := hp
    have hbn := g.bn hb (B.mono e1)
    cases hdp with
    | @tup a xs ds hx hall =>
      refine ⟨a, rfl, ⟨xs, ex_t g.sub hx⟩, for_it (n := ds.length) (G := fun H => SqT K H a xs) (Y := YAt xs) (by rw [← dpa_len hall]; exact walk_tup) (Pv ds Hn) (h0 H2 Hn ds (g.pre e1) ps) (fun i σ' H' _ p => ex_t (hE ds Hn i σ' H' p) hx) (fun i x σ' H' H'' hi p y => ?_) (fun σ' H' p => hd ds Hn σ' H' ps g.dx hbn p H' (Ex.refl _))⟩
      obtain ⟨rfl, hx⟩ := y
      obtain ⟨d, q1, q2⟩ := dpa_get2 hall hx
      exact hs ds Hn i σ' _ x d ps g.dx hbn q1 q2 p _ (Ex.refl _)
theorem dpa_rep {vs : List V} (h : DpAll K H vs ds) : ∀ k : Nat, DpAll K H (List.replicate k vs).flatten (List.replicate k ds).flatten
  | 0 => .nil
  | k + 1 => by
    rw [List.replicate_succ, List.replicate_succ, List.flatten_cons, List.flatten_cons]
    exact dpa_app h (dpa_rep h k)
theorem en_rep {k : Int} (h : EvN K ta σ Hd ds) (hk : Ev tb σ Hd (.int k)) (h0 : -1000 ≤ k ∧ k ≤ 1000) (hl : ds.length * k.toNat ≤ 100000) : EvN K (tOp rRep ta tb) σ Hd (List.replicate k.toNat ds).flatten := fun H s Q q =>
  h H s _ fun p xs H2 Hn g hp hn h2 hd => hk.mono g.dx H2 g.sub _ fun H3 e3 => ⟨p, k, xs, rfl, rfl, e3 _ _ h2, by omega, by omega, by rw [dpa_len hd]; exact sz_of hl, fun r hr => q r _ _ Hn ((g.post e3).trans (Gr.alloc (g.sub.trans e3) hr)) (fresh_back (g.ex.trans e3) hr) (fresh_back (g.sub.trans e3) hr) upd_same (dpa_rep hd _)⟩
end
end Cot
namespace Cot
open PySem L2 Evl
section
variable {K : PySem.W.Frag} {x qual : Str} {params : Arguments} {body : List Stmt} {scope : Scope} {dvs : List V} {kws : List (Str × V)} {f : Addr} {fd : FuncData} {ps : List Str}
theorem bindsAll (F : FunD K x qual params body scope dvs kws f fd) (n : Nat) (hd : dvs ≠ []) (hn : n = ps.length)
    (h : ∀ (T : Addr) (kV doc pm : Value) (an : Option Addr) (cdv ct : Value) (us its : List Value), us.length = n → its.length = dvs.length →
      ∃ k, bindArgs (PySem.W.fnOf x qual params body scope (.ref T) kV doc pm an cdv ct) ⟨us, []⟩ = seqItems? (.ref T) >>= k ∧ k (some its.toArray) = pure (ps.zip us)) : Binds K fd ps [] := by
  obtain ⟨ds, v, b⟩ := F.binds1 (ps := ps) n dvs.length hd (by omega) (fun T kV doc pm an cdv ct us its hu hi => by
    obtain ⟨k, h1, h2⟩ := h T kV doc pm an cdv ct us its hu hi
    refine ⟨k, h1, ?_⟩
    rw [List.drop_of_length_le (by omega), List.append_nil]
    exact h2)
  rw [List.drop_of_length_le (Nat.le_refl _)] at v
  cases v
  exact b
theorem bindsKw (F : FunD K x qual params body scope dvs kws f fd) {n : Nat} {ks : List Str} (hd : dvs ≠ [])
    (h : ∀ (T : Addr) (kV doc pm : Value) (an : Option Addr) (cdv ct : Value) (us ws its : List Value), us.length = n → ws.length = ks.length → its.length = dvs.length →
      ∃ k, bindArgs (PySem.W.fnOf x qual params body scope (.ref T) kV doc pm an cdv ct) ⟨us, ks.zip ws⟩ = seqItems? (.ref T) >>= k ∧ k (some its.toArray) = pure (ps.zip (us ++ ws))) :
    KBn K fd ps n ks (fun us ws => us ++ ws) (fun us ws => us ++ ws) := by
  obtain ⟨oc, od, dV, kV, doc, pm, an, cdv, ct, osl, rfl, lk, hcd, hD, hK⟩ := F.ex
  rcases hD with ⟨e, _⟩ | ⟨_, T, o, its, m, rfl, lT, oT, rT⟩
  · exact absurd e hd
  · refine ⟨fun s us ws X h1 h2 => ?_, fun r1 r2 => r1.append r2⟩
    obtain ⟨k, e1, e2⟩ := h T kV doc pm an cdv ct us ws its h1 h2 rT.length.symm
    refine BindsTo.of_looks fun M => ?_
    rw [e1]
    exact looks_items X lT oT (.of_pure e2)
end
end Cot

set_option Elab.async false
set_option linter.all false
set_option maxRecDepth 100000
set_option maxHeartbeats 4000000
/-! Lists that stand in the heap, loops that draw, equality of data. -/
namespace Cot
open PySem L2 Evl
def okE : Nat → PyData → Prop
  | _, .none => True
  | _, .bool _ => True
  | _, .int _ => True
  | _, .str x => PyData.strOk x = true
  | _, .dict _ => False
  | 0, .list ds => ds = []
  | 0, .tuple ds => ds = []
  | n + 1, .list ds => ∀ e ∈ ds, okE n e
  | n + 1, .tuple ds => ∀ e ∈ ds, okE n e
theorem canAll : ∀ {ds : List PyData}, (∀ e ∈ ds, e.canLay0 = true) → PyData.canLayAll0 ds = true
  | [], _ => by unfold PyData.canLayAll0; rfl
  | d :: ds, h => by
    unfold PyData.canLayAll0
    rw [h d List.mem_cons_self, canAll fun e he => h e (List.mem_cons_of_mem _ he)]
    rfl
theorem depAll {n : Nat} : ∀ {ds : List PyData}, (∀ e ∈ ds, e.depth ≤ n) → PyData.depthAll ds ≤ n
  | [], _ => by unfold PyData.depthAll; omega
  | d :: ds, h => by
    unfold PyData.depthAll
    have h1 := h d List.mem_cons_self
    have h2 := depAll fun e he => h e (List.mem_cons_of_mem _ he)
    omega
theorem okE_lay : ∀ (n : Nat) (d : PyData), okE n d → d.canLay0 = true ∧ d.depth ≤ n + 1
  | n, .none, _ => ⟨by unfold PyData.canLay0; rfl, by unfold PyData.depth; omega⟩
  | n, .bool _, _ => ⟨by unfold PyData.canLay0; rfl, by unfold PyData.depth; omega⟩
  | n, .int _, _ => ⟨by unfold PyData.canLay0; rfl, by unfold PyData.depth; omega⟩
  | n, .str x, h => ⟨by unfold PyData.canLay0; cases n <;> exact h, by unfold PyData.depth; omega⟩
  | n, .dict _, h => by cases n <;> exact h.elim
  | 0, .list ds, h => by
    have e : ds = [] := h
    subst e
    exact ⟨by unfold PyData.canLay0; exact canAll (fun _ h => by cases h), by unfold PyData.depth PyData.depthAll; omega⟩
  | 0, .tuple ds, h => by
    have e : ds = [] := h
    subst e
    exact ⟨by unfold PyData.canLay0; exact canAll (fun _ h => by cases h), by unfold PyData.depth PyData.depthAll; omega⟩
  | n + 1, .list ds, h => ⟨by unfold PyData.canLay0; exact canAll fun e he => (okE_lay n e (h e he)).1, by
      unfold PyData.depth
      have := depAll (n := n + 1) (ds := ds) fun e he => (okE_lay n e (h e he)).2
      omega⟩
  | n + 1, .tuple ds, h => ⟨by unfold PyData.canLay0; exact canAll fun e he => (okE_lay n e (h e he)).1, by
      unfold PyData.depth
      have := depAll (n := n + 1) (ds := ds) fun e he => (okE_lay n e (h e he)).2
      omega⟩
theorem okE_shaped {n : Nat} {d : PyData} (h : okE n d) (hn : n ≤ 63) : SeqAt.shaped d = true := by
  have h1 := okE_lay n d h
  unfold SeqAt.shaped
  rw [h1.1, decide_eq_true (by omega)]
  rfl
theorem okE_ints (n : Nat) (ns : List Int) : okE (n + 1) (.list (ns.map .int)) := fun e he => by
  obtain ⟨i, _, rfl⟩ := List.mem_map.mp he
  cases n <;> trivial
theorem okE_nil : okE 0 (.list []) := rfl
theorem eqv_ints (xs ys : List Int) : PyData.eqv (.list (xs.map .int)) (.list (ys.map .int)) = decide (xs = ys) := by
  unfold PyData.eqv
  induction xs generalizing ys with
  | nil => cases ys <;> simp [PyData.eqvAll]
  | cons x xs ih =>
    cases ys with
    | nil => simp [PyData.eqvAll]
    | cons y ys =>
      simp only [List.map_cons, PyData.eqvAll]
      rw [ih ys]
      simp only [PyData.eqv, List.cons.injEq, Bool.decide_and]
      rfl
section
variable {K : PySem.W.Frag} {X : Cx} {b : Bid} {l : Addr} {H H' Hd Hd' Hn H1 H2 Hm : Hp} {σ : L2.St} {ta tb te : TE} {tl th : TO} {tr : TA} {n i j : Nat} {p : Int → Prop} {P : PyData → Prop} {D : Ends} {tu tz : TS} {ds es : List PyData} {xs : List V} {lo hi : Option Int}
/-- a list that stands in the heap -/
def EvM (K : PySem.W.Frag) (te : TE) (σ : L2.St) (Hd : Hp) (ds : List PyData) : Prop := ∀ H, Ex Hd H → ∀ Q : VK, (∀ p xs H2 Hn, Gr Hd H Hn H2 → H2 p = some (.lst xs) → DpAll K Hn xs ds → Q (.ref p) H2) → te σ H Q
theorem EvM.mono (e : Ex Hd Hd') (h : EvM K te σ Hd ds) : EvM K te σ Hd' ds := fun H s Q q => h H (e.trans s) Q fun p xs H2 Hn g h2 hd => q p xs H2 _ (g.up e s) h2 (dpa_mono (g.upr e s) ds hd)
theorem em_new (h : EvN K te σ Hd ds) : EvM K te σ Hd ds := fun H s Q q => h H s Q fun p xs H2 Hn g _ _ h2 hd => q p xs H2 Hn g h2 hd
theorem em_ref (h : Ev te σ Hd (.ref l)) (hl : Hd l = some (.lst xs)) (hd : DpAll K Hd xs ds) : EvM K te σ Hd ds := fun H s Q q => h H s Q fun H2 e => q l xs H2 Hd (Gr.ext s e) (e _ _ (s _ _ hl)) hd
theorem en_cat (ha : EvM K ta σ Hd ds) (hb : EvM K tb σ Hd es) (hl : ds.length + es.length ≤ 100000) : EvN K (tOp rCat ta tb) σ Hd (ds ++ es) := fun H s Q q =>
  ha H s _ fun p xs H2 Hn g h2 hd => hb.mono g.dx H2 g.sub _ fun p' ys H3 Hm g3 h3 hd3 => ⟨p, p', xs, ys, rfl, rfl, g3.ex _ _ h2, h3, sz_of (by rw [dpa_len hd, dpa_len hd3]; exact hl), fun r hr =>
    q r _ _ Hm ((g.trans g3).trans (Gr.alloc g3.sub hr)) (fresh_back (g.ex.trans g3.ex) hr) (fresh_back g3.sub hr) upd_same (dpa_app (dpa_mono g3.dx _ hd) hd3)⟩
theorem en_slice (h : EvD K te σ Hd (.list ds)) (h1 : EvO tl σ Hd lo) (h2 : EvO th σ Hd hi) : EvN K (tSl (rSlL K) te tl th) σ Hd ((ds.drop (HT.sIx ds.length 0 lo)).take (HT.sIx ds.length ds.length hi - HT.sIx ds.length 0 lo)) := fun H s Q q =>
  h H s _ fun v H2 Hn g hd => by
    cases hd with
    | @lst a xs ds hs hall =>
      have e0 : ∀ {H3}, Ex H2 H3 → Ex Hd H3 := fun e => (g.dx.trans g.sub).trans e
      refine h1 H2 (g.dx.trans g.sub) _ fun H3 e3 => h2 H3 (e0 e3) _ fun H4 e4 => ⟨a, xs, rfl, ex_l ((g.sub.trans e3).trans e4) hs, fun r hr => ?_⟩
      refine q r _ _ Hn ((g.post (e3.trans e4)).trans (Gr.alloc (g.sub.trans (e3.trans e4)) hr)) (fresh_back (g.ex.trans (e3.trans e4)) hr) (fresh_back (g.sub.trans (e3.trans e4)) hr) upd_same ?_
      unfold cutV
      rw [dpa_len hall]
      exact dpa_take _ (dpa_drop _ hall)
theorem dpa_rev : ∀ {ds : List PyData} {vs : List V}, DpAll K H vs ds → DpAll K H vs.reverse ds.reverse
  | [], _, h => by cases h; exact .nil
  | d :: ds, _, h => by
    cases h with
    | cons a b =>
      rw [List.reverse_cons, List.reverse_cons]
      exact dpa_app (dpa_rev b) (.cons a .nil)
theorem en_rev (h : EvD K te σ Hd (.list ds)) : EvN K (tRevL K te) σ Hd ds.reverse := fun H s Q q =>
  h H s _ fun v H2 Hn g hd => by
    cases hd with
    | @lst a xs ds hs hall => exact ⟨a, xs, rfl, ex_l g.sub hs, fun r hr => q r _ _ Hn (g.trans (Gr.alloc g.sub hr)) (fresh_back g.ex hr) (fresh_back g.sub hr) upd_same (dpa_rev hall)⟩
theorem en_list (h : EvD K te σ Hd (.list ds)) : EvN K (tCB (rListS K) (tCons te tNil)) σ Hd ds := fun H s Q q =>
  h H s _ fun v H2 Hn g hd => by
    cases hd with
    | @lst a xs ds hs hall => exact ⟨a, xs, rfl, Or.inl (ex_l g.sub hs), fun r hr => q r _ _ Hn (g.trans (Gr.alloc g.sub hr)) (fresh_back g.ex hr) (fresh_back g.sub hr) upd_same hall⟩
theorem go_forRB (hb : Hd b.b = none) (s : Ex Hd H) (B : Bx H b) (h : EvBA K b tr σ Hd (fun ds => ∃ m, ds = [.int m] ∧ p m)) (hp : ∀ m, p m → -100000 ≤ m ∧ m ≤ 100000) (Pv : Int → Hp → Nat → L2.St → Hp → Prop)
    (h0 : ∀ H' Hn m, GrB b Hd H Hn H' → p m → Pv m Hn 0 σ H')
    (hs : ∀ m Hn i σ' H', p m → Ex Hd Hn → Hn b.b = none → i < m.toNat → Pv m Hn i σ' H' → Go tu { D with nx := Pv m Hn (i + 1), ct := Pv m Hn (i + 1), bk := tz D } (σ'.set j (some (.int (i : Int)))) H')
    (hd : ∀ m Hn σ' H', p m → Ex Hd Hn → Hn b.b = none → Pv m Hn m.toNat σ' H' → Go tz D σ' H') : Go (tSeq (tFor (iRng1 tr) (gName j) tu) tz) D σ H := fun H1 e1 =>
  h hb H1 (s.trans e1) (B.mono e1) _ fun vs H2 Hn ds g hdp hq => by
    obtain ⟨m, rfl, pm⟩ := hq
    have hbn := g.bn hb (B.mono e1)
    have hpm := hp m pm
    cases hdp with
    | cons h1 h2 =>
      cases h2
      cases h1
      refine ⟨m, rfl, by omega, by omega, for_it (walk_range (lo := 0) (n := m.toNat)) (Pv m Hn) (h0 H2 Hn m (g.pre e1) pm) (fun _ _ _ _ _ => trivial) (fun i x σ' H' H'' hi q y => ?_) (fun σ' H' q => hd m Hn σ' H' pm g.dx hbn q H' (Ex.refl _))⟩
      obtain ⟨rfl, rfl⟩ := y
      have e0 : (0 : Int) + (i : Int) = (i : Int) := Int.zero_add _
      show tu _ (σ'.set j (some (.int ((0 : Int) + (i : Int))))) _
      rw [e0]
      exact hs m Hn i σ' _ pm g.dx hbn hi q _ (Ex.refl _)
theorem go_appB (hb : Hd b.b = none) (s : Ex Hd H) (B : Bx H b) (hl : H l = some (.lst xs)) (nl : l ≠ b.b) (ha : Ev ta σ H (.ref l)) (h : EvB K b te σ Hd P) (hz : xs.length < 100000)
    (k : ∀ v H' Hn d, GrB b Hd H Hn H' → Dp K Hn v d → P d → Go tz D σ (upd H' l (.lst (xs ++ [v])))) : Go (tSeq (tDrop (tBM K "list" rAppend ta (tCons te tNil))) tz) D σ H := fun H1 e1 =>
  ha H1 e1 _ fun H2 e2 => ⟨Or.inl ⟨rfl, xs, sq_of ((e1.trans e2) _ _ hl)⟩, h hb H2 ((s.trans e1).trans e2) ((B.mono e1).mono e2) _ fun v H3 Hn d g hd hp => ⟨l, xs, v, rfl, rfl, g.exb _ _ nl ((e1.trans e2) _ _ hl), sz_lt hz, k v H3 Hn d (g.pre (e1.trans e2)) hd hp _ (Ex.refl _)⟩⟩
end
end Cot
namespace Cot
open PySem L2 Evl
section
variable {K : PySem.W.Frag} {b : Bid} {H H' Hd Hd' Hn H1 H2 Hm : Hp} {σ : L2.St} {ta tb te : TE} {tl th : TO} {tr : TA} {Ps Ps' : List PyData → Prop} {ds : List PyData}
theorem EvBA.imp (h : EvBA K b tr σ Hd Ps) (k : ∀ d, Ps d → Ps' d) : EvBA K b tr σ Hd Ps' := fun hb H s B Q q => h hb H s B Q fun v H2 Hn d g hd hp => q v H2 Hn d g hd (k d hp)
theorem eba_one {p : Int → Prop} (h : EvB K b ta σ Hd (isI p)) : EvBA K b (tCons ta tNil) σ Hd (fun ds => ∃ m, ds = [.int m] ∧ p m) := (eba_cons h eba_nil).imp fun ds ⟨d, es, e1, ⟨m, e2, pm⟩, e3⟩ => ⟨m, by rw [e1, e2, e3], pm⟩
theorem en_from {j : Nat} (h : EvD K te σ Hd (.list ds)) (h1 : Ev ta σ Hd (.int (j : Int))) : EvN K (tSl (rSlL K) te (tPart ta) tNoPart) σ Hd (ds.drop j) := by
  have h2 := en_slice h (eo_some h1) (eo_none (σ := σ) (H := Hd))
  rw [HT.sIx_none, HT.sIx_nat] at h2
  by_cases hj : j ≤ ds.length
  · rw [Nat.min_eq_left hj, List.take_of_length_le (by rw [List.length_drop]; omega)] at h2
    exact h2
  · rw [Nat.min_eq_right (by omega), Nat.sub_self, List.take_zero] at h2
    rw [List.drop_of_length_le (by omega)]
    exact h2
theorem en_upto {j : Nat} (h : EvD K te σ Hd (.list ds)) (h1 : Ev ta σ Hd (.int (j : Int))) : EvN K (tSl (rSlL K) te tNoPart (tPart ta)) σ Hd (ds.take j) := by
  have h2 := en_slice h (eo_none (σ := σ) (H := Hd)) (eo_some h1)
  rw [HT.sIx_none, HT.sIx_nat, List.drop_zero, Nat.sub_zero] at h2
  by_cases hj : j ≤ ds.length
  · rw [Nat.min_eq_left hj] at h2
    exact h2
  · rw [Nat.min_eq_right (by omega), List.take_length] at h2
    rw [List.take_of_length_le (by omega)]
    exact h2
end
end Cot

set_option Elab.async false
set_option linter.all false
set_option maxRecDepth 100000
set_option maxHeartbeats 4000000
/-! Tuples of any kind, ranges asked, tests and comprehensions that draw. -/
namespace Cot
open PySem L2 Evl PyProof.Rows
section
variable {X : Cx}
def rTupS (K : PySem.W.Frag) : List V → Hp → VK → Prop := fun xs H Q => ∃ p ys, xs = [.ref p] ∧ ((SqL K H p ys ∧ ∀ l, H l = none → Q (.ref l) (upd H l (.tup ys))) ∨ (SqT K H p ys ∧ Q (.ref p) H))
theorem call_tupleQ : CallR X (.type "tuple") (rTupS X.K) := call_tuple_of
def rRg2 : List V → Hp → VK → Prop := fun vs H Q => ∃ i j, vs = [V.int i, V.int j] ∧ ∀ p, H p = none → Q (.ref p) (upd H p (.rng i j))
theorem call_rangeQ : CallR X (.type "range") rRg2 := cr_range2
def rInR (neg : Bool) : R2 := fun x y H Q => ∃ i a lo hi, x = V.int i ∧ y = V.ref a ∧ H a = some (.rng lo hi) ∧ Q (.bl (if neg then !decide (lo ≤ i ∧ i < hi) else decide (lo ≤ i ∧ i < hi))) H
theorem op_inR : OpR X (compareOp .In) (rInR false) := op_in_rng
theorem op_notInR : OpR X (compareOp .NotIn) (rInR true) := by
  intro ps s0 σ0 H0 x y vx vy Q I rx ry hq
  obtain ⟨i, a, lo, hi, rfl, rfl, ha, q⟩ := hq
  obtain ⟨k, rfl⟩ := rx
  cases ry
  obtain ⟨ta, tb, tc, ho⟩ := I.hok a _ ha
  show wpAny _ _ (do return Value.bool (!(← contains (.ref a) (.int i k)))) _ _ s0
  refine wpAny_bind ?_
  refine wpAny_contains_slot (T := "range") ?t1 F.slot_range_contains ?t2
  case t1 => exact ⟨_, ho, rfl⟩
  case t2 =>
  refine call_meets F.slot_range_contains ?t3 F.entry_range_contains (F.args_range_contains_2 _ _) (q_contains a lo hi i ta tb tc k) ?t4
  case t3 => exact ⟨_, ho, rfl⟩
  case t4 =>
  refine ⟨ho, wpAny_truthy_bool (wpAny_pure ?_)⟩
  refine ⟨.bl _, H0, I, rfl, ?_⟩
  rw [place1]
  exact q
end
section
variable {K : PySem.W.Frag} {b : Bid} {l : Addr} {H H' Hd Hd' Hn H1 H2 Hm : Hp} {σ : L2.St} {ta tb te : TE} {t u : TT} {tl th : TO} {tr : TA} {n i j j2 : Nat} {p : Int → Prop} {P : PyData → Prop} {D : Ends} {tu tw tz : TS} {d d1 d2 : PyData} {ds es : List PyData} {xs : List V} {lo hi : Option Int} {wi : TI} {g : TG} {x : V}
theorem ed_tupleL (h : EvD K te σ Hd (.list ds)) : EvD K (tCB (rTupS K) (tCons te tNil)) σ Hd (.tuple ds) := fun H s Q q =>
  h H s _ fun v H2 Hn g hd => by
    cases hd with
    | @lst a xs ds hs hall => exact ⟨a, xs, rfl, Or.inl ⟨ex_l g.sub hs, fun r hr => q (.ref r) _ _ (g.trans (Gr.new g.sub hr)) (.tup (st_of upd_same) (dpa_mono (Ex.new (fresh_back g.sub hr)) _ hall))⟩⟩
theorem ed_catT (ha : EvD K ta σ Hd (.tuple ds)) (hb : EvD K tb σ Hd (.tuple es)) (hl : ds.length + es.length ≤ 100000) : EvD K (tOp (rCatA K) ta tb) σ Hd (.tuple (ds ++ es)) := fun H s Q q =>
  ha H s _ fun v H2 Hn g hd => hb.mono g.dx H2 g.sub _ fun v2 H3 Hm g3 hd3 => by
    have hd' := dp_mono g3.dx _ hd
    cases hd' with
    | @tup a xs ds hs hall =>
      have h3 := hd3
      cases hd3 with
      | @tup a2 ys es hs2 hall2 =>
        refine ⟨a, a2, xs, ys, rfl, rfl, ex_t g3.sub hs, ex_t g3.sub hs2, sz_of (by rw [dpa_len hall, dpa_len hall2]; exact hl), fun e => ?_, fun e e2 => ?_, fun e e2 r hr => ?_⟩
        · subst e
          cases hall
          exact q _ H3 Hm (g.trans g3) h3
        · subst e2
          cases hall2
          rw [List.append_nil] at q
          exact q _ H3 Hm (g.trans g3) (.tup hs hall)
        · exact q (.ref r) _ _ ((g.trans g3).trans (Gr.new g3.sub hr)) (.tup (st_of upd_same) (dpa_mono (Ex.new (fresh_back g3.sub hr)) _ (dpa_app hall hall2)))
def cutD (ds : List PyData) (lo hi : Option Int) : List PyData := (ds.drop (HT.sIx ds.length 0 lo)).take (HT.sIx ds.length ds.length hi - HT.sIx ds.length 0 lo)
theorem cutD_mem {e : PyData} (h : e ∈ cutD ds lo hi) : e ∈ ds := List.mem_of_mem_drop (List.mem_of_mem_take h)
theorem cutD_len : (cutD ds lo hi).length ≤ ds.length := by
  unfold cutD
  rw [List.length_take, List.length_drop]
  omega
theorem dpa_cut {vs : List V} (h : DpAll K H vs ds) : DpAll K H (cutV vs lo hi) (cutD ds lo hi) := by
  unfold cutV cutD
  rw [dpa_len h]
  exact dpa_take _ (dpa_drop _ h)
theorem cut_done {a : Addr} {Q : VK} {H4 : Hp} (hs : SqT K Hn a xs) (hall : DpAll K Hn xs ds) (s : Ex Hn H4) (q : ∀ v H5 Hm, Gr Hn H4 Hm H5 → Dp K Hm v (.tuple (cutD ds lo hi)) → Q v H5) : rSlA K (.ref a) lo hi H4 Q := by
  refine ⟨a, xs, rfl, ex_t s hs, fun hw => ?_, fun _ r hr => ?_⟩
  · have e : cutD ds lo hi = ds := by
      unfold cutD
      rw [dpa_len hall] at hw
      rw [hw.1, hw.2, List.drop_zero, Nat.sub_zero, List.take_length]
    refine q _ H4 Hn (Gr.refl s) ?_
    rw [e]
    exact .tup hs hall
  · exact q (.ref r) _ _ (Gr.new s hr) (.tup (st_of upd_same) (dpa_mono (Ex.new (fresh_back s hr)) _ (dpa_cut hall)))
theorem ed_slT (h : EvD K te σ Hd (.tuple ds)) (h1 : EvO tl σ Hd lo) (h2 : EvO th σ Hd hi) : EvD K (tSl (rSlA K) te tl th) σ Hd (.tuple (cutD ds lo hi)) := fun H s Q q =>
  h H s _ fun v H2 Hn g hd => by
    cases hd with
    | @tup a xs ds hs hall =>
      have e0 : ∀ {H3}, Ex H2 H3 → Ex Hd H3 := fun e => (g.dx.trans g.sub).trans e
      refine h1 H2 (g.dx.trans g.sub) _ fun H3 e3 => h2 H3 (e0 e3) _ fun H4 e4 => cut_done hs hall ((g.sub.trans e3).trans e4) fun v H5 Hm g5 hv => q v H5 Hm ((g.post (e3.trans e4)).trans g5) hv
/-- t[:e], e drawn -/
theorem eb_slT (h : EvD K te σ Hd (.tuple ds)) (h2 : EvB K b tb σ Hd (isI p)) : EvB K b (tSl (rSlA K) te tNoPart (tPart tb)) σ Hd (fun d => ∃ i, p i ∧ d = .tuple (cutD ds none (some i))) := fun hb H s B Q q =>
  h H s _ fun v H2 Hn g hd => by
    cases hd with
    | @tup a xs ds hs hall =>
      have gb := GrB.of g B
      refine h2.mono g.dx (gb.bn hb B) H2 g.sub gb.bx _ fun v3 H3 Hm d3 g3 hd3 hp3 => ?_
      obtain ⟨i, rfl, pi⟩ := hp3
      cases hd3
      refine ⟨i, rfl, cut_done (ex_t g3.dx hs) (dpa_mono g3.dx _ hall) g3.sub fun v H5 Hk g5 hv => q v H5 Hk _ ?_ hv ⟨i, pi, rfl⟩⟩
      exact (gb.trans g3 hb B).trans (GrB.of g5 g3.bx) hb B
theorem ed_repT {k : Int} (ha : EvD K ta σ Hd (.tuple ds)) (hk : Ev tb σ Hd (.int k)) (hne : ds ≠ []) (h0 : 2 ≤ k ∧ k ≤ 1000) (hl : ds.length ≤ 1000) : EvD K (tOp (rRepT K) ta tb) σ Hd (.tuple (List.replicate k.toNat ds).flatten) := fun H s Q q =>
  ha H s _ fun v H2 Hn g hd => hk.mono g.dx H2 g.sub _ fun H3 e3 => by
    cases hd with
    | @tup a xs ds hs hall =>
      refine ⟨a, k, xs, rfl, rfl, ex_t (g.sub.trans e3) hs, fun e => ?_, h0.1, h0.2, by rw [dpa_len hall]; exact hl, fun r hr => q (.ref r) _ _ ((g.post e3).trans (Gr.new (g.sub.trans e3) hr)) (.tup (st_of upd_same) (dpa_mono (Ex.new (fresh_back (g.sub.trans e3) hr)) _ (dpa_rep hall _)))⟩
      subst e
      cases hall
      exact hne rfl
theorem ev_inR {neg : Bool} {i lo hi : Int} (ha : Ev ta σ H (.int i)) (h1 : EvA tr σ H [.int lo, .int hi]) : Ev (tOp (rInR neg) ta (tCB rRg2 tr)) σ H (.bl (if neg then !decide (lo ≤ i ∧ i < hi) else decide (lo ≤ i ∧ i < hi))) := fun H1 e1 Q q =>
  ha H1 e1 _ fun H2 e2 => h1 H2 (e1.trans e2) _ fun H3 e3 => ⟨lo, hi, rfl, fun p hp => ⟨i, p, lo, hi, rfl, rfl, upd_same, q _ ((e2.trans e3).trans (Ex.new hp))⟩⟩
/-- a, b = e -/
theorem go_two (s : Ex Hd H) (h : EvD K te σ Hd (.tuple [d1, d2])) (k : ∀ v1 v2 H' Hn, Gr Hd H Hn H' → Dp K Hn v1 d1 → Dp K Hn v2 d2 → Go tz D ((σ.set i (some v1)).set j (some v2)) H') : Go (tSeq (tAsg te (gTup K 2 (gCons (gName i) (gCons (gName j) gNil)))) tz) D σ H := fun H1 e1 =>
  h H1 (s.trans e1) _ fun v H2 Hn g hd => by
    cases hd with
    | @tup a xs ds hs hall =>
      cases hall with
      | cons h1 h2 =>
        cases h2 with
        | cons h2 h3 =>
          cases h3
          exact ⟨a, _, rfl, ex_t g.sub hs, rfl, _, _, rfl, _, _, rfl, rfl, k _ _ H2 Hn (g.pre e1) h1 h2 H2 (Ex.refl _)⟩
theorem go_appD (s : Ex Hd H) (hl : H l = some (.lst xs)) (ha : Ev ta σ H (.ref l)) (h : EvD K te σ Hd d) (hz : xs.length < 100000) (k : ∀ v H' Hn, Gr Hd H Hn H' → Dp K Hn v d → Go tz D σ (upd H' l (.lst (xs ++ [v])))) :
    Go (tSeq (tDrop (tBM K "list" rAppend ta (tCons te tNil))) tz) D σ H := fun H1 e1 =>
  ha H1 e1 _ fun H2 e2 => ⟨Or.inl ⟨rfl, xs, sq_of ((e1.trans e2) _ _ hl)⟩, h H2 ((s.trans e1).trans e2) _ fun v H3 Hn g hd => ⟨l, xs, v, rfl, rfl, g.ex _ _ ((e1.trans e2) _ _ hl), sz_lt hz, k v H3 Hn (g.pre (e1.trans e2)) hd _ (Ex.refl _)⟩⟩
theorem ex_add {o : HO} (s : Ex Hd H) (h : H l = some o) : Ex (upd Hd l o) H := fun a u ha => by
  by_cases e : a = l
  · subst e
    rw [upd_same] at ha
    exact h.trans ha
  · rw [upd_ne e] at ha
    exact s a u ha
/-- a test that draws -/
def EvBT (K : PySem.W.Frag) (b : Bid) (t : TT) (σ : L2.St) (Hd : Hp) : Prop := Hd b.b = none → ∀ H, Ex Hd H → Bx H b → ∀ Q : Bool → Hp → Prop, (∀ c H2 Hn, GrB b Hd H Hn H2 → Q c H2) → t σ H Q
theorem ebt_of {c : Bool} (h : EvT t σ Hd c) : EvBT K b t σ Hd := fun hb H s B Q q => h H s _ fun H2 e => q c H2 Hd (GrB.of (Gr.ext s e) B)
theorem EvBT.mono (e : Ex Hd Hd') (h : EvBT K b t σ Hd) : EvBT K b t σ Hd' := fun hb H s B Q q => h (fresh_back e hb) H (e.trans s) B Q fun c H2 Hn g => q c H2 _ (g.up e s hb).1
theorem ebt_and (h : EvBT K b t σ Hd) (h2 : EvBT K b u σ Hd) : EvBT K b (tAnd t u) σ Hd := fun hb H s B Q q => h hb H s B _ fun c H2 Hn g => by
  cases c with
  | true =>
    show u σ H2 Q
    exact h2.mono g.dx (g.bn hb B) H2 g.sub g.bx Q fun c H3 Hm g3 => q c H3 Hm (g.trans g3 hb B)
  | false => exact q false H2 Hn g
theorem ebt_I0 {gg : Int → Int → V} {f : Int → Int → Bool} {p p' : Int → Prop} (hg : ∀ i j, gg i j = .bl (f i j)) (ha : EvB K b ta σ Hd (isI p)) (hb' : EvB K b tb σ Hd (isI p')) : EvBT K b (tTest (tOp (rI0 gg) ta tb)) σ Hd := fun hb H s B Q q =>
  ha hb H s B _ fun v H1 Hn d g hd hp => hb'.mono g.dx (g.bn hb B) H1 g.sub g.bx _ fun v2 H2 Hm d2 g2 hd2 hp2 => by
    obtain ⟨i, rfl, pi⟩ := hp
    obtain ⟨j, rfl, pj⟩ := hp2
    cases hd
    cases hd2
    exact ⟨i, j, rfl, rfl, f i j, hg i j, q _ H2 Hm (g.trans g2 hb B)⟩
theorem go_whenB (hb : Hd b.b = none) (s : Ex Hd H) (B : Bx H b) (h : EvBT K b t σ Hd) (h1 : ∀ H' Hn, GrB b Hd H Hn H' → Go tu { D with nx := tz D } σ H') (h2 : ∀ H' Hn, GrB b Hd H Hn H' → Go tz D σ H') : Go (tSeq (tIfS t tu tNext) tz) D σ H := fun H1 e1 =>
  h hb H1 (s.trans e1) (B.mono e1) _ fun c H2 Hn g => by
    cases c with
    | true => exact h1 H2 Hn (g.pre e1) H2 (Ex.refl _)
    | false => exact h2 H2 Hn (g.pre e1) H2 (Ex.refl _)
/-- a comprehension whose items draw -/
theorem eb_lc {S : Nat → L2.St → L2.St → Hp → Prop} {vs : List Nat} {PP : PyData → Prop} (h : EvI K wi g σ Hd n S) (hn : n ≤ 40000)
    (ht : ∀ (i : Nat) (σ2 : L2.St) (Hn : Hp), i < n → Ex Hd Hn → S i (wipe σ vs) σ2 Hn → wipe σ2 vs = wipe σ vs ∧ EvB K b te σ2 Hn PP) : EvB K b (tLc wi g tYes te vs) σ Hd (fun d => ∃ ds, d = .list ds ∧ ds.length = n ∧ ∀ e ∈ ds, PP e) := fun hb H s B Q q =>
  h H s _ fun J H1 Hn G Y gr w hG hY Dl hD => by
    have gb := GrB.of gr B
    have hbn := gb.bn hb B
    obtain ⟨nb, nca⟩ := gb.bx.apart hD
    refine lc_it w (fun i H' => i ≤ n ∧ ∃ Hm acc ds, GrB b Hn H1 Hm H' ∧ Hm Dl = none ∧ H' Dl = some (.lst acc) ∧ DpAll K Hm acc ds ∧ ds.length = i ∧ ∀ e ∈ ds, PP e) ⟨Nat.zero_le _, Hn, [], [], GrB.of (Gr.alloc gr.sub hD) gb.bx, fresh_back gr.sub hD, upd_same, .nil, rfl, fun _ h => by cases h⟩ (fun i H' _ p => ?_) (fun i x H' H'' hi p y => ?_) (fun H' p => ?_)
    · obtain ⟨_, Hm, acc, ds, g1, _⟩ := p
      exact hG H' (g1.dx.trans g1.sub)
    · obtain ⟨_, Hm, acc, ds, g1, hm, h2, hac, hln, hpp⟩ := p
      refine hY i x H' H'' _ _ hi (g1.dx.trans g1.sub) y fun σ2 H3 e3 hS => ?_
      obtain ⟨hw, hE⟩ := ht i σ2 Hn hi gr.dx hS
      refine ⟨hw, ?_⟩
      have al : acc.length < sizeLine := sz_lt (by rw [dpa_len hac]; omega)
      have hbm := g1.bn hbn gb.bx
      refine (hE.mono g1.dx) hbm H3 (g1.sub.trans e3) (g1.bx.mono e3) _ fun y H5 Ho d5 g5 hy hp5 => ?_
      have h3 : H3 Dl = some (.lst acc) := e3 _ _ h2
      have ho : Ho Dl = none := g5.fr _ _ h3 hm
      refine ⟨acc, g5.exb _ _ nb h3, al, hi, Ho, acc ++ [y], ds ++ [d5], ⟨fun a o na ha => ?_, g1.dx.trans g5.dx, Ex.mut g5.sub ho, fun a o ha hd => ?_, g5.bx.keep nb nca⟩, ho, upd_same, dpa_app (dpa_mono g5.dx _ hac) (.cons hy .nil), by rw [List.length_append, hln]; rfl, fun e he => ?_⟩
      · rw [upd_ne (ne_of_none ha hD)]
        exact g5.exb a o na (e3 a o (g1.exb a o na ha))
      · by_cases e : a = b.b
        · rw [e]
          exact g5.bn hbm (g1.bx.mono e3)
        · exact g5.fr a o (e3 a o (g1.exb a o e ha)) (g1.fr a o ha hd)
      · rcases List.mem_append.mp he with he | he
        · exact hpp e he
        · rcases List.mem_cons.mp he with rfl | he
          · exact hp5
          · cases he
    · obtain ⟨_, Hm, acc, ds, g1, hm, h2, hac, hln, hpp⟩ := p
      refine q (.ref Dl) H' (upd Hm Dl (.lst acc)) (.list ds) ⟨fun a o na ha => g1.exb a o na (gr.ex a o ha), (gr.dx.trans g1.dx).trans (Ex.new hm), ex_add g1.sub h2, fun a o ha hd => ?_, g1.bx⟩ (.lst (sq_of upd_same) (dpa_mono (Ex.new hm) _ hac)) ⟨ds, rfl, hln, hpp⟩
      have ha1 := gr.ex a o ha
      rw [upd_ne (ne_of_none ha1 hD)]
      exact g1.fr a o ha1 (gr.fr a o ha hd)
theorem eb_tupleL {Ps : List PyData → Prop} (h : EvB K b te σ Hd (fun d => ∃ ds, d = .list ds ∧ Ps ds)) : EvB K b (tCB (rTupS K) (tCons te tNil)) σ Hd (fun d => ∃ ds, d = .tuple ds ∧ Ps ds) := fun hb H s B Q q =>
  h hb H s B _ fun v H2 Hn d g hd hp => by
    obtain ⟨ds, rfl, ps⟩ := hp
    cases hd with
    | @lst a xs ds hs hall => exact ⟨a, xs, rfl, Or.inl ⟨ex_l g.sub hs, fun r hr => q (.ref r) _ _ (.tuple ds) (g.trans (GrB.of (Gr.new g.sub hr) g.bx) hb B) (.tup (st_of upd_same) (dpa_mono (Ex.new (fresh_back g.sub hr)) _ hall)) ⟨ds, rfl, ps⟩⟩⟩
end
end Cot
namespace Cot
open PySem L2 Evl
section
variable {K : PySem.W.Frag} {b : Bid} {l : Addr} {o : HO} {H H' Hd Hg Hd' Hn H1 H2 Hm : Hp}
theorem GrB.fresh (G : GrB b Hd H Hg H') (h : H' l = none) : H l = none := by
  obtain ⟨ob, hob⟩ := G.bx.some
  have n : l ≠ b.b := (ne_of_none hob h).symm
  cases e : H l with
  | none => rfl
  | some u =>
    rw [G.exb l u n e] at h
    cases h
theorem GrB.mut (G : GrB b Hd H Hg H') (h0 : H l = none) (hg : Hg l = none) (n1 : l ≠ b.b) (n2 : l ≠ b.ca) : GrB b Hd H Hg (upd H' l o) :=
  ⟨fun a u na ha => by rw [upd_ne (ne_of_none ha h0)]; exact G.exb a u na ha, G.dx, Ex.mut G.sub hg, G.fr, G.bx.keep n1 n2⟩
theorem GrB.add (G : GrB b Hd H Hg H') (h0 : H l = none) (hg : Hg l = none) (hl : H' l = some o) : GrB b Hd H (upd Hg l o) H' :=
  ⟨G.exb, G.dx.trans (Ex.new hg), ex_add G.sub hl, fun a u ha hd => by rw [upd_ne (ne_of_none ha h0)]; exact G.fr a u ha hd, G.bx⟩
theorem GrB.low (e : Ex Hg Hd') (g : GrB b Hd' H Hn H2) : GrB b Hg H Hg H2 := ⟨g.exb, Ex.refl _, (e.trans g.dx).trans g.sub, fun _ _ _ h => h, g.bx⟩
theorem GrB.post (g : GrB b Hd H Hn H1) (e : Ex H1 H2) : GrB b Hd H Hn H2 := ⟨fun a o n h => e a o (g.exb a o n h), g.dx, g.sub.trans e, g.fr, g.bx.mono e⟩
end
end Cot

set_option Elab.async false
set_option linter.all false
set_option maxRecDepth 100000
set_option maxHeartbeats 4000000
/-! enumerate over a tuple; two clauses in a comprehension. -/
namespace Cot
open PySem PySem.Spec PyProof.Rows L2 Evl
abbrev tupItO (t : Addr) : Obj := { cls := .type "tuple_iterator", data := .fields #[.ref t, .int 0 0] }
abbrev enumO (k : Addr) : Obj := { cls := .type "enumerate", data := .fields #[.none, .bool false, .ref k, rawInt 0, .none, .none] }
set_option maxHeartbeats 1000000 in
theorem enumT_new (t : Addr) (items : Array Value) :
    Meets (Builtin.«enumerate.__new__» ⟨[.type "enumerate", .ref t], []⟩) (fun _ R s => s.heap.IsTuple t items ∧ R (.ok (.ret (.ref (s.heap.push (tupItO t)).objs.size))) { s with heap := (s.heap.push (tupItO t)).push (enumO s.heap.objs.size) }) :=
  .of_wp fun prog w A R s hh => by
    obtain ⟨hp, gs, dr, tk, os⟩ := s
    obtain ⟨hT, hh⟩ := hh
    have sb := sub_enumerate
    wp_walk
    refine wpAny_stack_any fun st => wpAny_pure ?_
    split
    · rename_i cc _ _ _ _ _
      cases (cc == Value.type "enumerate") <;> (wp_walk using wpAny_pyIter_tuple hT; exact ⟨_, rfl, hh⟩)
    · wp_walk using wpAny_pyIter_tuple hT
      exact ⟨_, rfl, hh⟩
section
variable {prog : Program} {w : World} {A : Around} {E : Value → Shared → Prop} {s : Shared}
theorem call_enumT {t : Addr} {items : Array Value} {Q : Value → Shared → Prop} (hT : s.heap.IsTuple t items)
    (hq : ∀ h', IsEnum h' (s.heap.objs.size + 1) s.heap.objs.size 0 .none → h'.IsTupleIter s.heap.objs.size t 0 → (∀ b o, s.heap.get? b = some o → h'.get? b = some o) → Q (.ref (s.heap.objs.size + 1)) { s with heap := h' }) :
    wpAny (model prog w) A (call (.type "enumerate") [.ref t]) Q E s := by
  refine callType_new F.called_enumerate (by decide) (F.typeCall_enumerate_1 _) (F.newCall_enumerate_1 _) (fun ob => F.args_object_init_2 ob _) F.entry_enumerate_new (enumT_new t items) ⟨hT, ?_⟩
  have hz : (s.heap.push (tupItO t)).objs.size = s.heap.objs.size + 1 := Heap.size_push ..
  have he : IsEnum ((s.heap.push (tupItO t)).push (enumO s.heap.objs.size)) (s.heap.objs.size + 1) s.heap.objs.size 0 .none := by
    have z := Heap.get?_push_size (s.heap.push (tupItO t)) (o := enumO s.heap.objs.size) rfl
    rw [hz] at z
    exact z
  show _ ∧ _
  rw [hz]
  exact ⟨⟨_, he, rfl⟩, hq _ he ⟨_, Heap.get?_push_of_some _ (Heap.get?_push_size _ rfl), rfl, rfl⟩ fun b o x => Heap.get?_push_of_some _ (Heap.get?_push_of_some _ x)⟩
end
/-- a tuple's items, each in a new pair with its place -/
def IteT (K : PySem.W.Frag) (a : Addr) : It :=
  ⟨fun i H => ∃ (xs : List V) (x : V), SqT K H a xs ∧ xs[i]? = some x, fun i H v H' => ∃ T x, v = .ref T ∧ H T = none ∧ H' = upd H T (.tup [.int (i : Nat), x]) ∧ ∀ xs, SqT K H a xs → xs[i]? = some x, fun i H => ∃ xs : List V, SqT K H a xs ∧ xs.length = i⟩
theorem turn_enumT {P : Program} {w : World} {K : PySem.W.Frag} {elts : List Expr} {kk : Nat} {tpos : Pos} (a e it : Addr) :
    Turn P w K (.Tuple elts kk tpos) (IteT K a) [e, it] e (fun i h => (∃ old, IsEnum h e it ((i : Nat) : Int) old) ∧ h.IsTupleIter it a i ∧ e ≠ it) where
  mem := by simp
  obj := fun i h st b hb => by
    obtain ⟨⟨old, he⟩, ⟨o, ho, hc, hd⟩, _⟩ := st
    rcases (show b = e ∨ b = it by simpa using hb) with z | z
    · rw [z]; exact ⟨_, he, fun v q => nomatch q⟩
    · rw [z]; exact ⟨o, ho, fun v q => by rw [hd] at q; cases q⟩
  keep := fun i h h' st k => by
    obtain ⟨⟨old, he⟩, ⟨o, ho, hc⟩, hne⟩ := st
    exact ⟨⟨old, k e (by simp) _ he⟩, ⟨o, k it (by simp) _ ho, hc⟩, hne⟩
  item := by
    intro X hP hw hK hc i pins s σ H E I hf st hg
    subst hP hw hK
    obtain ⟨⟨old, he⟩, hit, hne⟩ := st
    obtain ⟨xs, x, hq, hx⟩ := hg
    obtain ⟨its, rv, p, hz⟩ := I.tuple hq
    obtain ⟨u, hu, ru⟩ := rv.get hx
    have hel : e < s.heap.objs.size := Heap.lt_size he
    have hil : it < s.heap.objs.size := by
      obtain ⟨_, q, _⟩ := hit
      exact Heap.lt_size q
    have nai : a ≠ it := fun z => by
      subst z
      obtain ⟨o1, h1, c1, _⟩ := p
      obtain ⟨o2, h2, c2, _⟩ := hit
      rw [h1] at h2
      cases h2
      rw [c1] at c2
      exact absurd (Value.type.inj c2) (by decide)
    have nae : a ≠ e := fun z => by
      subst z
      obtain ⟨o1, h1, c1, _⟩ := p
      have he' := he
      unfold IsEnum at he'
      rw [h1] at he'
      cases he'
      exact absurd (Value.type.inj c1) (by decide)
    have lti : i < its.toArray.size := by
      have := (List.getElem?_eq_some_iff.mp hu).1
      simpa using this
    have D : Draws X.prog X.w X.A.in1 it [it, a] its.toArray.size (fun i v => its.toArray[i]? = some v) (fun i h => h.IsTupleIter it a i ∧ h.IsTuple a its.toArray) := Draws.tuple (show X.A.in1.handled = none from I.ok.hd hc) it a nai its.toArray
    refine wpAny_pyNext_enum_itemD D he ⟨hit, p⟩ lti hne (by simp [hne, nae.symm]) fun y h' tk hy ho hit' hT hsz hk => ?_
    have ey : y = u := by
      have h2 : its.toArray[i]? = some u := by simpa using hu
      rw [h2] at hy
      cases hy
      rfl
    subst ey
    refine ⟨_, rfl, wpAny_letOwnedTupleGo_enum (s := { s with heap := h', toks := tk + 1 }) ho fun h2 he2 sb => ?_⟩
    have hT2 : h2.get? s.heap.objs.size = some { cls := .type "tuple", data := .seq #[.int i tk, y] } := (sb.2 _ (Nat.ne_of_gt hel)).trans hT
    have new : ObjOk X.prog X.w (upd H s.heap.objs.size (.tup [.int (i : Nat), x])) h2 s.heap.objs.size (.tup [.int (i : Nat), x]) :=
      ⟨by show 2 ≤ sizeLine; decide, [.int i tk, y], .cons ⟨_, rfl⟩ (.cons ru .nil), ⟨_, hT2, rfl, _, rfl⟩⟩
    have I1 : Inv X pins σ (upd H s.heap.objs.size (.tup [.int (i : Nat), x])) { s with heap := h2, toks := tk + 1 } :=
      I.turnedNew (ch := [e, it]) (fun b ob hb q => (sb.2 b (fun z => hb (by simp [z]))).trans (hk b ob (fun z => hb (by simp [z])) (fun z => hb (by simp [z])) q)) hf (Nat.le_refl _) new
    refine ⟨.ref s.heap.objs.size, _, I1, rfl, ⟨_, x, rfl, I.hok.fresh (Nat.le_refl _), rfl, fun ys hy => by rw [I.tuple_inj hy hq]; exact hx⟩, ⟨⟨y, ?_⟩, ?_, hne⟩, fun b hb => ?_⟩
    · have e1 : ((i + 1 : Nat) : Int) = (i : Int) + 1 := by omega
      rw [e1]
      exact he2
    · obtain ⟨o3, h3, r3⟩ := hit'.1
      exact ⟨o3, (sb.2 it (Ne.symm hne)).trans h3, r3⟩
    · have hb' : b < s.heap.objs.size := by
        rcases (show b = e ∨ b = it by simpa using hb) with z | z
        · rw [z]; exact hel
        · rw [z]; exact hil
      rw [upd_ne (Nat.ne_of_lt hb')]
      exact (hf b hb).1
  done := by
    intro X hP hw hK hc i pins s σ H E I hf st hg
    subst hP hw hK
    obtain ⟨⟨old, he⟩, hit, hne⟩ := st
    obtain ⟨xs, hq, hx⟩ := hg
    obtain ⟨its, rv, p, hz⟩ := I.tuple hq
    obtain ⟨f0, f1, f2, f3, f4, f5⟩ := hf it (by simp)
    have hl := rv.length
    have nai : a ≠ it := fun z => by
      subst z
      obtain ⟨o1, h1, c1, _⟩ := p
      obtain ⟨o2, h2, c2, _⟩ := hit
      rw [h1] at h2
      cases h2
      rw [c1] at c2
      exact absurd (Value.type.inj c2) (by decide)
    have D : Draws X.prog X.w X.A.in1 it [it, a] its.toArray.size (fun i v => its.toArray[i]? = some v) (fun i h => h.IsTupleIter it a i ∧ h.IsTuple a its.toArray) := Draws.tuple (show X.A.in1.handled = none from I.ok.hd hc) it a nai its.toArray
    have ei : its.toArray.size = i := by
      rw [List.size_toArray, ← hl]
      exact hx
    refine wpAny_pyNext_enum_endD D he (by rw [ei]; exact ⟨hit, p⟩) fun h' eb => ⟨rfl, I.turned (t' := s.toks) (fun b o hb q => eb b o hb q) f0 f1 f3 f4 f5⟩
  self := fun A i s Q E st h => let ⟨⟨_, he⟩, _⟩ := st; wpAny_pyIter_enum he h
def iEnumT (K : PySem.W.Frag) (ta : TA) : TI := fun σ H R => ta σ H fun vs H1 => ∃ a xs, vs = [.ref a] ∧ SqT K H1 a xs ∧ R (IteT K a) H1
theorem pi_enumT {X : Cx} {e : Expr} {ta : TA} {p pos tpos : Pos} {elts : List Expr} {kk : Nat} (hg : Gl X "enumerate") (hm : X.mg "enumerate" = none) (ha : PA X [e] ta) (hs : starEach [e] X.env = [(false, eval e X.env)] := by rfl) :
    PI X (.Tuple elts kk tpos) (.Call (.Name "enumerate" p) [e] [] pos) (iEnumT X.K ta) := by
  refine ⟨fun pins s σ H R I hw => ?_⟩
  refine Call_ (ld_blt I hg hm boot_enumerate (PyProof.Rows.callWith_type1 (thn (ha.run pos pins s σ H _ I hw) fun us s1 hh => ?_) hs rfl))
  obtain ⟨vs, H1, I1, r1, a, xs, rfl, hq, q⟩ := hh
  cases r1 with
  | cons ra rr =>
    cases rr
    cases ra
    obtain ⟨its, rv, pt, _⟩ := I1.tuple hq
    refine call_enumT pt fun h' he hit hk => wpAny_pyIter_enum he ?_
    have I2 : Inv X pins σ H1 { s1 with heap := h' } := I1.kept (t' := s1.toks) hk
    refine ⟨s1.heap.objs.size + 1, [s1.heap.objs.size + 1, s1.heap.objs.size], _, _, H1, rfl, I2, turn_enumT a (s1.heap.objs.size + 1) s1.heap.objs.size, ⟨⟨.none, he⟩, hit, Nat.succ_ne_self _⟩, fun b hb => ?_, q⟩
    have hle : s1.heap.objs.size ≤ b := by
      rcases (show b = s1.heap.objs.size + 1 ∨ b = s1.heap.objs.size by simpa using hb) with z | z
      · rw [z]; exact Nat.le_succ _
      · rw [z]; exact Nat.le_refl _
    exact I1.fpOk hle (I1.hok.fresh hle)
section
variable {K : PySem.W.Frag} {H H' Hd Hd' Hn H1 H2 Hm : Hp} {σ : L2.St} {ta tb te : TE} {tr : TA} {n i j j2 : Nat} {ds es : List PyData} {a : Addr} {xs : List V}
theorem walk_enumT : Walk (IteT K a) xs.length (fun H => SqT K H a xs) (YPair (fun i => some (.int (i : Nat))) (fun i => xs[i]?)) := by
  refine ⟨fun i _ hi q => ⟨xs, xs[i], q, by simp [hi]⟩, fun _ q => ⟨xs, q, rfl⟩, fun i H v H' _ q y => ?_⟩
  obtain ⟨T, x, h1, h2, h3, h4⟩ := y
  exact ⟨T, .int (i : Nat), x, h1, h2, h3, rfl, h4 xs q⟩
theorem ei_enumT (h : EvDA K tr σ Hd [.tuple ds]) : EvI K (iEnumT K tr) (g2 K j j2) σ Hd ds.length (SPair K j j2 (fun i => some (.int (i : Int))) (fun i => ds[i]?)) := fun H s R r =>
  h H s _ fun vs H2 Hn g hd => by
    cases hd with
    | cons h1 h2 =>
      cases h2
      cases h1 with
      | @tup a xs ds hs hall =>
        refine ⟨a, xs, rfl, ex_t g.sub hs, r _ H2 Hn _ _ g (by rw [← dpa_len hall]; exact walk_enumT) (fun H' e => ex_t e hs) fun i x H' H'' σ' k hi e y q => ?_⟩
        refine pair_turn (fun v e => ?_) (fun v e => dpa_get2 hall e) y q
        cases e
        exact ⟨_, rfl, .int _⟩
end
end Cot
namespace Cot
open PySem PySem.Spec PyProof.Rows L2 Evl
section
variable {K : PySem.W.Frag} {H H' Hd Hd' Hn H1 H2 Hm : Hp} {σ : L2.St} {ta tb te : TE} {t tt1 : TT} {tr : TA} {n i j j2 : Nat} {ds es : List PyData} {wi wi1 : TI} {g g1 : TG}
theorem lc1_it {J : It} {n : Nat} {G : Hp → Prop} {Y : Nat → Hp → V → Hp → Prop} (w : Walk J n G Y) {g : TG} {tt : TT} {te : TE} {vs : List Nat} {σ : L2.St} {H1 : Hp} {D : Addr} {Qd : Hp → Prop} (Pv : Nat → Hp → Prop) (h0 : Pv 0 H1) (hG : ∀ i H, i ≤ n → Pv i H → G H)
    (hs : ∀ i x H H', i < n → Pv i H → Y i H x H' → g x (wipe σ vs) H' fun σ2 H2 => wipe σ2 vs = wipe σ vs ∧ tt σ2 H2 fun b H3 =>
      if b = true then te σ2 H3 fun y H4 => ∃ acc, H4 D = some (.lst acc) ∧ acc.length < sizeLine ∧ Pv (i + 1) (upd H4 D (.lst (acc ++ [y]))) else Pv (i + 1) H3) (hd : ∀ H, Pv n H → Qd H) :
    ∃ W : Nat → Nat → Hp → Prop, (∃ m, W 0 m H1) ∧ ∀ i m H, W i m H →
      (J.stop i H ∧ Qd H) ∨ (J.go i H ∧ ∃ Nx : Hp → Prop, (∀ H', Nx H' → ∃ m', m' < m ∧ W (i + 1) m' H') ∧ ∀ x H', J.yld i H x H' → g x (wipe σ vs) H' fun σ2 H2 => wipe σ2 vs = wipe σ vs ∧ tt σ2 H2 fun b H3 =>
        if b = true then te σ2 H3 fun y H4 => ∃ acc, H4 D = some (.lst acc) ∧ acc.length < sizeLine ∧ Nx (upd H4 D (.lst (acc ++ [y]))) else Nx H3) := by
  refine ⟨fun i m H => m = n - i ∧ i ≤ n ∧ Pv i H, ⟨n, by simp, Nat.zero_le _, h0⟩, ?_⟩
  rintro i m Hx ⟨rfl, hi, p⟩
  have q := hG i Hx hi p
  by_cases hlt : i < n
  · exact .inr ⟨w.goes i Hx hlt q, Pv (i + 1), fun Hy p' => ⟨n - (i + 1), by omega, rfl, hlt, p'⟩, fun x Hy y => hs i x Hx Hy hlt p (w.yields i Hx x Hy hlt q y)⟩
  · have e : i = n := by omega
    subst e
    exact .inl ⟨w.stops Hx q, hd Hx p⟩
def flatD (n : Nat) (L : Nat → List PyData) : List PyData := ((List.range n).map L).flatten
theorem flatD_succ (n : Nat) (L : Nat → List PyData) : flatD (n + 1) L = flatD n L ++ L n := by
  unfold flatD
  rw [List.range_succ, List.map_append, List.flatten_append]
  simp
theorem en_lc2 {S : Nat → L2.St → L2.St → Hp → Prop} {S1 : Nat → Nat → L2.St → L2.St → Hp → Prop} {vs vs1 : List Nat} (n1 : Nat → Nat) (h : EvI K wi g σ Hd n S) (f : Nat → Nat → Bool) (v : Nat → Nat → PyData) (hn : (flatD n fun i => givenD (n1 i) (f i) (v i)).length ≤ 40000) (hsz : ∀ i, i < n → (flatD i fun i => givenD (n1 i) (f i) (v i)).length + n1 i ≤ 90000)
    (ht : ∀ (i : Nat) (σ2 : L2.St) (Hn : Hp), i < n → Ex Hd Hn → S i (wipe σ vs) σ2 Hn → wipe σ2 vs = wipe σ vs ∧ EvI K wi1 g1 σ2 Hn (n1 i) (S1 i) ∧
      ∀ (j : Nat) (σ3 : L2.St) (Hk : Hp), j < n1 i → Ex Hn Hk → S1 i j (wipe σ2 vs1) σ3 Hk → wipe σ3 vs1 = wipe σ2 vs1 ∧ EvT tt1 σ3 Hk (f i j) ∧ (f i j = true → EvD K te σ3 Hk (v i j))) :
    EvN K (tLc2 wi g tYes wi1 g1 tt1 te vs vs1) σ Hd (flatD n fun i => givenD (n1 i) (f i) (v i)) := fun H s Q q =>
  h H s _ fun J H1 Hn G Y gr w hG hY Dl hD => by
    refine ⟨fun i m H' => m = n - i ∧ i ≤ n ∧ ∃ Hm acc, Gr Hn H1 Hm H' ∧ Hm Dl = none ∧ H' Dl = some (.lst acc) ∧ DpAll K Hm acc (flatD i fun i => givenD (n1 i) (f i) (v i)), ⟨n, by simp, Nat.zero_le _, Hn, [], Gr.alloc gr.sub hD, fresh_back gr.sub hD, upd_same, .nil⟩, ?_⟩
    rintro i m H' ⟨rfl, hi, p⟩
    obtain ⟨Hm, acc, g1', hm, h2, hac⟩ := p
    have q0 := hG H' (g1'.dx.trans g1'.sub)
    by_cases hlt : i < n
    · refine .inr ⟨w.goes i H' hlt q0, fun H2 => ∃ Hm acc, Gr Hn H1 Hm H2 ∧ Hm Dl = none ∧ H2 Dl = some (.lst acc) ∧ DpAll K Hm acc (flatD (i + 1) fun i => givenD (n1 i) (f i) (v i)), fun H2 p' => ⟨n - (i + 1), by omega, rfl, hlt, p'⟩, fun x H'' y => ?_⟩
      refine hY i x H' H'' _ _ hlt (g1'.dx.trans g1'.sub) (w.yields i H' x H'' hlt q0 y) fun σ2 H3 e3 hS => ?_
      obtain ⟨hw, hI, hT⟩ := ht i σ2 Hn hlt gr.dx hS
      refine ⟨hw, ?_⟩
      refine hI H3 ((g1'.dx.trans g1'.sub).trans e3) _ fun J1 H4 Hk G1 Y1 gk w1 hG1 hY1 => ?_
      have gm : Gr Hm H3 (un Hm Hk) H4 := gk.up g1'.dx (g1'.sub.trans e3)
      have em : Ex Hk (un Hm Hk) := gk.upr g1'.dx (g1'.sub.trans e3)
      have hm4 : un Hm Hk Dl = none := gm.fr _ _ (e3 _ _ h2) hm
      refine lc1_it w1 (fun j H5 => j ≤ n1 i ∧ ∃ Ho acc, Gr Hn H1 Ho H5 ∧ Ex (un Hm Hk) Ho ∧ Ho Dl = none ∧ H5 Dl = some (.lst acc) ∧ DpAll K Ho acc (flatD i (fun i => givenD (n1 i) (f i) (v i)) ++ givenD j (f i) (v i))) ⟨Nat.zero_le _, un Hm Hk, acc, (g1'.post e3).trans gm, Ex.refl _, hm4, gk.ex _ _ (e3 _ _ h2), ?_⟩ (fun j H5 _ p => ?_) (fun j x H5 H6 hj p y => ?_) (fun H5 p => ?_)
      · show DpAll K _ _ (_ ++ [])
        rw [List.append_nil]
        exact dpa_mono gm.dx _ hac
      · obtain ⟨_, Ho, acc', go, eo, _⟩ := p
        exact hG1 H5 ((em.trans eo).trans go.sub)
      · obtain ⟨_, Ho, acc', go, eo, ho, h5, hac'⟩ := p
        refine hY1 j x H5 H6 _ _ hj ((em.trans eo).trans go.sub) y fun σ3 H7 e7 hS1 => ?_
        obtain ⟨hw1, hT1, hE⟩ := hT j σ3 Hk hj gk.dx hS1
        refine ⟨hw1, hT1 H7 (((em.trans eo).trans go.sub).trans e7) _ fun H8 e8 => ?_⟩
        have h8 : H8 Dl = some (.lst acc') := e8 _ _ (e7 _ _ h5)
        cases hf : f i j with
        | false =>
          show (j + 1 ≤ n1 i ∧ _)
          refine ⟨hj, Ho, acc', go.post (e7.trans e8), eo, ho, h8, ?_⟩
          rw [givenD_no hf]
          exact hac'
        | true =>
          show te σ3 H8 _
          refine ((hE hf).mono (em.trans eo)) H8 ((go.sub.trans e7).trans e8) _ fun y H9 Hp' g9 hy => ?_
          have hp9 : Hp' Dl = none := g9.fr _ _ h8 ho
          have al : acc'.length < sizeLine := sz_lt (by
            have h10 := givenD_len j (f i) (v i)
            have h11 := hsz i hlt
            rw [dpa_len hac', List.length_append]
            omega)
          refine ⟨acc', g9.ex _ _ h8, al, hj, Hp', acc' ++ [y], ⟨Ex.mut ((go.ex.trans (e7.trans e8)).trans g9.ex) hD, go.dx.trans g9.dx, Ex.mut g9.sub hp9, fun a o ha hd => g9.fr a o ((e7.trans e8) a o (go.ex a o ha)) (go.fr a o ha hd)⟩, eo.trans g9.dx, hp9, upd_same, ?_⟩
          rw [givenD_yes hf, ← List.append_assoc]
          exact dpa_app (dpa_mono g9.dx _ hac') (.cons hy .nil)
      · obtain ⟨_, Ho, acc', go, eo, ho, h5, hac'⟩ := p
        refine ⟨Ho, acc', go, ho, h5, ?_⟩
        rw [flatD_succ]
        exact hac'
    · have e : i = n := by omega
      subst e
      exact .inl ⟨w.stops H' q0, q Dl acc H' Hm (gr.trans g1') (fresh_back gr.ex hD) hm h2 hac⟩
end
end Cot

set_option Elab.async false
set_option linter.all false
set_option maxRecDepth 100000
set_option maxHeartbeats 4000000
/-! While an exception is handled: the ends of iterators, a tuple unpacked, a comprehension over a list. -/
namespace Cot
open PySem PySem.Spec PyProof.Rows L2 L2H HotX
section
variable {prog : Program} {w : World} {A : Around} {E : Value → Shared → Prop} {s : Shared}
/-- StopIteration() is made and raised -/
theorem stop_hot {α : Type} {x1 : Addr} {Q : α → Shared → Prop} (hot : HotAt A x1 s.heap)
    (hE : ∀ h' e, (∀ b o, s.heap.get? b = some o → h'.get? b = some o) → (∃ o, h'.get? e = some o ∧ o.cls = .type "StopIteration") → E (.ref e) { s with heap := h' }) :
    wpAny (model prog w) A (newExc (.type "StopIteration") [] >>= fun e => (raiseNew e : Sem α)) Q E s := by
  obtain ⟨hh, o1, vs1, h1, d1, c1⟩ := hot
  refine wpAny_bind ?_
  simp only [newExc, newTuple]
  refine wpAny_bind (wpAny_newObj_type ?a1 (by size_fits))
  case a1 =>
  refine wpAny_bind (m := firstArgMember _ _) (wpAny_of_eq (a := Value.none) ?a2 ?a3)
  case a2 => first | rfl | (simp only [firstArgMember]; rfl)
  case a3 =>
  refine wpAny_newObj_type ?a4 (by size_fits)
  case a4 =>
  have k1 := Heap.get?_push_of_some ({ cls := .type "tuple", data := .seq #[] } : Obj) h1
  refine raiseNew_hot ⟨hh, o1, vs1, Heap.get?_push_of_some _ (Heap.get?_push_of_some _ h1), d1, c1⟩ ?b1 (Heap.get?_push_size _ rfl) rfl ?b2 ?b3
  case b1 => exact Nat.ne_of_lt (Heap.lt_size (Heap.get?_push_of_some _ h1))
  case b2 => first | (simp; done) | (simp; omega) | (simp only [Array.size_append]; simp; omega)
  case b3 =>
  refine hE _ _ (fun b o e => ?_) ⟨_, Heap.get?_update_self _ (Heap.get?_push_size _ rfl) rfl, rfl⟩
  have e2 := Heap.get?_push_of_some ({ cls := .type "tuple", data := .seq #[] } : Obj) e
  rw [Heap.get?_update_other _ _ (Nat.ne_of_gt (Heap.lt_size (Heap.get?_push_of_some _ e)))]
  exact Heap.get?_push_of_some _ (Heap.get?_push_of_some _ e)
/-- a list's iterator at its end -/
theorem listEnd_hot {x1 it l : Addr} {i : Nat} {items : Array Value} {Q : Option Value → Shared → Prop} (hot : HotAt A x1 s.heap) (n1 : x1 ≠ it) (hit : s.heap.IsListIter it l i) (hl : s.heap.IsList l items) (hx : items[i]? = none)
    (hQ : ∀ h', Heap.ExtBut it s.heap h' → Q none { s with heap := h' }) : wpAny (model prog w) A (pyNext (.ref it)) Q E s := by
  obtain ⟨o, ho, hc, hd⟩ := id hit
  obtain ⟨ol, hol, _, nl, hdl⟩ := hl
  have hty := hit.typeIs
  unfold pyNext
  apply wpAny_bind
  apply wpAny_attempt
  refine wpAny_callSpecial?_slot (name := Str.ofString "__next__") hty slot_listiter_next (wpAny_call_entry slot_listiter_next hty entry_listiter_next ?_ (args_listiter_next _))
  show wpAny _ A.in1 (field (Value.ref it) 0 >>= _) _ _ _
  refine wpAny_bind (wpAny_field ho hd (x := .ref l) rfl ?f0)
  case f0 =>
  have nn : ¬ ((Value.ref l == Value.none) = true) := Bool.false_ne_true
  show wpAny _ _ (ite ((Value.ref l == Value.none) = true) _ _) _ _ s
  rw [if_neg nn]
  show wpAny _ A.in1 (field (Value.ref it) 1 >>= _) _ _ _
  refine wpAny_bind (wpAny_field ho hd (x := .int i 0) rfl ?f9)
  case f9 =>
  show wpAny _ A.in1 (seqItems? (Value.ref l) >>= _) _ _ _
  refine wpAny_bind (wpAny_seqItems hol hdl ?f1)
  case f1 =>
  simp only [Int.toNat_natCast, hx]
  refine wpAny_bind (wpAny_rule (wpAny_bind (wpAny_setField ho hd (by simp) ?f2)))
  case f2 =>
  obtain ⟨hh, o1, vs1, h1, d1, c1⟩ := hot
  refine stop_hot (A := A.in1) (x1 := x1) ⟨hh, o1, vs1, ?g1, d1, c1⟩ fun h' e k ke => ?g2
  case g1 =>
    show (Heap.update s.heap it _).get? x1 = some o1
    rw [Heap.get?_update_other _ _ n1.symm]
    exact h1
  case g2 =>
  obtain ⟨oe, q1, q2⟩ := ke
  refine wpAny_bind (wpAny_isInstance (T := "StopIteration") (b := true) ⟨oe, q1, q2⟩ isSubtype_stop (wpAny_pure (hQ h' fun b u hb hu => k b u ?g3)))
  case g3 =>
    show (Heap.update s.heap it _).get? b = some u
    rw [Heap.get?_update_other _ _ (Ne.symm hb)]
    exact hu
/-- a tuple's iterator at its end -/
theorem tupEnd_hot {x1 it l : Addr} {i : Nat} {items : Array Value} {Q : Option Value → Shared → Prop} (hot : HotAt A x1 s.heap) (n1 : x1 ≠ it) (hit : IsTupIter s.heap it l i) (hl : IsTup s.heap l items) (hx : items[i]? = none)
    (hQ : ∀ h', Heap.ExtBut it s.heap h' → Q none { s with heap := h' }) : wpAny (model prog w) A (pyNext (.ref it)) Q E s := by
  obtain ⟨o, ho, hc, hd⟩ := id hit
  obtain ⟨ol, hol, _, nl, hdl⟩ := hl
  have hty := hit.typeIs
  unfold pyNext
  apply wpAny_bind
  apply wpAny_attempt
  refine wpAny_callSpecial?_slot (name := Str.ofString "__next__") hty slot_tupleiter_next (wpAny_call_entry slot_tupleiter_next hty entry_tupleiter_next ?_ (args_tupleiter_next _))
  show wpAny _ A.in1 (field (Value.ref it) 0 >>= _) _ _ _
  refine wpAny_bind (wpAny_field ho hd (x := .ref l) rfl ?f0)
  case f0 =>
  have nn : ¬ ((Value.ref l == Value.none) = true) := Bool.false_ne_true
  show wpAny _ _ (ite ((Value.ref l == Value.none) = true) _ _) _ _ s
  rw [if_neg nn]
  show wpAny _ A.in1 (field (Value.ref it) 1 >>= _) _ _ _
  refine wpAny_bind (wpAny_field ho hd (x := .int i 0) rfl ?f9)
  case f9 =>
  show wpAny _ A.in1 (seqItems? (Value.ref l) >>= _) _ _ _
  refine wpAny_bind (wpAny_seqItems hol hdl ?f1)
  case f1 =>
  simp only [Int.toNat_natCast, hx]
  refine wpAny_bind (wpAny_rule (wpAny_bind (wpAny_setField ho hd (by simp) ?f2)))
  case f2 =>
  obtain ⟨hh, o1, vs1, h1, d1, c1⟩ := hot
  refine stop_hot (A := A.in1) (x1 := x1) ⟨hh, o1, vs1, ?g1, d1, c1⟩ fun h' e k ke => ?g2
  case g1 =>
    show (Heap.update s.heap it _).get? x1 = some o1
    rw [Heap.get?_update_other _ _ n1.symm]
    exact h1
  case g2 =>
  obtain ⟨oe, q1, q2⟩ := ke
  refine wpAny_bind (wpAny_isInstance (T := "StopIteration") (b := true) ⟨oe, q1, q2⟩ isSubtype_stop (wpAny_pure (hQ h' fun b u hb hu => k b u ?g3)))
  case g3 =>
    show (Heap.update s.heap it _).get? b = some u
    rw [Heap.get?_update_other _ _ (Ne.symm hb)]
    exact hu
/-- a, b, .. = a tuple -/
theorem unpack_hot {x1 t : Addr} {items : Array Value} {env : Env} {elts : List Expr} {k1} {pos : Pos} {Q : Unit → Shared → Prop} (hot : HotAt A x1 s.heap) (ht : IsTup s.heap t items) (hn : (assignEach elts env).length = items.size) (hstar : (assignEach elts env).findIdx? (·.1) = none)
    (hq : ∀ h', Heap.ExtBut s.heap.objs.size s.heap h' → wpAny (model prog w) A (assignInOrder ((assignEach elts env).map (·.2)) items.toList) Q E { s with heap := h' }) :
    wpAny (model prog w) A (assign (.Tuple elts k1 pos) env (.ref t)) Q E s := by
  have nt : t ≠ s.heap.objs.size := by
    obtain ⟨o, ho, _⟩ := ht
    exact Nat.ne_of_lt (Heap.lt_size ho)
  have n1 : x1 ≠ s.heap.objs.size := by
    obtain ⟨_, o1, _, h1, _⟩ := hot
    exact Nat.ne_of_lt (Heap.lt_size h1)
  rw [assign_Tuple]
  apply wpAny_bind
  apply wpAny_standAt
  unfold unpack
  rw [hn, hstar]
  apply wpAny_bind
  apply wpAny_holding
  unfold unpackItems notIterableAtAll
  refine wpAny_bind (wpAny_bind (wpAny_specialOf ht.typeIs slot_tuple_iter.lookup (wpAny_pure ?u1)))
  case u1 =>
  simp only [Bool.false_eq_true, if_false]
  refine wpAny_bind (wpAny_holding (iter_tuple ht ?u2))
  case u2 =>
  refine wpAny_bind (wpAny_holding (draw_tuple nt items.size 0 _ _ ⟨_, Heap.get?_push_size _ rfl, rfl, rfl⟩ (ht.push _) (by omega) fun ha ia sa => ?u3))
  case u3 =>
  have all : (items.toList.drop 0).take items.size = items.toList := by
    rw [List.drop_zero]
    exact List.take_of_length_le (by simp)
  rw [all, if_neg (by simp)]
  have ta : IsTup ha t items := (ht.push _).extBut sa.extBut nt
  have hota : HotAt A x1 ha := by
    obtain ⟨hh, o1, vs1, h1, d1, c1⟩ := hot
    exact ⟨hh, o1, vs1, sa.extBut _ _ n1 (Heap.get?_push_of_some _ h1), d1, c1⟩
  refine wpAny_bind (wpAny_holding (tupEnd_hot hota n1 ia ta (by simp) fun hb eb => ?u4))
  case u4 =>
  simp only [Option.isSome_none, Bool.false_eq_true, if_false]
  refine wpAny_pure (hq hb fun c o hc e => eb c o hc (sa.extBut c o hc (Heap.get?_push_of_some _ e)))
end
/-- a context in which an exception is handled, whatever was done -/
def HotI (X : Cx) : Prop := ∀ (pins : List (Addr × Obj)) (σ : L2.St) (H : Hp) (s : Shared), Inv X pins σ H s → ∃ x1, HotAt X.A x1 s.heap
theorem pg_tupH {X : Cx} {es : List Expr} {k n : Nat} {t : TGs} {pos : Pos} (hc : HotI X) (h : PGs X es t)
    (hn : (assignEach es X.env).length = n := by rfl) (hst : (assignEach es X.env).findIdx? (·.1) = none := by rfl) : PG X (.Tuple es k pos) (gTup X.K n t) := by
  refine ⟨fun pins s σ H v u Q I r hw => ?_⟩
  obtain ⟨a, xs, rfl, hq, hl, hw⟩ := hw
  cases r
  obtain ⟨its, rv, ht, _⟩ := I.tuple hq
  obtain ⟨x1, hot⟩ := hc pins σ H s I
  refine unpack_hot hot ht (by simp [hn, ← hl, rv.length]) hst fun h' hx => ?_
  have J : Inv X pins σ H { s with heap := h' } := I.kept (t' := s.toks) fun b o e => hx b o (Nat.ne_of_lt (Heap.lt_size e)) e
  exact h.run pins _ σ H xs _ Q J (by simpa using rv) hw
/-- what stands untracked where a block begins stands all along, so the handled exception too -/
theorem hot_blk {X : Cx} {s : Shared} {H : Hp} {scope : Scope} {ce : Env} {fp : List Addr} {p : Addr × Obj} (h1 : Hot1 X.A p) (g : s.heap.get? p.1 = some p.2) (n : H p.1 = none) (f : p.1 ∉ frs X.stack) (nf : p.1 ∉ fp) : HotI (X.blk s H scope ce fp) := fun pins σ H' s' I => by
  obtain ⟨hh, vs, d, c⟩ := h1
  refine ⟨p.1, hh, p.2, vs, I.base.keep p.1 p.2 g n ?_ nf, d, c⟩
  exact f
theorem pe_lcH {X : Cx} {elt tg l : Expr} {ifs : List Expr} {scope : Scope} {own : List (Str × Nat)} {pos : Pos} {tl te : TE} {g : TG} {tt : TT} (hot : HotC X) (hN : X.N.Nodup) (hl : PE X l tl) (ok : BlkOk X.N X.env.scope scope own)
    (hg : ∀ (s : Shared) (H : Hp) (C : Addr) (cl : List (Str × Addr)) (fp : List Addr), HotI (X.blk s H scope (compEnvC scope cl C X.env) fp) → PG (X.blk s H scope (compEnvC scope cl C X.env) fp) tg g)
    (ht : ∀ (s : Shared) (H : Hp) (C : Addr) (cl : List (Str × Addr)) (fp : List Addr), PTs (X.blk s H scope (compEnvC scope cl C X.env) fp) ifs tt)
    (he : ∀ (s : Shared) (H : Hp) (C : Addr) (cl : List (Str × Addr)) (fp : List Addr), PE (X.blk s H scope (compEnvC scope cl C X.env) fp) elt te) (hs : ∀ x, foldedSetIterable l X.env x = pure x := by intro _; rfl) :
    PE X (.ListComp elt [⟨tg, l, ifs, 0⟩] scope pos) (tLc (iList X.K tl) g tt te (own.map (·.2))) := by
  refine ⟨fun pins s σ H Q I hw => ?_⟩
  rw [eval_ListComp]
  have cells : ∀ y ∈ scope.names, y.2 = .free → ∃ c, X.env.cells.lookup y.1 = some c := fun y hy e => by
    rcases ok.free y hy e with k | k
    · exact I.ok.has _ (.inl k)
    · exact I.ok.has _ (.inr k)
  apply wpAny_comprehension_free rfl hs (closure_ok cells) ok.kind (fun y hy e => by rw [ok.uniq y hy, e])
  refine thn (hl.run pins s σ H _ I hw) fun xv sa hx => ?_
  obtain ⟨xv', Ha, Ia, ra, a, rfl, ⟨xs, hq⟩, q⟩ := hx
  cases ra
  obtain ⟨its, rv, pl, _⟩ := Ia.list hq
  apply wpAny_pyIter_list pl.isList
  -- the iterator, new
  obtain ⟨it, eit⟩ : ∃ it, it = sa.heap.objs.size := ⟨_, rfl⟩
  obtain ⟨sb, esb⟩ : ∃ sb : Shared, sb = { sa with heap := sa.heap.push { cls := .type "list_iterator", data := .fields #[.ref a, .int 0 0] } } := ⟨_, rfl⟩
  have Ib : Inv X pins σ Ha sb := by
    rw [esb]
    exact Ia.kept (t' := sa.toks) fun b o e => Heap.get?_push_of_some _ e
  have itb : sb.heap.IsListIter it a 0 := by
    rw [esb, eit]
    exact ⟨_, Heap.get?_push_size _ rfl, rfl, rfl⟩
  have fpb : FpOk X pins Ha it := by
    rw [eit]
    exact Ia.fpOk (Nat.le_refl _) (Ia.hok.fresh (Nat.le_refl _))
  rw [← eit, ← esb]
  refine wpAny_newObj_type (newEnv_comp ?_) (by show 0 ≤ sizeLine; decide)
  obtain ⟨D, eD⟩ : ∃ D, D = sb.heap.objs.size := ⟨_, rfl⟩
  have nD : Ha D = none := by
    rw [eD]
    exact Ib.hok.fresh (Nat.le_refl _)
  obtain ⟨W, ⟨m0, w0⟩, turn⟩ := q D nD
  obtain ⟨sc, esc⟩ : ∃ sc : Shared, sc = { sb with heap := sb.heap.push { cls := .type "list", data := .seq ([] : List Value).toArray } } := ⟨_, rfl⟩
  have hsc : sc.heap = sb.heap.push { cls := .type "list", data := .seq ([] : List Value).toArray } := by rw [esc]
  have Ic : Inv X pins σ (upd Ha D (.lst [])) sc := by
    rw [esc]
    refine Ib.laid (t' := sb.toks) (fun b o e => Heap.get?_push_of_some _ e) (Nat.le_of_eq eD.symm) ⟨Nat.zero_le _, [], 0, .nil, ?_⟩
    rw [eD]
    exact Heap.get?_push_size _ rfl
  have ltit : it < sb.heap.objs.size := by
    obtain ⟨o, e, _⟩ := itb
    exact Heap.lt_size e
  have nDit : it ≠ D := by
    rw [eD]
    exact Nat.ne_of_lt ltit
  have itc : sc.heap.IsListIter it a 0 := itb.at fun o e => by
    rw [hsc]
    exact Heap.get?_push_of_some _ e
  have fpc : ∀ b ∈ [it], FpOk X pins (upd Ha D (.lst [])) b ∧ b < sc.heap.objs.size := fun b hb => by
    rw [List.mem_singleton.mp hb]
    refine ⟨⟨?_, fpb.2⟩, ?_⟩
    · rw [upd_ne nDit]
      exact fpb.1
    · rw [hsc, Heap.size_push]
      exact Nat.lt_succ_of_lt ltit
  obtain ⟨p, hp1, hpn⟩ := hot
  have pc := Ic.pin p (List.mem_append_left _ hpn)
  have npit : p.1 ≠ it := fun z => fpb.2.2.2.2.2 p (List.mem_append_left _ hpn) z
  have Id := block_start Ic ok hN fpc
  rw [← esc]
  obtain ⟨Hc, eHc⟩ : ∃ Hc, Hc = upd Ha D (.lst []) := ⟨_, rfl⟩
  rw [← eHc] at Ic Id fpc w0 pc
  obtain ⟨cl, ecl⟩ : ∃ cl, cl = cellsFrom (sc.heap.objs.size + 1) scope.names (cloFrom X.env.cells scope.names []) := ⟨_, rfl⟩
  rw [← ecl] at Id ⊢
  obtain ⟨C, eC⟩ : ∃ C, C = sc.heap.objs.size := ⟨_, rfl⟩
  have hI : HotI (X.blk sc Hc scope (compEnvC scope cl C X.env) [it]) := hot_blk hp1 pc.1 pc.2.1 (fun z => (List.mem_cons.mp (Ic.stkSub p.1 z)).elim pc.2.2.1 pc.2.2.2.1) (by simp [npit])
  have pg := hg sc Hc C cl [it] hI
  have pt := ht sc Hc C cl [it]
  have pe := he sc Hc C cl [it]
  obtain ⟨sd, esd⟩ : ∃ sd : Shared, sd = { sc with heap := pushCells (sc.heap.push { cls := .type "dict", data := .dict #[] }) scope.names } := ⟨_, rfl⟩
  obtain ⟨ce, ece⟩ : ∃ ce, ce = compEnvC scope cl C X.env := ⟨_, rfl⟩
  rw [← eC] at Id
  rw [← ece] at Id pg pt pe hI
  have Id' : Inv (X.blk sc Hc scope ce [it]) [] (wipe σ (own.map (·.2))) Hc sd := by
    rw [esd]
    exact Id
  have locC : ce.locals = C := by rw [ece]; rfl
  have itd : sd.heap.IsListIter it a 0 := itc.at fun o e => by
    rw [esd]
    exact pushCells_keeps _ _ _ _ (Heap.get?_push_of_some _ e)
  show codeAny (model X.prog X.w) X.A (.compStart (.ListComp elt [⟨tg, l, ifs, 0⟩] scope pos) 0 (.ref it) (.ref sb.heap.objs.size) (compEnvC scope cl sc.heap.objs.size X.env)) (compPost (model X.prog X.w) X.A X.xe none (EP X pins σ Q) (.ref sb.heap.objs.size) sc.heap.objs.size) _
  rw [← esd, ← eC, ← ece, ← eD]
  -- the iterator's own place, at any state of the block
  have fpAt : ∀ {σ' : L2.St} {H' : Hp} {s' : Shared}, Inv (X.blk sc Hc scope ce [it]) [] σ' H' s' → H' it = none → FpOk (X.blk sc Hc scope ce [it]) [] H' it := fun {σ' H' s'} J hn =>
    ⟨hn, (J.ok.exf it (by simp)).1, J.ok.exfs it (by simp), .inl (by simp), fun x c e => (J.ok.exf it (by simp)).2 x c e, fun z hz => absurd (show z ∈ ([] : List (Addr × Obj)) ++ [] from hz) (by simp)⟩
  have loop : codeAny (model X.prog X.w) X.A (.compLoop (.ListComp elt [⟨tg, l, ifs, 0⟩] scope pos) 0 (.ref it) (.ref D) ce) (compPost (model X.prog X.w) X.A X.xe none (EP X pins σ Q) (.ref D) C) sd := by
    refine compLoop_any (fun n s' => ∃ i H', Inv (X.blk sc Hc scope ce [it]) [] (wipe σ (own.map (·.2))) H' s' ∧ s'.heap.IsListIter it a i ∧ H' it = none ∧ W i n H') ?_ m0 ⟨0, Hc, Id', itd, (fpc it (by simp)).1.1, w0⟩
    rintro n se ⟨i, He, Ie, ite, ne, we⟩
    obtain ⟨x1, hx1⟩ := hI _ _ _ _ Ie
    obtain ⟨f0, f1, f2, f3, f4, f5⟩ := fpAt Ie ne
    have nx1 : x1 ≠ it := fun z => by
      obtain ⟨_, o1, vs1, q1, q2, q3⟩ := hx1
      obtain ⟨o2, q4, q5, q6⟩ := ite
      rw [z, q4] at q1
      cases q1
      rw [q6] at q2
      cases q2
      simp at q3
    rcases turn i n He we with ⟨stop, qe⟩ | ⟨go, Nx, hNx, step⟩
    · obtain ⟨ys, hy, hly⟩ := stop
      obtain ⟨its2, rv2, pl2, _⟩ := Ie.list hy
      have l2 := rv2.length
      refine listEnd_hot hx1 nx1 ite pl2.isList (by simp; omega) fun h' eb => ?_
      have If : Inv (X.blk sc Hc scope ce [it]) [] (wipe σ (own.map (·.2))) He { se with heap := h' } := Ie.turned (t' := se.toks) (fun b o hb e => eb b o hb e) f0 f1 f3 f4 f5
      have Ig : Inv X pins σ He { se with heap := h' } := Ic.call' (ch := [it]) If.os If.base If.hok If.bare fun b hb => by
        have z := (fpc b hb).1
        exact ⟨z.2.2.2.1, z.2.1, z.2.2.2.2.1, z.2.2.2.2.2⟩
      have nC : He C = none := by
        have z : He ce.locals = none := If.free
        rw [locC] at z
        exact z
      obtain ⟨m, hm, _⟩ := If.loc
      have hm : ({ se with heap := h' } : Shared).heap.Ns ce.locals m := hm
      rw [locC] at hm
      have fC : FpOk X pins He C := by
        rw [eC] at nC ⊢
        exact Ic.fpOk (Nat.le_refl _) nC
      obtain ⟨c0, c1, c2, c3, c4, c5⟩ := fC
      exact ⟨m, hm, fun h2 sb2 => ⟨.ref D, He, Ig.turned (t' := se.toks) (fun b o hb e => (sb2.2 b hb).trans e) c0 c1 c3 c4 c5, rfl, qe⟩⟩
    · obtain ⟨ys, x, hy, hx⟩ := go
      obtain ⟨its2, rv2, pl2, _⟩ := Ie.list hy
      obtain ⟨u, hu, ru⟩ := rv2.get hx
      refine wpAny_pyNext_list_item ite pl2.isList (x := u) (by simpa using hu) fun hf itf sbf => ?_
      obtain ⟨sf, esf⟩ : ∃ sf : Shared, sf = { se with heap := hf } := ⟨_, rfl⟩
      have If : Inv (X.blk sc Hc scope ce [it]) [] (wipe σ (own.map (·.2))) He sf := by
        rw [esf]
        exact Ie.turned (t' := se.toks) (fun b o hb e => (sbf.2 b hb).trans e) f0 f1 f3 f4 f5
      have itf2 : sf.heap.IsListIter it a (i + 1) := by rw [esf]; exact itf
      rw [← esf]
      obtain ⟨oi, ei, ci, di⟩ := id itf2
      have ncell : ∀ v, oi.data ≠ .cell v := fun v z => by
        rw [di] at z
        cases z
      refine go_of (s := sf) ei ci di (by decide) ?_
      have Ip : Inv (X.blk sc Hc scope ce [it]) ([] ++ pinsAt [it] sf.heap) (wipe σ (own.map (·.2))) He sf := If.pinned (fun b hb => by rw [List.mem_singleton.mp hb]; exact fpAt If ne) (fun b hb => by rw [List.mem_singleton.mp hb]; exact ⟨oi, ei, ncell⟩)
      -- behind a turn
      have next : ∀ {σ' : L2.St} {s' : Shared} {H' : Hp}, Inv (X.blk sc Hc scope ce [it]) ([] ++ pinsAt [it] sf.heap) σ' H' s' → wipe σ' (own.map (·.2)) = wipe σ (own.map (·.2)) → Nx H' → ∃ m, m < n ∧ ∃ i H', Inv (X.blk sc Hc scope ce [it]) [] (wipe σ (own.map (·.2))) H' s' ∧ s'.heap.IsListIter it a i ∧ H' it = none ∧ W i m H' := fun {σ' s' H'} J hwp nx => by
        obtain ⟨m', lt', w'⟩ := hNx H' nx
        have pin := J.pin (it, oi) (List.mem_append_right _ (List.mem_append_right _ (mem_pinsAt (by simp) ei)))
        refine ⟨m', lt', i + 1, H', (J.unpinned (pins := [])).weak (by rw [← hwp, wipe_length]) (fun j v e => ?_), itf2.at fun o e => ?_, pin.2.1, w'⟩
        · rw [← hwp] at e
          exact (wipe_some e).1
        · rw [ei] at e
          cases e
          exact pin.1
      refine thnF (pg.run _ sf _ He x u _ Ip ru (step x He ⟨rfl, fun zs hz => by rw [Ie.list_inj hz hy]; exact hx⟩)) fun _ sg hgq => ?_
      obtain ⟨σg, Hg, Ig, hwg, qg⟩ := hgq
      refine thnF (pt.run _ sg σg Hg _ Ig qg) fun bb sh hhq => ?_
      obtain ⟨Hh, Ih, qh⟩ := hhq
      cases bb with
      | false =>
        rw [if_neg Bool.false_ne_true] at qh ⊢
        exact next Ih hwg qh
      | true =>
        rw [if_pos rfl] at qh ⊢
        refine thnF (pe.run _ sh σg Hh _ Ih qh) fun z si hiq => ?_
        obtain ⟨yv, Hi, Ii, ri, acc, hDi, hzi, nx⟩ := hiq
        exact app_ok (X := X.blk sc Hc scope ce [it]) Ii hDi hzi ri fun sj Ij => next Ij hwg nx
  exact codeAny_compStart_list loop (wpAny_pyIter_listiter itd loop)
end Cot

set_option Elab.async false
set_option linter.all false
set_option maxRecDepth 100000
set_option maxHeartbeats 4000000
/-! A lambda without parameters handed to a def, whose exceptions bear no context. -/
namespace Cot
open PySem PySem.Spec PyProof.Rows L2 LamX
/-- the lambda's context, exceptions as L2N tells them -/
def lamN (X : Cx) (A : Around) (outer : List Env) (s : Shared) (H : Hp) (E : XK) (scope : Scope) (f c' : Addr) : Cx :=
  (lamCx X A outer s H E scope f c').wish fun e s1 => wpAny (model X.prog X.w) (A.deeper (lamEnv X scope s.heap.objs.size f c')) (leaving (lamEnv X scope s.heap.objs.size f c') e) (fun _ s2 => L2N.CX X.prog X.w outer H s E e s2) (fun e2 s2 => L2N.CX X.prog X.w outer H s E e2 s2) s1
section
variable {X : Cx} {pins : List (Addr × Obj)} {σ : L2.St} {H : Hp} {s : Shared}
theorem actN {CXg : CXT} {Eg : XK} {Ng : List Str} {qg : Str} {sg : Scope} {g f c' : Addr} {cdg pm ctv : Value} {params : Arguments} {body : Expr} {scope : Scope} {k i : Nat} {a : Str} {pn : List (Addr × Obj)} {xe : Value → Shared → Prop} {W : WX} {E : XK} {tb : TE} {p1 p2 : Pos}
    (I : Inv X pins σ H s) (L : LamS X.env.scope scope) (of0 : s.heap.get? f = some (PySem.W.kla_obj "<lambda>" (X.env.qual ++ "<lambda>") params body scope (cloFrom X.env.cells scope.names []) pm c' ctv)) (nf : H f = none) (ff : f ∉ frs X.stack)
    (bnd : bindArgs (PySem.W.kla_fn "<lambda>" (X.env.qual ++ "<lambda>") params body scope (cloFrom X.env.cells scope.names []) pm (.ref c') ctv) ⟨[], []⟩ = pure [])
    (tk : L2N.Takes ((cxOf CXg X.prog X.w X.K X.mg X.base Ng qg sg g cdg X.A X.stack s H Eg).tr pn xe) W) (hW : ∀ cls d σ1 H1, E cls d H1 → W cls d σ1 H1) (hr : Room (k + 1) (X.A.deeper (envOfC qg sg s.heap.objs.size g cdg)))
    (hb : ∀ (A : Around) (outer : List Env) (s : Shared) (H : Hp), Room k (A.deeper (lamEnv X scope s.heap.objs.size f c')) → PE (lamN X A outer s H E scope f c') body tb)
    (hN : Ng[i]? = some a) (hv : Vis sg a) (hd : (a == ("__debug__" : Str)) = false) (hcd : (a == ("__classdict__" : Str)) = false) :
    PE ((cxOf CXg X.prog X.w X.K X.mg X.base Ng qg sg g cdg X.A X.stack s H Eg).tr pn xe) (.Call (.Name a p1) [] [] p2)
      (fun σz Hz Q => σz[i]? = some (some (.ref f)) ∧ Hz c' = some (CodeO c' (X.env.qual ++ "<lambda>")) ∧ tb σ Hz Q) := by
  refine ⟨fun pz sz σz Hz Q Iz hq => ?_⟩
  obtain ⟨h1, h2, h3⟩ := hq
  have var := (pe_var (X := (cxOf CXg X.prog X.w X.K X.mg X.base Ng qg sg g cdg X.A X.stack s H Eg).tr pn xe) (pos := p1) (i := i) hN hv hd hcd).run pz sz σz Hz (fun v H1 => v = .ref f ∧ H1 = Hz) Iz ⟨.ref f, h1, rfl, rfl⟩
  refine wpAny_Call_Name_kw (thn var fun u sa hh => ?_)
  obtain ⟨v, Ha, Ia, ra, rfl, eHa⟩ := hh
  rw [eHa] at Ia
  cases ra
  have ofa := Ia.base.keep f _ of0 nf ff (fun z => nomatch (show f ∈ ([] : List Addr) from z))
  refine PySem.W.callWith_F0 ⟨_, _, _, _, ofa⟩ ?_
  have una : Un (frs X.stack) [] H Hz s.heap sa.heap := Ia.base
  obtain ⟨⟨oc, vs, t, hoc, hdc, hvc⟩, _, _⟩ := Ia.hok c' _ h2
  have run : codeAny (model X.prog X.w) (X.A.deeper (envOfC qg sg s.heap.objs.size g cdg)) (.call (.ref f) ⟨[], []⟩) (CR (L2N.CX X.prog X.w) (envOfC qg sg s.heap.objs.size g cdg :: X.stack) X.prog X.w Hz sa Q E) sa := by
    refine PySem.W.kla_callFunE hr.depth ofa rfl L.co L.gen rfl ⟨c', oc, vs, t, rfl, hoc, hdc, hvc⟩ ?_
    rw [bnd]
    apply wpAny_pure
    refine wpAny_newFunctionEnv (fun y hy => (L.own y hy).2) (fun y hy => absurd hy (by simp)) (fun hn ns sb => ⟨Ia.nolimit.fresh _ sb, ?_⟩) L.kind
    have keep : ∀ b o, sa.heap.get? b = some o → hn.get? b = some o := fun b o e => sb.extBut b o (Nat.ne_of_lt (Heap.lt_size e)) (Heap.get?_push_of_some _ e)
    have J := (lam_start2 (E := E) (f := f) (c' := c') (tk := sa.toks + ([] : List (Str × Value)).length) I L Ia.env0 hr.hd una ns keep).wish (fun e s1 => wpAny (model X.prog X.w) ((X.A.deeper (envOfC qg sg s.heap.objs.size g cdg)).deeper (lamEnv X scope sa.heap.objs.size f c')) (leaving (lamEnv X scope sa.heap.objs.size f c') e) (fun _ s2 => L2N.CX X.prog X.w (envOfC qg sg s.heap.objs.size g cdg :: X.stack) Hz sa E e s2) (fun e2 s2 => L2N.CX X.prog X.w (envOfC qg sg s.heap.objs.size g cdg :: X.stack) Hz sa E e2 s2) s1)
    show codeAny _ _ (.expr body (lamEnv X scope sa.heap.objs.size f c')) _ _
    refine PySem.W.kla_codeExpr (wpAny_mono ((hb _ _ sa Hz (hr.deeper _)).run [] _ _ Hz Q J h3) (fun v s1 hv => ?_) fun e s1 hv => hv)
    obtain ⟨v1, H1, J1, r1, q1⟩ := hv
    exact ⟨v1, H1, J1.os, J1.bare, J1.base, J1.hok, r1, q1⟩
  have pass := L2N.passes_call tk hW
  refine wpAny_call (codeAny_mono run fun r s1 hv => ?_)
  cases r with
  | error e => exact pass pz σz Hz sa e s1 Ia hv
  | ok fl =>
    cases fl with
    | ret u => exact Ia.after hv
    | next => exact hv.elim
    | brk => exact hv.elim
    | cont => exact hv.elim
end
/-- the def that calls what it got -/
def GivesN (X : Cx) (Ng : List Str) (x : Str) (sg : Scope) (g : Addr) (cdg : Value) (bg : List Stmt) (a : Str) (q : Str) (k : Nat) (TT : (XK → Hp → VK → Prop) → Hp → VK → Prop) : Prop :=
  ∀ (f c' : Addr) (s : Shared) (H : Hp) (Q : VK) (tl : XK → Hp → VK → Prop), Room (k + 1) (X.A.deeper (envOfC x sg s.heap.objs.size g cdg)) →
    (∀ (W : WX) (pn : List (Addr × Obj)) (xe : Value → Shared → Prop) (E : XK) (p1 p2 : Pos), L2N.Takes ((cxOf C8.CX0 X.prog X.w X.K X.mg X.base Ng x sg g cdg X.A X.stack s H C8.E0).tr pn xe) W → (∀ cls d σ1 H1, E cls d H1 → W cls d σ1 H1) →
      PE ((cxOf C8.CX0 X.prog X.w X.K X.mg X.base Ng x sg g cdg X.A X.stack s H C8.E0).tr pn xe) (.Call (.Name a p1) [] [] p2) (fun σz Hz Q => σz[0]? = some (some (.ref f)) ∧ Hz c' = some (CodeO c' q) ∧ tl E Hz Q)) →
    H c' = some (CodeO c' q) → TT tl H Q →
    ∃ t, PSs (cxOf C8.CX0 X.prog X.w X.K X.mg X.base Ng x sg g cdg X.A X.stack s H C8.E0).nox bg t ∧ t { nx := fun _ H1 => Q .non H1, rt := Q } (L2.start Ng [.ref f]) H
theorem pe_lamN {X : Cx} {T : List (Addr × Str)} {TT : (XK → Hp → VK → Prop) → Hp → VK → Prop} {x a : Str} {g c P : Addr} {k : Nat} {pg : Arguments} {bg : List Stmt} {sg : Scope} {dV kV doc pm cdv ct oc : Value} {an od : Option Addr} {osl : Array (Option Value)} {Ng : List Str}
    {params : Arguments} {body : Expr} {scope : Scope} {t : XK → TE} {p lpos pos : Pos} (hg : Gl X x) (hm : X.mg x = some (.ref g)) (hk : PySem.W.keepIn X.K (.ref g) = true)
    (lk : X.K.lookup g = some ⟨oc, od, .func (PySem.W.fnOf x x pg bg sg dV kV doc pm an cdv ct), osl⟩) (hcg : PySem.W.codeIn X.K cdv x = true) (hbi : L2.Binds X.K (PySem.W.fnOf x x pg bg sg dV kV doc pm an cdv ct) [a] []) (Sg : FnScope Ng [a] sg) (hNg : Ng[0]? = some a) (hva : Vis sg a)
    (hG : GivesN X Ng x sg g cdv bg a (X.env.qual ++ "<lambda>") k TT)
    (TB : TabB X.base X.mg c P) (hcode : X.env.code = .ref c) (hmT : (P, X.env.qual ++ "<lambda>") ∈ T) (hu : ∀ q ∈ T, q.1 = P → q.2 = X.env.qual ++ "<lambda>") (hr : Room (k + 2) X.A) (L : LamS X.env.scope scope) (hdef : defaultsOf params X.env = ([], []))
    (bnd : ∀ (q : Str) (cl : List (Str × Addr)) (pm cv ctv : Value), bindArgs (PySem.W.kla_fn "<lambda>" q params body scope cl pm cv ctv) ⟨[], []⟩ = pure [])
    (hb : ∀ (A : Around) (outer : List Env) (s : Shared) (H : Hp) (E : XK) (f c' : Addr), Room k (A.deeper (lamEnv X scope s.heap.objs.size f c')) → PE (lamN X A outer s H E scope f c') body (t E))
    (hdb : (x == ("__debug__" : Str)) = false := by decide) (hd : (a == ("__debug__" : Str)) = false := by decide) (hcd : (a == ("__classdict__" : Str)) = false := by decide) :
    PE X (.Call (.Name x p) [.Lambda params body scope lpos] [] pos) (tLam T TT t) := by
  refine ⟨fun pz sz σz Hz Q Iz hq => ?_⟩
  obtain ⟨hT, hq⟩ := hq
  refine wpAny_Call_Name_kw (ld_glob Iz hg hm (PySem.W.callWith_K (h₀ := X.base) Iz.ok.mod.kin hk ?_ (by rfl) (by rfl)) hdb)
  show wpAny _ _ (spliced ((false, eval (.Lambda params body scope lpos) X.env) :: backTo pos (starEach [] X.env))) _ _ sz
  refine Calls.spliced_cons (lam_make2 Iz TB hcode hmT hu hT hdef (L.has Iz.ok) fun f c' pm1 ctv Ha sa Ia eN Ta of0 nf ff hco => ?_)
  refine Calls.spliced_nil ⟨Ia.kIn, ?_⟩
  have run : codeAny (model X.prog X.w) X.A (.call (.ref g) ⟨[.ref f], []⟩) (CR C8.CX0 X.stack X.prog X.w Ha sa Q C8.E0) sa := by
    refine run_ofS (N := Ng) (ps := [a]) (us := [.ref f]) (vs := [.ref f]) lk hcg Sg hr Ia.env0 (hbi sa [.ref f] Ia.kIn rfl) (.cons rfl .nil) rfl fun hr1 => ?_
    obtain ⟨t1, ht1, hq1⟩ := hG f c' sa Ha Q (fun E H1 Q1 => t E σz H1 Q1) hr1 (fun W pn xe E p1 p2 tk hW => actN (i := 0) Ia L of0 nf ff (bnd _ _ _ _ _) tk hW hr1 (fun A outer s H hr2 => hb A outer s H E f c' hr2) hNg hva hd hcd) hco (hq Ha eN Ta)
    exact ⟨t1, ht1.nox, hq1⟩
  refine wpAny_call (codeAny_mono run fun r s1 hv => ?_)
  cases r with
  | error e => exact (show False from hv).elim
  | ok fl =>
    cases fl with
    | ret u => exact Ia.after hv
    | next => exact hv.elim
    | brk => exact hv.elim
    | cont => exact hv.elim
end Cot

set_option Elab.async false
set_option linter.all false
set_option maxRecDepth 100000
set_option maxHeartbeats 4000000
/-! A def that is handed the exception that is being handled; isinstance of it. -/
namespace Cot
open PySem PySem.Spec PyProof.Rows L2 L2H
/-- what such a def promises: told of the exception's place and object -/
structure FnP (P : Program) (w : World) (K : PySem.W.Frag) (mg : Str → Option Value) (base : Heap) (CX : CXT) (k : Nat) (f : Addr) (fd : FuncData) (ps : List Str) (sp : Addr × Obj → Sp) : Prop where
  ln : ∀ p vs H Q E, sp p vs H Q E → vs.length = ps.length
  go : ∀ (p : Addr × Obj) (A : Around) (st : List Env) (s : Shared) (H : Hp) (as : Args) (us : List Value) (vs : List V) (Q : VK) (E : XK), RoomH k A → Hot1 A p → PinOk st H s p →
    Env0 P w K mg base A st s H → BindsTo s fd as (ps.zip us) → Vals vs us → sp p vs H Q E → codeAny (model P w) A (.call (.ref f) as) (CR CX st P w H s Q E) s
theorem fn_ofP {P : Program} {w : World} {K : PySem.W.Frag} {mg : Str → Option Value} {base : Heap} {CX : CXT} {k : Nat} {f : Addr} {nm ql : Str} {par : Arguments} {bd : List Stmt} {sc : Scope} {dV kV doc pm cdv ct oc : Value} {an od : Option Addr} {osl : Array (Option Value)} {N ps : List Str} {sp : Addr × Obj → Sp}
    (hl : K.lookup f = some ⟨oc, od, .func (PySem.W.fnOf nm ql par bd sc dV kV doc pm an cdv ct), osl⟩) (hcd : PySem.W.codeIn K cdv ql = true) (S : FnScope N ps sc) (ln : ∀ p vs H Q E, sp p vs H Q E → vs.length = ps.length)
    (hb : ∀ (p : Addr × Obj) (A : Around) (st : List Env) (s : Shared) (H : Hp) (vs : List V) (Q : VK) (E : XK), Hot1 A p → RoomH k (A.deeper (envOfC ql sc s.heap.objs.size f cdv)) → sp p vs H Q E →
      ∃ t, PSs (cxH CX P w K mg base N ql sc f cdv A st s H E p) bd t ∧ t { nx := fun _ H1 => Q .non H1, rt := Q } (L2.start N vs) H) :
    FnP P w K mg base CX (k + 1) f (PySem.W.fnOf nm ql par bd sc dV kV doc pm an cdv ct) ps sp := by
  refine ⟨ln, ?_⟩
  intro p A st s H as us vs Q E room hot pin e0 bnd rel want
  have kin : K.In s.heap := e0.mod.kin.keeps fun b o e => (e0.bs b o e).1
  have nol : s.heap.NoLimit := e0.mod.nolimit.keeps fun b o e => (e0.bs b o e).1
  refine codeAny_call_function room.depth (kin _ _ hl) rfl S.co S.gen rfl (PySem.W.codeRec_of kin hcd) (bnd _ _ _ _ ?_)
  refine wpAny_newFunctionEnv_cells S.kind (fun y hy => ?kinds) fun env he s1 x => ?rest
  case kinds =>
    obtain ⟨n, v⟩ := y
    cases S.par n (List.of_mem_zip hy).1 with
    | inl q => exact .inl q
    | inr q => exact .inr ⟨q, PySem.W.cellsFrom_some _ _ _ (.inl q)⟩
  case rest =>
    subst he
    refine ⟨nol.keeps x.toInCall.keep, codeAny_func ?_⟩
    obtain ⟨t, ht, want2⟩ := hb p A st s H vs Q E hot (room.deeper _) want
    have I0 := inv_startH (CX := CX) (E := E) (qual := ql) (f := f) (cd := cdv) S pin e0 (ln _ _ _ _ _ want) rel x
    refine wpAny_mono (ht.run [] s1 _ H _ I0 want2) (fun fl s2 h2 => ?_) fun _ _ h2 => h2
    cases fl with
    | next =>
      obtain ⟨σ2, H2, J, q⟩ := h2
      exact ⟨V.non, H2, J.os, J.bare, J.base, J.hok, rfl, q⟩
    | ret u =>
      obtain ⟨v, σ2, H2, J, rv, q⟩ := h2
      exact ⟨v, H2, J.os, J.bare, J.base, J.hok, rv, q⟩
    | brk =>
      obtain ⟨_, _, _, q⟩ := h2
      cases q
    | cont =>
      obtain ⟨_, _, _, q⟩ := h2
      cases q
section
variable {X : Cx} {p : Addr × Obj}
theorem pe_callP {CX : CXT} {k : Nat} {f : Addr} {fd : FuncData} {ps : List Str} {sp : Addr × Obj → Sp} {E : L2.St → XK} {x : Str} {q pos : Pos} {e : Expr} {es : List Expr} {t : TA}
    (F : FnP X.prog X.w X.K X.mg X.base CX k f fd ps sp) (room : RoomH k X.A) (hot : Hot1 X.A p) (hp : p ∈ X.pn) (hg : Gl X x) (hm : X.mg x = some (.ref f)) (hk : PySem.W.keepIn X.K (.ref f) = true) (hb : L2.Binds X.K fd ps [])
    (hx : ∀ σ, PassesAt CX X σ (E σ)) (ha : PA X (e :: es) t) (hdb : (x == ("__debug__" : Str)) = false := by decide) (he : starEach (e :: es) X.env = (false, eval e X.env) :: starEach es X.env := by rfl)
    (hpl : (backTo pos (starEach es X.env)).any (·.1) = false := by rfl) : PE X (.Call (.Name x q) (e :: es) [] pos) (tCallS (sp p) E t) := by
  refine ⟨fun pins s σ H Q I want => wpAny_Call_Name_kw (ld_glob I hg hm ?_ hdb)⟩
  refine PySem.W.callWith_K (h₀ := X.base) I.ok.mod.kin hk (thn (ha.run pos pins s σ H _ I want) fun us s1 hh => ?_) he hpl
  obtain ⟨vs, H1, I1, rel, want1⟩ := hh
  refine ⟨I1.kIn, ?_⟩
  have pn := I1.pin p (List.mem_append_left _ hp)
  have bnd := hb s1 us I1.kIn (by rw [List.append_nil, ← rel.length]; exact F.ln _ _ _ _ _ want1)
  rw [List.append_nil] at bnd
  have out : PinOk X.stack H1 s1 p := ⟨pn.1, pn.2.1, fun z => (List.mem_cons.mp (I1.stkSub p.1 z)).elim pn.2.2.1 pn.2.2.2.1, pn.2.2.2.2⟩
  refine wpAny_call (codeAny_mono (F.go p X.A X.stack s1 H1 ⟨us, []⟩ us vs Q (E σ) room hot out I1.env0 bnd rel want1) fun r s2 hv => ?_)
  cases r with
  | error u => exact hx σ pins H1 s1 u s2 I1 hv
  | ok fl =>
    cases fl with
    | ret u => exact I1.after hv
    | next => cases hv
    | brk => cases hv
    | cont => cases hv
/-- isinstance of the exception that is handled -/
theorem call_isP {D : Addr} (C : ExcC X.K D) (hp : p ∈ X.pn) (hz : Zc (.ref D) none p.2) (hf : ∃ vs, p.2.data = .fields vs) : CallR X (.builtin "isinstance") (rIsE X.K D p.1) := by
  intro pins s σ H xs us Q I rel want
  obtain ⟨c, cv, b, rfl, only, ans, q⟩ := want
  obtain ⟨a, oe⟩ := p
  obtain ⟨oc, od, oda, osl⟩ := oe
  obtain ⟨h1, h2⟩ := hz
  obtain ⟨vs, h3⟩ := hf
  dsimp only at h1 h2 h3
  have got := (I.pin _ (List.mem_append_left _ hp)).1
  subst h1 h2 h3
  cases rel with
  | cons r1 r2 =>
    cases r2 with
    | cons r2 r3 =>
      cases r3
      cases r1
      obtain rfl := only _ r2
      have at' : PySem.W.InstAt s.heap a ⟨.ref D, none, .fields vs, osl⟩ D none := ⟨got, rfl, rfl, trivial⟩
      refine PySem.W.kia_one (PySem.W.handS_kitx_exc C.hg C.hk C.hs C.hd C.ha C.hn C.ht C.hm) I.kIn at' ans (fun z => nomatch z) fun tk => ?_
      exact ⟨.bl b, H, I.kept (t' := tk) fun _ _ z => z, rfl, q⟩
end
end Cot

set_option Elab.async false
set_option linter.all false
set_option maxRecDepth 100000
set_option maxHeartbeats 4000000
/-! Own exception classes: their facts, defs that raise, texts joined, pairs walked. -/
namespace Cot
open PySem PySem.Spec PyProof.Rows L2 L2H Evl RZ
section
variable {P : Program} {w : World} {K : PySem.W.Frag} {mg : Str → Option Value} {base : Heap}
theorem okN {x ql : Str} {st : Stmt} {f : Addr} {fd : FuncData} {N ps : List Str} {k : Nat} {sp : Sp} (F : Fun K x ql st f fd) (S : FnScope N ps (defScope st)) (ln : ∀ vs H Q E, sp vs H Q E → vs.length = ps.length)
    (hb : ∀ (cdv : Value) (A : Around) (st2 : List Env) (s : Shared) (H : Hp) (vs : List V) (Q : VK) (E : XK), Room k (A.deeper (envOfC ql (defScope st) s.heap.objs.size f cdv)) → sp vs H Q E →
      ∃ t, PSs (cxOf (L2N.CX P w) P w K mg base N ql (defScope st) f cdv A st2 s H E) (defBody st) t ∧ t { nx := fun _ H1 => Q .non H1, rt := Q } (L2.start N vs) H) : FnOk P w K mg base (L2N.CX P w) (k + 1) f fd ps sp := by
  obtain ⟨_, _, _, _, _, _, cdv, _, _, rfl, lk, hcd⟩ := F.ex
  exact fn_of lk hcd S ln fun A st2 s H vs Q E hr h => hb cdv A st2 s H vs Q E hr h
theorem okP {x ql : Str} {st : Stmt} {f : Addr} {fd : FuncData} {N ps : List Str} {k : Nat} {CX : CXT} {sp : Addr × Obj → Sp} (F : Fun K x ql st f fd) (S : FnScope N ps (defScope st)) (ln : ∀ p vs H Q E, sp p vs H Q E → vs.length = ps.length)
    (hb : ∀ (cdv : Value) (p : Addr × Obj) (A : Around) (st2 : List Env) (s : Shared) (H : Hp) (vs : List V) (Q : VK) (E : XK), Hot1 A p → RoomH k (A.deeper (envOfC ql (defScope st) s.heap.objs.size f cdv)) → sp p vs H Q E →
      ∃ t, PSs (cxH CX P w K mg base N ql (defScope st) f cdv A st2 s H E p) (defBody st) t ∧ t { nx := fun _ H1 => Q .non H1, rt := Q } (L2.start N vs) H) : FnP P w K mg base CX (k + 1) f fd ps sp := by
  obtain ⟨_, _, _, _, _, _, cdv, _, _, rfl, lk, hcd⟩ := F.ex
  exact fn_ofP lk hcd S ln fun p A st2 s H vs Q E hot hr h => hb cdv p A st2 s H vs Q E hot hr h
end
/-- a class of errors, by its name -/
structure ExB (K : PySem.W.Frag) (mg : Str → Option Value) (x : Str) (C : Addr) : Prop where
  g : mg x = some (.ref C)
  kp : PySem.W.keepIn K (.ref C) = true
/-- one under ValueError, without an own __init__ -/
structure Exn (K : PySem.W.Frag) (mg : Str → Option Value) (x : Str) (C : Addr) : Prop extends ExB K mg x C where
  xi : PySem.W.excIn K C [.type "ValueError", .type "Exception", .type "BaseException", .type "object"] "ValueError.__new__" = true
  sb : PySem.W.subIn K (.ref C) (.type "BaseException") = some true
  ty : PySem.W.typeIn K (.ref C) = some (.type "type")
/-- isinstance of an instance of D, class by class -/
inductive KRow (K : PySem.W.Frag) (D : Addr) : List Value → List Bool → Prop
  | nil : KRow K D [] []
  | cons {c : Value} {b : Bool} {cs : List Value} {bs : List Bool} (h : PySem.W.kitOne K (.ref D) c = some b) (r : KRow K D cs bs) : KRow K D (c :: cs) (b :: bs)
theorem KRow.get {K : PySem.W.Frag} {D : Addr} {cs : List Value} {bs : List Bool} (r : KRow K D cs bs) : ∀ (i : Nat) (c : Value), cs[i]? = some c → PySem.W.kitOne K (.ref D) c = some (bs.getD i false) := by
  induction r with
  | nil => intro i c e; simp at e
  | cons h _ ih =>
    intro i c e
    cases i with
    | zero =>
      cases e
      exact h
    | succ i => exact ih i c e
theorem Exn.pmk {X : Cx} {x m : Str} {C : Addr} {j : Nat} {p p2 pos : Pos} (e : Exn X.K X.mg x C) (hg : Gl X x) (hdb : (x == ("__debug__" : Str)) = false := by decide) : L2N.PMk X (.Call (.Name x p) [.Constant (.str m) j p2] [] pos) (fun _ H Q => Q (.ref C) none H) :=
  L2N.pmk_own PySem.F.excBase_ValueError e.xi e.g e.kp (raises_own e.sb e.ty) hg hdb
section
variable {K : PySem.W.Frag} {X : Cx} {H H' Hd Hd' Hn H1 H2 Hm : Hp} {σ : L2.St} {ta tb tc te tx tl to : TE} {d : PyData} {ds es : List PyData} {tr : TA} {i j j2 n : Nat}
/-- a list of pairs, walked -/
theorem ei_pairs {f f2 : Nat → Option PyData} (h : EvD K tl σ Hd (.list ds)) (hp : ∀ i d, ds[i]? = some d → ∃ d1 d2, d = .tuple [d1, d2] ∧ f i = some d1 ∧ f2 i = some d2) : EvI K (iList K tl) (g2 K j j2) σ Hd ds.length (SPair K j j2 f f2) := fun H s R r =>
  h H s _ fun v H2 Hn g hd => by
    cases hd with
    | @lst a xs ds hs hall =>
      refine ⟨a, rfl, ⟨xs, ex_l g.sub hs⟩, r _ H2 Hn _ _ g (by rw [← dpa_len hall]; exact walk_list) (fun H' e => ex_l e hs) fun i x H' H'' σ' k hi e y q => ?_⟩
      obtain ⟨rfl, hx⟩ := y
      obtain ⟨d, h1, h2⟩ := dpa_get2 hall hx
      obtain ⟨d1, d2, rfl, q1, q2⟩ := hp i d h1
      cases h2 with
      | @tup T ys es ht hal =>
        cases hal with
        | cons p1 p2 =>
          cases p2 with
          | cons p2 p3 =>
            cases p3
            exact ⟨T, _, rfl, ex_t e ht, rfl, _, _, rfl, _, [], rfl, rfl, q _ _ (Ex.refl _) ⟨_, _, d1, d2, q1, q2, p1, p2, rfl⟩⟩
def rJo (K : PySem.W.Frag) : V → List V → Hp → VK → Prop := fun x xs H Q => ∃ a p, ∃ ys : List Str, x = .str a ∧ xs = [.ref p] ∧ (SqL K H p (ys.map V.str) ∨ SqT K H p (ys.map V.str)) ∧ (ys.map (·.length)).sum + ys.length * a.length ≤ 16777216 ∧ Q (.str (Txt.join a ys)) H
theorem pe_jo {o e : Expr} {apos pos : Pos} (ho : PE X o to) (he : PE X e te) (hs : starEach [e] X.env = [(false, eval e X.env)] := by rfl) (hbase : attributeBase o "join" X.env (eval o X.env) = eval o X.env := by rfl) (hline : (apos.endLine == pos.line) = true := by rfl) :
    PE X (.Call (.Attribute o "join" apos) [e] [] pos) (tM1 (rJo X.K) to te) := pe_join ho he hs hbase hline
theorem dpa_strs_inv : ∀ {ns : List Str} {vs : List V}, DpAll K H vs (ns.map PyData.str) → vs = ns.map V.str
  | [], _, h => by cases h; rfl
  | n :: ns, _, h => by
    cases h with
    | cons a b =>
      cases a
      rw [dpa_strs_inv b]
      rfl
theorem ev_jo {a : Str} {ys : List Str} (ho : Ev to σ Hd (.str a)) (h : EvD K te σ Hd (.list (ys.map .str))) (hl : (ys.map (·.length)).sum + ys.length * a.length ≤ 16777216) : Ev (tM1 (rJo K) to te) σ Hd (.str (Txt.join a ys)) := fun H s Q q =>
  ho H s _ fun H1 e1 => ⟨⟨a, rfl⟩, h H1 (s.trans e1) _ fun v H2 Hn g hd => by
    cases hd with
    | @lst p xs ds hs hall =>
      have e := dpa_strs_inv hall
      subst e
      exact ⟨a, p, ys, rfl, rfl, .inl (ex_l g.sub hs), hl, q H2 (e1.trans g.ex)⟩⟩
theorem ev_isX {D a C : Addr} {b : Bool} (ha : Ev ta σ H (.ref a)) (k : PySem.W.kitOne K (.ref D) (.ref C) = some b) : Ev (tCB (rIsE K D a) (tCons ta (tCons (tC (.ref C)) tNil))) σ H (.bl b) := fun H1 s Q q =>
  ha H1 s _ fun H2 e => ⟨.ref C, .ref C, b, rfl, fun u r => r, k, q H2 e⟩
theorem ev_isXT {D a : Addr} {T : String} {b : Bool} (ha : Ev ta σ H (.ref a)) (k : PySem.W.kitOne K (.ref D) (.type T) = some b) : Ev (tCB (rIsE K D a) (tCons ta (tCons (tC (.ty T)) tNil))) σ H (.bl b) := fun H1 s Q q =>
  ha H1 s _ fun H2 e => ⟨.ty T, .type T, b, rfl, fun u r => r, k, q H2 e⟩
end
end Cot

set_option Elab.async false
set_option linter.all false
set_option maxRecDepth 100000
set_option maxHeartbeats 4000000
/-! Defs that answer or refuse: their promise by data, their calls. -/
namespace Cot
open PySem PySem.Spec PyProof.Rows L2 Evl
/-- an answer by R, or an error of a class by Rx -/
def spX (K : PySem.W.Frag) (R : List PyData → PyData → Prop) (Rx : List PyData → Addr → Prop) : Sp := fun vs H Q E => ∃ Hd ds, Ex Hd H ∧ DpAll K Hd vs ds ∧
  ((∃ d, R ds d ∧ ∀ v H2 Hn, Gr Hd H Hn H2 → Dp K Hn v d → Q v H2) ∨ ∃ C, Rx ds C ∧ ∀ H2, Ex H H2 → E (.ref C) none H2)
section
variable {K : PySem.W.Frag} {H Hd : Hp} {σ : L2.St} {tr : TA} {D : Ends} {tz : TS} {ds : List PyData} {d : PyData} {C : Addr} {E : XK} {R : List PyData → PyData → Prop} {Rx : List PyData → Addr → Prop} {Q : VK} {dv : List V} {dd : List PyData}
theorem tx_ok (s : Ex Hd H) (h : EvDA K tr σ Hd ds) (hv : ∀ H, DpAll K H dv dd) (hr : R (ds ++ dd) d) (k : ∀ v H2 Hn, Gr Hd H Hn H2 → Dp K Hn v d → Q v H2) : tCall (spX K R Rx) dv E tr σ H Q :=
  h H s _ fun vs H2 Hn g hd => ⟨Hn, ds ++ dd, g.sub, dpa_app hd (hv Hn), .inl ⟨d, hr, fun v H3 Hm g3 hv => k v H3 Hm (g.trans g3) hv⟩⟩
theorem tx_no (s : Ex Hd H) (h : EvDA K tr σ Hd ds) (hv : ∀ H, DpAll K H dv dd) (hr : Rx (ds ++ dd) C) (k : ∀ H2, Ex H H2 → E (.ref C) none H2) : tCall (spX K R Rx) dv E tr σ H Q :=
  h H s _ fun vs H2 Hn g hd => ⟨Hn, ds ++ dd, g.sub, dpa_app hd (hv Hn), .inr ⟨C, hr, fun H3 e3 => k H3 (g.ex.trans e3)⟩⟩
theorem go_dropOk (s : Ex Hd H) (h : EvDA K tr σ Hd ds) (hr : R ds d) (k : ∀ v H2 Hn, Gr Hd H Hn H2 → Dp K Hn v d → Go tz D σ H2) : Go (tSeq (tDrop (tCall (spX K R Rx) [] E tr)) tz) D σ H := fun H1 e1 =>
  tx_ok (s.trans e1) h (fun _ => .nil) (by rw [List.append_nil]; exact hr) fun v H2 Hn g hd => k v H2 Hn (g.pre e1) hd H2 (Ex.refl _)
theorem go_dropNo (s : Ex Hd H) (h : EvDA K tr σ Hd ds) (hr : Rx ds C) (k : ∀ H2, Ex H H2 → E (.ref C) none H2) : Go (tSeq (tDrop (tCall (spX K R Rx) [] E tr)) tz) D σ H := fun H1 e1 =>
  tx_no (s.trans e1) h (fun _ => .nil) (by rw [List.append_nil]; exact hr) fun H2 e2 => k H2 (e1.trans e2)
theorem go_raise (k : ∀ H2, Ex H H2 → E (.ref C) none H2) : Go (tSeq (fun _ σ H => (fun _ H1 Q1 => Q1 (Value.ref C) none H1 : L2.St → Hp → XK → Prop) σ H fun cls d H1 => E cls d H1) tz) D σ H := fun H1 e1 => k H1 e1
end
end Cot

set_option Elab.async false
set_option linter.all false
set_option maxRecDepth 100000
set_option maxHeartbeats 4000000
/-! Tables of code objects beside boxes and lists; a loop over a range that asks nothing of the heap. -/
namespace Cot
open PySem PySem.Spec PyProof.Rows L2 Evl LamX
def hp0 : Hp := fun _ => none
theorem ex0 {H : Hp} : Ex hp0 H := fun _ _ h => nomatch h
section
variable {K : PySem.W.Frag} {b : Bid} {l : Addr} {H H1 H2 Hd Hn : Hp} {Tt : List (Addr × Str)} {xs : List V} {o : HO}
theorem tabs_but (hl : H l = some (.lst xs)) (k : ∀ a o, a ≠ l → H a = some o → H2 a = some o) (t : Tabs Tt H) : Tabs Tt H2 := fun p hp => by
  obtain ⟨ps, h1, h2, h3⟩ := t p hp
  refine ⟨ps, k _ _ (fun z => ?_) h1, h2, fun pos cv hc => ?_⟩
  · rw [z, hl] at h1
    cases h1
  · obtain ⟨c, e, hcd⟩ := h3 pos cv hc
    refine ⟨c, e, k _ _ (fun z => ?_) hcd⟩
    rw [z, hl] at hcd
    unfold CodeO at hcd
    cases hcd
theorem tabs_box (t : Tabs Tt H) (B : Bx H b) (g : GrB b Hd H Hn H2) : Tabs Tt H2 := by
  obtain ⟨cells, xs, h1, _⟩ := B
  exact tabs_but h1 (fun a o n h => g.exb a o n h) t
theorem tabs_ex (t : Tabs Tt H) (e : Ex H H2) : Tabs Tt H2 := t.ext e
theorem lst_extN (h : H l = some (.lst xs)) (e : ExtN H H2) : H2 l = some (.lst xs) := e l _ h fun ps z => by cases z
theorem bx_extN (B : Bx H b) (e : ExtN H H2) : Bx H2 b := by
  obtain ⟨cells, xs, h1, h2, h3, h4⟩ := B
  exact ⟨cells, xs, lst_extN h1 e, h2, lst_extN h3 e, h4⟩
theorem extN_ex (e : Ex H H2) : ExtN H H2 := ExtN.of e
theorem extN_new (h : H l = none) : ExtN H (upd H l o) := ExtN.of (Ex.new h)
end
section
variable {K : PySem.W.Frag} {H : Hp} {σ : L2.St} {ta te : TE} {tr : TA} {D : Ends} {tu tz : TS} {j : Nat} {m : Int}
theorem go_forN (h : EvA tr σ H [.int m]) (hm : -100000 ≤ m ∧ m ≤ 100000) (Pv : Nat → L2.St → Hp → Prop) (h0 : ∀ H', Ex H H' → Pv 0 σ H') (hs : ∀ i σ' H', i < m.toNat → Pv i σ' H' → Go tu { D with nx := Pv (i + 1), ct := Pv (i + 1), bk := tz D } (σ'.set j (some (.int (i : Int)))) H')
    (hd : ∀ σ' H', Pv m.toNat σ' H' → Go tz D σ' H') : Go (tSeq (tFor (iRng1 tr) (gName j) tu) tz) D σ H := fun H1 e1 =>
  h H1 e1 _ fun H2 e2 => by
    refine ⟨m, rfl, by omega, by omega, for_it (walk_range (lo := 0) (n := m.toNat)) Pv (h0 H2 (e1.trans e2)) (fun _ _ _ _ _ => trivial) (fun i x σ' H' H'' hi q y => ?_) (fun σ' H' q => hd σ' H' q H' (Ex.refl _))⟩
    obtain ⟨rfl, rfl⟩ := y
    have e0 : (0 : Int) + (i : Int) = (i : Int) := Int.zero_add _
    show tu _ (σ'.set j (some (.int ((0 : Int) + (i : Int))))) _
    rw [e0]
    exact hs i σ' _ hi q _ (Ex.refl _)
def rInt1 : List V → Hp → VK → Prop := fun xs H Q => (∃ i, xs = [.int i] ∧ Q (.int i) H) ∨ ∃ k, xs = [.bl k] ∧ Q (.int (if k then 1 else 0)) H
theorem call_intQ {X : Cx} : CallR X (.type "int") rInt1 := call_int1
theorem ev_intB {k : Bool} (h : Ev ta σ H (.bl k)) : Ev (tCB rInt1 (tCons ta tNil)) σ H (.int (if k then 1 else 0)) := fun H1 e Q q => h H1 e _ fun H2 e2 => .inr ⟨k, rfl, q H2 e2⟩
end
end Cot

set_option Elab.async false
set_option linter.all false
set_option maxRecDepth 100000
set_option maxHeartbeats 4000000
/-! A heap without its tables: data stands there as before, and stays behind a lambda. -/
namespace Cot
open PySem PySem.Spec PyProof.Rows L2 Evl LamX
def noT (H : Hp) : Hp := fun a => match H a with
  | some (.tbl _) => none
  | o => o
section
variable {K : PySem.W.Frag} {H H2 Hd : Hp} {a : Addr} {o : HO} {xs : List V}
theorem noT_some (h : noT H a = some o) : H a = some o ∧ ∀ ps, o ≠ .tbl ps := by
  unfold noT at h
  split at h
  · cases h
  · rename_i hn
    refine ⟨h, fun ps z => ?_⟩
    subst z
    exact hn _ h
theorem noT_of (h : H a = some o) (n : ∀ ps, o ≠ .tbl ps) : noT H a = some o := by
  unfold noT
  split
  · rename_i ps hp
    rw [h] at hp
    exact absurd (Option.some.inj hp) (n ps)
  · exact h
theorem noT_none (h : H a = none) : noT H a = none := by
  cases e : noT H a with
  | none => rfl
  | some o =>
    have := (noT_some e).1
    rw [h] at this
    cases this
theorem noT_ex : Ex (noT H) H := fun a o h => (noT_some h).1
theorem noT_extN (s : Ex Hd H) (e : ExtN H H2) : Ex (noT Hd) H2 := fun a o h => e a o (s a o (noT_some h).1) (noT_some h).2
theorem noT_l (h : SqL K H a xs) : SqL K (noT H) a xs := by
  rcases h with (h | ⟨o, h⟩) | h
  · exact .inl (.inl (noT_of h fun ps z => by cases z))
  · exact .inl (.inr ⟨o, noT_of h fun ps z => by cases z⟩)
  · exact .inr h
theorem noT_t (h : SqT K H a xs) : SqT K (noT H) a xs := by
  rcases h with (h | ⟨o, h⟩) | h
  · exact .inl (.inl (noT_of h fun ps z => by cases z))
  · exact .inl (.inr ⟨o, noT_of h fun ps z => by cases z⟩)
  · exact .inr h
mutual
theorem dp_noT : ∀ (d : PyData) {v : V}, Dp K H v d → Dp K (noT H) v d
  | .none, _, h => by cases h; exact .non
  | .bool b, _, h => by cases h; exact .bl b
  | .int i, _, h => by cases h; exact .int i
  | .str x, _, h => by cases h; exact .str x
  | .list ds, _, h => by
    cases h with
    | lst hs ha => exact .lst (noT_l hs) (dpa_noT ds ha)
  | .tuple ds, _, h => by
    cases h with
    | tup hs ha => exact .tup (noT_t hs) (dpa_noT ds ha)
  | .dict _, _, h => by cases h
theorem dpa_noT : ∀ (ds : List PyData) {vs : List V}, DpAll K H vs ds → DpAll K (noT H) vs ds
  | [], _, h => by cases h; exact .nil
  | d :: ds, _, h => by
    cases h with
    | cons h1 h2 => exact .cons (dp_noT d h1) (dpa_noT ds h2)
end
/-- data stays data behind a lambda -/
theorem dp_extN {d : PyData} {v : V} (s : Ex Hd H) (e : ExtN H H2) (h : Dp K Hd v d) : Dp K H2 v d := dp_mono (noT_extN s e) d (dp_noT d h)
end
end Cot

set_option Elab.async false
set_option linter.all false
set_option maxRecDepth 100000
set_option maxHeartbeats 4000000
/-! Dicts whose keys are tuples of ints; the keys' own places are told beside the dict. -/
namespace Cot
open PySem PySem.Spec PyProof.Rows L2 Evl
/-- the key, the place of its tuple, the value -/
abbrev Dkv := List (List Int × Addr × V)
def valD (m : Dkv) (k : List Int) : Option V := (m.find? fun e => decide (e.1 = k)).map fun e => e.2.2
def putD (m : Dkv) (k : List Int) (b : Addr) (v : V) : Dkv := if (valD m k).isSome then m.map (fun e => if e.1 = k then (e.1, e.2.1, v) else e) else m ++ [(k, b, v)]
abbrev DRel : Dkv → List (List Int × Addr × Value) → Prop := Paired fun p q => p.1 = q.1 ∧ p.2.1 = q.2.1 ∧ RelV p.2.2 q.2.2
theorem valD_pos {e : List Int × Addr × V} {m : Dkv} {k : List Int} (h : e.1 = k) : valD (e :: m) k = some e.2.2 := by simp [valD, List.find?_cons, h]
theorem valD_neg {e : List Int × Addr × V} {m : Dkv} {k : List Int} (h : ¬ e.1 = k) : valD (e :: m) k = valD m k := by simp [valD, List.find?_cons, h]
theorem drel_val {m : Dkv} {xs : List (List Int × Addr × Value)} (r : DRel m xs) (k : List Int) : RelO (valD m k) ((atKey xs k).map (·.2)) := by
  induction r with
  | nil => exact True.intro
  | @cons p q ps qs h t ih =>
    by_cases e : p.1 = k
    · rw [valD_pos e]
      have e2 : (atKey (q :: qs) k) = some q.2 := by simp [atKey, List.find?_cons, ← h.1, e]
      rw [e2]
      exact h.2.2
    · rw [valD_neg e]
      have e2 : (atKey (q :: qs) k) = atKey qs k := by simp [atKey, List.find?_cons, ← h.1, e]
      rw [e2]
      exact ih
theorem drel_map {m : Dkv} {xs : List (List Int × Addr × Value)} (r : DRel m xs) (k : List Int) {v : V} {u : Value} (rv : RelV v u) : DRel (m.map (fun e => if e.1 = k then (e.1, e.2.1, v) else e)) (xs.map (putAt k u)) := by
  induction r with
  | nil => exact .nil
  | @cons p q ps qs h t ih =>
    refine Paired.cons ?_ ih
    unfold putAt
    dsimp only
    by_cases e : p.1 = k
    · rw [if_pos e, if_pos (by rw [← h.1]; exact e)]
      exact ⟨h.1, h.2.1, rv⟩
    · rw [if_neg e, if_neg (by rw [← h.1]; exact e)]
      exact h
theorem drel_app {m m2 : Dkv} {xs ys : List (List Int × Addr × Value)} (r : DRel m xs) (r2 : DRel m2 ys) : DRel (m ++ m2) (xs ++ ys) := by
  induction r with
  | nil => exact r2
  | cons h t ih => exact Paired.cons h ih
theorem drel_put {m : Dkv} {xs : List (List Int × Addr × Value)} (r : DRel m xs) (k : List Int) (b : Addr) {v : V} {u : Value} (rv : RelV v u) : DRel (putD m k b v) (storedH xs k b u) := by
  have h := (drel_val r k).isSome_eq
  rw [Option.isSome_map] at h
  unfold putD storedH
  rw [h]
  split
  · exact drel_map r k rv
  · exact drel_app r (.cons ⟨rfl, rfl, rv⟩ .nil)
theorem putD_len (m : Dkv) (k : List Int) (b : Addr) (v : V) : (putD m k b v).length ≤ m.length + 1 := by
  unfold putD
  split
  · rw [List.length_map]; omega
  · rw [List.length_append]; exact Nat.le_refl _
theorem putD_new {m : Dkv} {k : List Int} (b : Addr) (v : V) (h : valD m k = none) : putD m k b v = m ++ [(k, b, v)] := by
  unfold putD
  rw [h]
  rfl
theorem valD_none {m : Dkv} {k : List Int} : valD m k = none ↔ ∀ e ∈ m, e.1 ≠ k := by
  unfold valD
  rw [Option.map_eq_none_iff, List.find?_eq_none]
  simp
theorem valD_app (m m2 : Dkv) (k : List Int) : valD (m ++ m2) k = (valD m k).or (valD m2 k) := by
  unfold valD
  rw [List.find?_append]
  cases m.find? fun e => decide (e.1 = k) <;> rfl
theorem valD_mem {m : Dkv} {k : List Int} {v : V} (h : valD m k = some v) : ∃ b, (k, b, v) ∈ m := by
  unfold valD at h
  obtain ⟨e, he, hv⟩ := Option.map_eq_some_iff.mp h
  have h1 := List.mem_of_find?_eq_some he
  have h2 := List.find?_some he
  obtain ⟨k', b, v'⟩ := e
  have h3 : k' = k := of_decide_eq_true h2
  have h4 : v' = v := hv
  subst h3
  subst h4
  exact ⟨b, h1⟩
def DicP (P : Program) (w : World) (h : Heap) (a : Addr) (m : Dkv) : Prop := m.length ≤ sizeLine ∧ (a == sysModules) = false ∧ ∃ xs : List (List Int × Addr × Value), DRel m xs ∧ (xs.map (·.1)).Nodup ∧
  ∃ o es ep, h.get? a = some o ∧ o.ExactDict ∧ o.data = .dict es ep ∧ es.toList = xs.map (entryOfKey (TK P w))
/-- the dict at a -/
def DicO (P : Program) (w : World) (a : Addr) (m : Dkv) : HO := .ext fun h => DicP P w h a m
theorem dicO_ok {P : Program} {w : World} {H : Hp} {h : Heap} {a : Addr} {m : Dkv} (d : DicP P w h a m) : ObjOk P w H h a (DicO P w a m) := by
  refine ⟨d, ?_, ?_⟩
  · obtain ⟨_, _, _, _, _, o, _, _, ho, _⟩ := d
    exact ⟨o, ho⟩
  · rintro h1 h2 ⟨z, y, xs, r, n, o, es, ep, ho, rest⟩ k
    exact ⟨z, y, xs, r, n, o, es, ep, k o ho, rest⟩
def KeysAt (K : PySem.W.Frag) (H : Hp) (m : Dkv) : Prop := ∀ e ∈ m, SqT K H e.2.1 (e.1.map V.int)
theorem KeysAt.mono {K : PySem.W.Frag} {H H' : Hp} {m : Dkv} (e : Ex H H') (k : KeysAt K H m) : KeysAt K H' m := fun x hx => ex_t e (k x hx)
theorem KeysAt.put {K : PySem.W.Frag} {H : Hp} {m : Dkv} {k : List Int} {b : Addr} {v : V} (h : KeysAt K H m) (hb : SqT K H b (k.map V.int)) : KeysAt K H (putD m k b v) := by
  intro e he
  unfold putD at he
  split at he
  · obtain ⟨e0, h0, rfl⟩ := List.mem_map.mp he
    split
    · exact h e0 h0
    · exact h e0 h0
  · rcases List.mem_append.mp he with he | he
    · exact h e he
    · rcases List.mem_cons.mp he with rfl | he
      · exact hb
      · cases he
def DiAt (K : PySem.W.Frag) (P : Program) (w : World) (H : Hp) (a : Addr) (m : Dkv) : Prop := H a = some (DicO P w a m) ∧ KeysAt K H m
/-- the dict at a while a loop walks it: its object stays -/
def DicF (P : Program) (w : World) (a : Addr) (m : Dkv) (o : Obj) : HO := .ext fun h => h.get? a = some o ∧ DicP P w h a m
/-- a dict that can be read -/
def DiR (K : PySem.W.Frag) (P : Program) (w : World) (H : Hp) (a : Addr) (m : Dkv) : Prop := (H a = some (DicO P w a m) ∨ ∃ o, H a = some (DicF P w a m o)) ∧ KeysAt K H m
theorem DiR.mono {K : PySem.W.Frag} {P : Program} {w : World} {H H' : Hp} {a : Addr} {m : Dkv} (e : Ex H H') (d : DiR K P w H a m) : DiR K P w H' a m := ⟨d.1.elim (fun h => .inl (e _ _ h)) fun ⟨o, h⟩ => .inr ⟨o, e _ _ h⟩, d.2.mono e⟩
theorem DiAt.r {K : PySem.W.Frag} {P : Program} {w : World} {H : Hp} {a : Addr} {m : Dkv} (d : DiAt K P w H a m) : DiR K P w H a m := ⟨.inl d.1, d.2⟩
theorem DiAt.mono {K : PySem.W.Frag} {P : Program} {w : World} {H H' : Hp} {a : Addr} {m : Dkv} (e : Ex H H') (d : DiAt K P w H a m) : DiAt K P w H' a m := ⟨e _ _ d.1, d.2.mono e⟩
section
variable {X : Cx} {pins : List (Addr × Obj)} {σ : L2.St} {H : Hp} {s : Shared} {a b : Addr} {m : Dkv} {k : List Int} {v : V} {u : Value} {A : Around} {E : Value → Shared → Prop}
theorem dic_of (I : Inv X pins σ H s) (d : DiR X.K X.prog X.w H a m) : m.length ≤ sizeLine ∧ (a == sysModules) = false ∧ ∃ xs, DRel m xs ∧ s.heap.DictOfH (TK X.prog X.w) a xs := by
  have hp : DicP X.prog X.w s.heap a m := by
    rcases d.1 with h | ⟨o, h⟩
    · exact (show ObjOk X.prog X.w H s.heap a (DicO X.prog X.w a m) from I.hok a _ h).1
    · exact (show ObjOk X.prog X.w H s.heap a (DicF X.prog X.w a m o) from I.hok a _ h).1.2
  obtain ⟨z, y, xs, r, n, o, es, ep, ho, hx, hd, he⟩ := hp
  refine ⟨z, y, xs, r, o, es, ep, ho, hx, hd, he, ?_, n⟩
  have all : ∀ {l : Dkv} {ys : List (List Int × Addr × Value)}, DRel l ys → (∀ e ∈ l, SqT X.K H e.2.1 (e.1.map V.int)) → ∀ x ∈ ys, (TK X.prog X.w).is s.heap x.1 x.2.1 := by
    intro l ys q
    induction q with
    | nil => intro _ x hx; cases hx
    | @cons p q ps qs hq t ih =>
      intro hk x hx
      rcases List.mem_cons.mp hx with rfl | hx
      · have := I.isT (hk p List.mem_cons_self)
        rw [hq.1, hq.2.1] at this
        exact this
      · exact ih (fun e he => hk e (List.mem_cons_of_mem _ he)) x hx
  exact all r d.2
theorem dic_get {Q : Value → Shared → Prop} (hu : A.units + 1 < cLine) (I : Inv X pins σ H s) (d : DiR X.K X.prog X.w H a m) (hb : SqT X.K H b (k.map V.int)) (hv : valD m k = some v) (h : ∀ w' s', Inv X pins σ H s' → RelV v w' → Q w' s') :
    wpAny (model X.prog X.w) A (getItem (.ref a) (.ref b)) Q E s := by
  obtain ⟨z, y, xs, r, dd⟩ := dic_of I d
  have rv := drel_val r k
  rw [hv] at rv
  obtain ⟨w', hw, rw'⟩ := RelO.some_of (v := v) (o := (atKey xs k).map (·.2)) rv
  obtain ⟨p, hp, hp2⟩ := Option.map_eq_some_iff.mp hw
  refine wpAny_getItem_heap (tupleKind_room_in1 hu) (I.isT hb) dd hp ?_
  rw [hp2]
  exact h w' _ (I.tok _) rw'
theorem dic_in {Q : Value → Shared → Prop} (hu : A.units + 1 < cLine) (I : Inv X pins σ H s) (d : DiR X.K X.prog X.w H a m) (hb : SqT X.K H b (k.map V.int)) (h : ∀ s', Inv X pins σ H s' → Q (.bool (valD m k).isSome) s') :
    wpAny (model X.prog X.w) A (compareOp .In (.ref b) (.ref a)) Q E s := by
  obtain ⟨z, y, xs, r, dd⟩ := dic_of I d
  have q := (drel_val r k).isSome_eq
  rw [Option.isSome_map] at q
  refine wpAny_in_heap (tupleKind_room_in1 hu) (I.isT hb) y dd ?_
  rw [← q]
  exact h _ (I.tok _)
theorem dic_notIn {Q : Value → Shared → Prop} (hu : A.units + 1 < cLine) (I : Inv X pins σ H s) (d : DiR X.K X.prog X.w H a m) (hb : SqT X.K H b (k.map V.int)) (h : ∀ s', Inv X pins σ H s' → Q (.bool (!(valD m k).isSome)) s') :
    wpAny (model X.prog X.w) A (compareOp .NotIn (.ref b) (.ref a)) Q E s := by
  obtain ⟨z, y, xs, r, dd⟩ := dic_of I d
  have q := (drel_val r k).isSome_eq
  rw [Option.isSome_map] at q
  refine wpAny_notIn_heap (tupleKind_room_in1 hu) (I.isT hb) y dd ?_
  rw [← q]
  exact h _ (I.tok _)
theorem dic_get2 {z : V} {r0 : Value} {Q : Value → Shared → Prop} (hu : A.units + 1 < cLine) (I : Inv X pins σ H s) (d : DiR X.K X.prog X.w H a m) (hb : SqT X.K H b (k.map V.int)) (rz : RelV z r0) (h : ∀ w' s', Inv X pins σ H s' → RelV ((valD m k).getD z) w' → Q w' s') :
    wpAny (model X.prog X.w) A (call (.builtin "dict.get") [.ref a, .ref b, r0]) Q E s := by
  obtain ⟨z', y, xs, r, dd⟩ := dic_of I d
  exact call_meetsIn PySem.F.slot_dict_get dd.typeIs PySem.F.entry_dict_get (PySem.F.args_dict_get_3 _ _ _) (meetsH_dict_get_default (TK X.prog X.w) a b y r0) ⟨tupleKind_room_in1 hu, k, xs, I.isT hb, dd, h _ _ (I.tok _) ((drel_val r k).getD rz)⟩
theorem dic_put {Q : Unit → Shared → Prop} (hu : A.units + 1 < cLine) (I : Inv X pins σ H s) (d : DiAt X.K X.prog X.w H a m) (hb : SqT X.K H b (k.map V.int)) (hl : m.length < sizeLine) (rv : RelV v u) (h : ∀ s', Inv X pins σ (upd H a (DicO X.prog X.w a (putD m k b v))) s' → Q () s') :
    wpAny (model X.prog X.w) A (setItem (.ref a) (.ref b) u) Q E s := by
  obtain ⟨z, y, xs, r, dd⟩ := dic_of I d.r
  have hz : xs.length ≤ sizeLine := by rw [← Paired.length r]; exact z
  refine wpAny_setItem_heap (hsz := hz) (tupleKind_room_in1 hu) (I.isT hb) dd fun h' dd' hs => h _ ?_
  obtain ⟨o, es, ep, ho, h2, h3, h4, _, h5⟩ := dd'
  refine d_write I (by rw [d.1]; exact True.intro) hs ⟨o, ho⟩ (dicO_ok ⟨?_, y, _, drel_put r k b rv, h5, o, es, ep, ho, h2, h3, h4⟩)
  have := putD_len m k b v
  omega
theorem dic_set {Q : Unit → Shared → Prop} (hu : A.units < cLine) (I : Inv X pins σ H s) (d : DiAt X.K X.prog X.w H a m) (hb : SqT X.K H b (k.map V.int)) (hl : m.length < sizeLine) (rv : RelV v u) (h : ∀ s', Inv X pins σ (upd H a (DicO X.prog X.w a (putD m k b v))) s' → Q () s') :
    wpAny (model X.prog X.w) A (dictSet a (.ref b) u) Q E s := by
  obtain ⟨z, y, xs, r, dd⟩ := dic_of I d.r
  have hz : xs.length ≤ sizeLine := by rw [← Paired.length r]; exact z
  refine wpAny_dictSet_heap (hsz := hz) (knd := TK X.prog X.w) hu (I.isT hb) dd fun h' dd' hs => h _ ?_
  obtain ⟨o, es, ep, ho, h2, h3, h4, _, h5⟩ := dd'
  refine d_write I (by rw [d.1]; exact True.intro) hs ⟨o, ho⟩ (dicO_ok ⟨?_, y, _, drel_put r k b rv, h5, o, es, ep, ho, h2, h3, h4⟩)
  have := putD_len m k b v
  omega
theorem dic_empty {P : Program} {w : World} {h : Heap} (hb : sysModules < h.objs.size) : DicP P w (h.push { cls := .type "dict", data := .dict #[] }) h.objs.size [] :=
  ⟨Nat.zero_le _, beq_eq_false_iff_ne.mpr (Ne.symm (Nat.ne_of_lt hb)), [], .nil, List.nodup_nil, _, #[], 0, Heap.get?_push_size _ rfl, ⟨rfl, rfl, rfl⟩, rfl, rfl⟩
end
/-! ### the rules -/
section
variable (K : PySem.W.Frag) (P : Program) (w : World)
def tNGet (td ty : TE) : TE := fun σ H Q => td σ H fun x H1 => ty σ H1 fun y H2 => ∃ a m b k v, x = .ref a ∧ y = .ref b ∧ DiR K P w H2 a m ∧ SqT K H2 b (k.map V.int) ∧ valD m k = some v ∧ Q v H2
def tNIn (neg : Bool) (ty td : TE) : TE := fun σ H Q => ty σ H fun y H1 => td σ H1 fun x H2 => ∃ a m b k, x = .ref a ∧ y = .ref b ∧ DiR K P w H2 a m ∧ SqT K H2 b (k.map V.int) ∧ Q (.bl (if neg then !(valD m k).isSome else (valD m k).isSome)) H2
def tNGet2 (td ty tx : TE) : TE := fun σ H Q => td σ H fun x H1 => ∃ a m, x = .ref a ∧ DiR K P w H1 a m ∧ ty σ H1 fun y H2 => tx σ H2 fun z H3 => ∃ b k, y = .ref b ∧ DiR K P w H3 a m ∧ SqT K H3 b (k.map V.int) ∧ Q ((valD m k).getD z) H3
def sNPut (td ty tv : TE) : TS := fun D σ H => tv σ H fun v H1 => td σ H1 fun x H2 => ty σ H2 fun y H3 => ∃ a m b k, x = .ref a ∧ y = .ref b ∧ DiAt K P w H3 a m ∧ SqT K H3 b (k.map V.int) ∧ m.length < sizeLine ∧ D.nx σ (upd H3 a (DicO P w a (putD m k b v)))
def tNNew : TE := fun _ H Q => ∀ p, H p = none → Q (.ref p) (upd H p (DicO P w p []))
def rNLen : List V → Hp → VK → Prop := fun xs H Q => ∃ a m, xs = [.ref a] ∧ DiR K P w H a m ∧ Q (.int ((m.length : Nat) : Int)) H
/-- {k: v}, one pair -/
def tNOne (tk tv : TE) : TE := fun σ H Q => ∀ p, H p = none → tk σ (upd H p (DicO P w p [])) fun y H1 => tv σ H1 fun v H2 => ∃ b k, y = .ref b ∧ H2 p = some (DicO P w p []) ∧ SqT K H2 b (k.map V.int) ∧ Q (.ref p) (upd H2 p (DicO P w p [(k, b, v)]))
end
section
variable {X : Cx} {o i e f value : Expr} {pos pos' apos cpos : Pos} {td ty tv tx : TE}
theorem pe_nget (hu : X.A.units + 1 < cLine) (ho : PE X o td) (hi : PE X i ty) (hs : NoSl i) : PE X (.Subscript o i pos) (tNGet X.K X.prog X.w td ty) := by
  refine ⟨fun pins s σ H Q I h => ?_⟩
  refine subD_of PySem.F.slot_dict_getitem.lookup hs (thn (ho.run pins s σ H _ I h) fun u s1 ⟨x, H1, I1, rx, q1⟩ => thn (hi.run pins s1 σ H1 _ I1 q1) fun iv s2 ⟨y, H2, I2, ry, a, m, b, k, v, ex, ey, d, hb, hv, q2⟩ => ?_)
  subst ex
  subst ey
  cases rx
  cases ry
  exact ⟨(dic_of I2 d).2.2.elim fun xs q => q.2.typeIs, dic_get hu I2 d hb hv fun w' s3 I3 rw' => ⟨v, H2, I3, rw', q2⟩⟩
theorem pc_nin (hu : X.A.units + 1 < cLine) (hi : PE X i ty) (ho : PE X o td) : PC X .In i o (tNIn X.K X.prog X.w false ty td) := by
  refine ⟨fun pins s σ H Q I h => ?_⟩
  refine thn (hi.run pins s σ H _ I h) fun iv s1 ⟨y, H1, I1, ry, q1⟩ => thn (ho.run pins s1 σ H1 _ I1 q1) fun u s2 ⟨x, H2, I2, rx, a, m, b, k, ex, ey, d, hb, q2⟩ => ?_
  subst ex
  subst ey
  cases rx
  cases ry
  exact dic_in hu I2 d hb fun s3 I3 => ⟨.bl (valD m k).isSome, H2, I3, rfl, q2⟩
theorem pc_nnotin (hu : X.A.units + 1 < cLine) (hi : PE X i ty) (ho : PE X o td) : PC X .NotIn i o (tNIn X.K X.prog X.w true ty td) := by
  refine ⟨fun pins s σ H Q I h => ?_⟩
  refine thn (hi.run pins s σ H _ I h) fun iv s1 ⟨y, H1, I1, ry, q1⟩ => thn (ho.run pins s1 σ H1 _ I1 q1) fun u s2 ⟨x, H2, I2, rx, a, m, b, k, ex, ey, d, hb, q2⟩ => ?_
  subst ex
  subst ey
  cases rx
  cases ry
  exact dic_notIn hu I2 d hb fun s3 I3 => ⟨.bl (!(valD m k).isSome), H2, I3, rfl, q2⟩
theorem pe_nget2 (hu : X.A.units + 1 < cLine) (ho : PE X o td) (he : PE X e ty) (hf : PE X f tx) (m : M2 X o "get" apos e f cpos) : PE X (.Call (.Attribute o "get" apos) [e, f] [] cpos) (tNGet2 X.K X.prog X.w td ty tx) := by
  refine ⟨fun pins s σ H Q I h => ?_⟩
  refine wpAny_Call_method m.base m.few m.line PySem.F.plainAttrs_dict PySem.F.slot_dict_get PySem.F.type_dict_get (thn (ho.run pins s σ H _ I h) fun u s1 ⟨x, H1, I1, rx, a, mm, ex, d, q1⟩ => ?_)
  subst ex
  cases rx
  obtain ⟨_, _, xs, _, dd⟩ := dic_of I1 d
  refine ⟨dd.typeIs, fun b q => ?_, ?_⟩
  · cases q
    obtain ⟨ob, _, _, h1, h2, _⟩ := dd
    exact ⟨ob, h1, h2.2.1⟩
  · rw [m.trees]
    refine Calls.callWith_builtin rfl (Calls.evalArgs_plain (Calls.spliced_cons (thn (he.run pins s1 σ H1 _ I1 q1) fun iv s2 ⟨y, H2, I2, ry, q2⟩ =>
      Calls.spliced_cons (thn (hf.run pins s2 σ H2 _ I2 q2) fun fv s3 ⟨z, H3, I3, rz, b, k, ey, d3, hb, q3⟩ => Calls.spliced_nil ?_))))
    subst ey
    cases ry
    exact dic_get2 hu I3 d3 hb rz fun w' s4 I4 rw' => ⟨_, H3, I4, rw', q3⟩
theorem ps_nput (hu : X.A.units + 1 < cLine) (ho : PE X o td) (hi : PE X i ty) (hv : PE X value tv) (hs : swapsWith value (some (.Subscript o i pos')) pos.line X.env = pure false) :
    PS X (.Assign [.Subscript o i pos'] value pos) (sNPut X.K X.prog X.w td ty tv) := by
  refine ⟨fun pins s σ H D I h => ?_⟩
  refine wpAny_Assign_Subscript (thn (hv.run pins s σ H _ I h) fun r s1 ⟨v, H1, I1, rv, q1⟩ => thn (ho.run pins s1 σ H1 _ I1 q1) fun u s2 ⟨x, H2, I2, rx, q2⟩ => thn (hi.run pins s2 σ H2 _ I2 q2) fun iv s3 ⟨y, H3, I3, ry, a, m, b, k, ex, ey, d, hb, hl, q3⟩ => ?_) hs
  subst ex
  subst ey
  cases rx
  cases ry
  exact dic_put hu I3 d hb hl rv fun s4 I4 => ⟨σ, _, I4, q3⟩
theorem pe_nnew : PE X (.Dict [] [] pos) (tNNew X.prog X.w) := ⟨fun pins s σ H Q I h =>
  wpAny_Dict_empty ⟨.ref s.heap.objs.size, _, I.laid (a := s.heap.objs.size) (o := DicO X.prog X.w s.heap.objs.size []) (t' := s.toks) (fun _ _ q => Heap.get?_push_of_some _ q) (Nat.le_refl _) (dicO_ok (dic_empty I.big)), rfl, h _ (I.hok.fresh (Nat.le_refl _))⟩⟩
theorem call_nlen : CallR X (.builtin "len") (rNLen X.K X.prog X.w) := by
  intro pins s σ H xs us Q I r h
  obtain ⟨a, m, rfl, d, q⟩ := h
  obtain ⟨u, rfl, rx⟩ := vals1 r
  cases rx
  obtain ⟨z, y, ys, rel, dd⟩ := dic_of I d
  have hl : m.length = ys.length := Paired.length rel
  refine call_len_dictH y dd (by rw [← hl]; rw [sizeLine_eq] at z; omega) ?_
  rw [← hl]
  exact ⟨.int ((m.length : Nat) : Int), H, I.tok _, ⟨_, rfl⟩, q⟩
theorem pe_none (hu : X.A.units < cLine) {k v : Expr} {tk : TE} (hk : PE X k tk) (hv : PE X v tv) : PE X (.Dict [some k] [v] pos) (tNOne X.K X.prog X.w tk tv) := by
  refine ⟨fun pins s σ H Q I h => ?_⟩
  have hn := I.hok.fresh (Nat.le_refl s.heap.objs.size)
  have I1 := I.laid (a := s.heap.objs.size) (o := DicO X.prog X.w s.heap.objs.size []) (h' := s.heap.push { cls := .type "dict", data := .dict #[] }) (t' := s.toks) (fun _ _ q => Heap.get?_push_of_some _ q) (Nat.le_refl _) (dicO_ok (dic_empty I.big))
  rw [arm_eval_Dict, zip_pairTrees [some k] [v] X.env pos rfl rfl, dictDisplay_pairs (pairTrees [some k] [v] X.env pos) (by intro z; cases z) (by show 1 < 17; omega)]
  refine wpAny_bind (wpAny_standAt (wpAny_bind (wpAny_subDictH (knd := TK X.prog X.w) hu (by show 1 ≤ 15; omega) (pairTrees_cons_walk (thn (hk.run pins _ σ _ _ I1 (h _ hn)) fun kv s2 ⟨y, H2, I2, ry, q2⟩ => thn (hv.run pins s2 σ H2 _ I2 q2) fun vv s3 ⟨z, H3, I3, rz, b, kk, ey, hp, hb, q3⟩ => pairTrees_nil_walk ?_)))))
  subst ey
  cases ry
  obtain ⟨zz, yy, xs, rel, dd⟩ := dic_of I3 (m := []) (a := s.heap.objs.size) ⟨.inl hp, fun _ h => by cases h⟩
  cases rel
  refine ⟨[(kk, b, vv)], ⟨rfl, rfl, I3.isT hb, True.intro⟩, dd, fun h' tk dd' hs => wpAny_pure ⟨.ref s.heap.objs.size, _, ?_, rfl, q3⟩⟩
  obtain ⟨o, es, ep, ho, h2, h3, h4, _, h5⟩ := dd'
  exact d_write I3 (by rw [hp]; exact True.intro) hs ⟨o, ho⟩ (dicO_ok ⟨by rw [sizeLine_eq]; show 1 ≤ 16777216; omega, yy, _, .cons ⟨rfl, rfl, rz⟩ .nil, h5, o, es, ep, ho, h2, h3, h4⟩)
end
end Cot
namespace Cot
open PySem L2 Evl
section
variable {K : PySem.W.Frag} {P : Program} {w : World} {H H' Hd Hd' Hn H1 H2 : Hp} {σ : L2.St} {ta td ty tv tx : TE} {tr : TA} {D : Ends} {tz : TS} {a b : Addr} {m : Dkv} {k : List Int} {v z : V} {i : Nat}
theorem dp_key (h : Dp K H v (.tuple (k.map .int))) : ∃ p, v = .ref p ∧ SqT K H p (k.map V.int) := by
  cases h with
  | @tup p xs ds hs hall =>
    have e := dpa_ints_inv hall
    subst e
    exact ⟨p, rfl, hs⟩
theorem key_dp (h : SqT K H b (k.map V.int)) : Dp K H (.ref b) (.tuple (k.map .int)) := .tup h (dpa_ints k)
theorem ev_ninR {neg : Bool} (s : Ex Hd H) (hk : EvD K ty σ Hd (.tuple (k.map .int))) (hd : Ev td σ H (.ref a)) (d : DiR K P w H a m) : Ev (tNIn K P w neg ty td) σ H (.bl (if neg then !(valD m k).isSome else (valD m k).isSome)) := fun H1 e1 Q q =>
  hk H1 (s.trans e1) _ fun v H2 Hn g hv => hd H2 (e1.trans g.ex) _ fun H3 e3 => by
    obtain ⟨p, rfl, hp⟩ := dp_key hv
    exact ⟨a, m, p, k, rfl, rfl, d.mono ((e1.trans g.ex).trans e3), ex_t (g.sub.trans e3) hp, q H3 (g.ex.trans e3)⟩
theorem ev_ngetR (s : Ex Hd H) (hd : Ev td σ H (.ref a)) (hk : EvD K ty σ Hd (.tuple (k.map .int))) (d : DiR K P w H a m) (hv : valD m k = some v) : Ev (tNGet K P w td ty) σ H v := fun H1 e1 Q q =>
  hd H1 e1 _ fun H2 e2 => hk H2 ((s.trans e1).trans e2) _ fun u H3 Hn g hu => by
    obtain ⟨p, rfl, hp⟩ := dp_key hu
    exact ⟨a, m, p, k, v, rfl, rfl, d.mono ((e1.trans e2).trans g.ex), ex_t g.sub hp, hv, q H3 (e2.trans g.ex)⟩
theorem ev_nget2R (s : Ex Hd H) (hd : Ev td σ H (.ref a)) (hk : EvD K ty σ Hd (.tuple (k.map .int))) (hz : Ev tx σ H z) (d : DiR K P w H a m) : Ev (tNGet2 K P w td ty tx) σ H ((valD m k).getD z) := fun H1 e1 Q q =>
  hd H1 e1 _ fun H2 e2 => ⟨a, m, rfl, d.mono (e1.trans e2), hk H2 ((s.trans e1).trans e2) _ fun u H3 Hn g hu => hz H3 ((e1.trans e2).trans g.ex) _ fun H4 e4 => by
    obtain ⟨p, rfl, hp⟩ := dp_key hu
    exact ⟨p, k, rfl, d.mono (((e1.trans e2).trans g.ex).trans e4), ex_t (g.sub.trans e4) hp, q H4 ((e2.trans g.ex).trans e4)⟩⟩
theorem ev_nlenR (hd : Ev td σ H (.ref a)) (d : DiR K P w H a m) : Ev (tCB (rNLen K P w) (tCons td tNil)) σ H (.int ((m.length : Nat) : Int)) := fun H1 e1 Q q =>
  hd H1 e1 _ fun H2 e2 => ⟨a, m, rfl, d.mono (e1.trans e2), q H2 e2⟩
theorem ev_nin {neg : Bool} (s : Ex Hd H) (hk : EvD K ty σ Hd (.tuple (k.map .int))) (hd : Ev td σ H (.ref a)) (d : DiAt K P w H a m) : Ev (tNIn K P w neg ty td) σ H (.bl (if neg then !(valD m k).isSome else (valD m k).isSome)) := ev_ninR s hk hd d.r
theorem ev_nget (s : Ex Hd H) (hd : Ev td σ H (.ref a)) (hk : EvD K ty σ Hd (.tuple (k.map .int))) (d : DiAt K P w H a m) (hv : valD m k = some v) : Ev (tNGet K P w td ty) σ H v := ev_ngetR s hd hk d.r hv
theorem ev_nget2 (s : Ex Hd H) (hd : Ev td σ H (.ref a)) (hk : EvD K ty σ Hd (.tuple (k.map .int))) (hz : Ev tx σ H z) (d : DiAt K P w H a m) : Ev (tNGet2 K P w td ty tx) σ H ((valD m k).getD z) := ev_nget2R s hd hk hz d.r
theorem ev_nlen (hd : Ev td σ H (.ref a)) (d : DiAt K P w H a m) : Ev (tCB (rNLen K P w) (tCons td tNil)) σ H (.int ((m.length : Nat) : Int)) := ev_nlenR hd d.r
theorem go_nput (s : Ex Hd H) (hv : Ev tv σ H v) (hd : Ev td σ H (.ref a)) (hk : EvD K ty σ Hd (.tuple (k.map .int))) (d : DiAt K P w H a m) (hl : m.length < 100000)
    (kk : ∀ p H' Hn, Gr Hd H Hn H' → SqT K Hn p (k.map V.int) → Go tz D σ (upd H' a (DicO P w a (putD m k p v)))) : Go (tSeq (sNPut K P w td ty tv) tz) D σ H := fun H1 e1 =>
  hv H1 e1 _ fun H2 e2 => hd H2 (e1.trans e2) _ fun H3 e3 => hk H3 (((s.trans e1).trans e2).trans e3) _ fun u H4 Hn g hu => by
    obtain ⟨p, rfl, hp⟩ := dp_key hu
    exact ⟨a, m, p, k, rfl, rfl, d.mono (((e1.trans e2).trans e3).trans g.ex), ex_t g.sub hp, sz_lt hl, kk p H4 Hn (g.pre ((e1.trans e2).trans e3)) hp _ (Ex.refl _)⟩
/-- a new dict of one pair -/
theorem go_none (s : Ex Hd H) (hk : EvD K ty σ Hd (.tuple (k.map .int))) (hv : ∀ H1, Ex H H1 → Ev tv σ H1 v)
    (kk : ∀ a p H' Hn, Gr Hd H Hn H' → H a = none → Hn a = none → SqT K Hn p (k.map V.int) → H' a = some (DicO P w a [(k, p, v)]) → Go tz D (σ.set i (some (.ref a))) H') : Go (tSeq (tAsg (tNOne K P w ty tv) (gName i)) tz) D σ H := fun H1 e1 a ha => by
  have s1 : Ex Hd (upd H1 a (DicO P w a [])) := (s.trans e1).trans (Ex.new ha)
  refine hk _ s1 _ fun u H2 Hn g hu => hv H2 ((e1.trans (Ex.new ha)).trans g.ex) _ (Ex.refl _) _ fun H3 e3 => ?_
  obtain ⟨p, rfl, hp⟩ := dp_key hu
  have h3 : H3 a = some (DicO P w a []) := e3 _ _ (g.ex _ _ upd_same)
  have hna : Hn a = none := g.fr _ _ upd_same (fresh_back (s.trans e1) ha)
  refine ⟨p, k, rfl, h3, ex_t (g.sub.trans e3) hp, ?_⟩
  refine kk a p _ Hn ⟨fun x o hx => ?_, g.dx, Ex.mut (g.sub.trans e3) hna, fun x o hx hd => ?_⟩ (fresh_back e1 ha) hna hp upd_same _ (Ex.refl _)
  · have hx1 := e1 x o hx
    rw [upd_ne (ne_of_none hx1 ha)]
    exact e3 _ _ (g.ex _ _ (by rw [upd_ne (ne_of_none hx1 ha)]; exact hx1))
  · have hx1 := e1 x o hx
    exact g.fr x o (by rw [upd_ne (ne_of_none hx1 ha)]; exact hx1) hd
end
end Cot
namespace Cot
open PySem L2 Evl
/-! ### the same, where the context is a block's -/
section
variable {X : Cx} {K : PySem.W.Frag} {P : Program} {w : World} {o i e f value : Expr} {pos pos' apos cpos : Pos} {td ty tv tx tk : TE}
theorem pb_nget (h1 : X.K = K) (h2 : X.prog = P) (h3 : X.w = w) (hu : X.A.units + 1 < cLine) (ho : PE X o td) (hi : PE X i ty) (hs : NoSl i) : PE X (.Subscript o i pos) (tNGet K P w td ty) := by
  subst h1 h2 h3
  exact pe_nget hu ho hi hs
theorem pb_nin (h1 : X.K = K) (h2 : X.prog = P) (h3 : X.w = w) (hu : X.A.units + 1 < cLine) (hi : PE X i ty) (ho : PE X o td) : PC X .In i o (tNIn K P w false ty td) := by
  subst h1 h2 h3
  exact pc_nin hu hi ho
theorem pb_nnotin (h1 : X.K = K) (h2 : X.prog = P) (h3 : X.w = w) (hu : X.A.units + 1 < cLine) (hi : PE X i ty) (ho : PE X o td) : PC X .NotIn i o (tNIn K P w true ty td) := by
  subst h1 h2 h3
  exact pc_nnotin hu hi ho
theorem pb_nget2 (h1 : X.K = K) (h2 : X.prog = P) (h3 : X.w = w) (hu : X.A.units + 1 < cLine) (ho : PE X o td) (he : PE X e ty) (hf : PE X f tx) (m : M2 X o "get" apos e f cpos) : PE X (.Call (.Attribute o "get" apos) [e, f] [] cpos) (tNGet2 K P w td ty tx) := by
  subst h1 h2 h3
  exact pe_nget2 hu ho he hf m
theorem pb_nput (h1 : X.K = K) (h2 : X.prog = P) (h3 : X.w = w) (hu : X.A.units + 1 < cLine) (ho : PE X o td) (hi : PE X i ty) (hv : PE X value tv) (hs : swapsWith value (some (.Subscript o i pos')) pos.line X.env = pure false) :
    PS X (.Assign [.Subscript o i pos'] value pos) (sNPut K P w td ty tv) := by
  subst h1 h2 h3
  exact ps_nput hu ho hi hv hs
theorem pb_nnew (h2 : X.prog = P) (h3 : X.w = w) : PE X (.Dict [] [] pos) (tNNew P w) := by
  subst h2 h3
  exact pe_nnew
theorem cb_nlen (h1 : X.K = K) (h2 : X.prog = P) (h3 : X.w = w) : CallR X (.builtin "len") (rNLen K P w) := by
  subst h1 h2 h3
  exact call_nlen
theorem pb_none (h1 : X.K = K) (h2 : X.prog = P) (h3 : X.w = w) (hu : X.A.units < cLine) {k v : Expr} (hk : PE X k tk) (hv : PE X v tv) : PE X (.Dict [some k] [v] pos) (tNOne K P w tk tv) := by
  subst h1 h2 h3
  exact pe_none hu hk hv
end
end Cot

set_option Elab.async false
set_option linter.all false
set_option maxRecDepth 100000
set_option maxHeartbeats 4000000
/-! The lesser of two, sorted ints. -/
namespace Cot
open PySem PySem.Spec PyProof.Rows L2 Evl
section
variable {X : Cx} {K : PySem.W.Frag} {H Hd : Hp} {σ : L2.St} {ta tb : TE} {ns : List Int}
def rMin2 : List V → Hp → VK → Prop := fun xs H Q => ∃ i j, xs = [V.int i, V.int j] ∧ Q (V.int (if j < i then j else i)) H
theorem call_minQ (hc : X.calm = true := by rfl) : CallR X (.builtin "min") rMin2 := call_min2 hc
theorem ev_min2 {i j : Int} (ha : Ev ta σ H (.int i)) (hb : Ev tb σ H (.int j)) : Ev (tCB rMin2 (tCons ta (tCons tb tNil))) σ H (.int (if j < i then j else i)) := fun H1 e Q q =>
  ha H1 e _ fun H2 e2 => hb H2 (e.trans e2) _ fun H3 e3 => ⟨i, j, rfl, q H3 (e2.trans e3)⟩
/-- sorted of two ints -/
theorem en_sort2 {i j : Int} (h : EvD K ta σ Hd (.list [.int i, .int j])) : EvN K (tCB (rSortedI K) (tCons ta tNil)) σ Hd (if i ≤ j then [.int i, .int j] else [.int j, .int i]) := fun H s Q q =>
  h H s _ fun v H2 Hn g hd => by
    cases hd with
    | @lst a xs ds hs hall =>
      have e := dpa_ints_inv (ns := [i, j]) hall
      subst e
      refine ⟨a, [i, j], rfl, ex_l g.sub hs, fun ns' p hp hw hn => q p _ _ Hn (g.trans (Gr.alloc g.sub hn)) (fresh_back g.ex hn) (fresh_back g.sub hn) upd_same ?_⟩
      have e2 : ns' = if i ≤ j then [i, j] else [j, i] := by
        refine List.Perm.eq_of_pairwise (le := fun a b => a ≤ b) (fun a b _ _ h1 h2 => Int.le_antisymm h1 h2) hw ?_ ?_
        · split
          · exact List.pairwise_pair.mpr (by assumption)
          · exact List.pairwise_pair.mpr (by omega)
        · split
          · exact hp
          · exact hp.trans (List.Perm.swap _ _ _)
      rw [e2]
      split
      · exact dpa_ints [i, j]
      · exact dpa_ints [j, i]
end
end Cot
namespace Cot
open PySem L2 Evl
/-! ### a place let go of -/
def del (H : Hp) (l : Addr) : Hp := fun a => if a = l then none else H a
theorem del_same {H : Hp} {l : Addr} : del H l l = none := by unfold del; rw [if_pos rfl]
theorem del_ne {H : Hp} {l a : Addr} (h : a ≠ l) : del H l a = H a := by unfold del; rw [if_neg h]
theorem ex_del {H : Hp} {l : Addr} : Ex (del H l) H := fun a o h => by
  by_cases e : a = l
  · rw [e, del_same] at h; cases h
  · rw [del_ne e] at h; exact h
def noL : PyData → Bool
  | .list _ => false
  | .dict _ => false
  | .tuple ds => noLs ds
  | _ => true
where noLs : List PyData → Bool
  | [] => true
  | d :: ds => noL d && noLs ds
section
variable {K : PySem.W.Frag} {b : Bid} {H H' Hd Hd' Hn H1 H2 : Hp} {σ : L2.St} {ta td te tl th : TE} {t : TT} {tr : TA} {D : Ends} {tz : TS} {l : Addr} {o : HO} {v : V} {xs : List V} {d : PyData} {ds es : List PyData} {i : Nat} {P : PyData → Prop} {Ps : List PyData → Prop}
/-- no tuple -/
def NoTup (o : HO) : Prop := (∀ xs, o ≠ .tup xs) ∧ ∀ ob u, o ≠ .frz ob u
theorem noTup_lst : NoTup (.lst xs) := ⟨fun _ h => (by cases h), fun _ _ h => (by cases h)⟩
theorem sqT_del {a : Addr} (ho : H l = some o) (n : NoTup o) (h : SqT K H a xs) : SqT K (del H l) a xs := by
  rcases h with (h | ⟨ob, h⟩) | h
  · refine .inl (.inl ?_)
    rw [del_ne (fun e => by rw [e, ho] at h; exact n.1 _ (Option.some.inj h))]
    exact h
  · refine .inl (.inr ⟨ob, ?_⟩)
    rw [del_ne (fun e => by rw [e, ho] at h; exact n.2 _ _ (Option.some.inj h))]
    exact h
  · exact .inr h
mutual
theorem dp_del (ho : H l = some o) (n : NoTup o) : ∀ (d : PyData) {v : V}, noL d = true → Dp K H v d → Dp K (del H l) v d
  | .none, _, _, h => by cases h; exact .non
  | .bool b, _, _, h => by cases h; exact .bl b
  | .int i, _, _, h => by cases h; exact .int i
  | .str x, _, _, h => by cases h; exact .str x
  | .list ds, _, e, _ => by unfold noL at e; cases e
  | .tuple ds, _, e, h => by
    cases h with
    | tup hs ha => exact .tup (sqT_del ho n hs) (dpa_del ho n ds (by unfold noL at e; exact e) ha)
  | .dict _, _, _, h => by cases h
theorem dpa_del (ho : H l = some o) (n : NoTup o) : ∀ (ds : List PyData) {vs : List V}, noL.noLs ds = true → DpAll K H vs ds → DpAll K (del H l) vs ds
  | [], _, _, h => by cases h; exact .nil
  | d :: ds, _, e, h => by
    unfold noL.noLs at e
    rw [Bool.and_eq_true] at e
    cases h with
    | cons h1 h2 => exact .cons (dp_del ho n d e.1 h1) (dpa_del ho n ds e.2 h2)
end
theorem noLs_of : ∀ {ds : List PyData}, (∀ d ∈ ds, noL d = true) → noL.noLs ds = true
  | [], _ => by unfold noL.noLs; rfl
  | d :: ds, h => by
    unfold noL.noLs
    rw [h d List.mem_cons_self, noLs_of fun e he => h e (List.mem_cons_of_mem _ he)]
    rfl
theorem Gr.del (g : Gr (upd Hd l o) H Hn H2) (hl : Hd l = none) : Gr Hd H (del Hn l) H2 :=
  ⟨g.ex, fun a u ha => by
    have n : a ≠ l := fun e => by rw [e, hl] at ha; cases ha
    rw [del_ne n]
    exact g.dx a u (by rw [upd_ne n]; exact ha), ex_del.trans g.sub, fun a u ha hd => by
    by_cases e : a = l
    · rw [e]; exact del_same
    · rw [del_ne e]
      exact g.fr a u ha (by rw [upd_ne e]; exact hd)⟩
theorem GrB.del (g : GrB b (upd Hd l o) H Hn H2) (hl : Hd l = none) : GrB b Hd H (del Hn l) H2 :=
  ⟨g.exb, fun a u ha => by
    have n : a ≠ l := fun e => by rw [e, hl] at ha; cases ha
    rw [del_ne n]
    exact g.dx a u (by rw [upd_ne n]; exact ha), ex_del.trans g.sub, fun a u ha hd => by
    by_cases e : a = l
    · rw [e]; exact del_same
    · rw [del_ne e]
      exact g.fr a u ha (by rw [upd_ne e]; exact hd), g.bx⟩
/-- l.append(e), e read with l standing -/
theorem go_appX (s : Ex Hd H) (hl : H l = some (.lst xs)) (hd : Hd l = none) (ha : Ev ta σ H (.ref l)) (h : EvD K te σ (upd Hd l (.lst xs)) d) (nl : noL d = true) (hz : xs.length < 100000)
    (k : ∀ v H' Hn, Gr Hd H Hn H' → Hn l = none → Dp K Hn v d → Go tz D σ (upd H' l (.lst (xs ++ [v])))) : Go (tSeq (tDrop (tBM K "list" rAppend ta (tCons te tNil))) tz) D σ H :=
  go_appD (ex_add s hl) hl ha h hz fun v H' Hn g hv => k v H' (del Hn l) (g.del hd) del_same (dp_del (g.dx _ _ upd_same) noTup_lst d nl hv)
/-- the same, e drawn -/
theorem go_appBX (hb : Hd b.b = none) (s : Ex Hd H) (B : Bx H b) (hl : H l = some (.lst xs)) (hd : Hd l = none) (nlb : l ≠ b.b) (ha : Ev ta σ H (.ref l)) (h : EvB K b te σ (upd Hd l (.lst xs)) P) (nl : ∀ d, P d → noL d = true) (hz : xs.length < 100000)
    (k : ∀ v H' Hn d, GrB b Hd H Hn H' → Hn l = none → Dp K Hn v d → P d → Go tz D σ (upd H' l (.lst (xs ++ [v])))) : Go (tSeq (tDrop (tBM K "list" rAppend ta (tCons te tNil))) tz) D σ H :=
  go_appB (by rw [upd_ne nlb.symm]; exact hb) (ex_add s hl) B hl nlb ha h hz fun v H' Hn d g hv hp => k v H' (del Hn l) d (g.del hd) del_same (dp_del (g.dx _ _ upd_same) noTup_lst d (nl d hp) hv) hp
/-- x = [drawn ..]: a list that is to change -/
theorem go_asgBL (hb : Hd b.b = none) (s : Ex Hd H) (B : Bx H b) (h : EvBA K b tr σ Hd Ps) (hl : ∀ ds, Ps ds → ds.length ≤ 100000)
    (k : ∀ p xs H' Hn ds, GrB b Hd H Hn H' → H p = none → Hn p = none → p ≠ b.b → p ≠ b.ca → H' p = some (.lst xs) → DpAll K Hn xs ds → Ps ds → Go tz D (σ.set i (some (.ref p))) H') : Go (tSeq (tAsg (tLst tr) (gName i)) tz) D σ H := fun H1 e1 =>
  h hb H1 (s.trans e1) (B.mono e1) _ fun vs H2 Hn ds g hd hp => ⟨sz_of (by rw [dpa_len hd]; exact hl ds hp), fun p hpn => by
    obtain ⟨n1, n2⟩ := g.bx.apart hpn
    have hpn1 : H1 p = none := GrB.fresh g hpn
    exact k p vs _ Hn ds ((g.pre e1).post (Ex.new hpn)) (fresh_back e1 hpn1) (fresh_back g.sub hpn) n1 n2 upd_same hd hp _ (Ex.refl _)⟩
theorem ed_if {c : Bool} (h : EvT t σ Hd c) (h1 : c = true → EvD K ta σ Hd d) (h2 : c = false → EvD K te σ Hd d) : EvD K (tIf t ta te) σ Hd d := fun H s Q q => h H s _ fun H2 e2 => by
  cases c with
  | true => exact h1 rfl H2 (s.trans e2) Q fun v H3 Hn g hv => q v H3 Hn (g.pre e2) hv
  | false => exact h2 rfl H2 (s.trans e2) Q fun v H3 Hn g hv => q v H3 Hn (g.pre e2) hv
/-- a test by == of two drawn ints -/
theorem ebt_eq {p p' : Int → Prop} (ha : EvB K b ta σ Hd (isI p)) (hb' : EvB K b te σ Hd (isI p')) : EvBT K b (tTest (tOp rEq ta te)) σ Hd := fun hb H s B Q q =>
  ha hb H s B _ fun v H1 Hn d g hd hp => hb'.mono g.dx (g.bn hb B) H1 g.sub g.bx _ fun v2 H2 Hm d2 g2 hd2 hp2 => by
    obtain ⟨i, rfl, pi⟩ := hp
    obtain ⟨j, rfl, pj⟩ := hp2
    cases hd
    cases hd2
    exact ⟨rfl, _, rfl, q _ H2 Hm (g.trans g2 hb B)⟩
end
end Cot
namespace Cot
open PySem L2 Evl
/-- a def that is handed data and tells a scalar -/
def spD (K : PySem.W.Frag) (R : List PyData → V → Prop) : Sp := fun vs H Q _ => ∃ ds v, DpAll K H vs ds ∧ R ds v ∧ ∀ H2, Ex H H2 → Q v H2
section
variable {K : PySem.W.Frag} {Hd : Hp} {σ : L2.St} {tr : TA} {ds : List PyData} {v : V} {E : XK} {R : List PyData → V → Prop}
/-- a, b = x, y -/
theorem go_par {H : Hp} {d1 d2 : PyData} {D : Ends} {tz : TS} {i j : Nat} (s : Ex Hd H) (h : EvDA K tr σ Hd [d1, d2]) (k : ∀ v1 v2 H' Hn, Gr Hd H Hn H' → Dp K Hn v1 d1 → Dp K Hn v2 d2 → Go tz D ((σ.set i (some v1)).set j (some v2)) H') : Go (tSeq (tPar i j tr) tz) D σ H := fun H1 e1 =>
  h H1 (s.trans e1) _ fun vs H2 Hn g hd => by
    cases hd with
    | cons h1 h2 =>
      cases h2 with
      | cons h2 h3 =>
        cases h3
        exact ⟨_, _, rfl, k _ _ H2 Hn (g.pre e1) h1 h2 H2 (Ex.refl _)⟩
theorem ev_callD (h : EvDA K tr σ Hd ds) (hr : R ds v) : Ev (tCall (spD K R) [] E tr) σ Hd v := fun H s Q q =>
  h H s _ fun vs H2 Hn g hd => ⟨ds, v, by rw [List.append_nil]; exact dpa_mono g.sub _ hd, hr, fun H3 e3 => q H3 (g.ex.trans e3)⟩
end
end Cot

set_option Elab.async false
set_option linter.all false
set_option maxRecDepth 100000
set_option maxHeartbeats 4000000
/-! A tuple turned about, lists of lists that grow, calls with names. -/
namespace Cot
open PySem PySem.Spec PyProof.Rows L2 Evl
section
variable {prog : Program} {w : World} {A : Around} {E : Value → Shared → Prop} {s : Shared}
theorem adjust_rev (n : Nat) : Builtin.Slice.sliceAdjust none none (-1) (n : Int) = ((n : Int) - 1, -1) := rfl
theorem places_rev (n : Nat) : Builtin.Slice.slicePlaces ((n : Int) - 1) (-1) (-1) = n := by
  unfold Builtin.Slice.slicePlaces
  have h1 : ¬ ((-1 : Int) > 0) := by omega
  simp only [h1, if_false]
  by_cases h : (n : Int) - 1 > -1
  · rw [if_pos h, show (- -1 : Int) = 1 by decide, Int.ediv_one]
    omega
  · rw [if_neg h]
    omega
theorem pick_rev (xs : Array Value) : ((List.range xs.size).filterMap fun (m : Nat) => xs[(((xs.size : Nat) : Int) - 1 + (m : Int) * (-1)).toNat]?).toArray = xs.toList.reverse.toArray := by
  have e : (List.range xs.size).filterMap (fun (m : Nat) => xs[(((xs.size : Nat) : Int) - 1 + (m : Int) * (-1)).toNat]?) = ((List.range xs.size).map fun k => xs.size - 1 - k).filterMap (xs[·]?) := by
    rw [List.filterMap_map]
    have key : ∀ l : List Nat, (∀ m ∈ l, m < xs.size) → l.filterMap (fun (m : Nat) => xs[(((xs.size : Nat) : Int) - 1 + (m : Int) * (-1)).toNat]?) = l.filterMap ((xs[·]?) ∘ fun k => xs.size - 1 - k) := by
      intro l
      induction l with
      | nil => intro _; rfl
      | cons m l ih =>
        intro h
        have hm := h m List.mem_cons_self
        have e2 : (((xs.size : Nat) : Int) - 1 + (m : Int) * (-1)).toNat = xs.size - 1 - m := by omega
        rw [List.filterMap_cons, List.filterMap_cons, ih fun m hm => h m (List.mem_cons_of_mem _ hm), e2]
        rfl
    exact key _ fun m hm => List.mem_range.mp hm
  rw [e, PySem.W.krv_range, List.filterMap_reverse, PySem.W.krv_all]
theorem sliceApplied_rev {sl : Addr} {vs : Value} {n : Nat} {Q : Int × Int × Nat → Shared → Prop} (hs : s.heap.IsSliceOf sl .none .none vs) (ps : IsPart vs (some (-1)))
    (h : Q ((n : Int) - 1, -1, n) s) : wpAny (model prog w) A (Builtin.Slice.sliceApplied (.ref sl) (pure (n : Int))) Q E s := by
  obtain ⟨os, hos, hcs, hds⟩ := id hs
  unfold Builtin.Slice.sliceApplied Builtin.Slice.sliceFields
  refine wpAny_bind (wpAny_bind (wpAny_field hos hds (x := .none) rfl (wpAny_bind (wpAny_field hos hds (x := .none) rfl (wpAny_bind (wpAny_field hos hds (x := vs) rfl (wpAny_pure ?_)))))))
  refine wpAny_bind (HT.slicePart_ ps ?_)
  show wpAny _ _ (if ((-1 : Int) == 0) = true then _ else _) _ _ s
  rw [if_neg (by decide)]
  refine wpAny_bind (HT.slicePart_ .none (wpAny_bind (HT.slicePart_ .none (wpAny_bind (wpAny_pure ?_)))))
  show wpAny _ _ (match Builtin.Slice.sliceAdjust none none (-1) (n : Int) with | (lo, hi) => pure (lo, (-1 : Int), Builtin.Slice.slicePlaces lo hi (-1))) _ _ s
  rw [adjust_rev n]
  show wpAny _ _ (pure ((n : Int) - 1, (-1 : Int), Builtin.Slice.slicePlaces ((n : Int) - 1) (-1) (-1))) _ _ s
  rw [places_rev]
  exact wpAny_pure h
theorem getItem_tuple_rev {t sl : Addr} {items : Array Value} {vs : Value} {Q : Value → Shared → Prop} (ht : IsTup s.heap t items) (hs : s.heap.IsSliceOf sl .none .none vs) (ps : IsPart vs (some (-1)))
    (h : Q (.ref s.heap.objs.size) { s with heap := s.heap.push { cls := .type "tuple", data := .seq items.toList.reverse.toArray } })
    (hsz : items.size ≤ sizeLine) : wpAny (model prog w) A (getItem (.ref t) (.ref sl)) Q E s := by
  have htake : sizeOk (.seq items.toList.reverse.toArray) := by
    show items.toList.reverse.toArray.size ≤ sizeLine
    rw [List.size_toArray, List.length_reverse, Array.length_toList]
    exact hsz
  obtain ⟨os, hos, hcs, hds⟩ := id hs
  have hTs : s.TypeIs (.ref sl) "slice" := ⟨os, hos, hcs⟩
  unfold getItem
  try with_reducible refine wpAny_holding ?_
  first | refine wpAny_bind (wpAny_pure ?_) | skip
  refine wpAny_bind (wpAny_sequenceKey ht.typeIs (by decide) ?_)
  refine wpAny_bind (wpAny_callSpecial?_slot (name := Str.ofString "__getitem__") ht.typeIs PyProof.Rows.slot_tuple_getitem
    (wpAny_call_entry PyProof.Rows.slot_tuple_getitem ht.typeIs entry_tuple_getitem ?_ (args_tuple_getitem _ _)))
  show wpAny _ _ (Builtin.Tuple.tupleItemsOf (.ref t) >>= _) _ _ s
  refine wpAny_bind (tupleItemsOf_ ht ?_)
  refine wpAny_bind (wpAny_typeOf hTs ?_)
  rw [if_pos (by decide)]
  refine wpAny_bind (sliceApplied_rev hs ps ?_)
  have hno : ¬ ((((items.size : Int) - 1) == 0 && (-1 : Int) == 1 && items.size == items.size) = true) := by
    intro q
    rw [Bool.and_eq_true, Bool.and_eq_true] at q
    exact absurd q.1.2 (by decide)
  show wpAny _ _ (if (((items.size : Int) - 1) == 0 && (-1 : Int) == 1 && items.size == items.size) = true then _ else _) _ _ s
  rw [if_neg hno, pick_rev]
  first
    | exact wpAny_bind (m := Builtin.Tuple.tupleExact _) (wpAny_newObj_type (wpAny_pure ⟨_, rfl, wpAny_pure h⟩) htake)
    | exact wpAny_bind (m := Builtin.Tuple.tupleExact _) (wpAny_newObj_type (wpAny_bind (wpAny_pure (wpAny_pure ⟨_, rfl, wpAny_pure h⟩))) htake)
    | exact wpAny_bind (wpAny_bind (m := Builtin.Tuple.tupleExact _) (wpAny_newObj_type (wpAny_pure (wpAny_pure ⟨_, rfl, wpAny_pure h⟩)) htake))
    | exact wpAny_bind (wpAny_bind (m := Builtin.Tuple.tupleExact _) (wpAny_newObj_type (wpAny_pure ⟨_, rfl, wpAny_pure h⟩) htake))
end
section
variable {X : Cx}
def tRevT (K : PySem.W.Frag) (te : TE) : TE := fun σ H Q => te σ H fun x H1 => ∃ a xs, x = .ref a ∧ SqT K H1 a xs ∧ ∀ p, H1 p = none → Q (.ref p) (upd H1 p (.tup xs.reverse))
theorem pe_revT {e : Expr} {te : TE} {k : Nat} {p1 p2 p3 pos : Pos} (he : PE X e te) : PE X (.Subscript e (.Slice none none (some (.UnaryOp .USub (.Constant (.int 1) k p1) p2)) p3) pos) (tRevT X.K te) := by
  refine ⟨fun pins s σ H Q I h => ?_⟩
  refine Subscript_ (thn (he.run pins s σ H _ I h) fun v s1 ⟨x, H1, I1, r1, q1⟩ => ?_)
  obtain ⟨a, xs, ex, hx, q⟩ := q1
  subst ex
  cases r1
  have hst : PO X (some (.UnaryOp .USub (.Constant (.int 1) k p1) p2)) (tPart (tUn (rU fun i => .int (-i)) (tC (.int 1)))) := po_some (pe_un un_neg pe_int)
  refine wpAny_Slice (thn (po_none.run pins s1 σ H1 (fun o H2 => o = none ∧ H2 = H1) I1 ⟨rfl, rfl⟩) fun vl s2 ⟨l, H2, I2, pl, el, e2⟩ => ?_)
  subst el e2
  refine thn (po_none.run pins s2 σ H2 (fun o H3 => o = none ∧ H3 = H2) I2 ⟨rfl, rfl⟩) fun vu s3 ⟨u, H3, I3, pu, eu, e3⟩ => ?_
  subst eu e3
  refine thn (hst.run pins s3 σ H3 (fun o H4 => o = some (-1) ∧ H4 = H3) I3 ⟨1, rfl, -1, rfl, rfl, rfl⟩) fun vs s4 ⟨o, H4, I4, ps, eo, e4⟩ => ?_
  subst eo e4
  cases pl
  cases pu
  have I5 : Inv X pins σ H4 { s4 with heap := s4.heap.push { cls := .type "slice", data := .fields #[.none, .none, vs] } } := I4.kept (t' := s4.toks) fun b ob q => Heap.get?_push_of_some _ q
  obtain ⟨its, r, ht, hz⟩ := I5.tuple hx
  have hlen := r.length
  show wpAny (model X.prog X.w) X.A (subscriptTail e (.Slice none none (some (.UnaryOp .USub (.Constant (.int 1) k p1) p2)) p3) (.ref a) (.ref s4.heap.objs.size)) (EP X pins σ Q) X.xe { s4 with heap := s4.heap.push { cls := .type "slice", data := .fields #[.none, .none, vs] } }
  refine tail_any (ops := [.ref a, .ref s4.heap.objs.size]) ht.typeIs (PyProof.Rows.slot_tuple_getitem.lookup) ?_ (by with_unfolding_all rfl)
  refine getItem_tuple_rev ht (Heap.IsSliceOf.new _ .none .none vs) ps ?_ (by rw [List.size_toArray]; omega)
  refine ⟨.ref _, _, I5.laid (t' := s4.toks) (o := .tup xs.reverse) (fun b ob q => Heap.get?_push_of_some _ q) (Nat.le_refl _) ?_, rfl, q _ (I5.hok.fresh (Nat.le_refl _))⟩
  exact ⟨by rw [List.length_reverse]; exact hz, _, r.reverse, IsTup.new _ _⟩
end
section
variable {K : PySem.W.Frag} {l : Addr} {H H' Hd Hd' Hn H1 H2 Hm Hg : Hp} {σ : L2.St} {ta tb te : TE} {tr tk : TA} {D : Ends} {tz : TS} {d : PyData} {ds es : List PyData} {xs : List V}
theorem ed_revT (h : EvD K te σ Hd (.tuple ds)) : EvD K (tRevT K te) σ Hd (.tuple ds.reverse) := fun H s Q q =>
  h H s _ fun v H2 Hn g hd => by
    cases hd with
    | @tup a xs ds hs hall => exact ⟨a, xs, rfl, ex_t g.sub hs, fun r hr => q (.ref r) _ _ (g.trans (Gr.new g.sub hr)) (.tup (st_of upd_same) (dpa_mono (Ex.new (fresh_back g.sub hr)) _ (dpa_rev hall)))⟩
/-- a call whose last things are left out -/
theorem ed_callE {R : List PyData → PyData → Prop} {E : XK} {ns : List Int} (h : EvDA K tr σ Hd ds) (hr : R (ds ++ ns.map .int) d) : EvD K (tCall (spF K R) (ns.map .int) E tr) σ Hd d := fun H s Q q =>
  h H s _ fun vs H2 Hn g hd => ⟨Hn, ds ++ ns.map .int, d, g.sub, dpa_app hd (dpa_ints ns), hr, fun v H3 Hm g3 h3 => q v H3 Hm (g.trans g3) h3⟩
/-- the last things by their names, in their order -/
theorem ed_callN {R : List PyData → PyData → Prop} {E : XK} {n k : Nat} (h : EvDA K tr σ Hd ds) (hk : EvDA K tk σ Hd es) (h1 : ds.length = n) (h2 : es.length = k) (hr : R (ds ++ es) d) : EvD K (tCallN n k (spF K R) (fun us ws => us ++ ws) E tr tk) σ Hd d := fun H s Q q =>
  h H s _ fun vs H2 Hn g hd => (hk.mono g.dx) H2 g.sub _ fun ws H3 Hm g3 hd3 => ⟨by rw [dpa_len hd]; exact h1, by rw [dpa_len hd3]; exact h2, Hm, ds ++ es, d, g3.sub, dpa_app (dpa_mono g3.dx _ hd) hd3, hr, fun v H4 Ho g4 h4 => q v H4 Ho ((g.trans g3).trans g4) h4⟩
/-- a list that grows: it is no data yet, its things are -/
def LsAt (K : PySem.W.Frag) (Hg H' : Hp) (p : Addr) (ds : List PyData) : Prop := Hg p = none ∧ ∃ vs, H' p = some (.lst vs) ∧ DpAll K Hg vs ds
theorem LsAt.gr (h : LsAt K Hg H' l ds) (g : Gr Hg H' Hn H2) : LsAt K Hn H2 l ds := by
  obtain ⟨h1, vs, h2, h3⟩ := h
  exact ⟨g.fr _ _ h2 h1, vs, g.ex _ _ h2, dpa_mono g.dx _ h3⟩
theorem LsAt.ext (h : LsAt K Hg H' l ds) (e : Ex H' H2) : LsAt K Hg H2 l ds := by
  obtain ⟨h1, vs, h2, h3⟩ := h
  exact ⟨h1, vs, e _ _ h2, h3⟩
theorem LsAt.oth {p : Addr} {o : HO} (h : LsAt K Hg H' l ds) (n : l ≠ p) : LsAt K Hg (upd H' p o) l ds := by
  obtain ⟨h1, vs, h2, h3⟩ := h
  exact ⟨h1, vs, by rw [upd_ne n]; exact h2, h3⟩
/-- a list of places that are no data yet -/
def RfAt (Hg H' : Hp) (p : Addr) (xs : List V) : Prop := Hg p = none ∧ H' p = some (.lst xs)
theorem RfAt.gr (h : RfAt Hg H' l xs) (g : Gr Hg H' Hn H2) : RfAt Hn H2 l xs := ⟨g.fr _ _ h.2 h.1, g.ex _ _ h.2⟩
theorem RfAt.ext (h : RfAt Hg H' l xs) (e : Ex H' H2) : RfAt Hg H2 l xs := ⟨h.1, e _ _ h.2⟩
theorem RfAt.oth {p : Addr} {o : HO} (h : RfAt Hg H' l xs) (n : l ≠ p) : RfAt Hg (upd H' p o) l xs := ⟨h.1, by rw [upd_ne n]; exact h.2⟩
theorem go_appA (s : Ex Hd H) (hl : LsAt K Hd H l ds) (ha : Ev ta σ H (.ref l)) (h : EvD K te σ Hd d) (hz : ds.length < 100000)
    (k : ∀ H' Hn, Ex Hd Hn → Ex Hn H' → LsAt K Hn H' l (ds ++ [d]) → (∀ p es, p ≠ l → LsAt K Hd H p es → LsAt K Hn H' p es) → (∀ p xs, p ≠ l → RfAt Hd H p xs → RfAt Hn H' p xs) → Go tz D σ H') :
    Go (tSeq (tDrop (tBM K "list" rAppend ta (tCons te tNil))) tz) D σ H := by
  obtain ⟨h1, vs, h2, h3⟩ := hl
  refine go_appD (K := K) (d := d) s h2 ha h (by rw [dpa_len h3]; exact hz) fun v H' Hn g hv => ?_
  have n1 := g.fr _ _ h2 h1
  exact k _ Hn g.dx (Ex.mut g.sub n1) ⟨n1, _, upd_same, dpa_app (dpa_mono g.dx _ h3) (.cons hv .nil)⟩ (fun p es n h => (h.gr g).oth n) (fun p xs n h => (h.gr g).oth n)
/-- it is data from here on -/
theorem LsAt.add (h : LsAt K Hg H' l ds) (s : Ex Hg H') : ∃ Hn, Ex Hg Hn ∧ Ex Hn H' ∧ Dp K Hn (.ref l) (.list ds) ∧ ∀ q, q ≠ l → Hg q = none → Hn q = none := by
  obtain ⟨h1, vs, h2, h3⟩ := h
  exact ⟨upd Hg l (.lst vs), Ex.new h1, ex_add s h2, .lst (sq_of upd_same) (dpa_mono (Ex.new h1) _ h3), fun q n hq => by rw [upd_ne n]; exact hq⟩
theorem RfAt.add (h : RfAt Hg H' l xs) (s : Ex Hg H') (hd : DpAll K Hg xs ds) : ∃ Hn, Ex Hg Hn ∧ Ex Hn H' ∧ Dp K Hn (.ref l) (.list ds) := ⟨upd Hg l (.lst xs), Ex.new h.1, ex_add s h.2, .lst (sq_of upd_same) (dpa_mono (Ex.new h.1) _ hd)⟩
end
theorem pe_revTK {X : Cx} {K : PySem.W.Frag} {e : Expr} {te : TE} {k : Nat} {p1 p2 p3 pos : Pos} (hK : X.K = K) (he : PE X e te) : PE X (.Subscript e (.Slice none none (some (.UnaryOp .USub (.Constant (.int 1) k p1) p2)) p3) pos) (tRevT K te) := hK ▸ pe_revT he
theorem pb_tup {X : Cx} {K : PySem.W.Frag} {tg l : Expr} {tl : TE} (hK : X.K = K) (hl : PE X l tl) : PI X tg l (iTup K tl) := hK ▸ pi_tup hl
theorem pb_list {X : Cx} {K : PySem.W.Frag} {tg l : Expr} {tl : TE} (hK : X.K = K) (hl : PE X l tl) : PI X tg l (iList K tl) := hK ▸ pi_list hl
/-! ### a comprehension within a comprehension -/
theorem look_relabel {env : Env} : ∀ {names : List (Str × NameKind)} {x : Str}, names.lookup x = some .cell ∨ names.lookup x = some .free →
    (names.map fun (n, k) => if (k == NameKind.free && env.scope.kind == .function && env.kindOf n == some .cell) then (n, NameKind.cell) else (n, k)).lookup x = some .cell ∨
    (names.map fun (n, k) => if (k == NameKind.free && env.scope.kind == .function && env.kindOf n == some .cell) then (n, NameKind.cell) else (n, k)).lookup x = some .free
  | [], _, h => by simp at h
  | (n, k) :: r, x, h => by
    have ih := look_relabel (env := env) (names := r) (x := x)
    rw [List.map_cons]
    generalize List.map (fun (x : Str × NameKind) => match x with | (n, k) => if (k == NameKind.free && env.scope.kind == ScopeKind.function && env.kindOf n == some NameKind.cell) then (n, NameKind.cell) else (n, k)) r = r' at ih ⊢
    dsimp only
    by_cases hc : (k == NameKind.free && env.scope.kind == .function && env.kindOf n == some .cell) = true
    · rw [if_pos hc, List.lookup_cons]
      rw [List.lookup_cons] at h
      cases hx : x == n
      · rw [hx] at h
        exact ih h
      · exact .inl rfl
    · rw [if_neg hc, List.lookup_cons]
      rw [List.lookup_cons] at h
      cases hx : x == n
      · rw [hx] at h
        exact ih h
      · rw [hx] at h
        exact h
theorem blkIn_by {N : List Str} {env : Env} {sc scope : Scope} {own : List (Str × Nat)} (h : blkC N sc scope own = true) : BlkOk N (relabel sc env) scope own := by
  have b := blkOk_by h
  exact ⟨b.kind, b.uniq, b.ix, fun y hy e => look_relabel (b.free y hy e), b.own⟩
end Cot

set_option Elab.async false
set_option linter.all false
set_option maxRecDepth 100000
set_option maxHeartbeats 4000000
/-! A slice of a list told anew, lists of lists of ints that are changed, calls by names. -/
namespace Cot
open PySem PySem.Spec PyProof.Rows L2 Evl
section
variable {X : Cx}
/-- o[lo:hi] = a new list -/
def gSlc (to : TE) (tl th : TO) : TG := fun v σ H Q => to σ H fun o H1 => tl σ H1 fun lo H2 => th σ H2 fun hi H3 => ∃ l b xs ys a c, o = .ref l ∧ v = .ref b ∧ lo = some a ∧ hi = some c ∧ H3 l = some (.lst xs) ∧ H3 b = some (.lst ys) ∧ l ≠ b ∧ 0 ≤ a ∧ a ≤ c ∧ c ≤ (xs.length : Int) ∧ xs.length + ys.length ≤ sizeLine ∧ Q σ (upd H3 l (.lst (xs.take a.toNat ++ ys ++ xs.drop c.toNat)))
theorem pg_slc {o : Expr} {lo hi : Option Expr} {to : TE} {tl th : TO} {p2 pos : Pos} (ho : PE X o to) (hl : PO X lo tl) (hu : PO X hi th)
    (ha : ∀ v, assign (.Subscript o (.Slice lo hi none p2) pos) X.env v = (do
      let ov ← holding [v] (eval o X.env)
      let iv ← holding [v, ov] (eval (.Slice lo hi none p2) X.env)
      standAt pos
      holding [v, ov, iv] (setItem ov iv v)
      release [iv, v, ov] []) := by intro _; rfl) : PG X (.Subscript o (.Slice lo hi none p2) pos) (gSlc to tl th) := by
  refine ⟨fun pins s σ H v u Q I r h => ?_⟩
  rw [ha]
  refine wpAny_bind (wpAny_holding (thn (ho.run pins s σ H _ I h) fun ov s1 ⟨x, H1, I1, r1, q1⟩ => ?_))
  refine wpAny_bind (wpAny_holding ?_)
  refine wpAny_Slice (thn (hl.run pins s1 σ H1 _ I1 q1) fun vl s2 ⟨l, H2, I2, pl, q2⟩ => thn (hu.run pins s2 σ H2 _ I2 q2) fun vu s3 ⟨uu, H3, I3, pu, q3⟩ => ?_)
  rw [evalPart_none]
  refine wpAny_pure ?_
  have I4 : Inv X pins σ H3 { s3 with heap := s3.heap.push { cls := .type "slice", data := .fields #[vl, vu, .none] } } := I3.kept (t' := s3.toks) fun b ob q => Heap.get?_push_of_some _ q
  obtain ⟨l', b, xs, ys, a, c, rfl, rfl, rfl, rfl, hl3, hb3, hne, h0, h1, h2, hz, q⟩ := q3
  cases r1
  cases r
  have ra : RelV (.int a) vl := by cases pl; exact ⟨_, rfl⟩
  have rc : RelV (.int c) vu := by cases pu; exact ⟨_, rfl⟩
  refine wpAny_bind (wpAny_standAt (wpAny_bind (wpAny_holding (set_slice I4 hl3 hb3 hne (Heap.IsSliceOf.new ..) ra rc h0 h1 h2 hz fun s5 I5 => ?_))))
  exact wpAny_release ⟨σ, _, I5, q⟩
end
/-! ### calls by names -/
section
variable {K : PySem.W.Frag} {x qual : Str} {st : Stmt} {f : Addr} {fd : FuncData} {ps : List Str}
theorem kbFun (F : Fun K x qual st f fd) {n : Nat} {ks : List Str}
    (h : ∀ (kV doc pm : Value) (an : Option Addr) (cdv ct : Value) (us ws : List Value), us.length = n → ws.length = ks.length → bindArgs (PySem.W.fnOf x qual (defArgs st) (defBody st) (defScope st) .none kV doc pm an cdv ct) ⟨us, ks.zip ws⟩ = pure (ps.zip (us ++ ws))) :
    KBn K fd ps n ks (fun us ws => us ++ ws) (fun us ws => us ++ ws) := by
  obtain ⟨oc, od, kV, doc, pm, an, cdv, ct, osl, rfl, lk, hcd⟩ := F.ex
  exact ⟨fun s us ws X h1 h2 => .of_eq (h kV doc pm an cdv ct us ws h1 h2), fun r1 r2 => r1.append r2⟩
theorem kbFunR (F : Fun K x qual st f fd) {n : Nat} {ks : List Str}
    (h : ∀ (kV doc pm : Value) (an : Option Addr) (cdv ct : Value) (us ws : List Value), us.length = n → ws.length = ks.length → bindArgs (PySem.W.fnOf x qual (defArgs st) (defBody st) (defScope st) .none kV doc pm an cdv ct) ⟨us, ks.zip ws⟩ = pure (ps.zip (us ++ ws.reverse))) :
    KBn K fd ps n ks (fun us ws => us ++ ws.reverse) (fun us ws => us ++ ws.reverse) := by
  obtain ⟨oc, od, kV, doc, pm, an, cdv, ct, osl, rfl, lk, hcd⟩ := F.ex
  exact ⟨fun s us ws X h1 h2 => .of_eq (h kV doc pm an cdv ct us ws h1 h2), fun r1 r2 => r1.append r2.reverse⟩
end
section
variable {K : PySem.W.Frag} {a p : Addr} {ps : List Addr} {rs : List (List Int)} {r ns : List Int} {H H' Hd Hn H1 H2 : Hp} {σ : L2.St} {ta tb te tl : TE} {tlo thi : TO} {tr tk : TA} {D : Ends} {tz : TS} {d : PyData} {ds es : List PyData} {i j : Nat} {lo hi : Int}
theorem ed_callR {R : List PyData → PyData → Prop} {E : XK} {n k : Nat} (h : EvDA K tr σ Hd ds) (hk : EvDA K tk σ Hd es) (h1 : ds.length = n) (h2 : es.length = k) (hr : R (ds ++ es.reverse) d) : EvD K (tCallN n k (spF K R) (fun us ws => us ++ ws.reverse) E tr tk) σ Hd d := fun H s Q q =>
  h H s _ fun vs H2 Hn g hd => (hk.mono g.dx) H2 g.sub _ fun ws H3 Hm g3 hd3 => ⟨by rw [dpa_len hd]; exact h1, by rw [dpa_len hd3]; exact h2, Hm, ds ++ es.reverse, d, g3.sub, dpa_app (dpa_mono g3.dx _ hd) (dpa_rev hd3), hr, fun v H4 Ho g4 h4 => q v H4 Ho ((g.trans g3).trans g4) h4⟩
theorem en_listT (h : EvD K te σ Hd (.tuple ds)) : EvN K (tCB (rListS K) (tCons te tNil)) σ Hd ds := fun H s Q q =>
  h H s _ fun v H2 Hn g hd => by
    cases hd with
    | @tup a xs ds hs hall => exact ⟨a, xs, rfl, Or.inr (ex_t g.sub hs), fun r hr => q r _ _ Hn (g.trans (Gr.alloc g.sub hr)) (fresh_back g.ex hr) (fresh_back g.sub hr) upd_same hall⟩
/-- a list of lists of ints, each its own -/
structure LL (H : Hp) (a : Addr) (ps : List Addr) (rs : List (List Int)) : Prop where
  top : H a = some (.lst (ps.map .ref))
  len : ps.length = rs.length
  nd : ps.Nodup
  out : a ∉ ps
  row : ∀ (i : Nat) (p : Addr) (r : List Int), ps[i]? = some p → rs[i]? = some r → H p = some (.lst (r.map .int))
theorem LL.ext (h : LL H a ps rs) (e : Ex H H2) : LL H2 a ps rs := ⟨e _ _ h.top, h.len, h.nd, h.out, fun i p r h1 h2 => e _ _ (h.row i p r h1 h2)⟩
theorem LL.oth {q : Addr} {o : HO} (h : LL H a ps rs) (n : q ≠ a) (m : q ∉ ps) : LL (upd H q o) a ps rs := ⟨by rw [upd_ne n.symm]; exact h.top, h.len, h.nd, h.out, fun i p r h1 h2 => by
  rw [upd_ne (show p ≠ q from fun e => m (by rw [← e]; exact List.mem_of_getElem? h1))]
  exact h.row i p r h1 h2⟩
theorem LL.put (h : LL H a ps rs) (hp : ps[i]? = some p) (r' : List Int) : LL (upd H p (.lst (r'.map .int))) a ps (rs.set i r') := by
  have hm := List.mem_of_getElem? hp
  refine ⟨by rw [upd_ne (show a ≠ p from fun e => h.out (by rw [e]; exact hm))]; exact h.top, by rw [List.length_set]; exact h.len, h.nd, h.out, fun k q r h1 h2 => ?_⟩
  by_cases e : k = i
  · subst e
    rw [h1] at hp
    cases hp
    have hk : k < rs.length := by
      have := List.getElem?_eq_some_iff.mp h1
      rw [← h.len]
      exact this.1
    rw [List.getElem?_set_self hk] at h2
    cases h2
    exact upd_same
  · rw [List.getElem?_set_ne (fun e2 => e e2.symm)] at h2
    have hne : q ≠ p := by
      intro e2
      subst e2
      have a1 := List.getElem?_eq_some_iff.mp h1
      have a2 := List.getElem?_eq_some_iff.mp hp
      exact e ((List.getElem_inj h.nd).mp (a1.2.trans a2.2.symm))
    rw [upd_ne hne]
    exact h.row k q r h1 h2
theorem ll_data : ∀ {ps : List Addr} {rs : List (List Int)}, ps.length = rs.length → (∀ (i : Nat) (p : Addr) (r : List Int), ps[i]? = some p → rs[i]? = some r → H p = some (.lst (r.map .int))) → DpAll K H (ps.map .ref) (rs.map fun r => .list (r.map .int))
  | [], [], _, _ => .nil
  | [], _ :: _, h, _ => by cases h
  | _ :: _, [], h, _ => by cases h
  | p :: ps, r :: rs, h, k => .cons (.lst (sq_of (k 0 p r rfl rfl)) (dpa_ints r)) (ll_data (by simpa using h) fun i p r h1 h2 => k (i + 1) p r h1 h2)
theorem LL.data (h : LL H a ps rs) (s : Ex Hd H) (na : Hd a = none) (np : ∀ p ∈ ps, Hd p = none) : ∃ Hn, Ex Hd Hn ∧ Ex Hn H ∧ Dp K Hn (.ref a) (.list (rs.map fun r => .list (r.map .int))) ∧ ∀ q, q ≠ a → q ∉ ps → Hn q = Hd q := by
  refine ⟨fun x => if x = a ∨ x ∈ ps then H x else Hd x, fun x o hx => ?_, fun x o hx => ?_, .lst (xs := ps.map .ref) (sq_of ?_) (ll_data h.len fun i p r h1 h2 => ?_), fun q n m => if_neg (fun h => h.elim n m)⟩
  · show (if x = a ∨ x ∈ ps then H x else Hd x) = some o
    split
    · exact s x o hx
    · exact hx
  · have hx' : (if x = a ∨ x ∈ ps then H x else Hd x) = some o := hx
    split at hx'
    · exact hx'
    · exact s x o hx'
  · show (if a = a ∨ a ∈ ps then H a else Hd a) = _
    rw [if_pos (.inl rfl)]
    exact h.top
  · show (if p = a ∨ p ∈ ps then H p else Hd p) = _
    rw [if_pos (.inr (List.mem_of_getElem? h1))]
    exact h.row i p r h1 h2
def EvLL (te : TE) (σ : L2.St) (Hd : Hp) (rs : List (List Int)) : Prop := ∀ H, Ex Hd H → ∀ Q : VK, (∀ a ps H2, Ex H H2 → H a = none → (∀ p ∈ ps, H p = none) → LL H2 a ps rs → Q (.ref a) H2) → te σ H Q
theorem go_asgLL (s : Ex Hd H) (h : EvLL te σ Hd rs) (k : ∀ a ps H', Ex H H' → H a = none → (∀ p ∈ ps, H p = none) → LL H' a ps rs → Go tz D (σ.set i (some (.ref a))) H') : Go (tSeq (tAsg te (gName i)) tz) D σ H := fun H1 e1 =>
  h H1 (s.trans e1) _ fun a ps H2 e2 n m l => k a ps H2 (e1.trans e2) (fresh_back e1 n) (fun p hp => fresh_back e1 (m p hp)) l _ (Ex.refl _)
theorem ll_lc {vs : List Nat} (h : EvD K tl σ Hd (.tuple (rs.map fun r => .tuple (r.map .int)))) (hn : rs.length ≤ 1000) (hw : ∀ u, wipe ((wipe σ vs).set j (some u)) vs = wipe σ vs) (hj : ∀ u, ((wipe σ vs).set j (some u))[j]? = some (some u)) :
    EvLL (tLc (iTup K tl) (gName j) tYes (tCB (rListS K) (tCons (tVar j) tNil)) vs) σ Hd rs := fun H s Q q =>
  (ei_tup (j := j) h) H s _ fun J H1 Hn G Y gr w hG hY Dl hD => by
    rw [List.length_map] at w hY
    refine lc_it w (fun i H' => i ≤ rs.length ∧ ∃ ps, Ex H1 H' ∧ (∀ p ∈ ps, H1 p = none) ∧ LL H' Dl ps (rs.take i)) ⟨Nat.zero_le _, [], Ex.new hD, (fun _ h => by cases h), ⟨upd_same, rfl, List.nodup_nil, (fun h => by cases h), fun i p r h1 _ => by simp at h1⟩⟩ (fun i H' _ p => ?_) (fun i x H' H'' hi p y => ?_) (fun H' p => ?_)
    · obtain ⟨_, ps, e, _⟩ := p
      exact hG H' (gr.sub.trans e)
    · obtain ⟨_, ps, e, hf, L⟩ := p
      refine hY i x H' H'' _ _ hi (gr.sub.trans e) y fun σ2 H3 e3 hS => ?_
      obtain ⟨u, d, h3, h4, rfl⟩ := hS
      refine ⟨hw u, et_yes (H := Hn) H3 ((gr.sub.trans e).trans e3) _ fun H4 e4 => ?_⟩
      show (tCB (rListS K) (tCons (tVar j) tNil)) _ H4 _
      rw [List.getElem?_map, List.getElem?_eq_getElem hi] at h3
      cases h3
      refine (ed_var (hj u) h4) H4 (((gr.sub.trans e).trans e3).trans e4) _ fun v H5 Hm g5 hd5 => ?_
      cases hd5 with
      | @tup b xs ds hs hall =>
        have ex := dpa_ints_inv hall
        subst ex
        refine ⟨b, _, rfl, Or.inr (ex_t g5.sub hs), fun l hl => ?_⟩
        have L5 : LL H5 Dl ps (rs.take i) := L.ext ((e3.trans e4).trans g5.ex)
        have e15 : Ex H1 H5 := (e.trans (e3.trans e4)).trans g5.ex
        have nl : l ≠ Dl := (ne_of_none L5.top hl).symm
        have nps : l ∉ ps := by
          intro hm
          obtain ⟨k, hk, ek⟩ := List.getElem_of_mem hm
          have := L5.row k l ((rs.take i)[k]'(by rw [← L5.len]; exact hk)) (List.getElem?_eq_some_iff.mpr ⟨hk, ek⟩) (List.getElem?_eq_getElem _)
          rw [hl] at this
          cases this
        have lps : ps.length = i := by
          have := L5.len
          rw [List.length_take] at this
          omega
        have L6 := L5.oth (o := .lst ((rs[i]).map .int)) nl nps
        refine ⟨ps.map .ref, L6.top, sz_lt (by rw [List.length_map]; omega), hi, ps ++ [l], ?_, ?_, ?_⟩
        · exact Ex.mut (e15.trans (Ex.new hl)) hD
        · intro p hp
          rcases List.mem_append.mp hp with hp | hp
          · exact hf p hp
          · rcases List.mem_cons.mp hp with rfl | hp
            · exact fresh_back e15 hl
            · cases hp
        · have et : rs.take (i + 1) = rs.take i ++ [rs[i]] := by rw [List.take_append_getElem]
          have ei : (rs.take i).length = i := by rw [List.length_take]; omega
          refine ⟨?_, ?_, ?_, ?_, ?_⟩
          · rw [upd_same, List.map_append]
            rfl
          · rw [et, List.length_append, List.length_append, lps, ei]
            rfl
          · rw [List.nodup_append]
            refine ⟨L6.nd, by simp, fun x hx y hy e => ?_⟩
            rcases List.mem_cons.mp hy with rfl | hy
            · subst e; exact nps hx
            · cases hy
          · intro hm
            rcases List.mem_append.mp hm with hm | hm
            · exact L6.out hm
            · rcases List.mem_cons.mp hm with e | hm
              · exact nl e.symm
              · cases hm
          · intro k p r h1 h2
            rw [et] at h2
            by_cases hk : k < i
            · rw [List.getElem?_append_left (by omega)] at h1 h2
              rw [upd_ne (show p ≠ Dl from fun e => L6.out (by rw [← e]; exact List.mem_of_getElem? h1))]
              exact L6.row k p r h1 h2
            · have hk2 : k = i := by
                have := (List.getElem?_eq_some_iff.mp h1).1
                rw [List.length_append, lps, List.length_singleton] at this
                omega
              subst hk2
              rw [List.getElem?_append_right (by omega), lps, Nat.sub_self] at h1
              rw [List.getElem?_append_right (by omega), ei, Nat.sub_self] at h2
              cases h1
              cases h2
              rw [upd_ne nl, upd_same]
    · obtain ⟨_, ps, e, hf, L⟩ := p
      rw [List.take_length] at L
      exact q Dl ps H' (gr.ex.trans e) (fresh_back gr.ex hD) (fun p hp => fresh_back gr.ex (hf p hp)) L
theorem go_slc (s : Ex Hd H) (L : LL H a ps rs) (np : ∀ p ∈ ps, Hd p = none) (h : EvN K te σ Hd (ns.map .int)) (ha : Ev ta σ H (.ref p)) (hp : ps[i]? = some p) (hr : rs[i]? = some r) (h1 : EvO tlo σ H (some lo)) (h2 : EvO thi σ H (some hi)) (b0 : 0 ≤ lo) (b1 : lo ≤ hi) (b2 : hi ≤ (r.length : Int)) (hz : r.length + ns.length ≤ 100000)
    (k : ∀ H', Ex Hd H' → LL H' a ps (rs.set i (r.take lo.toNat ++ ns ++ r.drop hi.toNat)) → Go tz D σ H') : Go (tSeq (tAsg te (gSlc ta tlo thi)) tz) D σ H := fun H1 e1 =>
  h H1 (s.trans e1) _ fun b xs H2 Hn g n1 n2 hb hx => by
    have ex := dpa_ints_inv hx
    subst ex
    have hpr := L.row i p r hp hr
    have pm := List.mem_of_getElem? hp
    refine ha H2 (e1.trans g.ex) _ fun H3 e3 => h1 H3 ((e1.trans g.ex).trans e3) _ fun H4 e4 => h2 H4 (((e1.trans g.ex).trans e3).trans e4) _ fun H5 e5 => ?_
    have E5 : Ex H H5 := (((e1.trans g.ex).trans e3).trans e4).trans e5
    refine ⟨p, b, r.map .int, ns.map .int, lo, hi, rfl, rfl, rfl, rfl, E5 _ _ hpr, ((e3.trans e4).trans e5) _ _ hb, ne_of_none (e1 _ _ hpr) n1, b0, b1, by rw [List.length_map]; exact b2, sz_of (by rw [List.length_map, List.length_map]; exact hz), ?_⟩
    have e : (r.map V.int).take lo.toNat ++ ns.map V.int ++ (r.map V.int).drop hi.toNat = (r.take lo.toNat ++ ns ++ r.drop hi.toNat).map V.int := by
      rw [List.map_append, List.map_append, List.map_take, List.map_drop]
    rw [e]
    exact k _ (Ex.mut (s.trans E5) (np p pm)) ((L.ext E5).put hp _) _ (Ex.refl _)
theorem go_setLL {v : Int} (s : Ex Hd H) (L : LL H a ps rs) (np : ∀ p ∈ ps, Hd p = none) (h : Ev te σ H (.int v)) (ha : Ev ta σ H (.ref p)) (hp : ps[i]? = some p) (hr : rs[i]? = some r) (hj : Ev tb σ H (.int (j : Int))) (hl : j < r.length)
    (k : ∀ H', Ex Hd H' → LL H' a ps (rs.set i (r.set j v)) → Go tz D σ H') : Go (tSeq (tAsg te (gSub ta tb rSetL)) tz) D σ H := by
  refine go_setL (j := j) (L.row i p r hp hr) h ha hj (by rw [List.length_map]; exact hl) ?_
  have e : (r.map V.int).set j (.int v) = (r.set j v).map V.int := by rw [List.map_set]
  rw [e]
  exact k _ (Ex.mut s (np p (List.mem_of_getElem? hp))) (L.put hp _)
end
end Cot

set_option Elab.async false
set_option linter.all false
set_option maxRecDepth 100000
set_option maxHeartbeats 4000000
/-! Sets of tuples of ints, of any number up to two hundred: the tables of 8, 32, 128 and 512 slots. -/
namespace Cot
open PySem PySem.Spec PyProof.Rows L2 Evl
/-- when the round of 512 slots comes to each of them -/
def turn512 : List Nat := [
  0, 1, 326, 495, 412, 365, 2, 379, 376, 281, 254, 327, 404, 261, 58, 339, 496, 305, 438, 415, 140, 413, 370, 43, 360, 73, 366, 247, 132, 309, 426, 3,
  480, 97, 38, 335, 380, 461, 226, 219, 344, 377, 478, 167, 372, 357, 282, 179, 464, 401, 150, 255, 108, 509, 82, 395, 328, 169, 78, 87, 100, 405, 138, 355,
  448, 193, 262, 175, 348, 45, 450, 59, 312, 473, 190, 7, 340, 453, 506, 19, 432, 497, 374, 95, 76, 93, 306, 235, 296, 265, 302, 439, 68, 501, 362, 195,
  416, 289, 486, 15, 316, 141, 162, 411, 280, 57, 414, 359, 308, 37, 218, 371, 400, 81, 86, 447, 44, 189, 18, 75, 264, 361, 14, 279, 36, 85, 74, 35,
  384, 385, 198, 367, 284, 237, 386, 251, 248, 153, 126, 199, 276, 133, 442, 211, 368, 177, 310, 287, 12, 285, 242, 427, 232, 457, 238, 119, 4, 181, 298, 387,
  352, 481, 422, 207, 252, 333, 98, 91, 216, 249, 350, 39, 244, 229, 154, 51, 336, 273, 22, 127, 492, 381, 466, 267, 200, 41, 462, 471, 484, 277, 10, 227,
  320, 65, 134, 47, 220, 429, 322, 443, 184, 345, 62, 391, 212, 325, 378, 403, 304, 369, 246, 479, 460, 477, 178, 107, 168, 137, 174, 311, 452, 373, 234, 67,
  288, 161, 358, 399, 188, 13, 34, 283, 152, 441, 286, 231, 180, 421, 90, 243, 272, 465, 470, 319, 428, 61, 402, 459, 136, 233, 398, 151, 420, 469, 458, 419,
  256, 257, 70, 239, 156, 109, 258, 123, 120, 25, 510, 71, 148, 5, 314, 83, 240, 49, 182, 159, 396, 157, 114, 299, 104, 329, 110, 503, 388, 53, 170, 259,
  224, 353, 294, 79, 124, 205, 482, 475, 88, 121, 222, 423, 116, 101, 26, 435, 208, 145, 406, 511, 364, 253, 338, 139, 72, 425, 334, 343, 356, 149, 394, 99,
  192, 449, 6, 431, 92, 301, 194, 315, 56, 217, 446, 263, 84, 197, 250, 275, 176, 241, 118, 351, 332, 349, 50, 491, 40, 9, 46, 183, 324, 245, 106, 451,
  160, 33, 230, 271, 60, 397, 418, 155, 24, 313, 158, 103, 52, 293, 474, 115, 144, 337, 342, 191, 300, 445, 274, 331, 8, 105, 270, 23, 292, 341, 330, 291,
  128, 129, 454, 111, 28, 493, 130, 507, 504, 409, 382, 455, 20, 389, 186, 467, 112, 433, 54, 31, 268, 29, 498, 171, 488, 201, 494, 375, 260, 437, 42, 131,
  96, 225, 166, 463, 508, 77, 354, 347, 472, 505, 94, 295, 500, 485, 410, 307, 80, 17, 278, 383, 236, 125, 210, 11, 456, 297, 206, 215, 228, 21, 266, 483,
  64, 321, 390, 303, 476, 173, 66, 187, 440, 89, 318, 135, 468, 69, 122, 147, 48, 113, 502, 223, 204, 221, 434, 363, 424, 393, 430, 55, 196, 117, 490, 323,
  32, 417, 102, 143, 444, 269, 290, 27, 408, 185, 30, 487, 436, 165, 346, 499, 16, 209, 214, 63, 172, 317, 146, 203, 392, 489, 142, 407, 164, 213, 202, 163]
theorem turn512_ok : ((List.range 512).all fun j => lcgN 511 (turn512.getD j 0) == j) = true := by decide +kernel
theorem turn512_lt : ((List.range 512).all fun j => decide (turn512.getD j 0 < 512)) = true := by decide +kernel
theorem round512 : lcgN 511 512 = 0 := by decide +kernel
theorem round512_on : ∀ k, lcgN 511 (512 + k) = lcgN 511 k
  | 0 => round512
  | k + 1 => congrArg (fun z => (z * 5 + 1) % 512) (round512_on k)
theorem all512 {i j : Nat} (hi : i < 512) (hj : j < 512) : ∃ k, k < 512 ∧ lcgI 511 i k = j := by
  have pick : ∀ x, x < 512 → ∃ b, b < 512 ∧ lcgN 511 b = x := fun x hx =>
    ⟨turn512.getD x 0, of_decide_eq_true (List.all_eq_true.mp turn512_lt x (List.mem_range.mpr hx)), beq_iff_eq.mp (List.all_eq_true.mp turn512_ok x (List.mem_range.mpr hx))⟩
  obtain ⟨p, hp, rfl⟩ := pick i hi
  obtain ⟨q, hq, rfl⟩ := pick j hj
  by_cases h : p ≤ q
  · exact ⟨q - p, by omega, by rw [lcgN_add, show p + (q - p) = q by omega]⟩
  · exact ⟨q + 512 - p, by omega, by rw [lcgN_add, show p + (q + 512 - p) = 512 + q by omega, round512_on]⟩
/-- a mask whose runs come to every slot -/
structure Cov (m : Nat) : Prop where
  run : ∀ (h : Int) (j : Nat), j ≤ m → ∃ n, n < SetTable.turns m ∧ runI m (SetTable.bits h) n = j
  odd : m % 2 = 1
  low : m ≤ 511
theorem cov_old {m : Nat} (hm : MaskOk m) : Cov m := by
  refine ⟨fun h j hj => ?_, mask_odd hm, ?_⟩
  · obtain ⟨n, hn, e⟩ := run_meets hm h hj
    exact ⟨n, by unfold SetTable.turns; omega, e⟩
  · rcases hm with e | e | e <;> omega
theorem cov_511 : Cov 511 := by
  refine ⟨fun h j hj => ?_, rfl, Nat.le_refl _⟩
  have h12 := runI_le 511 (SetTable.bits h) 12
  obtain ⟨k, hk, e⟩ := all512 (show runI 511 (SetTable.bits h) 12 < 512 by omega) (show j < 512 by omega)
  exact ⟨12 + k, by unfold SetTable.turns; omega, by rw [runI_tail (bits_lt h)]; exact e⟩
theorem Cov.way {m : Nat} (c : Cov m) (h : Int) {j : Nat} (hj : j ≤ m) : ∃ k, k < 10 * SetTable.turns m ∧ L2.way m h k = j := by
  obtain ⟨n, hn, e⟩ := c.run h j hj
  obtain ⟨k, hk, e2⟩ := run_nth m (SetTable.bits h) n
  refine ⟨k, by omega, ?_⟩
  unfold L2.way
  rw [e2]
  exact e
theorem way_in (m : Nat) (h : Int) (k : Nat) : L2.way m h k ≤ m := by
  have h0 : SetTable.bits h % (m + 1) < m + 1 := Nat.mod_lt _ (Nat.succ_pos m)
  have h1 := runEnd_bd (m := m) (i := SetTable.bits h % (m + 1)) (by omega)
  have h2 : (nth m (runAt m (SetTable.bits h % (m + 1)) (SetTable.bits h)) k).j + (nth m (runAt m (SetTable.bits h % (m + 1)) (SetTable.bits h)) k).more ≤ m := nth_in k _ (by unfold runAt; dsimp only; omega)
  unfold L2.way
  omega
/-- a table in which each hash is found again -/
structure Tb (t : SetTable) (hs : List Int) : Prop where
  cov : Cov t.mask
  up : Ris t.place.toList
  dum : t.dummies = #[]
  len : t.place.size = hs.length
  low : ∀ x ∈ t.place.toList, x ≤ t.mask
  met : ∀ (i : Nat) (h : Int) (j : Nat), hs[i]? = some h → t.place.toList[i]? = some j → ∃ k, L2.way t.mask h k = j ∧ ∀ n, n < k → L2.way t.mask h n ∈ t.place.toList
variable {t : SetTable} {hs : List Int}
/-- the first free slot for a hash -/
def Free (t : SetTable) (h : Int) (n : Nat) : Prop := L2.way t.mask h n ∉ t.place.toList ∧ ∀ k, k < n → L2.way t.mask h k ∈ t.place.toList
theorem Tb.free (T : Tb t hs) (hl : hs.length ≤ t.mask) (h : Int) : ∃ n, n < 10 * SetTable.turns t.mask ∧ Free t h n := by
  obtain ⟨j, hj, hno⟩ := st_missing t.place.toList (t.mask + 1) (by rw [Array.length_toList, T.len]; omega)
  obtain ⟨k, hk, e⟩ := T.cov.way h (j := j) (by omega)
  obtain ⟨n, n1, n2, n3⟩ := st_least (p := fun k => L2.way t.mask h k ∉ t.place.toList) k (by rw [e]; exact hno)
  exact ⟨n, by omega, n2, fun k' hk' => Classical.byContradiction fun z => n3 k' hk' z⟩
theorem Tb.ahead (T : Tb t hs) {h : Int} {n i j : Nat} (f : Free t h n) (hi : hs[i]? = some h) (hj : t.place.toList[i]? = some j) : ∃ k, k < n ∧ L2.way t.mask h k = j := by
  obtain ⟨k, e, z⟩ := T.met i h j hi hj
  refine ⟨k, Classical.byContradiction fun hge => ?_, e⟩
  by_cases hk : k = n
  · exact f.1 (by rw [← hk, e]; exact List.mem_of_getElem? hj)
  · exact f.1 (z n (by omega))
/-- one more is put in at the first free slot -/
theorem Tb.more (T : Tb t hs) {h : Int} {n : Nat} (f : Free t h n) :
    ∃ p, t.put (L2.way t.mask h n) = ((t.put (L2.way t.mask h n)).1, p) ∧ p ≤ hs.length ∧ Tb (t.put (L2.way t.mask h n)).1 (hs.take p ++ h :: hs.drop p) ∧ (t.put (L2.way t.mask h n)).1.mask = t.mask ∧
      (t.put (L2.way t.mask h n)).1.led = t.led ∧ (t.put (L2.way t.mask h n)).1.plain = t.plain ∧ (t.put (L2.way t.mask h n)).1.fill = hs.length + 1 := by
  have hle := way_in t.mask h n
  generalize ej : L2.way t.mask h n = j at f hle
  obtain ⟨f1, f2⟩ := f
  rw [ej] at f1
  have cut := (below_cut T.up j).1
  have lp : t.place.toList.length = hs.length := by rw [Array.length_toList]; exact T.len
  have c1 : SetTable.below t.place j ≤ t.place.toList.length := by rw [Array.length_toList]; exact cut
  have c2 : SetTable.below t.place j ≤ hs.length := by omega
  have pl := put_place t j
  have sz : (t.put j).1.place.size = hs.length + 1 := by rw [← Array.length_toList, pl, len_ins _ c1, lp]
  have keep : ∀ x, x ∈ t.place.toList → x ∈ (t.put j).1.place.toList := fun x hx => by rw [pl]; exact mem_ins.mpr (.inr hx)
  refine ⟨SetTable.below t.place j, rfl, c2, ⟨T.cov, ?_, put_dm T.dum j, ?_, ?_, ?_⟩, rfl, rfl, rfl, ?_⟩
  · exact ris_insert T.up fun e => f1 (List.mem_of_getElem? (i := SetTable.below t.place j) (by rw [Array.getElem?_toList]; exact e))
  · rw [sz, len_ins _ c2]
  · intro x hx
    rw [pl, mem_ins] at hx
    exact hx.elim (fun e => by rw [e]; exact hle) (T.low x)
  · intro i h' j' e1 e2
    rw [pl, tins_get _ c1] at e2
    rw [tins_get hs c2] at e1
    have old : ∀ i', hs[i']? = some h' → t.place.toList[i']? = some j' → ∃ k, L2.way t.mask h' k = j' ∧ ∀ n, n < k → L2.way t.mask h' n ∈ (t.put j).1.place.toList := fun i' a b => by
      obtain ⟨k, z1, z2⟩ := T.met i' h' j' a b
      exact ⟨k, z1, fun n hn => keep _ (z2 n hn)⟩
    rcases Nat.lt_trichotomy i (SetTable.below t.place j) with c | c | c
    · rw [if_pos c] at e1 e2
      exact old i e1 e2
    · rw [if_neg (by omega), if_pos c] at e1 e2
      cases e1
      cases e2
      exact ⟨n, ej, fun k hk => keep _ (f2 k hk)⟩
    · rw [if_neg (by omega), if_neg (by omega)] at e1 e2
      exact old (i - 1) e1 e2
  · unfold SetTable.fill
    rw [sz, put_dm T.dum j]
    rfl
/-! ### all laid anew -/
theorem lay_free {m : Nat} (c : Cov m) (own : Array (Option Nat)) (h : Int) {j : Nat} (hj : j ≤ m) (hf : oAt own j = none) :
    ∃ n, SetTable.layClean.free m own (SetTable.turns m) (SetTable.bits h % (m + 1)) (SetTable.bits h) = some (L2.way m h n) ∧ oAt own (L2.way m h n) = none ∧ ∀ k, k < n → oAt own (L2.way m h k) ≠ none := by
  obtain ⟨r, hr, e⟩ := c.run h j hj
  have at_j : L2.way m h (off m (SetTable.bits h % (m + 1)) (SetTable.bits h) r) = j := by
    unfold L2.way
    rw [nth_off, itL_run]
    exact e
  obtain ⟨n, n1, n2, n3⟩ := st_least (p := fun k => oAt own (L2.way m h k) = none) _ (show oAt own (L2.way m h (off m (SetTable.bits h % (m + 1)) (SetTable.bits h) r)) = none by rw [at_j]; exact hf)
  refine ⟨n, free_spec m own _ r _ _ n hr n1 (fun k hk => ?_) ?_, n2, n3⟩
  · have z := n3 k hk
    unfold L2.way at z
    cases e2 : oAt own (nth m (runAt m (SetTable.bits h % (m + 1)) (SetTable.bits h)) k).j with
    | none => exact absurd e2 z
    | some _ => rfl
  · unfold L2.way at n2
    rw [n2]
    rfl
theorem lay_step {m : Nat} (c : Cov m) {done : List Int} {own : Array (Option Nat)} (W : Own m done own) (hl : done.length ≤ m) (h : Int) :
    ∃ j, SetTable.layClean.free m own (SetTable.turns m) (SetTable.bits h % (m + 1)) (SetTable.bits h) = some j ∧ Own m (done ++ [h]) (own.setIfInBounds j (some done.length)) := by
  obtain ⟨ps, lps, inps⟩ := W.ps
  obtain ⟨z, hz, nz⟩ := st_missing ps (m + 1) (by omega)
  have fz : oAt own z = none := Classical.byContradiction fun e => nz (inps z (by omega) e)
  obtain ⟨n, n1, n2, n3⟩ := lay_free c own h (j := z) (by omega) fz
  have jm := way_in m h n
  generalize ej : L2.way m h n = j at n1 n2 jm
  have here : oAt (own.setIfInBounds j (some done.length)) j = some done.length := oAt_set_self _ (by rw [W.sz]; omega)
  have away : ∀ i, i ≠ j → oAt (own.setIfInBounds j (some done.length)) i = oAt own i := fun i hi => oAt_set_ne _ hi
  have full : ∀ i, oAt own i ≠ none → oAt (own.setIfInBounds j (some done.length)) i ≠ none := fun i hi => by
    by_cases e : i = j
    · rw [e, here]; exact fun z => nomatch z
    · rw [away i e]; exact hi
  refine ⟨j, n1, ⟨by rw [Array.size_setIfInBounds]; exact W.sz, ?_, ?_, j :: ps, by rw [List.length_cons, lps, List.length_append]; rfl, ?_⟩⟩
  · intro i k hi e
    by_cases ei : i = j
    · rw [ei, here] at e
      cases e
      exact ⟨h, n, by rw [List.getElem?_append_right (Nat.le_refl _), Nat.sub_self]; rfl, by rw [ei]; exact ej, fun k hk => full _ (n3 k hk)⟩
    · rw [away i ei] at e
      obtain ⟨h', n', a1, a2, a3⟩ := W.at_ i k hi e
      exact ⟨h', n', by rw [List.getElem?_append_left (List.getElem?_eq_some_iff.mp a1).1]; exact a1, a2, fun k hk => full _ (a3 k hk)⟩
  · intro k hk
    rw [List.length_append, List.length_cons, List.length_nil] at hk
    by_cases ek : k = done.length
    · exact ⟨j, jm, by rw [ek]; exact here⟩
    · obtain ⟨i, hi, e⟩ := W.all k (by omega)
      exact ⟨i, hi, by rw [away i (fun z => by rw [z, n2] at e; cases e)]; exact e⟩
  · intro i hi e
    by_cases ei : i = j
    · rw [ei]; exact List.mem_cons_self
    · rw [away i ei] at e
      exact List.mem_cons_of_mem _ (inps i hi e)
theorem lay_fold {m : Nat} (c : Cov m) : ∀ (todo done : List Int) (own : Array (Option Nat)), Own m done own → done.length + todo.length ≤ m → ∃ own', todo.foldl (stepF m) (some (own, done.length)) = some (own', done.length + todo.length) ∧ Own m (done ++ todo) own'
  | [], done, own, W, _ => ⟨own, rfl, by rw [List.append_nil]; exact W⟩
  | h :: todo, done, own, W, hl => by
    rw [List.length_cons] at hl
    obtain ⟨j, e, W1⟩ := lay_step c W (by omega) h
    have l1 : (done ++ [h]).length = done.length + 1 := by rw [List.length_append]; rfl
    obtain ⟨own', e2, W2⟩ := lay_fold c todo (done ++ [h]) _ W1 (by omega)
    refine ⟨own', ?_, by rw [← List.singleton_append, ← List.append_assoc]; exact W2⟩
    rw [List.foldl_cons, stepF_some e, ← l1, e2, List.length_cons, l1]
    congr 2
    omega
theorem lay_all {m : Nat} (c : Cov m) {hs : Array Int} (hn : hs.size ≤ m) : ∃ own, SetTable.layClean m hs = some own ∧ Own m hs.toList own := by
  obtain ⟨own, e, W⟩ := lay_fold c hs.toList [] _ (Own.init m) (by rw [List.length_nil, Array.length_toList]; omega)
  refine ⟨own, ?_, W⟩
  rw [layClean_eq]
  have e' : hs.toList.foldl (stepF m) (some (Array.replicate (m + 1) none, 0)) = _ := e
  rw [e']
  rfl
end Cot

set_option Elab.async false
set_option linter.all false
set_option maxRecDepth 100000
set_option maxHeartbeats 4000000
/-! Sets of tuples of ints: laid anew, searched, added to. -/
namespace Cot
open PySem PySem.Spec PyProof.Rows L2 Evl
theorem relaid_tb (t : SetTable) {hs : Array Int} {wanted M : Nat} (hw : SetTable.sizeAbove wanted - 1 = M) (c : Cov M) (hn : hs.size ≤ M) :
    ∃ t' order, t.relaid hs wanted = some (t', order) ∧ order.toList.Perm (List.range hs.size) ∧ Tb t' (order.toList.map fun i => hs.getD i 0) ∧ t'.mask = M ∧ t'.led = t.led ∧ t'.plain = t.plain := by
  obtain ⟨own, e, W⟩ := lay_all c hn
  have is : ∀ j k, (j, k) ∈ liveOf M own ↔ j ≤ M ∧ oAt own j = some k := fun j k => mem_live W.sz
  have hr : t.relaid hs wanted = some (tabOf t M own, ((liveOf M own).map (·.2)).toArray) := by
    rw [relaid_eq, hw, e]
    rfl
  obtain ⟨rise, within⟩ := ris_live (fun j => own.getD j none) (List.range (M + 1)) (by unfold Ris; exact List.pairwise_lt_range)
  have rise' : Ris ((liveOf M own).map (·.1)) := rise
  have every : ∀ k, k < hs.size → k ∈ (liveOf M own).map (·.2) := fun k hk => by
    obtain ⟨j, j1, j2⟩ := W.all k (by rw [Array.length_toList]; exact hk)
    exact List.mem_map.mpr ⟨(j, k), (is j k).mpr ⟨j1, j2⟩, rfl⟩
  have many : (liveOf M own).length = hs.size := by
    obtain ⟨ps, p1, p2⟩ := W.ps
    have ndl : ((liveOf M own).map (·.1)).Nodup := List.Pairwise.imp (fun h => Nat.ne_of_lt h) rise'
    have le1 := nat_nodup_len ((liveOf M own).map (·.1)) ps ndl (by
      intro x hx
      obtain ⟨⟨y, k⟩, h1, rfl⟩ := List.mem_map.mp hx
      obtain ⟨b1, b2⟩ := (is y k).mp h1
      exact p2 y b1 (by rw [b2]; exact fun z => nomatch z))
    have le2 := nat_nodup_len (List.range hs.size) ((liveOf M own).map (·.2)) List.nodup_range fun k hk => every k (List.mem_range.mp hk)
    rw [List.length_map, p1] at le1
    have lz : hs.toList.length = hs.size := Array.length_toList
    rw [List.length_map, List.length_range] at le2
    omega
  refine ⟨_, _, hr, perm_range hs.size _ (by rw [List.length_map]; exact many) every, ⟨c, rise', rfl, ?_, ?_, ?_⟩, rfl, rfl, rfl⟩
  · show ((liveOf M own).map (·.1)).toArray.size = _
    rw [List.size_toArray, List.length_map, List.length_map]
    exact (List.length_map ..).symm
  · intro x hx
    have hx' : x ∈ (liveOf M own).map (·.1) := hx
    have := List.mem_range.mp (within x hx')
    show x ≤ M
    omega
  · intro i h j h1 h2
    replace h1 : (((liveOf M own).map (·.2)).map fun i => hs.getD i 0)[i]? = some h := h1
    replace h2 : ((liveOf M own).map (·.1))[i]? = some j := h2
    show ∃ k, L2.way M h k = j ∧ ∀ n, n < k → L2.way M h n ∈ (liveOf M own).map (·.1)
    rw [List.getElem?_map] at h1 h2
    rw [List.getElem?_map] at h1
    obtain ⟨⟨y, k⟩, hq, rfl⟩ := Option.map_eq_some_iff.mp h2
    rw [hq] at h1
    obtain ⟨b1, b2⟩ := (is y k).mp (List.mem_of_getElem? hq)
    obtain ⟨h0, n, a1, a2, a3⟩ := W.at_ y k b1 b2
    have e0 : h0 = h := by
      have e1 : hs.getD k 0 = h := Option.some.inj h1
      rw [← e1, Array.getD_eq_getD_getElem?, ← Array.getElem?_toList, a1]
      rfl
    subst e0
    refine ⟨n, a2, fun n' hn' => ?_⟩
    obtain ⟨k2, hk2⟩ := Option.ne_none_iff_exists'.mp (a3 n' hn')
    exact List.mem_map.mpr ⟨(_, k2), (is _ k2).mpr ⟨way_in M h0 n', hk2⟩, rfl⟩
/-- a set of tuples of ints, as its object tells it -/
structure Sets (P : Program) (w : World) (h : Heap) (a : Addr) (L : List (Addr × List Int)) (es : Array (Int × Value)) (ep : Nat) (t : SetTable) : Prop where
  ob : ∃ o, h.get? a = some o ∧ o.ExactSet ∧ o.data = .set es ep t
  row : es.toList = rowsOf P w L
  tb : Tb t (L.map fun p => thash P w p.2)
  nd : (L.map (·.2)).Nodup
  tp : ∀ p ∈ L, IsT P w h p.2 p.1
  pl : t.plain = true
  ld : w.params.followText "set-order" = true ∨ t.led = true
  rm : L.length * 5 < t.mask * 3
  msk : t.mask = 7 ∨ t.mask = 31 ∨ t.mask = 127 ∨ t.mask = 511
section
variable {P : Program} {w : World} {A : Around} {E : Value → Shared → Prop} {s : Shared} {a : Addr} {L : List (Addr × List Int)} {es : Array (Int × Value)} {ep : Nat} {t : SetTable}
theorem rows_size {L : List (Addr × List Int)} {es : Array (Int × Value)} (h : es.toList = rowsOf P w L) : es.size = L.length := by
  rw [← Array.length_toList, h]
  unfold rowsOf
  rw [List.length_map]
theorem fits_tb {hs : List Int} (T : Tb t hs) {n : Nat} (hn : n = hs.length) (hl : n ≤ t.mask) : t.fits n = true := by
  unfold SetTable.fits SetTable.fill
  rw [T.dum, Bool.and_eq_true, beq_iff_eq, decide_eq_true_eq, T.len]
  exact ⟨hn.symm, by show hs.length + 0 ≤ t.mask; omega⟩
theorem Sets.le (S : Sets P w s.heap a L es ep t) : L.length ≤ t.mask := by
  have := S.rm
  omega
theorem Sets.fits (S : Sets P w s.heap a L es ep t) : t.fits es.size = true :=
  fits_tb S.tb (by rw [List.length_map, rows_size S.row]) (by rw [rows_size S.row]; exact S.le)
theorem Sets.ent (S : Sets P w s.heap a L es ep t) {i : Nat} {p : Addr × List Int} (h : L[i]? = some p) : es[i]? = some (thash P w p.2, Value.ref p.1) := by
  rw [← Array.getElem?_toList, S.row]
  unfold rowsOf
  rw [List.getElem?_map, h]
  rfl
theorem nth_dummy (m : Nat) : ∀ (n : Nat) (p : SetTable.Probe), p.dummy = none → (nth m p n).dummy = none
  | 0, _, h => h
  | n + 1, p, h => nth_dummy m n (adv m p) (by unfold adv; split <;> exact h)
/-- the search, from its c-th step on -/
theorem seek_from (S : Sets P w s.heap a L es ep t) {x : Addr} {k : List Int} {ad : Bool} (hx : IsT P w s.heap k x) (hu : A.units < cLine) {n : Nat} (hn : n < 10 * SetTable.turns t.mask) (fr : Free t (thash P w k) n) {Q : SetFound → Shared → Prop}
    (yes : k ∈ L.map (·.2) → ∀ o, (ad = false → o.isSome = true) → Q (.there o) s) (no : k ∉ L.map (·.2) → Q (.free (L2.way t.mask (thash P w k) n) false) s) :
    ∀ (fuel c : Nat) (from_ : Option SetTable.Probe), from_.getD (t.probeStart (thash P w k)) = nth t.mask (runAt t.mask (SetTable.bits (thash P w k) % (t.mask + 1)) (SetTable.bits (thash P w k))) c → c ≤ n → n < c + fuel →
      (∀ (i : Nat) p, L[i]? = some p → p.2 = k → ∃ c', c ≤ c' ∧ c' < n ∧ t.place.toList[i]? = some (L2.way t.mask (thash P w k) c')) →
      wpAny (model P w) A (setSearchFrom a (.ref x) (thash P w k) ad fuel from_) Q E s := by
  obtain ⟨o, ho, hex, hd⟩ := S.ob
  generalize hH : thash P w k = hk at fr no
  intro fuel
  induction fuel with
  | zero => intro c from_ _ h1 h2; omega
  | succ fuel ih =>
    intro c from_ hf hc hcn still
    generalize hst : nth t.mask (runAt t.mask (SetTable.bits hk % (t.mask + 1)) (SetTable.bits hk)) c = stp at hf
    have shift : ∀ q, (nth t.mask stp q) = nth t.mask (runAt t.mask (SetTable.bits hk % (t.mask + 1)) (SetTable.bits hk)) (c + q) := fun q => by rw [← hst, ← nth_add]
    have shiftJ : ∀ q, (nth t.mask stp q).j = L2.way t.mask hk (c + q) := fun q => by unfold L2.way; rw [shift]
    have hashes : ∀ (i : Nat) p, L[i]? = some p → ((es[i]?.map (·.1)).getD 0) = thash P w p.2 := fun i p hp => by rw [S.ent hp]; rfl
    rw [setSearchFrom_succ]
    refine wpAny_bind (wpAny_setState_of ho hd S.fits ?_)
    dsimp only
    refine wp_if_neg (by unfold SetTable.gaveWay; rw [S.tb.cov.odd]; decide) ?_
    try refine wpAny_bind (wpAny_pure ?_)
    rcases go_spec t S.tb.up S.tb.dum (fun i => (es[i]?.map (·.1)).getD 0) hk (10 * SetTable.turns t.mask) (n - c) stp (by rw [← hst]; exact nth_dummy _ _ _ rfl) (by omega)
      (fun q hq => by rw [shiftJ]; exact fr.2 (c + q) (by omega)) (by rw [shiftJ, show c + (n - c) = n by omega]; exact fr.1) with ⟨q, i, hq, hi, hh, hno, met⟩ | ⟨hno, met⟩
    · have met' : t.probe (fun i => (es[i]?.map (·.1)).getD 0) hk (from_.getD (t.probeStart hk)) = some (.candidate (L2.way t.mask hk (c + q)) i (nth t.mask (runAt t.mask (SetTable.bits hk % (t.mask + 1)) (SetTable.bits hk)) (c + q + 1))) := by
        rw [hf, ← shiftJ, Nat.add_assoc, ← shift]
        exact met
      rw [met']
      dsimp only
      rw [shiftJ] at hi
      have il : i < L.length := by
        have := (List.getElem?_eq_some_iff.mp hi).1
        rw [Array.length_toList, S.tb.len, List.length_map] at this
        exact this
      obtain ⟨p, hp⟩ : ∃ p, L[i]? = some p := ⟨_, List.getElem?_eq_getElem il⟩
      have pm : p ∈ L := List.mem_of_getElem? hp
      have live : t.slot (L2.way t.mask hk (c + q)) = .live i := slot_live S.tb.up hi
      have rest : wpAny (model P w) A (searchRest a (.ref x) hk ad fuel es t (L2.way t.mask hk (c + q)) i (nth t.mask (runAt t.mask (SetTable.bits hk % (t.mask + 1)) (SetTable.bits hk)) (c + q + 1))) Q E s := by
        unfold searchRest
        rw [S.ent hp]
        dsimp only
        refine wpAny_bind (wpAny_holding (wpAny_eqBool_tuple hu (S.tp p pm) hx ?_))
        refine wpAny_bind (wpAny_setState_of ho hd S.fits ?_)
        dsimp only
        by_cases same : p.2 = k
        · have there : k ∈ L.map (·.2) := List.mem_map.mpr ⟨p, pm, same⟩
          cases ad with
          | true =>
            refine wp_if_pos (by simp [same]) ?_
            exact wpAny_pure (yes there _ (fun z => nomatch z))
          | false =>
            refine wp_if_neg (by simp) ?_
            try refine wpAny_bind (wpAny_pure ?_)
            rw [sameMem]
            dsimp only
            simp only [if_true, live, S.ent hp]
            refine wpAny_bind (wpAny_isSame_ref_self (wpAny_bind (wpAny_pure ?_)))
            simp only [if_true]
            refine wp_if_pos (by simp [same]) ?_
            exact wpAny_pure (yes there _ (fun _ => rfl))
        · refine wp_if_neg (by simp [same]) ?_
          try refine wpAny_bind (wpAny_pure ?_)
          rw [sameMem]
          dsimp only
          simp only [if_true, live, S.ent hp]
          refine wpAny_bind (wpAny_isSame_ref_self (wpAny_bind (wpAny_pure ?_)))
          simp only [if_true]
          refine wp_if_neg (by simp [same]) ?_
          refine ih (c + q + 1) _ rfl (by omega) (by omega) fun i0 p0 h0 k0 => ?_
          obtain ⟨c', a1, a2, a3⟩ := still i0 p0 h0 k0
          refine ⟨c', ?_, a2, a3⟩
          rcases Nat.lt_trichotomy c' (c + q) with z | z | z
          · exact absurd ((hashes i0 p0 h0).trans (by rw [k0]; exact hH)) (hno (c' - c) i0 (by omega) (by rw [shiftJ, show c + (c' - c) = c' by omega]; exact a3))
          · exfalso
            rw [z] at a3
            have s0 := slot_live S.tb.up a3
            rw [live] at s0
            cases s0
            rw [hp] at h0
            cases h0
            exact same k0
          · exact z
      by_cases hl : t.led = true
      · refine wp_if_neg (by simp [hl]) ?_
        try refine wpAny_bind (wpAny_pure ?_)
        exact rest
      · refine wp_if_pos (by simp [hl]) (wpAny_bind (seen_tup hx (fun y hy => ?_) (wp_if_neg (by decide) ?_)))
        · obtain ⟨en, he, rfl⟩ := List.mem_map.mp hy
          have he' : en ∈ es.toList := by
            have : en ∈ es ∧ en.1 = hk := by simpa using he
            simpa using this.1
          rw [S.row] at he'
          obtain ⟨p2, m2, rfl⟩ := List.mem_map.mp he'
          exact ⟨p2.2, p2.1, rfl, S.tp p2 m2⟩
        · try refine wpAny_bind (wpAny_pure ?_)
          exact rest
    · have met' : t.probe (fun i => (es[i]?.map (·.1)).getD 0) hk (from_.getD (t.probeStart hk)) = some (.empty (L2.way t.mask hk n) none) := by
        have e : L2.way t.mask hk n = (nth t.mask stp (n - c)).j := by rw [shiftJ, show c + (n - c) = n by omega]
        rw [hf, e]
        exact met
      rw [met']
      dsimp only
      refine wpAny_pure (no fun hm => ?_)
      obtain ⟨p0, m0, k0⟩ := List.mem_map.mp hm
      obtain ⟨i0, h0⟩ := List.mem_iff_getElem?.mp m0
      obtain ⟨c', a1, a2, a3⟩ := still i0 p0 h0 k0
      exact hno (c' - c) i0 (by omega) (by rw [shiftJ, show c + (c' - c) = c' by omega]; exact a3) ((hashes i0 p0 h0).trans (by rw [k0]; exact hH))
theorem seek (S : Sets P w s.heap a L es ep t) {x : Addr} {k : List Int} {ad : Bool} (hx : IsT P w s.heap k x) (hu : A.units < cLine) {Q : SetFound → Shared → Prop}
    (yes : k ∈ L.map (·.2) → ∀ o, (ad = false → o.isSome = true) → Q (.there o) s) (no : ∀ n, k ∉ L.map (·.2) → Free t (thash P w k) n → Q (.free (L2.way t.mask (thash P w k) n) false) s) :
    wpAny (model P w) A (setSearch a (.ref x) (thash P w k) ad) Q E s := by
  obtain ⟨n, hn, fr⟩ := S.tb.free (by rw [List.length_map]; exact S.le) (thash P w k)
  have low := S.tb.cov.low
  have n6 : n < 100000 := by
    unfold SetTable.turns at hn
    omega
  unfold setSearch
  refine seek_from S hx hu hn fr yes (fun z => no n z fr) 100000 0 none rfl (Nat.zero_le _) (by omega) fun i p hp hk => ?_
  have hi : (L.map fun p => thash P w p.2)[i]? = some (thash P w k) := by rw [List.getElem?_map, hp, ← hk]; rfl
  have il : i < t.place.toList.length := by
    have := (List.getElem?_eq_some_iff.mp hp).1
    rw [Array.length_toList, S.tb.len, List.length_map]
    exact this
  obtain ⟨c, c1, c2⟩ := S.tb.ahead fr hi (List.getElem?_eq_getElem il)
  exact ⟨c, Nat.zero_le _, c1, by rw [c2]; exact List.getElem?_eq_getElem il⟩
end
end Cot

set_option Elab.async false
set_option linter.all false
set_option maxRecDepth 100000
set_option maxHeartbeats 4000000
/-! Sets of tuples of ints: set(list), x in set. -/
namespace Cot
open PySem PySem.Spec PyProof.Rows L2 Evl
section
variable {P : Program} {w : World} {A : Around} {E : Value → Shared → Prop} {s : Shared} {a : Addr} {L : List (Addr × List Int)} {es : Array (Int × Value)} {ep : Nat} {t : SetTable}
theorem sizes : SetTable.sizeAbove (SetTable.grown 5) = 32 ∧ SetTable.sizeAbove (SetTable.grown 19) = 128 ∧ SetTable.sizeAbove (SetTable.grown 77) = 512 := by decide +kernel
/-- laid anew, larger: the table is good, its room not yet asked -/
theorem relay_one {o : Obj} {M wanted : Nat} (ho : s.heap.get? a = some o) (hex : o.ExactSet) (hd : o.data = .set es ep t) (row : es.toList = rowsOf P w L) (T : Tb t (L.map fun p => thash P w p.2)) (lm : L.length ≤ t.mask)
    (nd : (L.map (·.2)).Nodup) (tp : ∀ p ∈ L, IsT P w s.heap p.2 p.1) (pl : t.plain = true) (ld : w.params.followText "set-order" = true ∨ t.led = true)
    (hw : SetTable.sizeAbove wanted = M + 1) (cM : Cov M) (mM : M = 7 ∨ M = 31 ∨ M = 127 ∨ M = 511) (rm : L.length * 5 < M * 3) {Q : Unit → Shared → Prop}
    (q : ∀ h' L' es' ep' t', Heap.SameBut a s.heap h' → Sets P w h' a L' es' ep' t' → L'.Perm L → Q () { s with heap := h' }) : wpAny (model P w) A (setRelay a wanted) Q E s := by
  have len := rows_size row
  have low := cM.low
  obtain ⟨t', order, e1, e2, T', e3, e4, e5⟩ := relaid_tb t (hs := es.map (·.1)) (M := M) (by rw [hw]; rfl) cM (by rw [Array.size_map, len]; omega)
  rw [Array.size_map, len] at e2
  obtain ⟨L', r1, r2, r3⟩ := order_rows L es order row e2
  rw [← r3] at T'
  have len' : (order.filterMap (es[·]?)).size = es.size := by rw [rows_size r1, r2.length_eq, len]
  rw [setRelay_eq]
  refine wpAny_bind (wpAny_setState_of ho hd (fits_tb T (by rw [List.length_map, len]) (by rw [len]; exact lm)) ?_)
  dsimp only
  refine wp_if_neg (by rw [hw, sizeLine_eq]; omega) ?_
  try refine wpAny_bind (wpAny_pure ?_)
  rw [e1]
  dsimp only
  refine wpAny_bind (wp_if_neg (by rw [len']; simp) ?_)
  try refine wpAny_bind (wpAny_pure ?_)
  refine wpAny_pure ?_
  dsimp only
  refine wpAny_storeSet_of ho hd ?_ (by rw [len', len, sizeLine_eq]; omega)
  have same : Heap.SameBut a s.heap (s.heap.update a (Obj.putSet (order.filterMap (es[·]?)) t')) := Heap.SameBut.update ..
  exact q _ L' _ (ep + 1) t' same ⟨⟨_, store_at ho hd, ⟨hex.1, hex.2.1, hex.2.2⟩, rfl⟩, r1, T', (r2.map (·.2)).nodup_iff.mpr nd, fun p hp => isT_same (tp p (r2.mem_iff.mp hp)) ho hd same, by rw [e5]; exact pl, by rw [e4]; exact ld,
    by rw [r2.length_eq, e3]; exact rm, by rw [e3]; exact mM⟩ r2
/-- one tuple is added -/
theorem add_one (S : Sets P w s.heap a L es ep t) {x : Addr} {k : List Int} (hx : IsT P w s.heap k x) (hu : A.units < cLine) (few : L.length < 200) {Q : Bool → Shared → Prop}
    (q : ∀ b h' L' es' ep' t', Heap.SameBut a s.heap h' → Sets P w h' a L' es' ep' t' → (k ∈ L.map (·.2) → L' = L) → (k ∉ L.map (·.2) → L'.Perm ((x, k) :: L)) → Q b { s with heap := h' }) :
    wpAny (model P w) A (setAddHashed a (.ref x) (thash P w k)) Q E s := by
  obtain ⟨o, ho, hex, hd⟩ := S.ob
  have len := rows_size S.row
  unfold setAddHashed
  refine wpAny_holding ?_
  rw [show (100000 : Nat) = 99999 + 1 from rfl, setAddHashedIn_succ]
  refine wpAny_bind (wpAny_setState_of ho hd S.fits ?_)
  dsimp only
  refine wp_if_neg (by simp [byScan, Value.scannable]) ?_
  try refine wpAny_bind (wpAny_pure ?_)
  refine wpAny_bind (seek S hx hu (fun there oi _ => ?_) fun n away fr => ?_)
  · dsimp only
    exact wpAny_pure (q false s.heap L es ep t (Heap.SameBut.refl a s.heap) S (fun _ => rfl) fun z => absurd there z)
  · dsimp only
    refine wpAny_bind (wpAny_setState_of ho hd S.fits ?_)
    dsimp only
    obtain ⟨p, m1, m2, T1, m4, m5, m6, m7⟩ := S.tb.more fr
    generalize t.put (L2.way t.mask (thash P w k) n) = pt at m1 T1 m4 m5 m6 m7 ⊢
    obtain ⟨t1, p'⟩ := pt
    dsimp only at m1 T1 m4 m5 m6 m7 ⊢
    have ep0 : p' = p := congrArg Prod.snd m1
    subst ep0
    have pl1 : t1.plain = true := by rw [m6]; exact S.pl
    first
      | (refine wpAny_bind ?_; refine wp_if_pos pl1 ?_; refine hashBy_tup hx ?_)
      | refine wp_if_pos pl1 (wpAny_bind (hashBy_tup hx ?_))
    simp only [if_true]
    have row1 : (SetTable.insertAt es p' (thash P w k, Value.ref x)).toList = rowsOf P w (L.take p' ++ (x, k) :: L.drop p') := by rw [SetTable.toList_insertAt, rows_put, S.row]
    have perm1 := put_perm L p' (x, k)
    have T2 : Tb t1 ((L.take p' ++ (x, k) :: L.drop p').map fun p => thash P w p.2) := by
      rw [List.map_append, List.map_cons, List.map_take, List.map_drop]
      exact T1
    have nd1 : ((L.take p' ++ (x, k) :: L.drop p').map (·.2)).Nodup := (perm1.map (·.2)).nodup_iff.mpr (by rw [List.map_cons]; exact List.nodup_cons.mpr ⟨away, S.nd⟩)
    have len1 := perm1.length_eq
    rw [List.length_cons] at len1
    generalize L.take p' ++ (x, k) :: L.drop p' = L1 at row1 perm1 T2 nd1 len1
    generalize SetTable.insertAt es p' (thash P w k, Value.ref x) = es1 at row1 ⊢
    have size1 := rows_size row1
    refine wpAny_bind (wpAny_storeSet_of ho hd ?_ (by rw [size1, len1, sizeLine_eq]; omega))
    have same1 : Heap.SameBut a s.heap (s.heap.update a (Obj.putSet es1 t1)) := Heap.SameBut.update ..
    have ho1 := store_at (es' := es1) (t' := t1) ho hd
    generalize s.heap.update a (Obj.putSet es1 t1) = h1 at same1 ho1 ⊢
    have tp1 : ∀ p ∈ L1, IsT P w h1 p.2 p.1 := fun p hp => (List.mem_cons.mp (perm1.mem_iff.mp hp)).elim (fun e => by rw [e]; exact isT_same hx ho hd same1) fun hp => isT_same (S.tp p hp) ho hd same1
    have ld1 : w.params.followText "set-order" = true ∨ t1.led = true := by rw [m5]; exact S.ld
    have rm0 := S.rm
    have full : t1.tooFull = decide ((L.length + 1) * 5 ≥ t.mask * 3) := by
      unfold SetTable.tooFull
      rw [m7, List.length_map, m4]
    by_cases hf : (L.length + 1) * 5 ≥ t.mask * 3
    · have hf' : t1.tooFull = true := by rw [full]; exact decide_eq_true hf
      first
        | (refine wpAny_bind ?_; refine wp_if_pos (by simp [hf']) ?_)
        | (refine wp_if_pos (by simp [hf']) ?_; refine wpAny_bind ?_)
      rw [len]
      have grow : ∀ M, SetTable.sizeAbove (SetTable.grown (L.length + 1)) = M + 1 → Cov M → (M = 7 ∨ M = 31 ∨ M = 127 ∨ M = 511) → (L.length + 1) * 5 < M * 3 →
          wpAny (model P w) A (setRelay a (SetTable.grown (L.length + 1))) (fun _ s' => wpAny (model P w) A (pure true) Q E s') E { s with heap := h1 } := fun M g1 g2 g3 g4 =>
        relay_one (s := { s with heap := h1 }) ho1 ⟨hex.1, hex.2.1, hex.2.2⟩ rfl row1 T2 (by rw [len1, m4]; have := S.le; rcases S.msk with e | e | e | e <;> omega) nd1 tp1 pl1 ld1 g1 g2 g3 (by rw [len1]; exact g4)
          fun h2 L2 es2 ep2 t2 same2 S2 perm2 => wpAny_pure (q true h2 L2 es2 ep2 t2 (same1.trans same2) S2 (fun z => absurd z away) fun _ => perm2.trans perm1)
      rcases S.msk with e | e | e | e
      · have l4 : L.length = 4 := by omega
        exact grow 31 (by rw [l4]; exact sizes.1) (cov_old (.inr (.inl rfl))) (.inr (.inl rfl)) (by omega)
      · have l18 : L.length = 18 := by omega
        exact grow 127 (by rw [l18]; exact sizes.2.1) (cov_old (.inr (.inr rfl))) (.inr (.inr (.inl rfl))) (by omega)
      · have l76 : L.length = 76 := by omega
        exact grow 511 (by rw [l76]; exact sizes.2.2) cov_511 (.inr (.inr (.inr rfl))) (by omega)
      · omega
    · have hf' : t1.tooFull = false := by rw [full]; exact decide_eq_false hf
      first
        | refine wp_if_neg (by simp [hf']) ?_
        | (refine wpAny_bind ?_; refine wp_if_neg (by simp [hf']) ?_; refine wpAny_pure ?_)
      exact wpAny_pure (q true h1 L1 es1 (ep + 1) t1 same1 ⟨⟨_, ho1, ⟨hex.1, hex.2.1, hex.2.2⟩, rfl⟩, row1, T2, nd1, tp1, pl1, ld1, by rw [len1, m4]; omega, by rw [m4]; exact S.msk⟩ (fun z => absurd z away) fun _ => perm1)
theorem Sets.keep {h h' : Heap} (S : Sets P w h a L es ep t) (ka : ∀ o, h.get? a = some o → h'.get? a = some o) (kt : ∀ p ∈ L, IsT P w h' p.2 p.1) : Sets P w h' a L es ep t := by
  obtain ⟨o, ho, r⟩ := S.ob
  exact ⟨⟨o, ka o ho, r⟩, S.row, S.tb, S.nd, kt, S.pl, S.ld, S.rm, S.msk⟩
theorem sets_new {h : Heap} (ho : h.get? a = some { cls := .type "set", dict := none, data := .set #[] 0 (.fresh 0 0 (!w.params.followText "set-order")) }) : Sets P w h a [] #[] 0 (.fresh 0 0 (!w.params.followText "set-order")) := by
  have R := setTR_fresh (P := P) ho
  exact ⟨R.ob, rfl, ⟨cov_old R.tab.mok, R.tab.ris, R.tab.dm, R.tab.sz, R.tab.bd, R.tab.reach⟩, R.nd, R.tup, R.plain, R.led, R.room, .inl rfl⟩
/-- x in s -/
theorem sets_in (S : Sets P w s.heap a L es ep t) {x : Addr} {k : List Int} (hx : IsT P w s.heap k x) (hu : A.units + 3 < cLine) {Q : Value → Shared → Prop} (q : ∀ tk, Q (.bool (decide (k ∈ L.map (·.2)))) { s with toks := tk }) :
    wpAny (model P w) A (compareOp .In (.ref x) (.ref a)) Q E s := by
  obtain ⟨o, ho, hex, hd⟩ := S.ob
  have ty : s.TypeIs (.ref a) "set" := ⟨o, ho, hex.1⟩
  show wpAny _ _ (do return .bool (← contains (.ref a) (.ref x))) Q E s
  refine wpAny_bind ?_
  unfold contains
  try with_reducible refine wpAny_holding ?_
  refine wpAny_bind (wpAny_specialOf ty F.slot_set_contains.lookup ?_)
  show wpAny _ _ (if (some (Value.builtin "set.__contains__") == some Value.none) = true then _ else _) _ E s
  rw [if_neg (by rw [beq_builtin_none]; exact Bool.false_ne_true)]
  refine wpAny_bind (wpAny_callSpecialUnlessNone?_slot (name := Str.ofString "__contains__") ty F.slot_set_contains (wpAny_call_entry F.slot_set_contains ty entry_set_contains ?_ (F.args_set_contains_2 _ _)))
  unfold Builtin.«frozenset.__contains__» Builtin.Frozenset.oneOther
  simp only [List.isEmpty_nil, bind_assoc]
  unfold Builtin.Frozenset.addrOf Builtin.Frozenset.withSetAsKey setContains
  refine wpAny_bind (wpAny_pure ?_)
  try dsimp only
  refine wpAny_bind (wpAny_pure ?_)
  try dsimp only
  refine wpAny_bind (wpAny_tryCatch (wpAny_holding (wpAny_bind (wpAny_pyHash_tuple (by show A.units + 1 < cLine; omega) hx ?_))))
  have S' : Sets P w ({ s with toks := s.toks + (k.length + 1) } : Shared).heap a L es ep t := S
  refine wpAny_bind ?_
  unfold setFind
  rw [show (100000 : Nat) = 99999 + 1 from rfl]
  unfold setFindIn
  refine wpAny_bind (wpAny_setState_of (s := { s with toks := s.toks + (k.length + 1) }) ho hd S.fits ?_)
  dsimp only
  refine wp_if_neg (by simp [byScan, Value.scannable]) ?_
  try refine wpAny_bind (wpAny_pure ?_)
  refine wpAny_bind (seek (ad := false) S' hx (by show A.units + 1 < cLine; omega) (fun there oi hoi => ?_) fun n away fr => ?_)
  · dsimp only
    refine wpAny_pure (wpAny_pure ?_)
    show wpAny _ _ (ret (Value.bool oi.isSome)) _ _ _
    rw [hoi rfl]
    have q1 := q (s.toks + (k.length + 1))
    rw [decide_eq_true there] at q1
    exact wpAny_pure ⟨_, rfl, wpAny_truthy_bool (wpAny_pure q1)⟩
  · dsimp only
    refine wpAny_pure (wpAny_pure ?_)
    show wpAny _ _ (ret (Value.bool false)) _ _ _
    have q1 := q (s.toks + (k.length + 1))
    rw [decide_eq_false away] at q1
    exact wpAny_pure ⟨_, rfl, wpAny_truthy_bool (wpAny_pure q1)⟩
end
end Cot

set_option Elab.async false
set_option linter.all false
set_option maxRecDepth 100000
set_option maxHeartbeats 4000000
/-! set(list of tuples of ints), and «in», as rules. -/
namespace Cot
open PySem PySem.Spec PyProof.Rows L2 Evl
section
variable {P : Program} {w : World} {A : Around} {E : Value → Shared → Prop} {s : Shared}
/-- the set's own loop over what it is made of -/
theorem fill_loop {I S : Addr} {fp wr : List Addr} {G : Array GenState → Array GenState → Prop} {N : Nat} {Pv : Nat → Value → Prop} {St : Nat → Shared → Prop} {R : Result → Shared → Prop} (W : WalksS P w A.in1 I fp wr G N Pv St) (out : S ∉ fp)
    (ks : List (Addr × List Int)) (hN : N = ks.length) (few : ks.length < 200) (hv : ∀ i v, Pv i v → ∃ p, ks[i]? = some p ∧ v = .ref p.1) (h0 : Heap) (tup : ∀ p ∈ ks, IsT P w h0 p.2 p.1) (fS : h0.get? S = none) (fw : ∀ b ∈ wr, h0.get? b = none) (hu : A.in1.units < cLine) :
    ∀ (left i : Nat) (s : Shared), N - i = left → i ≤ N → St i s → (∀ b o, h0.get? b = some o → s.heap.get? b = some o) → (∃ L es ep t, Sets P w s.heap S L es ep t ∧ Got ks i L) →
      (∀ s' L es ep t, Moved (S :: wr) G s s' → Sets P w s'.heap S L es ep t → Got ks N L → (∀ b o, h0.get? b = some o → s'.heap.get? b = some o) → R (.ok (.ret .none)) s') →
      codeAny (model P w) A (.builtin "set.update.loop" ⟨[.ref S, .ref I], []⟩) R s := by
  have out' : S ∉ wr := fun h => out (W.sub _ h)
  have stay : ∀ {s s' : Shared}, Moved wr G s s' → (∀ b o, h0.get? b = some o → s.heap.get? b = some o) → ∀ b o, h0.get? b = some o → s'.heap.get? b = some o := fun mv k b o e =>
    mv.heap b o (fun hb => by rw [fw b hb] at e; cases e) (k b o e)
  have of_ : ∀ {i : Nat} {L : List (Addr × List Int)}, Got ks i L → ∀ p ∈ L, p ∈ ks := fun g p hp => List.mem_of_mem_take (g.sub p hp)
  intro left
  induction left with
  | zero =>
    rintro i s e hi st k0 ⟨L, es, ep, t, S0, g⟩ fin
    obtain rfl : i = N := by omega
    refine codeAny_builtin F.entry_set_update_loop ?_
    rw [Around.under_plainId F.plain_set_update_loop _]
    show wpAny _ A.in1 (pyNext (.ref I) >>= _) _ _ s
    refine wpAny_bind (W.done s _ _ st fun s1 mv => ?_)
    have k1 := stay mv k0
    exact wpAny_pure (fin s1 L es ep t (mv.mono fun b hb => List.mem_cons_of_mem _ hb) (S0.keep (fun o z => mv.heap S o out' z) fun p hp => isT_keep (tup p (of_ g p hp)) k1) g k1)
  | succ left ih =>
    rintro i s e hi st k0 ⟨L, es, ep, t, S0, g⟩ fin
    have lt : i < N := by omega
    refine codeAny_builtin F.entry_set_update_loop ?_
    rw [Around.under_plainId F.plain_set_update_loop _]
    show wpAny _ A.in1 (pyNext (.ref I) >>= _) _ _ s
    refine wpAny_bind (W.item i s _ _ lt st fun v s1 pv st1 mv => ?_)
    obtain ⟨p, hp, rfl⟩ := hv i v pv
    have k1 := stay mv k0
    have S1 : Sets P w s1.heap S L es ep t := S0.keep (fun o z => mv.heap S o out' z) fun q hq => isT_keep (tup q (of_ g q hq)) k1
    have tp1 : IsT P w s1.heap p.2 p.1 := isT_keep (tup p (List.mem_of_getElem? hp)) k1
    show wpAny _ A.in1 (holding [Value.ref p.1] (setAdd S (.ref p.1)) >>= _) _ _ s1
    refine wpAny_bind (wpAny_holding ?_)
    unfold setAdd
    refine wpAny_holding (wpAny_bind (wpAny_pyHash_tuple hu tp1 ?_))
    refine add_one (s := { s1 with toks := s1.toks + (p.2.length + 1) }) S1 tp1 hu (by have := g.len; omega) fun b h' L' es' ep' t' sb S2 c1 c2 => ?_
    have g' : Got ks (i + 1) L' := by
      by_cases c : p.2 ∈ L.map (·.2)
      · rw [c1 c]
        exact g.same hp c
      · exact g.more hp (c2 c)
    have k2 : ∀ b o, h0.get? b = some o → h'.get? b = some o := fun b o z => (sb.2 b (fun eb => by rw [eb, fS] at z; cases z)).trans (k1 b o z)
    refine wpAny_pure ⟨plainId_quiet F.plain_set_update_loop _, ih (i + 1) _ (by omega) lt (W.frame _ s1 _ _ st1 (Nat.le_add_right _ _) fun b hb o z => ?_) k2 ⟨L', es', ep', t', S2, g'⟩ fun s3 L3 es3 ep3 t3 mv3 S3 g3 k3 => ?_⟩
    · exact (sb.2 b (fun eb : b = S => out (by rw [← eb]; exact hb))).trans z
    · refine fin s3 L3 es3 ep3 t3 (Moved.trans W.gtrans ((mv.mono fun b hb => List.mem_cons_of_mem _ hb).then_heap (Nat.le_add_right _ _) fun b o hb z => ?_) mv3) S3 g3 k3
      exact (sb.2 b (fun eb : b = S => hb (by rw [eb]; exact List.mem_cons_self))).trans z
/-- the empty set that is made first -/
abbrev setObj0 (w : World) : Obj := { cls := .type "set", dict := none, data := .set #[] 0 (.fresh 0 0 (!w.params.followText "set-order")) }
set_option maxHeartbeats 8000000 in
theorem call_setL {l : Addr} {items : Array Value} (ks : List (Addr × List Int)) {Q : Value → Shared → Prop} (hh : A.handled = none) (hl : s.heap.IsList l items) (hi : items.toList = ks.map fun p => Value.ref p.1) (tup : ∀ p ∈ ks, IsT P w s.heap p.2 p.1) (few : ks.length < 200) (hu : A.units + 3 < cLine)
    (q : ∀ (h' : Heap) (tk : Nat) L es ep t, Sets P w h' s.heap.objs.size L es ep t → Got ks ks.length L → (∀ b o, s.heap.get? b = some o → h'.get? b = some o) → Q (.ref s.heap.objs.size) { s with heap := h', toks := tk }) :
    wpAny (model P w) A (call (.type "set") [.ref l]) Q E s := by
  have size : items.size = ks.length := by rw [← Array.length_toList, hi, List.length_map]
  obtain ⟨c, tl, hmro⟩ := F.called_set.mro
  have hmade := F.called_set.made
  have hsub := F.called_set.sub
  refine wpAny_call (codeAny_of_tree ?_)
  show wpAny _ _ (callAny (.type "set") _) _ _ _
  refine wpAny_pure ⟨Code.quiet_builtin _ (by decide +kernel), codeAny_builtin F.entry_type_call ?_⟩
  rw [Around.under_plain (weight_type_call_type "set" [.ref l] []) rfl]
  have f1 := F.called_set.notType
  have f2 := F.called_set.canCreate
  have f3 := F.typeCall_set_1 (.ref l)
  repeat (any_goals (first | assumption | wp_step))
  refine codeAny_mono (code_set_led1 (.ref l) (E := E) (Q₁ := fun obj s₁ => obj = .ref s.heap.objs.size ∧ s₁ = { s with heap := s.heap.push (setObj0 w) }) ⟨rfl, rfl⟩) fun r s₁ hr => ?_
  cases r with
  | error e => exact hr
  | ok fl =>
    cases fl with
    | ret obj =>
      obtain ⟨rfl, rfl⟩ := hr
      have here : (s.heap.push (setObj0 w)).get? s.heap.objs.size = some (setObj0 w) := Heap.get?_push_size _ rfl
      have ty : Shared.TypeIs { s with heap := s.heap.push (setObj0 w) } (.ref s.heap.objs.size) "set" := ⟨_, here, rfl⟩
      have i1 := F.called_set.init.lookup
      have i2 := F.called_set.init.bind (.ref s.heap.objs.size)
      repeat (any_goals (first | assumption | wp_step))
      refine codeAny_mono (codeAny_call_builtin (R := wants (fun r s₂ => r = .none ∧ ∃ h' tk L es ep t, s₂ = { s with heap := h', toks := tk } ∧ Sets P w h' s.heap.objs.size L es ep t ∧ Got ks ks.length L ∧ (∀ b o, s.heap.get? b = some o → h'.get? b = some o)) E) F.called_set.init.plain F.entry_set_init (check_set_init_1 ty ?_)) fun r₂ s₂ hr₂ => ?_
      · obtain ⟨ol, hol, hcl, nl, hdl⟩ := hl
        obtain ⟨ocls, odict, odata, oslots⟩ := ol
        simp only at hcl hdl
        subst hcl; subst hdl
        have hol' : (s.heap.push (setObj0 w)).get? l = some { cls := .type "list", dict := odict, data := .seq items nl, slots := oslots } := Heap.get?_push_of_some _ hol
        have g1 := F.sub_list_set
        have g2 := F.sub_list_frozenset
        have g3 : (Value.type "list" == Value.type "dict") = false := by decide
        have hl1 : (s.heap.push (setObj0 w)).IsList l items := ⟨_, hol', rfl, nl, rfl⟩
        unfold Builtin.«set.__init__» noKeywords Builtin.Frozenset.updateFrom
        generalize hPI : pyIter = PI
        wp_walk
        subst hPI
        refine wpAny_pyIter_list hl1 (wpAny_bind (wpAny_runValue ?_))
        have ll : l < s.heap.objs.size := Heap.lt_size hol
        have sz : (s.heap.push (setObj0 w)).objs.size = s.heap.objs.size + 1 := Heap.size_push ..
        have gone : ∀ b, s.heap.objs.size ≤ b → s.heap.get? b = none := fun b hb => by
          cases e : s.heap.get? b with
          | none => rfl
          | some o => exact absurd (Nat.lt_of_lt_of_le (Heap.lt_size e) hb) (Nat.lt_irrefl _)
        refine fill_loop (S := s.heap.objs.size) ((Walks.list (show A.in1.in1.in1.handled = none by simp [hh]) _ l (show l ≠ (s.heap.push (setObj0 w)).objs.size by rw [sz]; exact Nat.ne_of_lt (Nat.lt_succ_of_lt ll)) items).toS) ?o1 ks size few ?o2 s.heap tup (gone _ (Nat.le_refl _)) ?o3 hu (items.size - 0) 0 _ (by omega) (Nat.zero_le _)
          ⟨⟨_, Heap.get?_push_size _ rfl, rfl, rfl⟩, (hl1.push _)⟩ (fun b o e => Heap.get?_push_of_some _ (Heap.get?_push_of_some _ e)) ?o4 ?o5
        case o1 =>
          rw [sz]
          simp only [List.mem_cons, List.not_mem_nil, or_false, not_or]
          exact ⟨Nat.ne_of_lt (Nat.lt_succ_self _), Nat.ne_of_gt ll⟩
        case o2 =>
          intro i v hv
          have e : items.toList[i]? = some v := by rw [Array.getElem?_toList]; exact hv
          rw [hi, List.getElem?_map] at e
          obtain ⟨p, hp, rfl⟩ := Option.map_eq_some_iff.mp e
          exact ⟨p, hp, rfl⟩
        case o3 =>
          intro b hb
          refine gone b ?_
          rw [List.mem_singleton.mp hb, sz]
          exact Nat.le_succ _
        case o4 => exact ⟨[], #[], 0, _, sets_new (Heap.get?_push_of_some _ here), Got.zero ks⟩
        case o5 =>
          intro s' L es ep t mv S' g' k'
          obtain ⟨h', gn, dr, tk, os⟩ := s'
          have e1 : gn = s.gens := mv.gens
          have e2 : dr = s.drawn := mv.drawn
          have e3 : os = s.os := mv.os
          subst e1; subst e2; subst e3
          show wpAny _ _ _ _ _ _
          refine wpAny_pure ?_
          show wpAny _ _ (ret Value.none) _ _ _
          rw [size] at g'
          exact wpAny_pure ⟨rfl, h', tk, L, es, ep, t, rfl, S', g', k'⟩
      · cases r₂ with
        | error e => exact hr₂
        | ok fl₂ =>
          cases fl₂ with
          | ret r =>
            obtain ⟨rfl, h', tk, L, es, ep, t, rfl, S', g', k'⟩ := hr₂
            repeat (any_goals (first | assumption | wp_step))
            exact q _ _ _ _ _ _ S' g' k'
          | _ => exact hr₂.elim
    | _ => exact hr.elim
end
/-! ### as rules -/
/-- the set at a, the places of its tuples told beside it -/
structure SetP (P : Program) (w : World) (h : Heap) (a : Addr) (L : List (Addr × List Int)) : Prop where
  big : ∃ es ep t, (∃ o, h.get? a = some o ∧ o.ExactSet ∧ o.data = .set es ep t) ∧ es.toList = rowsOf P w L ∧ Tb t (L.map fun p => thash P w p.2) ∧ t.plain = true ∧ (w.params.followText "set-order" = true ∨ t.led = true) ∧ L.length * 5 < t.mask * 3 ∧ (t.mask = 7 ∨ t.mask = 31 ∨ t.mask = 127 ∨ t.mask = 511)
  nd : (L.map (·.2)).Nodup
def SetO (P : Program) (w : World) (a : Addr) (L : List (Addr × List Int)) : HO := .ext fun h => SetP P w h a L
theorem Sets.p {P : Program} {w : World} {h : Heap} {a : Addr} {L : List (Addr × List Int)} {es : Array (Int × Value)} {ep : Nat} {t : SetTable} (S : Sets P w h a L es ep t) : SetP P w h a L :=
  ⟨⟨es, ep, t, S.ob, S.row, S.tb, S.pl, S.ld, S.rm, S.msk⟩, S.nd⟩
theorem SetP.full {P : Program} {w : World} {h : Heap} {a : Addr} {L : List (Addr × List Int)} (S : SetP P w h a L) (ht : ∀ p ∈ L, IsT P w h p.2 p.1) : ∃ es ep t, Sets P w h a L es ep t := by
  obtain ⟨es, ep, t, h1, h2, h3, h4, h5, h6, h7⟩ := S.big
  exact ⟨es, ep, t, h1, h2, h3, S.nd, ht, h4, h5, h6, h7⟩
theorem setO_ok {P : Program} {w : World} {H : Hp} {h : Heap} {a : Addr} {L : List (Addr × List Int)} (S : SetP P w h a L) : ObjOk P w H h a (SetO P w a L) := by
  refine ⟨S, ?_, ?_⟩
  · obtain ⟨es, ep, t, ⟨o, ho, _⟩, _⟩ := S.big
    exact ⟨o, ho⟩
  · rintro h1 h2 ⟨⟨es, ep, t, ⟨o, ho, r⟩, rest⟩, nd⟩ k
    exact ⟨⟨es, ep, t, ⟨o, k o ho, r⟩, rest⟩, nd⟩
section
variable (K : PySem.W.Frag) (P : Program) (w : World)
def rSetL : List V → Hp → VK → Prop := fun xs H Q => ∃ (l : Addr) (ks : List (Addr × List Int)), xs = [V.ref l] ∧ SqL K H l (ks.map fun p => V.ref p.1) ∧ (∀ p ∈ ks, SqT K H p.1 (p.2.map V.int)) ∧ ks.length < 200 ∧
  ∀ a L, H a = none → (∀ p ∈ L, p ∈ ks) → (∀ p ∈ ks, p.2 ∈ L.map (·.2)) → Q (.ref a) (upd H a (SetO P w a L))
def tInS (ty td : TE) : TE := fun σ H Q => ty σ H fun y H1 => td σ H1 fun x H2 => ∃ a L b k, x = .ref a ∧ y = .ref b ∧ H2 a = some (SetO P w a L) ∧ (∀ p ∈ L, SqT K H2 p.1 (p.2.map V.int)) ∧ SqT K H2 b (k.map V.int) ∧ Q (.bl (decide (k ∈ L.map (·.2)))) H2
end
section
variable {X : Cx} {K : PySem.W.Frag} {P : Program} {w : World} {i o : Expr} {ty td : TE}
theorem call_setQ (h1 : X.K = K) (h2 : X.prog = P) (h3 : X.w = w) (hc : X.calm = true) (hu : X.A.units + 64 < cLine) : CallR X (.type "set") (rSetL K P w) := by
  subst h1 h2 h3
  intro pins s σ H xs us Q I r h
  obtain ⟨l, ks, rfl, hl, hk, hf, q⟩ := h
  obtain ⟨u, rfl, ru⟩ := vals1 r
  cases ru
  obtain ⟨its, rv, pl, hz⟩ := I.list hl
  have e := refs_of_vals rv
  refine call_setL ks (I.ok.hd hc) pl.isList (by rw [← e]) (fun p hp => I.isT (hk p hp)) hf (by omega) fun h' tk L es ep t S g k => ?_
  have hn : H s.heap.objs.size = none := I.hok.fresh (Nat.le_refl _)
  refine ⟨.ref s.heap.objs.size, upd H s.heap.objs.size (SetO X.prog X.w s.heap.objs.size L), I.laid (t' := tk) k (Nat.le_refl _) (setO_ok S.p), rfl, q _ L hn (fun p hp => List.mem_of_mem_take (g.sub p hp)) fun p hp => ?_⟩
  exact g.all p (by rw [List.take_length]; exact hp)
theorem pc_inS (h1 : X.K = K) (h2 : X.prog = P) (h3 : X.w = w) (hu : X.A.units + 64 < cLine) (hi : PE X i ty) (ho : PE X o td) : PC X .In i o (tInS K P w ty td) := by
  subst h1 h2 h3
  refine ⟨fun pins s σ H Q I h => ?_⟩
  refine thn (hi.run pins s σ H _ I h) fun iv s1 ⟨y, H1, I1, ry, q1⟩ => thn (ho.run pins s1 σ H1 _ I1 q1) fun u s2 ⟨x, H2, I2, rx, a, L, b, k, ex, ey, ha, hL, hb, q2⟩ => ?_
  subst ex
  subst ey
  cases rx
  cases ry
  obtain ⟨es, ep, t, S⟩ := (show ObjOk X.prog X.w H2 s2.heap a (SetO X.prog X.w a L) from I2.hok a _ ha).1.full fun p hp => I2.isT (hL p hp)
  exact sets_in S (I2.isT hb) (by omega) fun tk => ⟨.bl _, H2, I2.tok _, rfl, q2⟩
end
end Cot

set_option Elab.async false
set_option linter.all false
set_option maxRecDepth 100000
set_option maxHeartbeats 4000000
/-! Dict comprehensions whose keys are tuples of ints: one clause, two clauses. -/
namespace Cot
open PySem PySem.Spec PyProof.Rows L2 Evl
abbrev dc1 (kx vx t0 i0 : Expr) (fs0 : List Expr) (sc : Scope) (pos : Pos) : Expr := .DictComp kx vx [⟨t0, i0, fs0, 0⟩] sc pos
abbrev dc2 (kx vx t0 i0 : Expr) (fs0 : List Expr) (t1 i1 : Expr) (fs1 : List Expr) (sc : Scope) (pos : Pos) : Expr := .DictComp kx vx [⟨t0, i0, fs0, 0⟩, ⟨t1, i1, fs1, 0⟩] sc pos
section
variable {prog : Program} {w : World} {A : Around} {R : Result → Shared → Prop} {s : Shared} {kx vx t0 i0 t1 i1 : Expr} {fs0 fs1 : List Expr} {sc : Scope} {pos : Pos} {it acc : Value} {env : Env} {D : Addr}
/-- all tests of a clause -/
abbrev asks (fs : List Expr) (env : Env) : Sem Bool := forIn fs true fun c r => if r = true then do let ok ← isTrue c env (eval c env); pure (ForInStep.yield ok) else pure (ForInStep.yield r)
theorem turn_d2o : compTurn (dc2 kx vx t0 i0 fs0 t1 i1 fs1 sc pos) 0 it acc env = (do
    standAt i0.pos
    match ← pyNext it with
    | none => pure (.done .next)
    | some v =>
      letOwnedTupleGo t0 it v
      assign t0 env v
      let ok ← asks fs0 env
      if ok then
        let x ← eval i1 env
        standAt i1.pos
        let x ← foldedSetIterable i1 env x
        let _ ← runOwn (.compStart (dc2 kx vx t0 i0 fs0 t1 i1 fs1 sc pos) 1 (← holding [x] (pyIter x)) acc env) env
      again (.compLoop (dc2 kx vx t0 i0 fs0 t1 i1 fs1 sc pos) 0 it acc env)) := by rfl
theorem turn_d2i : compTurn (dc2 kx vx t0 i0 fs0 t1 i1 fs1 sc pos) 1 it (.ref D) env = (do
    standAt i1.pos
    match ← pyNext it with
    | none => pure (.done .next)
    | some v =>
      letOwnedTupleGo t1 it v
      assign t1 env v
      let ok ← asks fs1 env
      if ok then
        (do
          let kv ← eval kx env
          let vv ← holding [kv] (eval vx env)
          standAt { kx.pos with endLine := vx.pos.endLine, endCol := vx.pos.endCol }
          holding [kv, vv] (dictSet D kv vv))
      again (.compLoop (dc2 kx vx t0 i0 fs0 t1 i1 fs1 sc pos) 1 it (.ref D) env)) := by rfl
abbrev bad (prog : Program) (w : World) (A : Around) (env : Env) (R : Result → Shared → Prop) : Value → Shared → Prop := notedBy (model prog w) A env fun e s' => R (.error e) s'
theorem loop_d2o (hs : ∀ x, foldedSetIterable i1 env x = pure x) (I : Nat → Shared → Prop)
    (turn : ∀ n s, I n s → wpAny (model prog w) A (pyNext it) (fun r s₁ => match r with
      | none => R (.ok .next) s₁
      | some v => wpAny (model prog w) A (letOwnedTupleGo t0 it v) (fun _ s₂ => wpAny (model prog w) A (assign t0 env v) (fun _ s₃ => wpAny (model prog w) A (asks fs0 env) (fun ok s₄ =>
          if ok = true then wpAny (model prog w) A (eval i1 env) (fun x s₅ => wpAny (model prog w) A (pyIter x) (fun it1 s₆ =>
            codeAny (model prog w) A (.compStart (dc2 kx vx t0 i0 fs0 t1 i1 fs1 sc pos) 1 it1 acc env) (fun r s' => match r with
              | .ok _ => ∃ m, m < n ∧ I m s'
              | .error _ => False) s₆) (bad prog w A env R) s₅) (bad prog w A env R) s₄
          else ∃ m, m < n ∧ I m s₄) (bad prog w A env R) s₃) (bad prog w A env R) s₂) (bad prog w A env R) s₁) (bad prog w A env R) s)
    (n : Nat) (h : I n s) : codeAny (model prog w) A (.compLoop (dc2 kx vx t0 i0 fs0 t1 i1 fs1 sc pos) 0 it acc env) R s := by
  refine codeAny_loop rfl I (fun n s hI => ?_) n h
  show wpAny _ A ((compTurn (dc2 kx vx t0 i0 fs0 t1 i1 fs1 sc pos) 0 it acc env).onRaise (fun x => do noteFrame x env; theTreesLotGoes x)) _ _ s
  refine wpAny_noted ?_
  rw [turn_d2o]
  refine wpAny_bind (wpAny_standAt (wpAny_bind (wpAny_mono (turn n s hI) (fun r s₁ k1 => ?_) fun _ _ z => z)))
  cases r with
  | none => exact wpAny_pure k1
  | some v =>
    refine wpAny_bind (wpAny_mono k1 (fun _ s₂ k2 => wpAny_bind (wpAny_mono k2 (fun _ s₃ k3 => wpAny_bind (wpAny_mono k3 (fun ok s₄ k4 => ?_) fun _ _ z => z)) fun _ _ z => z)) fun _ _ z => z)
    cases ok with
    | false => exact wpAny_pure ⟨rfl, k4⟩
    | true =>
      refine wpAny_bind (wpAny_mono k4 (fun x s₅ k5 => wpAny_bind (wpAny_standAt (wpAny_bind (wpAny_of_eq (hs x) (wpAny_bind (wpAny_holding (wpAny_mono k5 (fun it1 s₆ k6 => ?_) fun _ _ z => z))))))) fun _ _ z => z)
      refine wpAny_bind (wpAny_runOwn ?_)
      rw [Around.mark_none]
      refine codeAny_mono k6 fun r s' hr => ?_
      cases r with
      | ok f =>
        first
          | exact wpAny_pure ⟨rfl, hr⟩
          | exact wpAny_bind (wpAny_pure (wpAny_pure ⟨rfl, hr⟩))
      | error e => exact hr.elim
theorem loop_d2i (I : Nat → Shared → Prop)
    (turn : ∀ n s, I n s → wpAny (model prog w) A (pyNext it) (fun r s₁ => match r with
      | none => R (.ok .next) s₁
      | some v => wpAny (model prog w) A (letOwnedTupleGo t1 it v) (fun _ s₂ => wpAny (model prog w) A (assign t1 env v) (fun _ s₃ => wpAny (model prog w) A (asks fs1 env) (fun ok s₄ =>
          if ok = true then wpAny (model prog w) A (eval kx env) (fun kv s₅ => wpAny (model prog w) A (eval vx env) (fun vv s₆ => wpAny (model prog w) A (dictSet D kv vv) (fun _ s₇ => ∃ m, m < n ∧ I m s₇) (bad prog w A env R) s₆) (bad prog w A env R) s₅) (bad prog w A env R) s₄
          else ∃ m, m < n ∧ I m s₄) (bad prog w A env R) s₃) (bad prog w A env R) s₂) (bad prog w A env R) s₁) (bad prog w A env R) s)
    (n : Nat) (h : I n s) : codeAny (model prog w) A (.compLoop (dc2 kx vx t0 i0 fs0 t1 i1 fs1 sc pos) 1 it (.ref D) env) R s := by
  refine codeAny_loop rfl I (fun n s hI => ?_) n h
  show wpAny _ A ((compTurn (dc2 kx vx t0 i0 fs0 t1 i1 fs1 sc pos) 1 it (.ref D) env).onRaise (fun x => do noteFrame x env; theTreesLotGoes x)) _ _ s
  refine wpAny_noted ?_
  rw [turn_d2i]
  refine wpAny_bind (wpAny_standAt (wpAny_bind (wpAny_mono (turn n s hI) (fun r s₁ k1 => ?_) fun _ _ z => z)))
  cases r with
  | none => exact wpAny_pure k1
  | some v =>
    refine wpAny_bind (wpAny_mono k1 (fun _ s₂ k2 => wpAny_bind (wpAny_mono k2 (fun _ s₃ k3 => wpAny_bind (wpAny_mono k3 (fun ok s₄ k4 => ?_) fun _ _ z => z)) fun _ _ z => z)) fun _ _ z => z)
    cases ok with
    | false => exact wpAny_pure ⟨rfl, k4⟩
    | true => exact wpAny_bind (wpAny_bind (wpAny_mono k4 (fun kv s₅ k5 => wpAny_bind (wpAny_holding (wpAny_mono k5 (fun vv s₆ k6 => wpAny_bind (wpAny_standAt (wpAny_holding (wpAny_mono k6 (fun _ s₇ k7 => wpAny_pure ⟨rfl, k7⟩) fun _ _ z => z)))) fun _ _ z => z))) fun _ _ z => z))
theorem start_d2 (h0 : codeAny (model prog w) A (.compLoop (dc2 kx vx t0 i0 fs0 t1 i1 fs1 sc pos) 1 it acc env) R s)
    (h : wpAny (model prog w) A (pyIter it) (fun it' s' => codeAny (model prog w) A (.compLoop (dc2 kx vx t0 i0 fs0 t1 i1 fs1 sc pos) 1 it' acc env) R s') (bad prog w A env R) s) :
    codeAny (model prog w) A (.compStart (dc2 kx vx t0 i0 fs0 t1 i1 fs1 sc pos) 1 it acc env) R s := by
  refine codeAny_of_tree ?_
  show wpAny _ _ ((compStart (dc2 kx vx t0 i0 fs0 t1 i1 fs1 sc pos) 1 it acc env).onRaise (fun x => do noteFrame x env; standAt theWindowsPlace)) _ _ s
  refine wpAny_notedAt ?_
  unfold compStart
  show wpAny _ _ (ask >>= _) _ _ s
  refine wpAny_bind (wpAny_askSetting (wpAny_ite ?_))
  split
  · first
      | exact wpAny_bind (wpAny_pure (wpAny_pure (And.intro rfl h0)))
      | exact wpAny_pure (And.intro rfl h0)
  · first
      | exact wpAny_bind (wpAny_rule (wpAny_bind (wpAny_standAt (wpAny_bind (wpAny_mono h (fun it' s' z => wpAny_pure (And.intro rfl z)) fun _ _ x => x)))))
      | (refine wpAny_bind (wpAny_rule ?_); show wpAny _ _ (standAt i1.pos >>= _) _ _ s; exact wpAny_bind (wpAny_standAt (wpAny_bind (wpAny_mono h (fun it' s' z => wpAny_pure (And.intro rfl z)) fun _ _ x => x))))
end
end Cot

set_option Elab.async false
set_option linter.all false
set_option maxRecDepth 100000
set_option maxHeartbeats 4000000
/-! The rules for them. -/
namespace Cot
open PySem PySem.Spec PyProof.Rows L2 Evl
section
variable (K : PySem.W.Frag) (P : Program) (w : World)
/-- one more pair is laid in -/
def nPut (D : Addr) (tk tv : TE) (Nx : Hp → Prop) : L2.St → Hp → Prop := fun σ H => tk σ H fun y H1 => tv σ H1 fun z H2 => ∃ m b k, y = .ref b ∧ DiAt K P w H2 D m ∧ SqT K H2 b (k.map V.int) ∧ m.length < sizeLine ∧ Nx (upd H2 D (DicO P w D (putD m k b z)))
/-- a walk's turns, each ending in Nx -/
def turns (J : It) (W : Nat → Nat → Hp → Prop) (Q : Hp → Prop) (g : TG) (σ : L2.St) (vs : List Nat) (tt : TT) (body : (Hp → Prop) → L2.St → Hp → Prop) : Prop := ∀ i m H, W i m H →
  (J.stop i H ∧ Q H) ∨ (J.go i H ∧ ∃ Nx : Hp → Prop, (∀ H', Nx H' → ∃ m', m' < m ∧ W (i + 1) m' H') ∧ ∀ x H', J.yld i H x H' → g x (wipe σ vs) H' fun σ2 H2 => wipe σ2 vs = wipe σ vs ∧ tt σ2 H2 fun b H3 => if b = true then body Nx σ2 H3 else Nx H3)
def tNc1 (wi : TI) (g : TG) (tt : TT) (tk tv : TE) (vs : List Nat) : TE := fun σ H Q => wi σ H fun J H1 => ∀ D, H1 D = none → ∃ W : Nat → Nat → Hp → Prop, (∃ m, W 0 m (upd H1 D (DicO P w D []))) ∧ turns J W (Q (.ref D)) g σ vs tt fun Nx => nPut K P w D tk tv Nx
def tNc2 (wi : TI) (g : TG) (tt : TT) (wi1 : TI) (g1 : TG) (tt1 : TT) (tk tv : TE) (vs vs1 : List Nat) : TE := fun σ H Q => wi σ H fun J H1 => ∀ D, H1 D = none → ∃ W : Nat → Nat → Hp → Prop, (∃ m, W 0 m (upd H1 D (DicO P w D []))) ∧
  turns J W (Q (.ref D)) g σ vs tt fun Nx σ2 H3 => wi1 σ2 H3 fun J1 H4 => ∃ W1 : Nat → Nat → Hp → Prop, (∃ m, W1 0 m H4) ∧ turns J1 W1 Nx g1 σ2 vs1 tt1 fun Nx1 => nPut K P w D tk tv Nx1
end
section
variable {X : Cx}
/-- a block's context -/
abbrev Blk (X : Cx) (sc : Scope) (F : Cx → Prop) : Prop := ∀ (s : Shared) (H : Hp) (C : Addr) (cl : List (Str × Addr)) (fp : List Addr), F (X.blk s H sc (compEnvC sc cl C X.env) fp)
theorem pe_nc2 {kx vx t0 i0 t1 i1 : Expr} {fs0 fs1 : List Expr} {sc : Scope} {own : List (Str × Nat)} {vs1 : List Nat} {pos : Pos} {wi wi1 : TI} {g g1 : TG} {tt tt1 : TT} {tk tv : TE} {K : PySem.W.Frag} {P : Program} {w : World} (eK : X.K = K) (eP : X.prog = P) (ew : X.w = w) (hu : X.A.units < cLine) (hc : X.calm = true) (hN : X.N.Nodup)
    (hi : PI X t0 i0 wi) (ok : BlkOk X.N X.env.scope sc own) (hv : ∀ i ∈ vs1, i ∈ own.map (·.2)) (hg : Blk X sc fun Y => PG Y t0 g) (ht : Blk X sc fun Y => PTs Y fs0 tt) (hi1 : Blk X sc fun Y => PI Y t1 i1 wi1) (hg1 : Blk X sc fun Y => PG Y t1 g1) (ht1 : Blk X sc fun Y => PTs Y fs1 tt1)
    (hk : Blk X sc fun Y => PE Y kx tk) (he : Blk X sc fun Y => PE Y vx tv) (hs : ∀ x, foldedSetIterable i0 X.env x = pure x := by intro _; rfl) (hs1 : ∀ env x, foldedSetIterable i1 env x = pure x := by intro _ _; rfl) :
    PE X (dc2 kx vx t0 i0 fs0 t1 i1 fs1 sc pos) (tNc2 K P w wi g tt wi1 g1 tt1 tk tv (own.map (·.2)) vs1) := by
  subst eK eP ew
  refine ⟨fun pins s σ H Q I h => ?_⟩
  rw [arm_eval_DictComp]
  have cells : ∀ y ∈ sc.names, y.2 = .free → ∃ c, X.env.cells.lookup y.1 = some c := fun y hy e => (ok.free y hy e).elim (fun k => I.ok.has _ (.inl k)) fun k => I.ok.has _ (.inr k)
  refine wpAny_comprehension_free (use := none) rfl hs (closure_ok cells) ok.kind (fun y hy e => by rw [ok.uniq y hy, e]) (thn (hi.run pins s σ H _ I h) fun xv s1 hx => thn hx fun itv s2 h2 => ?_)
  obtain ⟨it, fp, tn, J, H2, e, I2, T, st2, f2, q⟩ := h2
  subst e
  refine wpAny_newObj_type (newEnv_comp ?_)
  generalize hD : s2.heap.objs.size = D
  obtain ⟨W, ⟨m0, w0⟩, turn⟩ := q D (I2.hok.fresh (Nat.le_of_eq hD))
  generalize hs3 : ({ s2 with heap := s2.heap.push { cls := .type "dict", data := .dict #[] } } : Shared) = s3
  have h3 : s3.heap = s2.heap.push { cls := .type "dict", data := .dict #[] } := by rw [← hs3]
  have I3 : Inv X pins σ (upd H2 D (DicO X.prog X.w D [])) s3 := by
    rw [← hs3]
    refine I2.laid (t' := s2.toks) (fun b o e => Heap.get?_push_of_some _ e) (Nat.le_of_eq hD) ?_
    rw [← hD]
    exact dicO_ok (dic_empty I2.big)
  have f3 : ∀ b ∈ fp, FpOk X pins (upd H2 D (DicO X.prog X.w D [])) b ∧ b < s3.heap.objs.size := fun b hb => by
    obtain ⟨o, eo, _⟩ := T.obj _ _ st2 b hb
    have lt : b < s2.heap.objs.size := Heap.lt_size eo
    refine ⟨⟨?_, (f2 b hb).2⟩, by rw [h3, Heap.size_push]; exact Nat.lt_succ_of_lt lt⟩
    rw [upd_ne (by rw [← hD]; exact Nat.ne_of_lt lt)]
    exact (f2 b hb).1
  have I4 := block_start I3 ok hN f3
  have pg := hg s3 (upd H2 D (DicO X.prog X.w D [])) s3.heap.objs.size (cellsFrom (s3.heap.objs.size + 1) sc.names (cloFrom X.env.cells sc.names [])) fp
  have pt := ht s3 (upd H2 D (DicO X.prog X.w D [])) s3.heap.objs.size (cellsFrom (s3.heap.objs.size + 1) sc.names (cloFrom X.env.cells sc.names [])) fp
  have pk := hk s3 (upd H2 D (DicO X.prog X.w D [])) s3.heap.objs.size (cellsFrom (s3.heap.objs.size + 1) sc.names (cloFrom X.env.cells sc.names [])) fp
  have pv := he s3 (upd H2 D (DicO X.prog X.w D [])) s3.heap.objs.size (cellsFrom (s3.heap.objs.size + 1) sc.names (cloFrom X.env.cells sc.names [])) fp
  have pi1 := hi1 s3 (upd H2 D (DicO X.prog X.w D [])) s3.heap.objs.size (cellsFrom (s3.heap.objs.size + 1) sc.names (cloFrom X.env.cells sc.names [])) fp
  have pg1 := hg1 s3 (upd H2 D (DicO X.prog X.w D [])) s3.heap.objs.size (cellsFrom (s3.heap.objs.size + 1) sc.names (cloFrom X.env.cells sc.names [])) fp
  have pt1 := ht1 s3 (upd H2 D (DicO X.prog X.w D [])) s3.heap.objs.size (cellsFrom (s3.heap.objs.size + 1) sc.names (cloFrom X.env.cells sc.names [])) fp
  have none3 : ∀ b ∈ fp, (upd H2 D (DicO X.prog X.w D [])) b = none := fun b hb => (f3 b hb).1.1
  show codeAny _ _ (.compStart (dc2 kx vx t0 i0 fs0 t1 i1 fs1 sc pos) 0 (.ref it) (.ref D) (compEnvC sc (cellsFrom (s3.heap.objs.size + 1) sc.names (cloFrom X.env.cells sc.names [])) s3.heap.objs.size X.env)) _ { s3 with heap := pushCells (s3.heap.push { cls := .type "dict", data := .dict #[] }) sc.names }
  generalize hce : compEnvC sc (cellsFrom (s3.heap.objs.size + 1) sc.names (cloFrom X.env.cells sc.names [])) s3.heap.objs.size X.env = ce at I4 pg pt pk pv pi1 pg1 pt1 ⊢
  have loc : ce.locals = s3.heap.objs.size := by subst hce; rfl
  generalize upd H2 D (DicO X.prog X.w D []) = H3 at I3 I4 pg pt pk pv pi1 pg1 pt1 w0 none3 f3
  generalize hs4 : ({ s3 with heap := pushCells (s3.heap.push { cls := .type "dict", data := .dict #[] }) sc.names } : Shared) = s4 at I4 ⊢
  have st4 : tn 0 s4.heap := T.keep _ _ _ st2 fun b _ o e => by
    rw [← hs4]
    refine pushCells_keeps _ _ _ _ (Heap.get?_push_of_some _ ?_)
    rw [h3]
    exact Heap.get?_push_of_some _ e
  have stat : ∀ {σ' : L2.St} {H' : Hp} {s' : Shared}, Inv (X.blk s3 H3 sc ce fp) [] σ' H' s' → (∀ b ∈ fp, H' b = none) → ∀ b ∈ fp, FpOk (X.blk s3 H3 sc ce fp) [] H' b := fun {σ' H' s'} I' hn b hb =>
    ⟨hn b hb, (I'.ok.exf b hb).1, I'.ok.exfs b hb, .inl hb, fun x c e => (I'.ok.exf b hb).2 x c e, fun p hp => (by simp at hp : False).elim⟩
  have loop : codeAny (model X.prog X.w) X.A (.compLoop (dc2 kx vx t0 i0 fs0 t1 i1 fs1 sc pos) 0 (.ref it) (.ref D) ce) (compPost (model X.prog X.w) X.A X.xe none (EP X pins σ Q) (.ref D) s3.heap.objs.size) s4 := by
    refine loop_d2o (hs1 ce) (fun n s' => ∃ i H', Inv (X.blk s3 H3 sc ce fp) [] (wipe σ (own.map (·.2))) H' s' ∧ tn i s'.heap ∧ (∀ b ∈ fp, H' b = none) ∧ W i n H') ?_ m0 ⟨0, H3, I4, st4, none3, w0⟩
    rintro n s5 ⟨i, H5, I5, st5, n5, w5⟩
    rcases turn i n H5 w5 with ⟨stop, qq⟩ | ⟨go, Nx, hNx, step⟩
    · refine thnF (T.done (X.blk s3 H3 sc ce fp) rfl rfl rfl hc i [] s5 _ H5 (fun _ _ => False) I5 (stat I5 n5) st5 stop) fun r s6 ⟨hr, I6⟩ => ?_
      subst hr
      have I7 : Inv X pins σ H5 s6 := I3.call' (ch := fp) I6.os I6.base I6.hok I6.bare fun b hb => ⟨(f3 b hb).1.2.2.2.1, (f3 b hb).1.2.1, (f3 b hb).1.2.2.2.2.1, (f3 b hb).1.2.2.2.2.2⟩
      have nC : H5 s3.heap.objs.size = none := by
        rw [← loc]
        exact I6.free
      obtain ⟨m, hn, _⟩ := I6.loc
      replace hn : s6.heap.Ns ce.locals m := hn
      rw [loc] at hn
      obtain ⟨f0, f1, f2', f3', f4, f5⟩ := I3.fpOk (Nat.le_refl _) nC
      exact ⟨m, hn, fun h'' sb => ⟨.ref D, H5, I7.turned (t' := s6.toks) (fun b o hb e => (sb.2 b hb).trans e) f0 f1 f3' f4 f5, rfl, qq⟩⟩
    · refine thnF (T.item (X.blk s3 H3 sc ce fp) rfl rfl rfl hc i [] s5 _ H5 (fun _ _ => False) I5 (stat I5 n5) st5 go) fun r s6 ⟨u, hr, h6⟩ => ?_
      subst hr
      refine thnF h6 fun _ s7 ⟨x, H7, I7, r7, y7, st7, n7⟩ => ?_
      refine thnF (pg.run _ s7 _ H7 x u _ (I7.pinned (stat I7 n7) (T.obj _ _ st7)) r7 (step x H7 y7)) fun _ s8 ⟨σ8, H8, I8, hw8, q8⟩ => ?_
      refine thnF (pt.run _ s8 σ8 H8 _ I8 q8) fun b s9 ⟨H9, I9, q9⟩ => ?_
      have fin : ∀ {σ9 : L2.St} {s' : Shared} {H' : Hp}, Inv (X.blk s3 H3 sc ce fp) ([] ++ pinsAt fp s7.heap) σ9 H' s' → (wipe σ (own.map (·.2))).length = σ9.length → (∀ (j : Nat) v, (wipe σ (own.map (·.2)))[j]? = some (some v) → σ9[j]? = some (some v)) → Nx H' →
          ∃ m, m < n ∧ ∃ i H', Inv (X.blk s3 H3 sc ce fp) [] (wipe σ (own.map (·.2))) H' s' ∧ tn i s'.heap ∧ (∀ b ∈ fp, H' b = none) ∧ W i m H' := fun {σ9 s' H'} I' hl hkp nx => by
        obtain ⟨m', hm, w'⟩ := hNx H' nx
        have pin' : ∀ b ∈ fp, ∀ o, s7.heap.get? b = some o → s'.heap.get? b = some o ∧ H' b = none := fun b hb o e =>
          let z := I'.pin (b, o) (List.mem_append_right _ (List.mem_append_right _ (mem_pinsAt hb e)))
          ⟨z.1, z.2.1⟩
        refine ⟨m', hm, i + 1, H', (I'.unpinned (pins := [])).weak hl hkp, T.keep _ _ _ st7 fun b hb o e => (pin' b hb o e).1, fun b hb => ?_, w'⟩
        obtain ⟨o, e, _⟩ := T.obj _ _ st7 b hb
        exact (pin' b hb o e).2
      have l8 : (wipe σ (own.map (·.2))).length = σ8.length := by rw [← hw8, wipe_length]
      have k8 : ∀ (j : Nat) v, (wipe σ (own.map (·.2)))[j]? = some (some v) → σ8[j]? = some (some v) ∧ j ∉ own.map (·.2) := fun j v e => by
        rw [← hw8] at e
        exact wipe_some e
      cases b with
      | false =>
        simp only [Bool.false_eq_true, if_false] at q9 ⊢
        exact fin I9 l8 (fun j v e => (k8 j v e).1) q9
      | true =>
        simp only [if_true] at q9 ⊢
        refine thnF (pi1.run _ s9 σ8 H9 _ I9 q9) fun xv s10 hx => thnF hx fun itv s11 h11 => ?_
        obtain ⟨it1, fp1, tn1, J1, H11, e1, I11, T1, st11, f11, W1, ⟨m1, w1⟩, turn1⟩ := h11
        subst e1
        have stat1 : ∀ {H' : Hp}, (∀ b ∈ fp1, H' b = none) → ∀ b ∈ fp1, FpOk (X.blk s3 H3 sc ce fp) ([] ++ pinsAt fp s7.heap) H' b := fun hn b hb => ⟨hn b hb, (f11 b hb).2⟩
        have loop1 : codeAny (model X.prog X.w) X.A (.compLoop (dc2 kx vx t0 i0 fs0 t1 i1 fs1 sc pos) 1 (.ref it1) (.ref D) ce)
            (fun r s' => match r with
              | .ok _ => ∃ m, m < n ∧ ∃ i H', Inv (X.blk s3 H3 sc ce fp) [] (wipe σ (own.map (·.2))) H' s' ∧ tn i s'.heap ∧ (∀ b ∈ fp, H' b = none) ∧ W i m H'
              | .error _ => False) s11 := by
          refine loop_d2i (fun k s' => ∃ j H', Inv (X.blk s3 H3 sc ce fp) ([] ++ pinsAt fp s7.heap) (wipe σ8 vs1) H' s' ∧ tn1 j s'.heap ∧ (∀ b ∈ fp1, H' b = none) ∧ W1 j k H') ?_ m1 ⟨0, H11, I11.weak (wipe_length _ _) (fun j v e => (wipe_some e).1), st11, fun b hb => (f11 b hb).1, w1⟩
          rintro k s12 ⟨j, H12, I12, st12, n12, w12⟩
          rcases turn1 j k H12 w12 with ⟨stop1, nx1⟩ | ⟨go1, Nx1, hNx1, step1⟩
          · refine thnF (T1.done (X.blk s3 H3 sc ce fp) rfl rfl rfl hc j _ s12 (wipe σ8 vs1) H12 (fun _ _ => False) I12 (stat1 n12) st12 stop1) fun r s13 ⟨hr, I13⟩ => ?_
            subst hr
            refine fin I13 (l8.trans (wipe_length σ8 vs1).symm) (fun j v e => ?_) nx1
            obtain ⟨z1, z2⟩ := k8 j v e
            rw [wipe_out fun z => z2 (hv j z)]
            exact z1
          · refine thnF (T1.item (X.blk s3 H3 sc ce fp) rfl rfl rfl hc j _ s12 (wipe σ8 vs1) H12 (fun _ _ => False) I12 (stat1 n12) st12 go1) fun r s13 ⟨u1, hr, h13⟩ => ?_
            subst hr
            refine thnF h13 fun _ s14 ⟨x1, H14, I14, r14, y14, st14, n14⟩ => ?_
            refine thnF (pg1.run _ s14 (wipe σ8 vs1) H14 x1 u1 _ (I14.pinned (stat1 n14) (T1.obj _ _ st14)) r14 (step1 x1 H14 y14)) fun _ s15 ⟨σ15, H15, I15, hw15, q15⟩ => ?_
            refine thnF (pt1.run _ s15 σ15 H15 _ I15 q15) fun b1 s16 ⟨H16, I16, q16⟩ => ?_
            have fin1 : ∀ {s' : Shared} {H' : Hp}, Inv (X.blk s3 H3 sc ce fp) (([] ++ pinsAt fp s7.heap) ++ pinsAt fp1 s14.heap) σ15 H' s' → Nx1 H' → ∃ m, m < k ∧ ∃ j H', Inv (X.blk s3 H3 sc ce fp) ([] ++ pinsAt fp s7.heap) (wipe σ8 vs1) H' s' ∧ tn1 j s'.heap ∧ (∀ b ∈ fp1, H' b = none) ∧ W1 j m H' := fun {s' H'} I' nx => by
              obtain ⟨m', hm, w'⟩ := hNx1 H' nx
              have pin' : ∀ b ∈ fp1, ∀ o, s14.heap.get? b = some o → s'.heap.get? b = some o ∧ H' b = none := fun b hb o e =>
                let z := I'.pin (b, o) (List.mem_append_right _ (List.mem_append_right _ (mem_pinsAt hb e)))
                ⟨z.1, z.2.1⟩
              refine ⟨m', hm, j + 1, H', I'.unpinned.weak (by rw [← hw15, wipe_length]) (fun j v e => by rw [← hw15] at e; exact (wipe_some e).1), T1.keep _ _ _ st14 fun b hb o e => (pin' b hb o e).1, fun b hb => ?_, w'⟩
              obtain ⟨o, e, _⟩ := T1.obj _ _ st14 b hb
              exact (pin' b hb o e).2
            cases b1 with
            | false =>
              simp only [Bool.false_eq_true, if_false] at q16 ⊢
              exact fin1 I16 q16
            | true =>
              simp only [if_true] at q16 ⊢
              refine thnF (pk.run _ s16 σ15 H16 _ I16 q16) fun kv s17 ⟨yk, H17, I17, r17, q17⟩ => ?_
              refine thnF (pv.run _ s17 σ15 H17 _ I17 q17) fun vv s18 ⟨yv, H18, I18, r18, mm, bb, kk, ek, dA, hb18, hz, nx⟩ => ?_
              subst ek
              cases r17
              exact dic_set (X := X.blk s3 H3 sc ce fp) hu I18 dA hb18 hz r18 fun s19 I19 => fin1 I19 nx
        exact start_d2 loop1 (T1.self X.A 0 _ _ _ st11 loop1)
  exact codeAny_compStart_dict loop (T.self X.A 0 _ _ _ st4 loop)
end
end Cot

set_option Elab.async false
set_option linter.all false
set_option maxRecDepth 100000
set_option maxHeartbeats 4000000
/-! New dicts as they are told; sets as they are made. -/
namespace Cot
open PySem PySem.Spec PyProof.Rows L2 Evl
def givenA {α : Type} (n : Nat) (f : Nat → Bool) (v : Nat → α) : List α := ((List.range n).filter f).map v
theorem givenA_yes {α : Type} {n : Nat} {f : Nat → Bool} {v : Nat → α} (h : f n = true) : givenA (n + 1) f v = givenA n f v ++ [v n] := by
  unfold givenA
  rw [List.range_succ, List.filter_append, List.map_append, List.filter_cons, if_pos h]
  rfl
theorem givenA_no {α : Type} {n : Nat} {f : Nat → Bool} {v : Nat → α} (h : f n = false) : givenA (n + 1) f v = givenA n f v := by
  unfold givenA
  rw [List.range_succ, List.filter_append, List.map_append, List.filter_cons, if_neg (by rw [h]; decide)]
  exact List.append_nil _
theorem givenA_len {α : Type} (n : Nat) (f : Nat → Bool) (v : Nat → α) : (givenA n f v).length ≤ n := by
  unfold givenA
  rw [List.length_map]
  have := List.length_filter_le f (List.range n)
  rw [List.length_range] at this
  exact this
theorem givenA_mem {α : Type} {n : Nat} {f : Nat → Bool} {v : Nat → α} {x : α} : x ∈ givenA n f v ↔ ∃ i, i < n ∧ f i = true ∧ v i = x := by
  unfold givenA
  simp [List.mem_map, List.mem_filter, and_assoc]
def flatA {α : Type} (n : Nat) (L : Nat → List α) : List α := ((List.range n).map L).flatten
theorem flatA_succ {α : Type} (n : Nat) (L : Nat → List α) : flatA (n + 1) L = flatA n L ++ L n := by
  unfold flatA
  rw [List.range_succ, List.map_append, List.flatten_append]
  simp
theorem flatA_mem {α : Type} {n : Nat} {L : Nat → List α} {x : α} : x ∈ flatA n L ↔ ∃ i, i < n ∧ x ∈ L i := by
  unfold flatA
  simp only [List.mem_flatten, List.mem_map, List.mem_range]
  constructor
  · rintro ⟨l, ⟨i, hi, rfl⟩, hx⟩
    exact ⟨i, hi, hx⟩
  · rintro ⟨i, hi, hx⟩
    exact ⟨L i, ⟨i, hi, rfl⟩, hx⟩
/-- a new dict, by its keys and values -/
def EvC (K : PySem.W.Frag) (P : Program) (w : World) (te : TE) (σ : L2.St) (Hd : Hp) (L : List (List Int × V)) : Prop := ∀ H, Ex Hd H → ∀ Q : VK, (∀ a m H2 Hn, Gr Hd H Hn H2 → H a = none → Hn a = none → H2 a = some (DicO P w a m) → KeysAt K Hn m → m.map (fun e => (e.1, e.2.2)) = L → Q (.ref a) H2) → te σ H Q
/-- what a def that tells a new dict promises -/
def spC (K : PySem.W.Frag) (P : Program) (w : World) (R : List PyData → List (List Int × V) → Prop) : Sp := fun vs H Q _ => ∃ Hd ds L, Ex Hd H ∧ DpAll K Hd vs ds ∧ R ds L ∧ ∀ a m H2 Hn, Gr Hd H Hn H2 → H a = none → Hn a = none → H2 a = some (DicO P w a m) → KeysAt K Hn m → m.map (fun e => (e.1, e.2.2)) = L → Q (.ref a) H2
section
variable {K : PySem.W.Frag} {P : Program} {w : World} {H H' Hd Hd' Hn H1 H2 : Hp} {σ : L2.St} {te tk tv : TE} {tr : TA} {tt tt1 : TT} {n : Nat} {wi wi1 : TI} {g g1 : TG} {L : List (List Int × V)} {ds es : List PyData} {D : Ends} {tz : TS} {i : Nat}
theorem ec_call {R : List PyData → List (List Int × V) → Prop} {E : XK} (h : EvDA K tr σ Hd ds) (hr : R ds L) : EvC K P w (tCall (spC K P w R) [] E tr) σ Hd L := fun H s Q q =>
  h H s _ fun vs H2 Hn g hd => ⟨Hn, ds, L, g.sub, by rw [List.append_nil]; exact hd, hr, fun a m H3 Hm g3 ha hm h3 hk e => q a m H3 Hm (g.trans g3) (fresh_back g.ex ha) hm h3 hk e⟩
theorem go_retC (s : Ex Hd H) (h : EvC K P w te σ Hd L) (k : ∀ a m H2 Hn, Gr Hd H Hn H2 → H a = none → Hn a = none → H2 a = some (DicO P w a m) → KeysAt K Hn m → m.map (fun e => (e.1, e.2.2)) = L → D.rt (.ref a) H2) : Go (tSeq (tRet te) tz) D σ H := fun H1 e1 =>
  h H1 (s.trans e1) _ fun a m H2 Hn g ha hn h2 hk e => k a m H2 Hn (g.pre e1) (fresh_back e1 ha) hn h2 hk e
theorem go_asgC (s : Ex Hd H) (h : EvC K P w te σ Hd L) (k : ∀ a m H2 Hn, Gr Hd H Hn H2 → H a = none → Hn a = none → H2 a = some (DicO P w a m) → KeysAt K Hn m → m.map (fun e => (e.1, e.2.2)) = L → Go tz D (σ.set i (some (.ref a))) H2) : Go (tSeq (tAsg te (gName i)) tz) D σ H := fun H1 e1 =>
  h H1 (s.trans e1) _ fun a m H2 Hn g ha hn h2 hk e => k a m H2 Hn (g.pre e1) (fresh_back e1 ha) hn h2 hk e H2 (Ex.refl _)
theorem val_fresh {m : Dkv} {k : List Int} (h : m.map (fun e => (e.1, e.2.2)) = L) (hk : k ∉ L.map (·.1)) : valD m k = none := by
  rw [valD_none]
  intro e he hek
  refine hk ?_
  rw [← h, List.map_map]
  exact List.mem_map.mpr ⟨e, he, hek⟩
theorem ec_nc2 {S : Nat → L2.St → L2.St → Hp → Prop} {S1 : Nat → Nat → L2.St → L2.St → Hp → Prop} {vs vs1 : List Nat} (n1 : Nat → Nat) (h : EvI K wi g σ Hd n S) (f : Nat → Nat → Bool) (kv : Nat → Nat → List Int × V)
    (hz : ∀ i, i < n → (flatA i fun i => givenA (n1 i) (f i) (kv i)).length + n1 i ≤ 90000)
    (hnd : ∀ i j, i < n → j < n1 i → f i j = true → (kv i j).1 ∉ ((flatA i fun i => givenA (n1 i) (f i) (kv i)) ++ givenA j (f i) (kv i)).map (·.1))
    (ht : ∀ (i : Nat) (σ2 : L2.St) (Hn : Hp), i < n → Ex Hd Hn → S i (wipe σ vs) σ2 Hn → wipe σ2 vs = wipe σ vs ∧ EvI K wi1 g1 σ2 Hn (n1 i) (S1 i) ∧
      ∀ (j : Nat) (σ3 : L2.St) (Hk : Hp), j < n1 i → Ex Hn Hk → S1 i j (wipe σ2 vs1) σ3 Hk → wipe σ3 vs1 = wipe σ2 vs1 ∧ EvT tt1 σ3 Hk (f i j) ∧ (f i j = true → EvD K tk σ3 Hk (.tuple ((kv i j).1.map .int)) ∧ Ev tv σ3 Hk (kv i j).2)) :
    EvC K P w (tNc2 K P w wi g tYes wi1 g1 tt1 tk tv vs vs1) σ Hd (flatA n fun i => givenA (n1 i) (f i) (kv i)) := fun H s Q q =>
  h H s _ fun J H1 Hn G Y gr wk hG hY D hD => by
    refine ⟨fun i m H' => m = n - i ∧ i ≤ n ∧ ∃ Hm mm, Gr Hn H1 Hm H' ∧ Hm D = none ∧ H' D = some (DicO P w D mm) ∧ KeysAt K Hm mm ∧ mm.map (fun e => (e.1, e.2.2)) = flatA i fun i => givenA (n1 i) (f i) (kv i), ⟨n, by simp, Nat.zero_le _, Hn, [], Gr.alloc gr.sub hD, fresh_back gr.sub hD, upd_same, fun _ h => (by cases h), rfl⟩, ?_⟩
    rintro i m H' ⟨rfl, hi, Hm, mm, g0, hm, h2, hk, hL⟩
    have q0 := hG H' (g0.dx.trans g0.sub)
    by_cases hlt : i < n
    · refine .inr ⟨wk.goes i H' hlt q0, fun H2 => ∃ Hm mm, Gr Hn H1 Hm H2 ∧ Hm D = none ∧ H2 D = some (DicO P w D mm) ∧ KeysAt K Hm mm ∧ mm.map (fun e => (e.1, e.2.2)) = flatA (i + 1) fun i => givenA (n1 i) (f i) (kv i), fun H2 p' => ⟨n - (i + 1), by omega, rfl, hlt, p'⟩, fun x H'' y => ?_⟩
      refine hY i x H' H'' _ _ hlt (g0.dx.trans g0.sub) (wk.yields i H' x H'' hlt q0 y) fun σ2 H3 e3 hS => ?_
      obtain ⟨hw, hI, hT⟩ := ht i σ2 Hn hlt gr.dx hS
      refine ⟨hw, ?_⟩
      refine hI H3 ((g0.dx.trans g0.sub).trans e3) _ fun J1 H4 Hk G1 Y1 gk w1 hG1 hY1 => ?_
      have gm : Gr Hm H3 (un Hm Hk) H4 := gk.up g0.dx (g0.sub.trans e3)
      have em : Ex Hk (un Hm Hk) := gk.upr g0.dx (g0.sub.trans e3)
      have hm4 : un Hm Hk D = none := gm.fr _ _ (e3 _ _ h2) hm
      have hzi := hz i hlt
      refine ⟨fun j k H5 => k = n1 i - j ∧ j ≤ n1 i ∧ ∃ Ho mm, Gr Hn H1 Ho H5 ∧ Ex (un Hm Hk) Ho ∧ Ho D = none ∧ H5 D = some (DicO P w D mm) ∧ KeysAt K Ho mm ∧ mm.map (fun e => (e.1, e.2.2)) = (flatA i fun i => givenA (n1 i) (f i) (kv i)) ++ givenA j (f i) (kv i),
        ⟨n1 i, by simp, Nat.zero_le _, un Hm Hk, mm, (g0.post e3).trans gm, Ex.refl _, hm4, gk.ex _ _ (e3 _ _ h2), hk.mono gm.dx, by rw [hL]; exact (List.append_nil _).symm⟩, ?_⟩
      rintro j k H5 ⟨rfl, hj, Ho, m5, go, eo, ho, h5, hk5, hL5⟩
      have q1 := hG1 H5 ((em.trans eo).trans go.sub)
      by_cases hlt1 : j < n1 i
      · refine .inr ⟨w1.goes j H5 hlt1 q1, fun H6 => ∃ Ho mm, Gr Hn H1 Ho H6 ∧ Ex (un Hm Hk) Ho ∧ Ho D = none ∧ H6 D = some (DicO P w D mm) ∧ KeysAt K Ho mm ∧ mm.map (fun e => (e.1, e.2.2)) = (flatA i fun i => givenA (n1 i) (f i) (kv i)) ++ givenA (j + 1) (f i) (kv i), fun H6 p' => ⟨n1 i - (j + 1), by omega, rfl, hlt1, p'⟩, fun x1 H6 y1 => ?_⟩
        refine hY1 j x1 H5 H6 _ _ hlt1 ((em.trans eo).trans go.sub) (w1.yields j H5 x1 H6 hlt1 q1 y1) fun σ3 H7 e7 hS1 => ?_
        obtain ⟨hw1, hT1, hE⟩ := hT j σ3 Hk hlt1 gk.dx hS1
        refine ⟨hw1, hT1 H7 (((em.trans eo).trans go.sub).trans e7) _ fun H8 e8 => ?_⟩
        have h8 : H8 D = some (DicO P w D m5) := e8 _ _ (e7 _ _ h5)
        cases hf : f i j with
        | false =>
          refine ⟨Ho, m5, go.post (e7.trans e8), eo, ho, h8, hk5, ?_⟩
          rw [givenA_no hf]
          exact hL5
        | true =>
          show tk σ3 H8 _
          obtain ⟨hE1, hE2⟩ := hE hf
          refine (hE1.mono (em.trans eo)) H8 ((go.sub.trans e7).trans e8) _ fun y H9 Hp g9 hy => ?_
          obtain ⟨p, rfl, hp⟩ := dp_key hy
          refine (hE2.mono ((em.trans eo).trans g9.dx)) H9 g9.sub _ fun H10 e10 => ?_
          have hp9 : Hp D = none := g9.fr _ _ h8 ho
          have fr : valD m5 (kv i j).1 = none := val_fresh hL5 (hnd i j hlt hlt1 hf)
          have kp : KeysAt K Hp m5 := hk5.mono g9.dx
          refine ⟨m5, p, (kv i j).1, rfl, ⟨e10 _ _ (g9.ex _ _ h8), kp.mono (g9.sub.trans e10)⟩, ex_t (g9.sub.trans e10) hp, ?_, Hp, putD m5 (kv i j).1 p (kv i j).2, ⟨Ex.mut (((go.ex.trans (e7.trans e8)).trans g9.ex).trans e10) hD, go.dx.trans g9.dx, Ex.mut (g9.sub.trans e10) hp9, fun a o ha hd => g9.fr a o ((e7.trans e8) a o (go.ex a o ha)) (go.fr a o ha hd)⟩, eo.trans g9.dx, hp9, upd_same, kp.put hp, ?_⟩
          · refine sz_lt ?_
            have l1 := congrArg List.length hL5
            rw [List.length_map, List.length_append] at l1
            have := givenA_len j (f i) (kv i)
            omega
          · rw [putD_new _ _ fr, List.map_append, hL5, givenA_yes hf, ← List.append_assoc]
            rfl
      · have e : j = n1 i := by omega
        subst e
        refine .inl ⟨w1.stops H5 q1, Ho, m5, go, ho, h5, hk5, ?_⟩
        rw [flatA_succ]
        exact hL5
    · have e : i = n := by omega
      subst e
      exact .inl ⟨wk.stops H' q0, q D mm H' Hm (gr.trans g0) (fresh_back gr.ex hD) hm h2 hk hL⟩
end
/-! ### list(d), set(l), x in s -/
theorem pb_enumT {X : Cx} {K : PySem.W.Frag} {e : Expr} {ta : TA} {p pos tpos : Pos} {elts : List Expr} {kk : Nat} (eK : X.K = K) (hg : Gl X "enumerate") (hm : X.mg "enumerate" = none) (ha : PA X [e] ta) (hs : starEach [e] X.env = [(false, eval e X.env)] := by rfl) :
    PI X (.Tuple elts kk tpos) (.Call (.Name "enumerate" p) [e] [] pos) (iEnumT K ta) := by
  subst eK
  exact pi_enumT hg hm ha hs
abbrev keyD (k : List Int) : PyData := .tuple (k.map .int)
def rNList (K : PySem.W.Frag) (P : Program) (w : World) : List V → Hp → VK → Prop := fun xs H Q => ∃ d m, xs = [V.ref d] ∧ DiAt K P w H d m ∧ ∀ p, H p = none → Q (.ref p) (upd H p (.lst (m.map fun e => V.ref e.2.1)))
theorem call_nlist {X : Cx} {K : PySem.W.Frag} {P : Program} {w : World} (e1 : X.K = K) (e2 : X.prog = P) (e3 : X.w = w) (hc : X.calm = true) : CallR X (.type "list") (rNList K P w) := by
  subst e1 e2 e3
  intro pins s σ H xs us Q I r h
  obtain ⟨d, m, rfl, dA, q⟩ := h
  obtain ⟨u, rfl, rx⟩ := vals1 r
  cases rx
  obtain ⟨z, y, ys, rel, o, es, ep, ho, hx, hdt, he, _, _⟩ := dic_of I dA.r
  have l1 : es.size = ys.length := size_of_entries he
  have l2 : m.length = ys.length := Paired.length rel
  refine PySem.W.kdl_call (kdl_raw y hx hdt) (I.ok.hd hc) ho (by omega) fun h' tk acc c kp eo it => ?_
  have lens : acc.toList.length = m.length := by
    rw [Array.length_toList, it.1]
    omega
  have keys : ∀ {ms : Dkv} {zs : List (List Int × Addr × Value)}, DRel ms zs → ∀ (j : Nat) (z : List Int × Addr × Value), zs[j]? = some z → ∃ e, ms[j]? = some e ∧ e.2.1 = z.2.1 := by
    intro ms zs q
    induction q with
    | nil => intro j z hz; simp at hz
    | @cons a b as bs hab t ih =>
      intro j z hz
      cases j with
      | zero =>
        cases hz
        exact ⟨a, rfl, hab.2.1⟩
      | succ j => exact ih j z hz
  refine ⟨.ref s.heap.objs.size, _, I.laid (t' := tk) (o := .lst (m.map fun e => V.ref e.2.1)) kp (Nat.le_refl _) ⟨by rw [List.length_map]; exact z, acc.toList, c, ?_, by rw [Array.toArray_toList]; exact eo⟩, rfl, q _ (I.hok.fresh (Nat.le_refl _))⟩
  refine vals_of_at (by rw [List.length_map, lens]) fun j x v h1 h2 => ?_
  obtain ⟨en, hen, rfl⟩ := it.2 j v (by rw [← Array.getElem?_toList]; exact h2)
  have qe := entry_at he j
  rw [hen] at qe
  cases hb : ys[j]? with
  | none => rw [hb] at qe; exact nomatch (show some en = none from qe)
  | some b =>
    rw [hb] at qe
    have e2 : en = entryOfKey (TK X.prog X.w) b := Option.some.inj qe
    obtain ⟨e, hm, hee⟩ := keys rel j b hb
    rw [List.getElem?_map, hm] at h1
    cases h1
    rw [e2]
    show Value.ref b.2.1 = Value.ref e.2.1
    rw [hee]
section
variable {K : PySem.W.Frag} {P : Program} {w : World} {H H' Hd Hd' Hn H1 H2 : Hp} {σ : L2.St} {te ty td : TE} {L : List (List Int × V)} {D : Ends} {tz : TS} {i : Nat} {a : Addr} {xs : List V} {qs : List (List Int)} {k : List Int}
theorem dpa_keys : ∀ {m : Dkv}, KeysAt K H m → DpAll K H (m.map fun e => V.ref e.2.1) (m.map fun e => keyD e.1)
  | [], _ => .nil
  | e :: m, h => .cons (key_dp (h e List.mem_cons_self)) (dpa_keys fun x hx => h x (List.mem_cons_of_mem _ hx))
theorem en_listC (h : EvC K P w te σ Hd L) : EvN K (tCB (rNList K P w) (tCons te tNil)) σ Hd (L.map fun x => keyD x.1) := fun H s Q q =>
  h H s _ fun a m H2 Hn g ha hn h2 hk e => ⟨a, m, rfl, ⟨h2, hk.mono g.sub⟩, fun p hp => by
    refine q p _ _ Hn (g.trans (Gr.alloc g.sub hp)) (fresh_back g.ex hp) (fresh_back g.sub hp) upd_same ?_
    have h1 := dpa_keys hk
    have e2 : (m.map fun e => keyD e.1) = L.map fun x => keyD x.1 := by
      rw [← e, List.map_map]
      rfl
    rw [e2] at h1
    exact h1⟩
theorem keys_refs : ∀ {qs : List (List Int)} {xs : List V}, DpAll K H xs (qs.map keyD) → ∃ ks : List (Addr × List Int), xs = ks.map (fun p => V.ref p.1) ∧ ks.map (·.2) = qs ∧ ∀ p ∈ ks, SqT K H p.1 (p.2.map V.int)
  | [], _, h => by cases h; exact ⟨[], rfl, rfl, fun _ h => (by cases h)⟩
  | q :: qs, _, h => by
    cases h with
    | cons h1 h2 =>
      obtain ⟨p, rfl, hp⟩ := dp_key h1
      obtain ⟨ks, rfl, e, hk⟩ := keys_refs h2
      refine ⟨(p, q) :: ks, rfl, by rw [List.map_cons, e], fun x hx => ?_⟩
      rcases List.mem_cons.mp hx with rfl | hx
      · exact hp
      · exact hk x hx
/-- the set at a of these tuples -/
structure SiAt (K : PySem.W.Frag) (P : Program) (w : World) (Hn H : Hp) (a : Addr) (qs : List (List Int)) : Prop where
  ex : ∃ L, H a = some (SetO P w a L) ∧ (∀ p ∈ L, SqT K Hn p.1 (p.2.map V.int)) ∧ ∀ k, k ∈ L.map (·.2) ↔ k ∈ qs
theorem go_asgS (s : Ex Hd H) (h : EvD K te σ Hd (.list (qs.map keyD))) (hl : qs.length < 200) (kk : ∀ a H' Hn, Gr Hd H Hn H' → H a = none → Hn a = none → SiAt K P w Hn H' a qs → Go tz D (σ.set i (some (.ref a))) H') : Go (tSeq (tAsg (tCB (rSetL K P w) (tCons te tNil)) (gName i)) tz) D σ H := fun H1 e1 =>
  h H1 (s.trans e1) _ fun v H2 Hn g hv => by
    cases hv with
    | @lst l xs ds hs hall =>
      obtain ⟨ks, rfl, e, hk⟩ := keys_refs hall
      refine ⟨l, ks, rfl, ex_l g.sub hs, fun p hp => ex_t g.sub (hk p hp), by rw [← e, List.length_map] at hl; exact hl, fun a L ha h1 h2 => ?_⟩
      refine kk a _ Hn ((g.trans (Gr.alloc g.sub ha)).pre e1) (fresh_back (e1.trans g.ex) ha) (fresh_back g.sub ha) ⟨L, upd_same, fun p hp => hk p (h1 p hp), fun k => ?_⟩ _ (Ex.refl _)
      constructor
      · intro h3
        obtain ⟨p, hp, rfl⟩ := List.mem_map.mp h3
        rw [← e]
        exact List.mem_map.mpr ⟨p, h1 p hp, rfl⟩
      · intro h3
        rw [← e] at h3
        obtain ⟨p, hp, rfl⟩ := List.mem_map.mp h3
        exact h2 p hp
theorem ev_inS (s : Ex Hd H) (hn : Ex Hn H) (hk : EvD K ty σ Hd (keyD k)) (hd : Ev td σ H (.ref a)) (S : SiAt K P w Hn H a qs) : Ev (tInS K P w ty td) σ H (.bl (decide (k ∈ qs))) := fun H1 e1 Q q =>
  hk H1 (s.trans e1) _ fun v H2 Hm g hv => hd H2 (e1.trans g.ex) _ fun H3 e3 => by
    obtain ⟨p, rfl, hp⟩ := dp_key hv
    obtain ⟨L, h1, h2, h3⟩ := S.ex
    have e4 : Ex H H3 := (e1.trans g.ex).trans e3
    refine ⟨a, L, p, k, rfl, rfl, e4 _ _ h1, fun x hx => ex_t (hn.trans e4) (h2 x hx), ex_t (g.sub.trans e3) hp, ?_⟩
    have e5 : decide (k ∈ L.map (·.2)) = decide (k ∈ qs) := by
      by_cases c : k ∈ qs
      · rw [decide_eq_true c, decide_eq_true ((h3 k).mpr c)]
      · rw [decide_eq_false c, decide_eq_false fun z => c ((h3 k).mp z)]
    rw [e5]
    exact q H3 (g.ex.trans e3)
theorem SiAt.mono {Hn' : Hp} (S : SiAt K P w Hn H a qs) (e1 : Ex Hn Hn') (e2 : ∀ o, H a = some o → H' a = some o) : SiAt K P w Hn' H' a qs := by
  obtain ⟨L, h1, h2, h3⟩ := S.ex
  exact ⟨L, e2 _ h1, fun p hp => ex_t e1 (h2 p hp), h3⟩
end
end Cot

set_option Elab.async false
set_option linter.all false
set_option maxRecDepth 100000
set_option maxHeartbeats 4000000
/-! sorted of pairs of tuples of ints that rise already, of any number. -/
namespace Cot
open PySem PySem.Spec PyProof.Rows L2 Evl
theorem lex_irr : ∀ x : List Int, HT.lexLt x x = false
  | [] => rfl
  | a :: x => by simp [HT.lexLt, lex_irr x]
theorem lex_tot : ∀ x y : List Int, HT.lexLt x y = true ∨ x = y ∨ HT.lexLt y x = true
  | [], [] => .inr (.inl rfl)
  | [], _ :: _ => .inl rfl
  | _ :: _, [] => .inr (.inr rfl)
  | a :: x, b :: y => by
    rcases Int.lt_trichotomy a b with h | h | h
    · exact .inl (by simp [HT.lexLt, h, Int.ne_of_lt h])
    · subst h
      rcases lex_tot x y with k | k | k
      · exact .inl (by simp [HT.lexLt, k])
      · exact .inr (.inl (by rw [k]))
      · exact .inr (.inr (by simp [HT.lexLt, k]))
    · exact .inr (.inr (by simp [HT.lexLt, h, Int.ne_of_lt h]))
theorem lex_tr : ∀ {x y z : List Int}, HT.lexLt x y = true → HT.lexLt y z = true → HT.lexLt x z = true
  | [], _ :: _, _ :: _, _, _ => rfl
  | [], [], _, h, _ => by cases h
  | _, _ :: _, [], _, h => by simp [HT.lexLt] at h
  | _ :: _, [], _, h, _ => by simp [HT.lexLt] at h
  | a :: x, b :: y, c :: z, h1, h2 => by
    simp only [HT.lexLt] at h1 h2 ⊢
    by_cases e1 : a = b
    · subst e1
      rw [if_pos rfl] at h1
      by_cases e2 : a = c
      · subst e2
        rw [if_pos rfl] at h2 ⊢
        exact lex_tr h1 h2
      · rw [if_neg e2] at h2 ⊢
        exact h2
    · rw [if_neg e1, decide_eq_true_eq] at h1
      by_cases e2 : b = c
      · subst e2
        rw [if_neg e1, decide_eq_true_eq]
        exact h1
      · rw [if_neg e2, decide_eq_true_eq] at h2
        rw [if_neg (by omega), decide_eq_true_eq]
        omega
abbrev Key2 := List Int × List Int
def ltK (p q : Key2) : Bool := if p.1 = q.1 then HT.lexLt p.2 q.2 else HT.lexLt p.1 q.1
theorem ltK_tot (p q : Key2) : ltK p q = true ∨ p = q ∨ ltK q p = true := by
  unfold ltK
  by_cases e : p.1 = q.1
  · rw [if_pos e, if_pos e.symm]
    rcases lex_tot p.2 q.2 with h | h | h
    · exact .inl h
    · exact .inr (.inl (Prod.ext e h))
    · exact .inr (.inr h)
  · rw [if_neg e, if_neg fun z => e z.symm]
    rcases lex_tot p.1 q.1 with h | h | h
    · exact .inl h
    · exact absurd h e
    · exact .inr (.inr h)
theorem ltK_irr (p : Key2) : ltK p p = false := by
  unfold ltK
  rw [if_pos rfl]
  exact lex_irr _
theorem ltK_tr {p q r : Key2} (h1 : ltK p q = true) (h2 : ltK q r = true) : ltK p r = true := by
  unfold ltK at h1 h2 ⊢
  by_cases e1 : p.1 = q.1
  · by_cases e2 : q.1 = r.1
    · rw [if_pos e1] at h1
      rw [if_pos e2] at h2
      rw [if_pos (e1.trans e2)]
      exact lex_tr h1 h2
    · rw [if_neg e2] at h2
      rw [if_neg (by rw [e1]; exact e2), e1]
      exact h2
  · rw [if_neg e1] at h1
    by_cases e2 : q.1 = r.1
    · rw [if_neg (by rw [← e2]; exact e1), ← e2]
      exact h1
    · rw [if_neg e2] at h2
      have h3 := lex_tr h1 h2
      rw [if_neg fun z => by rw [z, lex_irr] at h3; cases h3]
      exact h3
theorem ltK_swo {α : Type} (k : α → Key2) : SrtO.Swo fun x y => ltK (k x) (k y) := by
  have as : ∀ p q : Key2, ltK p q = true → ltK q p = false := fun p q h => by
    cases e : ltK q p with
    | false => rfl
    | true =>
      have h2 := ltK_tr h e
      rw [ltK_irr] at h2
      cases h2
  refine ⟨fun x y h => as _ _ h, fun x y z h1 h2 => ?_⟩
  cases e : ltK (k z) (k x) with
  | false => rfl
  | true =>
    rcases ltK_tot (k z) (k y) with h | h | h
    · rw [h2] at h; cases h
    · rw [h] at e; rw [e] at h1; cases h1
    · have := ltK_tr h e
      rw [h1] at this
      cases this
/-! the two tuples of a pair, read off the heap -/
def firstOf (h : Heap) (v : Value) : Value × Value := match v with
  | .ref a => match h.get? a with
    | some o => match o.data with
      | .seq xs _ => (xs.getD 0 .none, xs.getD 1 .none)
      | _ => (.none, .none)
    | none => (.none, .none)
  | _ => (.none, .none)
def keyOf (h : Heap) (v : Value) : Key2 := (TS.intsOf h (firstOf h v).1, TS.intsOf h (firstOf h v).2)
/-- v is a pair of tuples of ints -/
def IsPP (P : Program) (w : World) (h : Heap) (v : Value) (k : Key2) : Prop := ∃ a o x y n, v = .ref a ∧ h.get? a = some o ∧ o.cls = .type "tuple" ∧ o.data = .seq #[.ref x, .ref y] n ∧ IsT P w h k.1 x ∧ IsT P w h k.2 y
section
variable {P : Program} {w : World} {A : Around} {E : Value → Shared → Prop} {s : Shared} {h h' : Heap} {v u : Value} {k k' : Key2}
theorem IsPP.key (p : IsPP P w h v k) : keyOf h v = k := by
  obtain ⟨a, o, x, y, n, rfl, ho, hc, hd, hx, hy⟩ := p
  have e : firstOf h (.ref a) = (.ref x, .ref y) := by
    unfold firstOf
    simp only [ho, hd]
    rfl
  unfold keyOf
  rw [e]
  exact Prod.ext (tupInts_of hx).ints (tupInts_of hy).ints
theorem isT_tups {k : List Int} {b : Addr} (x : IsT P w h k b) (kp : ∀ b o, h.get? b = some o → o.cls = .type "tuple" → h'.get? b = some o) : IsT P w h' k b := by
  obtain ⟨o, items, n, ho, hc, r⟩ := x
  exact ⟨o, items, n, kp b o ho hc, hc, r⟩
theorem IsPP.keeps (p : IsPP P w h v k) (kp : ∀ b o, h.get? b = some o → o.cls = .type "tuple" → h'.get? b = some o) : IsPP P w h' v k := by
  obtain ⟨a, o, x, y, n, e, ho, hc, hd, hx, hy⟩ := p
  exact ⟨a, o, x, y, n, e, kp a o ho hc, hc, hd, isT_tups hx kp, isT_tups hy kp⟩
theorem lt_T {x y : List Int} {a b : Addr} {Q : Value → Shared → Prop} (hx : IsT P w s.heap x a) (hy : IsT P w s.heap y b) (hu : A.units < cLine) (q : Q (.bool (HT.lexLt x y)) s) : wpAny (model P w) A (compareOp .Lt (.ref a) (.ref b)) Q E s := by
  obtain ⟨o, xs, n, ho, hc, hd, hi⟩ := hx
  obtain ⟨o2, ys, n2, ho2, hc2, hd2, hi2⟩ := hy
  exact HT.lt_tupInts ⟨o, ho, hc, n, hd⟩ ⟨o2, ho2, hc2, n2, hd2⟩ (ints_of_items hi) (ints_of_items hi2) hu q
theorem pp_cmp {vs : List Value} (hu : A.units < cLine) (hp : ∀ v ∈ vs, ∃ k, IsPP P w s.heap v k) (κ : Value → Key2) (hκ : ∀ v ∈ vs, ∀ k, IsPP P w s.heap v k → κ v = k) : SrtO.Cmp P w A s (tuples' false) (fun p => p.1 ∈ vs) (SrtO.lt2 fun v u => ltK (κ v) (κ u)) := by
  intro p q hm hm'
  obtain ⟨k, h1⟩ := hp _ hm
  obtain ⟨k', h2⟩ := hp _ hm'
  show wpAny (model P w) A (keyLt' (tuples' false) p.1 q.1) (fun r s' => s' = s ∧ r = ltK (κ p.1) (κ q.1)) (fun _ _ => False) s
  rw [hκ _ hm k h1, hκ _ hm' k' h2]
  obtain ⟨a, o, x, y, n, e, ho, hc, hd, hx, hy⟩ := h1
  obtain ⟨a', o', x', y', n', e', ho', hc', hd', hx', hy'⟩ := h2
  rw [e, e']
  refine PySem.W.kat_lt ho hd ho' hd' ?_
  show PySem.W.KatLex P w A false (decide (2 < 2)) _ [(.ref x, .ref x'), (.ref y, .ref y')] 0 s
  refine PySem.W.kat_cons (wpAny_eqBool_tuple hu hx hx' ?_)
  unfold ltK
  refine PySem.W.kat_go (fun e1 => ?_) (fun e1 => ?_)
  · have ex := of_decide_eq_true e1
    rw [if_pos ex]
    refine PySem.W.kat_yes (PySem.W.kat_cons (wpAny_eqBool_tuple hu hy hy' ?_))
    refine PySem.W.kat_go (fun e2 => ?_) (fun e2 => ?_)
    · have ey := of_decide_eq_true e2
      refine PySem.W.kat_yes (PySem.W.kat_nil ⟨rfl, ?_⟩)
      rw [ey, lex_irr]
      rfl
    · exact PySem.W.kat_no (PySem.W.kat_one _ _ (lt_T hy hy' hu (show s = s ∧ HT.lexLt k.2 k'.2 = HT.lexLt k.2 k'.2 from ⟨rfl, rfl⟩)))
  · have ex := of_decide_eq_false e1
    rw [if_neg ex]
    exact PySem.W.kat_no (PySem.W.kat_one _ _ (lt_T hx hx' hu (show s = s ∧ HT.lexLt k.1 k'.1 = HT.lexLt k.1 k'.1 from ⟨rfl, rfl⟩)))
theorem pp_firsts : ∀ {vs : List Value}, (∀ v ∈ vs, ∃ k, IsPP P w h v k) → ∃ fs : List Value, PySem.W.KatTups h vs fs ∧ fs.length = vs.length ∧ ∀ f ∈ fs, ∃ x k, f = Value.ref x ∧ IsT P w h k x
  | [], _ => ⟨[], PySem.W.KatTups.nil, rfl, fun _ h => (by cases h)⟩
  | v :: vs, hp => by
    obtain ⟨fs, h1, h2, h3⟩ := pp_firsts fun v hv => hp v (List.mem_cons_of_mem _ hv)
    obtain ⟨k, a, o, x, y, n, rfl, ho, hc, hd, hx, hy⟩ := hp v List.mem_cons_self
    refine ⟨.ref x :: fs, PySem.W.KatTups.cons ho hc hd rfl h1, by rw [List.length_cons, h2, List.length_cons], fun f hf => ?_⟩
    rcases List.mem_cons.mp hf with rfl | hf
    · exact ⟨x, k.1, rfl, hx⟩
    · exact h3 f hf
theorem sorted_pp {l : Addr} {vs : List Value} {Q : Value → Shared → Prop} (hu : A.units + 3 < cLine) (hl : s.heap.IsList l vs.toArray) (hz : vs.length ≤ sizeLine) (hp : ∀ v ∈ vs, ∃ k, IsPP P w s.heap v k)
    (q : ∀ (h' : Heap) (d : Addr) (out : List Value), SrtO.Srtd (fun v u => ltK (keyOf s.heap v) (keyOf s.heap u)) out → SrtO.Stb (fun v u => ltK (keyOf s.heap v) (keyOf s.heap u)) out vs → (∀ b o, s.heap.get? b = some o → h'.get? b = some o) → s.heap.objs.size ≤ d → (∃ n, h'.get? d = some (seqObj "list" out.toArray n)) → Q (.ref d) { s with heap := h' }) :
    wpAny (model P w) A (call (.builtin "sorted") [.ref l]) Q E s := by
  refine SrtO.sorted_ord (ltK_swo (keyOf s.heap)) hl hz (fun h2 h₁ a ha kk => ?_) fun out hs hb => q _ _ out hs hb (fun b o e => sortedAll_old e) (Nat.le_succ _) (sortedAll_at s.heap vs out.toArray)
  intro h' keep
  have noT : ∀ o, h₁.get? a = some o → o.cls ≠ .type "tuple" := fun o e c => by
    have e' : some o = some (seqObj "list" vs.toArray 0) := e.symm.trans ha
    cases e'
    exact absurd (Value.type.inj c) (by decide)
  have kp : ∀ b o, s.heap.get? b = some o → o.cls = .type "tuple" → h'.get? b = some o := fun b o e c => keep b o (kk b o e).1 (kk b o e).2
  have hp' : ∀ v ∈ vs, ∃ k, IsPP P w h' v k := fun v hm => by
    obtain ⟨k, z⟩ := hp v hm
    exact ⟨k, z.keeps kp⟩
  obtain ⟨fs, f1, f2, f3⟩ := pp_firsts hp'
  refine ⟨tuples' false, fun Q E hq => ?_, pp_cmp (s := { s with heap := h' }) (by show A.units + 2 < cLine; omega) hp' (keyOf s.heap) fun v hm k z => ?_⟩
  · refine PySem.W.kat_kind (T := .type "tuple") f1 (by omega) (fun f hm => ?_) (by rfl) ?_
    · obtain ⟨x, k, rfl, hx⟩ := f3 f hm
      obtain ⟨o, items, n, ho, hc, _⟩ := hx
      have z : PySem.W.Looks (model P w) h' (typeOf (.ref x)) o.cls := (PySem.W.Looks.ld ho).andThen .now
      rw [hc] at z
      exact z
    · have e : (Value.type "tuple" != Value.type "tuple") = false := by first | decide +kernel | rfl | decide
      rw [e]
      exact hq
  · obtain ⟨k2, z2⟩ := hp v hm
    rw [z2.key, ← z.key, (z2.keeps kp).key]
end
/-! ### as a rule: what rises already stays -/
abbrev pairK (k : Key2) : PyData := .tuple [keyD k.1, keyD k.2]
/-- rising: none lies below one ahead of it -/
def Rises (ks : List Key2) : Prop := ks.Pairwise fun x y => ltK y x = false
def rSortQ (K : PySem.W.Frag) : List V → Hp → VK → Prop := fun vs H Q => ∃ (a : Addr) (xs : List V) (ks : List Key2), vs = [V.ref a] ∧ SqL K H a xs ∧ DpAll K H xs (ks.map pairK) ∧ Rises ks ∧ ∀ p, H p = none → Q (.ref p) (upd H p (.lst xs))
theorem dpp {X : Cx} {pins : List (Addr × Obj)} {σ : L2.St} {H : Hp} {s : Shared} (I : Inv X pins σ H s) : ∀ {ks : List Key2} {xs : List V} {us : List Value}, DpAll X.K H xs (ks.map pairK) → Vals xs us → us.map (keyOf s.heap) = ks ∧ ∀ u ∈ us, ∃ k, IsPP X.prog X.w s.heap u k
  | [], _, _, h, r => by
    cases h
    cases r
    exact ⟨rfl, fun _ h => (by cases h)⟩
  | k :: ks, _, _, h, r => by
    cases h with
    | cons h1 h2 =>
      cases r with
      | @cons x u xs us r1 r2 =>
        obtain ⟨e, hp⟩ := dpp I h2 r2
        have pp : IsPP X.prog X.w s.heap u k := by
          cases h1 with
          | @tup p ys ds hs hall =>
            cases hall with
            | cons g1 g2 =>
              cases g2 with
              | cons g2 g3 =>
                cases g3
                obtain ⟨x1, rfl, q1⟩ := dp_key g1
                obtain ⟨x2, rfl, q2⟩ := dp_key g2
                obtain ⟨its, rv, ⟨o, ho, hc, n, hd⟩, _⟩ := I.tuple hs
                cases r1
                cases rv with
                | cons ra rb =>
                  cases rb with
                  | cons rb rc =>
                    cases rc
                    cases ra
                    cases rb
                    exact ⟨p, o, x1, x2, n, rfl, ho, hc, hd, I.isT q1, I.isT q2⟩
        refine ⟨by rw [List.map_cons, pp.key, e], fun y hy => ?_⟩
        rcases List.mem_cons.mp hy with rfl | hy
        · exact ⟨k, pp⟩
        · exact hp y hy
theorem call_sortQ {X : Cx} {K : PySem.W.Frag} (eK : X.K = K) (hu : X.A.units + 64 < cLine) : CallR X (.builtin "sorted") (rSortQ K) := by
  subst eK
  intro pins s σ H vs us Q I r h
  obtain ⟨a, xs, ks, rfl, hs, hx, rise, q⟩ := h
  obtain ⟨its, rv, hl, hz⟩ := I.list hs
  obtain ⟨u, rfl, ru⟩ := vals1 r
  cases ru
  obtain ⟨e, hp⟩ := dpp I hx rv
  refine sorted_pp (by omega) hl.isList (by rw [← rv.length]; exact hz) hp fun h' d out h1 h2 kp hd hn => ?_
  have sv : SrtO.Srtd (fun v u => ltK (keyOf s.heap v) (keyOf s.heap u)) its := by
    unfold Rises at rise
    rw [← e, List.pairwise_map] at rise
    exact rise
  have eo : out = its := SrtO.stb_uniq (ltK_swo (keyOf s.heap)) h1 sv h2
  subst eo
  obtain ⟨n, hn⟩ := hn
  exact ⟨.ref d, upd H d (.lst xs), I.laid (t' := s.toks) kp hd ⟨hz, out, n, rv, hn⟩, rfl, q d (I.hok.fresh hd)⟩
theorem en_sortQ {K : PySem.W.Frag} {Hd : Hp} {σ : L2.St} {te : TE} {ks : List Key2} (h : EvD K te σ Hd (.list (ks.map pairK))) (hr : Rises ks) : EvN K (tCB (rSortQ K) (tCons te tNil)) σ Hd (ks.map pairK) := fun H s Q q =>
  h H s _ fun v H2 Hn g hv => by
    cases hv with
    | @lst a xs ds hs hall => exact ⟨a, xs, ks, rfl, ex_l g.sub hs, dpa_mono g.sub _ hall, hr, fun p hp => q p _ _ Hn (g.trans (Gr.alloc g.sub hp)) (fresh_back g.ex hp) (fresh_back g.sub hp) upd_same hall⟩
end Cot

set_option Elab.async false
set_option linter.all false
set_option maxRecDepth 100000
set_option maxHeartbeats 4000000
/-! Dict comprehensions of one clause whose keys are tuples of ints. -/
namespace Cot
open PySem PySem.Spec PyProof.Rows L2 Evl
section
variable {prog : Program} {w : World} {A : Around} {R : Result → Shared → Prop} {s : Shared} {kx vx t0 i0 : Expr} {fs0 : List Expr} {sc : Scope} {pos : Pos} {it acc : Value} {env : Env} {D : Addr}
theorem turn_d1 : compTurn (dc1 kx vx t0 i0 fs0 sc pos) 0 it (.ref D) env = (do
    standAt i0.pos
    match ← pyNext it with
    | none => pure (.done .next)
    | some v =>
      letOwnedTupleGo t0 it v
      assign t0 env v
      let ok ← asks fs0 env
      if ok then
        (do
          let kv ← eval kx env
          let vv ← holding [kv] (eval vx env)
          standAt { kx.pos with endLine := vx.pos.endLine, endCol := vx.pos.endCol }
          holding [kv, vv] (dictSet D kv vv))
      again (.compLoop (dc1 kx vx t0 i0 fs0 sc pos) 0 it (.ref D) env)) := by rfl
theorem loop_d1 (I : Nat → Shared → Prop)
    (turn : ∀ n s, I n s → wpAny (model prog w) A (pyNext it) (fun r s₁ => match r with
      | none => R (.ok .next) s₁
      | some v => wpAny (model prog w) A (letOwnedTupleGo t0 it v) (fun _ s₂ => wpAny (model prog w) A (assign t0 env v) (fun _ s₃ => wpAny (model prog w) A (asks fs0 env) (fun ok s₄ =>
          if ok = true then wpAny (model prog w) A (eval kx env) (fun kv s₅ => wpAny (model prog w) A (eval vx env) (fun vv s₆ => wpAny (model prog w) A (dictSet D kv vv) (fun _ s₇ => ∃ m, m < n ∧ I m s₇) (bad prog w A env R) s₆) (bad prog w A env R) s₅) (bad prog w A env R) s₄
          else ∃ m, m < n ∧ I m s₄) (bad prog w A env R) s₃) (bad prog w A env R) s₂) (bad prog w A env R) s₁) (bad prog w A env R) s)
    (n : Nat) (h : I n s) : codeAny (model prog w) A (.compLoop (dc1 kx vx t0 i0 fs0 sc pos) 0 it (.ref D) env) R s := by
  refine codeAny_loop rfl I (fun n s hI => ?_) n h
  show wpAny _ A ((compTurn (dc1 kx vx t0 i0 fs0 sc pos) 0 it (.ref D) env).onRaise (fun x => do noteFrame x env; theTreesLotGoes x)) _ _ s
  refine wpAny_noted ?_
  rw [turn_d1]
  refine wpAny_bind (wpAny_standAt (wpAny_bind (wpAny_mono (turn n s hI) (fun r s₁ k1 => ?_) fun _ _ z => z)))
  cases r with
  | none => exact wpAny_pure k1
  | some v =>
    refine wpAny_bind (wpAny_mono k1 (fun _ s₂ k2 => wpAny_bind (wpAny_mono k2 (fun _ s₃ k3 => wpAny_bind (wpAny_mono k3 (fun ok s₄ k4 => ?_) fun _ _ z => z)) fun _ _ z => z)) fun _ _ z => z)
    cases ok with
    | false => exact wpAny_pure ⟨rfl, k4⟩
    | true => exact wpAny_bind (wpAny_bind (wpAny_mono k4 (fun kv s₅ k5 => wpAny_bind (wpAny_holding (wpAny_mono k5 (fun vv s₆ k6 => wpAny_bind (wpAny_standAt (wpAny_holding (wpAny_mono k6 (fun _ s₇ k7 => wpAny_pure ⟨rfl, k7⟩) fun _ _ z => z)))) fun _ _ z => z))) fun _ _ z => z))
end
section
variable {X : Cx}
theorem nc1_core {pins : List (Addr × Obj)} {s : Shared} {σ : L2.St} {H : Hp} {Q : VK} {kx vx t0 i0 : Expr} {fs0 : List Expr} {sc : Scope} {own : List (Str × Nat)} {pos pos' : Pos} {wi : TI} {g : TG} {tt : TT} {tk tv : TE} {use : Option (Value → Sem Unit)} {Qf : Value → Shared → Prop} (hu : X.A.units < cLine) (hc : X.calm = true) (hN : X.N.Nodup) (I : Inv X pins σ H s)
    (hi : PI X t0 i0 wi) (ok : BlkOk X.N X.env.scope sc own) (hg : Blk X sc fun Y => PG Y t0 g) (ht : Blk X sc fun Y => PTs Y fs0 tt)
    (hk : Blk X sc fun Y => PE Y kx tk) (he : Blk X sc fun Y => PE Y vx tv) (hs : ∀ x, foldedSetIterable i0 X.env x = pure x) (h : tNc1 X.K X.prog X.w wi g tt tk tv (own.map (·.2)) σ H Q)
    (hRR : ∀ D C s' m H', Inv X pins σ H' s' → Q (.ref D) H' → s'.heap.Ns C m → FpOk X pins H' C → compPost (model X.prog X.w) X.A X.xe use Qf (.ref D) C (.ok .next) s') :
    wpAny (model X.prog X.w) X.A (comprehension (dc1 kx vx t0 i0 fs0 sc pos) sc X.env pos' newDict false (eval i0 X.env) use) Qf X.xe s := by
  have cells : ∀ y ∈ sc.names, y.2 = .free → ∃ c, X.env.cells.lookup y.1 = some c := fun y hy e => (ok.free y hy e).elim (fun k => I.ok.has _ (.inl k)) fun k => I.ok.has _ (.inr k)
  refine wpAny_comprehension_free (use := use) rfl hs (closure_ok cells) ok.kind (fun y hy e => by rw [ok.uniq y hy, e]) (thn (hi.run pins s σ H _ I h) fun xv s1 hx => thn hx fun itv s2 h2 => ?_)
  obtain ⟨it, fp, tn, J, H2, e, I2, T, st2, f2, q⟩ := h2
  subst e
  refine wpAny_newObj_type (newEnv_comp ?_)
  generalize hD : s2.heap.objs.size = D
  obtain ⟨W, ⟨m0, w0⟩, turn⟩ := q D (I2.hok.fresh (Nat.le_of_eq hD))
  generalize hs3 : ({ s2 with heap := s2.heap.push { cls := .type "dict", data := .dict #[] } } : Shared) = s3
  have h3 : s3.heap = s2.heap.push { cls := .type "dict", data := .dict #[] } := by rw [← hs3]
  have I3 : Inv X pins σ (upd H2 D (DicO X.prog X.w D [])) s3 := by
    rw [← hs3]
    refine I2.laid (t' := s2.toks) (fun b o e => Heap.get?_push_of_some _ e) (Nat.le_of_eq hD) ?_
    rw [← hD]
    exact dicO_ok (dic_empty I2.big)
  have f3 : ∀ b ∈ fp, FpOk X pins (upd H2 D (DicO X.prog X.w D [])) b ∧ b < s3.heap.objs.size := fun b hb => by
    obtain ⟨o, eo, _⟩ := T.obj _ _ st2 b hb
    have lt : b < s2.heap.objs.size := Heap.lt_size eo
    refine ⟨⟨?_, (f2 b hb).2⟩, by rw [h3, Heap.size_push]; exact Nat.lt_succ_of_lt lt⟩
    rw [upd_ne (by rw [← hD]; exact Nat.ne_of_lt lt)]
    exact (f2 b hb).1
  have I4 := block_start I3 ok hN f3
  have pg := hg s3 (upd H2 D (DicO X.prog X.w D [])) s3.heap.objs.size (cellsFrom (s3.heap.objs.size + 1) sc.names (cloFrom X.env.cells sc.names [])) fp
  have pt := ht s3 (upd H2 D (DicO X.prog X.w D [])) s3.heap.objs.size (cellsFrom (s3.heap.objs.size + 1) sc.names (cloFrom X.env.cells sc.names [])) fp
  have pk := hk s3 (upd H2 D (DicO X.prog X.w D [])) s3.heap.objs.size (cellsFrom (s3.heap.objs.size + 1) sc.names (cloFrom X.env.cells sc.names [])) fp
  have pv := he s3 (upd H2 D (DicO X.prog X.w D [])) s3.heap.objs.size (cellsFrom (s3.heap.objs.size + 1) sc.names (cloFrom X.env.cells sc.names [])) fp
  have none3 : ∀ b ∈ fp, (upd H2 D (DicO X.prog X.w D [])) b = none := fun b hb => (f3 b hb).1.1
  show codeAny _ _ (.compStart (dc1 kx vx t0 i0 fs0 sc pos) 0 (.ref it) (.ref D) (compEnvC sc (cellsFrom (s3.heap.objs.size + 1) sc.names (cloFrom X.env.cells sc.names [])) s3.heap.objs.size X.env)) _ { s3 with heap := pushCells (s3.heap.push { cls := .type "dict", data := .dict #[] }) sc.names }
  generalize hce : compEnvC sc (cellsFrom (s3.heap.objs.size + 1) sc.names (cloFrom X.env.cells sc.names [])) s3.heap.objs.size X.env = ce at I4 pg pt pk pv ⊢
  have loc : ce.locals = s3.heap.objs.size := by subst hce; rfl
  generalize upd H2 D (DicO X.prog X.w D []) = H3 at I3 I4 pg pt pk pv w0 none3 f3
  generalize hs4 : ({ s3 with heap := pushCells (s3.heap.push { cls := .type "dict", data := .dict #[] }) sc.names } : Shared) = s4 at I4 ⊢
  have st4 : tn 0 s4.heap := T.keep _ _ _ st2 fun b _ o e => by
    rw [← hs4]
    refine pushCells_keeps _ _ _ _ (Heap.get?_push_of_some _ ?_)
    rw [h3]
    exact Heap.get?_push_of_some _ e
  have stat : ∀ {σ' : L2.St} {H' : Hp} {s' : Shared}, Inv (X.blk s3 H3 sc ce fp) [] σ' H' s' → (∀ b ∈ fp, H' b = none) → ∀ b ∈ fp, FpOk (X.blk s3 H3 sc ce fp) [] H' b := fun {σ' H' s'} I' hn b hb =>
    ⟨hn b hb, (I'.ok.exf b hb).1, I'.ok.exfs b hb, .inl hb, fun x c e => (I'.ok.exf b hb).2 x c e, fun p hp => (by simp at hp : False).elim⟩
  have loop : codeAny (model X.prog X.w) X.A (.compLoop (dc1 kx vx t0 i0 fs0 sc pos) 0 (.ref it) (.ref D) ce) (compPost (model X.prog X.w) X.A X.xe use Qf (.ref D) s3.heap.objs.size) s4 := by
    refine loop_d1 (fun n s' => ∃ i H', Inv (X.blk s3 H3 sc ce fp) [] (wipe σ (own.map (·.2))) H' s' ∧ tn i s'.heap ∧ (∀ b ∈ fp, H' b = none) ∧ W i n H') ?_ m0 ⟨0, H3, I4, st4, none3, w0⟩
    rintro n s5 ⟨i, H5, I5, st5, n5, w5⟩
    rcases turn i n H5 w5 with ⟨stop, qq⟩ | ⟨go, Nx, hNx, step⟩
    · refine thnF (T.done (X.blk s3 H3 sc ce fp) rfl rfl rfl hc i [] s5 _ H5 (fun _ _ => False) I5 (stat I5 n5) st5 stop) fun r s6 ⟨hr, I6⟩ => ?_
      subst hr
      have I7 : Inv X pins σ H5 s6 := I3.call' (ch := fp) I6.os I6.base I6.hok I6.bare fun b hb => ⟨(f3 b hb).1.2.2.2.1, (f3 b hb).1.2.1, (f3 b hb).1.2.2.2.2.1, (f3 b hb).1.2.2.2.2.2⟩
      have nC : H5 s3.heap.objs.size = none := by
        rw [← loc]
        exact I6.free
      obtain ⟨m, hn, _⟩ := I6.loc
      replace hn : s6.heap.Ns ce.locals m := hn
      rw [loc] at hn
      exact hRR D s3.heap.objs.size s6 m H5 I7 qq hn (I3.fpOk (Nat.le_refl _) nC)
    · refine thnF (T.item (X.blk s3 H3 sc ce fp) rfl rfl rfl hc i [] s5 _ H5 (fun _ _ => False) I5 (stat I5 n5) st5 go) fun r s6 ⟨u, hr, h6⟩ => ?_
      subst hr
      refine thnF h6 fun _ s7 ⟨x, H7, I7, r7, y7, st7, n7⟩ => ?_
      refine thnF (pg.run _ s7 _ H7 x u _ (I7.pinned (stat I7 n7) (T.obj _ _ st7)) r7 (step x H7 y7)) fun _ s8 ⟨σ8, H8, I8, hw8, q8⟩ => ?_
      refine thnF (pt.run _ s8 σ8 H8 _ I8 q8) fun b s9 ⟨H9, I9, q9⟩ => ?_
      have fin : ∀ {s' : Shared} {H' : Hp}, Inv (X.blk s3 H3 sc ce fp) ([] ++ pinsAt fp s7.heap) σ8 H' s' → Nx H' →
          ∃ m, m < n ∧ ∃ i H', Inv (X.blk s3 H3 sc ce fp) [] (wipe σ (own.map (·.2))) H' s' ∧ tn i s'.heap ∧ (∀ b ∈ fp, H' b = none) ∧ W i m H' := fun {s' H'} I' nx => by
        obtain ⟨m', hm, w'⟩ := hNx H' nx
        have pin' : ∀ b ∈ fp, ∀ o, s7.heap.get? b = some o → s'.heap.get? b = some o ∧ H' b = none := fun b hb o e =>
          let z := I'.pin (b, o) (List.mem_append_right _ (List.mem_append_right _ (mem_pinsAt hb e)))
          ⟨z.1, z.2.1⟩
        refine ⟨m', hm, i + 1, H', (I'.unpinned (pins := [])).weak (by rw [← hw8, wipe_length]) (fun j v e => by rw [← hw8] at e; exact (wipe_some e).1), T.keep _ _ _ st7 fun b hb o e => (pin' b hb o e).1, fun b hb => ?_, w'⟩
        obtain ⟨o, e, _⟩ := T.obj _ _ st7 b hb
        exact (pin' b hb o e).2
      cases b with
      | false =>
        simp only [Bool.false_eq_true, if_false] at q9 ⊢
        exact fin I9 q9
      | true =>
        simp only [if_true] at q9 ⊢
        refine thnF (pk.run _ s9 σ8 H9 _ I9 q9) fun kv s17 ⟨yk, H17, I17, r17, q17⟩ => ?_
        refine thnF (pv.run _ s17 σ8 H17 _ I17 q17) fun vv s18 ⟨yv, H18, I18, r18, mm, bb, kk, ek, dA, hb18, hz, nx⟩ => ?_
        subst ek
        cases r17
        exact dic_set (X := X.blk s3 H3 sc ce fp) hu I18 dA hb18 hz r18 fun s19 I19 => fin I19 nx
  exact codeAny_compStart_dict loop (T.self X.A 0 _ _ _ st4 loop)
theorem pe_nc1 {kx vx t0 i0 : Expr} {fs0 : List Expr} {sc : Scope} {own : List (Str × Nat)} {pos : Pos} {wi : TI} {g : TG} {tt : TT} {tk tv : TE} {K : PySem.W.Frag} {P : Program} {w : World} (eK : X.K = K) (eP : X.prog = P) (ew : X.w = w) (hu : X.A.units < cLine) (hc : X.calm = true) (hN : X.N.Nodup)
    (hi : PI X t0 i0 wi) (ok : BlkOk X.N X.env.scope sc own) (hg : Blk X sc fun Y => PG Y t0 g) (ht : Blk X sc fun Y => PTs Y fs0 tt)
    (hk : Blk X sc fun Y => PE Y kx tk) (he : Blk X sc fun Y => PE Y vx tv) (hs : ∀ x, foldedSetIterable i0 X.env x = pure x := by intro _; rfl) :
    PE X (dc1 kx vx t0 i0 fs0 sc pos) (tNc1 K P w wi g tt tk tv (own.map (·.2))) := by
  subst eK eP ew
  refine ⟨fun pins s σ H Q I h => ?_⟩
  rw [arm_eval_DictComp]
  exact nc1_core (Qf := EP X pins σ Q) hu hc hN I hi ok hg ht hk he hs h fun D C s' m H' I' q hn f => ⟨m, hn, fun h'' sb => ⟨.ref D, H', I'.turned (t' := s'.toks) (fun b o hb e => (sb.2 b hb).trans e) f.1 f.2.1 f.2.2.2.1 f.2.2.2.2.1 f.2.2.2.2.2, rfl, q⟩⟩
/-- a local name made a dict by a comprehension -/
theorem ps_setNc1 {i : Nat} {y : Str} {py : Pos} {kx vx t0 i0 : Expr} {fs0 : List Expr} {sc : Scope} {own : List (Str × Nat)} {pos spos : Pos} {wi : TI} {g : TG} {tt : TT} {tk tv : TE} {K : PySem.W.Frag} {P : Program} {w : World} (eK : X.K = K) (eP : X.prog = P) (ew : X.w = w) (hu : X.A.units < cLine) (hc : X.calm = true) (hN : X.N.Nodup) (hy : X.N[i]? = some y) (hyl : X.env.scope.names.lookup y = some .local)
    (hsw : swapsWith (dc1 kx vx t0 i0 fs0 sc pos) (some (.Name y py)) spos.line X.env = pure true) (hi : PI X t0 i0 wi) (ok : BlkOk X.N X.env.scope sc own) (hg : Blk X sc fun Y => PG Y t0 g) (ht : Blk X sc fun Y => PTs Y fs0 tt)
    (hk : Blk X sc fun Y => PE Y kx tk) (he : Blk X sc fun Y => PE Y vx tv) (hs : ∀ x, foldedSetIterable i0 X.env x = pure x := by intro _; rfl) :
    PS X (.Assign [.Name y py] (dc1 kx vx t0 i0 fs0 sc pos) spos) (tAsg (tNc1 K P w wi g tt tk tv (own.map (·.2))) (gName i)) := by
  subst eK eP ew
  refine ⟨fun pins s σ H D I h => ?_⟩
  rw [exec_Assign_Name_used _ _ _ _ hsw]
  refine wpAny_bind (wpAny_standAt (wpAny_bind ?_))
  show wpAny _ X.A (do let _ ← comprehension (dc1 kx vx t0 i0 fs0 sc pos) sc X.env (firstIterPos [⟨t0, i0, fs0, 0⟩] pos) newDict false (eval i0 X.env) (some (assign (.Name y py) X.env))) _ _ s
  have h0 : tNc1 X.K X.prog X.w wi g tt tk tv (own.map (·.2)) σ H (fun x H1 => gName i x σ H1 D.nx) := h
  refine wpAny_bind (thn (nc1_core (Qf := fun _ s' => SP X pins D .next s') hu hc hN I hi ok hg ht hk he hs h0 fun L C s' m H' I' q hn f => ?_) fun _ s' hq => wpAny_pure (wpAny_pure hq))
  show wpAny _ _ (assign (.Name y py) X.env (.ref L)) _ _ _
  refine wpAny_assign_Name (store_ok2 (v := V.ref L) I' hN hy (.inl hyl) rfl (fun s2 I2 ⟨a, sb, ha⟩ => ?_) (.inr hyl))
  have apart : C ≠ a := ha.elim (fun z => by rw [z]; exact f.2.1) fun z e => f.2.2.2.2.1 y a z e.symm
  exact ⟨m, hn.sameBut sb apart, fun h3 sb3 => ⟨_, H', I2.turned (t' := s2.toks) (fun b o hb e => (sb3.2 b hb).trans e) f.1 f.2.1 f.2.2.2.1 f.2.2.2.2.1 f.2.2.2.2.2, q⟩⟩
theorem swD_true {kx vx : Expr} {gs : List Comprehension} {scope : Scope} {pos py : Pos} {y : Str} {l : Nat} {env : Env} (kd : env.scope.kind = .function) (own : env.scope.names.lookup y = some .local) (row : (py.line == pos.line) = true)
    (no : (scope.names.any fun (n, k) => n == y && (k == .local || k == .cell)) = false) : swapsWith (.DictComp kx vx gs scope pos) (some (.Name y py)) l env = pure true := by
  have k1 : env.kindOf y = some .local := own
  have k2 : env.blockKind = .function := by
    unfold Env.blockKind
    rw [kd]
    rfl
  unfold swapsWith
  simp only [k2, k1, no, Expr.pos, row]
  rfl
end
end Cot

set_option Elab.async false
set_option linter.all false
set_option maxRecDepth 100000
set_option maxHeartbeats 4000000
/-! A dict whose values are lists of its own. -/
namespace Cot
open PySem PySem.Spec PyProof.Rows L2 Evl
def NbM (K : PySem.W.Frag) (P : Program) (w : World) (H0 Hd H : Hp) (a : Addr) (m : Dkv) (f : List Int → List PyData) : Prop := H a = some (DicO P w a m) ∧ H0 a = none ∧ Hd a = none ∧ KeysAt K Hd m ∧
  (∀ e ∈ m, ∃ p xs, e.2.2 = V.ref p ∧ p ≠ a ∧ H0 p = none ∧ Hd p = none ∧ H p = some (.lst xs) ∧ DpAll K Hd xs (f e.1)) ∧ ∀ e ∈ m, ∀ e' ∈ m, (e.2.2 = e'.2.2 ↔ e.1 = e'.1)
def NbAt (K : PySem.W.Frag) (P : Program) (w : World) (H0 Hd H : Hp) (a : Addr) (ks : List (List Int)) (f : List Int → List PyData) : Prop := ∃ m, NbM K P w H0 Hd H a m f ∧ m.map (·.1) = ks
/-- a new dict of new lists -/
def EvL (K : PySem.W.Frag) (P : Program) (w : World) (te : TE) (σ : L2.St) (Hd : Hp) (ks : List (List Int)) (f : List Int → List PyData) : Prop := ∀ H, Ex Hd H → ∀ Q : VK, (∀ a H2 Hn, Gr Hd H Hn H2 → NbAt K P w H Hn H2 a ks f → Q (.ref a) H2) → te σ H Q
def spL (K : PySem.W.Frag) (P : Program) (w : World) (R : List PyData → List (List Int) → (List Int → List PyData) → Prop) : Sp := fun vs H Q _ => ∃ Hd ds ks f, Ex Hd H ∧ DpAll K Hd vs ds ∧ R ds ks f ∧ ∀ a H2 Hn, Gr Hd H Hn H2 → NbAt K P w H Hn H2 a ks f → Q (.ref a) H2
section
variable {K : PySem.W.Frag} {P : Program} {w : World} {H H' Hd Hd' Hn H0 H1 H2 Hd0 : Hp} {σ : L2.St} {te tk tv td tx : TE} {tr : TA} {tt : TT} {n : Nat} {wi : TI} {g : TG} {ks : List (List Int)} {f : List Int → List PyData} {ds : List PyData} {D : Ends} {tz : TS} {i : Nat} {a : Addr} {m : Dkv}
theorem NbM.mono (N : NbM K P w H0 Hd H a m f) (h0 : Ex H1 H0) (g : Gr Hd H Hn H2) : NbM K P w H1 Hn H2 a m f := by
  obtain ⟨h1, h2, h3, h4, h5, h6⟩ := N
  refine ⟨g.ex _ _ h1, fresh_back h0 h2, g.fr _ _ h1 h3, h4.mono g.dx, fun e he => ?_, h6⟩
  obtain ⟨p, xs, e1, e2, e3, e4, e5, e6⟩ := h5 e he
  exact ⟨p, xs, e1, e2, fresh_back h0 e3, g.fr _ _ e5 e4, g.ex _ _ e5, dpa_mono g.dx _ e6⟩
theorem NbAt.mono (N : NbAt K P w H0 Hd H a ks f) (h0 : Ex H1 H0) (g : Gr Hd H Hn H2) : NbAt K P w H1 Hn H2 a ks f := by
  obtain ⟨m, h, e⟩ := N
  exact ⟨m, h.mono h0 g, e⟩
theorem NbAt.same {f' : List Int → List PyData} (N : NbAt K P w H0 Hd H a ks f) (h : ∀ k, f k = f' k) : NbAt K P w H0 Hd H a ks f' := by
  have e : f = f' := funext h
  rw [← e]
  exact N
theorem el_call {R : List PyData → List (List Int) → (List Int → List PyData) → Prop} {E : XK} (h : EvDA K tr σ Hd ds) (hr : R ds ks f) : EvL K P w (tCall (spL K P w R) [] E tr) σ Hd ks f := fun H s Q q =>
  h H s _ fun vs H2 Hn g hd => ⟨Hn, ds, ks, f, g.sub, by rw [List.append_nil]; exact hd, hr, fun a H3 Hm g3 N => q a H3 Hm (g.trans g3) (N.mono g.ex (Gr.refl g3.sub))⟩
theorem go_asgL (s : Ex Hd H) (h : EvL K P w te σ Hd ks f) (k : ∀ a H2 Hn, Gr Hd H Hn H2 → NbAt K P w H Hn H2 a ks f → Go tz D (σ.set i (some (.ref a))) H2) : Go (tSeq (tAsg te (gName i)) tz) D σ H := fun H1 e1 =>
  h H1 (s.trans e1) _ fun a H2 Hn g N => k a H2 Hn (g.pre e1) (N.mono e1 (Gr.refl g.sub)) H2 (Ex.refl _)
theorem gr_upd {l : Addr} {o : HO} (G : Gr Hd0 H0 Hd H) (h0 : H0 l = none) (hg : Hd l = none) : Gr Hd0 H0 Hd (upd H l o) := ⟨Ex.mut G.ex h0, G.dx, Ex.mut G.sub hg, G.fr⟩
/-- d[k].append(x) -/
theorem go_appL {k : List Int} {v : V} {d : PyData} (G : Gr Hd0 H0 Hd H) (N : NbAt K P w H0 Hd H a ks f) (ha : Ev td σ H (.ref a)) (hk : EvD K tk σ Hd (keyD k)) (hx : Ev tx σ H v) (hv : Dp K Hd v d) (hm : k ∈ ks) (hz : (f k).length < 100000)
    (kk : ∀ H', Gr Hd0 H0 Hd H' → NbAt K P w H0 Hd H' a ks (fun k' => f k' ++ if k' = k then [d] else []) → Go tz D σ H') : Go (tSeq (tDrop (tBM K "list" rAppend (tNGet K P w td tk) (tCons tx tNil))) tz) D σ H := by
  obtain ⟨m, ⟨h1, h2, h3, h4, h5, h6⟩, e⟩ := N
  cases hval : valD m k with
  | none =>
    rw [← e] at hm
    obtain ⟨x, hx, ex⟩ := List.mem_map.mp hm
    exact absurd ex (valD_none.mp hval x hx)
  | some z =>
    obtain ⟨b, hb⟩ := valD_mem hval
    obtain ⟨p, xs, e1, e2, e3, e4, e5, e6⟩ := h5 _ hb
    have e1 : z = .ref p := e1
    subst e1
    refine go_app (K := K) e5 (ev_nget G.sub ha hk ⟨h1, h4.mono G.sub⟩ hval) hx (by rw [dpa_len e6]; exact hz) (kk _ (gr_upd G e3 e4) ⟨m, ⟨?_, h2, h3, h4, fun x hx => ?_, h6⟩, e⟩)
    · rw [upd_ne e2.symm]
      exact h1
    · obtain ⟨p', xs', u1, u2, u3, u4, u5, u6⟩ := h5 x hx
      by_cases c : x.1 = k
      · have e7 := (h6 x hx _ hb).mpr c
        rw [u1] at e7
        have e7 : V.ref p' = V.ref p := e7
        cases e7
        refine ⟨p, xs' ++ [v], u1, u2, u3, u4, ?_, ?_⟩
        · rw [upd_same]
          rw [u5] at e5
          cases e5
          rfl
        · show DpAll K Hd _ (f x.1 ++ if x.1 = k then [d] else [])
          rw [if_pos c]
          exact dpa_app u6 (.cons hv .nil)
      · refine ⟨p', xs', u1, u2, u3, u4, ?_, ?_⟩
        · rw [upd_ne]
          · exact u5
          · intro z
            subst z
            exact c ((h6 x hx _ hb).mp u1)
        · show DpAll K Hd _ (f x.1 ++ if x.1 = k then [d] else [])
          rw [if_neg c, List.append_nil]
          exact u6
/-- {k: [] for ..} -/
theorem el_nc1 {S : Nat → L2.St → L2.St → Hp → Prop} {vs : List Nat} (kv : Nat → List Int) (h : EvI K wi g σ Hd n S) (hz : n ≤ 90000) (hnd : ∀ i j, i < j → j < n → kv i ≠ kv j)
    (ht : ∀ (i : Nat) (σ2 : L2.St) (Hn : Hp), i < n → Ex Hd Hn → S i (wipe σ vs) σ2 Hn → wipe σ2 vs = wipe σ vs ∧ EvD K tk σ2 Hn (keyD (kv i))) :
    EvL K P w (tNc1 K P w wi g tYes tk (tLst tNil) vs) σ Hd ((List.range n).map kv) (fun _ => []) := fun H s Q q =>
  h H s _ fun J H1 Hn G Y gr wk hG hY D hD => by
    refine ⟨fun i c H' => c = n - i ∧ i ≤ n ∧ ∃ Hm mm, Gr Hn H1 Hm H' ∧ NbM K P w H1 Hm H' D mm (fun _ => []) ∧ mm.map (·.1) = (List.range i).map kv, ⟨n, by simp, Nat.zero_le _, Hn, [], Gr.alloc gr.sub hD, ⟨upd_same, hD, fresh_back gr.sub hD, fun _ h => (by cases h), fun _ h => (by cases h), fun _ h => (by cases h)⟩, rfl⟩, ?_⟩
    rintro i c H' ⟨rfl, hi, Hm, mm, g0, N, hL⟩
    have q0 := hG H' (g0.dx.trans g0.sub)
    by_cases hlt : i < n
    · refine .inr ⟨wk.goes i H' hlt q0, fun H2 => ∃ Hm mm, Gr Hn H1 Hm H2 ∧ NbM K P w H1 Hm H2 D mm (fun _ => []) ∧ mm.map (·.1) = (List.range (i + 1)).map kv, fun H2 p' => ⟨n - (i + 1), by omega, rfl, hlt, p'⟩, fun x H'' y => ?_⟩
      refine hY i x H' H'' _ _ hlt (g0.dx.trans g0.sub) (wk.yields i H' x H'' hlt q0 y) fun σ2 H3 e3 hS => ?_
      obtain ⟨hw, hE⟩ := ht i σ2 Hn hlt gr.dx hS
      refine ⟨hw, ?_⟩
      show tk σ2 H3 _
      refine (hE.mono g0.dx) H3 (g0.sub.trans e3) _ fun yv H4 Hp g4 hy => ?_
      obtain ⟨p, rfl, hp⟩ := dp_key hy
      have G4 : Gr Hn H1 Hp H4 := (g0.post e3).trans g4
      obtain ⟨h1, h2, h3, h4, h5, h6⟩ := N.mono (Ex.refl _) ((Gr.ext g0.sub e3).trans g4)
      refine ⟨by show 0 ≤ sizeLine; decide, fun pl hpl => ?_⟩
      have npl : pl ≠ D := (ne_of_none h1 hpl).symm
      have lm : mm.length = i := by
        have l1 := congrArg List.length hL
        rw [List.length_map, List.length_map, List.length_range] at l1
        exact l1
      have nk : ∀ x ∈ mm, x.1 ≠ kv i := fun x hx e => by
        have h1 : x.1 ∈ (List.range i).map kv := by
          rw [← hL]
          exact List.mem_map.mpr ⟨x, hx, rfl⟩
        obtain ⟨j, hj, ej⟩ := List.mem_map.mp h1
        exact hnd j i (List.mem_range.mp hj) hlt (ej.trans e)
      have fr : valD mm (kv i) = none := valD_none.mpr nk
      have hne : ∀ x ∈ mm, x.2.2 ≠ V.ref pl := fun x hx e => by
        obtain ⟨p', xs', u1, u2, u3, u4, u5, u6⟩ := h5 x hx
        rw [u1] at e
        cases e
        rw [hpl] at u5
        cases u5
      refine ⟨mm, p, kv i, rfl, ⟨by rw [upd_ne npl.symm]; exact h1, h4.mono (g4.sub.trans (Ex.new hpl))⟩, ex_t (g4.sub.trans (Ex.new hpl)) hp, sz_lt (by omega), Hp, putD mm (kv i) p (.ref pl), gr_upd (gr_upd G4 (fresh_back G4.ex hpl) (fresh_back g4.sub hpl)) h2 h3, ⟨upd_same, h2, h3, h4.put hp, ?_, ?_⟩, ?_⟩
      · rw [putD_new _ _ fr]
        intro x hx
        rcases List.mem_append.mp hx with hx | hx
        · obtain ⟨p', xs', u1, u2, u3, u4, u5, u6⟩ := h5 x hx
          refine ⟨p', xs', u1, u2, u3, u4, ?_, u6⟩
          rw [upd_ne u2, upd_ne (fun z => hne x hx (by rw [u1, z]))]
          exact u5
        · rw [List.mem_singleton] at hx
          subst hx
          refine ⟨pl, [], rfl, npl, fresh_back G4.ex hpl, fresh_back g4.sub hpl, ?_, .nil⟩
          rw [upd_ne npl]
          exact upd_same
      · rw [putD_new _ _ fr]
        intro x hx y hy
        rcases List.mem_append.mp hx with hx | hx <;> rcases List.mem_append.mp hy with hy | hy
        · exact h6 x hx y hy
        · rw [List.mem_singleton] at hy
          subst hy
          exact ⟨fun z => absurd z (hne x hx), fun z => absurd z (nk x hx)⟩
        · rw [List.mem_singleton] at hx
          subst hx
          exact ⟨fun z => absurd z.symm (hne y hy), fun z => absurd z.symm (nk y hy)⟩
        · rw [List.mem_singleton] at hx hy
          subst hx
          subst hy
          exact ⟨fun _ => rfl, fun _ => rfl⟩
      · rw [putD_new _ _ fr, List.map_append, hL, List.range_succ, List.map_append]
        rfl
    · have e : i = n := by omega
      subst e
      exact .inl ⟨wk.stops H' q0, q D H' Hm (gr.trans g0) ⟨mm, N.mono gr.ex (Gr.refl g0.sub), hL⟩⟩
end
end Cot

set_option Elab.async false
set_option linter.all false
set_option maxRecDepth 100000
set_option maxHeartbeats 4000000
/-! Whether data stands in a list; new lists that are made while it is drawn. -/
namespace Cot
open PySem PySem.Spec PyProof.Rows L2 Evl
theorem u65 {k : Nat} {A : Around} (r : Room k A) : A.units + 65 < cLine := by have := r.un; omega
section
variable {K : PySem.W.Frag} {P : Program} {w : World} {b : Bid} {H H' Hd Hd' Hn H0 H1 H2 : Hp} {σ : L2.St} {te ta tb tk td : TE} {tr : TA} {ks : List (List Int)} {f : List Int → List PyData} {ds es : List PyData} {d : PyData} {a : Addr} {k : List Int} {Ps Ps' : List PyData → Prop} {p : Int → Prop} {i : Nat} {D : Ends} {tz : TS}
theorem ev_inD (ha : EvD K ta σ Hd d) (hb : EvD K tb σ Hd (.list ds)) (s1 : SeqAt.shaped d = true) (s2 : SeqAt.shaped (.list ds) = true) : Ev (tOp (rInD K) ta tb) σ Hd (.bl (ds.any fun z => PyData.eqv z d)) := fun H s Q q =>
  ha H s _ fun v H2 Hn g hd => hb.mono g.dx H2 g.sub _ fun v2 H3 Hm g3 hd3 => ⟨d, ds, dp_mono (g3.dx.trans g3.sub) _ hd, dp_mono g3.sub _ hd3, s1, s2, q H3 (g.ex.trans g3.ex)⟩
/-- x in d.get(k, []) -/
theorem ev_inGet {Hx : Hp} (s : Ex Hd H) (sx : Ex Hx H) (N : NbAt K P w H0 Hd H a ks f) (hx : EvD K ta σ Hx d) (ha : Ev td σ H (.ref a)) (hk : EvD K tk σ Hx (keyD k)) (h0 : k ∉ ks → f k = []) (s1 : SeqAt.shaped d = true) (s2 : SeqAt.shaped (.list (f k)) = true) :
    Ev (tOp (rInD K) ta (tNGet2 K P w td tk (tLst tNil))) σ H (.bl ((f k).any fun z => PyData.eqv z d)) := fun H1 e1 Q q => by
  obtain ⟨m, ⟨h1, h2, h3, h4, h5, h6⟩, e⟩ := N
  refine hx H1 (sx.trans e1) _ fun x H2 D2 g2 hdx => ha H2 (e1.trans g2.ex) _ fun H3 e3 => ?_
  have s3 : Ex D2 H3 := g2.sub.trans e3
  have x3 : Ex H H3 := (e1.trans g2.ex).trans e3
  refine ⟨a, m, rfl, ⟨.inl (x3 _ _ h1), h4.mono (s.trans x3)⟩, (hk.mono g2.dx) H3 s3 _ fun y H4 D4 g4 hy => ?_⟩
  obtain ⟨b, rfl, hb⟩ := dp_key hy
  have x4 : Ex H H4 := x3.trans g4.ex
  refine ⟨by show 0 ≤ sizeLine; decide, fun l hl => ?_⟩
  have x5 : Ex H (upd H4 l (.lst [])) := x4.trans (Ex.new hl)
  have d5 : Dp K (upd H4 l (.lst [])) x d := dp_mono (((g4.dx.trans g4.sub)).trans (Ex.new hl)) _ hdx
  refine ⟨b, k, rfl, ⟨.inl (x5 _ _ h1), h4.mono (s.trans x5)⟩, ex_t (g4.sub.trans (Ex.new hl)) hb, ?_⟩
  have xq : Ex H1 (upd H4 l (.lst [])) := ((g2.ex.trans e3).trans g4.ex).trans (Ex.new hl)
  cases hval : valD m k with
  | none =>
    have hn : k ∉ ks := fun hm => by
      rw [← e] at hm
      obtain ⟨z, hz, ez⟩ := List.mem_map.mp hm
      exact valD_none.mp hval z hz ez
    rw [h0 hn] at q s2
    exact ⟨d, [], d5, .lst (sq_of upd_same) .nil, s1, s2, q _ xq⟩
  | some z =>
    obtain ⟨bb, hbb⟩ := valD_mem hval
    obtain ⟨p, xs, e1', e2, e3', e4, e5, e6⟩ := h5 _ hbb
    have ez : z = .ref p := e1'
    subst ez
    exact ⟨d, f k, d5, .lst (sq_of (x5 _ _ e5)) (dpa_mono (s.trans x5) _ e6), s1, s2, q _ xq⟩
/-- a new list, made while it is drawn -/
def EvBN (K : PySem.W.Frag) (b : Bid) (te : TE) (σ : L2.St) (Hd : Hp) (P : List PyData → Prop) : Prop := Hd b.b = none → ∀ H, Ex Hd H → Bx H b → ∀ Q : VK, (∀ p xs H2 Hn ds, GrB b Hd H Hn H2 → H p = none → Hn p = none → H2 p = some (.lst xs) → DpAll K Hn xs ds → P ds → Q (.ref p) H2) → te σ H Q
theorem EvBN.imp (h : EvBN K b te σ Hd Ps) (k : ∀ ds, Ps ds → Ps' ds) : EvBN K b te σ Hd Ps' := fun hb H s B Q q => h hb H s B Q fun p xs H2 Hn ds g h1 h2 h3 h4 h5 => q p xs H2 Hn ds g h1 h2 h3 h4 (k ds h5)
theorem EvBN.mono (e : Ex Hd Hd') (h : EvBN K b te σ Hd Ps) : EvBN K b te σ Hd' Ps := fun hb H s B Q q => h (fresh_back e hb) H (e.trans s) B Q fun p xs H2 Hn ds g h1 h2 h3 h4 h5 =>
  q p xs H2 _ ds (g.up e s hb).1 h1 (by
    unfold un
    rw [fresh_back s h1]
    exact h2) h3 (dpa_mono (g.up e s hb).2 _ h4) h5
theorem bn_new (h : EvN K te σ Hd ds) : EvBN K b te σ Hd (fun es => es = ds) := fun hb H s B Q q => h H s Q fun p xs H2 Hn g h1 h2 h3 h4 => q p xs H2 Hn ds (GrB.of g B) h1 h2 h3 h4 rfl
theorem bn_lst (h : EvBA K b tr σ Hd Ps) (hl : ∀ ds, Ps ds → ds.length ≤ 100000) : EvBN K b (tLst tr) σ Hd Ps := fun hb H s B Q q =>
  h hb H s B _ fun vs H1 Hn ds g hd hp => ⟨sz_of (by rw [dpa_len hd]; exact hl ds hp), fun a ha => q a vs _ Hn ds (g.post (Ex.new ha)) (g.fresh ha) (fresh_back g.sub ha) upd_same hd hp⟩
theorem bn_cat (h1 : EvBN K b ta σ Hd Ps) (h2 : EvBN K b tb σ Hd Ps') (hl : ∀ d1 d2, Ps d1 → Ps' d2 → d1.length + d2.length ≤ 100000) : EvBN K b (tOp rCat ta tb) σ Hd (fun ds => ∃ d1 d2, ds = d1 ++ d2 ∧ Ps d1 ∧ Ps' d2) := fun hb H s B Q q =>
  h1 hb H s B _ fun p1 xs1 H1 D1 d1 g1 a1 a2 a3 a4 a5 => (h2.mono g1.dx) (g1.bn hb B) H1 g1.sub g1.bx _ fun p2 xs2 H2 D2 d2 g2 b1 b2 b3 b4 b5 => by
    have G := g1.trans g2 hb B
    have nb : p1 ≠ b.b := (B.apart a1).1
    refine ⟨p1, p2, xs1, xs2, rfl, rfl, g2.exb _ _ nb a3, b3, sz_of (by rw [dpa_len a4, dpa_len b4]; exact hl d1 d2 a5 b5), fun l hl' => ?_⟩
    exact q l _ _ D2 (d1 ++ d2) (G.post (Ex.new hl')) (G.fresh hl') (fresh_back G.sub hl') upd_same (dpa_app (dpa_mono g2.dx _ a4) b4) ⟨d1, d2, rfl, a5, b5⟩
theorem eb_bn (h : EvBN K b te σ Hd Ps) : EvB K b te σ Hd (fun d => ∃ ds, d = .list ds ∧ Ps ds) := fun hb H s B Q q => h hb H s B Q fun p xs H2 Hn ds g h1 h2 h3 h4 h5 =>
  q (.ref p) H2 (upd Hn p (.lst xs)) (.list ds) (g.add h1 h2 h3) (.lst (sq_of upd_same) (dpa_mono (Ex.new h2) _ h4)) ⟨ds, rfl, h5⟩
/-- xs[:n], n drawn -/
theorem bn_upto (h : EvD K te σ Hd (.list ds)) (h2 : EvB K b tb σ Hd (isI p)) (hp : ∀ i, p i → 0 ≤ i) : EvBN K b (tSl (rSlL K) te tNoPart (tPart tb)) σ Hd (fun es => ∃ j : Nat, es = ds.take j) := fun hb H s B Q q =>
  h H s _ fun v H1 D1 g1 hd => by
    have G1 := GrB.of g1 B
    refine (h2.mono g1.dx) (G1.bn hb B) H1 g1.sub G1.bx _ fun v2 H2 D2 d2 g2 hd2 hp2 => ?_
    obtain ⟨n, rfl, hn⟩ := hp2
    cases hd2
    cases dp_mono g2.dx _ hd with
    | @lst l xs ds hs hall =>
      refine ⟨n, rfl, l, xs, rfl, ex_l g2.sub hs, fun r hr => ?_⟩
      have G := G1.trans g2 hb B
      obtain ⟨j, rfl⟩ := Int.eq_ofNat_of_zero_le (hp n hn)
      refine q r _ _ D2 (ds.take (min j ds.length)) (G.post (Ex.new hr)) (G.fresh hr) (fresh_back G.sub hr) upd_same ?_ ⟨_, rfl⟩
      unfold cutV
      rw [HT.sIx_none, HT.sIx_nat, List.drop_zero, Nat.sub_zero, dpa_len hall]
      exact dpa_take _ hall
end
end Cot

set_option Elab.async false
set_option linter.all false
set_option maxRecDepth 100000
set_option maxHeartbeats 4000000
/-! A dict of one's own, walked; pairs of ints sorted. -/
namespace Cot
open PySem PySem.Spec PyProof.Rows L2 Evl
theorem dicF_ok {P : Program} {w : World} {H : Hp} {h : Heap} {a : Addr} {m : Dkv} {o : Obj} (ho : h.get? a = some o) (d : DicP P w h a m) : ObjOk P w H h a (DicF P w a m o) := by
  refine ⟨⟨ho, d⟩, ⟨o, ho⟩, ?_⟩
  rintro h1 h2 ⟨q, z, y, xs, r, n, o', es, ep, ho', rest⟩ k
  exact ⟨k _ q, z, y, xs, r, n, o', es, ep, k o' ho', rest⟩
section
variable {X : Cx} {pins : List (Addr × Obj)} {σ : L2.St} {H : Hp} {s : Shared} {d : Addr} {m : Dkv} {o : Obj}
theorem fix_of (I : Inv X pins σ H s) (h : H d = some (DicF X.prog X.w d m o)) : (d == sysModules) = false ∧ s.heap.get? d = some o ∧ o.ExactDict ∧ ∃ (es : Array DictEntry) (ep : Nat), o.data = .dict es ep ∧ es.size = m.length ∧ ∀ (i : Nat) (e : List Int × Addr × V), m[i]? = some e → ∃ en : DictEntry, es[i]? = some en ∧ en.key = .ref e.2.1 := by
  obtain ⟨ho, z, y, xs, r, n, o', es, ep, ho', hx, hd, he⟩ := (show ObjOk X.prog X.w H s.heap d (DicF X.prog X.w d m o) from I.hok d _ h).1
  rw [ho] at ho'
  cases ho'
  have l1 : es.size = xs.length := size_of_entries he
  have l2 : m.length = xs.length := Paired.length r
  refine ⟨y, ho, hx, es, ep, hd, by omega, fun i e hm => ?_⟩
  have keys : ∀ {ms : Dkv} {zs : List (List Int × Addr × Value)}, DRel ms zs → ∀ (j : Nat) (e : List Int × Addr × V), ms[j]? = some e → ∃ z, zs[j]? = some z ∧ e.2.1 = z.2.1 := by
    intro ms zs q
    induction q with
    | nil => intro j z hz; simp at hz
    | @cons a b as bs hab t ih =>
      intro j z hz
      cases j with
      | zero =>
        cases hz
        exact ⟨b, rfl, hab.2.1⟩
      | succ j => exact ih j z hz
  obtain ⟨b, hb, e2⟩ := keys r i e hm
  have q := entry_at he i
  rw [hb] at q
  exact ⟨_, q, by rw [e2]; rfl⟩
theorem fix_in (I : Inv X pins σ H s) (h : H d = some (DicO X.prog X.w d m)) : ∃ o, Inv X pins σ (upd H d (DicF X.prog X.w d m o)) s := by
  have hp := (show ObjOk X.prog X.w H s.heap d (DicO X.prog X.w d m) from I.hok d _ h).1
  obtain ⟨z, y, xs, r, n, o, es, ep, ho, rest⟩ := id hp
  exact ⟨o, d_write (h' := s.heap) (t' := s.toks) I (by rw [h]; exact True.intro) (Heap.SameBut.refl _ _) ⟨o, ho⟩ (dicF_ok ho hp)⟩
theorem fix_out (I : Inv X pins σ H s) (h : H d = some (DicF X.prog X.w d m o)) : Inv X pins σ (upd H d (DicO X.prog X.w d m)) s := by
  obtain ⟨ho, hp⟩ := (show ObjOk X.prog X.w H s.heap d (DicF X.prog X.w d m o) from I.hok d _ h).1
  exact d_write (h' := s.heap) (t' := s.toks) I (by rw [h]; exact True.intro) (Heap.SameBut.refl _ _) ⟨o, ho⟩ (dicO_ok hp)
end
/-- the statement runs while the dict's object stays -/
def tFix (P : Program) (w : World) (t : TS) : TS := fun D σ H => ∃ d m, H d = some (DicO P w d m) ∧ ∀ o, t ⟨fun σ' H' => H' d = some (DicF P w d m o) ∧ D.nx σ' (upd H' d (DicO P w d m)), fun v H' => H' d = some (DicF P w d m o) ∧ D.rt v (upd H' d (DicO P w d m)), fun σ' H' => H' d = some (DicF P w d m o) ∧ D.bk σ' (upd H' d (DicO P w d m)), fun σ' H' => H' d = some (DicF P w d m o) ∧ D.ct σ' (upd H' d (DicO P w d m))⟩ σ (upd H d (DicF P w d m o))
theorem ps_fix {X : Cx} {P : Program} {w : World} {st : Stmt} {t : TS} (eP : X.prog = P) (ew : X.w = w) (h : PS X st t) : PS X st (tFix P w t) := by
  subst eP ew
  refine ⟨fun pins s σ H D I hw => ?_⟩
  obtain ⟨d, m, hd, hw⟩ := hw
  obtain ⟨o, I1⟩ := fix_in I hd
  refine thn (h.run pins s σ _ _ I1 (hw o)) fun f s1 q => ?_
  cases f with
  | next => obtain ⟨σ', H', I2, e, q⟩ := q; exact ⟨σ', _, fix_out I2 e, q⟩
  | brk => obtain ⟨σ', H', I2, e, q⟩ := q; exact ⟨σ', _, fix_out I2 e, q⟩
  | cont => obtain ⟨σ', H', I2, e, q⟩ := q; exact ⟨σ', _, fix_out I2 e, q⟩
  | ret v => obtain ⟨x, σ', H', I2, r, e, q⟩ := q; exact ⟨x, σ', _, fix_out I2 e, r, q⟩
def ItN (P : Program) (w : World) (d : Addr) (m : Dkv) (o : Obj) : It :=
  ⟨fun i H => H d = some (DicF P w d m o) ∧ i < m.length, fun i H x H' => H' = H ∧ ∃ e, m[i]? = some e ∧ x = .ref e.2.1, fun i H => H d = some (DicF P w d m o) ∧ m.length ≤ i⟩
section
variable {P : Program} {w : World} {K : PySem.W.Frag} {tg : Expr} {d : Addr} {o : Obj} {es : Array DictEntry} {ep : Nat}
theorem turn_nkeys {m : Dkv} (it : Addr) (hod : o.data = .dict es ep) : Turn P w K tg (ItN P w d m o) [it] it (fun i h => h.IsKeyIter it d i m.length ep) where
  mem := by simp
  obj := fun i h st b hb => by
    have e : b = it := by simpa using hb
    subst e
    obtain ⟨oi, e, c, dd⟩ := st
    exact ⟨oi, e, fun v z => by rw [dd] at z; cases z⟩
  keep := fun i h h' st k => st.at fun oi e => k it (by simp) oi e
  item := by
    intro X hP hw hK hc i pins s σ H E I hf st hg
    subst hP hw hK
    obtain ⟨hd, hi⟩ := hg
    obtain ⟨f0, f1, f2, f3, f4, f5⟩ := hf it (by simp)
    obtain ⟨hs, hgd, hx, es', ep', hdt, hsz, ent⟩ := fix_of I hd
    obtain ⟨rfl, rfl⟩ := dict_ep hod hdt
    have hkv : m[i]? = some m[i] := List.getElem?_eq_getElem hi
    obtain ⟨en, hen, hkey⟩ := ent i _ hkv
    refine next_key_item st hgd hdt hsz hen fun h' st' sb => ?_
    have I1 : Inv X pins σ H { s with heap := h' } := I.turned (t' := s.toks) (fun b ob hb e => (sb.2 b hb).trans e) f0 f1 f3 f4 f5
    obtain ⟨oi, e, c, dd⟩ := id st'
    exact ⟨en.key, rfl, go_of (s := { s with heap := h' }) e c dd (by decide) ⟨.ref (m[i]).2.1, H, I1, hkey, ⟨rfl, _, hkv, rfl⟩, st', fun b hb => (hf b hb).1⟩⟩
  done := by
    intro X hP hw hK hc i pins s σ H E I hf st hg
    subst hP hw hK
    obtain ⟨hd, hi⟩ := hg
    obtain ⟨f0, f1, f2, f3, f4, f5⟩ := hf it (by simp)
    obtain ⟨hs, hgd, hx, es', ep', hdt, hsz, ent⟩ := fix_of I hd
    obtain ⟨rfl, rfl⟩ := dict_ep hod hdt
    exact next_key_end (I.ok.hd hc) st hgd hdt hsz hi fun h' eb => ⟨rfl, I.turned (t' := s.toks) (fun b ob hb e => eb b ob hb e) f0 f1 f3 f4 f5⟩
  self := fun A i s Q E st h => by
    refine wpAny_pyIter_slot st.typeIs F.slot_dict_keyiterator_iter (wpAny_call_entry F.slot_dict_keyiterator_iter st.typeIs F.entry_dict_keyiterator_iter ?_ (F.args_dict_keyiterator_iter_1 _))
    show wpAny _ _ (ret (.ref it)) _ _ s
    exact wpAny_pure ⟨_, rfl, "dict_keyiterator", _, st.typeIs, F.slot_dict_keyiterator_next.lookup, h⟩
end
def iNKeys (P : Program) (w : World) (td : TE) : TI := fun σ H R => td σ H fun x H1 => ∃ d o m, x = .ref d ∧ H1 d = some (DicF P w d m o) ∧ R (ItN P w d m o) H1
theorem pi_nkeys {X : Cx} {P : Program} {w : World} {tg e : Expr} {td : TE} (eP : X.prog = P) (ew : X.w = w) (he : PE X e td) : PI X tg e (iNKeys P w td) := by
  subst eP ew
  refine ⟨fun pins s σ H R I h => ?_⟩
  refine thn (he.run pins s σ H _ I h) fun u s1 ⟨x, H1, I1, rx, d, o, m, ex, hd, q⟩ => ?_
  subst ex
  obtain rfl : u = Value.ref d := rx
  obtain ⟨hs, hgd, hx, es, ep, hdt, hsz, ent⟩ := fix_of I1 hd
  refine iter_keys hs hgd hx hdt (pi_one (tk := s1.toks) I1 _ (turn_nkeys _ hdt) ⟨_, Heap.get?_push_size _ rfl, rfl, ?_⟩ q)
  rw [hsz] <;> rfl
section
variable {P : Program} {w : World} {H : Hp} {σ : L2.St} {td : TE} {D : Ends} {tu tz : TS} {j : Nat} {a : Addr} {m : Dkv}
theorem walk_nkeys {o : Obj} : Walk (ItN P w a m o) m.length (fun H => H a = some (DicF P w a m o)) (fun i H x H' => H' = H ∧ ∃ e, m[i]? = some e ∧ x = .ref e.2.1) :=
  ⟨fun i H hi h => ⟨h, hi⟩, fun H h => ⟨h, Nat.le_refl _⟩, fun i H x H' _ _ y => y⟩
/-- for k in d -/
theorem go_forK (hv : ∀ H', Ev td σ H' (.ref a)) (hH : H a = some (DicO P w a m)) (Pv : Obj → Nat → L2.St → Hp → Prop) (h0 : ∀ o H', Ex (upd H a (DicF P w a m o)) H' → Pv o 0 σ H') (hF : ∀ o i σ' H', Pv o i σ' H' → H' a = some (DicF P w a m o))
    (hs : ∀ o i σ' H' e (D' : Ends), m[i]? = some e → Pv o i σ' H' → D'.nx = Pv o (i + 1) → Go tu D' (σ'.set j (some (.ref e.2.1))) H') (hd : ∀ o σ' H', Pv o m.length σ' H' → Go tz D σ' (upd H' a (DicO P w a m))) :
    Go (tSeq (tFix P w (tFor (iNKeys P w td) (gName j) tu)) tz) D σ H := fun H1 e1 =>
  ⟨a, m, e1 _ _ hH, fun o => by
    have x1 : Ex (upd H a (DicF P w a m o)) (upd H1 a (DicF P w a m o)) := ex_upd2 e1
    refine hv _ _ (Ex.refl _) _ fun H2 e2 => ⟨a, o, m, rfl, e2 _ _ upd_same, for_it walk_nkeys (Pv o) (h0 o H2 (x1.trans e2)) (fun i σ' H' _ p => hF o i σ' H' p) (fun i x σ' H' H'' hi p y => ?_) (fun σ' H' p => ⟨hF o _ σ' H' p, hd o σ' H' p _ (Ex.refl _)⟩)⟩
    obtain ⟨rfl, e, he, rfl⟩ := y
    exact hs o i σ' H'' e _ he p rfl _ (Ex.refl _)⟩
end
end Cot

set_option Elab.async false
set_option linter.all false
set_option maxRecDepth 100000
set_option maxHeartbeats 4000000
/-! Pairs of ints sorted, of a list or of a dict's keys. -/
namespace Cot
open PySem PySem.Spec PyProof.Rows L2 Evl
abbrev sqV (q : Int × Int) : PyData := .tuple [.int q.1, .int q.2]
def keyP (h : Heap) : Value → Int × Int
  | .ref a => match h.get? a with
    | some o => match o.data with
      | .seq items _ => match items.toList with
        | [.int i _, .int j _] => (i, j)
        | _ => (0, 0)
      | _ => (0, 0)
    | none => (0, 0)
  | _ => (0, 0)
theorem keyP_of {h : Heap} {a : Addr} {o : Obj} {x y : Int} {t u : Tok} {n : Nat} (ho : h.get? a = some o) (hd : o.data = .seq #[.int x t, .int y u] n) : keyP h (.ref a) = (x, y) := by
  unfold keyP
  simp only [ho, hd]
def leQ (p q : Int × Int) : Prop := SrtO.lexB q p = false
theorem leQ_iff {p q : Int × Int} : leQ p q ↔ p.1 < q.1 ∨ (p.1 = q.1 ∧ p.2 ≤ q.2) := by
  unfold leQ
  rw [SrtO.lexB_no]
  omega
def sortQ (l : List (Int × Int)) : List (Int × Int) := l.mergeSort fun p q => !SrtO.lexB q p
theorem sortQ_perm (l : List (Int × Int)) : (sortQ l).Perm l := List.mergeSort_perm _ _
theorem sortQ_sorted (l : List (Int × Int)) : (sortQ l).Pairwise leQ := by
  have h := List.pairwise_mergeSort (le := fun (p q : Int × Int) => !SrtO.lexB q p) (fun a b c h1 h2 => by
    have a1 : leQ a b := by simpa [leQ] using h1
    have a2 : leQ b c := by simpa [leQ] using h2
    have a3 : leQ a c := by
      rw [leQ_iff] at a1 a2 ⊢
      omega
    simpa [leQ] using a3) (fun a b => by
    have : leQ a b ∨ leQ b a := by
      rw [leQ_iff, leQ_iff]
      omega
    rcases this with h | h
    · have h' : SrtO.lexB b a = false := h
      simp [h']
    · have h' : SrtO.lexB a b = false := h
      simp [h']) l
  refine List.Pairwise.imp (fun {a b} h => ?_) h
  simpa [leQ] using h
theorem sortQ_uniq {l l' : List (Int × Int)} (hp : l'.Perm l) (hs : l'.Pairwise leQ) : l' = sortQ l :=
  List.Perm.eq_of_pairwise (le := leQ) (fun a b _ _ h1 h2 => by
    rw [leQ_iff] at h1 h2
    exact Prod.ext (by omega) (by omega)) hs (sortQ_sorted l) (hp.trans (sortQ_perm l).symm)
theorem sortQ_same {l l' : List (Int × Int)} (hp : l'.Perm l) : sortQ l' = sortQ l := sortQ_uniq ((sortQ_perm l').trans hp) (sortQ_sorted l')
section
variable {X : Cx} {pins : List (Addr × Obj)} {σ : L2.St} {H : Hp} {s : Shared}
theorem dp_pair {x : V} {u : Value} {q : Int × Int} (I : Inv X pins σ H s) (hd : Dp X.K H x (sqV q)) (r : RelV x u) : ∃ t, u = .ref t ∧ x = .ref t ∧ keyP s.heap u = q ∧ Srt.IsPair s.heap u q.1 q.2 := by
  cases hd with
  | @tup t xs ds hs hall =>
    have e := dpa_ints_inv (ns := [q.1, q.2]) hall
    subst e
    cases r
    obtain ⟨its2, r2, ⟨o, ho, hc, n, hdt⟩, _⟩ := I.tuple hs
    obtain ⟨u1, u2, rfl, ri, rj⟩ := vals2 r2
    obtain ⟨t1, rfl⟩ := ri
    obtain ⟨t2, rfl⟩ := rj
    exact ⟨t, rfl, rfl, keyP_of ho hdt, t, o, t1, t2, n, rfl, ho, hc, hdt⟩
theorem vals_pairs {Hd : Hp} (I : Inv X pins σ H s) (sx : Ex Hd H) : ∀ {xs : List V} {its : List Value} {qs : List (Int × Int)}, Vals xs its → DpAll X.K Hd xs (qs.map sqV) →
    its.map (keyP s.heap) = qs ∧ ∀ u ∈ its, ∃ t, u = .ref t ∧ Dp X.K Hd (.ref t) (sqV (keyP s.heap u)) ∧ Srt.IsPair s.heap u (keyP s.heap u).1 (keyP s.heap u).2
  | _, _, [], r, h => by
    cases h
    cases r
    exact ⟨rfl, fun _ h => by cases h⟩
  | _, _, q :: qs, r, h => by
    cases h with
    | cons h1 h2 =>
      cases r with
      | cons r1 r2 =>
        obtain ⟨e, ih⟩ := vals_pairs I sx r2 h2
        obtain ⟨t, rfl, rfl, e1, e2⟩ := dp_pair I (dp_mono sx _ h1) r1
        refine ⟨by rw [List.map_cons, e1, e], fun u hu => ?_⟩
        rcases List.mem_cons.mp hu with rfl | hu
        · exact ⟨t, rfl, by rw [e1]; exact h1, by rw [e1]; exact e2⟩
        · exact ih u hu
theorem back_dp {Hd : Hp} {out : List Value} {h : Heap} (hx : ∀ u ∈ out, ∃ t, u = .ref t ∧ Dp X.K Hd (.ref t) (sqV (keyP h u))) : DpAll X.K Hd (out.map backV) ((out.map (keyP h)).map sqV) := by
  induction out with
  | nil => exact .nil
  | cons u out ih =>
    obtain ⟨t, rfl, hd⟩ := hx u List.mem_cons_self
    exact .cons hd (ih fun u hu => hx u (List.mem_cons_of_mem _ hu))
theorem srt_keys {out : List Value} {h : Heap} (hs : SrtO.Srtd (fun v u => SrtO.lexB (keyP h v) (keyP h u)) out) : (out.map (keyP h)).Pairwise leQ := by
  rw [List.pairwise_map]
  exact hs
def rSortS (K : PySem.W.Frag) : List V → Hp → VK → Prop := fun vs H Q => ∃ Hd a xs qs, Ex Hd H ∧ vs = [V.ref a] ∧ SqL K H a xs ∧ DpAll K Hd xs (qs.map sqV) ∧ ∀ ys p, DpAll K Hd ys ((sortQ qs).map sqV) → H p = none → Q (.ref p) (upd H p (.lst ys))
theorem call_sortS {K : PySem.W.Frag} (eK : X.K = K) : CallR X (.builtin "sorted") (rSortS K) := by
  subst eK
  intro pins s σ H vs us Q I r h
  obtain ⟨Hd, a, xs, qs, sx, rfl, hs, hx, q⟩ := h
  obtain ⟨its, rv, hl, hz⟩ := I.list hs
  obtain ⟨u, rfl, ru⟩ := vals1 r
  obtain rfl : u = Value.ref a := ru
  obtain ⟨e1, e2⟩ := vals_pairs I sx rv hx
  refine SrtO.sorted_pairsO (k := keyP s.heap) hl.isList (by rw [← rv.length]; exact hz) (fun v hv => (e2 v hv).elim fun _ h => h.2.2) fun h' d out h1 h2 kp hd hn => ?_
  have h3 : ∀ u ∈ out, ∃ a, u = Value.ref a := fun u hu => (e2 u (h2.perm.mem_iff.mp hu)).elim fun t h => ⟨t, h.1⟩
  obtain ⟨n, hn⟩ := hn
  have hp : (out.map (keyP s.heap)).Perm qs := by
    rw [← e1]
    exact h2.perm.map _
  have eq : out.map (keyP s.heap) = sortQ qs := sortQ_uniq hp (srt_keys h1)
  refine ⟨.ref d, upd H d (.lst (out.map backV)), I.laid (t' := s.toks) kp hd ⟨?_, out, n, vals_back h3, hn⟩, rfl, q _ d ?_ (I.hok.fresh hd)⟩
  · rw [List.length_map, h2.perm.length_eq, ← rv.length]
    exact hz
  · rw [← eq]
    exact back_dp fun u hu => (e2 u (h2.perm.mem_iff.mp hu)).elim fun t h => ⟨t, h.1, h.2.1⟩
def rSortN (K : PySem.W.Frag) (P : Program) (w : World) : List V → Hp → VK → Prop := fun vs H Q => ∃ Hd a m qs, Ex Hd H ∧ vs = [V.ref a] ∧ DiR K P w H a m ∧ KeysAt K Hd m ∧ m.map (·.1) = qs.map (fun (q : Int × Int) => [q.1, q.2]) ∧ ∀ ys p, DpAll K Hd ys ((sortQ qs).map sqV) → H p = none → Q (.ref p) (upd H p (.lst ys))
theorem call_sortN {K : PySem.W.Frag} {P : Program} {w : World} (eK : X.K = K) (eP : X.prog = P) (ew : X.w = w) (hc : X.calm = true) : CallR X (.builtin "sorted") (rSortN K P w) := by
  subst eK eP ew
  intro pins s σ H vs us Q I r h
  obtain ⟨Hd, a, m, qs, sx, rfl, dA, hkd, hm, q⟩ := h
  obtain ⟨u, rfl, ru⟩ := vals1 r
  obtain rfl : u = Value.ref a := ru
  obtain ⟨z, y, ys, rel, o, es, ep, ho, hx, hdt, he, _, _⟩ := dic_of I dA
  have l1 : es.size = ys.length := size_of_entries he
  have l2 : m.length = ys.length := Paired.length rel
  refine Calls.call_function_entry kind_sorted plain_sorted entry_sorted (args_sorted1 _) ?_
  unfold Builtin.«sorted»
  refine wpAny_bind (m := checkCount "sorted" 1 1 _) (wpAny_pure ?_)
  refine wpAny_bind (PySem.W.kdu_collect (A := X.A.in1) (kdl_raw y hx hdt) (I.ok.hd hc) ho (by omega) fun h' tk acc hk hacc => ?_)
  have hl : acc.toList.length = m.length := by rw [Array.length_toList, hacc.1]; omega
  have hzz : acc.toList.length ≤ sizeLine := by rw [hl]; exact z
  refine wpAny_bind (wpAny_newList ?_ hzz)
  -- the keys as values
  have keys : ∀ {ms : Dkv} {zs : List (List Int × Addr × Value)}, DRel ms zs → ∀ (j : Nat) (z : List Int × Addr × Value), zs[j]? = some z → ∃ e, ms[j]? = some e ∧ e.2.1 = z.2.1 := by
    intro ms zs q
    induction q with
    | nil => intro j z hz; simp at hz
    | @cons a b as bs hab t ih =>
      intro j z hz
      cases j with
      | zero =>
        cases hz
        exact ⟨a, rfl, hab.2.1⟩
      | succ j => exact ih j z hz
  have rvals : Vals (m.map fun e => V.ref e.2.1) acc.toList := by
    refine vals_of_at (by rw [List.length_map, hl]) fun j x v h1 h2 => ?_
    obtain ⟨en, hen, rfl⟩ := hacc.2 j v (by rw [← Array.getElem?_toList]; exact h2)
    have qe := entry_at he j
    rw [hen] at qe
    cases hb : ys[j]? with
    | none => rw [hb] at qe; exact nomatch (show some en = none from qe)
    | some b =>
      rw [hb] at qe
      have e2 : en = entryOfKey (TK X.prog X.w) b := Option.some.inj qe
      obtain ⟨e, hm, hee⟩ := keys rel j b hb
      rw [List.getElem?_map, hm] at h1
      cases h1
      rw [e2]
      show Value.ref b.2.1 = Value.ref e.2.1
      rw [hee]
  have hdp : DpAll X.K Hd (m.map fun e => V.ref e.2.1) (qs.map sqV) := by
    have h1 := dpa_keys hkd
    have e3 : (m.map fun e => keyD e.1) = qs.map sqV := by
      have e4 : (m.map fun e => keyD e.1) = (m.map (·.1)).map keyD := by rw [List.map_map]; rfl
      rw [e4, hm, List.map_map]
      rfl
    rw [e3] at h1
    exact h1
  obtain ⟨e1, e2⟩ := vals_pairs I sx rvals hdp
  generalize acc.toList = vs at hl hzz rvals e1 e2
  have hoL : (h'.push (seqObj "list" vs.toArray 0)).get? h'.objs.size = some (seqObj "list" vs.toArray 0) := Heap.get?_push_size _ rfl
  have keep : ∀ b ob, s.heap.get? b = some ob → b ≠ h'.objs.size ∧ (h'.push (seqObj "list" vs.toArray 0)).get? b = some ob := fun b ob e => ⟨Nat.ne_of_lt (Heap.lt_size (hk b ob e)), Heap.get?_push_of_some _ (hk b ob e)⟩
  refine wpAny_bind (wpAny_holding (wpAny_call_entry (s := { s with heap := h'.push (seqObj "list" vs.toArray 0), toks := tk }) slot_list_sort ⟨_, hoL, rfl⟩ entry_list_sort (SrtO.list_sort_ord (SrtO.swo_lex (keyP s.heap)) hoL hzz (fun h2 => SrtO.pairs_sortableO (by omega) (fun v hm => ((e2 v hm).elim fun _ h => h.2.2).keeps fun b o e _ => (keep b o e).2) fun ob e => ?_) fun out h1 h2 => ⟨_, rfl, ?_⟩) (args_list_sort _)))
  · have e' : some ob = some (seqObj "list" vs.toArray 0) := e.symm.trans hoL
    cases e'
    intro c
    exact absurd (Value.type.inj c) (by decide)
  refine wpAny_pure ⟨_, rfl, ?_⟩
  have h3 : ∀ u ∈ out, ∃ a, u = Value.ref a := fun u hu => (e2 u (h2.perm.mem_iff.mp hu)).elim fun t h => ⟨t, h.1⟩
  have hp : (out.map (keyP s.heap)).Perm qs := by
    rw [← e1]
    exact h2.perm.map _
  have eq : out.map (keyP s.heap) = sortQ qs := sortQ_uniq hp (srt_keys h1)
  obtain ⟨n, hn⟩ := PyProof.Rows.sortedHeap_at (vs := vs) (out := out.toArray) hoL
  have I1 : Inv X pins σ H { s with heap := h', toks := tk } := I.kept hk
  have keep1 : ∀ b ob, h'.get? b = some ob → b ≠ h'.objs.size ∧ (h'.push (seqObj "list" vs.toArray 0)).get? b = some ob := fun b ob e => ⟨Nat.ne_of_lt (Heap.lt_size e), Heap.get?_push_of_some _ e⟩
  refine ⟨.ref h'.objs.size, upd H h'.objs.size (.lst (out.map backV)), I1.laid (t' := tk) (fun b ob e => (PyProof.Rows.sortedHeap_old (keep1 b ob e).1 (Heap.lt_size (keep1 b ob e).2)).trans (keep1 b ob e).2) (Nat.le_refl _) ⟨?_, out, n, vals_back h3, hn⟩, rfl, q _ _ ?_ (I1.hok.fresh (Nat.le_refl _))⟩
  · rw [List.length_map, h2.perm.length_eq]
    exact hzz
  · rw [← eq]
    exact back_dp fun u hu => (e2 u (h2.perm.mem_iff.mp hu)).elim fun t h => ⟨t, h.1, h.2.1⟩
end
section
variable {K : PySem.W.Frag} {P : Program} {w : World} {Hd : Hp} {σ : L2.St} {te : TE} {qs : List (Int × Int)} {L : List (List Int × V)}
theorem en_sortS (h : EvD K te σ Hd (.list (qs.map sqV))) : EvN K (tCB (rSortS K) (tCons te tNil)) σ Hd ((sortQ qs).map sqV) := fun H s Q q =>
  h H s _ fun v H2 Hn g hd => by
    cases hd with
    | @lst a xs ds hs hall => exact ⟨Hn, a, xs, qs, g.sub, rfl, ex_l g.sub hs, hall, fun ys p hy hp => q p ys _ Hn (g.trans (Gr.alloc g.sub hp)) (fresh_back g.ex hp) (fresh_back g.sub hp) upd_same hy⟩
/-- sorted of a list that stands, no data yet -/
theorem en_sortM (h : EvM K te σ Hd (qs.map sqV)) : EvN K (tCB (rSortS K) (tCons te tNil)) σ Hd ((sortQ qs).map sqV) := fun H s Q q =>
  h H s _ fun p0 xs H2 Hn g h2 hd => ⟨Hn, p0, xs, qs, g.sub, rfl, sq_of h2, hd, fun ys p hy hp => q p ys _ Hn (g.trans (Gr.alloc g.sub hp)) (fresh_back g.ex hp) (fresh_back g.sub hp) upd_same hy⟩
theorem en_sortC (h : EvC K P w te σ Hd L) (hL : L.map (·.1) = qs.map (fun (q : Int × Int) => [q.1, q.2])) : EvN K (tCB (rSortN K P w) (tCons te tNil)) σ Hd ((sortQ qs).map sqV) := fun H s Q q =>
  h H s _ fun a m H2 Hn g ha hn h2 hk e => ⟨Hn, a, m, qs, g.sub, rfl, ⟨.inl h2, hk.mono g.sub⟩, hk, by rw [← hL, ← e, List.map_map]; rfl, fun ys p hy hp => q p ys _ Hn (g.trans (Gr.alloc g.sub hp)) (fresh_back g.ex hp) (fresh_back g.sub hp) upd_same hy⟩
end
end Cot
namespace Cot
open PySem L2 Evl RZ
section
variable {K : PySem.W.Frag}
def EvIH (K : PySem.W.Frag) (wi : TI) (g : TG) (σ : L2.St) (Hd H : Hp) (n : Nat) (S : Nat → L2.St → L2.St → Hp → Prop) : Prop := ∀ H1, Ex H H1 → ∀ R : It → Hp → Prop,
  (∀ J H2 Hn (G : Hp → Prop) (Y : Nat → Hp → V → Hp → Prop), Gr Hd H1 Hn H2 → Walk J n G Y → (∀ H', Ex Hn H' → G H') →
    (∀ (i : Nat) (x : V) (H' H'' : Hp) (σ' : L2.St) (k : L2.St → Hp → Prop), i < n → Ex Hn H' → Y i H' x H'' → (∀ σ2 H3, Ex H' H3 → S i σ' σ2 Hn → k σ2 H3) → g x σ' H'' k) → R J H2) → wi σ H1 R
section
variable {Hd H : Hp} {σ : L2.St} {ta tb : TE} {tz tu : TS} {D : Ends} {d : PyData} {ds : List PyData} {l : Addr} {xs : List V} {wi : TI} {g : TG} {n : Nat}
/-- a walk of what is told by things that stand -/
theorem go_forH {S : Nat → L2.St → L2.St → Hp → Prop} (h : EvIH K wi g σ Hd H n S) (Pv : Hp → Nat → L2.St → Hp → Prop) (h0 : ∀ H' Hn, Gr Hd H Hn H' → Pv Hn 0 σ H') (hE : ∀ Hn i σ' H', Pv Hn i σ' H' → Ex Hn H')
    (hs : ∀ Hn i σ' σ2 H', Ex Hd Hn → i < n → Pv Hn i σ' H' → S i σ' σ2 Hn → Go tu { D with nx := Pv Hn (i + 1), ct := Pv Hn (i + 1), bk := tz D } σ2 H')
    (hd : ∀ Hn σ' H', Ex Hd Hn → Pv Hn n σ' H' → Go tz D σ' H') : Go (tSeq (tFor wi g tu) tz) D σ H := fun H1 e1 =>
  h H1 e1 _ fun J H2 Hn G Y gr w hG hY => by
    refine for_it w (Pv Hn) (h0 H2 Hn (gr.pre e1)) (fun i σ' H' _ p => hG H' (hE Hn i σ' H' p)) (fun i x σ' H' H'' hi p y => ?_) (fun σ' H' p => hd Hn σ' H' gr.dx p H' (Ex.refl _))
    exact hY i x H' H'' σ' _ hi (hE Hn i σ' H' p) y fun σ2 H3 e3 hS => hs Hn i σ' σ2 H' gr.dx hi p hS H3 e3
theorem evih_call {S : Nat → L2.St → L2.St → Hp → Prop} {sp : Sp} {E : XK} {v : V} (s : Ex Hd H) (hv : Ev ta σ H v) (h : EvI K (iList K (tCall sp [] E (tCons (tC v) tNil))) g σ Hd n S) : EvIH K (iList K (tCall sp [] E (tCons ta tNil))) g σ Hd H n S := fun H1 e1 R r =>
  hv H1 e1 _ fun H2 e2 => h H2 ((s.trans e1).trans e2) R fun J H3 Hn G Y gr w hG hY => r J H3 Hn G Y (gr.pre e2) w hG hY
theorem ev_notInX (s : Ex Hd H) (ha : EvD K ta σ Hd d) (hb : Ev tb σ H (.ref l)) (hl : H l = some (.lst xs)) (hx : DpAll K Hd xs ds) (s1 : SeqAt.shaped d = true) (s2 : SeqAt.shaped (.list ds) = true) : Ev (tOp (rNotInD K) ta tb) σ H (.bl (!ds.any fun z => PyData.eqv z d)) := fun H1 e1 Q q =>
  ha H1 (s.trans e1) _ fun v H2 Hn g hd => hb H2 (e1.trans g.ex) _ fun H3 e3 => ⟨d, ds, dp_mono (g.sub.trans e3) _ hd, .lst (sq_of (((e1.trans g.ex).trans e3) _ _ hl)) (dpa_mono ((s.trans (e1.trans g.ex)).trans e3) _ hx), s1, s2, q H3 (g.ex.trans e3)⟩
end
end
end Cot

set_option Elab.async false
set_option linter.all false
set_option maxRecDepth 100000
set_option maxHeartbeats 4000000
/-! Dicts whose keys are tuples of ints; the keys' own places are told beside the dict. -/
namespace Cot
open PySem PySem.Spec PyProof.Rows L2 Evl
/-- the key k stands at b -/
def KeyM (K : PySem.W.Frag) (H : Hp) (b : Addr) (k : NestedKey) : Prop := Dp K H (.ref b) k.data ∧ k.depth ≤ 8
theorem keyM_mono {K : PySem.W.Frag} {H H' : Hp} {b : Addr} {k : NestedKey} (e : Ex H H') (h : KeyM K H b k) : KeyM K H' b k := ⟨dp_mono e _ h.1, h.2⟩
mutual
theorem nestedOf {X : Cx} {pins : List (Addr × Obj)} {σ : L2.St} {H : Hp} {s : Shared} (I : Inv X pins σ H s) : ∀ (k : NestedKey) {v : V} {u : Value}, Dp X.K H v k.data → RelV v u → NestedIs s.heap k u
  | .none, v, u, h, r => by
    unfold NestedKey.data at h
    cases h
    cases r
    exact .none
  | .num i, v, u, h, r => by
    unfold NestedKey.data at h
    cases h
    obtain ⟨t, rfl⟩ := r
    exact .int i t
  | .text x, v, u, h, r => by
    unfold NestedKey.data at h
    cases h
    obtain ⟨t, rfl⟩ := r
    exact .text x t
  | .tup ks, v, u, h, r => by
    unfold NestedKey.data at h
    cases h with
    | tup hs hall =>
      cases r
      obtain ⟨its, rv, ⟨o, ho, hc, n, hd⟩, _⟩ := I.tuple hs
      exact .tup ho hc hd (by simpa using nestedAll I ks hall rv)
theorem nestedAll {X : Cx} {pins : List (Addr × Obj)} {σ : L2.St} {H : Hp} {s : Shared} (I : Inv X pins σ H s) : ∀ (ks : List NestedKey) {vs : List V} {us : List Value}, DpAll X.K H vs (NestedKey.datas ks) → Vals vs us → NestedAll s.heap ks us
  | [], vs, us, h, r => by
    unfold NestedKey.datas at h
    cases h
    cases r
    exact .nil
  | k :: ks, vs, us, h, r => by
    unfold NestedKey.datas at h
    cases h with
    | cons h1 h2 =>
      cases r with
      | cons r1 r2 => exact .cons (nestedOf I k h1 r1) (nestedAll I ks h2 r2)
end
theorem isM {X : Cx} {pins : List (Addr × Obj)} {σ : L2.St} {H : Hp} {s : Shared} {b : Addr} {k : NestedKey} (I : Inv X pins σ H s) (h : KeyM X.K H b k) : (nestedKind X.prog X.w).is s.heap k b := ⟨nestedOf I k h.1 rfl, h.2⟩
theorem nk_room {P : Program} {w : World} {A : Around} (hu : A.units + 65 < cLine) : (nestedKind P w).room A := by
  show A.units + 8 < cLine
  omega
theorem nk_room1 {P : Program} {w : World} {A : Around} (hu : A.units + 65 < cLine) : (nestedKind P w).room A.in1 := by
  show A.units + 1 + 8 < cLine
  omega
/-- a key that is a tuple, not too deep -/
def KOk (k : NestedKey) : Prop := (∃ ks, k = .tup ks) ∧ k.depth ≤ 8
/-- the key, the place of its tuple, the value -/
abbrev Mkv := List (NestedKey × Addr × V)
def valM (m : Mkv) (k : NestedKey) : Option V := (m.find? fun e => decide (e.1 = k)).map fun e => e.2.2
def putM (m : Mkv) (k : NestedKey) (b : Addr) (v : V) : Mkv := if (valM m k).isSome then m.map (fun e => if e.1 = k then (e.1, e.2.1, v) else e) else m ++ [(k, b, v)]
abbrev MRel : Mkv → List (NestedKey × Addr × Value) → Prop := Paired fun p q => p.1 = q.1 ∧ p.2.1 = q.2.1 ∧ RelV p.2.2 q.2.2
theorem valM_pos {e : NestedKey × Addr × V} {m : Mkv} {k : NestedKey} (h : e.1 = k) : valM (e :: m) k = some e.2.2 := by simp [valM, List.find?_cons, h]
theorem valM_neg {e : NestedKey × Addr × V} {m : Mkv} {k : NestedKey} (h : ¬ e.1 = k) : valM (e :: m) k = valM m k := by simp [valM, List.find?_cons, h]
theorem mrel_val {m : Mkv} {xs : List (NestedKey × Addr × Value)} (r : MRel m xs) (k : NestedKey) : RelO (valM m k) ((atKey xs k).map (·.2)) := by
  induction r with
  | nil => exact True.intro
  | @cons p q ps qs h t ih =>
    by_cases e : p.1 = k
    · rw [valM_pos e]
      have e2 : (atKey (q :: qs) k) = some q.2 := by simp [atKey, List.find?_cons, ← h.1, e]
      rw [e2]
      exact h.2.2
    · rw [valM_neg e]
      have e2 : (atKey (q :: qs) k) = atKey qs k := by simp [atKey, List.find?_cons, ← h.1, e]
      rw [e2]
      exact ih
theorem mrel_map {m : Mkv} {xs : List (NestedKey × Addr × Value)} (r : MRel m xs) (k : NestedKey) {v : V} {u : Value} (rv : RelV v u) : MRel (m.map (fun e => if e.1 = k then (e.1, e.2.1, v) else e)) (xs.map (putAt k u)) := by
  induction r with
  | nil => exact .nil
  | @cons p q ps qs h t ih =>
    refine Paired.cons ?_ ih
    unfold putAt
    dsimp only
    by_cases e : p.1 = k
    · rw [if_pos e, if_pos (by rw [← h.1]; exact e)]
      exact ⟨h.1, h.2.1, rv⟩
    · rw [if_neg e, if_neg (by rw [← h.1]; exact e)]
      exact h
theorem mrel_app {m m2 : Mkv} {xs ys : List (NestedKey × Addr × Value)} (r : MRel m xs) (r2 : MRel m2 ys) : MRel (m ++ m2) (xs ++ ys) := by
  induction r with
  | nil => exact r2
  | cons h t ih => exact Paired.cons h ih
theorem mrel_put {m : Mkv} {xs : List (NestedKey × Addr × Value)} (r : MRel m xs) (k : NestedKey) (b : Addr) {v : V} {u : Value} (rv : RelV v u) : MRel (putM m k b v) (storedH xs k b u) := by
  have h := (mrel_val r k).isSome_eq
  rw [Option.isSome_map] at h
  unfold putM storedH
  rw [h]
  split
  · exact mrel_map r k rv
  · exact mrel_app r (.cons ⟨rfl, rfl, rv⟩ .nil)
theorem putM_len (m : Mkv) (k : NestedKey) (b : Addr) (v : V) : (putM m k b v).length ≤ m.length + 1 := by
  unfold putM
  split
  · rw [List.length_map]; omega
  · rw [List.length_append]; exact Nat.le_refl _
theorem putM_new {m : Mkv} {k : NestedKey} (b : Addr) (v : V) (h : valM m k = none) : putM m k b v = m ++ [(k, b, v)] := by
  unfold putM
  rw [h]
  rfl
theorem valM_none {m : Mkv} {k : NestedKey} : valM m k = none ↔ ∀ e ∈ m, e.1 ≠ k := by
  unfold valM
  rw [Option.map_eq_none_iff, List.find?_eq_none]
  simp
theorem valM_app (m m2 : Mkv) (k : NestedKey) : valM (m ++ m2) k = (valM m k).or (valM m2 k) := by
  unfold valM
  rw [List.find?_append]
  cases m.find? fun e => decide (e.1 = k) <;> rfl
theorem valM_mem {m : Mkv} {k : NestedKey} {v : V} (h : valM m k = some v) : ∃ b, (k, b, v) ∈ m := by
  unfold valM at h
  obtain ⟨e, he, hv⟩ := Option.map_eq_some_iff.mp h
  have h1 := List.mem_of_find?_eq_some he
  have h2 := List.find?_some he
  obtain ⟨k', b, v'⟩ := e
  have h3 : k' = k := of_decide_eq_true h2
  have h4 : v' = v := hv
  subst h3
  subst h4
  exact ⟨b, h1⟩
def DicPM (P : Program) (w : World) (h : Heap) (a : Addr) (m : Mkv) : Prop := m.length ≤ sizeLine ∧ (a == sysModules) = false ∧ ∃ xs : List (NestedKey × Addr × Value), MRel m xs ∧ (xs.map (·.1)).Nodup ∧
  ∃ o es ep, h.get? a = some o ∧ o.ExactDict ∧ o.data = .dict es ep ∧ es.toList = xs.map (entryOfKey (nestedKind P w))
/-- the dict at a -/
def DicM (P : Program) (w : World) (a : Addr) (m : Mkv) : HO := .ext fun h => DicPM P w h a m
theorem dicM_ok {P : Program} {w : World} {H : Hp} {h : Heap} {a : Addr} {m : Mkv} (d : DicPM P w h a m) : ObjOk P w H h a (DicM P w a m) := by
  refine ⟨d, ?_, ?_⟩
  · obtain ⟨_, _, _, _, _, o, _, _, ho, _⟩ := d
    exact ⟨o, ho⟩
  · rintro h1 h2 ⟨z, y, xs, r, n, o, es, ep, ho, rest⟩ k
    exact ⟨z, y, xs, r, n, o, es, ep, k o ho, rest⟩
def KeysM (K : PySem.W.Frag) (H : Hp) (m : Mkv) : Prop := ∀ e ∈ m, KeyM K H e.2.1 e.1
theorem KeysM.mono {K : PySem.W.Frag} {H H' : Hp} {m : Mkv} (e : Ex H H') (k : KeysM K H m) : KeysM K H' m := fun x hx => keyM_mono e (k x hx)
theorem KeysM.put {K : PySem.W.Frag} {H : Hp} {m : Mkv} {k : NestedKey} {b : Addr} {v : V} (h : KeysM K H m) (hb : KeyM K H b k) : KeysM K H (putM m k b v) := by
  intro e he
  unfold putM at he
  split at he
  · obtain ⟨e0, h0, rfl⟩ := List.mem_map.mp he
    split
    · exact h e0 h0
    · exact h e0 h0
  · rcases List.mem_append.mp he with he | he
    · exact h e he
    · rcases List.mem_cons.mp he with rfl | he
      · exact hb
      · cases he
def MiAt (K : PySem.W.Frag) (P : Program) (w : World) (H : Hp) (a : Addr) (m : Mkv) : Prop := H a = some (DicM P w a m) ∧ KeysM K H m
/-- the dict at a while a loop walks it: its object stays -/
def DicMF (P : Program) (w : World) (a : Addr) (m : Mkv) (o : Obj) : HO := .ext fun h => h.get? a = some o ∧ DicPM P w h a m
/-- a dict that can be read -/
def MiR (K : PySem.W.Frag) (P : Program) (w : World) (H : Hp) (a : Addr) (m : Mkv) : Prop := (H a = some (DicM P w a m) ∨ ∃ o, H a = some (DicMF P w a m o)) ∧ KeysM K H m
theorem MiR.mono {K : PySem.W.Frag} {P : Program} {w : World} {H H' : Hp} {a : Addr} {m : Mkv} (e : Ex H H') (d : MiR K P w H a m) : MiR K P w H' a m := ⟨d.1.elim (fun h => .inl (e _ _ h)) fun ⟨o, h⟩ => .inr ⟨o, e _ _ h⟩, d.2.mono e⟩
theorem MiAt.r {K : PySem.W.Frag} {P : Program} {w : World} {H : Hp} {a : Addr} {m : Mkv} (d : MiAt K P w H a m) : MiR K P w H a m := ⟨.inl d.1, d.2⟩
theorem MiAt.mono {K : PySem.W.Frag} {P : Program} {w : World} {H H' : Hp} {a : Addr} {m : Mkv} (e : Ex H H') (d : MiAt K P w H a m) : MiAt K P w H' a m := ⟨e _ _ d.1, d.2.mono e⟩
section
variable {X : Cx} {pins : List (Addr × Obj)} {σ : L2.St} {H : Hp} {s : Shared} {a b : Addr} {m : Mkv} {k : NestedKey} {v : V} {u : Value} {A : Around} {E : Value → Shared → Prop}
theorem mdic_of (I : Inv X pins σ H s) (d : MiR X.K X.prog X.w H a m) : m.length ≤ sizeLine ∧ (a == sysModules) = false ∧ ∃ xs, MRel m xs ∧ s.heap.DictOfH (nestedKind X.prog X.w) a xs := by
  have hp : DicPM X.prog X.w s.heap a m := by
    rcases d.1 with h | ⟨o, h⟩
    · exact (show ObjOk X.prog X.w H s.heap a (DicM X.prog X.w a m) from I.hok a _ h).1
    · exact (show ObjOk X.prog X.w H s.heap a (DicMF X.prog X.w a m o) from I.hok a _ h).1.2
  obtain ⟨z, y, xs, r, n, o, es, ep, ho, hx, hd, he⟩ := hp
  refine ⟨z, y, xs, r, o, es, ep, ho, hx, hd, he, ?_, n⟩
  have all : ∀ {l : Mkv} {ys : List (NestedKey × Addr × Value)}, MRel l ys → (∀ e ∈ l, KeyM X.K H e.2.1 e.1) → ∀ x ∈ ys, (nestedKind X.prog X.w).is s.heap x.1 x.2.1 := by
    intro l ys q
    induction q with
    | nil => intro _ x hx; cases hx
    | @cons p q ps qs hq t ih =>
      intro hk x hx
      rcases List.mem_cons.mp hx with rfl | hx
      · have := isM I (hk p List.mem_cons_self)
        rw [hq.1, hq.2.1] at this
        exact this
      · exact ih (fun e he => hk e (List.mem_cons_of_mem _ he)) x hx
  exact all r d.2
theorem mdic_get {Q : Value → Shared → Prop} (hu : A.units + 65 < cLine) (I : Inv X pins σ H s) (d : MiR X.K X.prog X.w H a m) (hb : KeyM X.K H b k) (hv : valM m k = some v) (h : ∀ w' s', Inv X pins σ H s' → RelV v w' → Q w' s') :
    wpAny (model X.prog X.w) A (getItem (.ref a) (.ref b)) Q E s := by
  obtain ⟨z, y, xs, r, dd⟩ := mdic_of I d
  have rv := mrel_val r k
  rw [hv] at rv
  obtain ⟨w', hw, rw'⟩ := RelO.some_of (v := v) (o := (atKey xs k).map (·.2)) rv
  obtain ⟨p, hp, hp2⟩ := Option.map_eq_some_iff.mp hw
  refine wpAny_getItem_heap (nk_room1 hu) (isM I hb) dd hp ?_
  rw [hp2]
  exact h w' _ (I.tok _) rw'
theorem mdic_in {Q : Value → Shared → Prop} (hu : A.units + 65 < cLine) (I : Inv X pins σ H s) (d : MiR X.K X.prog X.w H a m) (hb : KeyM X.K H b k) (h : ∀ s', Inv X pins σ H s' → Q (.bool (valM m k).isSome) s') :
    wpAny (model X.prog X.w) A (compareOp .In (.ref b) (.ref a)) Q E s := by
  obtain ⟨z, y, xs, r, dd⟩ := mdic_of I d
  have q := (mrel_val r k).isSome_eq
  rw [Option.isSome_map] at q
  refine wpAny_in_heap (nk_room1 hu) (isM I hb) y dd ?_
  rw [← q]
  exact h _ (I.tok _)
theorem mdic_notIn {Q : Value → Shared → Prop} (hu : A.units + 65 < cLine) (I : Inv X pins σ H s) (d : MiR X.K X.prog X.w H a m) (hb : KeyM X.K H b k) (h : ∀ s', Inv X pins σ H s' → Q (.bool (!(valM m k).isSome)) s') :
    wpAny (model X.prog X.w) A (compareOp .NotIn (.ref b) (.ref a)) Q E s := by
  obtain ⟨z, y, xs, r, dd⟩ := mdic_of I d
  have q := (mrel_val r k).isSome_eq
  rw [Option.isSome_map] at q
  refine wpAny_notIn_heap (nk_room1 hu) (isM I hb) y dd ?_
  rw [← q]
  exact h _ (I.tok _)
theorem mdic_get2 {z : V} {r0 : Value} {Q : Value → Shared → Prop} (hu : A.units + 65 < cLine) (I : Inv X pins σ H s) (d : MiR X.K X.prog X.w H a m) (hb : KeyM X.K H b k) (rz : RelV z r0) (h : ∀ w' s', Inv X pins σ H s' → RelV ((valM m k).getD z) w' → Q w' s') :
    wpAny (model X.prog X.w) A (call (.builtin "dict.get") [.ref a, .ref b, r0]) Q E s := by
  obtain ⟨z', y, xs, r, dd⟩ := mdic_of I d
  exact call_meetsIn PySem.F.slot_dict_get dd.typeIs PySem.F.entry_dict_get (PySem.F.args_dict_get_3 _ _ _) (meetsH_dict_get_default (nestedKind X.prog X.w) a b y r0) ⟨nk_room1 hu, k, xs, isM I hb, dd, h _ _ (I.tok _) ((mrel_val r k).getD rz)⟩
theorem mdic_put {Q : Unit → Shared → Prop} (hu : A.units + 65 < cLine) (I : Inv X pins σ H s) (d : MiAt X.K X.prog X.w H a m) (hb : KeyM X.K H b k) (hl : m.length < sizeLine) (rv : RelV v u) (h : ∀ s', Inv X pins σ (upd H a (DicM X.prog X.w a (putM m k b v))) s' → Q () s') :
    wpAny (model X.prog X.w) A (setItem (.ref a) (.ref b) u) Q E s := by
  obtain ⟨z, y, xs, r, dd⟩ := mdic_of I d.r
  have hz : xs.length ≤ sizeLine := by rw [← Paired.length r]; exact z
  refine wpAny_setItem_heap (hsz := hz) (nk_room1 hu) (isM I hb) dd fun h' dd' hs => h _ ?_
  obtain ⟨o, es, ep, ho, h2, h3, h4, _, h5⟩ := dd'
  refine d_write I (by rw [d.1]; exact True.intro) hs ⟨o, ho⟩ (dicM_ok ⟨?_, y, _, mrel_put r k b rv, h5, o, es, ep, ho, h2, h3, h4⟩)
  have := putM_len m k b v
  omega
theorem mdic_set {Q : Unit → Shared → Prop} (hu : A.units + 65 < cLine) (I : Inv X pins σ H s) (d : MiAt X.K X.prog X.w H a m) (hb : KeyM X.K H b k) (hl : m.length < sizeLine) (rv : RelV v u) (h : ∀ s', Inv X pins σ (upd H a (DicM X.prog X.w a (putM m k b v))) s' → Q () s') :
    wpAny (model X.prog X.w) A (dictSet a (.ref b) u) Q E s := by
  obtain ⟨z, y, xs, r, dd⟩ := mdic_of I d.r
  have hz : xs.length ≤ sizeLine := by rw [← Paired.length r]; exact z
  refine wpAny_dictSet_heap (hsz := hz) (knd := nestedKind X.prog X.w) (nk_room hu) (isM I hb) dd fun h' dd' hs => h _ ?_
  obtain ⟨o, es, ep, ho, h2, h3, h4, _, h5⟩ := dd'
  refine d_write I (by rw [d.1]; exact True.intro) hs ⟨o, ho⟩ (dicM_ok ⟨?_, y, _, mrel_put r k b rv, h5, o, es, ep, ho, h2, h3, h4⟩)
  have := putM_len m k b v
  omega
theorem mdic_empty {P : Program} {w : World} {h : Heap} (hb : sysModules < h.objs.size) : DicPM P w (h.push { cls := .type "dict", data := .dict #[] }) h.objs.size [] :=
  ⟨Nat.zero_le _, beq_eq_false_iff_ne.mpr (Ne.symm (Nat.ne_of_lt hb)), [], .nil, List.nodup_nil, _, #[], 0, Heap.get?_push_size _ rfl, ⟨rfl, rfl, rfl⟩, rfl, rfl⟩
end
/-! ### the rules -/
section
variable (K : PySem.W.Frag) (P : Program) (w : World)
def tMGet (td ty : TE) : TE := fun σ H Q => td σ H fun x H1 => ty σ H1 fun y H2 => ∃ a m b k v, x = .ref a ∧ y = .ref b ∧ MiR K P w H2 a m ∧ KeyM K H2 b k ∧ valM m k = some v ∧ Q v H2
def tMIn (neg : Bool) (ty td : TE) : TE := fun σ H Q => ty σ H fun y H1 => td σ H1 fun x H2 => ∃ a m b k, x = .ref a ∧ y = .ref b ∧ MiR K P w H2 a m ∧ KeyM K H2 b k ∧ Q (.bl (if neg then !(valM m k).isSome else (valM m k).isSome)) H2
def tMGet2 (td ty tx : TE) : TE := fun σ H Q => td σ H fun x H1 => ∃ a m, x = .ref a ∧ MiR K P w H1 a m ∧ ty σ H1 fun y H2 => tx σ H2 fun z H3 => ∃ b k, y = .ref b ∧ MiR K P w H3 a m ∧ KeyM K H3 b k ∧ Q ((valM m k).getD z) H3
def sMPut (td ty tv : TE) : TS := fun D σ H => tv σ H fun v H1 => td σ H1 fun x H2 => ty σ H2 fun y H3 => ∃ a m b k, x = .ref a ∧ y = .ref b ∧ MiAt K P w H3 a m ∧ KeyM K H3 b k ∧ m.length < sizeLine ∧ D.nx σ (upd H3 a (DicM P w a (putM m k b v)))
def tMNew : TE := fun _ H Q => ∀ p, H p = none → Q (.ref p) (upd H p (DicM P w p []))
def rMLen : List V → Hp → VK → Prop := fun xs H Q => ∃ a m, xs = [.ref a] ∧ MiR K P w H a m ∧ Q (.int ((m.length : Nat) : Int)) H
/-- {k: v}, one pair -/
def tMOne (tk tv : TE) : TE := fun σ H Q => ∀ p, H p = none → tk σ (upd H p (DicM P w p [])) fun y H1 => tv σ H1 fun v H2 => ∃ b k, y = .ref b ∧ H2 p = some (DicM P w p []) ∧ KeyM K H2 b k ∧ Q (.ref p) (upd H2 p (DicM P w p [(k, b, v)]))
end
section
variable {X : Cx} {o i e f value : Expr} {pos pos' apos cpos : Pos} {td ty tv tx : TE}
theorem pe_mget (hu : X.A.units + 65 < cLine) (ho : PE X o td) (hi : PE X i ty) (hs : NoSl i) : PE X (.Subscript o i pos) (tMGet X.K X.prog X.w td ty) := by
  refine ⟨fun pins s σ H Q I h => ?_⟩
  refine subD_of PySem.F.slot_dict_getitem.lookup hs (thn (ho.run pins s σ H _ I h) fun u s1 ⟨x, H1, I1, rx, q1⟩ => thn (hi.run pins s1 σ H1 _ I1 q1) fun iv s2 ⟨y, H2, I2, ry, a, m, b, k, v, ex, ey, d, hb, hv, q2⟩ => ?_)
  subst ex
  subst ey
  cases rx
  cases ry
  exact ⟨(mdic_of I2 d).2.2.elim fun xs q => q.2.typeIs, mdic_get hu I2 d hb hv fun w' s3 I3 rw' => ⟨v, H2, I3, rw', q2⟩⟩
theorem pc_min (hu : X.A.units + 65 < cLine) (hi : PE X i ty) (ho : PE X o td) : PC X .In i o (tMIn X.K X.prog X.w false ty td) := by
  refine ⟨fun pins s σ H Q I h => ?_⟩
  refine thn (hi.run pins s σ H _ I h) fun iv s1 ⟨y, H1, I1, ry, q1⟩ => thn (ho.run pins s1 σ H1 _ I1 q1) fun u s2 ⟨x, H2, I2, rx, a, m, b, k, ex, ey, d, hb, q2⟩ => ?_
  subst ex
  subst ey
  cases rx
  cases ry
  exact mdic_in hu I2 d hb fun s3 I3 => ⟨.bl (valM m k).isSome, H2, I3, rfl, q2⟩
theorem pc_mnotin (hu : X.A.units + 65 < cLine) (hi : PE X i ty) (ho : PE X o td) : PC X .NotIn i o (tMIn X.K X.prog X.w true ty td) := by
  refine ⟨fun pins s σ H Q I h => ?_⟩
  refine thn (hi.run pins s σ H _ I h) fun iv s1 ⟨y, H1, I1, ry, q1⟩ => thn (ho.run pins s1 σ H1 _ I1 q1) fun u s2 ⟨x, H2, I2, rx, a, m, b, k, ex, ey, d, hb, q2⟩ => ?_
  subst ex
  subst ey
  cases rx
  cases ry
  exact mdic_notIn hu I2 d hb fun s3 I3 => ⟨.bl (!(valM m k).isSome), H2, I3, rfl, q2⟩
theorem pe_mget2 (hu : X.A.units + 65 < cLine) (ho : PE X o td) (he : PE X e ty) (hf : PE X f tx) (m : M2 X o "get" apos e f cpos) : PE X (.Call (.Attribute o "get" apos) [e, f] [] cpos) (tMGet2 X.K X.prog X.w td ty tx) := by
  refine ⟨fun pins s σ H Q I h => ?_⟩
  refine wpAny_Call_method m.base m.few m.line PySem.F.plainAttrs_dict PySem.F.slot_dict_get PySem.F.type_dict_get (thn (ho.run pins s σ H _ I h) fun u s1 ⟨x, H1, I1, rx, a, mm, ex, d, q1⟩ => ?_)
  subst ex
  cases rx
  obtain ⟨_, _, xs, _, dd⟩ := mdic_of I1 d
  refine ⟨dd.typeIs, fun b q => ?_, ?_⟩
  · cases q
    obtain ⟨ob, _, _, h1, h2, _⟩ := dd
    exact ⟨ob, h1, h2.2.1⟩
  · rw [m.trees]
    refine Calls.callWith_builtin rfl (Calls.evalArgs_plain (Calls.spliced_cons (thn (he.run pins s1 σ H1 _ I1 q1) fun iv s2 ⟨y, H2, I2, ry, q2⟩ =>
      Calls.spliced_cons (thn (hf.run pins s2 σ H2 _ I2 q2) fun fv s3 ⟨z, H3, I3, rz, b, k, ey, d3, hb, q3⟩ => Calls.spliced_nil ?_))))
    subst ey
    cases ry
    exact mdic_get2 hu I3 d3 hb rz fun w' s4 I4 rw' => ⟨_, H3, I4, rw', q3⟩
theorem ps_mput (hu : X.A.units + 65 < cLine) (ho : PE X o td) (hi : PE X i ty) (hv : PE X value tv) (hs : swapsWith value (some (.Subscript o i pos')) pos.line X.env = pure false) :
    PS X (.Assign [.Subscript o i pos'] value pos) (sMPut X.K X.prog X.w td ty tv) := by
  refine ⟨fun pins s σ H D I h => ?_⟩
  refine wpAny_Assign_Subscript (thn (hv.run pins s σ H _ I h) fun r s1 ⟨v, H1, I1, rv, q1⟩ => thn (ho.run pins s1 σ H1 _ I1 q1) fun u s2 ⟨x, H2, I2, rx, q2⟩ => thn (hi.run pins s2 σ H2 _ I2 q2) fun iv s3 ⟨y, H3, I3, ry, a, m, b, k, ex, ey, d, hb, hl, q3⟩ => ?_) hs
  subst ex
  subst ey
  cases rx
  cases ry
  exact mdic_put hu I3 d hb hl rv fun s4 I4 => ⟨σ, _, I4, q3⟩
theorem pe_mnew : PE X (.Dict [] [] pos) (tMNew X.prog X.w) := ⟨fun pins s σ H Q I h =>
  wpAny_Dict_empty ⟨.ref s.heap.objs.size, _, I.laid (a := s.heap.objs.size) (o := DicM X.prog X.w s.heap.objs.size []) (t' := s.toks) (fun _ _ q => Heap.get?_push_of_some _ q) (Nat.le_refl _) (dicM_ok (mdic_empty I.big)), rfl, h _ (I.hok.fresh (Nat.le_refl _))⟩⟩
theorem call_mlen : CallR X (.builtin "len") (rMLen X.K X.prog X.w) := by
  intro pins s σ H xs us Q I r h
  obtain ⟨a, m, rfl, d, q⟩ := h
  obtain ⟨u, rfl, rx⟩ := vals1 r
  cases rx
  obtain ⟨z, y, ys, rel, dd⟩ := mdic_of I d
  have hl : m.length = ys.length := Paired.length rel
  refine call_len_dictH y dd (by rw [← hl]; rw [sizeLine_eq] at z; omega) ?_
  rw [← hl]
  exact ⟨.int ((m.length : Nat) : Int), H, I.tok _, ⟨_, rfl⟩, q⟩
theorem pe_mone (hu : X.A.units + 65 < cLine) {k v : Expr} {tk : TE} (hk : PE X k tk) (hv : PE X v tv) : PE X (.Dict [some k] [v] pos) (tMOne X.K X.prog X.w tk tv) := by
  refine ⟨fun pins s σ H Q I h => ?_⟩
  have hn := I.hok.fresh (Nat.le_refl s.heap.objs.size)
  have I1 := I.laid (a := s.heap.objs.size) (o := DicM X.prog X.w s.heap.objs.size []) (h' := s.heap.push { cls := .type "dict", data := .dict #[] }) (t' := s.toks) (fun _ _ q => Heap.get?_push_of_some _ q) (Nat.le_refl _) (dicM_ok (mdic_empty I.big))
  rw [arm_eval_Dict, zip_pairTrees [some k] [v] X.env pos rfl rfl, dictDisplay_pairs (pairTrees [some k] [v] X.env pos) (by intro z; cases z) (by show 1 < 17; omega)]
  refine wpAny_bind (wpAny_standAt (wpAny_bind (wpAny_subDictH (knd := nestedKind X.prog X.w) (nk_room hu) (by show 1 ≤ 15; omega) (pairTrees_cons_walk (thn (hk.run pins _ σ _ _ I1 (h _ hn)) fun kv s2 ⟨y, H2, I2, ry, q2⟩ => thn (hv.run pins s2 σ H2 _ I2 q2) fun vv s3 ⟨z, H3, I3, rz, b, kk, ey, hp, hb, q3⟩ => pairTrees_nil_walk ?_)))))
  subst ey
  cases ry
  obtain ⟨zz, yy, xs, rel, dd⟩ := mdic_of I3 (m := []) (a := s.heap.objs.size) ⟨.inl hp, fun _ h => by cases h⟩
  cases rel
  refine ⟨[(kk, b, vv)], ⟨rfl, rfl, isM I3 hb, True.intro⟩, dd, fun h' tk dd' hs => wpAny_pure ⟨.ref s.heap.objs.size, _, ?_, rfl, q3⟩⟩
  obtain ⟨o, es, ep, ho, h2, h3, h4, _, h5⟩ := dd'
  exact d_write I3 (by rw [hp]; exact True.intro) hs ⟨o, ho⟩ (dicM_ok ⟨by rw [sizeLine_eq]; show 1 ≤ 16777216; omega, yy, _, .cons ⟨rfl, rfl, rz⟩ .nil, h5, o, es, ep, ho, h2, h3, h4⟩)
end
end Cot
namespace Cot
open PySem L2 Evl
section
variable {K : PySem.W.Frag} {P : Program} {w : World} {H H' Hd Hd' Hn H1 H2 : Hp} {σ : L2.St} {ta td ty tv tx : TE} {tr : TA} {D : Ends} {tz : TS} {a b : Addr} {m : Mkv} {k : NestedKey} {v z : V} {i : Nat}
theorem dp_keyM (h : Dp K H v k.data) (ko : KOk k) : ∃ p, v = .ref p ∧ KeyM K H p k := by
  obtain ⟨⟨ks, rfl⟩, hd⟩ := ko
  have h' := h
  unfold NestedKey.data at h'
  cases h' with
  | @tup p xs ds hs hall => exact ⟨p, rfl, h, hd⟩
theorem keyM_dp (h : KeyM K H b k) : Dp K H (.ref b) k.data := h.1
theorem ev_minR {neg : Bool} (ko : KOk k) (s : Ex Hd H) (hk : EvD K ty σ Hd k.data) (hd : Ev td σ H (.ref a)) (d : MiR K P w H a m) : Ev (tMIn K P w neg ty td) σ H (.bl (if neg then !(valM m k).isSome else (valM m k).isSome)) := fun H1 e1 Q q =>
  hk H1 (s.trans e1) _ fun v H2 Hn g hv => hd H2 (e1.trans g.ex) _ fun H3 e3 => by
    obtain ⟨p, rfl, hp⟩ := dp_keyM hv ko
    exact ⟨a, m, p, k, rfl, rfl, d.mono ((e1.trans g.ex).trans e3), keyM_mono (g.sub.trans e3) hp, q H3 (g.ex.trans e3)⟩
theorem ev_mgetR (ko : KOk k) (s : Ex Hd H) (hd : Ev td σ H (.ref a)) (hk : EvD K ty σ Hd k.data) (d : MiR K P w H a m) (hv : valM m k = some v) : Ev (tMGet K P w td ty) σ H v := fun H1 e1 Q q =>
  hd H1 e1 _ fun H2 e2 => hk H2 ((s.trans e1).trans e2) _ fun u H3 Hn g hu => by
    obtain ⟨p, rfl, hp⟩ := dp_keyM hu ko
    exact ⟨a, m, p, k, v, rfl, rfl, d.mono ((e1.trans e2).trans g.ex), keyM_mono g.sub hp, hv, q H3 (e2.trans g.ex)⟩
theorem ev_mget2R (ko : KOk k) (s : Ex Hd H) (hd : Ev td σ H (.ref a)) (hk : EvD K ty σ Hd k.data) (hz : Ev tx σ H z) (d : MiR K P w H a m) : Ev (tMGet2 K P w td ty tx) σ H ((valM m k).getD z) := fun H1 e1 Q q =>
  hd H1 e1 _ fun H2 e2 => ⟨a, m, rfl, d.mono (e1.trans e2), hk H2 ((s.trans e1).trans e2) _ fun u H3 Hn g hu => hz H3 ((e1.trans e2).trans g.ex) _ fun H4 e4 => by
    obtain ⟨p, rfl, hp⟩ := dp_keyM hu ko
    exact ⟨p, k, rfl, d.mono (((e1.trans e2).trans g.ex).trans e4), keyM_mono (g.sub.trans e4) hp, q H4 ((e2.trans g.ex).trans e4)⟩⟩
theorem ev_mlenR (hd : Ev td σ H (.ref a)) (d : MiR K P w H a m) : Ev (tCB (rMLen K P w) (tCons td tNil)) σ H (.int ((m.length : Nat) : Int)) := fun H1 e1 Q q =>
  hd H1 e1 _ fun H2 e2 => ⟨a, m, rfl, d.mono (e1.trans e2), q H2 e2⟩
theorem ev_min {neg : Bool} (ko : KOk k) (s : Ex Hd H) (hk : EvD K ty σ Hd k.data) (hd : Ev td σ H (.ref a)) (d : MiAt K P w H a m) : Ev (tMIn K P w neg ty td) σ H (.bl (if neg then !(valM m k).isSome else (valM m k).isSome)) := ev_minR ko s hk hd d.r
theorem ev_mget (ko : KOk k) (s : Ex Hd H) (hd : Ev td σ H (.ref a)) (hk : EvD K ty σ Hd k.data) (d : MiAt K P w H a m) (hv : valM m k = some v) : Ev (tMGet K P w td ty) σ H v := ev_mgetR ko s hd hk d.r hv
theorem ev_mget2 (ko : KOk k) (s : Ex Hd H) (hd : Ev td σ H (.ref a)) (hk : EvD K ty σ Hd k.data) (hz : Ev tx σ H z) (d : MiAt K P w H a m) : Ev (tMGet2 K P w td ty tx) σ H ((valM m k).getD z) := ev_mget2R ko s hd hk hz d.r
theorem ev_mlen (hd : Ev td σ H (.ref a)) (d : MiAt K P w H a m) : Ev (tCB (rMLen K P w) (tCons td tNil)) σ H (.int ((m.length : Nat) : Int)) := ev_mlenR hd d.r
theorem go_mput (ko : KOk k) (s : Ex Hd H) (hv : Ev tv σ H v) (hd : Ev td σ H (.ref a)) (hk : EvD K ty σ Hd k.data) (d : MiAt K P w H a m) (hl : m.length < 100000)
    (kk : ∀ p H' Hn, Gr Hd H Hn H' → KeyM K Hn p k → Go tz D σ (upd H' a (DicM P w a (putM m k p v)))) : Go (tSeq (sMPut K P w td ty tv) tz) D σ H := fun H1 e1 =>
  hv H1 e1 _ fun H2 e2 => hd H2 (e1.trans e2) _ fun H3 e3 => hk H3 (((s.trans e1).trans e2).trans e3) _ fun u H4 Hn g hu => by
    obtain ⟨p, rfl, hp⟩ := dp_keyM hu ko
    exact ⟨a, m, p, k, rfl, rfl, d.mono (((e1.trans e2).trans e3).trans g.ex), keyM_mono g.sub hp, sz_lt hl, kk p H4 Hn (g.pre ((e1.trans e2).trans e3)) hp _ (Ex.refl _)⟩
/-- a new dict of one pair -/
theorem go_mone (ko : KOk k) (s : Ex Hd H) (hk : EvD K ty σ Hd k.data) (hv : ∀ H1, Ex H H1 → Ev tv σ H1 v)
    (kk : ∀ a p H' Hn, Gr Hd H Hn H' → H a = none → Hn a = none → KeyM K Hn p k → H' a = some (DicM P w a [(k, p, v)]) → Go tz D (σ.set i (some (.ref a))) H') : Go (tSeq (tAsg (tMOne K P w ty tv) (gName i)) tz) D σ H := fun H1 e1 a ha => by
  have s1 : Ex Hd (upd H1 a (DicM P w a [])) := (s.trans e1).trans (Ex.new ha)
  refine hk _ s1 _ fun u H2 Hn g hu => hv H2 ((e1.trans (Ex.new ha)).trans g.ex) _ (Ex.refl _) _ fun H3 e3 => ?_
  obtain ⟨p, rfl, hp⟩ := dp_keyM hu ko
  have h3 : H3 a = some (DicM P w a []) := e3 _ _ (g.ex _ _ upd_same)
  have hna : Hn a = none := g.fr _ _ upd_same (fresh_back (s.trans e1) ha)
  refine ⟨p, k, rfl, h3, keyM_mono (g.sub.trans e3) hp, ?_⟩
  refine kk a p _ Hn ⟨fun x o hx => ?_, g.dx, Ex.mut (g.sub.trans e3) hna, fun x o hx hd => ?_⟩ (fresh_back e1 ha) hna hp upd_same _ (Ex.refl _)
  · have hx1 := e1 x o hx
    rw [upd_ne (ne_of_none hx1 ha)]
    exact e3 _ _ (g.ex _ _ (by rw [upd_ne (ne_of_none hx1 ha)]; exact hx1))
  · have hx1 := e1 x o hx
    exact g.fr x o (by rw [upd_ne (ne_of_none hx1 ha)]; exact hx1) hd
end
end Cot
namespace Cot
open PySem L2 Evl
/-! ### the same, where the context is a block's -/
section
variable {X : Cx} {K : PySem.W.Frag} {P : Program} {w : World} {o i e f value : Expr} {pos pos' apos cpos : Pos} {td ty tv tx tk : TE}
theorem pb_mget (h1 : X.K = K) (h2 : X.prog = P) (h3 : X.w = w) (hu : X.A.units + 65 < cLine) (ho : PE X o td) (hi : PE X i ty) (hs : NoSl i) : PE X (.Subscript o i pos) (tMGet K P w td ty) := by
  subst h1 h2 h3
  exact pe_mget hu ho hi hs
theorem pb_min (h1 : X.K = K) (h2 : X.prog = P) (h3 : X.w = w) (hu : X.A.units + 65 < cLine) (hi : PE X i ty) (ho : PE X o td) : PC X .In i o (tMIn K P w false ty td) := by
  subst h1 h2 h3
  exact pc_min hu hi ho
theorem pb_mnotin (h1 : X.K = K) (h2 : X.prog = P) (h3 : X.w = w) (hu : X.A.units + 65 < cLine) (hi : PE X i ty) (ho : PE X o td) : PC X .NotIn i o (tMIn K P w true ty td) := by
  subst h1 h2 h3
  exact pc_mnotin hu hi ho
theorem pb_mget2 (h1 : X.K = K) (h2 : X.prog = P) (h3 : X.w = w) (hu : X.A.units + 65 < cLine) (ho : PE X o td) (he : PE X e ty) (hf : PE X f tx) (m : M2 X o "get" apos e f cpos) : PE X (.Call (.Attribute o "get" apos) [e, f] [] cpos) (tMGet2 K P w td ty tx) := by
  subst h1 h2 h3
  exact pe_mget2 hu ho he hf m
theorem pb_mput (h1 : X.K = K) (h2 : X.prog = P) (h3 : X.w = w) (hu : X.A.units + 65 < cLine) (ho : PE X o td) (hi : PE X i ty) (hv : PE X value tv) (hs : swapsWith value (some (.Subscript o i pos')) pos.line X.env = pure false) :
    PS X (.Assign [.Subscript o i pos'] value pos) (sMPut K P w td ty tv) := by
  subst h1 h2 h3
  exact ps_mput hu ho hi hv hs
theorem pb_mnew (h2 : X.prog = P) (h3 : X.w = w) : PE X (.Dict [] [] pos) (tMNew P w) := by
  subst h2 h3
  exact pe_mnew
theorem cb_mlen (h1 : X.K = K) (h2 : X.prog = P) (h3 : X.w = w) : CallR X (.builtin "len") (rMLen K P w) := by
  subst h1 h2 h3
  exact call_mlen
theorem pb_mone (h1 : X.K = K) (h2 : X.prog = P) (h3 : X.w = w) (hu : X.A.units + 65 < cLine) {k v : Expr} (hk : PE X k tk) (hv : PE X v tv) : PE X (.Dict [some k] [v] pos) (tMOne K P w tk tv) := by
  subst h1 h2 h3
  exact pe_mone hu hk hv
end
end Cot

set_option Elab.async false
set_option linter.all false
set_option maxRecDepth 100000
set_option maxHeartbeats 4000000
/-! Dicts with nested keys: comprehensions, walks. -/
namespace Cot
open PySem PySem.Spec PyProof.Rows L2 Evl
section
variable (K : PySem.W.Frag) (P : Program) (w : World)
/-- one more pair is laid in -/
def mPut (D : Addr) (tk tv : TE) (Nx : Hp → Prop) : L2.St → Hp → Prop := fun σ H => tk σ H fun y H1 => tv σ H1 fun z H2 => ∃ m b k, y = .ref b ∧ MiAt K P w H2 D m ∧ KeyM K H2 b k ∧ m.length < sizeLine ∧ Nx (upd H2 D (DicM P w D (putM m k b z)))
def tMc1 (wi : TI) (g : TG) (tt : TT) (tk tv : TE) (vs : List Nat) : TE := fun σ H Q => wi σ H fun J H1 => ∀ D, H1 D = none → ∃ W : Nat → Nat → Hp → Prop, (∃ m, W 0 m (upd H1 D (DicM P w D []))) ∧ turns J W (Q (.ref D)) g σ vs tt fun Nx => mPut K P w D tk tv Nx
end
section
variable {X : Cx}
theorem mc1_core {pins : List (Addr × Obj)} {s : Shared} {σ : L2.St} {H : Hp} {Q : VK} {kx vx t0 i0 : Expr} {fs0 : List Expr} {sc : Scope} {own : List (Str × Nat)} {pos pos' : Pos} {wi : TI} {g : TG} {tt : TT} {tk tv : TE} {use : Option (Value → Sem Unit)} {Qf : Value → Shared → Prop} (hu : X.A.units + 65 < cLine) (hc : X.calm = true) (hN : X.N.Nodup) (I : Inv X pins σ H s)
    (hi : PI X t0 i0 wi) (ok : BlkOk X.N X.env.scope sc own) (hg : Blk X sc fun Y => PG Y t0 g) (ht : Blk X sc fun Y => PTs Y fs0 tt)
    (hk : Blk X sc fun Y => PE Y kx tk) (he : Blk X sc fun Y => PE Y vx tv) (hs : ∀ x, foldedSetIterable i0 X.env x = pure x) (h : tMc1 X.K X.prog X.w wi g tt tk tv (own.map (·.2)) σ H Q)
    (hRR : ∀ D C s' m H', Inv X pins σ H' s' → Q (.ref D) H' → s'.heap.Ns C m → FpOk X pins H' C → compPost (model X.prog X.w) X.A X.xe use Qf (.ref D) C (.ok .next) s') :
    wpAny (model X.prog X.w) X.A (comprehension (dc1 kx vx t0 i0 fs0 sc pos) sc X.env pos' newDict false (eval i0 X.env) use) Qf X.xe s := by
  have cells : ∀ y ∈ sc.names, y.2 = .free → ∃ c, X.env.cells.lookup y.1 = some c := fun y hy e => (ok.free y hy e).elim (fun k => I.ok.has _ (.inl k)) fun k => I.ok.has _ (.inr k)
  refine wpAny_comprehension_free (use := use) rfl hs (closure_ok cells) ok.kind (fun y hy e => by rw [ok.uniq y hy, e]) (thn (hi.run pins s σ H _ I h) fun xv s1 hx => thn hx fun itv s2 h2 => ?_)
  obtain ⟨it, fp, tn, J, H2, e, I2, T, st2, f2, q⟩ := h2
  subst e
  refine wpAny_newObj_type (newEnv_comp ?_)
  generalize hD : s2.heap.objs.size = D
  obtain ⟨W, ⟨m0, w0⟩, turn⟩ := q D (I2.hok.fresh (Nat.le_of_eq hD))
  generalize hs3 : ({ s2 with heap := s2.heap.push { cls := .type "dict", data := .dict #[] } } : Shared) = s3
  have h3 : s3.heap = s2.heap.push { cls := .type "dict", data := .dict #[] } := by rw [← hs3]
  have I3 : Inv X pins σ (upd H2 D (DicM X.prog X.w D [])) s3 := by
    rw [← hs3]
    refine I2.laid (t' := s2.toks) (fun b o e => Heap.get?_push_of_some _ e) (Nat.le_of_eq hD) ?_
    rw [← hD]
    exact dicM_ok (mdic_empty I2.big)
  have f3 : ∀ b ∈ fp, FpOk X pins (upd H2 D (DicM X.prog X.w D [])) b ∧ b < s3.heap.objs.size := fun b hb => by
    obtain ⟨o, eo, _⟩ := T.obj _ _ st2 b hb
    have lt : b < s2.heap.objs.size := Heap.lt_size eo
    refine ⟨⟨?_, (f2 b hb).2⟩, by rw [h3, Heap.size_push]; exact Nat.lt_succ_of_lt lt⟩
    rw [upd_ne (by rw [← hD]; exact Nat.ne_of_lt lt)]
    exact (f2 b hb).1
  have I4 := block_start I3 ok hN f3
  have pg := hg s3 (upd H2 D (DicM X.prog X.w D [])) s3.heap.objs.size (cellsFrom (s3.heap.objs.size + 1) sc.names (cloFrom X.env.cells sc.names [])) fp
  have pt := ht s3 (upd H2 D (DicM X.prog X.w D [])) s3.heap.objs.size (cellsFrom (s3.heap.objs.size + 1) sc.names (cloFrom X.env.cells sc.names [])) fp
  have pk := hk s3 (upd H2 D (DicM X.prog X.w D [])) s3.heap.objs.size (cellsFrom (s3.heap.objs.size + 1) sc.names (cloFrom X.env.cells sc.names [])) fp
  have pv := he s3 (upd H2 D (DicM X.prog X.w D [])) s3.heap.objs.size (cellsFrom (s3.heap.objs.size + 1) sc.names (cloFrom X.env.cells sc.names [])) fp
  have none3 : ∀ b ∈ fp, (upd H2 D (DicM X.prog X.w D [])) b = none := fun b hb => (f3 b hb).1.1
  show codeAny _ _ (.compStart (dc1 kx vx t0 i0 fs0 sc pos) 0 (.ref it) (.ref D) (compEnvC sc (cellsFrom (s3.heap.objs.size + 1) sc.names (cloFrom X.env.cells sc.names [])) s3.heap.objs.size X.env)) _ { s3 with heap := pushCells (s3.heap.push { cls := .type "dict", data := .dict #[] }) sc.names }
  generalize hce : compEnvC sc (cellsFrom (s3.heap.objs.size + 1) sc.names (cloFrom X.env.cells sc.names [])) s3.heap.objs.size X.env = ce at I4 pg pt pk pv ⊢
  have loc : ce.locals = s3.heap.objs.size := by subst hce; rfl
  generalize upd H2 D (DicM X.prog X.w D []) = H3 at I3 I4 pg pt pk pv w0 none3 f3
  generalize hs4 : ({ s3 with heap := pushCells (s3.heap.push { cls := .type "dict", data := .dict #[] }) sc.names } : Shared) = s4 at I4 ⊢
  have st4 : tn 0 s4.heap := T.keep _ _ _ st2 fun b _ o e => by
    rw [← hs4]
    refine pushCells_keeps _ _ _ _ (Heap.get?_push_of_some _ ?_)
    rw [h3]
    exact Heap.get?_push_of_some _ e
  have stat : ∀ {σ' : L2.St} {H' : Hp} {s' : Shared}, Inv (X.blk s3 H3 sc ce fp) [] σ' H' s' → (∀ b ∈ fp, H' b = none) → ∀ b ∈ fp, FpOk (X.blk s3 H3 sc ce fp) [] H' b := fun {σ' H' s'} I' hn b hb =>
    ⟨hn b hb, (I'.ok.exf b hb).1, I'.ok.exfs b hb, .inl hb, fun x c e => (I'.ok.exf b hb).2 x c e, fun p hp => (by simp at hp : False).elim⟩
  have loop : codeAny (model X.prog X.w) X.A (.compLoop (dc1 kx vx t0 i0 fs0 sc pos) 0 (.ref it) (.ref D) ce) (compPost (model X.prog X.w) X.A X.xe use Qf (.ref D) s3.heap.objs.size) s4 := by
    refine loop_d1 (fun n s' => ∃ i H', Inv (X.blk s3 H3 sc ce fp) [] (wipe σ (own.map (·.2))) H' s' ∧ tn i s'.heap ∧ (∀ b ∈ fp, H' b = none) ∧ W i n H') ?_ m0 ⟨0, H3, I4, st4, none3, w0⟩
    rintro n s5 ⟨i, H5, I5, st5, n5, w5⟩
    rcases turn i n H5 w5 with ⟨stop, qq⟩ | ⟨go, Nx, hNx, step⟩
    · refine thnF (T.done (X.blk s3 H3 sc ce fp) rfl rfl rfl hc i [] s5 _ H5 (fun _ _ => False) I5 (stat I5 n5) st5 stop) fun r s6 ⟨hr, I6⟩ => ?_
      subst hr
      have I7 : Inv X pins σ H5 s6 := I3.call' (ch := fp) I6.os I6.base I6.hok I6.bare fun b hb => ⟨(f3 b hb).1.2.2.2.1, (f3 b hb).1.2.1, (f3 b hb).1.2.2.2.2.1, (f3 b hb).1.2.2.2.2.2⟩
      have nC : H5 s3.heap.objs.size = none := by
        rw [← loc]
        exact I6.free
      obtain ⟨m, hn, _⟩ := I6.loc
      replace hn : s6.heap.Ns ce.locals m := hn
      rw [loc] at hn
      exact hRR D s3.heap.objs.size s6 m H5 I7 qq hn (I3.fpOk (Nat.le_refl _) nC)
    · refine thnF (T.item (X.blk s3 H3 sc ce fp) rfl rfl rfl hc i [] s5 _ H5 (fun _ _ => False) I5 (stat I5 n5) st5 go) fun r s6 ⟨u, hr, h6⟩ => ?_
      subst hr
      refine thnF h6 fun _ s7 ⟨x, H7, I7, r7, y7, st7, n7⟩ => ?_
      refine thnF (pg.run _ s7 _ H7 x u _ (I7.pinned (stat I7 n7) (T.obj _ _ st7)) r7 (step x H7 y7)) fun _ s8 ⟨σ8, H8, I8, hw8, q8⟩ => ?_
      refine thnF (pt.run _ s8 σ8 H8 _ I8 q8) fun b s9 ⟨H9, I9, q9⟩ => ?_
      have fin : ∀ {s' : Shared} {H' : Hp}, Inv (X.blk s3 H3 sc ce fp) ([] ++ pinsAt fp s7.heap) σ8 H' s' → Nx H' →
          ∃ m, m < n ∧ ∃ i H', Inv (X.blk s3 H3 sc ce fp) [] (wipe σ (own.map (·.2))) H' s' ∧ tn i s'.heap ∧ (∀ b ∈ fp, H' b = none) ∧ W i m H' := fun {s' H'} I' nx => by
        obtain ⟨m', hm, w'⟩ := hNx H' nx
        have pin' : ∀ b ∈ fp, ∀ o, s7.heap.get? b = some o → s'.heap.get? b = some o ∧ H' b = none := fun b hb o e =>
          let z := I'.pin (b, o) (List.mem_append_right _ (List.mem_append_right _ (mem_pinsAt hb e)))
          ⟨z.1, z.2.1⟩
        refine ⟨m', hm, i + 1, H', (I'.unpinned (pins := [])).weak (by rw [← hw8, wipe_length]) (fun j v e => by rw [← hw8] at e; exact (wipe_some e).1), T.keep _ _ _ st7 fun b hb o e => (pin' b hb o e).1, fun b hb => ?_, w'⟩
        obtain ⟨o, e, _⟩ := T.obj _ _ st7 b hb
        exact (pin' b hb o e).2
      cases b with
      | false =>
        simp only [Bool.false_eq_true, if_false] at q9 ⊢
        exact fin I9 q9
      | true =>
        simp only [if_true] at q9 ⊢
        refine thnF (pk.run _ s9 σ8 H9 _ I9 q9) fun kv s17 ⟨yk, H17, I17, r17, q17⟩ => ?_
        refine thnF (pv.run _ s17 σ8 H17 _ I17 q17) fun vv s18 ⟨yv, H18, I18, r18, mm, bb, kk, ek, dA, hb18, hz, nx⟩ => ?_
        subst ek
        cases r17
        exact mdic_set (X := X.blk s3 H3 sc ce fp) hu I18 dA hb18 hz r18 fun s19 I19 => fin I19 nx
  exact codeAny_compStart_dict loop (T.self X.A 0 _ _ _ st4 loop)
theorem pe_mc1 {kx vx t0 i0 : Expr} {fs0 : List Expr} {sc : Scope} {own : List (Str × Nat)} {pos : Pos} {wi : TI} {g : TG} {tt : TT} {tk tv : TE} {K : PySem.W.Frag} {P : Program} {w : World} (eK : X.K = K) (eP : X.prog = P) (ew : X.w = w) (hu : X.A.units + 65 < cLine) (hc : X.calm = true) (hN : X.N.Nodup)
    (hi : PI X t0 i0 wi) (ok : BlkOk X.N X.env.scope sc own) (hg : Blk X sc fun Y => PG Y t0 g) (ht : Blk X sc fun Y => PTs Y fs0 tt)
    (hk : Blk X sc fun Y => PE Y kx tk) (he : Blk X sc fun Y => PE Y vx tv) (hs : ∀ x, foldedSetIterable i0 X.env x = pure x := by intro _; rfl) :
    PE X (dc1 kx vx t0 i0 fs0 sc pos) (tMc1 K P w wi g tt tk tv (own.map (·.2))) := by
  subst eK eP ew
  refine ⟨fun pins s σ H Q I h => ?_⟩
  rw [arm_eval_DictComp]
  exact mc1_core (Qf := EP X pins σ Q) hu hc hN I hi ok hg ht hk he hs h fun D C s' m H' I' q hn f => ⟨m, hn, fun h'' sb => ⟨.ref D, H', I'.turned (t' := s'.toks) (fun b o hb e => (sb.2 b hb).trans e) f.1 f.2.1 f.2.2.2.1 f.2.2.2.2.1 f.2.2.2.2.2, rfl, q⟩⟩
/-- a local name made a dict by a comprehension -/
theorem ps_setMc1 {i : Nat} {y : Str} {py : Pos} {kx vx t0 i0 : Expr} {fs0 : List Expr} {sc : Scope} {own : List (Str × Nat)} {pos spos : Pos} {wi : TI} {g : TG} {tt : TT} {tk tv : TE} {K : PySem.W.Frag} {P : Program} {w : World} (eK : X.K = K) (eP : X.prog = P) (ew : X.w = w) (hu : X.A.units + 65 < cLine) (hc : X.calm = true) (hN : X.N.Nodup) (hy : X.N[i]? = some y) (hyl : X.env.scope.names.lookup y = some .local)
    (hsw : swapsWith (dc1 kx vx t0 i0 fs0 sc pos) (some (.Name y py)) spos.line X.env = pure true) (hi : PI X t0 i0 wi) (ok : BlkOk X.N X.env.scope sc own) (hg : Blk X sc fun Y => PG Y t0 g) (ht : Blk X sc fun Y => PTs Y fs0 tt)
    (hk : Blk X sc fun Y => PE Y kx tk) (he : Blk X sc fun Y => PE Y vx tv) (hs : ∀ x, foldedSetIterable i0 X.env x = pure x := by intro _; rfl) :
    PS X (.Assign [.Name y py] (dc1 kx vx t0 i0 fs0 sc pos) spos) (tAsg (tMc1 K P w wi g tt tk tv (own.map (·.2))) (gName i)) := by
  subst eK eP ew
  refine ⟨fun pins s σ H D I h => ?_⟩
  rw [exec_Assign_Name_used _ _ _ _ hsw]
  refine wpAny_bind (wpAny_standAt (wpAny_bind ?_))
  show wpAny _ X.A (do let _ ← comprehension (dc1 kx vx t0 i0 fs0 sc pos) sc X.env (firstIterPos [⟨t0, i0, fs0, 0⟩] pos) newDict false (eval i0 X.env) (some (assign (.Name y py) X.env))) _ _ s
  have h0 : tMc1 X.K X.prog X.w wi g tt tk tv (own.map (·.2)) σ H (fun x H1 => gName i x σ H1 D.nx) := h
  refine wpAny_bind (thn (mc1_core (Qf := fun _ s' => SP X pins D .next s') hu hc hN I hi ok hg ht hk he hs h0 fun L C s' m H' I' q hn f => ?_) fun _ s' hq => wpAny_pure (wpAny_pure hq))
  show wpAny _ _ (assign (.Name y py) X.env (.ref L)) _ _ _
  refine wpAny_assign_Name (store_ok2 (v := V.ref L) I' hN hy (.inl hyl) rfl (fun s2 I2 ⟨a, sb, ha⟩ => ?_) (.inr hyl))
  have apart : C ≠ a := ha.elim (fun z => by rw [z]; exact f.2.1) fun z e => f.2.2.2.2.1 y a z e.symm
  exact ⟨m, hn.sameBut sb apart, fun h3 sb3 => ⟨_, H', I2.turned (t' := s2.toks) (fun b o hb e => (sb3.2 b hb).trans e) f.1 f.2.1 f.2.2.2.1 f.2.2.2.2.1 f.2.2.2.2.2, q⟩⟩
end
theorem dicMF_ok {P : Program} {w : World} {H : Hp} {h : Heap} {a : Addr} {m : Mkv} {o : Obj} (ho : h.get? a = some o) (d : DicPM P w h a m) : ObjOk P w H h a (DicMF P w a m o) := by
  refine ⟨⟨ho, d⟩, ⟨o, ho⟩, ?_⟩
  rintro h1 h2 ⟨q, z, y, xs, r, n, o', es, ep, ho', rest⟩ k
  exact ⟨k _ q, z, y, xs, r, n, o', es, ep, k o' ho', rest⟩
section
variable {X : Cx} {pins : List (Addr × Obj)} {σ : L2.St} {H : Hp} {s : Shared} {d : Addr} {m : Mkv} {o : Obj}
theorem fixM_of (I : Inv X pins σ H s) (h : H d = some (DicMF X.prog X.w d m o)) : (d == sysModules) = false ∧ s.heap.get? d = some o ∧ o.ExactDict ∧ ∃ (es : Array DictEntry) (ep : Nat), o.data = .dict es ep ∧ es.size = m.length ∧ ∀ (i : Nat) (e : NestedKey × Addr × V), m[i]? = some e → ∃ en : DictEntry, es[i]? = some en ∧ en.key = .ref e.2.1 := by
  obtain ⟨ho, z, y, xs, r, n, o', es, ep, ho', hx, hd, he⟩ := (show ObjOk X.prog X.w H s.heap d (DicMF X.prog X.w d m o) from I.hok d _ h).1
  rw [ho] at ho'
  cases ho'
  have l1 : es.size = xs.length := size_of_entries he
  have l2 : m.length = xs.length := Paired.length r
  refine ⟨y, ho, hx, es, ep, hd, by omega, fun i e hm => ?_⟩
  have keys : ∀ {ms : Mkv} {zs : List (NestedKey × Addr × Value)}, MRel ms zs → ∀ (j : Nat) (e : NestedKey × Addr × V), ms[j]? = some e → ∃ z, zs[j]? = some z ∧ e.2.1 = z.2.1 := by
    intro ms zs q
    induction q with
    | nil => intro j z hz; simp at hz
    | @cons a b as bs hab t ih =>
      intro j z hz
      cases j with
      | zero =>
        cases hz
        exact ⟨b, rfl, hab.2.1⟩
      | succ j => exact ih j z hz
  obtain ⟨b, hb, e2⟩ := keys r i e hm
  have q := entry_at he i
  rw [hb] at q
  exact ⟨_, q, by rw [e2]; rfl⟩
theorem fixM_in (I : Inv X pins σ H s) (h : H d = some (DicM X.prog X.w d m)) : ∃ o, Inv X pins σ (upd H d (DicMF X.prog X.w d m o)) s := by
  have hp := (show ObjOk X.prog X.w H s.heap d (DicM X.prog X.w d m) from I.hok d _ h).1
  obtain ⟨z, y, xs, r, n, o, es, ep, ho, rest⟩ := id hp
  exact ⟨o, d_write (h' := s.heap) (t' := s.toks) I (by rw [h]; exact True.intro) (Heap.SameBut.refl _ _) ⟨o, ho⟩ (dicMF_ok ho hp)⟩
theorem fixM_out (I : Inv X pins σ H s) (h : H d = some (DicMF X.prog X.w d m o)) : Inv X pins σ (upd H d (DicM X.prog X.w d m)) s := by
  obtain ⟨ho, hp⟩ := (show ObjOk X.prog X.w H s.heap d (DicMF X.prog X.w d m o) from I.hok d _ h).1
  exact d_write (h' := s.heap) (t' := s.toks) I (by rw [h]; exact True.intro) (Heap.SameBut.refl _ _) ⟨o, ho⟩ (dicM_ok hp)
end
/-- the statement runs while the dict's object stays -/
def tFixM (P : Program) (w : World) (t : TS) : TS := fun D σ H => ∃ d m, H d = some (DicM P w d m) ∧ ∀ o, t ⟨fun σ' H' => H' d = some (DicMF P w d m o) ∧ D.nx σ' (upd H' d (DicM P w d m)), fun v H' => H' d = some (DicMF P w d m o) ∧ D.rt v (upd H' d (DicM P w d m)), fun σ' H' => H' d = some (DicMF P w d m o) ∧ D.bk σ' (upd H' d (DicM P w d m)), fun σ' H' => H' d = some (DicMF P w d m o) ∧ D.ct σ' (upd H' d (DicM P w d m))⟩ σ (upd H d (DicMF P w d m o))
theorem ps_fixM {X : Cx} {P : Program} {w : World} {st : Stmt} {t : TS} (eP : X.prog = P) (ew : X.w = w) (h : PS X st t) : PS X st (tFixM P w t) := by
  subst eP ew
  refine ⟨fun pins s σ H D I hw => ?_⟩
  obtain ⟨d, m, hd, hw⟩ := hw
  obtain ⟨o, I1⟩ := fixM_in I hd
  refine thn (h.run pins s σ _ _ I1 (hw o)) fun f s1 q => ?_
  cases f with
  | next => obtain ⟨σ', H', I2, e, q⟩ := q; exact ⟨σ', _, fixM_out I2 e, q⟩
  | brk => obtain ⟨σ', H', I2, e, q⟩ := q; exact ⟨σ', _, fixM_out I2 e, q⟩
  | cont => obtain ⟨σ', H', I2, e, q⟩ := q; exact ⟨σ', _, fixM_out I2 e, q⟩
  | ret v => obtain ⟨x, σ', H', I2, r, e, q⟩ := q; exact ⟨x, σ', _, fixM_out I2 e, r, q⟩
def ItM (P : Program) (w : World) (d : Addr) (m : Mkv) (o : Obj) : It :=
  ⟨fun i H => H d = some (DicMF P w d m o) ∧ i < m.length, fun i H x H' => H' = H ∧ ∃ e, m[i]? = some e ∧ x = .ref e.2.1, fun i H => H d = some (DicMF P w d m o) ∧ m.length ≤ i⟩
section
variable {P : Program} {w : World} {K : PySem.W.Frag} {tg : Expr} {d : Addr} {o : Obj} {es : Array DictEntry} {ep : Nat}
theorem turn_mkeys {m : Mkv} (it : Addr) (hod : o.data = .dict es ep) : Turn P w K tg (ItM P w d m o) [it] it (fun i h => h.IsKeyIter it d i m.length ep) where
  mem := by simp
  obj := fun i h st b hb => by
    have e : b = it := by simpa using hb
    subst e
    obtain ⟨oi, e, c, dd⟩ := st
    exact ⟨oi, e, fun v z => by rw [dd] at z; cases z⟩
  keep := fun i h h' st k => st.at fun oi e => k it (by simp) oi e
  item := by
    intro X hP hw hK hc i pins s σ H E I hf st hg
    subst hP hw hK
    obtain ⟨hd, hi⟩ := hg
    obtain ⟨f0, f1, f2, f3, f4, f5⟩ := hf it (by simp)
    obtain ⟨hs, hgd, hx, es', ep', hdt, hsz, ent⟩ := fixM_of I hd
    obtain ⟨rfl, rfl⟩ := dict_ep hod hdt
    have hkv : m[i]? = some m[i] := List.getElem?_eq_getElem hi
    obtain ⟨en, hen, hkey⟩ := ent i _ hkv
    refine next_key_item st hgd hdt hsz hen fun h' st' sb => ?_
    have I1 : Inv X pins σ H { s with heap := h' } := I.turned (t' := s.toks) (fun b ob hb e => (sb.2 b hb).trans e) f0 f1 f3 f4 f5
    obtain ⟨oi, e, c, dd⟩ := id st'
    exact ⟨en.key, rfl, go_of (s := { s with heap := h' }) e c dd (by decide) ⟨.ref (m[i]).2.1, H, I1, hkey, ⟨rfl, _, hkv, rfl⟩, st', fun b hb => (hf b hb).1⟩⟩
  done := by
    intro X hP hw hK hc i pins s σ H E I hf st hg
    subst hP hw hK
    obtain ⟨hd, hi⟩ := hg
    obtain ⟨f0, f1, f2, f3, f4, f5⟩ := hf it (by simp)
    obtain ⟨hs, hgd, hx, es', ep', hdt, hsz, ent⟩ := fixM_of I hd
    obtain ⟨rfl, rfl⟩ := dict_ep hod hdt
    exact next_key_end (I.ok.hd hc) st hgd hdt hsz hi fun h' eb => ⟨rfl, I.turned (t' := s.toks) (fun b ob hb e => eb b ob hb e) f0 f1 f3 f4 f5⟩
  self := fun A i s Q E st h => by
    refine wpAny_pyIter_slot st.typeIs F.slot_dict_keyiterator_iter (wpAny_call_entry F.slot_dict_keyiterator_iter st.typeIs F.entry_dict_keyiterator_iter ?_ (F.args_dict_keyiterator_iter_1 _))
    show wpAny _ _ (ret (.ref it)) _ _ s
    exact wpAny_pure ⟨_, rfl, "dict_keyiterator", _, st.typeIs, F.slot_dict_keyiterator_next.lookup, h⟩
end
def iMKeys (P : Program) (w : World) (td : TE) : TI := fun σ H R => td σ H fun x H1 => ∃ d o m, x = .ref d ∧ H1 d = some (DicMF P w d m o) ∧ R (ItM P w d m o) H1
theorem pi_mkeys {X : Cx} {P : Program} {w : World} {tg e : Expr} {td : TE} (eP : X.prog = P) (ew : X.w = w) (he : PE X e td) : PI X tg e (iMKeys P w td) := by
  subst eP ew
  refine ⟨fun pins s σ H R I h => ?_⟩
  refine thn (he.run pins s σ H _ I h) fun u s1 ⟨x, H1, I1, rx, d, o, m, ex, hd, q⟩ => ?_
  subst ex
  obtain rfl : u = Value.ref d := rx
  obtain ⟨hs, hgd, hx, es, ep, hdt, hsz, ent⟩ := fixM_of I1 hd
  refine iter_keys hs hgd hx hdt (pi_one (tk := s1.toks) I1 _ (turn_mkeys _ hdt) ⟨_, Heap.get?_push_size _ rfl, rfl, ?_⟩ q)
  rw [hsz] <;> rfl
section
variable {P : Program} {w : World} {H : Hp} {σ : L2.St} {td : TE} {D : Ends} {tu tz : TS} {j : Nat} {a : Addr} {m : Mkv}
theorem walk_mkeys {o : Obj} : Walk (ItM P w a m o) m.length (fun H => H a = some (DicMF P w a m o)) (fun i H x H' => H' = H ∧ ∃ e, m[i]? = some e ∧ x = .ref e.2.1) :=
  ⟨fun i H hi h => ⟨h, hi⟩, fun H h => ⟨h, Nat.le_refl _⟩, fun i H x H' _ _ y => y⟩
/-- for k in d -/
theorem go_forMK (hv : ∀ H', Ev td σ H' (.ref a)) (hH : H a = some (DicM P w a m)) (Pv : Obj → Nat → L2.St → Hp → Prop) (h0 : ∀ o H', Ex (upd H a (DicMF P w a m o)) H' → Pv o 0 σ H') (hF : ∀ o i σ' H', Pv o i σ' H' → H' a = some (DicMF P w a m o))
    (hs : ∀ o i σ' H' e (D' : Ends), m[i]? = some e → Pv o i σ' H' → D'.nx = Pv o (i + 1) → Go tu D' (σ'.set j (some (.ref e.2.1))) H') (hd : ∀ o σ' H', Pv o m.length σ' H' → Go tz D σ' (upd H' a (DicM P w a m))) :
    Go (tSeq (tFixM P w (tFor (iMKeys P w td) (gName j) tu)) tz) D σ H := fun H1 e1 =>
  ⟨a, m, e1 _ _ hH, fun o => by
    have x1 : Ex (upd H a (DicMF P w a m o)) (upd H1 a (DicMF P w a m o)) := ex_upd2 e1
    refine hv _ _ (Ex.refl _) _ fun H2 e2 => ⟨a, o, m, rfl, e2 _ _ upd_same, for_it walk_mkeys (Pv o) (h0 o H2 (x1.trans e2)) (fun i σ' H' _ p => hF o i σ' H' p) (fun i x σ' H' H'' hi p y => ?_) (fun σ' H' p => ⟨hF o _ σ' H' p, hd o σ' H' p _ (Ex.refl _)⟩)⟩
    obtain ⟨rfl, e, he, rfl⟩ := y
    exact hs o i σ' H'' e _ he p rfl _ (Ex.refl _)⟩
end
end Cot
namespace Cot
open PySem L2 Evl
/-- a new dict with nested keys, by its keys and values, told over the heap H -/
def EvCH (K : PySem.W.Frag) (P : Program) (w : World) (te : TE) (σ : L2.St) (Hd H : Hp) (L : List (NestedKey × V)) : Prop := ∀ H1, Ex H H1 → ∀ Q : VK, (∀ a m H2 Hn, Gr Hd H1 Hn H2 → H1 a = none → Hn a = none → H2 a = some (DicM P w a m) → KeysM K Hn m → m.map (fun e => (e.1, e.2.2)) = L → Q (.ref a) H2) → te σ H1 Q
def spCM (K : PySem.W.Frag) (P : Program) (w : World) (R : List PyData → List (NestedKey × V) → Prop) : Sp := fun vs H Q _ => ∃ Hd ds L, Ex Hd H ∧ DpAll K Hd vs ds ∧ R ds L ∧ ∀ a m H2 Hn, Gr Hd H Hn H2 → H a = none → Hn a = none → H2 a = some (DicM P w a m) → KeysM K Hn m → m.map (fun e => (e.1, e.2.2)) = L → Q (.ref a) H2
section
variable {K : PySem.W.Frag} {P : Program} {w : World} {H H' Hd Hd' Hn H1 H2 : Hp} {σ : L2.St} {te tk tv : TE} {tr : TA} {n : Nat} {wi : TI} {g : TG} {L : List (NestedKey × V)} {ds es : List PyData} {D : Ends} {tz : TS} {i : Nat}
theorem ecm_call {R : List PyData → List (NestedKey × V) → Prop} {E : XK} (s : Ex Hd H) (h : EvDA K tr σ Hd ds) (hr : R ds L) : EvCH K P w (tCall (spCM K P w R) [] E tr) σ Hd H L := fun H1 e1 Q q =>
  h H1 (s.trans e1) _ fun vs H2 Hn g hd => ⟨Hn, ds, L, g.sub, by rw [List.append_nil]; exact hd, hr, fun a m H3 Hm g3 ha hm h3 hk e => q a m H3 Hm (g.trans g3) (fresh_back g.ex ha) hm h3 hk e⟩
theorem go_retCM (h : EvCH K P w te σ Hd H L) (k : ∀ a m H2 Hn, Gr Hd H Hn H2 → H a = none → Hn a = none → H2 a = some (DicM P w a m) → KeysM K Hn m → m.map (fun e => (e.1, e.2.2)) = L → D.rt (.ref a) H2) : Go (tSeq (tRet te) tz) D σ H := fun H1 e1 =>
  h H1 e1 _ fun a m H2 Hn g ha hn h2 hk e => k a m H2 Hn (g.pre e1) (fresh_back e1 ha) hn h2 hk e
theorem go_asgCM (h : EvCH K P w te σ Hd H L) (k : ∀ a m H2 Hn, Gr Hd H Hn H2 → H a = none → Hn a = none → H2 a = some (DicM P w a m) → KeysM K Hn m → m.map (fun e => (e.1, e.2.2)) = L → Go tz D (σ.set i (some (.ref a))) H2) : Go (tSeq (tAsg te (gName i)) tz) D σ H := fun H1 e1 =>
  h H1 e1 _ fun a m H2 Hn g ha hn h2 hk e => k a m H2 Hn (g.pre e1) (fresh_back e1 ha) hn h2 hk e H2 (Ex.refl _)
theorem valM_fresh {m : Mkv} {k : NestedKey} (h : m.map (fun e => (e.1, e.2.2)) = L) (hk : k ∉ L.map (·.1)) : valM m k = none := by
  rw [valM_none]
  intro e he hek
  refine hk ?_
  rw [← h, List.map_map]
  exact List.mem_map.mpr ⟨e, he, hek⟩
theorem valM_pairs {m : Mkv} {k : NestedKey} (h : m.map (fun e => (e.1, e.2.2)) = L) : valM m k = (L.find? fun e => decide (e.1 = k)).map (·.2) := by
  subst h
  unfold valM
  induction m with
  | nil => rfl
  | cons e m ih =>
    rw [List.map_cons, List.find?_cons, List.find?_cons]
    by_cases c : e.1 = k
    · simp [c]
    · simp only [decide_eq_false c]
      exact ih
/-- what is walked, told over the heap H -/
def EvJ (K : PySem.W.Frag) (wi : TI) (g : TG) (σ : L2.St) (Hd H : Hp) (n : Nat) (S : Nat → L2.St → L2.St → Hp → Prop) : Prop := ∀ H1, Ex H H1 → ∀ R : It → Hp → Prop,
  (∀ J H2 Hn (G : Hp → Prop) (Y : Nat → Hp → V → Hp → Prop), Gr Hd H1 Hn H2 → Walk J n G Y → (∀ H', Ex Hn H' → Ex H2 H' → G H') →
    (∀ (i : Nat) (x : V) (H' H'' : Hp) (σ' : L2.St) (k : L2.St → Hp → Prop), i < n → Ex Hn H' → Ex H2 H' → Y i H' x H'' → (∀ σ2 H3, Ex H' H3 → S i σ' σ2 Hn → k σ2 H3) → g x σ' H'' k) → R J H2) → wi σ H1 R
theorem evj_of {S : Nat → L2.St → L2.St → Hp → Prop} (s : Ex Hd H) (h : EvI K wi g σ Hd n S) : EvJ K wi g σ Hd H n S := fun H1 e1 R r =>
  h H1 (s.trans e1) R fun J H2 Hn G Y gr w hG hY => r J H2 Hn G Y gr w (fun H' x _ => hG H' x) fun i x H' H'' σ' k hi e _ y q => hY i x H' H'' σ' k hi e y q
/-- {k: v for ..}, one clause, no test -/
theorem ec_mc1 {S : Nat → L2.St → L2.St → Hp → Prop} {vs : List Nat} (h : EvJ K wi g σ Hd H n S) (hz : n ≤ 90000) (kv : Nat → NestedKey × V) (ko : ∀ i, i < n → KOk (kv i).1) (hnd : ∀ i j, i < j → j < n → (kv i).1 ≠ (kv j).1)
    (ht : ∀ (i : Nat) (σ2 : L2.St) (Hn : Hp), i < n → Ex Hd Hn → S i (wipe σ vs) σ2 Hn → wipe σ2 vs = wipe σ vs ∧ EvD K tk σ2 Hn (kv i).1.data ∧ ∀ H', Ex Hn H' → Ex H H' → Ev tv σ2 H' (kv i).2) :
    EvCH K P w (tMc1 K P w wi g tYes tk tv vs) σ Hd H ((List.range n).map kv) := fun H1 e1 Q q =>
  h H1 e1 _ fun J H2 Hn G Y gr wk hG hY D hD => by
    refine ⟨fun i c H' => c = n - i ∧ i ≤ n ∧ ∃ Hm mm, Gr Hn H2 Hm H' ∧ Hm D = none ∧ H' D = some (DicM P w D mm) ∧ KeysM K Hm mm ∧ mm.map (fun e => (e.1, e.2.2)) = (List.range i).map kv, ⟨n, by simp, Nat.zero_le _, Hn, [], Gr.alloc gr.sub hD, fresh_back gr.sub hD, upd_same, fun _ h => (by cases h), rfl⟩, ?_⟩
    rintro i c H' ⟨rfl, hi, Hm, mm, g0, hmD, hD', hK, hL⟩
    have q0 := hG H' (g0.dx.trans g0.sub) g0.ex
    by_cases hlt : i < n
    · refine .inr ⟨wk.goes i H' hlt q0, fun H3 => ∃ Hm mm, Gr Hn H2 Hm H3 ∧ Hm D = none ∧ H3 D = some (DicM P w D mm) ∧ KeysM K Hm mm ∧ mm.map (fun e => (e.1, e.2.2)) = (List.range (i + 1)).map kv, fun H3 p' => ⟨n - (i + 1), by omega, rfl, hlt, p'⟩, fun x H'' y => ?_⟩
      refine hY i x H' H'' _ _ hlt (g0.dx.trans g0.sub) g0.ex (wk.yields i H' x H'' hlt q0 y) fun σ2 H3 e3 hS => ?_
      obtain ⟨hw, hE, hV⟩ := ht i σ2 Hn hlt gr.dx hS
      refine ⟨hw, ?_⟩
      show tk σ2 H3 _
      refine (hE.mono g0.dx) H3 (g0.sub.trans e3) _ fun yv H4 Hp g4 hy => ?_
      obtain ⟨p, rfl, hp⟩ := dp_keyM hy (ko i hlt)
      have x4 : Ex H' H4 := e3.trans g4.ex
      refine hV H4 ((g0.dx.trans g0.sub).trans x4) ((e1.trans (gr.ex.trans g0.ex)).trans x4) H4 (Ex.refl _) _ fun H5 e5 => ?_
      have hpD : Hp D = none := g4.fr _ _ (e3 _ _ hD') hmD
      have lm : mm.length = i := by
        have l1 := congrArg List.length hL
        rw [List.length_map, List.length_map, List.length_range] at l1
        exact l1
      have fr : valM mm (kv i).1 = none := valM_fresh hL fun hin => by
        rw [List.map_map] at hin
        obtain ⟨j, hj, ej⟩ := List.mem_map.mp hin
        exact hnd j i (List.mem_range.mp hj) hlt ej
      have hK4 : KeysM K Hp mm := hK.mono g4.dx
      refine ⟨mm, p, (kv i).1, rfl, ⟨e5 _ _ (x4 _ _ hD'), hK4.mono (g4.sub.trans e5)⟩, keyM_mono (g4.sub.trans e5) hp, sz_lt (by omega), Hp, putM mm (kv i).1 p (kv i).2, ⟨Ex.mut ((g0.ex.trans x4).trans e5) hD, g0.dx.trans g4.dx, Ex.mut (g4.sub.trans e5) hpD, fun a o ha hd => g4.fr a o ((g0.ex.trans e3) a o ha) (g0.fr a o ha hd)⟩, hpD, upd_same, hK4.put hp, ?_⟩
      rw [putM_new _ _ fr, List.map_append, hL, List.range_succ, List.map_append]
      rfl
    · have e : i = n := by omega
      subst e
      exact .inl ⟨wk.stops H' q0, q D mm H' Hm (gr.trans g0) (fresh_back gr.ex hD) hmD hD' hK hL⟩
/-- the statement that returns while the dict's object stays -/
theorem go_fixRet {a : Addr} {m : Mkv} (hH : H a = some (DicM P w a m)) (k : ∀ o H1, Ex (upd H a (DicMF P w a m o)) H1 → te σ H1 fun v H2 => H2 a = some (DicMF P w a m o) ∧ D.rt v (upd H2 a (DicM P w a m))) : Go (tSeq (tFixM P w (tRet te)) tz) D σ H := fun H1 e1 =>
  ⟨a, m, e1 _ _ hH, fun o => k o _ (ex_upd2 e1)⟩
/-- a walk over the dict's keys, which are pairs -/
theorem ej_mkeys {td : TE} {a : Addr} {m : Mkv} {o : Obj} {j j2 : Nat} {f f2 : Nat → Option PyData} (s : Ex Hd H) (hv : Ev td σ H (.ref a)) (hH : H a = some (DicMF P w a m o)) (hk : KeysM K Hd m) (hp : ∀ i e, m[i]? = some e → ∃ d1 d2, e.1.data = .tuple [d1, d2] ∧ f i = some d1 ∧ f2 i = some d2) :
    EvJ K (iMKeys P w td) (g2 K j j2) σ Hd H m.length (SPair K j j2 f f2) := fun H1 e1 R r =>
  hv H1 e1 _ fun H2 e2 => ⟨a, o, m, rfl, (e1.trans e2) _ _ hH, r _ H2 Hd _ _ (Gr.ext (s.trans e1) e2) walk_mkeys (fun H' _ x => x _ _ ((e1.trans e2) _ _ hH)) fun i x H' H'' σ' k hi x1 x2 y q => by
    obtain ⟨rfl, e, he, rfl⟩ := y
    obtain ⟨d1, d2, ed, h1, h2⟩ := hp i e he
    have hd := (hk e (List.mem_of_getElem? he)).1
    rw [ed] at hd
    cases hd with
    | @tup p xs ds hs hall =>
      cases hall with
      | cons c1 c2 =>
        cases c2 with
        | cons c2 c3 =>
          cases c3
          exact ⟨_, _, rfl, ex_t x1 hs, rfl, _, _, rfl, _, _, rfl, rfl, q _ _ (Ex.refl _) ⟨_, _, d1, d2, h1, h2, c1, c2, rfl⟩⟩⟩
end
end Cot

set_option Elab.async false
set_option linter.all false
set_option maxRecDepth 100000
set_option maxHeartbeats 4000000
/-! d.get(k); xs.pop(); the truth of a list. -/
namespace Cot
open PySem PySem.Spec PyProof.Rows L2 Evl
section
variable {X : Cx} {pins : List (Addr × Obj)} {σ : L2.St} {H : Hp} {s : Shared} {a b : Addr} {m : Dkv} {k : List Int} {A : Around} {E : Value → Shared → Prop}
theorem dic_get1 {Q : Value → Shared → Prop} (hu : A.units + 1 < cLine) (I : Inv X pins σ H s) (d : DiR X.K X.prog X.w H a m) (hb : SqT X.K H b (k.map V.int)) (h : ∀ w' s', Inv X pins σ H s' → RelV ((valD m k).getD .non) w' → Q w' s') :
    wpAny (model X.prog X.w) A (call (.builtin "dict.get") [.ref a, .ref b]) Q E s := by
  obtain ⟨z', y, xs, r, dd⟩ := dic_of I d
  exact call_meetsIn PySem.F.slot_dict_get dd.typeIs PySem.F.entry_dict_get (PySem.F.args_dict_get_2 _ _) (meetsH_dict_get (TK X.prog X.w) a b y) ⟨tupleKind_room_in1 hu, k, xs, I.isT hb, dd, h _ _ (I.tok _) ((drel_val r k).getD (show RelV V.non Value.none from rfl))⟩
end
def tNGet1 (K : PySem.W.Frag) (P : Program) (w : World) (td ty : TE) : TE := fun σ H Q => td σ H fun x H1 => ∃ a m, x = .ref a ∧ DiR K P w H1 a m ∧ ty σ H1 fun y H2 => ∃ b k, y = .ref b ∧ DiR K P w H2 a m ∧ SqT K H2 b (k.map V.int) ∧ Q ((valD m k).getD .non) H2
section
variable {X : Cx} {o e : Expr} {apos cpos : Pos} {td ty : TE}
theorem pe_nget1 (hu : X.A.units + 1 < cLine) (ho : PE X o td) (he : PE X e ty) (m : M1 X o "get" apos e cpos) : PE X (.Call (.Attribute o "get" apos) [e] [] cpos) (tNGet1 X.K X.prog X.w td ty) := by
  refine ⟨fun pins s σ H Q I h => ?_⟩
  refine wpAny_Call_method m.base m.few m.line PySem.F.plainAttrs_dict PySem.F.slot_dict_get PySem.F.type_dict_get (thn (ho.run pins s σ H _ I h) fun u s1 ⟨x, H1, I1, rx, a, mm, ex, d, q1⟩ => ?_)
  subst ex
  cases rx
  obtain ⟨_, _, xs, _, dd⟩ := dic_of I1 d
  refine ⟨dd.typeIs, fun b q => ?_, ?_⟩
  · cases q
    obtain ⟨ob, _, _, h1, h2, _⟩ := dd
    exact ⟨ob, h1, h2.2.1⟩
  · rw [m.trees]
    refine Calls.callWith_builtin rfl (Calls.evalArgs_plain (Calls.spliced_cons (thn (he.run pins s1 σ H1 _ I1 q1) fun iv s2 ⟨y, H2, I2, ry, b, k, ey, d3, hb, q3⟩ => Calls.spliced_nil ?_)))
    subst ey
    cases ry
    exact dic_get1 hu I2 d3 hb fun w' s4 I4 rw' => ⟨_, H2, I4, rw', q3⟩
theorem pb_nget1 {K : PySem.W.Frag} {P : Program} {w : World} (h1 : X.K = K) (h2 : X.prog = P) (h3 : X.w = w) (hu : X.A.units + 1 < cLine) (ho : PE X o td) (he : PE X e ty) (m : M1 X o "get" apos e cpos) : PE X (.Call (.Attribute o "get" apos) [e] [] cpos) (tNGet1 K P w td ty) := by
  subst h1 h2 h3
  exact pe_nget1 hu ho he m
end
end Cot
namespace Cot
open PySem L2 Evl
section
variable {K : PySem.W.Frag} {P : Program} {w : World} {H H' Hd Hd' Hn H1 H2 : Hp} {σ : L2.St} {ta td ty tv tx : TE} {D : Ends} {tz : TS} {a b l : Addr} {m : Dkv} {k : List Int} {v y : V} {i : Nat} {xs : List V}
theorem ev_nget1R (s : Ex Hd H) (hd : Ev td σ H (.ref a)) (hk : EvD K ty σ Hd (.tuple (k.map .int))) (d : DiR K P w H a m) : Ev (tNGet1 K P w td ty) σ H ((valD m k).getD .non) := fun H1 e1 Q q =>
  hd H1 e1 _ fun H2 e2 => ⟨a, m, rfl, d.mono (e1.trans e2), hk H2 ((s.trans e1).trans e2) _ fun u H3 Hn g hu => by
    obtain ⟨p, rfl, hp⟩ := dp_key hu
    exact ⟨p, k, rfl, d.mono ((e1.trans e2).trans g.ex), ex_t g.sub hp, q H3 (e2.trans g.ex)⟩⟩
/-- x = xs.pop() -/
theorem go_asgPop (hl : H l = some (.lst xs)) (ha : Ev ta σ H (.ref l)) (hy : xs[xs.length - 1]? = some y) (k : Go tz D (σ.set i (some y)) (upd H l (.lst xs.dropLast))) : Go (tSeq (tAsg (tBM0 K "list" rPop ta) (gName i)) tz) D σ H := fun H1 e1 =>
  ha H1 e1 _ fun H2 e2 => ⟨Or.inl ⟨rfl, xs, sq_of ((e1.trans e2) _ _ hl)⟩, l, xs, y, rfl, rfl, (e1.trans e2) _ _ hl, hy, k _ (ex_upd2 (e1.trans e2))⟩
/-- if xs: -/
theorem et_truL (ha : Ev ta σ H (.ref l)) (hl : SqL K H l xs) : EvT (fun σ H Q => ta σ H fun x H' => ∃ k, TruV K x H' k ∧ Q k H') σ H (!xs.isEmpty) := fun H1 e1 Q q =>
  ha H1 e1 _ fun H2 e2 => ⟨!xs.isEmpty, .inl ⟨xs, ex_l (e1.trans e2) hl, rfl⟩, q H2 e2⟩
end
end Cot

set_option Elab.async false
set_option linter.all false
set_option maxRecDepth 100000
set_option maxHeartbeats 4000000
/-! list(d.values()), d with nested keys. -/
namespace Cot
open PySem PySem.Spec PyProof.Rows L2 Evl
def viewV (p a : Addr) : HO := .ext fun h => h.IsValuesView p a
theorem viewV_ok {P : Program} {w : World} {H : Hp} {h : Heap} {p a : Addr} (x : h.IsValuesView p a) : ObjOk P w H h p (viewV p a) := by
  refine ⟨x, ?_, ?_⟩
  · obtain ⟨o, ho, _⟩ := x
    exact ⟨o, ho⟩
  · rintro h1 h2 ⟨o, ho, r⟩ k
    exact ⟨o, k o ho, r⟩
def tMVals (K : PySem.W.Frag) (P : Program) (w : World) (td : TE) : TE := fun σ H Q => td σ H fun x H1 => ∃ a m, x = .ref a ∧ MiR K P w H1 a m ∧ ∀ p, H1 p = none → Q (.ref p) (upd H1 p (viewV p a))
def rMVList (K : PySem.W.Frag) (P : Program) (w : World) : List V → Hp → VK → Prop := fun xs H Q => ∃ q d m, xs = [V.ref q] ∧ H q = some (viewV q d) ∧ MiR K P w H d m ∧ ∀ p, H p = none → Q (.ref p) (upd H p (.lst (m.map fun e => e.2.2)))
section
variable {X : Cx} {o : Expr} {apos cpos : Pos} {td : TE}
theorem pe_mvals {K : PySem.W.Frag} {P : Program} {w : World} (e1 : X.K = K) (e2 : X.prog = P) (e3 : X.w = w) (ho : PE X o td) (hbase : attributeBase o "values" X.env (eval o X.env) = eval o X.env := by rfl) (hline : (apos.endLine == cpos.line) = true := by rfl) : PE X (.Call (.Attribute o "values" apos) [] [] cpos) (tMVals K P w td) := by
  subst e1 e2 e3
  refine ⟨fun pins s σ H Q I h => ?_⟩
  refine wpAny_Call_method0_late hbase hline (thn (ho.run pins s σ H _ I h) fun v s1 ⟨x, H1, I1, r1, a, m, ex, d, q⟩ => ?_)
  subst ex
  obtain rfl : v = Value.ref a := r1
  obtain ⟨_, y, xs, _, dd⟩ := mdic_of I1 d
  obtain ⟨es, ep, raw, _⟩ := dd.raw
  obtain ⟨ob, hob, ex, _⟩ := id raw
  refine ⟨"dict", "dict.values", PySem.F.plainAttrs_dict, PySem.F.slot_dict_values, PySem.F.type_dict_values, ⟨ob, hob, ex.1⟩, fun b e => ?_, Calls.callWith_builtin rfl (PySem.evalArgs_none ?_)⟩
  · cases e
    exact ⟨ob, hob, ex.2.1⟩
  refine call_meetsIn PySem.F.slot_dict_values ⟨ob, hob, ex.1⟩ PySem.F.entry_dict_values (PySem.F.args_dict_values_1 _) (PySem.meets_dict_values_raw a y) ⟨⟨es, ep, raw⟩, ?_⟩
  exact ⟨.ref s1.heap.objs.size, _, I1.laid (t' := s1.toks) (fun b o q => Heap.get?_push_of_some _ q) (Nat.le_refl _) (viewV_ok ⟨_, Heap.get?_push_size _ rfl, rfl, rfl⟩), rfl, q _ (I1.hok.fresh (Nat.le_refl _))⟩
theorem kdl_rawV {prog : Program} {w : World} {r d : Addr} {es : Array DictEntry} {ep : Nat} :
    PySem.W.KdlSrc prog w "dict_values" r d es.size (fun i v => ∃ hi : i < es.size, v = es[i].val) (fun h => h.IsValuesView r d ∧ h.DictRaw d es ep) where
  type := fun _ hm => hm.1.typeIs
  there := fun _ hm => ⟨let ⟨_, ho, _⟩ := hm.1; Heap.lt_size ho, let ⟨_, ho, _⟩ := hm.2; Heap.lt_size ho⟩
  keep := fun _ _ hm hk => ⟨let ⟨o, ho, x⟩ := hm.1; ⟨o, hk r (.inl rfl) o ho, x⟩, hm.2.at fun o e => hk d (.inr rfl) o e⟩
  notList := by decide
  notTuple := by decide
  hint := fun _ _ _ _ hm hq => PySem.W.kdl_hint_values hm.1.typeIs hq
  iter := fun _ s hh hm => ⟨_, _, (fun _ _ hq => wpAny_pyIter_values_raw hm.1 hm.2 hq), Walks.rawValues hh _ d (let ⟨_, ho, _⟩ := hm.2; Nat.ne_of_lt (Heap.lt_size ho)) es ep, ⟨⟨_, Heap.get?_push_size _ rfl, rfl, rfl⟩, hm.2.at fun o e => Heap.get?_push_of_some _ e⟩⟩
theorem call_mvlist {K : PySem.W.Frag} {P : Program} {w : World} (e1 : X.K = K) (e2 : X.prog = P) (e3 : X.w = w) (hc : X.calm = true) : CallR X (.type "list") (rMVList K P w) := by
  subst e1 e2 e3
  intro pins s σ H xs us Q I r h
  obtain ⟨q0, d, m, rfl, hq0, dA, q⟩ := h
  obtain ⟨u, rfl, rx⟩ := vals1 r
  cases rx
  have hv : s.heap.IsValuesView q0 d := (show ObjOk X.prog X.w H s.heap q0 (viewV q0 d) from I.hok q0 _ hq0).1
  obtain ⟨z, y, ys, rel, dd⟩ := mdic_of I dA
  obtain ⟨es, ep, raw, l1, hent⟩ := dd.raw
  have l2 : m.length = ys.length := Paired.length rel
  refine PySem.W.kdl_call kdl_rawV (I.ok.hd hc) ⟨hv, raw⟩ (by omega) fun h' tk acc c kp eo it => ?_
  have lens : acc.toList.length = m.length := by
    rw [Array.length_toList, it.1]
    omega
  have vals : ∀ {ms : Mkv} {zs : List (NestedKey × Addr × Value)}, MRel ms zs → ∀ (j : Nat) (z : NestedKey × Addr × Value), zs[j]? = some z → ∃ e, ms[j]? = some e ∧ RelV e.2.2 z.2.2 := by
    intro ms zs q
    induction q with
    | nil => intro j z hz; simp at hz
    | @cons a b as bs hab t ih =>
      intro j z hz
      cases j with
      | zero =>
        cases hz
        exact ⟨a, rfl, hab.2.2⟩
      | succ j => exact ih j z hz
  refine ⟨.ref s.heap.objs.size, _, I.laid (t' := tk) (o := .lst (m.map fun e => e.2.2)) kp (Nat.le_refl _) ⟨by rw [List.length_map]; exact z, acc.toList, c, ?_, by rw [Array.toArray_toList]; exact eo⟩, rfl, q _ (I.hok.fresh (Nat.le_refl _))⟩
  refine vals_of_at (by rw [List.length_map, lens]) fun j x v h1 h2 => ?_
  obtain ⟨hj, rfl⟩ := it.2 j v (by rw [← Array.getElem?_toList]; exact h2)
  obtain ⟨b, hb, _, hval, _⟩ := hent j hj
  obtain ⟨e, hm, hee⟩ := vals rel j b hb
  rw [List.getElem?_map, hm] at h1
  cases h1
  rw [hval]
  exact hee
end
section
theorem truth_ints {prog : Program} {w : World} {A : Around} {ns : List Int} {its : List Value} (e : Vals (ns.map V.int) its) :
    TruthOf prog w A (fun i v => its.toArray[i]? = some v) (fun i => (ns.map fun n => decide (n ≠ 0)).getD i false) := fun i v s Q E hv hq => by
  have hv' : its[i]? = some v := by simpa using hv
  have at' : ∀ {ms : List Int} {us : List Value}, Vals (ms.map V.int) us → ∀ (j : Nat) (u : Value), us[j]? = some u → ∃ n t, ms[j]? = some n ∧ u = Value.int n t := by
    intro ms
    induction ms with
    | nil => intro us h j u hu; cases h; simp at hu
    | cons m ms ih =>
      intro us h j u hu
      cases h with
      | cons r t =>
        cases j with
        | zero =>
          cases hu
          obtain ⟨k, rfl⟩ := r
          exact ⟨m, k, rfl, rfl⟩
        | succ j => exact ih t j u hu
  obtain ⟨n, t, hn, rfl⟩ := at' e i v hv'
  have hg : (ns.map fun n => decide (n ≠ 0)).getD i false = decide (n ≠ 0) := by rw [List.getD_eq_getElem?_getD, List.getElem?_map, hn] <;> rfl
  have hq' : Q ((ns.map fun n => decide (n ≠ 0)).getD i false) s := hq
  rw [hg] at hq'
  have e3 : (n != 0) = decide (n ≠ 0) := by by_cases h : n = 0 <;> simp [h]
  rw [← e3] at hq'
  exact PySem.P.truthy_int hq'
def rAnyI (K : PySem.W.Frag) : List V → Hp → VK → Prop := fun vs H Q => ∃ (a : Addr) (ns : List Int), vs = [V.ref a] ∧ SqL K H a (ns.map V.int) ∧ Q (.bl (ns.any fun n => decide (n ≠ 0))) H
theorem cr_anyI {X : Cx} (hc : X.calm = true) : CallR X (.builtin "any") (rAnyI X.K) := by
  intro pins s σ H vs us Q I r h
  obtain ⟨a, bs, rfl, hs, q⟩ := h
  obtain ⟨its, rv, hl, _⟩ := I.list hs
  rw [Vals.ref1 r]
  refine call_any_walk (iter_any hl.isList fun s₂ e2 st hne => ?_)
  subst e2
  refine ⟨_, _, _, _, _, _, _, rfl, Walks.list (A := X.A.in1) (I.ok.hd hc) _ a hne its.toArray, st, truth_ints rv, fun h' tk hk => ?_⟩
  refine ⟨.bl _, H, I.kept fun b o eo => hk b o (fun hmem => ?_) (Heap.get?_push_of_some _ eo), ?_, q⟩
  · rcases List.mem_cons.mp hmem with e1 | hmem
    · exact absurd (e1 ▸ Heap.lt_size eo) (Nat.lt_irrefl _)
    · cases hmem
  · show Value.bool _ = Value.bool _
    have l : its.length = bs.length := by
      have := rv.length
      rw [List.length_map] at this
      exact this.symm
    have h2 := any_range (bs.map fun n => decide (n ≠ 0))
    rw [List.length_map] at h2
    rw [List.size_toArray, l, h2, List.any_map]
    rfl
end
end Cot
namespace Cot
open PySem L2 Evl
section
variable {K : PySem.W.Frag} {P : Program} {w : World} {H H1 H2 Hn Hd : Hp} {σ : L2.St} {td te : TE} {tr : TA} {L : List (NestedKey × V)}
/-- any(list(d.values())), d new -/
theorem ev_anyVals {ns : List Int} (h : EvCH K P w te σ Hd H L) (hL : L.map (·.2) = ns.map V.int) : Ev (tCB (rAnyI K) (tCons (tCB (rMVList K P w) (tCons (tMVals K P w te) tNil)) tNil)) σ H (.bl (ns.any fun n => decide (n ≠ 0))) := fun H1 e1 Q q =>
  h H1 e1 _ fun a m H2 Hn g ha hn h2 hk e => ⟨a, m, rfl, ⟨.inl h2, hk.mono g.sub⟩, fun p hp => ⟨p, a, m, rfl, upd_same, ⟨.inl (by rw [upd_ne (ne_of_none h2 hp)]; exact h2), (hk.mono g.sub).mono (Ex.new hp)⟩, fun p2 hp2 => ⟨p2, ns, rfl, sq_of (by rw [upd_same, ← hL, ← e, List.map_map]; rfl), q _ ((g.ex.trans (Ex.new hp)).trans (Ex.new hp2))⟩⟩⟩
end
end Cot

set_option Elab.async false
set_option linter.all false
set_option maxRecDepth 100000
set_option maxHeartbeats 4000000
/-! Data that is evaluated where things stand that are no data. -/
namespace Cot
open PySem L2 Evl
def EvDH (K : PySem.W.Frag) (te : TE) (σ : L2.St) (Hd H : Hp) (d : PyData) : Prop := ∀ H1, Ex H H1 → ∀ Q : VK, (∀ v H2 Hn, Gr Hd H1 Hn H2 → Dp K Hn v d → Q v H2) → te σ H1 Q
def EvNH (K : PySem.W.Frag) (te : TE) (σ : L2.St) (Hd H : Hp) (ds : List PyData) : Prop := ∀ H1, Ex H H1 → ∀ Q : VK, (∀ p xs H2 Hn, Gr Hd H1 Hn H2 → H1 p = none → Hn p = none → H2 p = some (.lst xs) → DpAll K Hn xs ds → Q (.ref p) H2) → te σ H1 Q
section
variable {K : PySem.W.Frag} {P : Program} {w : World} {H H' Hd Hd' Hn H1 H2 : Hp} {σ : L2.St} {te tk tv : TE} {tt : TT} {tr : TA} {n : Nat} {wi : TI} {g : TG} {d : PyData} {ds es : List PyData} {v : V} {D : Ends} {tz : TS} {i : Nat}
theorem edh_ed (s : Ex Hd H) (h : EvD K te σ Hd d) : EvDH K te σ Hd H d := fun H1 e1 Q q => h H1 (s.trans e1) Q q
theorem edh_ev (s : Ex Hd H) (h : Ev te σ H v) (hd : Dp K Hd v d) : EvDH K te σ Hd H d := fun H1 e1 Q q => h H1 e1 Q fun H2 e2 => q v H2 Hd (Gr.ext (s.trans e1) e2) hd
theorem enh_en (s : Ex Hd H) (h : EvN K te σ Hd ds) : EvNH K te σ Hd H ds := fun H1 e1 Q q => h H1 (s.trans e1) Q q
theorem edh_new (h : EvNH K te σ Hd H ds) : EvDH K te σ Hd H (.list ds) := fun H1 e1 _ q =>
  h H1 e1 _ fun p xs H2 Hn g hp hn h2 hd => q (.ref p) H2 (upd Hn p (.lst xs)) ⟨g.ex, g.dx.trans (Ex.new hn), fun a o ha => by
    by_cases e : a = p
    · subst e
      rw [upd_same] at ha
      exact h2.trans ha
    · rw [upd_ne e] at ha
      exact g.sub a o ha, fun a o ha hda => by
    rw [upd_ne (ne_of_none ha hp)]
    exact g.fr a o ha hda⟩ (.lst (sq_of upd_same) (dpa_mono (Ex.new hn) ds hd))
theorem go_retNH (h : EvNH K te σ Hd H ds) (k : ∀ p xs H' Hn, Gr Hd H Hn H' → H p = none → Hn p = none → H' p = some (.lst xs) → DpAll K Hn xs ds → D.rt (.ref p) H') : Go (tSeq (tRet te) tz) D σ H := fun H1 e1 =>
  h H1 e1 _ fun p xs H2 Hn g hp hn h2 hd => k p xs H2 Hn (g.pre e1) (fresh_back e1 hp) hn h2 hd
theorem go_asgNH (h : EvNH K te σ Hd H ds) (k : ∀ p xs H' Hn, Gr Hd H Hn H' → H p = none → Hn p = none → H' p = some (.lst xs) → DpAll K Hn xs ds → Go tz D (σ.set i (some (.ref p))) H') : Go (tSeq (tAsg te (gName i)) tz) D σ H := fun H1 e1 =>
  h H1 e1 _ fun p xs H2 Hn g hp hn h2 hd => k p xs H2 Hn (g.pre e1) (fresh_back e1 hp) hn h2 hd H2 (Ex.refl _)
theorem go_asgDH (h : EvDH K te σ Hd H d) (k : ∀ v H' Hn, Gr Hd H Hn H' → Dp K Hn v d → Go tz D (σ.set i (some v)) H') : Go (tSeq (tAsg te (gName i)) tz) D σ H := fun H1 e1 =>
  h H1 e1 _ fun v H2 Hn g hd => k v H2 Hn (g.pre e1) hd H2 (Ex.refl _)
theorem en_lcH {S : Nat → L2.St → L2.St → Hp → Prop} {vs : List Nat} (h : EvJ K wi g σ Hd H n S) (hn : n ≤ 40000) (f : Nat → Bool) (v : Nat → PyData)
    (ht : ∀ (i : Nat) (σ2 : L2.St) (Hn H' : Hp), i < n → Ex Hd Hn → Ex Hn H' → Ex H H' → S i (wipe σ vs) σ2 Hn → wipe σ2 vs = wipe σ vs ∧ EvT tt σ2 H' (f i) ∧ (f i = true → EvDH K te σ2 Hn H' (v i))) : EvNH K (tLc wi g tt te vs) σ Hd H (givenD n f v) := fun H0 e0 Q q =>
  h H0 e0 _ fun J H1 Hn G Y gr w hG hY Dl hD => by
    refine lc_it w (fun i H' => i ≤ n ∧ ∃ Hm acc, Gr Hn H1 Hm H' ∧ Hm Dl = none ∧ H' Dl = some (.lst acc) ∧ DpAll K Hm acc (givenD i f v)) ⟨Nat.zero_le _, Hn, [], Gr.alloc gr.sub hD, fresh_back gr.sub hD, upd_same, .nil⟩ (fun i H' _ p => ?_) (fun i x H' H'' hi p y => ?_) (fun H' p => ?_)
    · obtain ⟨_, Hm, acc, g1, _⟩ := p
      exact hG H' (g1.dx.trans g1.sub) g1.ex
    · obtain ⟨_, Hm, acc, g1, hm, h2, hac⟩ := p
      refine hY i x H' H'' _ _ hi (g1.dx.trans g1.sub) g1.ex y fun σ2 H3 e3 hS => ?_
      obtain ⟨hw, hT, hE⟩ := ht i σ2 Hn H3 hi gr.dx ((g1.dx.trans g1.sub).trans e3) ((e0.trans gr.ex).trans (g1.ex.trans e3)) hS
      refine ⟨hw, hT H3 (Ex.refl _) _ fun H4 e4 => ?_⟩
      have al : acc.length < sizeLine := sz_lt (by have := givenD_len i f v; rw [dpa_len hac]; omega)
      cases hf : f i with
      | false =>
        show (i + 1 ≤ n ∧ _)
        refine ⟨hi, Hm, acc, g1.post (e3.trans e4), hm, (e3.trans e4) _ _ h2, ?_⟩
        rw [givenD_no hf]
        exact hac
      | true =>
        show te σ2 H4 _
        refine hE hf H4 e4 _ fun y H5 Ho g5' hy' => ?_
        have sm : Ex Hm H4 := (g1.sub.trans e3).trans e4
        have g5 := g5'.up g1.dx sm
        have hy := dp_mono (g5'.upr g1.dx sm) _ hy'
        generalize un Hm Ho = Ho at g5 hy
        have h4 : H4 Dl = some (.lst acc) := (e3.trans e4) _ _ h2
        have ho : Ho Dl = none := g5.fr _ _ h4 hm
        have hD1 : H1 Dl = none := hD
        refine ⟨acc, g5.ex _ _ h4, al, hi, Ho, acc ++ [y], ⟨Ex.mut ((g1.ex.trans (e3.trans e4)).trans g5.ex) hD1, g1.dx.trans g5.dx, Ex.mut g5.sub ho, fun a o ha hd => g5.fr a o ((e3.trans e4) a o (g1.ex a o ha)) (g1.fr a o ha hd)⟩, ho, upd_same, ?_⟩
        rw [givenD_yes hf]
        exact dpa_app (dpa_mono g5.dx _ hac) (.cons hy .nil)
    · obtain ⟨_, Hm, acc, g1, hm, h2, hac⟩ := p
      exact q Dl acc H' Hm (gr.trans g1) (fresh_back gr.ex hD) hm h2 hac
end
end Cot

set_option Elab.async false
set_option linter.all false
set_option maxRecDepth 100000
set_option maxHeartbeats 4000000
/-! zip of a list and a tuple; pop of a place; lists of lists of numbers and None that are changed. -/
namespace Cot
open PySem PySem.Spec PyProof.Rows L2 Evl RZ
abbrev lstItO (t : Addr) : Obj := { cls := .type "list_iterator", data := .fields #[.ref t, .int 0 0] }
abbrev twoO (a b : Value) : Obj := { cls := .type "tuple", data := .seq #[a, b] }
abbrev zipO (a b : Addr) : Obj := { cls := .type "zip", data := .fields #[.none, .bool false, .bool false, .ref a, .ref b] }
abbrev zb (h : Heap) (a b : Addr) : Heap := (h.push (lstItO a)).push (tupItO b)
abbrev zd (h : Heap) (a b : Addr) : Heap := ((zb h a b).push (twoO (.ref h.objs.size) (.ref (h.push (lstItO a)).objs.size))).push (twoO .none .none)
abbrev zc (h : Heap) (a b : Addr) : Heap := (zb h a b).push (twoO (.ref h.objs.size) (.ref (h.push (lstItO a)).objs.size))
abbrev ze (h : Heap) (a b : Addr) : Heap := (zd h a b).push (zipO (zb h a b).objs.size (zc h a b).objs.size)
set_option maxHeartbeats 1000000 in
theorem zipLT_new (a b : Addr) (xs ys : Array Value) :
    Meets (Builtin.«zip.__new__» ⟨[.type "zip", .ref a, .ref b], []⟩) (fun _ R s => s.heap.IsList a xs ∧ s.heap.IsTuple b ys ∧ R (.ok (.ret (.ref (zd s.heap a b).objs.size))) { s with heap := ze s.heap a b }) :=
  .of_wp fun prog w A R s hh => by
    obtain ⟨hp, gs, dr, tk, os⟩ := s
    obtain ⟨hL, hT, hh⟩ := hh
    have sb := sub_zip
    have hT2 : Heap.IsTuple (Shared.heap ⟨hp.push (lstItO a), gs, dr, tk, os⟩) b ys := Heap.IsTuple.push hT _
    have hL2 : Heap.IsList (Shared.heap ⟨hp, gs, dr, tk, os⟩) a xs := hL
    wp_walk using wpAny_pyIter_list hL2, wpAny_pyIter_tuple hT2
    exact ⟨_, rfl, hh⟩
section
variable {prog : Program} {w : World} {A : Around} {E : Value → Shared → Prop} {s : Shared}
theorem call_zipLT {a b : Addr} {xs ys : Array Value} {Q : Value → Shared → Prop} (hL : s.heap.IsList a xs) (hT : s.heap.IsTuple b ys)
    (hq : ∀ h', IsZip h' (s.heap.objs.size + 4) (s.heap.objs.size + 2) (s.heap.objs.size + 3) .none → IsTupOf2 h' (s.heap.objs.size + 2) (.ref s.heap.objs.size) (.ref (s.heap.objs.size + 1)) → IsTupOf2 h' (s.heap.objs.size + 3) .none .none →
      h'.IsListIter s.heap.objs.size a 0 → h'.IsTupleIter (s.heap.objs.size + 1) b 0 → (∀ c o, s.heap.get? c = some o → h'.get? c = some o) → Q (.ref (s.heap.objs.size + 4)) { s with heap := h' }) :
    wpAny (model prog w) A (call (.type "zip") [.ref a, .ref b]) Q E s := by
  refine callType_new F.called_zip (by decide) (F.typeCall_zip_2 _ _) (F.newCall_zip_2 _ _) (fun ob => F.args_object_init_3 ob _ _) F.entry_zip_new (zipLT_new a b xs ys) ⟨hL, hT, ?_⟩
  have s1 : (s.heap.push (lstItO a)).objs.size = s.heap.objs.size + 1 := Heap.size_push ..
  have s2 : (zb s.heap a b).objs.size = s.heap.objs.size + 2 := by rw [Heap.size_push, s1]
  have s3 : (zc s.heap a b).objs.size = s.heap.objs.size + 3 := by rw [Heap.size_push, s2]
  have s4 : (zd s.heap a b).objs.size = s.heap.objs.size + 4 := by rw [Heap.size_push, s3]
  have p0 : (ze s.heap a b).get? s.heap.objs.size = some (lstItO a) := Heap.get?_push_of_some _ (Heap.get?_push_of_some _ (Heap.get?_push_of_some _ (Heap.get?_push_of_some _ (Heap.get?_push_size _ rfl))))
  have p1 : (ze s.heap a b).get? (s.heap.push (lstItO a)).objs.size = some (tupItO b) := Heap.get?_push_of_some _ (Heap.get?_push_of_some _ (Heap.get?_push_of_some _ (Heap.get?_push_size _ rfl)))
  have p2 : (ze s.heap a b).get? (zb s.heap a b).objs.size = some (twoO (.ref s.heap.objs.size) (.ref (s.heap.push (lstItO a)).objs.size)) := Heap.get?_push_of_some _ (Heap.get?_push_of_some _ (Heap.get?_push_size _ rfl))
  have p3 : (ze s.heap a b).get? (zc s.heap a b).objs.size = some (twoO .none .none) := Heap.get?_push_of_some _ (Heap.get?_push_size _ rfl)
  have p4 : (ze s.heap a b).get? (zd s.heap a b).objs.size = some (zipO (zb s.heap a b).objs.size (zc s.heap a b).objs.size) := Heap.get?_push_size _ rfl
  rw [s1, s2] at p2
  rw [s1] at p1
  rw [s3] at p3
  rw [s2, s3, s4] at p4
  show _ ∧ _
  rw [s4]
  exact ⟨⟨_, p4, rfl⟩, hq _ p4 p2 p3 ⟨_, p0, rfl, rfl⟩ ⟨_, p1, rfl, rfl⟩ fun c o x => Heap.get?_push_of_some _ (Heap.get?_push_of_some _ (Heap.get?_push_of_some _ (Heap.get?_push_of_some _ (Heap.get?_push_of_some _ x))))⟩
end
/-- the list at a and the tuple at b, item by item in new pairs -/
def ItzLT (K : PySem.W.Frag) (a b : Addr) : It :=
  ⟨fun i H => ∃ (xs ys : List V) (x y : V), SqL K H a xs ∧ SqT K H b ys ∧ xs[i]? = some x ∧ ys[i]? = some y, fun i H v H' => ∃ T x y, v = .ref T ∧ H T = none ∧ H' = upd H T (.tup [x, y]) ∧ (∀ xs, SqL K H a xs → xs[i]? = some x) ∧ ∀ ys, SqT K H b ys → ys[i]? = some y,
    fun i H => ∃ xs ys : List V, SqL K H a xs ∧ SqT K H b ys ∧ i ≤ xs.length ∧ i ≤ ys.length ∧ (i = xs.length ∨ i = ys.length)⟩
theorem sep_of {z TI TO i1 i2 a b : Addr} (D : ZipApart z TI TO i1 i2 a b) : ZipSep2 z TI TO i1 i2 [i1, a] [i2, b] :=
  ⟨D.TIz, D.TOz, D.TITO, D.TIi1, by simp, by simp [D.i1z.symm, D.l1z.symm], by simp [D.TOi1, D.l1TO.symm], D.TIi2, by simp, by simp [D.i2z.symm, D.l2z.symm], by simp [D.TOi2, D.l2TO.symm], by simp [D.i12, D.l2i1.symm], by simp [D.i12.symm, D.l1i2.symm]⟩
theorem turn_zipLT {P : Program} {w : World} {K : PySem.W.Frag} {elts : List Expr} {kk : Nat} {tpos : Pos} {a b z TI TO i1 i2 : Addr} (D : ZipApart z TI TO i1 i2 a b) :
    Turn P w K (.Tuple elts kk tpos) (ItzLT K a b) [z, TI, TO, i1, i2] z (fun i h => IsZip h z TI TO .none ∧ IsTupOf2 h TI (.ref i1) (.ref i2) ∧ (∃ x y, IsTupOf2 h TO x y) ∧ h.IsListIter i1 a i ∧ h.IsTupleIter i2 b i) where
  mem := by simp
  obj := fun i h st c hc => by
    obtain ⟨hz, hTI, ⟨x, y, hTO⟩, ⟨o1, e1, _, d1⟩, ⟨o2, e2, _, d2⟩⟩ := st
    simp only [List.mem_cons, List.not_mem_nil, or_false] at hc
    rcases hc with rfl | rfl | rfl | rfl | rfl
    · exact ⟨_, hz, fun _ q => nomatch q⟩
    · exact ⟨_, hTI, fun _ q => nomatch q⟩
    · exact ⟨_, hTO, fun _ q => nomatch q⟩
    · exact ⟨o1, e1, fun _ q => by rw [d1] at q; cases q⟩
    · exact ⟨o2, e2, fun _ q => by rw [d2] at q; cases q⟩
  keep := fun i h h' st k => by
    obtain ⟨hz, hTI, ⟨x, y, hTO⟩, ⟨o1, e1, r1⟩, ⟨o2, e2, r2⟩⟩ := st
    exact ⟨k z (by simp) _ hz, k TI (by simp) _ hTI, ⟨x, y, k TO (by simp) _ hTO⟩, ⟨o1, k i1 (by simp) _ e1, r1⟩, ⟨o2, k i2 (by simp) _ e2, r2⟩⟩
  item := by
    intro X hP hw hK hc i pins s σ H E I hf st hg
    subst hP hw hK
    obtain ⟨hz, hTI, ⟨x0, y0, hTO⟩, j1, j2⟩ := st
    obtain ⟨xs, ys, x, y, qx, qy, hx, hy⟩ := hg
    obtain ⟨its, rv, p, _⟩ := I.list qx
    obtain ⟨its2, rv2, p2, _⟩ := I.tuple qy
    obtain ⟨u, hu, ru⟩ := rv.get hx
    obtain ⟨u2, hu2, ru2⟩ := rv2.get hy
    have lt1 : i < its.toArray.size := by simpa using (List.getElem?_eq_some_iff.mp hu).1
    have lt2 : i < its2.toArray.size := by simpa using (List.getElem?_eq_some_iff.mp hu2).1
    have zl : z < s.heap.objs.size := Heap.lt_size hz
    have D1 := Draws.list (prog := X.prog) (w := X.w) (show X.A.in1.handled = none from I.ok.hd hc) i1 a D.l1i1 its.toArray
    have D2 := Draws.tuple (prog := X.prog) (w := X.w) (show X.A.in1.handled = none from I.ok.hd hc) i2 b D.l2i2 its2.toArray
    refine wpAny_pyNext_zipD2_item (sep_of D) D1 D2 hz hTI hTO ⟨j1, p.isList⟩ ⟨j2, p2⟩ lt1 lt2 fun v1 v2 h' tk e1 e2 z' TO' st1 st2 hT hsz hk => ?_
    have g1 : v1 = u := by
      have h2 : its.toArray[i]? = some u := by simpa using hu
      rw [h2] at e1
      cases e1
      rfl
    have g2 : v2 = u2 := by
      have h2 : its2.toArray[i]? = some u2 := by simpa using hu2
      rw [h2] at e2
      cases e2
      rfl
    subst g1 g2
    refine ⟨_, rfl, wpAny_letOwnedTupleGo_zip (s := { s with heap := h', toks := tk }) z' fun h2 z2 sb => ?_⟩
    have hT2 : h2.get? s.heap.objs.size = some (twoO v1 v2) := (sb.2 _ (Nat.ne_of_gt zl)).trans hT
    have new : ObjOk X.prog X.w (upd H s.heap.objs.size (.tup [x, y])) h2 s.heap.objs.size (.tup [x, y]) :=
      ⟨by show 2 ≤ sizeLine; decide, [v1, v2], .cons ru (.cons ru2 .nil), ⟨_, hT2, rfl, _, rfl⟩⟩
    have I1 : Inv X pins σ (upd H s.heap.objs.size (.tup [x, y])) { s with heap := h2, toks := tk } :=
      I.turnedNew (ch := [z, TI, TO, i1, i2]) (fun c o hb q => (sb.2 c (fun e => hb (by simp [e]))).trans (hk c o (fun e => hb (by simp [e])) (fun e => hb (by simp [e])) (fun e => hb (by simp [e])) (fun e => hb (by simp [e])) q)) hf (Nat.le_refl _) new
    refine ⟨.ref s.heap.objs.size, _, I1, rfl, ⟨_, x, y, rfl, I.hok.fresh (Nat.le_refl _), rfl, fun l hl => by rw [I.list_inj hl qx]; exact hx, fun l hl => by rw [I.tuple_inj hl qy]; exact hy⟩, ⟨z2, ?_, ⟨v1, v2, ?_⟩, ?_, ?_⟩, fun c hcm => ?_⟩
    · exact (sb.2 _ D.TIz).trans (hk _ _ D.TIz D.TITO D.TIi1 D.TIi2 hTI)
    · exact (sb.2 _ D.TOz).trans TO'
    · obtain ⟨o3, h3, r3⟩ := st1.1
      exact ⟨o3, (sb.2 _ D.i1z).trans h3, r3⟩
    · obtain ⟨o3, h3, r3⟩ := st2.1
      exact ⟨o3, (sb.2 _ D.i2z).trans h3, r3⟩
    · have hlt : c < s.heap.objs.size := by
        obtain ⟨_, e1, _⟩ := j1
        obtain ⟨_, e2, _⟩ := j2
        simp only [List.mem_cons, List.not_mem_nil, or_false] at hcm
        rcases hcm with rfl | rfl | rfl | rfl | rfl
        · exact zl
        · exact Heap.lt_size hTI
        · exact Heap.lt_size hTO
        · exact Heap.lt_size e1
        · exact Heap.lt_size e2
      rw [upd_ne (Nat.ne_of_lt hlt)]
      exact (hf c hcm).1
  done := by
    intro X hP hw hK hc i pins s σ H E I hf st hg
    subst hP hw hK
    obtain ⟨hz, hTI, ⟨x0, y0, hTO⟩, j1, j2⟩ := st
    obtain ⟨xs, ys, qx, qy, le1, le2, hend⟩ := hg
    obtain ⟨its, rv, p, _⟩ := I.list qx
    obtain ⟨its2, rv2, p2, _⟩ := I.tuple qy
    have l1 : its.toArray.size = xs.length := by rw [List.size_toArray]; exact rv.length.symm
    have l2 : its2.toArray.size = ys.length := by rw [List.size_toArray]; exact rv2.length.symm
    have D1 := Draws.list (prog := X.prog) (w := X.w) (show X.A.in1.handled = none from I.ok.hd hc) i1 a D.l1i1 its.toArray
    have D2 := Draws.tuple (prog := X.prog) (w := X.w) (show X.A.in1.handled = none from I.ok.hd hc) i2 b D.l2i2 its2.toArray
    refine wpAny_pyNext_zipD2_end (sep_of D) D1 D2 hz hTI hTO ⟨j1, p.isList⟩ ⟨j2, p2⟩ (by omega) (by omega) (by omega) fun h' tk hk => ⟨rfl, I.turnedL (t' := tk) (ch := [z, TI, TO, i1, i2]) (fun c o hb q => hk c o (fun e => hb (by simp [e])) (fun e => hb (by simp [e])) (fun e => hb (by simp [e])) (fun e => hb (by simp [e])) q) hf⟩
  self := fun A i s Q E st h => wpAny_pyIter_zip st.1 h
def iZipLT (K : PySem.W.Frag) (ta : TA) : TI := fun σ H R => ta σ H fun vs H1 => ∃ a b xs ys, vs = [.ref a, .ref b] ∧ SqL K H1 a xs ∧ SqT K H1 b ys ∧ R (ItzLT K a b) H1
theorem pi_zipLT {X : Cx} {e e2 : Expr} {ta : TA} {p pos tpos : Pos} {elts : List Expr} {kk : Nat} (hg : Gl X "zip") (hm : X.mg "zip" = none) (ha : PA X [e, e2] ta) (hs : starEach [e, e2] X.env = (false, eval e X.env) :: starEach [e2] X.env := by rfl) (hpl : (backTo pos (starEach [e2] X.env)).any (·.1) = false := by rfl) :
    PI X (.Tuple elts kk tpos) (.Call (.Name "zip" p) [e, e2] [] pos) (iZipLT X.K ta) := by
  refine ⟨fun pins s σ H R I hw => ?_⟩
  refine Call_ (ld_blt I hg hm boot_zip (PyProof.Rows.callWith_type1 (thn (ha.run pos pins s σ H _ I hw) fun us s1 hh => ?_) hs hpl))
  obtain ⟨vs, H1, I1, r1, a, b, xs, ys, rfl, qx, qy, q⟩ := hh
  cases r1 with
  | cons ra rr =>
    cases rr with
    | cons rb rr =>
      cases rr
      cases ra
      cases rb
      obtain ⟨its, rv, p1, _⟩ := I1.list qx
      obtain ⟨its2, rv2, p2, _⟩ := I1.tuple qy
      obtain ⟨o2, ho2, _⟩ := id p2
      refine call_zipLT p1.isList (show s1.heap.IsTuple b its2.toArray from p2) fun h' hz hTI hTO h1 h2 hk => wpAny_pyIter_zip hz ?_
      have I2 : Inv X pins σ H1 { s1 with heap := h' } := I1.kept (t' := s1.toks) hk
      refine ⟨s1.heap.objs.size + 4, [s1.heap.objs.size + 4, s1.heap.objs.size + 2, s1.heap.objs.size + 3, s1.heap.objs.size, s1.heap.objs.size + 1], _, _, H1, rfl, I2, turn_zipLT (PySem.W.ktu_apart s1.heap.objs.size a b p1.lt (Heap.lt_size ho2)), ⟨hz, hTI, ⟨_, _, hTO⟩, h1, h2⟩, fun c hcm => ?_, q⟩
      have hle : s1.heap.objs.size ≤ c := by
        simp only [List.mem_cons, List.not_mem_nil, or_false] at hcm
        rcases hcm with rfl | rfl | rfl | rfl | rfl <;> first | exact Nat.le_refl _ | exact Nat.le_add_right _ _
      exact I1.fpOk hle (I1.hok.fresh hle)
section
variable {K : PySem.W.Frag} {H H' Hd Hd' Hn H1 H2 Hm : Hp} {σ : L2.St} {ta tb te : TE} {tr : TA} {n i j j2 : Nat} {ds es : List PyData} {a b l : Addr} {xs ys : List V} {y v : V} {D : Ends} {tz : TS}
theorem walk_zipLT {n : Nat} (hn : n = min xs.length ys.length) : Walk (ItzLT K a b) n (fun H => SqL K H a xs ∧ SqT K H b ys) (YPair (fun i => xs[i]?) (fun i => ys[i]?)) := by
  subst hn
  refine ⟨fun i _ hi q => ?_, fun _ q => ⟨xs, ys, q.1, q.2, by omega, by omega, by omega⟩, fun i H v H' _ q y => ?_⟩
  · have h1 : i < xs.length := by omega
    have h2 : i < ys.length := by omega
    exact ⟨xs, ys, xs[i], ys[i], q.1, q.2, by simp [h1], by simp [h2]⟩
  · obtain ⟨T, x, z, h1, h2, h3, h4, h5⟩ := y
    exact ⟨T, x, z, h1, h2, h3, h4 xs q.1, h5 ys q.2⟩
theorem ei_zipLT (h : EvDA K tr σ Hd [.list ds, .tuple es]) (hl : ds.length = es.length) : EvI K (iZipLT K tr) (g2 K j j2) σ Hd ds.length (SPair K j j2 (fun i => ds[i]?) (fun i => es[i]?)) := fun H s R r =>
  h H s _ fun vs H2 Hn g hd => by
    cases hd with
    | cons h1 h2 =>
      cases h2 with
      | cons h2 h3 =>
        cases h3
        cases h1 with
        | @lst a xs ds hs hall =>
          cases h2 with
          | @tup b ys es hs2 hall2 =>
            refine ⟨a, b, xs, ys, rfl, ex_l g.sub hs, ex_t g.sub hs2, r _ H2 Hn _ _ g (walk_zipLT (xs := xs) (ys := ys) (by rw [dpa_len hall, dpa_len hall2]; omega)) (fun H' e => ⟨ex_l e hs, ex_t e hs2⟩) fun i x H' H'' σ' k hi e y q => ?_⟩
            exact pair_turn (fun v e => dpa_get2 hall e) (fun v e => dpa_get2 hall2 e) y q
/-- l.pop(i) -/
theorem go_popAt {k : Nat} (hl : H l = some (.lst xs)) (ha : Ev ta σ H (.ref l)) (hi : Ev tb σ H (.int (k : Int))) (hk : k < xs.length) (hz : xs.length ≤ 100000) (kk : Go tz D σ (upd H l (.lst (xs.eraseIdx k)))) : Go (tSeq (tDrop (tBM K "list" rPopAt ta (tCons tb tNil))) tz) D σ H := fun H1 e1 =>
  ha H1 e1 _ fun H2 e2 => ⟨Or.inl ⟨rfl, xs, sq_of ((e1.trans e2) _ _ hl)⟩, hi H2 (e1.trans e2) _ fun H3 e3 => ⟨l, xs, (k : Int), k, xs[k], rfl, rfl, ((e1.trans e2).trans e3) _ _ hl, by omega, by omega, by
    unfold seqIndex?
    simp
    omega, by simp [hk], kk _ (ex_upd2 ((e1.trans e2).trans e3))⟩⟩
end
end Cot

set_option Elab.async false
set_option linter.all false
set_option maxRecDepth 100000
set_option maxHeartbeats 4000000
/-! Lists of lists of numbers and None: as data, and where they are changed. -/
namespace Cot
open PySem L2 Evl
abbrev Ages := List (List (Option Int))
def oD : Option Int → PyData
  | none => .none
  | some n => .int n
def oV : Option Int → V
  | none => .non
  | some n => .int n
def lineD (l : List (Option Int)) : PyData := .list (l.map oD)
def agesD (A : Ages) : PyData := .list (A.map lineD)
section
variable {K : PySem.W.Frag} {a p : Addr} {ps : List Addr} {A : Ages} {r : List (Option Int)} {H H' Hd Hn H1 H2 : Hp} {σ : L2.St} {ta tb tc te tl : TE} {D : Ends} {tz : TS} {d d1 d2 : PyData} {i j : Nat} {b : Bid} {v : V}
theorem ov_dp (o : Option Int) : Dp K H (oV o) (oD o) := by
  cases o with
  | none => exact .non
  | some n => exact .int n
theorem ov_inv {o : Option Int} (h : Dp K H v (oD o)) : v = oV o := by
  cases o with
  | none => cases h; rfl
  | some n => cases h; rfl
theorem ovs_dp : ∀ r : List (Option Int), DpAll K H (r.map oV) (r.map oD)
  | [] => .nil
  | o :: r => .cons (ov_dp o) (ovs_dp r)
theorem ovs_inv : ∀ {r : List (Option Int)} {vs : List V}, DpAll K H vs (r.map oD) → vs = r.map oV
  | [], _, h => by cases h; rfl
  | o :: r, _, h => by
    cases h with
    | cons h1 h2 => rw [ov_inv h1, ovs_inv h2]; rfl
/-- a list of lists of numbers and None, each its own -/
structure LO (H : Hp) (a : Addr) (ps : List Addr) (A : Ages) : Prop where
  top : H a = some (.lst (ps.map .ref))
  len : ps.length = A.length
  nd : ps.Nodup
  out : a ∉ ps
  row : ∀ (i : Nat) (p : Addr) (r : List (Option Int)), ps[i]? = some p → A[i]? = some r → H p = some (.lst (r.map oV))
theorem LO.keep (h : LO H a ps A) (ka : ∀ o, H a = some o → H2 a = some o) (kp : ∀ q ∈ ps, ∀ o, H q = some o → H2 q = some o) : LO H2 a ps A := ⟨ka _ h.top, h.len, h.nd, h.out, fun i p r h1 h2 => kp p (List.mem_of_getElem? h1) _ (h.row i p r h1 h2)⟩
theorem LO.ext (h : LO H a ps A) (e : Ex H H2) : LO H2 a ps A := h.keep (fun o => e a o) fun q _ o => e q o
theorem LO.box (h : LO H a ps A) (g : GrB b Hd H Hn H2) (na : a ≠ b.b) (np : b.b ∉ ps) : LO H2 a ps A := h.keep (fun o => g.exb a o na) fun q hq o => g.exb q o (fun e => np (by rw [← e]; exact hq))
theorem LO.oth {q : Addr} {o : HO} (h : LO H a ps A) (n : q ≠ a) (m : q ∉ ps) : LO (upd H q o) a ps A := h.keep (fun o' => by rw [upd_ne n.symm]; exact id) fun x hx o' => by
  rw [upd_ne (show x ≠ q from fun e => m (by rw [← e]; exact hx))]
  exact id
theorem LO.put (h : LO H a ps A) (hp : ps[i]? = some p) (r' : List (Option Int)) : LO (upd H p (.lst (r'.map oV))) a ps (A.set i r') := by
  have hm := List.mem_of_getElem? hp
  refine ⟨by rw [upd_ne (show a ≠ p from fun e => h.out (by rw [e]; exact hm))]; exact h.top, by rw [List.length_set]; exact h.len, h.nd, h.out, fun k q r h1 h2 => ?_⟩
  have a1 := List.getElem?_eq_some_iff.mp h1
  have a2 := List.getElem?_eq_some_iff.mp hp
  by_cases e : k = i
  · subst e
    rw [h1] at hp
    cases hp
    rw [List.getElem?_set_self (by have := a1.1; have := h.len; omega)] at h2
    cases h2
    exact upd_same
  · rw [List.getElem?_set_ne (fun e2 => e e2.symm)] at h2
    have hne : q ≠ p := fun e2 => by
      subst e2
      exact e ((List.getElem_inj h.nd).mp (a1.2.trans a2.2.symm))
    rw [upd_ne hne]
    exact h.row k q r h1 h2
theorem LO.drop (h : LO H a ps A) (k : Nat) : LO (upd H a (.lst ((ps.eraseIdx k).map .ref))) a (ps.eraseIdx k) (A.eraseIdx k) := by
  have hsub : ∀ x, x ∈ ps.eraseIdx k → x ∈ ps := fun x hx => List.mem_of_mem_eraseIdx hx
  refine ⟨upd_same, by rw [List.length_eraseIdx, List.length_eraseIdx, h.len], h.nd.sublist (List.eraseIdx_sublist ps k), fun hm => h.out (hsub _ hm), fun i p r h1 h2 => ?_⟩
  have hm := hsub _ (List.mem_of_getElem? h1)
  rw [upd_ne (show p ≠ a from fun e => h.out (by rw [← e]; exact hm))]
  rw [List.getElem?_eraseIdx] at h1 h2
  split at h1
  · rename_i hlt
    rw [if_pos hlt] at h2
    exact h.row i p r h1 h2
  · rename_i hlt
    rw [if_neg hlt] at h2
    exact h.row (i + 1) p r h1 h2
theorem lo_data : ∀ {ps : List Addr} {A : Ages}, ps.length = A.length → (∀ (i : Nat) (p : Addr) (r : List (Option Int)), ps[i]? = some p → A[i]? = some r → H p = some (.lst (r.map oV))) → DpAll K H (ps.map .ref) (A.map lineD)
  | [], [], _, _ => .nil
  | [], _ :: _, h, _ => by cases h
  | _ :: _, [], h, _ => by cases h
  | p :: ps, r :: rs, h, k => .cons (.lst (sq_of (k 0 p r rfl rfl)) (ovs_dp r)) (lo_data (by simpa using h) fun i p r h1 h2 => k (i + 1) p r h1 h2)
theorem LO.data (h : LO H a ps A) (s : Ex Hd H) (na : Hd a = none) (np : ∀ p ∈ ps, Hd p = none) : ∃ Hn, Ex Hd Hn ∧ Ex Hn H ∧ Dp K Hn (.ref a) (agesD A) ∧ ∀ q, q ≠ a → q ∉ ps → Hn q = Hd q := by
  refine ⟨fun x => if x = a ∨ x ∈ ps then H x else Hd x, fun x o hx => ?_, fun x o hx => ?_, .lst (xs := ps.map .ref) (sq_of ?_) (lo_data h.len fun i p r h1 h2 => ?_), fun q n m => if_neg (fun h => h.elim n m)⟩
  · show (if x = a ∨ x ∈ ps then H x else Hd x) = some o
    split
    · exact s x o hx
    · exact hx
  · have hx' : (if x = a ∨ x ∈ ps then H x else Hd x) = some o := hx
    split at hx'
    · exact hx'
    · exact s x o hx'
  · show (if a = a ∨ a ∈ ps then H a else Hd a) = _
    rw [if_pos (.inl rfl)]
    exact h.top
  · show (if p = a ∨ p ∈ ps then H p else Hd p) = _
    rw [if_pos (.inr (List.mem_of_getElem? h1))]
    exact h.row i p r h1 h2
/-- it ends as data, in a heap that grew but for a box -/
theorem LO.endB {H0 Hb : Hp} (h : LO H a ps A) (g : GrB b Hd H0 Hb H) (na : Hb a = none) (np : ∀ p ∈ ps, Hb p = none) (n0 : H0 a = none) (m0 : ∀ p ∈ ps, H0 p = none) : ∃ Hn, GrB b Hd H0 Hn H ∧ Dp K Hn (.ref a) (agesD A) := by
  obtain ⟨Hn, e1, e2, e3, e4⟩ := h.data (K := K) g.sub na np
  refine ⟨Hn, ⟨g.exb, g.dx.trans e1, e2, fun x o hx hd => ?_, g.bx⟩, e3⟩
  rw [e4 x (ne_of_none hx n0) fun hm => by rw [m0 x hm] at hx; cases hx]
  exact g.fr x o hx hd
def EvLO (te : TE) (σ : L2.St) (Hd : Hp) (A : Ages) : Prop := ∀ H, Ex Hd H → ∀ Q : VK, (∀ a ps H2, Ex H H2 → H a = none → (∀ p ∈ ps, H p = none) → LO H2 a ps A → Q (.ref a) H2) → te σ H Q
theorem go_asgLO (s : Ex Hd H) (h : EvLO te σ Hd A) (k : ∀ a ps H', Ex H H' → H a = none → (∀ p ∈ ps, H p = none) → LO H' a ps A → Go tz D (σ.set i (some (.ref a))) H') : Go (tSeq (tAsg te (gName i)) tz) D σ H := fun H1 e1 =>
  h H1 (s.trans e1) _ fun a ps H2 e2 n m l => k a ps H2 (e1.trans e2) (fresh_back e1 n) (fun p hp => fresh_back e1 (m p hp)) l _ (Ex.refl _)
theorem LO.more (L : LO H a ps A) (hl : H p = none) : LO (upd (upd H p (.lst (r.map oV))) a (.lst ((ps ++ [p]).map .ref))) a (ps ++ [p]) (A ++ [r]) := by
  have nl : p ≠ a := (ne_of_none L.top hl).symm
  have hlen := L.len
  have nps : p ∉ ps := fun hm => by
    obtain ⟨k, hk, ek⟩ := List.getElem_of_mem hm
    have := L.row k p (A[k]'(by omega)) (List.getElem?_eq_some_iff.mpr ⟨hk, ek⟩) (List.getElem?_eq_getElem _)
    rw [hl] at this
    cases this
  refine ⟨upd_same, by simp [hlen], ?_, fun hm => ?_, fun k q s h1 h2 => ?_⟩
  · rw [List.nodup_append]
    refine ⟨L.nd, by simp, fun x hx y hy e => ?_⟩
    rw [List.mem_singleton.mp hy] at e
    subst e
    exact nps hx
  · rcases List.mem_append.mp hm with hm | hm
    · exact L.out hm
    · exact nl (List.mem_singleton.mp hm).symm
  · by_cases hk : k < ps.length
    · rw [List.getElem?_append_left hk] at h1
      rw [List.getElem?_append_left (by omega)] at h2
      have hm := List.mem_of_getElem? h1
      rw [upd_ne (show q ≠ a from fun e => L.out (by rw [← e]; exact hm)), upd_ne (show q ≠ p from fun e => nps (by rw [← e]; exact hm))]
      exact L.row k q s h1 h2
    · have hk2 : k = ps.length := by
        have := (List.getElem?_eq_some_iff.mp h1).1
        rw [List.length_append, List.length_singleton] at this
        omega
      rw [List.getElem?_append_right (by omega), hk2, Nat.sub_self] at h1
      rw [List.getElem?_append_right (by omega), hk2, hlen, Nat.sub_self] at h2
      cases h1
      cases h2
      rw [upd_ne nl, upd_same]
theorem lo_lc {vs : List Nat} (h : EvD K tl σ Hd (agesD A)) (hn : A.length ≤ 1000) (hw : ∀ u, wipe ((wipe σ vs).set j (some u)) vs = wipe σ vs) (hj : ∀ u, ((wipe σ vs).set j (some u))[j]? = some (some u)) :
    EvLO (tLc (iList K tl) (gName j) tYes (tCB (rListS K) (tCons (tVar j) tNil)) vs) σ Hd A := fun H s Q q =>
  (ei_list (j := j) h) H s _ fun J H1 Hn G Y gr w hG hY Dl hD => by
    rw [List.length_map] at w hY
    refine lc_it w (fun i H' => i ≤ A.length ∧ ∃ ps, Ex H1 H' ∧ (∀ p ∈ ps, H1 p = none) ∧ LO H' Dl ps (A.take i)) ⟨Nat.zero_le _, [], Ex.new hD, (fun _ h => by cases h), ⟨upd_same, rfl, List.nodup_nil, (fun h => by cases h), fun i p r h1 _ => by simp at h1⟩⟩ (fun i H' _ p => ?_) (fun i x H' H'' hi p y => ?_) (fun H' p => ?_)
    · obtain ⟨_, ps, e, _⟩ := p
      exact hG H' (gr.sub.trans e)
    · obtain ⟨_, ps, e, hf, L⟩ := p
      refine hY i x H' H'' _ _ hi (gr.sub.trans e) y fun σ2 H3 e3 hS => ?_
      obtain ⟨u, d, h3, h4, rfl⟩ := hS
      refine ⟨hw u, et_yes (H := Hn) H3 ((gr.sub.trans e).trans e3) _ fun H4 e4 => ?_⟩
      show (tCB (rListS K) (tCons (tVar j) tNil)) _ H4 _
      rw [List.getElem?_map, List.getElem?_eq_getElem hi] at h3
      cases h3
      refine (ed_var (hj u) h4) H4 (((gr.sub.trans e).trans e3).trans e4) _ fun v H5 Hm g5 hd5 => ?_
      cases hd5 with
      | @lst c xs ds hs hall =>
        have ex := ovs_inv hall
        subst ex
        refine ⟨c, _, rfl, Or.inl (ex_l g5.sub hs), fun l hl => ?_⟩
        have L5 : LO H5 Dl ps (A.take i) := L.ext ((e3.trans e4).trans g5.ex)
        have e15 : Ex H1 H5 := (e.trans (e3.trans e4)).trans g5.ex
        have nl : l ≠ Dl := (ne_of_none L5.top hl).symm
        have lps : ps.length = i := by
          have := L5.len
          rw [List.length_take] at this
          omega
        have et : A.take (i + 1) = A.take i ++ [A[i]] := by rw [List.take_append_getElem]
        refine ⟨ps.map .ref, by rw [upd_ne nl.symm]; exact L5.top, sz_lt (by rw [List.length_map]; omega), hi, ps ++ [l], Ex.mut (e15.trans (Ex.new hl)) hD, fun p hp => ?_, ?_⟩
        · rcases List.mem_append.mp hp with hp | hp
          · exact hf p hp
          · rw [List.mem_singleton.mp hp]
            exact fresh_back e15 hl
        · rw [et]
          have := L5.more (r := A[i]) hl
          rw [List.map_append] at this
          exact this
    · obtain ⟨_, ps, e, hf, L⟩ := p
      rw [List.take_length] at L
      exact q Dl ps H' (gr.ex.trans e) (fresh_back gr.ex hD) (fun p hp => fresh_back gr.ex (hf p hp)) L
/-- a[i][j] read -/
theorem ev_rowLO {k : Nat} (L : LO H a ps A) (ha : Ev ta σ H (.ref a)) (hk : Ev tb σ H (.int (k : Int))) (hp : ps[k]? = some p) : Ev (tOp (rIxL K) ta tb) σ H (.ref p) := by
  refine ev_op ha hk (rv_ixL (K := K) (sq_of L.top) (atI_nat ?_))
  rw [List.getElem?_map, hp]
  rfl
theorem ev_lenLO (L : LO H a ps A) (ha : Ev ta σ H (.ref a)) : Ev (tCB (rLenS K) (tCons ta tNil)) σ H (.int (A.length : Int)) := fun H1 e Q q =>
  ha H1 e _ fun H2 e2 => ⟨a, ps.map .ref, rfl, Or.inl (sq_of ((e.trans e2) _ _ L.top)), by rw [List.length_map, L.len]; exact q H2 e2⟩
theorem ev_lenRow (hr : H p = some (.lst (r.map oV))) (ha : Ev ta σ H (.ref p)) : Ev (tCB (rLenS K) (tCons ta tNil)) σ H (.int (r.length : Int)) := fun H1 e Q q =>
  ha H1 e _ fun H2 e2 => ⟨p, r.map oV, rfl, Or.inl (sq_of ((e.trans e2) _ _ hr)), by rw [List.length_map]; exact q H2 e2⟩
/-- a call of a def that draws, its last argument made where things stand that are no data -/
theorem go_asgBH {Pre : List PyData → Prop} {R : List PyData → PyData → Prop} {E : XK} (hb : Hd b.b = none) (s : Ex Hd H) (B : Bx H b) (ha : Ev ta σ Hd (.ref b.b)) (h1 : EvD K tc σ Hd d1) (h2 : EvDH K te σ Hd H d2) (hp : Pre [d1, d2]) (k : ∀ v H' Hn d, GrB b Hd H Hn H' → Dp K Hn v d → R [d1, d2] d → Go tz D (σ.set i (some v)) H') :
    Go (tSeq (tAsg (tCall (spB K Pre R) [] E (tCons ta (tCons tc (tCons te tNil)))) (gName i)) tz) D σ H := fun H1 e1 =>
  ha H1 (s.trans e1) _ fun H2 e2 => h1 H2 ((s.trans e1).trans e2) _ fun v1 H3 D3 g3 hd3 => h2 H3 ((e1.trans e2).trans g3.ex) _ fun v2 H4 D4 g4 hd4 => by
    have g5 := g4.up g3.dx g3.sub
    have gx := (g3.trans g5).pre (e1.trans e2)
    have gb := GrB.of gx B
    have hx := g4.upr g3.dx g3.sub
    generalize un D3 D4 = D5 at g5 gx gb hx
    refine ⟨b, [v1, v2], D5, [d1, d2], rfl, gb.bn hb B, gb.sub, gb.bx, .cons (dp_mono g5.dx _ hd3) (.cons (dp_mono hx _ hd4) .nil), hp, fun v H6 D6 d g6 hd hR => ?_⟩
    exact k v H6 D6 d (gb.trans g6 hb B) hd hR H6 (Ex.refl _)
/-- an if that comes together again -/
theorem go_join {t : TT} {tu : TS} {c : Bool} (J : L2.St → Hp → Prop) (h : EvT t σ H c) (h1 : c = true → ∀ nx : L2.St → Hp → Prop, (∀ σ' H', J σ' H' → nx σ' H') → Go tu { D with nx := nx } σ H) (h2 : c = false → ∀ H', Ex H H' → J σ H') (k : ∀ σ' H', J σ' H' → Go tz D σ' H') : Go (tSeq (tIfS t tu tNext) tz) D σ H :=
  go_when h (fun e => h1 e (tz D) fun σ' H' j => k σ' H' j H' (Ex.refl _)) fun e H' e' => k σ H' (h2 e H' e') H' (Ex.refl _)
/-- l[j] = e, e drawn -/
theorem go_setB {l : Addr} {xs : List V} {Pd : PyData → Prop} (hb : Hd b.b = none) (s : Ex Hd H) (B : Bx H b) (hl : H l = some (.lst xs)) (nl : l ≠ b.b) (h : EvB K b te σ Hd Pd) (ho : ∀ H' Hn, GrB b Hd H Hn H' → Ev ta σ H' (.ref l)) (hi : ∀ H', Ev tb σ H' (.int (j : Int))) (hj : j < xs.length)
    (k : ∀ v H' Hn d, GrB b Hd H Hn H' → Dp K Hn v d → Pd d → Go tz D σ (upd H' l (.lst (xs.set j v)))) : Go (tSeq (tAsg te (gSub ta tb L2.rSetL)) tz) D σ H := fun H1 e1 =>
  h hb H1 (s.trans e1) (B.mono e1) _ fun v H2 Hn d g hd hp => by
    have g' := g.pre e1
    exact go_setL (te := fun _ H Q => Q v H) (g'.exb _ _ nl hl) (fun H3 _ Q q => q H3 (Ex.refl _)) (ho H2 Hn g') (hi H2) hj (k v H2 Hn d g' hd hp) H2 (Ex.refl _)
theorem eb_ifT {t : TT} {Pd : PyData → Prop} (h : EvT t σ Hd true) (h1 : EvB K b ta σ Hd Pd) : EvB K b (tIf t ta te) σ Hd Pd := fun hb H s B Q q => h H s _ fun H2 e2 => h1 hb H2 (s.trans e2) (B.mono e2) Q fun v H3 Hn d g hd hp => q v H3 Hn d (g.pre e2) hd hp
theorem eb_ifF {t : TT} {Pd : PyData → Prop} (h : EvT t σ Hd false) (h1 : EvB K b te σ Hd Pd) : EvB K b (tIf t ta te) σ Hd Pd := fun hb H s B Q q => h H s _ fun H2 e2 => h1 hb H2 (s.trans e2) (B.mono e2) Q fun v H3 Hn d g hd hp => q v H3 Hn d (g.pre e2) hd hp
end
end Cot

set_option Elab.async false
set_option linter.all false
set_option maxRecDepth 100000
set_option maxHeartbeats 4000000
/-! New lists of new lists of numbers and None, made where things stand that are no data. -/
namespace Cot
open PySem L2 Evl
def EvLOH (te : TE) (σ : L2.St) (H : Hp) (A : Ages) : Prop := ∀ H1, Ex H H1 → ∀ Q : VK, (∀ a ps H2, Ex H1 H2 → H1 a = none → (∀ p ∈ ps, H1 p = none) → LO H2 a ps A → Q (.ref a) H2) → te σ H1 Q
section
variable {K : PySem.W.Frag} {a p : Addr} {ps : List Addr} {A : Ages} {r : List (Option Int)} {H H' Hd Hn H1 H2 : Hp} {σ : L2.St} {te : TE} {D : Ends} {tz : TS} {i n : Nat} {wi : TI} {g : TG}
theorem LO.plus (L : LO H a ps A) (nl : p ≠ a) (nps : p ∉ ps) (hp : H p = some (.lst (r.map oV))) : LO (upd H a (.lst ((ps ++ [p]).map .ref))) a (ps ++ [p]) (A ++ [r]) := by
  have hlen := L.len
  refine ⟨upd_same, by simp [hlen], ?_, fun hm => ?_, fun k q s h1 h2 => ?_⟩
  · rw [List.nodup_append]
    refine ⟨L.nd, by simp, fun x hx y hy e => ?_⟩
    rw [List.mem_singleton.mp hy] at e
    subst e
    exact nps hx
  · rcases List.mem_append.mp hm with hm | hm
    · exact L.out hm
    · exact nl (List.mem_singleton.mp hm).symm
  · by_cases hk : k < ps.length
    · rw [List.getElem?_append_left hk] at h1
      rw [List.getElem?_append_left (by omega)] at h2
      have hm := List.mem_of_getElem? h1
      rw [upd_ne (show q ≠ a from fun e => L.out (by rw [← e]; exact hm))]
      exact L.row k q s h1 h2
    · have hk2 : k = ps.length := by
        have := (List.getElem?_eq_some_iff.mp h1).1
        rw [List.length_append, List.length_singleton] at this
        omega
      rw [List.getElem?_append_right (by omega), hk2, Nat.sub_self] at h1
      rw [List.getElem?_append_right (by omega), hk2, hlen, Nat.sub_self] at h2
      cases h1
      cases h2
      rw [upd_ne nl]
      exact hp
theorem lo_nest {S : Nat → L2.St → L2.St → Hp → Prop} {vs : List Nat} (h : EvJ K wi g σ Hd H n S) (hn : n ≤ 1000) (f : Nat → List (Option Int))
    (ht : ∀ (i : Nat) (σ2 : L2.St) (Hn H' : Hp), i < n → Ex Hd Hn → Ex Hn H' → Ex H H' → S i (wipe σ vs) σ2 Hn → wipe σ2 vs = wipe σ vs ∧ EvNH K te σ2 Hn H' ((f i).map oD)) : EvLOH (tLc wi g tYes te vs) σ H ((List.range n).map f) := fun H0 e0 Q q =>
  h H0 e0 _ fun J H1 Hn G Y gr w hG hY Dl hD => by
    refine lc_it w (fun i H' => i ≤ n ∧ ∃ ps, Ex H1 H' ∧ (∀ p ∈ ps, H1 p = none) ∧ LO H' Dl ps ((List.range i).map f)) ⟨Nat.zero_le _, [], Ex.new hD, (fun _ h => by cases h), ⟨upd_same, rfl, List.nodup_nil, (fun h => by cases h), fun i p r h1 _ => by simp at h1⟩⟩ (fun i H' _ p => ?_) (fun i x H' H'' hi p y => ?_) (fun H' p => ?_)
    · obtain ⟨_, ps, e, _⟩ := p
      exact hG H' (gr.sub.trans e) e
    · obtain ⟨_, ps, e, hf, L⟩ := p
      refine hY i x H' H'' _ _ hi (gr.sub.trans e) e y fun σ2 H3 e3 hS => ?_
      obtain ⟨hw, hE⟩ := ht i σ2 Hn H3 hi gr.dx ((gr.sub.trans e).trans e3) ((e0.trans gr.ex).trans (e.trans e3)) hS
      refine ⟨hw, et_yes (H := Hn) H3 ((gr.sub.trans e).trans e3) _ fun H4 e4 => ?_⟩
      show te σ2 H4 _
      refine hE H4 e4 _ fun p xs H5 Ho g5 hp ho h5 hx => ?_
      have ex := ovs_inv hx
      subst ex
      have L4 : LO H4 Dl ps ((List.range i).map f) := L.ext (e3.trans e4)
      have L5 := L4.ext g5.ex
      have nl : p ≠ Dl := (ne_of_none L4.top hp).symm
      have hlen := L4.len
      have nps : p ∉ ps := fun hm => by
        obtain ⟨k, hk, ek⟩ := List.getElem_of_mem hm
        have := L4.row k p (((List.range i).map f)[k]'(by omega)) (List.getElem?_eq_some_iff.mpr ⟨hk, ek⟩) (List.getElem?_eq_getElem _)
        rw [hp] at this
        cases this
      have e15 : Ex H1 H4 := e.trans (e3.trans e4)
      rw [List.length_map, List.length_range] at hlen
      refine ⟨ps.map .ref, L5.top, sz_lt (by rw [List.length_map]; omega), hi, ps ++ [p], Ex.mut (e15.trans g5.ex) hD, fun z hz => ?_, ?_⟩
      · rcases List.mem_append.mp hz with hz | hz
        · exact hf z hz
        · rw [List.mem_singleton.mp hz]
          exact fresh_back e15 hp
      · rw [List.range_succ, List.map_append]
        have := L5.plus (r := f i) nl nps h5
        rw [List.map_append] at this
        exact this
    · obtain ⟨_, ps, e, hf, L⟩ := p
      exact q Dl ps H' (gr.ex.trans e) (fresh_back gr.ex hD) (fun p hp => fresh_back gr.ex (hf p hp)) L
theorem go_retLOH (h : EvLOH te σ H A) (k : ∀ a ps H', Ex H H' → H a = none → (∀ p ∈ ps, H p = none) → LO H' a ps A → D.rt (.ref a) H') : Go (tSeq (tRet te) tz) D σ H := fun H1 e1 =>
  h H1 e1 _ fun a ps H2 e2 n m l => k a ps H2 (e1.trans e2) (fresh_back e1 n) (fun p hp => fresh_back e1 (m p hp)) l
theorem go_asgLOH (h : EvLOH te σ H A) (k : ∀ a ps H', Ex H H' → H a = none → (∀ p ∈ ps, H p = none) → LO H' a ps A → Go tz D (σ.set i (some (.ref a))) H') : Go (tSeq (tAsg te (gName i)) tz) D σ H := fun H1 e1 =>
  h H1 e1 _ fun a ps H2 e2 n m l => k a ps H2 (e1.trans e2) (fresh_back e1 n) (fun p hp => fresh_back e1 (m p hp)) l H2 (Ex.refl _)
/-- as data -/
theorem LO.asD (L : LO H2 a ps A) (s : Ex Hd H) (e : Ex H H2) (na : H a = none) (np : ∀ p ∈ ps, H p = none) : ∃ Hn, Gr Hd H Hn H2 ∧ Dp K Hn (.ref a) (agesD A) := by
  obtain ⟨Hn, e1, e2, e3, e4⟩ := L.data (K := K) (s.trans e) (fresh_back s na) fun p hp => fresh_back s (np p hp)
  refine ⟨Hn, ⟨e, e1, e2, fun x o hx hd => ?_⟩, e3⟩
  rw [e4 x (ne_of_none hx na) fun hm => by rw [np x hm] at hx; cases hx]
  exact hd
theorem ed_loh (s : Ex Hd H) (h : EvLOH te σ H A) : EvDH K te σ Hd H (agesD A) := fun H1 e1 Q q =>
  h H1 e1 _ fun a ps H2 e2 n m L => by
    obtain ⟨Hn, g, hd⟩ := L.asD (K := K) (s.trans e1) e2 n m
    exact q _ H2 Hn g hd
end
end Cot

set_option Elab.async false
set_option linter.all false
set_option maxRecDepth 100000
set_option maxHeartbeats 4000000
/-! d[k] += e of a dict with nested keys; triples of two squares and a number: walked, sorted; abs. -/
namespace Cot
open PySem PySem.Spec PyProof.Rows L2 Evl
section
variable {X : Cx} {K : PySem.W.Frag} {P : Program} {w : World}
def rMGetV (K : PySem.W.Frag) (P : Program) (w : World) : V → V → Hp → VK → Prop := fun o i H Q => ∃ a m b k v, o = .ref a ∧ i = .ref b ∧ MiR K P w H a m ∧ KeyM K H b k ∧ valM m k = some v ∧ Q v H
def rMSetV (K : PySem.W.Frag) (P : Program) (w : World) : TSet := fun o i z H Q => ∃ a m b k, o = .ref a ∧ i = .ref b ∧ MiAt K P w H a m ∧ KeyM K H b k ∧ m.length < sizeLine ∧ Q (upd H a (DicM P w a (putM m k b z)))
theorem pget_m (h1 : X.K = K) (h2 : X.prog = P) (h3 : X.w = w) (hu : X.A.units + 65 < cLine) : PGet X (rMGetV K P w) := by
  subst h1 h2 h3
  intro pins s σ H o i ov iv Q I r1 r2 h
  obtain ⟨a, m, b, k, v, rfl, rfl, d, hb, hv, q⟩ := h
  obtain rfl : ov = Value.ref a := r1
  obtain rfl : iv = Value.ref b := r2
  exact mdic_get hu I d hb hv fun w' s' I' rw' => ⟨v, H, I', rw', q⟩
theorem pset_m (h1 : X.K = K) (h2 : X.prog = P) (h3 : X.w = w) (hu : X.A.units + 65 < cLine) : PSet X (rMSetV K P w) := by
  subst h1 h2 h3
  intro pins s σ H o i v ov iv u Q I r1 r2 r3 h
  obtain ⟨a, m, b, k, rfl, rfl, d, hb, hl, q⟩ := h
  obtain rfl : ov = Value.ref a := r1
  obtain rfl : iv = Value.ref b := r2
  exact mdic_put hu I d hb hl r3 fun s' I' => ⟨_, I', q⟩
variable {a : Addr} {m : Mkv} {k : NestedKey} {H Hd : Hp} {σ : L2.St} {td ty tv : TE} {D : Ends} {tz : TS} {x y : Int}
/-- d[k] += e, of a key that is there -/
theorem go_maug (ko : KOk k) (s : Ex Hd H) (hd : Ev td σ H (.ref a)) (hk : EvD K ty σ Hd k.data) (hv : Ev tv σ H (.int y)) (d : MiAt K P w H a m) (hx : valM m k = some (.int x)) (hl : m.length < 100000)
    (kk : ∀ b H' Hn, Gr Hd H Hn H' → KeyM K Hn b k → Go tz D σ (upd H' a (DicM P w a (putM m k b (.int (x + y)))))) : Go (tSeq (tAugS td ty tv (rMGetV K P w) (ipI fun i j => i + j) (rMSetV K P w)) tz) D σ H := fun H1 e1 =>
  hd H1 e1 _ fun H2 e2 => hk H2 ((s.trans e1).trans e2) _ fun u H3 Hn g hu => by
    obtain ⟨b, rfl, hb⟩ := dp_keyM hu ko
    have e3 := (e1.trans e2).trans g.ex
    refine ⟨a, m, b, k, .int x, rfl, rfl, (d.mono e3).r, keyM_mono g.sub hb, hx, hv H3 e3 _ fun H4 e4 => ⟨x, y, rfl, rfl, a, m, b, k, rfl, rfl, d.mono (e3.trans e4), keyM_mono (g.sub.trans e4) hb, sz_lt hl, ?_⟩⟩
    exact kk b H4 Hn ((g.pre (e1.trans e2)).post e4) hb _ (Ex.refl _)
end
/-! ### triples -/
abbrev Key3 := Key2 × Int
def ltK3 (p q : Key3) : Bool := if p.1 = q.1 then decide (p.2 < q.2) else ltK p.1 q.1
theorem ltK3_tot (p q : Key3) : ltK3 p q = true ∨ p = q ∨ ltK3 q p = true := by
  unfold ltK3
  by_cases e : p.1 = q.1
  · rw [if_pos e, if_pos e.symm]
    rcases Int.lt_trichotomy p.2 q.2 with h | h | h
    · exact .inl (decide_eq_true h)
    · exact .inr (.inl (Prod.ext e h))
    · exact .inr (.inr (decide_eq_true h))
  · rw [if_neg e, if_neg fun z => e z.symm]
    rcases ltK_tot p.1 q.1 with h | h | h
    · exact .inl h
    · exact absurd h e
    · exact .inr (.inr h)
theorem ltK3_irr (p : Key3) : ltK3 p p = false := by
  unfold ltK3
  rw [if_pos rfl]
  simp
theorem ltK3_tr {p q r : Key3} (h1 : ltK3 p q = true) (h2 : ltK3 q r = true) : ltK3 p r = true := by
  unfold ltK3 at h1 h2 ⊢
  by_cases e1 : p.1 = q.1
  · by_cases e2 : q.1 = r.1
    · rw [if_pos e1, decide_eq_true_eq] at h1
      rw [if_pos e2, decide_eq_true_eq] at h2
      rw [if_pos (e1.trans e2), decide_eq_true_eq]
      omega
    · rw [if_neg e2] at h2
      rw [if_neg (by rw [e1]; exact e2), e1]
      exact h2
  · rw [if_neg e1] at h1
    by_cases e2 : q.1 = r.1
    · rw [if_neg (by rw [← e2]; exact e1), ← e2]
      exact h1
    · rw [if_neg e2] at h2
      have h3 := ltK_tr h1 h2
      rw [if_neg fun z => by rw [z, ltK_irr] at h3; cases h3]
      exact h3
theorem ltK3_as {p q : Key3} (h : ltK3 p q = true) : ltK3 q p = false := by
  cases e : ltK3 q p with
  | false => rfl
  | true =>
    have h2 := ltK3_tr h e
    rw [ltK3_irr] at h2
    cases h2
theorem ltK3_swo {α : Type} (k : α → Key3) : SrtO.Swo fun x y => ltK3 (k x) (k y) := by
  refine ⟨fun x y h => ltK3_as h, fun x y z h1 h2 => ?_⟩
  cases e : ltK3 (k z) (k x) with
  | false => rfl
  | true =>
    rcases ltK3_tot (k z) (k y) with h | h | h
    · rw [h2] at h; cases h
    · rw [h] at e; rw [e] at h1; cases h1
    · have := ltK3_tr h e
      rw [h1] at this
      cases this
def sortT (l : List Key3) : List Key3 := l.mergeSort fun p q => !ltK3 q p
def leT (p q : Key3) : Prop := ltK3 q p = false
theorem sortT_perm (l : List Key3) : (sortT l).Perm l := List.mergeSort_perm _ _
theorem leT_tr {a b c : Key3} (h1 : leT a b) (h2 : leT b c) : leT a c := by
  unfold leT at *
  cases e : ltK3 c a with
  | false => rfl
  | true =>
    rcases ltK3_tot a b with h | h | h
    · have := ltK3_tr e h
      rw [h2] at this
      cases this
    · rw [h] at e
      rw [e] at h2
      cases h2
    · rw [h1] at h
      cases h
theorem sortT_sorted (l : List Key3) : (sortT l).Pairwise leT := by
  have h := List.pairwise_mergeSort (le := fun (p q : Key3) => !ltK3 q p) (fun a b c h1 h2 => by
    have a1 : leT a b := by simpa [leT] using h1
    have a2 : leT b c := by simpa [leT] using h2
    have a3 : leT a c := leT_tr a1 a2
    simpa [leT] using a3) (fun a b => by
    rcases ltK3_tot a b with h | h | h
    · simp [ltK3_as h]
    · subst h
      simp [ltK3_irr]
    · simp [ltK3_as h]) l
  refine List.Pairwise.imp (fun {a b} h => ?_) h
  simpa [leT] using h
theorem leT_anti {a b : Key3} (h1 : leT a b) (h2 : leT b a) : a = b := by
  unfold leT at *
  rcases ltK3_tot a b with h | h | h
  · rw [h2] at h; cases h
  · exact h
  · rw [h1] at h; cases h
theorem sortT_uniq {l l' : List Key3} (hp : l'.Perm l) (hs : l'.Pairwise leT) : l' = sortT l :=
  List.Perm.eq_of_pairwise (le := leT) (fun a b _ _ h1 h2 => leT_anti h1 h2) hs (sortT_sorted l) (hp.trans (sortT_perm l).symm)
theorem sortT_id {l : List Key3} (hs : l.Pairwise leT) : sortT l = l := (sortT_uniq (List.Perm.refl l) hs).symm
def thirdOf (h : Heap) (v : Value) : Int := match v with
  | .ref a => match h.get? a with
    | some o => match o.data with
      | .seq xs _ => match xs.getD 2 .none with
        | .int i _ => i
        | _ => 0
      | _ => 0
    | none => 0
  | _ => 0
def keyT (h : Heap) (v : Value) : Key3 := (keyOf h v, thirdOf h v)
def IsP3 (P : Program) (w : World) (h : Heap) (v : Value) (k : Key3) : Prop := ∃ a o x y n t, v = .ref a ∧ h.get? a = some o ∧ o.cls = .type "tuple" ∧ o.data = .seq #[.ref x, .ref y, .int k.2 t] n ∧ IsT P w h k.1.1 x ∧ IsT P w h k.1.2 y
section
variable {P : Program} {w : World} {A : Around} {E : Value → Shared → Prop} {s : Shared} {h h' : Heap} {v u : Value} {k k' : Key3}
theorem IsP3.key (p : IsP3 P w h v k) : keyT h v = k := by
  obtain ⟨a, o, x, y, n, t, rfl, ho, hc, hd, hx, hy⟩ := p
  have e : firstOf h (.ref a) = (.ref x, .ref y) := by
    unfold firstOf
    simp only [ho, hd]
    rfl
  have e3 : thirdOf h (.ref a) = k.2 := by
    unfold thirdOf
    simp only [ho, hd]
    rfl
  unfold keyT keyOf
  rw [e, e3]
  exact Prod.ext (Prod.ext (tupInts_of hx).ints (tupInts_of hy).ints) rfl
theorem IsP3.keeps (p : IsP3 P w h v k) (kp : ∀ b o, h.get? b = some o → o.cls = .type "tuple" → h'.get? b = some o) : IsP3 P w h' v k := by
  obtain ⟨a, o, x, y, n, t, e, ho, hc, hd, hx, hy⟩ := p
  exact ⟨a, o, x, y, n, t, e, kp a o ho hc, hc, hd, isT_tups hx kp, isT_tups hy kp⟩
theorem p3_cmp {vs : List Value} (hu : A.units < cLine) (hp : ∀ v ∈ vs, ∃ k, IsP3 P w s.heap v k) (κ : Value → Key3) (hκ : ∀ v ∈ vs, ∀ k, IsP3 P w s.heap v k → κ v = k) : SrtO.Cmp P w A s (tuples' false) (fun p => p.1 ∈ vs) (SrtO.lt2 fun v u => ltK3 (κ v) (κ u)) := by
  intro p q hm hm'
  obtain ⟨k, h1⟩ := hp _ hm
  obtain ⟨k', h2⟩ := hp _ hm'
  show wpAny (model P w) A (keyLt' (tuples' false) p.1 q.1) (fun r s' => s' = s ∧ r = ltK3 (κ p.1) (κ q.1)) (fun _ _ => False) s
  rw [hκ _ hm k h1, hκ _ hm' k' h2]
  obtain ⟨a, o, x, y, n, t, e, ho, hc, hd, hx, hy⟩ := h1
  obtain ⟨a', o', x', y', n', t', e', ho', hc', hd', hx', hy'⟩ := h2
  rw [e, e']
  refine PySem.W.kat_lt ho hd ho' hd' ?_
  show PySem.W.KatLex P w A false (decide (3 < 3)) _ [(.ref x, .ref x'), (.ref y, .ref y'), (.int k.2 t, .int k'.2 t')] 0 s
  refine PySem.W.kat_cons (wpAny_eqBool_tuple hu hx hx' ?_)
  unfold ltK3 ltK
  refine PySem.W.kat_go (fun e1 => ?_) (fun e1 => ?_)
  · have ex := of_decide_eq_true e1
    refine PySem.W.kat_yes (PySem.W.kat_cons (wpAny_eqBool_tuple hu hy hy' ?_))
    refine PySem.W.kat_go (fun e2 => ?_) (fun e2 => ?_)
    · have ey := of_decide_eq_true e2
      rw [if_pos (Prod.ext ex ey)]
      refine PySem.W.kat_yes (PySem.W.kat_cons (wpAny_eqBool_int ?_))
      refine PySem.W.kat_go (fun e3 => ?_) (fun e3 => ?_)
      · have ez : k.2 = k'.2 := by simpa using e3
        refine PySem.W.kat_yes (PySem.W.kat_nil ⟨rfl, ?_⟩)
        rw [ez]
        simp
      · exact PySem.W.kat_no (PySem.W.kat_one _ _ (PyProof.Rows.lt_int (show s = s ∧ decide (k.2 < k'.2) = decide (k.2 < k'.2) from ⟨rfl, rfl⟩)))
    · have ey := of_decide_eq_false e2
      rw [if_neg fun z => ey (congrArg Prod.snd z), if_pos ex]
      exact PySem.W.kat_no (PySem.W.kat_one _ _ (lt_T hy hy' hu (show s = s ∧ HT.lexLt k.1.2 k'.1.2 = HT.lexLt k.1.2 k'.1.2 from ⟨rfl, rfl⟩)))
  · have ex := of_decide_eq_false e1
    rw [if_neg fun z => ex (congrArg Prod.fst z), if_neg ex]
    exact PySem.W.kat_no (PySem.W.kat_one _ _ (lt_T hx hx' hu (show s = s ∧ HT.lexLt k.1.1 k'.1.1 = HT.lexLt k.1.1 k'.1.1 from ⟨rfl, rfl⟩)))
theorem p3_firsts : ∀ {vs : List Value}, (∀ v ∈ vs, ∃ k, IsP3 P w h v k) → ∃ fs : List Value, PySem.W.KatTups h vs fs ∧ fs.length = vs.length ∧ ∀ f ∈ fs, ∃ x k, f = Value.ref x ∧ IsT P w h k x
  | [], _ => ⟨[], PySem.W.KatTups.nil, rfl, fun _ h => (by cases h)⟩
  | v :: vs, hp => by
    obtain ⟨fs, h1, h2, h3⟩ := p3_firsts fun v hv => hp v (List.mem_cons_of_mem _ hv)
    obtain ⟨k, a, o, x, y, n, t, rfl, ho, hc, hd, hx, hy⟩ := hp v List.mem_cons_self
    refine ⟨.ref x :: fs, PySem.W.KatTups.cons ho hc hd rfl h1, by rw [List.length_cons, h2, List.length_cons], fun f hf => ?_⟩
    rcases List.mem_cons.mp hf with rfl | hf
    · exact ⟨x, k.1.1, rfl, hx⟩
    · exact h3 f hf
theorem sorted_p3 {l : Addr} {vs : List Value} {Q : Value → Shared → Prop} (hu : A.units + 3 < cLine) (hl : s.heap.IsList l vs.toArray) (hz : vs.length ≤ sizeLine) (hp : ∀ v ∈ vs, ∃ k, IsP3 P w s.heap v k)
    (q : ∀ (h' : Heap) (d : Addr) (out : List Value), SrtO.Srtd (fun v u => ltK3 (keyT s.heap v) (keyT s.heap u)) out → SrtO.Stb (fun v u => ltK3 (keyT s.heap v) (keyT s.heap u)) out vs → (∀ b o, s.heap.get? b = some o → h'.get? b = some o) → s.heap.objs.size ≤ d → (∃ n, h'.get? d = some (seqObj "list" out.toArray n)) → Q (.ref d) { s with heap := h' }) :
    wpAny (model P w) A (call (.builtin "sorted") [.ref l]) Q E s := by
  refine SrtO.sorted_ord (ltK3_swo (keyT s.heap)) hl hz (fun h2 h₁ a ha kk => ?_) fun out hs hb => q _ _ out hs hb (fun b o e => sortedAll_old e) (Nat.le_succ _) (sortedAll_at s.heap vs out.toArray)
  intro h' keep
  have kp : ∀ b o, s.heap.get? b = some o → o.cls = .type "tuple" → h'.get? b = some o := fun b o e c => keep b o (kk b o e).1 (kk b o e).2
  have hp' : ∀ v ∈ vs, ∃ k, IsP3 P w h' v k := fun v hm => by
    obtain ⟨k, z⟩ := hp v hm
    exact ⟨k, z.keeps kp⟩
  obtain ⟨fs, f1, f2, f3⟩ := p3_firsts hp'
  refine ⟨tuples' false, fun Q E hq => ?_, p3_cmp (s := { s with heap := h' }) (by show A.units + 2 < cLine; omega) hp' (keyT s.heap) fun v hm k z => ?_⟩
  · refine PySem.W.kat_kind (T := .type "tuple") f1 (by omega) (fun f hm => ?_) (by rfl) ?_
    · obtain ⟨x, k, rfl, hx⟩ := f3 f hm
      obtain ⟨o, items, n, ho, hc, _⟩ := hx
      have z : PySem.W.Looks (model P w) h' (typeOf (.ref x)) o.cls := (PySem.W.Looks.ld ho).andThen .now
      rw [hc] at z
      exact z
    · have e : (Value.type "tuple" != Value.type "tuple") = false := by first | decide +kernel | rfl | decide
      rw [e]
      exact hq
  · obtain ⟨k2, z2⟩ := hp v hm
    rw [z2.key, ← z.key, (z2.keeps kp).key]
end
abbrev triK (k : Key3) : PyData := .tuple [keyD k.1.1, keyD k.1.2, .int k.2]
section
variable {X : Cx} {pins : List (Addr × Obj)} {σ : L2.St} {H Hd : Hp} {s : Shared}
theorem dp_tri {x : V} {u : Value} {k : Key3} (I : Inv X pins σ H s) (hd : Dp X.K H x (triK k)) (r : RelV x u) : ∃ t, u = .ref t ∧ x = .ref t ∧ IsP3 X.prog X.w s.heap u k := by
  cases hd with
  | @tup p ys ds hs hall =>
    cases hall with
    | cons g1 g2 =>
      cases g2 with
      | cons g2 g3 =>
        cases g3 with
        | cons g3 g4 =>
          cases g4
          cases g3
          obtain ⟨x1, rfl, q1⟩ := dp_key g1
          obtain ⟨x2, rfl, q2⟩ := dp_key g2
          obtain ⟨its, rv, ⟨o, ho, hc, n, hd⟩, _⟩ := I.tuple hs
          cases r
          cases rv with
          | cons ra rb =>
            cases rb with
            | cons rb rc =>
              cases rc with
              | cons rc rd =>
                cases rd
                cases ra
                cases rb
                obtain ⟨t, rfl⟩ := rc
                exact ⟨p, rfl, rfl, p, o, x1, x2, n, t, rfl, ho, hc, hd, I.isT q1, I.isT q2⟩
theorem vals_tris (I : Inv X pins σ H s) (sx : Ex Hd H) : ∀ {xs : List V} {its : List Value} {ks : List Key3}, Vals xs its → DpAll X.K Hd xs (ks.map triK) →
    its.map (keyT s.heap) = ks ∧ ∀ u ∈ its, ∃ t, u = .ref t ∧ Dp X.K Hd (.ref t) (triK (keyT s.heap u)) ∧ IsP3 X.prog X.w s.heap u (keyT s.heap u)
  | _, _, [], r, h => by
    cases h
    cases r
    exact ⟨rfl, fun _ h => by cases h⟩
  | _, _, k :: ks, r, h => by
    cases h with
    | cons h1 h2 =>
      cases r with
      | cons r1 r2 =>
        obtain ⟨e, ih⟩ := vals_tris I sx r2 h2
        obtain ⟨t, rfl, rfl, p3⟩ := dp_tri I (dp_mono sx _ h1) r1
        have ek := p3.key
        refine ⟨by rw [List.map_cons, ek, e], fun u hu => ?_⟩
        rcases List.mem_cons.mp hu with rfl | hu
        · exact ⟨t, rfl, by rw [ek]; exact h1, by rw [ek]; exact p3⟩
        · exact ih u hu
theorem back_tri {out : List Value} {h : Heap} (hx : ∀ u ∈ out, ∃ t, u = .ref t ∧ Dp X.K Hd (.ref t) (triK (keyT h u))) : DpAll X.K Hd (out.map backV) ((out.map (keyT h)).map triK) := by
  induction out with
  | nil => exact .nil
  | cons u out ih =>
    obtain ⟨t, rfl, hd⟩ := hx u List.mem_cons_self
    exact .cons hd (ih fun u hu => hx u (List.mem_cons_of_mem _ hu))
def rSortT (K : PySem.W.Frag) : List V → Hp → VK → Prop := fun vs H Q => ∃ Hd a xs ks, Ex Hd H ∧ vs = [V.ref a] ∧ SqL K H a xs ∧ DpAll K Hd xs (ks.map triK) ∧ ∀ ys p, DpAll K Hd ys ((sortT ks).map triK) → H p = none → Q (.ref p) (upd H p (.lst ys))
theorem call_sortT {K : PySem.W.Frag} (eK : X.K = K) (hu : X.A.units + 64 < cLine) : CallR X (.builtin "sorted") (rSortT K) := by
  subst eK
  intro pins s σ H vs us Q I r h
  obtain ⟨Hd, a, xs, ks, sx, rfl, hs, hx, q⟩ := h
  obtain ⟨its, rv, hl, hz⟩ := I.list hs
  obtain ⟨u, rfl, ru⟩ := vals1 r
  obtain rfl : u = Value.ref a := ru
  obtain ⟨e1, e2⟩ := vals_tris I sx rv hx
  refine sorted_p3 (by omega) hl.isList (by rw [← rv.length]; exact hz) (fun v hv => (e2 v hv).elim fun _ h => ⟨_, h.2.2⟩) fun h' d out h1 h2 kp hd hn => ?_
  have h3 : ∀ u ∈ out, ∃ a, u = Value.ref a := fun u hu => (e2 u (h2.perm.mem_iff.mp hu)).elim fun t h => ⟨t, h.1⟩
  obtain ⟨n, hn⟩ := hn
  have hp : (out.map (keyT s.heap)).Perm ks := by
    rw [← e1]
    exact h2.perm.map _
  have eq : out.map (keyT s.heap) = sortT ks := sortT_uniq hp (by
    rw [List.pairwise_map]
    exact h1)
  refine ⟨.ref d, upd H d (.lst (out.map backV)), I.laid (t' := s.toks) kp hd ⟨?_, out, n, vals_back h3, hn⟩, rfl, q _ d ?_ (I.hok.fresh hd)⟩
  · rw [List.length_map, h2.perm.length_eq, ← rv.length]
    exact hz
  · rw [← eq]
    exact back_tri fun u hu => (e2 u (h2.perm.mem_iff.mp hu)).elim fun t h => ⟨t, h.1, h.2.1⟩
end
section
variable {K : PySem.W.Frag} {H Hd : Hp} {σ : L2.St} {te ta : TE} {ks : List Key3} {i : Int}
theorem en_sortT (h : EvD K te σ Hd (.list (ks.map triK))) : EvN K (tCB (rSortT K) (tCons te tNil)) σ Hd ((sortT ks).map triK) := fun H s Q q =>
  h H s _ fun v H2 Hn g hv => by
    cases hv with
    | @lst a xs ds hs hall => exact ⟨Hn, a, xs, ks, g.sub, rfl, ex_l g.sub hs, hall, fun ys p hy hp => q p _ _ Hn (g.trans (Gr.alloc g.sub hp)) (fresh_back g.ex hp) (fresh_back g.sub hp) upd_same hy⟩
theorem ev_abs (h : Ev ta σ H (.int i)) : Ev (tCB (fun xs H Q => ∃ i, xs = [.int i] ∧ Q (.int (if i < 0 then -i else i)) H) (tCons ta tNil)) σ H (.int (if i < 0 then -i else i)) := fun H1 e Q q => h H1 e _ fun H2 e2 => ⟨i, rfl, q H2 e2⟩
/-- a triple of two data that stand and a number -/
theorem edh_tup3 {Hn : Hp} {t1 t2 t3 : TE} {v1 v2 : V} {d1 d2 : PyData} {n : Int} (s : Ex Hn H) (h1 : Ev t1 σ H v1) (a1 : Dp K Hn v1 d1) (h2 : Ev t2 σ H v2) (a2 : Dp K Hn v2 d2) (h3 : Ev t3 σ H (.int n)) : EvDH K (tTup (tCons t1 (tCons t2 (tCons t3 tNil)))) σ Hn H (.tuple [d1, d2, .int n]) := fun H1 e1 Q q =>
  h1 H1 e1 _ fun H2 e2 => h2 H2 (e1.trans e2) _ fun H3 e3 => h3 H3 ((e1.trans e2).trans e3) _ fun H4 e4 => ⟨sz_of (by simp), fun p hp => by
    have sx : Ex Hn H4 := s.trans (((e1.trans e2).trans e3).trans e4)
    refine q (.ref p) _ (upd Hn p (.tup [v1, v2, .int n])) (Gr.pre ((e2.trans e3).trans e4) (Gr.new sx hp)) (.tup (st_of upd_same) ?_)
    have en : Ex Hn (upd Hn p (.tup [v1, v2, .int n])) := Ex.new (fresh_back sx hp)
    exact .cons (dp_mono en _ a1) (.cons (dp_mono en _ a2) (.cons (.int n) .nil))⟩
end
end Cot

set_option Elab.async false
set_option linter.all false
set_option maxRecDepth 100000
set_option maxHeartbeats 4000000
/-! Lists of two unpacked; zip of a list of pairs and a list; a list's item set, the place drawn. -/
namespace Cot
open PySem PySem.Spec PyProof.Rows L2 Evl RZ
section
variable {K : PySem.W.Frag} {b : Bid} {l : Addr} {H H' Hd Hn H1 H2 : Hp} {σ : L2.St} {ta tb te tl : TE} {tr : TA} {j j2 j3 n : Nat} {ds es : List PyData} {xs : List V} {D : Ends} {tz : TS}
abbrev gl2 (K : PySem.W.Frag) (j j2 : Nat) : TG := gLst K 2 (gCons (gName j) (gCons (gName j2) gNil))
theorem ei_lists2 {f f2 : Nat → Option PyData} (h : EvD K tl σ Hd (.list ds)) (hp : ∀ i d, ds[i]? = some d → ∃ d1 d2, d = .list [d1, d2] ∧ f i = some d1 ∧ f2 i = some d2) : EvI K (iList K tl) (gl2 K j j2) σ Hd ds.length (SPair K j j2 f f2) := fun H s R r =>
  h H s _ fun v H2 Hn g hd => by
    cases hd with
    | @lst a xs ds hs hall =>
      refine ⟨a, rfl, ⟨xs, ex_l g.sub hs⟩, r _ H2 Hn _ _ g (by rw [← dpa_len hall]; exact walk_list) (fun H' e => ex_l e hs) fun i x H' H'' σ' k hi e y q => ?_⟩
      obtain ⟨rfl, hx⟩ := y
      obtain ⟨d, h1, h2⟩ := dpa_get2 hall hx
      obtain ⟨d1, d2, rfl, q1, q2⟩ := hp i d h1
      cases h2 with
      | @lst T ys es ht hal =>
        cases hal with
        | cons p1 p2 =>
          cases p2 with
          | cons p2 p3 =>
            cases p3
            exact ⟨T, _, rfl, ex_l e ht, rfl, _, _, rfl, _, [], rfl, rfl, q _ _ (Ex.refl _) ⟨_, _, d1, d2, q1, q2, p1, p2, rfl⟩⟩
def SNest (K : PySem.W.Frag) (j j2 j3 : Nat) (f f2 f3 : Nat → Option PyData) (i : Nat) (σ' σ2 : L2.St) (Hn : Hp) : Prop := ∃ v v2 v3 d d2 d3, f i = some d ∧ f2 i = some d2 ∧ f3 i = some d3 ∧ Dp K Hn v d ∧ Dp K Hn v2 d2 ∧ Dp K Hn v3 d3 ∧ σ2 = ((σ'.set j (some v)).set j2 (some v2)).set j3 (some v3)
/-- for (x, y), z in zip(pairs, things) -/
theorem ei_zipN {f f2 : Nat → Option PyData} (h : EvDA K tr σ Hd [.list ds, .list es]) (hl : ds.length = es.length) (hp : ∀ i d, ds[i]? = some d → ∃ d1 d2, d = .tuple [d1, d2] ∧ f i = some d1 ∧ f2 i = some d2) :
    EvI K (iZipA K tr) (gTup K 2 (gCons (gTup K 2 (gCons (gName j) (gCons (gName j2) gNil))) (gCons (gName j3) gNil))) σ Hd ds.length (SNest K j j2 j3 f f2 (fun i => es[i]?)) := fun H s R r =>
  h H s _ fun vs H2 Hn g hd => by
    cases hd with
    | cons h1 h2 =>
      cases h2 with
      | cons h2 h3 =>
        cases h3
        cases h1 with
        | @lst a xs ds hs hall =>
          cases h2 with
          | @lst b ys es hs2 hall2 =>
            refine ⟨a, b, xs, ys, rfl, Or.inl ⟨ex_l g.sub hs, ex_l g.sub hs2, r _ H2 Hn _ _ g (walk_zip (xs := xs) (ys := ys) (by rw [dpa_len hall, dpa_len hall2]; omega)) (fun H' e => ⟨ex_l e hs, ex_l e hs2⟩) fun i x H' H'' σ' k hi e y q => ?_⟩⟩
            obtain ⟨T, x1, x2, rfl, hT, rfl, z1, z2⟩ := y
            obtain ⟨d, w1, w2⟩ := dpa_get2 hall z1
            obtain ⟨d3, w3, w4⟩ := dpa_get2 hall2 z2
            obtain ⟨d1, d2, rfl, q1, q2⟩ := hp i d w1
            cases w2 with
            | @tup T2 us ds' ht hal =>
              cases hal with
              | cons p1 p2 =>
                cases p2 with
                | cons p2 p3 =>
                  cases p3
                  have eT : Ex H' (upd H' T (.tup [.ref T2, x2])) := Ex.new hT
                  exact ⟨T, [.ref T2, x2], rfl, st_of upd_same, rfl, .ref T2, [x2], rfl, T2, _, rfl, ex_t (e.trans eT) ht, rfl, _, _, rfl, _, [], rfl, rfl, x2, [], rfl, rfl, q _ _ eT ⟨_, _, x2, d1, d2, d3, q1, q2, w3, p1, p2, w4, rfl⟩⟩
/-- l[e] = e', both drawn -/
theorem go_setBB {Pd : PyData → Prop} (hb : Hd b.b = none) (s : Ex Hd H) (B : Bx H b) (hl : H l = some (.lst xs)) (nl : l ≠ b.b) (h : EvB K b te σ Hd Pd) (ho : ∀ H', Ev ta σ H' (.ref l)) (hi : ∀ Hm, Ex Hd Hm → EvB K b tb σ Hm (isI fun z => 0 ≤ z ∧ z < (xs.length : Int)))
    (k : ∀ v j H' Hn d, GrB b Hd H Hn H' → Dp K Hn v d → Pd d → j < xs.length → Go tz D σ (upd H' l (.lst (xs.set j v)))) : Go (tSeq (tAsg te (gSub ta tb L2.rSetL)) tz) D σ H := fun H1 e1 =>
  h hb H1 (s.trans e1) (B.mono e1) _ fun v H2 Hn d g hd hp => ho H2 H2 (Ex.refl _) _ fun H3 e3 => by
    have g' := (g.pre e1).post e3
    refine hi Hn g.dx (g'.bn hb B) H3 g'.sub g'.bx _ fun v4 H4 D4 d4 g4 hd4 hp4 => ?_
    obtain ⟨z, rfl, z0, z1⟩ := hp4
    cases hd4
    obtain ⟨j, rfl⟩ := Int.eq_ofNat_of_zero_le z0
    have hj : j < xs.length := by omega
    have G := g'.trans g4 hb B
    refine ⟨l, xs, (j : Int), j, rfl, rfl, G.exb _ _ nl hl, ?_, k v j H4 D4 d G (dp_mono g4.dx _ hd) hp hj _ (Ex.refl _)⟩
    unfold ixN
    simp
    omega
end
end Cot

set_option Elab.async false
set_option linter.all false
set_option maxRecDepth 100000
set_option maxHeartbeats 4000000
/-! A local name made a dict by a comprehension of two clauses. -/
namespace Cot
open PySem PySem.Spec PyProof.Rows L2 Evl
section
variable {X : Cx}
theorem nc2_core {pins : List (Addr × Obj)} {s : Shared} {σ : L2.St} {H : Hp} {Q : VK} {kx vx t0 i0 t1 i1 : Expr} {fs0 fs1 : List Expr} {sc : Scope} {own : List (Str × Nat)} {vs1 : List Nat} {pos pos' : Pos} {wi wi1 : TI} {g g1 : TG} {tt tt1 : TT} {tk tv : TE} {use : Option (Value → Sem Unit)} {Qf : Value → Shared → Prop} (hu : X.A.units < cLine) (hc : X.calm = true) (hN : X.N.Nodup) (I : Inv X pins σ H s)
    (hi : PI X t0 i0 wi) (ok : BlkOk X.N X.env.scope sc own) (hv : ∀ i ∈ vs1, i ∈ own.map (·.2)) (hg : Blk X sc fun Y => PG Y t0 g) (ht : Blk X sc fun Y => PTs Y fs0 tt) (hi1 : Blk X sc fun Y => PI Y t1 i1 wi1) (hg1 : Blk X sc fun Y => PG Y t1 g1) (ht1 : Blk X sc fun Y => PTs Y fs1 tt1)
    (hk : Blk X sc fun Y => PE Y kx tk) (he : Blk X sc fun Y => PE Y vx tv) (hs : ∀ x, foldedSetIterable i0 X.env x = pure x) (hs1 : ∀ env x, foldedSetIterable i1 env x = pure x) (h : tNc2 X.K X.prog X.w wi g tt wi1 g1 tt1 tk tv (own.map (·.2)) vs1 σ H Q)
    (hRR : ∀ D C s' m H', Inv X pins σ H' s' → Q (.ref D) H' → s'.heap.Ns C m → FpOk X pins H' C → compPost (model X.prog X.w) X.A X.xe use Qf (.ref D) C (.ok .next) s') :
    wpAny (model X.prog X.w) X.A (comprehension (dc2 kx vx t0 i0 fs0 t1 i1 fs1 sc pos) sc X.env pos' newDict false (eval i0 X.env) use) Qf X.xe s := by
  have cells : ∀ y ∈ sc.names, y.2 = .free → ∃ c, X.env.cells.lookup y.1 = some c := fun y hy e => (ok.free y hy e).elim (fun k => I.ok.has _ (.inl k)) fun k => I.ok.has _ (.inr k)
  refine wpAny_comprehension_free (use := use) rfl hs (closure_ok cells) ok.kind (fun y hy e => by rw [ok.uniq y hy, e]) (thn (hi.run pins s σ H _ I h) fun xv s1 hx => thn hx fun itv s2 h2 => ?_)
  obtain ⟨it, fp, tn, J, H2, e, I2, T, st2, f2, q⟩ := h2
  subst e
  refine wpAny_newObj_type (newEnv_comp ?_)
  generalize hD : s2.heap.objs.size = D
  obtain ⟨W, ⟨m0, w0⟩, turn⟩ := q D (I2.hok.fresh (Nat.le_of_eq hD))
  generalize hs3 : ({ s2 with heap := s2.heap.push { cls := .type "dict", data := .dict #[] } } : Shared) = s3
  have h3 : s3.heap = s2.heap.push { cls := .type "dict", data := .dict #[] } := by rw [← hs3]
  have I3 : Inv X pins σ (upd H2 D (DicO X.prog X.w D [])) s3 := by
    rw [← hs3]
    refine I2.laid (t' := s2.toks) (fun b o e => Heap.get?_push_of_some _ e) (Nat.le_of_eq hD) ?_
    rw [← hD]
    exact dicO_ok (dic_empty I2.big)
  have f3 : ∀ b ∈ fp, FpOk X pins (upd H2 D (DicO X.prog X.w D [])) b ∧ b < s3.heap.objs.size := fun b hb => by
    obtain ⟨o, eo, _⟩ := T.obj _ _ st2 b hb
    have lt : b < s2.heap.objs.size := Heap.lt_size eo
    refine ⟨⟨?_, (f2 b hb).2⟩, by rw [h3, Heap.size_push]; exact Nat.lt_succ_of_lt lt⟩
    rw [upd_ne (by rw [← hD]; exact Nat.ne_of_lt lt)]
    exact (f2 b hb).1
  have I4 := block_start I3 ok hN f3
  have pg := hg s3 (upd H2 D (DicO X.prog X.w D [])) s3.heap.objs.size (cellsFrom (s3.heap.objs.size + 1) sc.names (cloFrom X.env.cells sc.names [])) fp
  have pt := ht s3 (upd H2 D (DicO X.prog X.w D [])) s3.heap.objs.size (cellsFrom (s3.heap.objs.size + 1) sc.names (cloFrom X.env.cells sc.names [])) fp
  have pk := hk s3 (upd H2 D (DicO X.prog X.w D [])) s3.heap.objs.size (cellsFrom (s3.heap.objs.size + 1) sc.names (cloFrom X.env.cells sc.names [])) fp
  have pv := he s3 (upd H2 D (DicO X.prog X.w D [])) s3.heap.objs.size (cellsFrom (s3.heap.objs.size + 1) sc.names (cloFrom X.env.cells sc.names [])) fp
  have pi1 := hi1 s3 (upd H2 D (DicO X.prog X.w D [])) s3.heap.objs.size (cellsFrom (s3.heap.objs.size + 1) sc.names (cloFrom X.env.cells sc.names [])) fp
  have pg1 := hg1 s3 (upd H2 D (DicO X.prog X.w D [])) s3.heap.objs.size (cellsFrom (s3.heap.objs.size + 1) sc.names (cloFrom X.env.cells sc.names [])) fp
  have pt1 := ht1 s3 (upd H2 D (DicO X.prog X.w D [])) s3.heap.objs.size (cellsFrom (s3.heap.objs.size + 1) sc.names (cloFrom X.env.cells sc.names [])) fp
  have none3 : ∀ b ∈ fp, (upd H2 D (DicO X.prog X.w D [])) b = none := fun b hb => (f3 b hb).1.1
  show codeAny _ _ (.compStart (dc2 kx vx t0 i0 fs0 t1 i1 fs1 sc pos) 0 (.ref it) (.ref D) (compEnvC sc (cellsFrom (s3.heap.objs.size + 1) sc.names (cloFrom X.env.cells sc.names [])) s3.heap.objs.size X.env)) _ { s3 with heap := pushCells (s3.heap.push { cls := .type "dict", data := .dict #[] }) sc.names }
  generalize hce : compEnvC sc (cellsFrom (s3.heap.objs.size + 1) sc.names (cloFrom X.env.cells sc.names [])) s3.heap.objs.size X.env = ce at I4 pg pt pk pv pi1 pg1 pt1 ⊢
  have loc : ce.locals = s3.heap.objs.size := by subst hce; rfl
  generalize upd H2 D (DicO X.prog X.w D []) = H3 at I3 I4 pg pt pk pv pi1 pg1 pt1 w0 none3 f3
  generalize hs4 : ({ s3 with heap := pushCells (s3.heap.push { cls := .type "dict", data := .dict #[] }) sc.names } : Shared) = s4 at I4 ⊢
  have st4 : tn 0 s4.heap := T.keep _ _ _ st2 fun b _ o e => by
    rw [← hs4]
    refine pushCells_keeps _ _ _ _ (Heap.get?_push_of_some _ ?_)
    rw [h3]
    exact Heap.get?_push_of_some _ e
  have stat : ∀ {σ' : L2.St} {H' : Hp} {s' : Shared}, Inv (X.blk s3 H3 sc ce fp) [] σ' H' s' → (∀ b ∈ fp, H' b = none) → ∀ b ∈ fp, FpOk (X.blk s3 H3 sc ce fp) [] H' b := fun {σ' H' s'} I' hn b hb =>
    ⟨hn b hb, (I'.ok.exf b hb).1, I'.ok.exfs b hb, .inl hb, fun x c e => (I'.ok.exf b hb).2 x c e, fun p hp => (by simp at hp : False).elim⟩
  have loop : codeAny (model X.prog X.w) X.A (.compLoop (dc2 kx vx t0 i0 fs0 t1 i1 fs1 sc pos) 0 (.ref it) (.ref D) ce) (compPost (model X.prog X.w) X.A X.xe use Qf (.ref D) s3.heap.objs.size) s4 := by
    refine loop_d2o (hs1 ce) (fun n s' => ∃ i H', Inv (X.blk s3 H3 sc ce fp) [] (wipe σ (own.map (·.2))) H' s' ∧ tn i s'.heap ∧ (∀ b ∈ fp, H' b = none) ∧ W i n H') ?_ m0 ⟨0, H3, I4, st4, none3, w0⟩
    rintro n s5 ⟨i, H5, I5, st5, n5, w5⟩
    rcases turn i n H5 w5 with ⟨stop, qq⟩ | ⟨go, Nx, hNx, step⟩
    · refine thnF (T.done (X.blk s3 H3 sc ce fp) rfl rfl rfl hc i [] s5 _ H5 (fun _ _ => False) I5 (stat I5 n5) st5 stop) fun r s6 ⟨hr, I6⟩ => ?_
      subst hr
      have I7 : Inv X pins σ H5 s6 := I3.call' (ch := fp) I6.os I6.base I6.hok I6.bare fun b hb => ⟨(f3 b hb).1.2.2.2.1, (f3 b hb).1.2.1, (f3 b hb).1.2.2.2.2.1, (f3 b hb).1.2.2.2.2.2⟩
      have nC : H5 s3.heap.objs.size = none := by
        rw [← loc]
        exact I6.free
      obtain ⟨m, hn, _⟩ := I6.loc
      replace hn : s6.heap.Ns ce.locals m := hn
      rw [loc] at hn
      exact hRR D s3.heap.objs.size s6 m H5 I7 qq hn (I3.fpOk (Nat.le_refl _) nC)
    · refine thnF (T.item (X.blk s3 H3 sc ce fp) rfl rfl rfl hc i [] s5 _ H5 (fun _ _ => False) I5 (stat I5 n5) st5 go) fun r s6 ⟨u, hr, h6⟩ => ?_
      subst hr
      refine thnF h6 fun _ s7 ⟨x, H7, I7, r7, y7, st7, n7⟩ => ?_
      refine thnF (pg.run _ s7 _ H7 x u _ (I7.pinned (stat I7 n7) (T.obj _ _ st7)) r7 (step x H7 y7)) fun _ s8 ⟨σ8, H8, I8, hw8, q8⟩ => ?_
      refine thnF (pt.run _ s8 σ8 H8 _ I8 q8) fun b s9 ⟨H9, I9, q9⟩ => ?_
      have fin : ∀ {σ9 : L2.St} {s' : Shared} {H' : Hp}, Inv (X.blk s3 H3 sc ce fp) ([] ++ pinsAt fp s7.heap) σ9 H' s' → (wipe σ (own.map (·.2))).length = σ9.length → (∀ (j : Nat) v, (wipe σ (own.map (·.2)))[j]? = some (some v) → σ9[j]? = some (some v)) → Nx H' →
          ∃ m, m < n ∧ ∃ i H', Inv (X.blk s3 H3 sc ce fp) [] (wipe σ (own.map (·.2))) H' s' ∧ tn i s'.heap ∧ (∀ b ∈ fp, H' b = none) ∧ W i m H' := fun {σ9 s' H'} I' hl hkp nx => by
        obtain ⟨m', hm, w'⟩ := hNx H' nx
        have pin' : ∀ b ∈ fp, ∀ o, s7.heap.get? b = some o → s'.heap.get? b = some o ∧ H' b = none := fun b hb o e =>
          let z := I'.pin (b, o) (List.mem_append_right _ (List.mem_append_right _ (mem_pinsAt hb e)))
          ⟨z.1, z.2.1⟩
        refine ⟨m', hm, i + 1, H', (I'.unpinned (pins := [])).weak hl hkp, T.keep _ _ _ st7 fun b hb o e => (pin' b hb o e).1, fun b hb => ?_, w'⟩
        obtain ⟨o, e, _⟩ := T.obj _ _ st7 b hb
        exact (pin' b hb o e).2
      have l8 : (wipe σ (own.map (·.2))).length = σ8.length := by rw [← hw8, wipe_length]
      have k8 : ∀ (j : Nat) v, (wipe σ (own.map (·.2)))[j]? = some (some v) → σ8[j]? = some (some v) ∧ j ∉ own.map (·.2) := fun j v e => by
        rw [← hw8] at e
        exact wipe_some e
      cases b with
      | false =>
        simp only [Bool.false_eq_true, if_false] at q9 ⊢
        exact fin I9 l8 (fun j v e => (k8 j v e).1) q9
      | true =>
        simp only [if_true] at q9 ⊢
        refine thnF (pi1.run _ s9 σ8 H9 _ I9 q9) fun xv s10 hx => thnF hx fun itv s11 h11 => ?_
        obtain ⟨it1, fp1, tn1, J1, H11, e1, I11, T1, st11, f11, W1, ⟨m1, w1⟩, turn1⟩ := h11
        subst e1
        have stat1 : ∀ {H' : Hp}, (∀ b ∈ fp1, H' b = none) → ∀ b ∈ fp1, FpOk (X.blk s3 H3 sc ce fp) ([] ++ pinsAt fp s7.heap) H' b := fun hn b hb => ⟨hn b hb, (f11 b hb).2⟩
        have loop1 : codeAny (model X.prog X.w) X.A (.compLoop (dc2 kx vx t0 i0 fs0 t1 i1 fs1 sc pos) 1 (.ref it1) (.ref D) ce)
            (fun r s' => match r with
              | .ok _ => ∃ m, m < n ∧ ∃ i H', Inv (X.blk s3 H3 sc ce fp) [] (wipe σ (own.map (·.2))) H' s' ∧ tn i s'.heap ∧ (∀ b ∈ fp, H' b = none) ∧ W i m H'
              | .error _ => False) s11 := by
          refine loop_d2i (fun k s' => ∃ j H', Inv (X.blk s3 H3 sc ce fp) ([] ++ pinsAt fp s7.heap) (wipe σ8 vs1) H' s' ∧ tn1 j s'.heap ∧ (∀ b ∈ fp1, H' b = none) ∧ W1 j k H') ?_ m1 ⟨0, H11, I11.weak (wipe_length _ _) (fun j v e => (wipe_some e).1), st11, fun b hb => (f11 b hb).1, w1⟩
          rintro k s12 ⟨j, H12, I12, st12, n12, w12⟩
          rcases turn1 j k H12 w12 with ⟨stop1, nx1⟩ | ⟨go1, Nx1, hNx1, step1⟩
          · refine thnF (T1.done (X.blk s3 H3 sc ce fp) rfl rfl rfl hc j _ s12 (wipe σ8 vs1) H12 (fun _ _ => False) I12 (stat1 n12) st12 stop1) fun r s13 ⟨hr, I13⟩ => ?_
            subst hr
            refine fin I13 (l8.trans (wipe_length σ8 vs1).symm) (fun j v e => ?_) nx1
            obtain ⟨z1, z2⟩ := k8 j v e
            rw [wipe_out fun z => z2 (hv j z)]
            exact z1
          · refine thnF (T1.item (X.blk s3 H3 sc ce fp) rfl rfl rfl hc j _ s12 (wipe σ8 vs1) H12 (fun _ _ => False) I12 (stat1 n12) st12 go1) fun r s13 ⟨u1, hr, h13⟩ => ?_
            subst hr
            refine thnF h13 fun _ s14 ⟨x1, H14, I14, r14, y14, st14, n14⟩ => ?_
            refine thnF (pg1.run _ s14 (wipe σ8 vs1) H14 x1 u1 _ (I14.pinned (stat1 n14) (T1.obj _ _ st14)) r14 (step1 x1 H14 y14)) fun _ s15 ⟨σ15, H15, I15, hw15, q15⟩ => ?_
            refine thnF (pt1.run _ s15 σ15 H15 _ I15 q15) fun b1 s16 ⟨H16, I16, q16⟩ => ?_
            have fin1 : ∀ {s' : Shared} {H' : Hp}, Inv (X.blk s3 H3 sc ce fp) (([] ++ pinsAt fp s7.heap) ++ pinsAt fp1 s14.heap) σ15 H' s' → Nx1 H' → ∃ m, m < k ∧ ∃ j H', Inv (X.blk s3 H3 sc ce fp) ([] ++ pinsAt fp s7.heap) (wipe σ8 vs1) H' s' ∧ tn1 j s'.heap ∧ (∀ b ∈ fp1, H' b = none) ∧ W1 j m H' := fun {s' H'} I' nx => by
              obtain ⟨m', hm, w'⟩ := hNx1 H' nx
              have pin' : ∀ b ∈ fp1, ∀ o, s14.heap.get? b = some o → s'.heap.get? b = some o ∧ H' b = none := fun b hb o e =>
                let z := I'.pin (b, o) (List.mem_append_right _ (List.mem_append_right _ (mem_pinsAt hb e)))
                ⟨z.1, z.2.1⟩
              refine ⟨m', hm, j + 1, H', I'.unpinned.weak (by rw [← hw15, wipe_length]) (fun j v e => by rw [← hw15] at e; exact (wipe_some e).1), T1.keep _ _ _ st14 fun b hb o e => (pin' b hb o e).1, fun b hb => ?_, w'⟩
              obtain ⟨o, e, _⟩ := T1.obj _ _ st14 b hb
              exact (pin' b hb o e).2
            cases b1 with
            | false =>
              simp only [Bool.false_eq_true, if_false] at q16 ⊢
              exact fin1 I16 q16
            | true =>
              simp only [if_true] at q16 ⊢
              refine thnF (pk.run _ s16 σ15 H16 _ I16 q16) fun kv s17 ⟨yk, H17, I17, r17, q17⟩ => ?_
              refine thnF (pv.run _ s17 σ15 H17 _ I17 q17) fun vv s18 ⟨yv, H18, I18, r18, mm, bb, kk, ek, dA, hb18, hz, nx⟩ => ?_
              subst ek
              cases r17
              exact dic_set (X := X.blk s3 H3 sc ce fp) hu I18 dA hb18 hz r18 fun s19 I19 => fin1 I19 nx
        exact start_d2 loop1 (T1.self X.A 0 _ _ _ st11 loop1)
  exact codeAny_compStart_dict loop (T.self X.A 0 _ _ _ st4 loop)
/-- a local name made a dict by a comprehension of two clauses -/
theorem ps_setNc2 {i : Nat} {y : Str} {py : Pos} {kx vx t0 i0 t1 i1 : Expr} {fs0 fs1 : List Expr} {sc : Scope} {own : List (Str × Nat)} {vs1 : List Nat} {pos spos : Pos} {wi wi1 : TI} {g g1 : TG} {tt tt1 : TT} {tk tv : TE} {K : PySem.W.Frag} {P : Program} {w : World} (eK : X.K = K) (eP : X.prog = P) (ew : X.w = w) (hu : X.A.units < cLine) (hc : X.calm = true) (hN : X.N.Nodup) (hy : X.N[i]? = some y) (hyl : X.env.scope.names.lookup y = some .local)
    (hsw : swapsWith (dc2 kx vx t0 i0 fs0 t1 i1 fs1 sc pos) (some (.Name y py)) spos.line X.env = pure true) (hi : PI X t0 i0 wi) (ok : BlkOk X.N X.env.scope sc own) (hv : ∀ i ∈ vs1, i ∈ own.map (·.2)) (hg : Blk X sc fun Y => PG Y t0 g) (ht : Blk X sc fun Y => PTs Y fs0 tt) (hi1 : Blk X sc fun Y => PI Y t1 i1 wi1) (hg1 : Blk X sc fun Y => PG Y t1 g1) (ht1 : Blk X sc fun Y => PTs Y fs1 tt1)
    (hk : Blk X sc fun Y => PE Y kx tk) (he : Blk X sc fun Y => PE Y vx tv) (hs : ∀ x, foldedSetIterable i0 X.env x = pure x := by intro _; rfl) (hs1 : ∀ env x, foldedSetIterable i1 env x = pure x := by intro _ _; rfl) :
    PS X (.Assign [.Name y py] (dc2 kx vx t0 i0 fs0 t1 i1 fs1 sc pos) spos) (tAsg (tNc2 K P w wi g tt wi1 g1 tt1 tk tv (own.map (·.2)) vs1) (gName i)) := by
  subst eK eP ew
  refine ⟨fun pins s σ H D I h => ?_⟩
  rw [exec_Assign_Name_used _ _ _ _ hsw]
  refine wpAny_bind (wpAny_standAt (wpAny_bind ?_))
  show wpAny _ X.A (do let _ ← comprehension (dc2 kx vx t0 i0 fs0 t1 i1 fs1 sc pos) sc X.env (firstIterPos [⟨t0, i0, fs0, 0⟩, ⟨t1, i1, fs1, 0⟩] pos) newDict false (eval i0 X.env) (some (assign (.Name y py) X.env))) _ _ s
  have h0 : tNc2 X.K X.prog X.w wi g tt wi1 g1 tt1 tk tv (own.map (·.2)) vs1 σ H (fun x H1 => gName i x σ H1 D.nx) := h
  refine wpAny_bind (thn (nc2_core (Qf := fun _ s' => SP X pins D .next s') hu hc hN I hi ok hv hg ht hi1 hg1 ht1 hk he hs hs1 h0 fun L C s' m H' I' q hn f => ?_) fun _ s' hq => wpAny_pure (wpAny_pure hq))
  show wpAny _ _ (assign (.Name y py) X.env (.ref L)) _ _ _
  refine wpAny_assign_Name (store_ok2 (v := V.ref L) I' hN hy (.inl hyl) rfl (fun s2 I2 ⟨a, sb, ha⟩ => ?_) (.inr hyl))
  have apart : C ≠ a := ha.elim (fun z => by rw [z]; exact f.2.1) fun z e => f.2.2.2.2.1 y a z e.symm
  exact ⟨m, hn.sameBut sb apart, fun h3 sb3 => ⟨_, H', I2.turned (t' := s2.toks) (fun b o hb e => (sb3.2 b hb).trans e) f.1 f.2.1 f.2.2.2.1 f.2.2.2.2.1 f.2.2.2.2.2, q⟩⟩
end
section
variable {K : PySem.W.Frag} {b : Bid} {H H' Hd Hd' Hn H1 H2 Hm : Hp} {σ : L2.St} {ta tb te : TE} {tr : TA} {n i j : Nat} {D : Ends} {t : TT} {tu tz : TS} {wi : TI} {g : TG}
/-- a comprehension whose items draw, as a new list -/
theorem bn_lc {S : Nat → L2.St → L2.St → Hp → Prop} {vs : List Nat} {PP : PyData → Prop} (h : EvI K wi g σ Hd n S) (hn : n ≤ 40000)
    (ht : ∀ (i : Nat) (σ2 : L2.St) (Hn : Hp), i < n → Ex Hd Hn → S i (wipe σ vs) σ2 Hn → wipe σ2 vs = wipe σ vs ∧ EvB K b te σ2 Hn PP) : EvBN K b (tLc wi g tYes te vs) σ Hd (fun ds => ds.length = n ∧ ∀ e ∈ ds, PP e) := fun hb H s B Q q =>
  h H s _ fun J H1 Hn G Y gr w hG hY Dl hD => by
    have gb := GrB.of gr B
    have hbn := gb.bn hb B
    obtain ⟨nb, nca⟩ := gb.bx.apart hD
    refine lc_it w (fun i H' => i ≤ n ∧ ∃ Hm acc ds, GrB b Hn H1 Hm H' ∧ Hm Dl = none ∧ H' Dl = some (.lst acc) ∧ DpAll K Hm acc ds ∧ ds.length = i ∧ ∀ e ∈ ds, PP e) ⟨Nat.zero_le _, Hn, [], [], GrB.of (Gr.alloc gr.sub hD) gb.bx, fresh_back gr.sub hD, upd_same, .nil, rfl, fun _ h => by cases h⟩ (fun i H' _ p => ?_) (fun i x H' H'' hi p y => ?_) (fun H' p => ?_)
    · obtain ⟨_, Hm, acc, ds, g1, _⟩ := p
      exact hG H' (g1.dx.trans g1.sub)
    · obtain ⟨_, Hm, acc, ds, g1, hm, h2, hac, hln, hpp⟩ := p
      refine hY i x H' H'' _ _ hi (g1.dx.trans g1.sub) y fun σ2 H3 e3 hS => ?_
      obtain ⟨hw, hE⟩ := ht i σ2 Hn hi gr.dx hS
      refine ⟨hw, ?_⟩
      have al : acc.length < sizeLine := sz_lt (by rw [dpa_len hac]; omega)
      have hbm := g1.bn hbn gb.bx
      refine (hE.mono g1.dx) hbm H3 (g1.sub.trans e3) (g1.bx.mono e3) _ fun y H5 Ho d5 g5 hy hp5 => ?_
      have h3 : H3 Dl = some (.lst acc) := e3 _ _ h2
      have ho : Ho Dl = none := g5.fr _ _ h3 hm
      refine ⟨acc, g5.exb _ _ nb h3, al, hi, Ho, acc ++ [y], ds ++ [d5], ⟨fun a o na ha => ?_, g1.dx.trans g5.dx, Ex.mut g5.sub ho, fun a o ha hd => ?_, g5.bx.keep nb nca⟩, ho, upd_same, dpa_app (dpa_mono g5.dx _ hac) (.cons hy .nil), by rw [List.length_append, hln]; rfl, fun e he => ?_⟩
      · rw [upd_ne (ne_of_none ha hD)]
        exact g5.exb a o na (e3 a o (g1.exb a o na ha))
      · by_cases e : a = b.b
        · rw [e]
          exact g5.bn hbm (g1.bx.mono e3)
        · exact g5.fr a o (e3 a o (g1.exb a o e ha)) (g1.fr a o ha hd)
      · rcases List.mem_append.mp he with he | he
        · exact hpp e he
        · rcases List.mem_cons.mp he with rfl | he
          · exact hp5
          · cases he
    · obtain ⟨_, Hm, acc, ds, g1, hm, h2, hac, hln, hpp⟩ := p
      exact q Dl acc H' Hm ds ⟨fun a o na ha => g1.exb a o na (gr.ex a o ha), gr.dx.trans g1.dx, g1.sub, fun a o ha hd => g1.fr a o (gr.ex a o ha) (gr.fr a o ha hd), g1.bx⟩ (fresh_back gr.ex hD) hm h2 hac ⟨hln, hpp⟩
theorem go_asgBN {Ps : List PyData → Prop} (hb : Hd b.b = none) (s : Ex Hd H) (B : Bx H b) (h : EvBN K b te σ Hd Ps) (k : ∀ p xs H' Hn ds, GrB b Hd H Hn H' → H p = none → Hn p = none → H' p = some (.lst xs) → DpAll K Hn xs ds → Ps ds → Go tz D (σ.set i (some (.ref p))) H') : Go (tSeq (tAsg te (gName i)) tz) D σ H := fun H1 e1 =>
  h hb H1 (s.trans e1) (B.mono e1) _ fun p xs H2 Hn ds g h1 h2 h3 h4 h5 => k p xs H2 Hn ds (g.pre e1) (fresh_back e1 h1) h2 h3 h4 h5 H2 (Ex.refl _)
/-- a test, what is known after it, and what is known after the whole -/
theorem go_ifJ {A : Bool → Hp → Prop} (J : Hp → Prop) (h : ∀ H1, Ex H H1 → ∀ Q : Bool → Hp → Prop, (∀ c H2, A c H2 → Q c H2) → t σ H1 Q) (h1 : ∀ H2, A true H2 → ∀ D' : Ends, (∀ H3, J H3 → D'.nx σ H3) → Go tu D' σ H2) (h2 : ∀ H2, A false H2 → J H2) (k : ∀ H3, J H3 → Go tz D σ H3) : Go (tSeq (tIfS t tu tNext) tz) D σ H := fun H1 e1 =>
  h H1 e1 _ fun c H2 a => by
    cases c with
    | true => exact h1 H2 a { D with nx := tz D } (fun H3 j => k H3 j H3 (Ex.refl _)) H2 (Ex.refl _)
    | false => exact k H2 (h2 H2 a) H2 (Ex.refl _)
/-- a and b, where the first is told and the second draws -/
theorem tb_and {u : TT} {c : Bool} (hb : Hd b.b = none) (s : Ex Hd H) (B : Bx H b) (h : EvT t σ Hd c) (h2 : EvBT K b u σ Hd) : ∀ H1, Ex H H1 → ∀ Q : Bool → Hp → Prop, (∀ e H2, ((∃ Hn, GrB b Hd H Hn H2) ∧ (e = true → c = true)) → Q e H2) → (tAnd t u) σ H1 Q := fun H1 e1 Q q =>
  h H1 (s.trans e1) _ fun H2 e2 => by
    cases c with
    | false => exact q false H2 ⟨⟨Hd, GrB.of (Gr.ext s (e1.trans e2)) B⟩, fun h => by cases h⟩
    | true => exact h2 hb H2 ((s.trans e1).trans e2) ((B.mono e1).mono e2) Q fun e H3 Hn g => q e H3 ⟨⟨Hn, g.pre (e1.trans e2)⟩, fun _ => rfl⟩
end
end Cot

set_option Elab.async false
set_option linter.all false
set_option maxRecDepth 100000
set_option maxHeartbeats 4000000
/-! An own class of errors with an __init__ of its own that calls its base's and keeps one number. -/
namespace Cot
open PySem PySem.Spec PyProof.Rows L2 Evl
/-- the n-th def of a class -/
def clsDef (s : Stmt) (n : Nat) : Stmt := match s with
  | .ClassDef _ _ _ body _ _ _ _ _ _ _ => body.getD n (.Pass ⟨0, 0, 0, 0⟩)
  | _ => .Pass ⟨0, 0, 0, 0⟩
/-- a class whose own __init__ comes from ValueError, called by its name -/
structure BaseI (K : PySem.W.Frag) (D : Addr) : Prop where
  sp : PySem.W.specialIn K (.ref D) "__getattribute__" = some (some (.builtin "type.__getattribute__"))
  rd : PySem.W.readsIn K D (.type "type") = true
  fc : PySem.W.findCls K (.ref D) (.type "type") "__init__" = some (.val (.builtin "ValueError.__init__"))
section
variable {X : Cx} {x : Str} {D : Addr} {e : Expr} {es : List Expr} {ta : TA} {p1 p2 pos : Pos}
theorem pe_baseInit {pl : Sem Bool} (hg : Gl X x) (hm : X.mg x = some (.ref D)) (B : BaseI X.K D) (ha : PA X (e :: es) ta) (hdb : (x == ("__debug__" : Str)) = false := by decide)
    (hc : eval (.Call (.Attribute (.Name x p1) "__init__" p2) (e :: es) [] pos) X.env = (do
      let ov ← eval (.Name x p1) X.env
      standAt p2.atName
      let (f, first) ← holding [ov] (getMethod ov "__init__" pl)
      callWith pos f first (backTo pos (starEach (e :: es) X.env)) (backToKw pos (keywordEach [] X.env))) := by rfl)
    (he : starEach (e :: es) X.env = (false, eval e X.env) :: starEach es X.env := by rfl) (hpl : (backTo pos (starEach es X.env)).any (·.1) = false := by rfl) : PE X (.Call (.Attribute (.Name x p1) "__init__" p2) (e :: es) [] pos) (tVeI X.K ta) := by
  refine ⟨fun pins s σ H Q I h => PySem.W.methodCall_KW (ld_glob I hg hm ?_ hdb) hc⟩
  refine PySem.W.method_cls I.kIn B.sp (PySem.W.cls_value I.kIn B.rd B.fc (by decide) ?_)
  show wpAny _ _ (callWith pos (Value.builtin "ValueError.__init__") [] (backTo pos (starEach (e :: es) X.env)) []) _ _ _
  refine PyProof.Rows.callWith_method1 (thn (ha.run pos pins _ σ H _ (I.tok _) h) fun us s1 ⟨vs, H1, I1, r1, a, C, ws, ev, hl, T, ea, q⟩ => ?_) he hpl
  subst ev
  cases r1 with
  | @cons _ u0 _ ur ra rw' =>
    have e0 : u0 = Value.ref a := ra
    subst e0
    exact oinit_ok T I1 ea (by rw [← Paired.length rw', sizeLine_eq]; omega) fun s' J => ⟨.non, H1, J, rfl, q⟩
end
/-- what such an __init__ does: the number under the name f -/
def spInit (C : Addr) (f : Str) : Sp := fun vs H Q _ => ∃ (a : Addr) (n : Int), vs = [.ref a, .int n] ∧ 0 ≤ n ∧ n ≤ 1000000 ∧ H a = some (exo a C none) ∧ ∀ dx, H dx = none → dx ≠ a → Q .non (upd (upd H dx (exd dx [(f, .int n)])) a (exo a C (some dx)))
/-- the text f"{n} .." -/
def tFn (te : TE) (z : Str) : TE := fun σ H Q => tJs [tFmt te, tC (.str z)] Str.empty σ H fun out H1 => Q (.str out) H1
theorem pe_fn {X : Cx} {e : Expr} {te : TE} {p1 p2 pos : Pos} {z : Str} {j : Nat} (he : PE X e te) : PE X (.JoinedStr [.FormattedValue e (-1) none p1, .Constant (.str z) j p2] pos) (tFn te z) := pe_joined (.cons (pe_fmt he) (.cons pe_str .nil))
/-- the text f".. {n} .." -/
def tNfn (te : TE) (y z : Str) : TE := fun σ H Q => tJs [tC (.str y), tFmt te, tC (.str z)] Str.empty σ H fun out H1 => Q (.str out) H1
theorem pe_nfn {X : Cx} {e : Expr} {te : TE} {p1 p2 p3 pos : Pos} {y z : Str} {j k : Nat} (he : PE X e te) : PE X (.JoinedStr [.Constant (.str y) k p3, .FormattedValue e (-1) none p1, .Constant (.str z) j p2] pos) (tNfn te y z) := pe_joined (.cons pe_str (.cons (pe_fmt he) (.cons pe_str .nil)))
theorem log2_small {n : Int} (h0 : 0 ≤ n) (h : n ≤ 1000000) : n.natAbs.log2 < 1920 := by
  have h1 : n.natAbs ≤ 1000000 := by omega
  have h2 : n.natAbs.log2 < 20 := by
    by_cases z : n.natAbs = 0
    · rw [z]; decide
    · exact (Nat.log2_lt z).mpr (by omega)
  omega
theorem fn_run {i : Nat} {σ : L2.St} {H : Hp} {Q : VK} {n : Int} {z : Str} (h0 : 0 ≤ n) (h1 : n ≤ 1000000) (hz : z.length ≤ 1000) (h : σ[i]? = some (some (.int n))) (k : ∀ x, Q (.str x) H) : tFn (tVar i) z σ H Q := by
  have hl : (Str.ofString (toString n)).length ≤ 7 := toString_length_le h0 (k := 7) (by decide) (by omega)
  have e0 : (Str.empty ++ Str.ofString (toString n)).length = (Str.ofString (toString n)).length := by rw [Str.length_append]; show 0 + _ = _; omega
  refine ⟨.int n, h, .inr ⟨n, rfl, log2_small h0 h1, _, rfl, by rw [e0, sizeLine_eq]; omega, _, rfl, ?_, k _⟩⟩
  rw [Str.length_append, e0, sizeLine_eq]
  omega
theorem nfn_run {i : Nat} {σ : L2.St} {H : Hp} {Q : VK} {n : Int} {y z : Str} (h0 : 0 ≤ n) (h1 : n ≤ 1000000) (hy : y.length ≤ 1000) (hz : z.length ≤ 1000) (h : σ[i]? = some (some (.int n))) (k : ∀ x, Q (.str x) H) : tNfn (tVar i) y z σ H Q := by
  have hl : (Str.ofString (toString n)).length ≤ 7 := toString_length_le h0 (k := 7) (by decide) (by omega)
  have e0 : (Str.empty ++ y).length = y.length := by rw [Str.length_append]; show 0 + _ = _; omega
  have e1 : (Str.empty ++ y ++ Str.ofString (toString n)).length = y.length + (Str.ofString (toString n)).length := by rw [Str.length_append, e0]
  refine ⟨y, rfl, by rw [e0, sizeLine_eq]; omega, .int n, h, .inr ⟨n, rfl, log2_small h0 h1, _, rfl, by rw [e1, sizeLine_eq]; omega, _, rfl, ?_, k _⟩⟩
  rw [Str.length_append, e1, sizeLine_eq]
  omega
theorem mkO_run {C : Addr} {f : Str} {ta : TA} {σ : L2.St} {H : Hp} {Q : XK} {n : Int} (h0 : 0 ≤ n) (h1 : n ≤ 1000000) (h : EvA ta σ H [.int n]) (k : ∀ H2 d, Ex H H2 → H2 d = none → Q (.ref C) (some d) (upd H2 d (.xd [(f, .int n)]))) : tMkO C (spInit C f) [] ta σ H Q :=
  h H (Ex.refl _) _ fun H1 e1 => ⟨by simp, fun a ha => ⟨a, n, rfl, h0, h1, upd_same, fun dx hd nd => ⟨rfl, dx, [(f, .int n)], upd_same, by rw [upd_ne nd, upd_same], by rw [upd_ne nd] at hd; exact hd, by
    have hd1 : H1 dx = none := by rw [upd_ne nd] at hd; exact hd
    have e : upd (L2.del (upd (upd (upd H1 a (exo a C none)) dx (exd dx [(f, .int n)])) a (exo a C (some dx))) a) dx (.xd [(f, .int n)]) = upd H1 dx (.xd [(f, .int n)]) := by
      funext b
      by_cases hb : b = dx
      · subst hb
        rw [upd_same, upd_same]
      · rw [upd_ne hb, upd_ne hb]
        by_cases hba : b = a
        · subst hba
          rw [L2.del_same, ha]
        · rw [L2.del_ne hba, upd_ne hba, upd_ne hb, upd_ne hba]
    rw [e]
    exact k H1 dx e1 hd1⟩⟩⟩
end Cot

set_option Elab.async false
set_option linter.all false
set_option maxRecDepth 100000
set_option maxHeartbeats 4000000
/-! Texts as data; a try whose first clause, with a name, takes what is raised. -/
namespace Cot
open PySem PySem.Spec PyProof.Rows L2 Evl
/-- one sign -/
abbrev sg (c : Nat) : Str := ⟨#[c]⟩
def sigs (x : Str) : List PyData := x.cps.toList.map fun c => .str (sg c)
section
variable {K : PySem.W.Frag} {X : Cx} {H H' Hd Hd' Hn H1 H2 Hm : Hp} {σ : L2.St} {ta tb tc te tx tl to : TE} {d : PyData} {ds es : List PyData} {tr : TA} {i j j2 n : Nat}
theorem sigs_len (x : Str) : (sigs x).length = x.length := by unfold sigs; rw [List.length_map]; simp [Str.length]
/-- a text, walked sign by sign -/
theorem ei_str {x : Str} (h : Ev tl σ Hd (.str x)) : EvI K (iStr tl) (gName j) σ Hd x.length (SName K j (sigs x)) := fun H s R r =>
  h H s _ fun H2 e2 => ⟨x, rfl, r _ H2 Hd (fun _ => True) (fun i H v H' => H' = H ∧ ∃ c, x.cps[i]? = some c ∧ v = .str (sg c)) (Gr.ext s e2)
    ⟨fun i H hi _ => hi, fun H _ => Nat.le_refl _, fun i H v H' hi _ y => y⟩ (fun _ _ => trivial) fun i v H' H'' σ' k hi e y q => by
      obtain ⟨rfl, c, hc, rfl⟩ := y
      refine q _ _ (Ex.refl _) ⟨.str (sg c), .str (sg c), ?_, .str _, rfl⟩
      unfold sigs
      rw [List.getElem?_map, Array.getElem?_toList, hc]
      rfl⟩
theorem ev_ixS {z : Str} {k : Int} {c : Nat} (ha : Ev ta σ H (.str z)) (hb : Ev tb σ H (.int k)) (hz : z.length ≤ 100000) (h : atI z.cps.toList k = some c) : Ev (tOp rIxS ta tb) σ H (.str (sg c)) := ev_op ha hb (rv_ixS hz h)
def rFind : V → List V → Hp → VK → Prop := fun x xs H Q => ∃ a b, x = .str a ∧ xs = [.str b] ∧ Q (.int (Txt.find a b)) H
theorem ev_find {a b : Str} (ho : Ev to σ H (.str a)) (he : Ev te σ H (.str b)) : Ev (tM1 rFind to te) σ H (.int (Txt.find a b)) := fun H1 s Q q =>
  ho H1 s _ fun H2 e2 => ⟨⟨a, rfl⟩, he H2 (s.trans e2) _ fun H3 e3 => ⟨a, b, rfl, rfl, q H3 (e2.trans e3)⟩⟩
def rSpl : V → List V → Hp → VK → Prop := fun x xs H Q => ∃ a b, x = .str a ∧ xs = [.str b] ∧ (b.length == 0) = false ∧ a.length + 2 ≤ sizeLine ∧ rNewStrs (Txt.split a b) H Q
theorem en_split {a b : Str} (ho : Ev to σ Hd (.str a)) (he : Ev te σ Hd (.str b)) (hb : (b.length == 0) = false) (ha : a.length + 2 ≤ 1000000) : EvN K (tM1 rSpl to te) σ Hd ((Txt.split a b).map .str) := fun H s Q q =>
  ho H s _ fun H2 e2 => ⟨⟨a, rfl⟩, he H2 (s.trans e2) _ fun H3 e3 => ⟨a, b, rfl, rfl, hb, by rw [sizeLine_eq]; omega, fun p hp => q p ((Txt.split a b).map V.str) _ Hd ((Gr.ext s (e2.trans e3)).trans (Gr.alloc ((s.trans e2).trans e3) hp)) (fresh_back (e2.trans e3) hp) (fresh_back ((s.trans e2).trans e3) hp) upd_same (dpa_strs _)⟩⟩
where dpa_strs : ∀ (l : List Str), DpAll K Hd (l.map V.str) (l.map PyData.str)
  | [] => .nil
  | x :: l => .cons (.str x) (dpa_strs l)
def rInSg : R2 := fun x y H Q => ∃ (c : Nat) (z : Str), x = .str (sg c) ∧ y = .str z ∧ Q (.bl (decide (c ∈ z.cps.toList))) H
theorem ev_inSg {c : Nat} {z : Str} (ha : Ev ta σ H (.str (sg c))) (hb : Ev tb σ H (.str z)) : Ev (tOp rInSg ta tb) σ H (.bl (decide (c ∈ z.cps.toList))) := ev_op ha hb fun H1 _ _ q => ⟨c, z, rfl, rfl, q H1 (Ex.refl H1)⟩
def rLenX : List V → Hp → VK → Prop := fun xs H Q => ∃ a, xs = [.str a] ∧ a.length ≤ sizeLine ∧ Q (.int (a.length : Int)) H
theorem ev_lenX {a : Str} (h : Ev ta σ H (.str a)) (hz : a.length ≤ 1000000) : Ev (tCB rLenX (tCons ta tNil)) σ H (.int (a.length : Int)) := fun H1 s Q q => h H1 s _ fun H2 e => ⟨a, rfl, by rw [sizeLine_eq]; omega, q H2 e⟩
theorem pb_jo {o e : Expr} {apos pos : Pos} (hK : X.K = K) (ho : PE X o to) (he : PE X e te) (hs : starEach [e] X.env = [(false, eval e X.env)] := by rfl) (hbase : attributeBase o "join" X.env (eval o X.env) = eval o X.env := by rfl) (hline : (apos.endLine == pos.line) = true := by rfl) :
    PE X (.Call (.Attribute o "join" apos) [e] [] pos) (tM1 (rJo K) to te) := by
  subst hK
  exact pe_jo ho he hs hbase hline
end
/-- what is asked of an error that the first clause takes -/
def wYes (K : PySem.W.Frag) (c : Value) (i : Nat) (ts : Addr → Value → Option Addr → TS) (D : Ends) : WX := fun cls d σ H => PySem.W.exmOne K cls c = some true ∧ ∀ a, H a = none →
  ts a cls d { nx := fun σ' H' => D.nx (σ'.set i none) H', rt := D.rt, bk := fun σ' H' => D.bk (σ'.set i none) H', ct := fun σ' H' => D.ct (σ'.set i none) H' } (σ.set i (some (.ref a))) H
theorem ps_tryYes {X : Cx} {x n : Str} {c : Value} {i : Nat} {todo su : List Stmt} {f0 : Stmt} {np pos qos : Pos} {more : List ExceptHandler} {tb : WX → TS} {ts : Addr → Value → Option Addr → TS}
    (st : X.stack = X.env :: X.outer) (fr : X.env.frame = some X.env.locals) (nd : X.N.Nodup) (ni : X.N[i]? = some n) (kn : X.env.kindOf n = some .local) (hc : Names X x c)
    (go : ∀ (W : WX) (ps : List (Addr × Obj)) (xe : Value → Shared → Prop), L2.Takes (X.tr ps xe) W → PassesOwn (model X.prog X.w) X.A X.env xe → PSs (X.tr ps xe) todo (tb W))
    (su1 : ∀ (a : Addr) (oe : Obj) (cls : Value) (d : Option Addr) (ps : List (Addr × Obj)), Zc cls d oe → (∃ vs, oe.data = .fields vs) → PSs (X.suite a ((a, oe) :: ps)) (f0 :: su) (ts a cls d)) :
    PS X (.Try todo (.ExceptHandler (some (.Name x np)) (some n) (f0 :: su) qos :: more) [] [] pos) (fun D σ H => tb (wYes X.K c i ts D) D σ H) := by
  refine ⟨fun ps s σ H D I w => wpAny_Try_except ?_⟩
  have I0 := I.ok
  have F0 : X.A.frames = some (X.env :: X.outer) := by rw [I0.frames, st]
  let xe' : Value → Shared → Prop := fun e s1 => wpAny (model X.prog X.w) X.A (noteFrame e X.env) (fun _ s2 => wpAny (model X.prog X.w) X.A (setFlight e none) (fun _ s3 => wpAny (model X.prog X.w) X.A (handleBy e X.env (.ExceptHandler (some (.Name x np)) (some n) (f0 :: su) qos :: more)) (SP X ps D) X.xe s3) X.xe s2) X.xe s1
  have tk : L2.Takes (X.tr (X.pn ++ ps) xe') (wYes X.K c i ts D) := by
    rintro u s1 ⟨a, B, sJ, qs, τ, G, cls, d, rfl, Jt, nb, up, sky, na, eos, ag, yes, inn⟩
    have J : Inv X ps τ G sJ := Jt.ofTry I0
    have sk : Sky B (X.env :: X.outer) a (Zc cls d) X.env.locals s1.heap := by rw [← st]; exact sky
    show wpAny (model X.prog X.w) X.A (noteFrame (.ref a) X.env) _ _ _
    refine Sky.land Zc.steady F0 fr sk fun g1 l1 u1 => ?_
    obtain ⟨o1, v1, e1, z1, d1⟩ := l1.there
    have J1 : Inv X ps τ G { s1 with heap := g1 } := J.landed nb l1.1 (up.trans u1) eos ag
    have off : a ∉ frs (X.env :: X.outer) := fun hm => by
      obtain ⟨_, o2, e2, no⟩ := l1.2.2.1.mem hm
      rw [e1] at e2
      cases e2
      exact no _ d1
    have offL : a ≠ X.env.locals := fun z => off (List.mem_filterMap.mpr ⟨X.env, List.mem_cons_self, by rw [fr, z]⟩)
    have offF : a ∉ X.fs := fun hm => by
      obtain ⟨e, he, hq⟩ := List.mem_filterMap.mp hm
      exact off (List.mem_filterMap.mpr ⟨e, List.mem_cons_of_mem _ he, hq⟩)
    have S1 := J1.suite e1 d1 na offL offF
    refine wpAny_handleBy_cons (codeAny_handlers_test ?_) (by intro hq; cases hq)
    have ty : PySem.W.Looks (model X.prog X.w) g1 (typeOf (.ref a)) cls := fun A Q E s k hq => wpAny_typeOf_ref (k _ _ e1) (by rw [z1.1]; exact hq)
    have look : ∀ {Q : Value → Shared → Prop} {E : Value → Shared → Prop}, Q c { s1 with heap := g1 } → wpAny (model X.prog X.w) (X.A.mark (some (.ref a))) (eval (.Name x np) X.env) Q E { s1 with heap := g1 } := fun {Q E} hq => by
      rcases hc with ⟨h1, h2, h3 | ⟨h3, h4, h5⟩⟩
      · exact ld_glob (X := X.suite a ((a, o1) :: (X.pn ++ ps))) S1 h1 h3 hq h2
      · exact ld_blt (X := X.suite a ((a, o1) :: (X.pn ++ ps))) S1 h1 h3 h4 hq h5 h2
    refine look ((PySem.W.exm_one (M := model X.prog X.w) J1.kIn ty yes).here (codeAny_handlers_suite_as (HandSPX.lands_againZ l1 fun g2 l2 u2 => ?_)))
    obtain ⟨o2, v2, e2, z2, d2⟩ := l2.there
    have J2 : Inv X ps τ G { s1 with heap := g2 } := J.landed nb l2.1 ((up.trans u1).trans u2) eos ag
    refine store_ok (X := X.suite a ((a, o2) :: (X.pn ++ ps))) (v := .ref a) (J2.suite e2 d2 na offL offF) nd ni (.inl kn) rfl (fun s5 S5 => ?_) (.inr kn)
    refine wpAny_mono ((su1 a o2 cls d (X.pn ++ ps) z2 ⟨_, d2⟩).run [] s5 _ G _ S5 (inn a na)) (fun f s6 fin => ?_) (fun _ _ z => z.elim)
    have gone : ∀ {τ' : L2.St} {G' : Hp} {Q : Shared → Prop}, Inv (X.suite a ((a, o2) :: (X.pn ++ ps))) [] τ' G' s6 → (∀ s7, Inv X ps (τ'.set i none) G' s7 → Q s7) →
      wpAny (model X.prog X.w) X.A (do bindName X.env n .none; unbindBehindTheSuite X.env n qos) (fun _ s7 => Q s7) X.xe s6 := fun {τ' G' Q} S6 hq => gone_ok (S6.unsuite I0) nd ni kn hq
    cases f with
    | ret u =>
      obtain ⟨v6, τ6, G6, S6, r6, w6⟩ := fin
      exact gone S6 fun s7 J7 => ⟨_, _, _, J7, r6, w6⟩
    | next =>
      obtain ⟨τ6, G6, S6, w6⟩ := fin
      exact gone S6 fun s7 J7 => ⟨_, _, J7, w6⟩
    | brk =>
      obtain ⟨τ6, G6, S6, w6⟩ := fin
      exact gone S6 fun s7 J7 => ⟨_, _, J7, w6⟩
    | cont =>
      obtain ⟨τ6, G6, S6, w6⟩ := fin
      exact gone S6 fun s7 J7 => ⟨_, _, J7, w6⟩
  refine wpAny_mono ((go (wYes X.K c i ts D) (X.pn ++ ps) xe' tk PassesOwn.looking).run [] s σ H D (I.toTry _) w) (fun f s1 fin => ?_) (fun e s1 he => he)
  cases f with
  | ret u =>
    obtain ⟨v, τ, G, J, r, w1⟩ := fin
    exact ⟨v, τ, G, J.ofTry I0, r, w1⟩
  | next =>
    obtain ⟨τ, G, J, w1⟩ := fin
    exact wpAny_execs_nil ⟨τ, G, J.ofTry I0, w1⟩
  | brk =>
    obtain ⟨τ, G, J, w1⟩ := fin
    exact ⟨τ, G, J.ofTry I0, w1⟩
  | cont =>
    obtain ⟨τ, G, J, w1⟩ := fin
    exact ⟨τ, G, J.ofTry I0, w1⟩
end Cot

set_option Elab.async false
set_option linter.all false
set_option maxRecDepth 100000
set_option maxHeartbeats 4000000
/-! max of a tuple of ints. -/
namespace Cot
open PySem PySem.Spec PyProof.Rows L2 Evl
def rMaxT (K : PySem.W.Frag) : List V → Hp → VK → Prop := fun vs H Q => ∃ (a : Addr) (ns : List Int), vs = [V.ref a] ∧ SqT K H a (ns.map V.int) ∧ 0 < ns.length ∧ ∀ m, m ∈ ns → (∀ y, y ∈ ns → y ≤ m) → Q (.int m) H
theorem call_maxT {X : Cx} {K : PySem.W.Frag} (eK : X.K = K) (hc : X.calm = true) : CallR X (.builtin "max") (rMaxT K) := by
  subst eK
  intro pins s σ H vs us Q I r h
  obtain ⟨a, ns, rfl, hs, hne, q⟩ := h
  obtain ⟨its, rv, hl, hz⟩ := I.tuple hs
  rw [Vals.ref1 r]
  obtain ⟨xs, e⟩ := rv.ints.allInts.items
  have hn : numsOf (intItems xs).toList = ns := by rw [← e]; exact rv.ints.numsOf
  rw [nums_intItems] at hn
  subst hn
  have hl' : s.heap.IsTuple a (intItems xs) := by rw [← e]; exact hl
  have hlt : a < s.heap.objs.size := by obtain ⟨_, e, _⟩ := hl'; exact Heap.lt_size e
  have hsz : 0 < xs.size := by simpa using hne
  refine call_max_walk (wpAny_pyIter_tuple hl' ⟨_, _, _, _, _, _, _, rfl, Walks.tuple (A := X.A.in1) (I.ok.hd hc) _ a (Nat.ne_of_lt hlt) (intItems xs), ⟨⟨_, Heap.get?_push_size _ rfl, rfl, rfl⟩, hl'.push _⟩, fun b hb => ?_, by simpa [intItems] using hsz, CmpOf.ints_gt (numAt xs) (fun _ _ => intItems_at), fun v h' tk hP hk => ?_⟩)
  · show b < (s.heap.push _).objs.size
    rw [Heap.size_push]
    rcases List.mem_cons.mp hb with rfl | hb
    · exact Nat.lt_succ_self s.heap.objs.size
    · rw [List.mem_singleton.mp hb]
      exact Nat.lt_succ_of_lt hlt
  · have hv : (intItems xs)[argBest (fun i j => decide (numAt xs i > numAt xs j)) (xs.size - 1)]? = some v := by simpa [intItems] using hP
    obtain ⟨t, rfl⟩ := intItems_at hv
    obtain ⟨h1, h2⟩ := argBest_gt (numAt xs) (xs.size - 1)
    have kp : ∀ b o, s.heap.get? b = some o → h'.get? b = some o := fun b o eb => hk b o (fun hm => absurd (Heap.lt_size eb) ((List.mem_singleton.mp hm) ▸ Nat.lt_irrefl _)) (Heap.get?_push_of_some _ eb)
    refine ⟨.int _, H, I.kept kp, ⟨_, rfl⟩, q _ ?_ fun y hy => ?_⟩
    · rw [numAt_eq]
      exact PySem.getD_mem (by rw [List.length_map, Array.length_toList]; omega)
    · obtain ⟨j, hj, rfl⟩ := mem_getD hy
      rw [List.length_map, Array.length_toList] at hj
      rw [← numAt_eq]
      exact h2 j (by omega)
theorem ev_maxT {K : PySem.W.Frag} {σ : L2.St} {Hd : Hp} {ta : TE} {ns : List Int} {m : Int} (h : EvD K ta σ Hd (.tuple (ns.map .int))) (hm : m ∈ ns) (hx : ∀ y ∈ ns, y ≤ m) : Ev (tCB (rMaxT K) (tCons ta tNil)) σ Hd (.int m) := fun H s Q q =>
  h H s _ fun v H2 Hn g hd => by
    cases hd with
    | @tup p xs ds hs hall =>
      have e := dpa_ints_inv hall
      subst e
      refine ⟨p, ns, rfl, ex_t g.sub hs, List.length_pos_of_mem hm, fun m' h1 h2 => ?_⟩
      have : m' = m := Int.le_antisymm (hx m' h1) (h2 m hm)
      rw [this]
      exact q H2 g.ex
/-- the rules of texts with the names of this layer -/
theorem pe_fnd {X : Cx} {o e : Expr} {to te : TE} {apos pos : Pos} (ho : PE X o to) (he : PE X e te) (hs : starEach [e] X.env = [(false, eval e X.env)] := by rfl) (hbase : attributeBase o "find" X.env (eval o X.env) = eval o X.env := by rfl) (hline : (apos.endLine == pos.line) = true := by rfl) :
    PE X (.Call (.Attribute o "find" apos) [e] [] pos) (tM1 rFind to te) := pe_m1 PySem.F.slot_str_find PySem.F.type_str_find mt_find ho he hs hbase hline
theorem pe_spl {X : Cx} {o e : Expr} {to te : TE} {apos pos : Pos} (ho : PE X o to) (he : PE X e te) (hs : starEach [e] X.env = [(false, eval e X.env)] := by rfl) (hbase : attributeBase o "split" X.env (eval o X.env) = eval o X.env := by rfl) (hline : (apos.endLine == pos.line) = true := by rfl) :
    PE X (.Call (.Attribute o "split" apos) [e] [] pos) (tM1 rSpl to te) := pe_split ho he hs hbase hline
theorem call_lenX {X : Cx} : CallR X (.builtin "len") rLenX := call_len_str
end Cot

set_option Elab.async false
set_option linter.all false
set_option maxRecDepth 100000
set_option maxHeartbeats 4000000
/-! Texts: sums, slices, places found; drawn signs, lists of texts with drawn parts; small written dicts. -/
namespace Cot
open PySem PySem.Spec PyProof.Rows L2 Evl
section
variable {K : PySem.W.Frag} {b : Bid} {X : Cx} {H H' Hd Hd' Hn H1 H2 Hm : Hp} {σ : L2.St} {ta tb tc te tx tl to : TE} {tlo thi : TO} {d : PyData} {ds es : List PyData} {tr : TA} {i j j2 n : Nat} {p : Int → Prop} {Ps Ps' : List PyData → Prop} {D : Ends} {tz : TS}
def rAddS : R2 := fun x y H Q => ∃ i j, x = .str i ∧ y = .str j ∧ i.length + j.length ≤ sizeLine ∧ Q (.str (i ++ j)) H
theorem op_addS : OpR X (binaryOp .Add) rAddS := op_add_str
theorem ev_addS {a c : Str} (ha : Ev ta σ H (.str a)) (hb : Ev tb σ H (.str c)) (hl : a.length + c.length ≤ 1000000) : Ev (tOp rAddS ta tb) σ H (.str (a ++ c)) := ev_op ha hb fun H1 _ _ q => ⟨a, c, rfl, rfl, by rw [sizeLine_eq]; omega, q H1 (Ex.refl H1)⟩
theorem ev_slS {z : Str} {lo hi : Option Int} (ha : Ev te σ H (.str z)) (h1 : EvO tlo σ H lo) (h2 : EvO thi σ H hi) (hl : z.length ≤ 1000000) : Ev (tSl rSlS te tlo thi) σ H (.str (cutS z lo hi)) := fun H1 e1 Q q =>
  ha H1 e1 _ fun H2 e2 => h1 H2 (e1.trans e2) _ fun H3 e3 => h2 H3 ((e1.trans e2).trans e3) _ fun H4 e4 => ⟨z, rfl, by rw [sizeLine_eq]; omega, q H4 ((e2.trans e3).trans e4)⟩
def rIndexS : V → List V → Hp → VK → Prop := fun x xs H Q => ∃ a b i rest, x = .str a ∧ xs = [.str b] ∧ Builtin.Str.occurrences a b 0 a.length 1 = i :: rest ∧ Q (.int (i : Nat)) H
theorem mt_indexS : MtR X "str.index" rIndexS := mt_sindex
theorem ev_indexS {a c : Str} {i : Nat} {rest : List Nat} (ho : Ev to σ H (.str a)) (he : Ev te σ H (.str c)) (h : Builtin.Str.occurrences a c 0 a.length 1 = i :: rest) : Ev (tM1 rIndexS to te) σ H (.int (i : Nat)) := fun H1 s Q q =>
  ho H1 s _ fun H2 e2 => ⟨⟨a, rfl⟩, he H2 (s.trans e2) _ fun H3 e3 => ⟨a, c, i, rest, rfl, rfl, h, q H3 (e2.trans e3)⟩⟩
theorem pe_idxS {o e : Expr} {apos pos : Pos} (ho : PE X o to) (he : PE X e te) (hs : starEach [e] X.env = [(false, eval e X.env)] := by rfl) (hbase : attributeBase o "index" X.env (eval o X.env) = eval o X.env := by rfl) (hline : (apos.endLine == pos.line) = true := by rfl) :
    PE X (.Call (.Attribute o "index" apos) [e] [] pos) (tM1 rIndexS to te) := pe_m1 PySem.F.slot_str_index PySem.F.type_str_index mt_indexS ho he hs hbase hline
/-! ### drawn -/
def isS (p : Str → Prop) (d : PyData) : Prop := ∃ z, d = .str z ∧ p z
theorem eb_evS {z : Str} (h : Ev te σ Hd (.str z)) : EvB K b te σ Hd (isS fun y => y = z) := (eb_ed (ed_str h)).imp fun d e => ⟨z, e, rfl⟩
theorem eb_ixS {z : Str} (ha : Ev ta σ Hd (.str z)) (hi : EvB K b tb σ Hd (isI p)) (hz : z.length ≤ 100000) (he : ∀ i, p i → ∃ c, atI z.cps.toList i = some c) : EvB K b (tOp rIxS ta tb) σ Hd (isS fun y => ∃ i c, p i ∧ atI z.cps.toList i = some c ∧ y = sg c) := fun hb H s B Q q =>
  ha H s _ fun H1 e1 => hi hb H1 (s.trans e1) (B.mono e1) _ fun v2 H2 Hm d2 g2 hd2 hp2 => by
    obtain ⟨i, rfl, pi⟩ := hp2
    cases hd2
    obtain ⟨c, hc⟩ := he i pi
    exact ⟨z, i, c, rfl, rfl, by rw [sizeLine_eq]; omega, hc, q (.str (sg c)) H2 Hm (.str (sg c)) (g2.pre e1) (.str _) ⟨_, rfl, i, c, pi, hc, rfl⟩⟩
/-- a new list from a drawn place on -/
theorem bn_from (h : EvD K te σ Hd (.list ds)) (h2 : EvB K b tb σ Hd (isI p)) (hp : ∀ i, p i → 0 ≤ i) : EvBN K b (tSl (rSlL K) te (tPart tb) tNoPart) σ Hd (fun es => ∃ j : Nat, p (j : Int) ∧ es = ds.drop j) := fun hb H s B Q q =>
  h H s _ fun v H2 Hn g hd => (h2.mono g.dx) ((GrB.of g B).bn hb B) H2 g.sub (GrB.of g B).bx _ fun v2 H3 Hm d g3 hd3 hp3 => by
    obtain ⟨m, rfl, pm⟩ := hp3
    obtain ⟨k, rfl⟩ : ∃ k : Nat, m = (k : Int) := ⟨m.toNat, by have := hp m pm; omega⟩
    cases hd3
    cases hd with
    | @lst a xs ds hs hall =>
      have gg : GrB b Hd H Hm H3 := (GrB.of g B).trans g3 hb B
      refine ⟨k, rfl, a, xs, rfl, ex_l (g3.dx.trans g3.sub) hs, fun r hr => q r _ _ Hm (ds.drop k) (gg.trans (GrB.of (Gr.alloc g3.sub hr) g3.bx) hb B) (gg.fresh hr) (fresh_back g3.sub hr) upd_same ?_ ⟨k, pm, rfl⟩⟩
      unfold cutV
      rw [HT.sIx_none, HT.sIx_nat]
      have hc : (xs.drop (min k xs.length)).take (xs.length - min k xs.length) = xs.drop k := by
        rw [List.take_of_length_le (by rw [List.length_drop]; omega)]
        by_cases h : k ≤ xs.length
        · rw [Nat.min_eq_left h]
        · rw [Nat.min_eq_right (by omega), List.drop_of_length_le (Nat.le_refl _), List.drop_of_length_le (by omega)]
      rw [hc]
      exact dpa_drop _ (dpa_mono g3.dx _ hall)
/-- a drawn list of texts, joined -/
theorem eb_jo {a : Str} {Pq : List Str → Prop} (ho : Ev to σ Hd (.str a)) (h : EvBN K b te σ Hd (fun ds => ∃ ys : List Str, ds = ys.map .str ∧ Pq ys)) (hl : ∀ ys, Pq ys → (ys.map (·.length)).sum + ys.length * a.length ≤ 16777216) : EvB K b (tM1 (rJo K) to te) σ Hd (isS fun z => ∃ ys, Pq ys ∧ z = Txt.join a ys) := fun hb H s B Q q =>
  ho H s _ fun H1 e1 => ⟨⟨a, rfl⟩, h hb H1 (s.trans e1) (B.mono e1) _ fun p xs H2 Hn ds g h1 h2 h3 h4 h5 => by
    obtain ⟨ys, rfl, py⟩ := h5
    have e := dpa_strs_inv h4
    subst e
    exact ⟨a, p, ys, rfl, rfl, Or.inl (sq_of h3), hl ys py, q (.str (Txt.join a ys)) H2 Hn (.str (Txt.join a ys)) (g.pre e1) (.str _) ⟨_, rfl, ys, py, rfl⟩⟩⟩
/-! ### small written dicts with keys ints and texts -/
/-- a dict that stands -/
def EvK (te : TE) (σ : L2.St) (Hd : Hp) (kvs : List (Key × V)) : Prop := ∀ H, Ex Hd H → ∀ Q : VK, (∀ p H2, Ex H H2 → H2 p = some (.dK kvs) → Q (.ref p) H2) → te σ H Q
def EvPs (trs : List (TE × TE)) (σ : L2.St) (Hd : Hp) (kvs : List (Key × V)) : Prop := ∀ H, Ex Hd H → ∀ Q : List (V × V) → Hp → Prop, (∀ H2, Ex H H2 → Q (kvs.map fun kv => (kV kv.1, kv.2)) H2) → tPairs trs σ H Q
theorem eps_nil : EvPs [] σ Hd [] := fun H s Q q => q H (Ex.refl H)
theorem eps_cons {tk tv : TE} {trs : List (TE × TE)} {k : Key} {v : V} {kvs : List (Key × V)} (hk : Ev tk σ Hd (kV k)) (hv : Ev tv σ Hd v) (hr : EvPs trs σ Hd kvs) : EvPs ((tk, tv) :: trs) σ Hd ((k, v) :: kvs) := fun H s Q q =>
  hk H s _ fun H1 e1 => hv H1 (s.trans e1) _ fun H2 e2 => hr H2 ((s.trans e1).trans e2) _ fun H3 e3 => q H3 ((e1.trans e2).trans e3)
/-- a new dict -/
def EvKN (te : TE) (σ : L2.St) (Hd : Hp) (kvs : List (Key × V)) : Prop := ∀ H, Ex Hd H → ∀ Q : VK, (∀ p H2, Ex H H2 → H p = none → H2 p = some (.dK kvs) → Q (.ref p) H2) → te σ H Q
theorem ekn_disp {trs : List (TE × TE)} {kvs : List (Key × V)} (h : EvPs trs σ Hd kvs) (hl : kvs.length ≤ 15) : EvKN (tDisp trs) σ Hd (mergeK [] kvs) := fun H s Q q p hp =>
  h _ (s.trans (Ex.new hp)) _ fun H2 e2 => ⟨e2 _ _ upd_same, kvs, rfl, hl, q p _ (fun x o hx => by
    rw [upd_ne (ne_of_none hx hp)]
    exact e2 x o (by rw [upd_ne (ne_of_none hx hp)]; exact hx)) hp upd_same⟩
theorem ek_new {kvs : List (Key × V)} (h : EvKN te σ Hd kvs) : EvK te σ Hd kvs := fun H s Q q => h H s Q fun p H2 e _ hp => q p H2 e hp
theorem ek_var {kvs : List (Key × V)} {a : Addr} (h : σ[i]? = some (some (.ref a))) (ha : Hd a = some (.dK kvs)) : EvK (tVar i) σ Hd kvs := fun H s Q q => ev_var h H (Ex.refl H) Q fun H2 e => q a H2 e (e _ _ (s _ _ ha))
theorem ev_dgetK {kvs : List (Key × V)} {k : Key} {v : V} (h : EvK te σ Hd kvs) (hk : Ev tx σ Hd (kV k)) (hv : valV kvs k = some v) : Ev (tDGet te tx) σ Hd v := fun H s Q q =>
  h H s _ fun p H1 e1 h1 => hk H1 (s.trans e1) _ fun H2 e2 => ⟨p, v, rfl, by rw [← hv]; exact DGet.k (e2 _ _ h1), q H2 (e1.trans e2)⟩
/-! ### how long what is split is -/
theorem spl1_len (s : Nat) : ∀ (l acc : List Nat), ((TL.spl [s] 0 acc l).map (·.length)).sum + (TL.spl [s] 0 acc l).length = acc.length + l.length + 1
  | [], acc => by rw [TL.spl_nil]; simp
  | c :: r, acc => by
    cases hp : TL.pre [s] (c :: r) with
    | true =>
      rw [TL.spl_hit hp]
      have := spl1_len s r []
      simp only [List.map_cons, List.sum_cons, List.length_cons, List.length_nil] at this ⊢
      show _ + ((TL.spl [s] 0 [] r).map _).sum + ((TL.spl [s] 0 [] r).length + 1) = _
      omega
    | false =>
      rw [TL.spl_miss hp]
      have := spl1_len s r (acc ++ [c])
      simp only [List.length_append, List.length_cons, List.length_nil] at this ⊢
      omega
theorem tl_length (z : Str) : (TL.tl z).length = z.length := by simp [TL.tl, Str.length]
theorem split_len {y : Str} {s : Nat} (z : Str) (ey : TL.tl y = [s]) (hk : y.cps.all (· < 256) = true) : ((Txt.split z y).map (·.length)).sum + (Txt.split z y).length = z.length + 1 := by
  have e := TL.split_spl z y (by rw [ey]; simp) (TL.kind_ok hk)
  rw [ey] at e
  have h := spl1_len s (TL.tl z) []
  rw [← e, List.map_map, List.length_map, tl_length] at h
  have e2 : ((fun x : List Nat => x.length) ∘ TL.tl) = (fun x : Str => x.length) := by funext x; exact tl_length x
  rw [e2] at h
  simpa using h
theorem sum_mem {l : List Str} {x : Str} (h : x ∈ l) : x.length ≤ (l.map (·.length)).sum := by
  induction l with
  | nil => cases h
  | cons a l ih =>
    rw [List.map_cons, List.sum_cons]
    rcases List.mem_cons.mp h with rfl | h
    · omega
    · have := ih h
      omega
theorem join_len (s : Str) : ∀ (ys : List Str), (Txt.join s ys).length ≤ (ys.map (·.length)).sum + ys.length * s.length := fun ys => by
  rw [← tl_length, TL.join_eq, TL.tl_join]
  induction ys with
  | nil => simp [TL.joinL]
  | cons y ys ih =>
    cases ys with
    | nil => simp [TL.joinL, Str.length]
    | cons x xs =>
      have e : TL.joinL (TL.tl s) ((y :: x :: xs).map TL.tl) = TL.tl y ++ (TL.tl s ++ TL.joinL (TL.tl s) ((x :: xs).map TL.tl)) := by
        simp [TL.joinL]
      rw [e, List.length_append, List.length_append, tl_length, tl_length]
      have e2 : ((y :: x :: xs).map fun x : Str => x.length).sum = y.length + ((x :: xs).map fun x : Str => x.length).sum := rfl
      have e3 : (y :: x :: xs).length * s.length = (x :: xs).length * s.length + s.length := by rw [List.length_cons, Nat.add_mul, Nat.one_mul]
      rw [e2, e3]
      have ih' : (TL.joinL (TL.tl s) (TL.tl x :: List.map TL.tl xs)).length ≤ _ := ih
      omega
/-! ### an if that comes together again -/
theorem go_whenK {t : TT} {tu tz : TS} {σ : L2.St} {H : Hp} {D : Ends} {b : Bool} (J : L2.St → Hp → Prop) (h : EvT t σ H b) (h1 : b = true → ∀ nx : L2.St → Hp → Prop, (∀ σ' H', J σ' H' → nx σ' H') → Go tu { D with nx := nx } σ H) (h2 : b = false → ∀ H', Ex H H' → J σ H') (k : ∀ σ' H', J σ' H' → Go tz D σ' H') : Go (tSeq (tIfS t tu tNext) tz) D σ H :=
  go_when h (fun e => h1 e (tz D) fun σ' H' j => k σ' H' j H' (Ex.refl _)) fun e H' e' => k σ H' (h2 e H' e') H' (Ex.refl _)
theorem go_whenBK {t : TT} {tu tz : TS} {σ : L2.St} {H Hd : Hp} {D : Ends} (J : L2.St → Hp → Prop) (hb : Hd b.b = none) (s : Ex Hd H) (B : Bx H b) (h : EvBT K b t σ Hd) (h1 : ∀ H' Hn, GrB b Hd H Hn H' → ∀ nx : L2.St → Hp → Prop, (∀ σ' H'', J σ' H'' → nx σ' H'') → Go tu { D with nx := nx } σ H') (h2 : ∀ H' Hn, GrB b Hd H Hn H' → ∀ H'', Ex H' H'' → J σ H'') (k : ∀ σ' H', J σ' H' → Go tz D σ' H') : Go (tSeq (tIfS t tu tNext) tz) D σ H :=
  go_whenB hb s B h (fun H' Hn g => h1 H' Hn g (tz D) fun σ' H'' j => k σ' H'' j H'' (Ex.refl _)) fun H' Hn g H'' e => k σ H'' (h2 H' Hn g H'' e) H'' (Ex.refl _)
end
end Cot

set_option Elab.async false
set_option linter.all false
set_option maxRecDepth 100000
set_option maxHeartbeats 4000000
/-! zip of a tuple and a list. -/
namespace Cot
open PySem PySem.Spec PyProof.Rows L2 Evl RZ
abbrev zbT (h : Heap) (a b : Addr) : Heap := (h.push (tupItO a)).push (lstItO b)
abbrev zdT (h : Heap) (a b : Addr) : Heap := ((zbT h a b).push (twoO (.ref h.objs.size) (.ref (h.push (tupItO a)).objs.size))).push (twoO .none .none)
abbrev zcT (h : Heap) (a b : Addr) : Heap := (zbT h a b).push (twoO (.ref h.objs.size) (.ref (h.push (tupItO a)).objs.size))
abbrev zeT (h : Heap) (a b : Addr) : Heap := (zdT h a b).push (zipO (zbT h a b).objs.size (zcT h a b).objs.size)
set_option maxHeartbeats 1000000 in
theorem zipTL_new (a b : Addr) (xs ys : Array Value) :
    Meets (Builtin.«zip.__new__» ⟨[.type "zip", .ref a, .ref b], []⟩) (fun _ R s => s.heap.IsTuple a xs ∧ s.heap.IsList b ys ∧ R (.ok (.ret (.ref (zdT s.heap a b).objs.size))) { s with heap := zeT s.heap a b }) :=
  .of_wp fun prog w A R s hh => by
    obtain ⟨hp, gs, dr, tk, os⟩ := s
    obtain ⟨hL, hT, hh⟩ := hh
    have sb := sub_zip
    have hT2 : Heap.IsList (Shared.heap ⟨hp.push (tupItO a), gs, dr, tk, os⟩) b ys := Heap.IsList.push hT _
    have hL2 : Heap.IsTuple (Shared.heap ⟨hp, gs, dr, tk, os⟩) a xs := hL
    wp_walk using wpAny_pyIter_tuple hL2, wpAny_pyIter_list hT2
    exact ⟨_, rfl, hh⟩
section
variable {prog : Program} {w : World} {A : Around} {E : Value → Shared → Prop} {s : Shared}
theorem call_zipTL {a b : Addr} {xs ys : Array Value} {Q : Value → Shared → Prop} (hL : s.heap.IsTuple a xs) (hT : s.heap.IsList b ys)
    (hq : ∀ h', IsZip h' (s.heap.objs.size + 4) (s.heap.objs.size + 2) (s.heap.objs.size + 3) .none → IsTupOf2 h' (s.heap.objs.size + 2) (.ref s.heap.objs.size) (.ref (s.heap.objs.size + 1)) → IsTupOf2 h' (s.heap.objs.size + 3) .none .none →
      h'.IsTupleIter s.heap.objs.size a 0 → h'.IsListIter (s.heap.objs.size + 1) b 0 → (∀ c o, s.heap.get? c = some o → h'.get? c = some o) → Q (.ref (s.heap.objs.size + 4)) { s with heap := h' }) :
    wpAny (model prog w) A (call (.type "zip") [.ref a, .ref b]) Q E s := by
  refine callType_new F.called_zip (by decide) (F.typeCall_zip_2 _ _) (F.newCall_zip_2 _ _) (fun ob => F.args_object_init_3 ob _ _) F.entry_zip_new (zipTL_new a b xs ys) ⟨hL, hT, ?_⟩
  have s1 : (s.heap.push (tupItO a)).objs.size = s.heap.objs.size + 1 := Heap.size_push ..
  have s2 : (zbT s.heap a b).objs.size = s.heap.objs.size + 2 := by rw [Heap.size_push, s1]
  have s3 : (zcT s.heap a b).objs.size = s.heap.objs.size + 3 := by rw [Heap.size_push, s2]
  have s4 : (zdT s.heap a b).objs.size = s.heap.objs.size + 4 := by rw [Heap.size_push, s3]
  have p0 : (zeT s.heap a b).get? s.heap.objs.size = some (tupItO a) := Heap.get?_push_of_some _ (Heap.get?_push_of_some _ (Heap.get?_push_of_some _ (Heap.get?_push_of_some _ (Heap.get?_push_size _ rfl))))
  have p1 : (zeT s.heap a b).get? (s.heap.push (tupItO a)).objs.size = some (lstItO b) := Heap.get?_push_of_some _ (Heap.get?_push_of_some _ (Heap.get?_push_of_some _ (Heap.get?_push_size _ rfl)))
  have p2 : (zeT s.heap a b).get? (zbT s.heap a b).objs.size = some (twoO (.ref s.heap.objs.size) (.ref (s.heap.push (tupItO a)).objs.size)) := Heap.get?_push_of_some _ (Heap.get?_push_of_some _ (Heap.get?_push_size _ rfl))
  have p3 : (zeT s.heap a b).get? (zcT s.heap a b).objs.size = some (twoO .none .none) := Heap.get?_push_of_some _ (Heap.get?_push_size _ rfl)
  have p4 : (zeT s.heap a b).get? (zdT s.heap a b).objs.size = some (zipO (zbT s.heap a b).objs.size (zcT s.heap a b).objs.size) := Heap.get?_push_size _ rfl
  rw [s1, s2] at p2
  rw [s1] at p1
  rw [s3] at p3
  rw [s2, s3, s4] at p4
  show _ ∧ _
  rw [s4]
  exact ⟨⟨_, p4, rfl⟩, hq _ p4 p2 p3 ⟨_, p0, rfl, rfl⟩ ⟨_, p1, rfl, rfl⟩ fun c o x => Heap.get?_push_of_some _ (Heap.get?_push_of_some _ (Heap.get?_push_of_some _ (Heap.get?_push_of_some _ (Heap.get?_push_of_some _ x))))⟩
end
/-- the list at a and the tuple at b, item by item in new pairs -/
def ItzTL (K : PySem.W.Frag) (a b : Addr) : It :=
  ⟨fun i H => ∃ (xs ys : List V) (x y : V), SqT K H a xs ∧ SqL K H b ys ∧ xs[i]? = some x ∧ ys[i]? = some y, fun i H v H' => ∃ T x y, v = .ref T ∧ H T = none ∧ H' = upd H T (.tup [x, y]) ∧ (∀ xs, SqT K H a xs → xs[i]? = some x) ∧ ∀ ys, SqL K H b ys → ys[i]? = some y,
    fun i H => ∃ xs ys : List V, SqT K H a xs ∧ SqL K H b ys ∧ i ≤ xs.length ∧ i ≤ ys.length ∧ (i = xs.length ∨ i = ys.length)⟩
theorem turn_zipTL {P : Program} {w : World} {K : PySem.W.Frag} {elts : List Expr} {kk : Nat} {tpos : Pos} {a b z TI TO i1 i2 : Addr} (D : ZipApart z TI TO i1 i2 a b) :
    Turn P w K (.Tuple elts kk tpos) (ItzTL K a b) [z, TI, TO, i1, i2] z (fun i h => IsZip h z TI TO .none ∧ IsTupOf2 h TI (.ref i1) (.ref i2) ∧ (∃ x y, IsTupOf2 h TO x y) ∧ h.IsTupleIter i1 a i ∧ h.IsListIter i2 b i) where
  mem := by simp
  obj := fun i h st c hc => by
    obtain ⟨hz, hTI, ⟨x, y, hTO⟩, ⟨o1, e1, _, d1⟩, ⟨o2, e2, _, d2⟩⟩ := st
    simp only [List.mem_cons, List.not_mem_nil, or_false] at hc
    rcases hc with rfl | rfl | rfl | rfl | rfl
    · exact ⟨_, hz, fun _ q => nomatch q⟩
    · exact ⟨_, hTI, fun _ q => nomatch q⟩
    · exact ⟨_, hTO, fun _ q => nomatch q⟩
    · exact ⟨o1, e1, fun _ q => by rw [d1] at q; cases q⟩
    · exact ⟨o2, e2, fun _ q => by rw [d2] at q; cases q⟩
  keep := fun i h h' st k => by
    obtain ⟨hz, hTI, ⟨x, y, hTO⟩, ⟨o1, e1, r1⟩, ⟨o2, e2, r2⟩⟩ := st
    exact ⟨k z (by simp) _ hz, k TI (by simp) _ hTI, ⟨x, y, k TO (by simp) _ hTO⟩, ⟨o1, k i1 (by simp) _ e1, r1⟩, ⟨o2, k i2 (by simp) _ e2, r2⟩⟩
  item := by
    intro X hP hw hK hc i pins s σ H E I hf st hg
    subst hP hw hK
    obtain ⟨hz, hTI, ⟨x0, y0, hTO⟩, j1, j2⟩ := st
    obtain ⟨xs, ys, x, y, qx, qy, hx, hy⟩ := hg
    obtain ⟨its, rv, p, _⟩ := I.tuple qx
    obtain ⟨its2, rv2, p2, _⟩ := I.list qy
    obtain ⟨u, hu, ru⟩ := rv.get hx
    obtain ⟨u2, hu2, ru2⟩ := rv2.get hy
    have lt1 : i < its.toArray.size := by simpa using (List.getElem?_eq_some_iff.mp hu).1
    have lt2 : i < its2.toArray.size := by simpa using (List.getElem?_eq_some_iff.mp hu2).1
    have zl : z < s.heap.objs.size := Heap.lt_size hz
    have D1 := Draws.tuple (prog := X.prog) (w := X.w) (show X.A.in1.handled = none from I.ok.hd hc) i1 a D.l1i1 its.toArray
    have D2 := Draws.list (prog := X.prog) (w := X.w) (show X.A.in1.handled = none from I.ok.hd hc) i2 b D.l2i2 its2.toArray
    refine wpAny_pyNext_zipD2_item (sep_of D) D1 D2 hz hTI hTO ⟨j1, p⟩ ⟨j2, p2.isList⟩ lt1 lt2 fun v1 v2 h' tk e1 e2 z' TO' st1 st2 hT hsz hk => ?_
    have g1 : v1 = u := by
      have h2 : its.toArray[i]? = some u := by simpa using hu
      rw [h2] at e1
      cases e1
      rfl
    have g2 : v2 = u2 := by
      have h2 : its2.toArray[i]? = some u2 := by simpa using hu2
      rw [h2] at e2
      cases e2
      rfl
    subst g1 g2
    refine ⟨_, rfl, wpAny_letOwnedTupleGo_zip (s := { s with heap := h', toks := tk }) z' fun h2 z2 sb => ?_⟩
    have hT2 : h2.get? s.heap.objs.size = some (twoO v1 v2) := (sb.2 _ (Nat.ne_of_gt zl)).trans hT
    have new : ObjOk X.prog X.w (upd H s.heap.objs.size (.tup [x, y])) h2 s.heap.objs.size (.tup [x, y]) :=
      ⟨by show 2 ≤ sizeLine; decide, [v1, v2], .cons ru (.cons ru2 .nil), ⟨_, hT2, rfl, _, rfl⟩⟩
    have I1 : Inv X pins σ (upd H s.heap.objs.size (.tup [x, y])) { s with heap := h2, toks := tk } :=
      I.turnedNew (ch := [z, TI, TO, i1, i2]) (fun c o hb q => (sb.2 c (fun e => hb (by simp [e]))).trans (hk c o (fun e => hb (by simp [e])) (fun e => hb (by simp [e])) (fun e => hb (by simp [e])) (fun e => hb (by simp [e])) q)) hf (Nat.le_refl _) new
    refine ⟨.ref s.heap.objs.size, _, I1, rfl, ⟨_, x, y, rfl, I.hok.fresh (Nat.le_refl _), rfl, fun l hl => by rw [I.tuple_inj hl qx]; exact hx, fun l hl => by rw [I.list_inj hl qy]; exact hy⟩, ⟨z2, ?_, ⟨v1, v2, ?_⟩, ?_, ?_⟩, fun c hcm => ?_⟩
    · exact (sb.2 _ D.TIz).trans (hk _ _ D.TIz D.TITO D.TIi1 D.TIi2 hTI)
    · exact (sb.2 _ D.TOz).trans TO'
    · obtain ⟨o3, h3, r3⟩ := st1.1
      exact ⟨o3, (sb.2 _ D.i1z).trans h3, r3⟩
    · obtain ⟨o3, h3, r3⟩ := st2.1
      exact ⟨o3, (sb.2 _ D.i2z).trans h3, r3⟩
    · have hlt : c < s.heap.objs.size := by
        obtain ⟨_, e1, _⟩ := j1
        obtain ⟨_, e2, _⟩ := j2
        simp only [List.mem_cons, List.not_mem_nil, or_false] at hcm
        rcases hcm with rfl | rfl | rfl | rfl | rfl
        · exact zl
        · exact Heap.lt_size hTI
        · exact Heap.lt_size hTO
        · exact Heap.lt_size e1
        · exact Heap.lt_size e2
      rw [upd_ne (Nat.ne_of_lt hlt)]
      exact (hf c hcm).1
  done := by
    intro X hP hw hK hc i pins s σ H E I hf st hg
    subst hP hw hK
    obtain ⟨hz, hTI, ⟨x0, y0, hTO⟩, j1, j2⟩ := st
    obtain ⟨xs, ys, qx, qy, le1, le2, hend⟩ := hg
    obtain ⟨its, rv, p, _⟩ := I.tuple qx
    obtain ⟨its2, rv2, p2, _⟩ := I.list qy
    have l1 : its.toArray.size = xs.length := by rw [List.size_toArray]; exact rv.length.symm
    have l2 : its2.toArray.size = ys.length := by rw [List.size_toArray]; exact rv2.length.symm
    have D1 := Draws.tuple (prog := X.prog) (w := X.w) (show X.A.in1.handled = none from I.ok.hd hc) i1 a D.l1i1 its.toArray
    have D2 := Draws.list (prog := X.prog) (w := X.w) (show X.A.in1.handled = none from I.ok.hd hc) i2 b D.l2i2 its2.toArray
    refine wpAny_pyNext_zipD2_end (sep_of D) D1 D2 hz hTI hTO ⟨j1, p⟩ ⟨j2, p2.isList⟩ (by omega) (by omega) (by omega) fun h' tk hk => ⟨rfl, I.turnedL (t' := tk) (ch := [z, TI, TO, i1, i2]) (fun c o hb q => hk c o (fun e => hb (by simp [e])) (fun e => hb (by simp [e])) (fun e => hb (by simp [e])) (fun e => hb (by simp [e])) q) hf⟩
  self := fun A i s Q E st h => wpAny_pyIter_zip st.1 h
def iZipTL (K : PySem.W.Frag) (ta : TA) : TI := fun σ H R => ta σ H fun vs H1 => ∃ a b xs ys, vs = [.ref a, .ref b] ∧ SqT K H1 a xs ∧ SqL K H1 b ys ∧ R (ItzTL K a b) H1
theorem pi_zipTL {X : Cx} {e e2 : Expr} {ta : TA} {p pos tpos : Pos} {elts : List Expr} {kk : Nat} (hg : Gl X "zip") (hm : X.mg "zip" = none) (ha : PA X [e, e2] ta) (hs : starEach [e, e2] X.env = (false, eval e X.env) :: starEach [e2] X.env := by rfl) (hpl : (backTo pos (starEach [e2] X.env)).any (·.1) = false := by rfl) :
    PI X (.Tuple elts kk tpos) (.Call (.Name "zip" p) [e, e2] [] pos) (iZipTL X.K ta) := by
  refine ⟨fun pins s σ H R I hw => ?_⟩
  refine Call_ (ld_blt I hg hm boot_zip (PyProof.Rows.callWith_type1 (thn (ha.run pos pins s σ H _ I hw) fun us s1 hh => ?_) hs hpl))
  obtain ⟨vs, H1, I1, r1, a, b, xs, ys, rfl, qx, qy, q⟩ := hh
  cases r1 with
  | cons ra rr =>
    cases rr with
    | cons rb rr =>
      cases rr
      cases ra
      cases rb
      obtain ⟨its, rv, p1, _⟩ := I1.tuple qx
      obtain ⟨its2, rv2, p2, _⟩ := I1.list qy
      obtain ⟨o2, ho2, _⟩ := id p1
      refine call_zipTL (show s1.heap.IsTuple a its.toArray from p1) p2.isList fun h' hz hTI hTO h1 h2 hk => wpAny_pyIter_zip hz ?_
      have I2 : Inv X pins σ H1 { s1 with heap := h' } := I1.kept (t' := s1.toks) hk
      refine ⟨s1.heap.objs.size + 4, [s1.heap.objs.size + 4, s1.heap.objs.size + 2, s1.heap.objs.size + 3, s1.heap.objs.size, s1.heap.objs.size + 1], _, _, H1, rfl, I2, turn_zipTL (PySem.W.ktu_apart s1.heap.objs.size a b (Heap.lt_size ho2) p2.lt), ⟨hz, hTI, ⟨_, _, hTO⟩, h1, h2⟩, fun c hcm => ?_, q⟩
      have hle : s1.heap.objs.size ≤ c := by
        simp only [List.mem_cons, List.not_mem_nil, or_false] at hcm
        rcases hcm with rfl | rfl | rfl | rfl | rfl <;> first | exact Nat.le_refl _ | exact Nat.le_add_right _ _
      exact I1.fpOk hle (I1.hok.fresh hle)
section
variable {K : PySem.W.Frag} {H H' Hd Hd' Hn H1 H2 Hm : Hp} {σ : L2.St} {ta tb te : TE} {tr : TA} {n i j j2 : Nat} {ds es : List PyData} {a b l : Addr} {xs ys : List V} {y v : V} {D : Ends} {tz : TS}
theorem walk_zipTL {n : Nat} (hn : n = min xs.length ys.length) : Walk (ItzTL K a b) n (fun H => SqT K H a xs ∧ SqL K H b ys) (YPair (fun i => xs[i]?) (fun i => ys[i]?)) := by
  subst hn
  refine ⟨fun i _ hi q => ?_, fun _ q => ⟨xs, ys, q.1, q.2, by omega, by omega, by omega⟩, fun i H v H' _ q y => ?_⟩
  · have h1 : i < xs.length := by omega
    have h2 : i < ys.length := by omega
    exact ⟨xs, ys, xs[i], ys[i], q.1, q.2, by simp [h1], by simp [h2]⟩
  · obtain ⟨T, x, z, h1, h2, h3, h4, h5⟩ := y
    exact ⟨T, x, z, h1, h2, h3, h4 xs q.1, h5 ys q.2⟩
theorem ei_zipTL (h : EvDA K tr σ Hd [.tuple ds, .list es]) (hl : ds.length = es.length) : EvI K (iZipTL K tr) (g2 K j j2) σ Hd ds.length (SPair K j j2 (fun i => ds[i]?) (fun i => es[i]?)) := fun H s R r =>
  h H s _ fun vs H2 Hn g hd => by
    cases hd with
    | cons h1 h2 =>
      cases h2 with
      | cons h2 h3 =>
        cases h3
        cases h1 with
        | @tup a xs ds hs hall =>
          cases h2 with
          | @lst b ys es hs2 hall2 =>
            refine ⟨a, b, xs, ys, rfl, ex_t g.sub hs, ex_l g.sub hs2, r _ H2 Hn _ _ g (walk_zipTL (xs := xs) (ys := ys) (by rw [dpa_len hall, dpa_len hall2]; omega)) (fun H' e => ⟨ex_t e hs, ex_l e hs2⟩) fun i x H' H'' σ' k hi e y q => ?_⟩
            exact pair_turn (fun v e => dpa_get2 hall e) (fun v e => dpa_get2 hall2 e) y q
end
end Cot

set_option Elab.async false
set_option linter.all false
set_option maxRecDepth 100000
set_option maxHeartbeats 4000000
/-! Data in a tuple; str(..), int(text); written dicts with texts as keys; comprehensions over a drawn range. -/
namespace Cot
open PySem PySem.Spec PyProof.Rows L2 Evl
/-! ### x in a tuple of data -/
def rInDT (K : PySem.W.Frag) : R2 := fun x y H Q => ∃ d ds, Dp K H x d ∧ Dp K H y (.tuple ds) ∧ SeqAt.shaped d = true ∧ SeqAt.shaped (.tuple ds) = true ∧ Q (.bl (ds.any fun z => PyData.eqv z d)) H
def rNotInDT (K : PySem.W.Frag) : R2 := fun x y H Q => ∃ d ds, Dp K H x d ∧ Dp K H y (.tuple ds) ∧ SeqAt.shaped d = true ∧ SeqAt.shaped (.tuple ds) = true ∧ Q (.bl (!ds.any fun z => PyData.eqv z d)) H
section
variable {X : Cx}
theorem op_inDT (hu : X.A.units + 65 < cLine) : OpR X (compareOp .In) (rInDT X.K) := by
  intro pins s σ H x y v u Q I rx ry h
  obtain ⟨d, ds, hd, he, sd, se, q⟩ := h
  obtain ⟨as, r1⟩ := Dp.reads I d x v hd rx
  obtain ⟨bs, r2⟩ := Dp.reads I (.tuple ds) y u he ry
  exact SeqAt.in_tuple_reads r2 r1 (SeqAt.canLay_of_shaped se) (SeqAt.canLay_of_shaped sd) (room_in_shaped sd hu) ⟨.bl _, H, I, rfl, q⟩
theorem op_notInDT (hu : X.A.units + 65 < cLine) : OpR X (compareOp .NotIn) (rNotInDT X.K) := by
  intro pins s σ H x y v u Q I rx ry h
  obtain ⟨d, ds, hd, he, sd, se, q⟩ := h
  obtain ⟨as, r1⟩ := Dp.reads I d x v hd rx
  obtain ⟨bs, r2⟩ := Dp.reads I (.tuple ds) y u he ry
  exact SeqAt.notIn_tuple_reads r2 r1 (SeqAt.canLay_of_shaped se) (SeqAt.canLay_of_shaped sd) (room_in_shaped sd hu) ⟨.bl _, H, I, rfl, q⟩
/-! ### str(..), int(text) -/
def rStr : List V → Hp → VK → Prop := fun xs H Q => (∃ i, xs = [.int i] ∧ i.natAbs.log2 < 1920 ∧ Q (.str (Str.ofString (toString i))) H) ∨ ∃ a, xs = [.str a] ∧ Q (.str a) H
theorem call_strQ : CallR X (.type "str") rStr := fun pins s σ H xs us Q I r h => by
  rcases h with ⟨i, e, hz, q⟩ | ⟨a, e, q⟩
  · exact call_str_int pins s σ H xs us Q I r ⟨i, e, hz, q⟩
  · exact SkE.call_str_str pins s σ H xs us Q I r ⟨a, e, q⟩
def rIntS : List V → Hp → VK → Prop := fun xs H Q => ∃ a n, xs = [.str a] ∧ PySem.intText? a = some n ∧ a.length ≤ 640 ∧ Q (.int n) H
theorem call_intS : CallR X (.type "int") rIntS := call_int_str
end
section
variable {K : PySem.W.Frag} {w : World} {b : Bid} {X : Cx} {H H' Hd Hd' Hn H1 H2 Hm : Hp} {σ : L2.St} {ta tb tc te tx tl to : TE} {d : PyData} {ds es : List PyData} {tr : TA} {i j j2 n : Nat} {p : Int → Prop}
theorem ev_inDT (ha : EvD K ta σ Hd d) (hb : EvD K tb σ Hd (.tuple ds)) (s1 : SeqAt.shaped d = true) (s2 : SeqAt.shaped (.tuple ds) = true) : Ev (tOp (rInDT K) ta tb) σ Hd (.bl (ds.any fun z => PyData.eqv z d)) := fun H s Q q =>
  ha H s _ fun v H2 Hn g h1 => hb.mono g.dx H2 g.sub _ fun v2 H3 Hm g2 h2 => ⟨d, ds, dp_mono (g2.dx.trans g2.sub) _ h1, dp_mono g2.sub _ h2, s1, s2, q H3 (g.ex.trans g2.ex)⟩
theorem ev_strI {k : Int} (h : Ev ta σ H (.int k)) (hk : k.natAbs.log2 < 1920) : Ev (tCB rStr (tCons ta tNil)) σ H (.str (Str.ofString (toString k))) := fun H1 e Q q => h H1 e _ fun H2 e2 => .inl ⟨k, rfl, hk, q H2 e2⟩
theorem ev_strS {a : Str} (h : Ev ta σ H (.str a)) : Ev (tCB rStr (tCons ta tNil)) σ H (.str a) := fun H1 e Q q => h H1 e _ fun H2 e2 => .inr ⟨a, rfl, q H2 e2⟩
theorem ev_intS {a : Str} {k : Int} (h : Ev ta σ H (.str a)) (hk : PySem.intText? a = some k) (hl : a.length ≤ 640) : Ev (tCB rIntS (tCons ta tNil)) σ H (.int k) := fun H1 e Q q => h H1 e _ fun H2 e2 => ⟨a, k, rfl, hk, hl, q H2 e2⟩
/-! ### a written dict with texts as keys -/
def lookS (z : Str) (kvs : List (Str × V)) : Option V := (kvs.find? fun e => decide (e.1 = z)).map (·.2)
/-- at a: a written dict of these keys and values -/
structure DicK (K : PySem.W.Frag) (w : World) (a : Addr) (kvs : List (Str × V)) : Prop where
  some : ∃ es n, KDict K w a es n ∧ ∀ z, ∃ r, PySem.W.nsIn K a z = Option.some r ∧ RelO (lookS z kvs) r
def rInDK (K : PySem.W.Frag) (w : World) (neg : Bool) : R2 := fun x y H Q => ∃ z a kvs, x = .str z ∧ y = .ref a ∧ DicK K w a kvs ∧ Q (.bl (if neg then !(lookS z kvs).isSome else (lookS z kvs).isSome)) H
theorem relO_isSome {o : Option V} {r : Option Value} (h : RelO o r) : r.isSome = o.isSome := by
  cases o <;> cases r <;> first | rfl | exact h.elim
theorem op_inDK {w : World} (eK : X.K = K) (ew : X.w = w) : OpR X (compareOp .In) (rInDK K w false) := by
  subst eK ew
  intro pins s σ H x y v u Q I rx ry h
  obtain ⟨z, a, kvs, rfl, rfl, ⟨es, n, D, hd⟩, q⟩ := h
  obtain ⟨r, hr, ho⟩ := hd z
  exact op_in_kd D pins s σ H _ _ v u Q I rx ry ⟨z, r, rfl, rfl, hr, by rw [relO_isSome ho]; exact q⟩
theorem op_notInDK {w : World} (eK : X.K = K) (ew : X.w = w) : OpR X (compareOp .NotIn) (rInDK K w true) := by
  subst eK ew
  intro pins s σ H x y v u Q I rx ry h
  obtain ⟨z, a, kvs, rfl, rfl, ⟨es, n, D, hd⟩, q⟩ := h
  obtain ⟨r, hr, ho⟩ := hd z
  exact op_notIn_kd D pins s σ H _ _ v u Q I rx ry ⟨z, r, rfl, rfl, hr, by rw [relO_isSome ho]; exact q⟩
theorem ix_dk {w : World} (eK : X.K = K) (ew : X.w = w) : IxR X (rIxD K w) := by
  subst eK ew
  exact ix_kdict
theorem ev_inDK {neg : Bool} {z : Str} {a : Addr} {kvs : List (Str × V)} (hz : Ev ta σ H (.str z)) (ha : Ev tb σ H (.ref a)) (D : DicK K w a kvs) : Ev (tOp (rInDK K w neg) ta tb) σ H (.bl (if neg then !(lookS z kvs).isSome else (lookS z kvs).isSome)) := ev_op hz ha fun H1 _ _ q => ⟨z, a, kvs, rfl, rfl, D, q H1 (Ex.refl H1)⟩
theorem ev_ixDK {z : Str} {a : Addr} {kvs : List (Str × V)} {v : V} (ha : Ev ta σ H (.ref a)) (hz : Ev tb σ H (.str z)) (D : DicK K w a kvs) (hv : lookS z kvs = some v) : Ev (tOp (rIxD K w) ta tb) σ H v := ev_op ha hz fun H1 _ _ q => by
  obtain ⟨es, n, Dk, hd⟩ := D
  obtain ⟨r, hr, ho⟩ := hd z
  rw [hv] at ho
  cases r with
  | none => exact ho.elim
  | some u => exact ⟨a, z, v, rfl, rfl, ⟨es, n, u, Dk.at_, Dk.lit, hr, ho⟩, q H1 (Ex.refl H1)⟩
abbrev EntRel : (Str × V) → DictEntry → Prop := fun kv e => (∃ t, e.key = .str kv.1 t) ∧ RelV kv.2 e.val
theorem dicK_of {a : Addr} {n : Nat} {es : List DictEntry} {kvs : List (Str × V)} (hl : K.lookup a = some ⟨.type "dict", none, .dict es.toArray n, #[]⟩) (hk : PySem.W.KeysLit w.params es) (low : (a == sysModules) = false) (hp : Paired EntRel kvs es) : DicK K w a kvs := by
  refine ⟨es.toArray, n, ⟨hl, hk, low⟩, fun z => ?_⟩
  unfold PySem.W.nsIn
  rw [hl]
  dsimp only
  have hf : RelO (lookS z kvs) ((es.find? fun e => e.key.isStr z).map (·.val)) ∧ es.any (·.refKey) = false := by
    clear hl hk low
    induction hp with
    | nil => exact ⟨trivial, rfl⟩
    | @cons kv e kvs es h hr ih =>
      obtain ⟨⟨t, ht⟩, rv⟩ := h
      have he : e.key.isStr z = decide (kv.1 = z) := by rw [ht]; rfl
      have hr2 : e.refKey = false := by unfold DictEntry.refKey; rw [ht]
      refine ⟨?_, by rw [List.any_cons, hr2]; exact ih.2⟩
      unfold lookS
      rw [List.find?_cons, List.find?_cons, he]
      cases decide (kv.1 = z) with
      | true => exact rv
      | false => exact ih.1
  obtain ⟨h1, h2⟩ := hf
  cases hx : es.find? fun e => e.key.isStr z with
  | some e =>
    rw [hx] at h1
    exact ⟨some e.val, rfl, h1⟩
  | none =>
    rw [hx] at h1
    refine ⟨none, ?_, h1⟩
    dsimp only
    rw [if_neg (by rw [h2]; decide)]
/-! ### a comprehension over a drawn range -/
theorem bn_lcR {te tt : _} {g : TG} {vs : List Nat} {Ps : Int → List PyData → Prop} (h : EvB K b ta σ Hd (isI p)) (k : ∀ (m : Int) (Hn : Hp), p m → Ex Hd Hn → EvBN K b (tLc (iRng1 (tCons (tC (.int m)) tNil)) g tt te vs) σ Hn (Ps m)) :
    EvBN K b (tLc (iRng1 (tCons ta tNil)) g tt te vs) σ Hd (fun ds => ∃ m, p m ∧ Ps m ds) := fun hb H s B Q q =>
  h hb H s B _ fun v H2 Hn d gr hd hp => by
    obtain ⟨m, rfl, pm⟩ := hp
    cases hd
    exact k m Hn pm gr.dx (gr.bn hb B) H2 gr.sub gr.bx Q fun pp xs H3 Hm ds g3 h1 h2 h3 h4 h5 => q pp xs H3 Hm ds (gr.trans g3 hb B) (gr.fresh h1) h2 h3 h4 ⟨m, pm, h5⟩
/-! ### a star in a display -/
theorem eda_star (h : EvD K te σ Hd (.list ds)) (hr : EvDA K tr σ Hd es) : EvDA K (StX.tStar K te tr) σ Hd (ds ++ es) := fun H s Q q =>
  h H s _ fun v H1 Hn g hd => by
    cases hd with
    | @lst a xs ds hs hall => exact ⟨a, xs, rfl, Or.inr (ex_l g.sub hs), hr.mono g.dx H1 g.sub _ fun ys H2 Hm g2 h2 => q (xs ++ ys) H2 Hm (g.trans g2) (dpa_app (dpa_mono g2.dx _ hall) h2)⟩
/-- a test of each sign of a text -/
theorem en_signs {z : Str} {f : Nat → Bool} {vs : List Nat} (h : Ev tl σ Hd (.str z)) (hl : z.length ≤ 40000)
    (ht : ∀ (σ2 : L2.St) (Hn : Hp) (k : Nat), Ex Hd Hn → σ2 = (wipe σ vs).set j (some (.str (sg k))) → wipe σ2 vs = wipe σ vs ∧ Ev te σ2 Hn (.bl (f k))) :
    EvN K (tLc (iStr tl) (gName j) tYes te vs) σ Hd ((z.cps.toList.map f).map .bool) := by
  have e1 : (z.cps.toList.map f).map PyData.bool = givenD z.length (fun _ => true) (fun i => .bool (f ((z.cps.toList[i]?).getD 0))) := by
    rw [givenD_all]
    apply List.ext_getElem
    · simp [Str.length]
    · intro i h1 h2
      simp at h1
      simp [h1]
  rw [e1]
  refine en_lc (ei_str (K := K) h) hl _ _ ?_
  rintro i σ2 Hn hi ex ⟨v, d, hd, hv, rfl⟩
  unfold sigs at hd
  rw [List.getElem?_map] at hd
  obtain ⟨k, hk, rfl⟩ := Option.map_eq_some_iff.mp hd
  cases hv
  obtain ⟨a1, a2⟩ := ht _ Hn k ex rfl
  exact ⟨a1, et_yes, fun _ => by rw [hk]; exact ed_bool a2⟩
theorem dpa_strs : ∀ (l : List Str), DpAll K Hd (l.map V.str) (l.map PyData.str)
  | [] => .nil
  | x :: l => .cons (.str x) (dpa_strs l)
theorem cutD_from (x : PyData) (ds : List PyData) : cutD (x :: ds) (some 1) none = ds := by
  unfold cutD
  rw [HT.sIx_none, show (1 : Int) = ((1 : Nat) : Int) from rfl, HT.sIx_nat]
  have : min 1 (x :: ds).length = 1 := by simp
  rw [this]
  simp
theorem joinL_nil : ∀ (ps : List (List Nat)), TL.joinL [] ps = ps.flatten
  | [] => rfl
  | [p] => by simp [TL.joinL]
  | p :: q :: ps => by
    have ih := joinL_nil (q :: ps)
    simp only [TL.joinL, List.nil_append, List.append_nil, List.flatten_cons] at ih ⊢
    rw [ih]
theorem join_signs (ns : List Nat) : Txt.join "" (ns.map sg) = (⟨ns.toArray⟩ : Str) := by
  refine TL.ext_tl ?_
  rw [TL.join_eq, TL.tl_join, show TL.tl ("" : Str) = [] by decide +kernel, joinL_nil, List.map_map]
  show ((ns.map (TL.tl ∘ sg)).flatten) = ns
  induction ns with
  | nil => rfl
  | cons n ns ih => rw [List.map_cons, List.flatten_cons, ih]; rfl
/-- a drawn tuple and another one -/
theorem eb_catT {Ps Ps' : List PyData → Prop} (ha : EvB K b ta σ Hd (fun d => ∃ ds, d = .tuple ds ∧ Ps ds)) (hb' : EvB K b tb σ Hd (fun d => ∃ ds, d = .tuple ds ∧ Ps' ds)) (hl : ∀ ds es, Ps ds → Ps' es → ds.length + es.length ≤ 100000) : EvB K b (tOp (rCatA K) ta tb) σ Hd (fun d => ∃ ds, d = .tuple ds ∧ ∃ d1 d2, ds = d1 ++ d2 ∧ Ps d1 ∧ Ps' d2) := fun hb H s B Q q =>
  ha hb H s B _ fun v H2 Hn d g hd hp => hb'.mono g.dx (g.bn hb B) H2 g.sub g.bx _ fun v2 H3 Hm d2 g3 hd3 hp3 => by
    obtain ⟨ds, rfl, p1⟩ := hp
    obtain ⟨es, rfl, p2⟩ := hp3
    have hd' := dp_mono g3.dx _ hd
    have G := g.trans g3 hb B
    cases hd' with
    | @tup a xs ds hs hall =>
      have h3 := hd3
      cases hd3 with
      | @tup a2 ys es hs2 hall2 =>
        refine ⟨a, a2, xs, ys, rfl, rfl, ex_t g3.sub hs, ex_t g3.sub hs2, sz_of (by rw [dpa_len hall, dpa_len hall2]; exact hl ds es p1 p2), fun e => ?_, fun e e2 => ?_, fun e e2 r hr => ?_⟩
        · subst e
          cases hall
          exact q _ H3 Hm _ G h3 ⟨_, rfl, [], es, rfl, p1, p2⟩
        · subst e2
          cases hall2
          exact q _ H3 Hm _ G (.tup hs hall) ⟨_, rfl, ds, [], (List.append_nil _).symm, p1, p2⟩
        · exact q (.ref r) _ _ _ (G.trans (GrB.of (Gr.new g3.sub hr) g3.bx) hb B) (.tup (st_of upd_same) (dpa_mono (Ex.new (fresh_back g3.sub hr)) _ (dpa_app hall hall2))) ⟨_, rfl, ds, es, rfl, p1, p2⟩
end
end Cot

set_option Elab.async false
set_option linter.all false
set_option maxRecDepth 100000
set_option maxHeartbeats 4000000
/-! d.update(e) of dicts of ints and texts; x in d; x in a written tuple of flat things. -/
namespace Cot
open PySem PySem.Spec PyProof.Rows L2 Evl
def rUpd : V → List V → Hp → VK → Prop := fun x xs H Q => ∃ a c kvs more, x = .ref a ∧ xs = [.ref c] ∧ a ≠ c ∧ H a = some (.dK kvs) ∧ H c = some (.dK more) ∧ kvs.length + more.length ≤ sizeLine ∧ Q .non (upd H a (.dK (mergeK kvs more)))
section
variable {X : Cx}
theorem mt_dupd : MtR X "dict.update" rUpd := by
  intro pins s σ H x xs v us Q I rx rs h
  obtain ⟨a, c, kvs, more, rfl, rfl, ne, ha, hc, hz, q⟩ := h
  cases rx
  obtain ⟨u, rfl, ru⟩ := vals1 rs
  cases ru
  obtain ⟨z1, hd1, vs1, r1, d1⟩ := dk_of I.hok ha
  obtain ⟨z2, hd2, vs2, r2, d2⟩ := dk_of I.hok hc
  refine call_meetsIn PySem.F.slot_dict_update d1.typeIs PySem.F.entry_dict_update (PySem.F.args_dict_update_2 _ _) (meets_dict_update (mixKind X.prog X.w) a c ne hd2) ⟨vs1, vs2, d1, d2, by rw [← r1.length, ← r2.length]; exact hz, fun h' dd' do' hs => ?_⟩
  have he : ∃ q, h'.get? a = some q := let ⟨q, _, _, hq, _⟩ := dd'; ⟨q, hq⟩
  have hl : (mergeK kvs more).length ≤ sizeLine := by have := length_mergeK more kvs; omega
  exact ⟨.non, _, d_write I (by rw [ha]; exact True.intro) hs he (dk_new hl hd1 (KV.merge r2 r1) dd'), rfl, q⟩
end
section
variable {K : PySem.W.Frag} {w : World} {b : Bid} {X : Cx} {H H' Hd Hd' Hn H1 H2 Hm : Hp} {σ : L2.St} {ta tb tc te tx tl to : TE} {d : PyData} {ds es : List PyData} {tr : TA} {i j j2 n : Nat} {p : Int → Prop} {D : Ends} {tz : TS}
/-- x = {..} -/
theorem go_asgK {kvs : List (Key × V)} (h : EvKN te σ H kvs) (k : ∀ p H', Ex H H' → H p = none → H' p = some (.dK kvs) → Go tz D (σ.set i (some (.ref p))) H') : Go (tSeq (tAsg te (gName i)) tz) D σ H := fun H1 e1 =>
  h H1 e1 _ fun p H2 e2 n2 hp => k p H2 (e1.trans e2) (fresh_back e1 n2) hp H2 (Ex.refl _)
/-- d.update({..}) -/
theorem go_dupd {a : Addr} {kvs more : List (Key × V)} (ha : Ev ta σ H (.ref a)) (hk : H a = some (.dK kvs)) (h : EvKN te σ H more) (hl : kvs.length + more.length ≤ 1000) (k : Go tz D σ (upd H a (.dK (mergeK kvs more)))) : Go (tSeq (tDrop (tBM K "dict" rUpd ta (tCons te tNil))) tz) D σ H := fun H1 e1 =>
  ha H1 e1 _ fun H2 e2 => ⟨Or.inr (Or.inr (Or.inl ⟨rfl, .inl ⟨kvs, (e1.trans e2) _ _ hk⟩⟩)), h H2 (e1.trans e2) _ fun p H3 e3 n3 hp => ⟨a, p, kvs, more, rfl, rfl, ne_of_none ((e1.trans e2) _ _ hk) n3, e3 _ _ ((e1.trans e2) _ _ hk), hp, by rw [sizeLine_eq]; omega, k _ (ex_upd2 ((e1.trans e2).trans e3))⟩⟩
theorem ev_dnotinK {kvs : List (Key × V)} {k : Key} (hk : Ev tx σ Hd (kV k)) (h : EvK te σ Hd kvs) : Ev (tDNotIn tx te) σ Hd (.bl (!(valV kvs k).isSome)) := fun H s Q q =>
  hk H s _ fun H1 e1 => h H1 (s.trans e1) _ fun p H2 e2 hp => ⟨p, _, rfl, DGet.k hp, q H2 (e1.trans e2)⟩
theorem ev_dinK {kvs : List (Key × V)} {k : Key} (hk : Ev tx σ Hd (kV k)) (h : EvK te σ Hd kvs) : Ev (tDIn tx te) σ Hd (.bl (valV kvs k).isSome) := fun H s Q q =>
  hk H s _ fun H1 e1 => h H1 (s.trans e1) _ fun p H2 e2 hp => ⟨p, _, rfl, DGet.k hp, q H2 (e1.trans e2)⟩
theorem ev_dget2K {kvs : List (Key × V)} {k : Key} {z : V} (h : EvK te σ Hd kvs) (hk : Ev tx σ Hd (kV k)) (hz : Ev ta σ Hd z) : Ev (tDGet2 te tx ta) σ Hd ((valV kvs k).getD z) := fun H s Q q =>
  h H s _ fun p H1 e1 h1 => ⟨p, rfl, .inl ⟨kvs, .inl h1⟩, hk H1 (s.trans e1) _ fun H2 e2 => hz H2 ((s.trans e1).trans e2) _ fun H3 e3 => ⟨_, DGet.k ((e2.trans e3) _ _ h1), q H3 ((e1.trans e2).trans e3)⟩⟩
/-- x in (..), of flat things -/
theorem ev_inFlat {neg : Bool} {v : V} {vs : List V} (h : Ev ta σ H v) (hr : EvA tr σ H vs) (hl : vs.length ≤ 1000) (f1 : flatV v = true) (f2 : vs.all flatV = true) : Ev (tOp (rIn K neg) ta (tTup tr)) σ H (.bl (if neg then !inV v vs else inV v vs)) := fun H1 e1 Q q =>
  h H1 e1 _ fun H2 e2 => hr H2 (e1.trans e2) _ fun H3 e3 => ⟨sz_of (by omega), fun p hp => ⟨p, _, rfl, .inr (.inl (.inl upd_same)), f1, f2, q _ ((e2.trans e3).trans (Ex.new hp))⟩⟩
end
end Cot

namespace C_k49
open PySem PySem.Spec PyProof.Rows L2 Evl Cot RZ L2H
local macro_rules | `(tactic| walk_at "side") => `(tactic| first | decide | omega | (show (0 : Int) < _; omega) | (show (0 : Int) < _ ∧ _ < (1073741824 : Int); omega) | (exact Or.inr (by omega)) | (exact Or.inl (by omega)) | (show (0 : Int) ≤ _ ∧ _ ≤ (1000000 : Int) ∧ _; refine ⟨by decide, by decide, by decide⟩))
local macro_rules | `(tactic| walk_at "rv") => `(tactic| first
  | with_reducible exact rv_I0
  | ((with_reducible apply rv_I); walk_at "side")
  | ((with_reducible apply rv_eq); rfl)
  | ((with_reducible apply rv_ne); rfl)
  | ((with_reducible apply rv_ixL); (first | exact sq_of (by assumption) | exact sq_of upd_same); rfl)
  | with_reducible exact rv_isN)
local macro_rules | `(tactic| walk_at "ev") => `(tactic| first
  | ((with_reducible apply ev_var); rfl)
  | with_reducible exact ev_c
  | ((with_reducible apply ev_op); walk_at "ev"; walk_at "ev"; walk_at "rv")
  | ((with_reducible apply ev_un); walk_at "ev"; exact ru_neg)
  | ((with_reducible apply ev_chainB); walk_at "ev"; walk_at "ev"; walk_at "rv"; walk_at "ev"; walk_at "rv")
  | ((with_reducible apply ev_andB); walk_at "ev"; walk_at "ev")
  | ((with_reducible apply ev_orB); walk_at "ev"; walk_at "ev")
  | ((with_reducible apply ev_notV); walk_at "ev")
  | ((with_reducible apply ev_ifB); walk_at "et"; walk_at "ev"; walk_at "ev"))
local macro_rules | `(tactic| walk_at "ea") => `(tactic| first
  | with_reducible exact ea_nil
  | ((with_reducible apply ea_cons); walk_at "ev"; walk_at "ea"))
local macro_rules | `(tactic| walk_at "et") => `(tactic| first
  | ((with_reducible apply et_test); walk_at "ev")
  | ((with_reducible apply et_B); walk_at "ev")
  | ((with_reducible apply et_not); walk_at "et")
  | ((with_reducible apply et_andB); walk_at "et"; walk_at "et")
  | ((with_reducible apply et_orB); walk_at "et"; walk_at "et"))
local macro_rules | `(tactic| walk_at "kb") => `(tactic| first | exact kb_NoneType_bool | exact kb_NoneType_int | exact kb_NoneType_str | exact kb_NoneType_list | exact kb_NoneType_tuple | exact kb_bool_bool | exact kb_bool_int | exact kb_bool_str | exact kb_bool_list | exact kb_bool_tuple | exact kb_int_bool | exact kb_int_int | exact kb_int_str | exact kb_int_list | exact kb_int_tuple | exact kb_str_bool | exact kb_str_int | exact kb_str_str | exact kb_str_list | exact kb_str_tuple | exact kb_list_bool | exact kb_list_int | exact kb_list_str | exact kb_list_list | exact kb_list_tuple | exact kb_tuple_bool | exact kb_tuple_int | exact kb_tuple_str | exact kb_tuple_list | exact kb_tuple_tuple)
local macro_rules | `(tactic| walk_at "ed") => `(tactic| first
  | ((with_reducible apply ed_var); rfl; first | assumption | exact Dp.int _ | exact Dp.bl _ | exact Dp.str _ | exact Dp.non)
  | ((with_reducible apply ed_tup); walk_at "eda"; (simp only [List.length_cons, List.length_nil]; decide))
  | ((with_reducible apply ed_new); walk_at "en")
  | ((with_reducible apply ed_int); walk_at "ev")
  | ((with_reducible apply ed_bool); walk_at "ev")
  | ((with_reducible apply ed_str); walk_at "ev")
  | ((with_reducible apply ed_non); walk_at "ev"))
local macro_rules | `(tactic| walk_at "en") => `(tactic| first
  | ((with_reducible apply en_lst); walk_at "eda"; (simp only [List.length_cons, List.length_nil]; decide)))
local macro_rules | `(tactic| walk_at "eda") => `(tactic| first
  | with_reducible exact eda_nil
  | ((with_reducible apply eda_cons); walk_at "ed"; walk_at "eda"))
local macro_rules | `(tactic| walk_at "ev") => `(tactic| first
  | ((with_reducible apply ev_isi); walk_at "ed"; walk_at "kb")
  | ((with_reducible apply ev_isiT2); walk_at "ed"; walk_at "kb"; walk_at "kb")
  | ((with_reducible apply ev_eqD); walk_at "ed"; walk_at "ed"; rfl; rfl)
  | ((with_reducible apply ev_neD); walk_at "ed"; walk_at "ed"; rfl; rfl)
  | ((with_reducible apply ev_lenL); walk_at "ed")
  | ((with_reducible apply ev_lenT); walk_at "ed"))

def topS (i : Nat) : Stmt := PySem.Challenge.pw_cotide_k49_texts_of_no_deed.main.body.getD i (.Pass ⟨0, 0, 0, 0⟩)
abbrev s_is_name : Stmt := topS 11
abbrev N_is_name : List Str := ["word", "letter"]
theorem sc_is_name : FnScope N_is_name ["word"] (defScope s_is_name) := ⟨rfl, rfl, rfl, by decide +kernel, rfl, by decide +kernel, by decide +kernel⟩
abbrev s_read_number : Stmt := topS 12
abbrev N_read_number : List Str := ["word", "figure"]
theorem sc_read_number : FnScope N_read_number ["word"] (defScope s_read_number) := ⟨rfl, rfl, rfl, by decide +kernel, rfl, by decide +kernel, by decide +kernel⟩
abbrev s_read_what : Stmt := topS 13
abbrev N_read_what : List Str := ["word"]
theorem sc_read_what : FnScope N_read_what ["word"] (defScope s_read_what) := ⟨rfl, rfl, rfl, by decide +kernel, rfl, by decide +kernel, by decide +kernel⟩
abbrev s_read_thing : Stmt := topS 14
abbrev N_read_thing : List Str := ["kind", "word"]
theorem sc_read_thing : FnScope N_read_thing ["kind", "word"] (defScope s_read_thing) := ⟨rfl, rfl, rfl, by decide +kernel, rfl, by decide +kernel, by decide +kernel⟩
abbrev s_read_things : Stmt := topS 15
abbrev N_read_things : List Str := ["kinds", "words", "things", "kind", "word"]
theorem sc_read_things : FnScope N_read_things ["kinds", "words"] (defScope s_read_things) := ⟨rfl, rfl, rfl, by decide +kernel, rfl, by decide +kernel, by decide +kernel⟩
abbrev s_read_deed : Stmt := topS 17
abbrev N_read_deed : List Str := ["text", "words", "things"]
theorem sc_read_deed : FnScope N_read_deed ["text"] (defScope s_read_deed) := ⟨rfl, rfl, rfl, by decide +kernel, rfl, by decide +kernel, by decide +kernel⟩
abbrev s_law_box : Stmt := topS 19
abbrev N_law_box : List Str := ["_law_script", "_law_seed", "_law_cell"]
theorem sc_law_box : FnScope N_law_box ["_law_script"] (defScope s_law_box) := ⟨rfl, rfl, rfl, by decide +kernel, rfl, by decide +kernel, by decide +kernel⟩
abbrev s_law_mixed : Stmt := topS 20
abbrev N_law_mixed : List Str := ["_law_number", "_law_turn", "_law_base", "_law_more"]
theorem sc_law_mixed : FnScope N_law_mixed ["_law_number", "_law_turn"] (defScope s_law_mixed) := ⟨rfl, rfl, rfl, by decide +kernel, rfl, by decide +kernel, by decide +kernel⟩
abbrev s_law_take : Stmt := topS 21
abbrev N_law_take : List Str := ["_law_box_here", "_law_many", "_law_rest", "_law_cell"]
theorem sc_law_take : FnScope N_law_take ["_law_box_here", "_law_many"] (defScope s_law_take) := ⟨rfl, rfl, rfl, by decide +kernel, rfl, by decide +kernel, by decide +kernel⟩
abbrev s_law_any : Stmt := topS 22
abbrev N_law_any : List Str := ["_law_box_here", "_law_some"]
theorem sc_law_any : FnScope N_law_any ["_law_box_here", "_law_some"] (defScope s_law_any) := ⟨rfl, rfl, rfl, by decide +kernel, rfl, by decide +kernel, by decide +kernel⟩
abbrev s_law_whole : Stmt := topS 23
abbrev N_law_whole : List Str := ["_law_found"]
theorem sc_law_whole : FnScope N_law_whole ["_law_found"] (defScope s_law_whole) := ⟨rfl, rfl, rfl, by decide +kernel, rfl, by decide +kernel, by decide +kernel⟩
abbrev s_law_same : Stmt := topS 24
abbrev N_law_same : List Str := ["_law_found", "_law_due", "_law_one", "_law_other"]
theorem sc_law_same : FnScope N_law_same ["_law_found", "_law_due"] (defScope s_law_same) := ⟨rfl, rfl, rfl, by decide +kernel, rfl, by decide +kernel, by decide +kernel⟩
abbrev s_law_name_good : Stmt := topS 25
abbrev N_law_name_good : List Str := ["_law_text", "_law_sign"]
theorem sc_law_name_good : FnScope N_law_name_good ["_law_text"] (defScope s_law_name_good) := ⟨rfl, rfl, rfl, by decide +kernel, rfl, by decide +kernel, by decide +kernel⟩
abbrev s_law_spoilt : Stmt := topS 26
abbrev N_law_spoilt : List Str := ["_law_box_here", "_law_text", "_law_at", "_law_sign", "_law_way", "_law_words", "_law_spot", "_law_odd"]
theorem sc_law_spoilt : FnScope N_law_spoilt ["_law_box_here", "_law_text"] (defScope s_law_spoilt) := ⟨rfl, rfl, rfl, by decide +kernel, rfl, by decide +kernel, by decide +kernel⟩
abbrev s_law_any_name : Stmt := topS 27
abbrev N_law_any_name : List Str := ["_law_box_here", "_law_letters", "_law_k", "_law_one"]
theorem sc_law_any_name : FnScope N_law_any_name ["_law_box_here"] (defScope s_law_any_name) := ⟨rfl, rfl, rfl, by decide +kernel, rfl, by decide +kernel, by decide +kernel⟩
abbrev s_law_figures : Stmt := topS 28
abbrev N_law_figures : List Str := ["_law_box_here"]
theorem sc_law_figures : FnScope N_law_figures ["_law_box_here"] (defScope s_law_figures) := ⟨rfl, rfl, rfl, by decide +kernel, rfl, by decide +kernel, by decide +kernel⟩
abbrev s_law_any_deed : Stmt := topS 29
abbrev N_law_any_deed : List Str := ["_law_box_here", "_law_word", "_law_deed", "_law_what", "_law_some"]
theorem sc_law_any_deed : FnScope N_law_any_deed ["_law_box_here"] (defScope s_law_any_deed) := ⟨rfl, rfl, rfl, by decide +kernel, rfl, by decide +kernel, by decide +kernel⟩
abbrev s_law_deed_text : Stmt := topS 30
abbrev N_law_deed_text : List Str := ["_law_deed", "_law_words", "_law_at", "_law_thing", "_law_word"]
theorem sc_law_deed_text : FnScope N_law_deed_text ["_law_deed"] (defScope s_law_deed_text) := ⟨rfl, rfl, rfl, by decide +kernel, rfl, by decide +kernel, by decide +kernel⟩
abbrev s_law_thing_in : Stmt := topS 31
abbrev N_law_thing_in : List Str := ["_law_kind", "_law_word", "_law_sign"]
theorem sc_law_thing_in : FnScope N_law_thing_in ["_law_kind", "_law_word"] (defScope s_law_thing_in) := ⟨rfl, rfl, rfl, by decide +kernel, rfl, by decide +kernel, by decide +kernel⟩
abbrev s_law_deed_in : Stmt := topS 32
abbrev N_law_deed_in : List Str := ["_law_text", "_law_forms", "_law_words", "_law_form", "_law_found", "_law_at"]
theorem sc_law_deed_in : FnScope N_law_deed_in ["_law_text"] (defScope s_law_deed_in) := ⟨rfl, rfl, rfl, by decide +kernel, rfl, by decide +kernel, by decide +kernel⟩
abbrev s_law_told_deed : Stmt := topS 33
abbrev N_law_told_deed : List Str := ["_law_text", "_law_found", "e"]
theorem sc_law_told_deed : FnScope N_law_told_deed ["_law_text"] (defScope s_law_told_deed) := ⟨rfl, rfl, rfl, by decide +kernel, rfl, by decide +kernel, by decide +kernel⟩
abbrev s_law : Stmt := topS 34
abbrev N_law : List Str := ["_law_script", "_law_box_here", "_law_k", "_law_text", "_law_turn", "_law_due"]
theorem sc_law : FnScope N_law ["_law_script"] (defScope s_law) := ⟨rfl, rfl, rfl, by decide +kernel, rfl, by decide +kernel, by decide +kernel⟩
abbrev s_BadText_init : Stmt := clsDef (topS 2) 0
abbrev N_BadText_init : List Str := ["self", "row"]
theorem sc_BadText_init : FnScope N_BadText_init ["self", "row"] (defScope s_BadText_init) := ⟨rfl, rfl, rfl, by decide +kernel, rfl, by decide +kernel, by decide +kernel⟩
structure Tx (w : World) (K : PySem.W.Frag) (mg : Str → Option Value) where
  a_is_name : Addr
  d_is_name : FuncData
  F_is_name : Fun K "is_name" "is_name" s_is_name a_is_name d_is_name
  g_is_name : mg "is_name" = some (.ref a_is_name)
  b_is_name : Binds K d_is_name ["word"] []
  a_read_number : Addr
  d_read_number : FuncData
  F_read_number : Fun K "read_number" "read_number" s_read_number a_read_number d_read_number
  g_read_number : mg "read_number" = some (.ref a_read_number)
  b_read_number : Binds K d_read_number ["word"] []
  a_read_what : Addr
  d_read_what : FuncData
  F_read_what : Fun K "read_what" "read_what" s_read_what a_read_what d_read_what
  g_read_what : mg "read_what" = some (.ref a_read_what)
  b_read_what : Binds K d_read_what ["word"] []
  a_read_thing : Addr
  d_read_thing : FuncData
  F_read_thing : Fun K "read_thing" "read_thing" s_read_thing a_read_thing d_read_thing
  g_read_thing : mg "read_thing" = some (.ref a_read_thing)
  b_read_thing : Binds K d_read_thing ["kind", "word"] []
  a_read_things : Addr
  d_read_things : FuncData
  F_read_things : Fun K "read_things" "read_things" s_read_things a_read_things d_read_things
  g_read_things : mg "read_things" = some (.ref a_read_things)
  b_read_things : Binds K d_read_things ["kinds", "words"] []
  a_read_deed : Addr
  d_read_deed : FuncData
  F_read_deed : Fun K "read_deed" "read_deed" s_read_deed a_read_deed d_read_deed
  g_read_deed : mg "read_deed" = some (.ref a_read_deed)
  b_read_deed : Binds K d_read_deed ["text"] []
  a_law_box : Addr
  d_law_box : FuncData
  F_law_box : Fun K "_law_box" "_law_box" s_law_box a_law_box d_law_box
  g_law_box : mg "_law_box" = some (.ref a_law_box)
  b_law_box : Binds K d_law_box ["_law_script"] []
  a_law_mixed : Addr
  d_law_mixed : FuncData
  F_law_mixed : Fun K "_law_mixed" "_law_mixed" s_law_mixed a_law_mixed d_law_mixed
  g_law_mixed : mg "_law_mixed" = some (.ref a_law_mixed)
  b_law_mixed : Binds K d_law_mixed ["_law_number", "_law_turn"] []
  a_law_take : Addr
  d_law_take : FuncData
  F_law_take : Fun K "_law_take" "_law_take" s_law_take a_law_take d_law_take
  g_law_take : mg "_law_take" = some (.ref a_law_take)
  b_law_take : Binds K d_law_take ["_law_box_here", "_law_many"] []
  a_law_any : Addr
  d_law_any : FuncData
  F_law_any : Fun K "_law_any" "_law_any" s_law_any a_law_any d_law_any
  g_law_any : mg "_law_any" = some (.ref a_law_any)
  b_law_any : Binds K d_law_any ["_law_box_here", "_law_some"] []
  a_law_whole : Addr
  d_law_whole : FuncData
  F_law_whole : Fun K "_law_whole" "_law_whole" s_law_whole a_law_whole d_law_whole
  g_law_whole : mg "_law_whole" = some (.ref a_law_whole)
  b_law_whole : Binds K d_law_whole ["_law_found"] []
  a_law_same : Addr
  d_law_same : FuncData
  F_law_same : Fun K "_law_same" "_law_same" s_law_same a_law_same d_law_same
  g_law_same : mg "_law_same" = some (.ref a_law_same)
  b_law_same : Binds K d_law_same ["_law_found", "_law_due"] []
  a_law_name_good : Addr
  d_law_name_good : FuncData
  F_law_name_good : Fun K "_law_name_good" "_law_name_good" s_law_name_good a_law_name_good d_law_name_good
  g_law_name_good : mg "_law_name_good" = some (.ref a_law_name_good)
  b_law_name_good : Binds K d_law_name_good ["_law_text"] []
  a_law_spoilt : Addr
  d_law_spoilt : FuncData
  F_law_spoilt : Fun K "_law_spoilt" "_law_spoilt" s_law_spoilt a_law_spoilt d_law_spoilt
  g_law_spoilt : mg "_law_spoilt" = some (.ref a_law_spoilt)
  b_law_spoilt : Binds K d_law_spoilt ["_law_box_here", "_law_text"] []
  a_law_any_name : Addr
  d_law_any_name : FuncData
  F_law_any_name : Fun K "_law_any_name" "_law_any_name" s_law_any_name a_law_any_name d_law_any_name
  g_law_any_name : mg "_law_any_name" = some (.ref a_law_any_name)
  b_law_any_name : Binds K d_law_any_name ["_law_box_here"] []
  a_law_figures : Addr
  d_law_figures : FuncData
  F_law_figures : Fun K "_law_figures" "_law_figures" s_law_figures a_law_figures d_law_figures
  g_law_figures : mg "_law_figures" = some (.ref a_law_figures)
  b_law_figures : Binds K d_law_figures ["_law_box_here"] []
  a_law_any_deed : Addr
  d_law_any_deed : FuncData
  F_law_any_deed : Fun K "_law_any_deed" "_law_any_deed" s_law_any_deed a_law_any_deed d_law_any_deed
  g_law_any_deed : mg "_law_any_deed" = some (.ref a_law_any_deed)
  b_law_any_deed : Binds K d_law_any_deed ["_law_box_here"] []
  a_law_deed_text : Addr
  d_law_deed_text : FuncData
  F_law_deed_text : Fun K "_law_deed_text" "_law_deed_text" s_law_deed_text a_law_deed_text d_law_deed_text
  g_law_deed_text : mg "_law_deed_text" = some (.ref a_law_deed_text)
  b_law_deed_text : Binds K d_law_deed_text ["_law_deed"] []
  a_law_thing_in : Addr
  d_law_thing_in : FuncData
  F_law_thing_in : Fun K "_law_thing_in" "_law_thing_in" s_law_thing_in a_law_thing_in d_law_thing_in
  g_law_thing_in : mg "_law_thing_in" = some (.ref a_law_thing_in)
  b_law_thing_in : Binds K d_law_thing_in ["_law_kind", "_law_word"] []
  a_law_deed_in : Addr
  d_law_deed_in : FuncData
  F_law_deed_in : Fun K "_law_deed_in" "_law_deed_in" s_law_deed_in a_law_deed_in d_law_deed_in
  g_law_deed_in : mg "_law_deed_in" = some (.ref a_law_deed_in)
  b_law_deed_in : Binds K d_law_deed_in ["_law_text"] []
  a_law_told_deed : Addr
  d_law_told_deed : FuncData
  F_law_told_deed : Fun K "_law_told_deed" "_law_told_deed" s_law_told_deed a_law_told_deed d_law_told_deed
  g_law_told_deed : mg "_law_told_deed" = some (.ref a_law_told_deed)
  b_law_told_deed : Binds K d_law_told_deed ["_law_text"] []
  a_law : Addr
  d_law : FuncData
  F_law : Fun K "law" "law" s_law a_law d_law
  g_law : mg "law" = some (.ref a_law)
  b_law : Binds K d_law ["_law_script"] []
  t_LAND : Tok
  c_LAND : mg "LAND" = some (.int (-1) t_LAND)
  t_UNTOLD : Tok
  c_UNTOLD : mg "UNTOLD" = some (.int (-2) t_UNTOLD)
  t_LETTERS : Tok
  c_LETTERS : mg "LETTERS" = some (.str "abcdefghijklmnopqrstuvwxyz" t_LETTERS)
  t_FIGURES : Tok
  c_FIGURES : mg "FIGURES" = some (.str "0123456789" t_FIGURES)
  t_MOST_LETTERS : Tok
  c_MOST_LETTERS : mg "MOST_LETTERS" = some (.int (8) t_MOST_LETTERS)
  t_MOST_FIGURES : Tok
  c_MOST_FIGURES : mg "MOST_FIGURES" = some (.int (6) t_MOST_FIGURES)
  o_DEEDS : Addr
  c_DEEDS : mg "DEEDS" = some (.ref o_DEEDS)
  o_DEEDS_0 : Addr
  s_DEEDS_0 : ∀ H : Hp, SqT K H o_DEEDS_0 [.str "name", .str "number", .str "number", .str "number"]
  o_DEEDS_1 : Addr
  s_DEEDS_1 : ∀ H : Hp, SqT K H o_DEEDS_1 [.str "name", .str "number", .str "number", .str "what", .str "number"]
  o_DEEDS_2 : Addr
  s_DEEDS_2 : ∀ H : Hp, SqT K H o_DEEDS_2 [.str "name", .str "number", .str "what"]
  o_DEEDS_3 : Addr
  s_DEEDS_3 : ∀ H : Hp, SqT K H o_DEEDS_3 [.str "name", .str "number"]
  o_DEEDS_4 : Addr
  s_DEEDS_4 : ∀ H : Hp, SqT K H o_DEEDS_4 [.str "name"]
  o_DEEDS_5 : Addr
  s_DEEDS_5 : ∀ H : Hp, SqT K H o_DEEDS_5 [.str "name", .str "name", .str "number", .str "number", .str "number"]
  k_DEEDS : DicK K w o_DEEDS [("begin", .ref o_DEEDS_0), ("tell", .ref o_DEEDS_1), ("right", .ref o_DEEDS_2), ("strike", .ref o_DEEDS_3), ("drop", .ref o_DEEDS_4), ("lay", .ref o_DEEDS_5)]
  n_all : mg "all" = none
  n_bool : mg "bool" = none
  n_enumerate : mg "enumerate" = none
  n_int : mg "int" = none
  n_isinstance : mg "isinstance" = none
  n_len : mg "len" = none
  n_list : mg "list" = none
  n_range : mg "range" = none
  n_str : mg "str" = none
  n_tuple : mg "tuple" = none
  n_zip : mg "zip" = none
  a_TideError : Addr
  a_BadText : Addr
  x_TideError : ExB K mg "TideError" a_TideError
  x_BadText : ExB K mg "BadText" a_BadText
  m_BadText : PySem.W.exmOne K (.ref a_BadText) (.ref a_TideError) = some true
  a_BadText_init : Addr
  d_BadText_init : FuncData
  F_BadText_init : Fun K "__init__" "BadText.__init__" s_BadText_init a_BadText_init d_BadText_init
  b_BadText_init : Binds K d_BadText_init ["self", "row"] []
  O_BadText : OexC K a_BadText
  f_BadText : XfC K a_BadText
  i_BadText : PySem.W.findIn K (.ref a_BadText) "__init__" = some (some (.ref a_BadText_init))
  it_BadText : PySem.W.typeIn K (.ref a_BadText_init) = some (.type "function")
  no_BadText : PySem.W.findIn K (.ref a_BadText) "row" = some none
  mm_BadText : PySem.W.exmOne K (.ref a_BadText) (.ref a_BadText) = some true
  B_BadText : BaseI K a_TideError
section
variable {P : Program} {w : World} {K : PySem.W.Frag} {mg : Str → Option Value} {base : Heap}
/-! ### the law's draws -/
def R_mixed (vs : List V) (v : V) : Prop := ∃ a b, vs = [.int a, .int b] ∧ ∃ r, v = .int r
def spMixed : Sp := fun vs H Q _ => ∃ a b, vs = [.int a, .int b] ∧ ∀ r H2, Ex H H2 → Q (.int r) H2
theorem ok_law_mixed (T : Tx w K mg) : FnOk P w K mg base CX0 1 T.a_law_mixed T.d_law_mixed ["_law_number", "_law_turn"] spMixed := by
  refine T.F_law_mixed.ok sc_law_mixed (fun vs H Q E h => ?_) (fun cdv A outer s H vs Q E hr h => ?_)
  · obtain ⟨a, b, rfl, q⟩ := h
    rfl
  · obtain ⟨a, b, rfl, q⟩ := h
    refine ⟨_, (pss_cons (ps_set (i := 2) sc_law_mixed.nd rfl (.inl rfl) (pe_op op_mod (pe_op op_add (pe_op op_add (pe_op op_mul (pv 0) pe_int) (pe_op op_mul (pv 1) pe_int)) pe_int) pe_int))
      (pss_cons (ps_set (i := 3) sc_law_mixed.nd rfl (.inl rfl) (pe_op op_add (pe_op op_mul (pv 1) pe_int) (pe_op op_mod (pe_op op_fdiv (pv 0) pe_int) pe_int)))
      (pss_cons (ps_ret (pe_op op_fdiv (pe_op op_mod (pe_op op_add (pe_op op_mul (pv 2) (pe_op op_add (pe_op op_mod (pv 2) pe_int) pe_int)) (pv 3)) pe_int) pe_int))
      pss_nil))), Go.go ?_⟩
    have h1 : ∀ x y : Int, 0 ≤ x % y + y * 0 ∨ y = 0 := fun x y => by
      by_cases h : y = 0
      · exact .inr h
      · exact .inl (by have := Int.emod_nonneg x h; omega)
    apply go_asg
    · walk_at "ev"
    have h2 : ∀ x : Int, 0 ≤ x % 2147483647 ∧ x % 2147483647 < 2147483647 := fun x => ⟨by omega, by omega⟩
    generalize hz : (a * 7919 + b * 104729 + 17) % 2147483647 = z
    have hz2 := h2 (a * 7919 + b * 104729 + 17)
    rw [hz] at hz2
    apply go_asg
    · walk_at "ev"
    apply go_retV
    · walk_at "ev"
    exact fun H' e => q _ H' e
/-- a call that gives some int -/
theorem ev_mixed {σ : L2.St} {H : Hp} {E : XK} {tr : TA} {a b : Int} (h : EvA tr σ H [.int a, .int b]) {Q : VK} (k : ∀ r H2, Ex H H2 → Q (.int r) H2) : tCall spMixed [] E tr σ H Q :=
  h H (Ex.refl H) _ fun H2 e2 => ⟨a, b, rfl, fun r H3 e3 => k r H3 (e2.trans e3)⟩
def PreTake (ds : List PyData) : Prop := ∃ m : Int, ds = [.int m] ∧ 0 < m ∧ m < 2 ^ 80
def RTake (ds : List PyData) (d : PyData) : Prop := ∃ m r : Int, ds = [.int m] ∧ d = .int r ∧ 0 ≤ r ∧ r < m
theorem ok_law_take (T : Tx w K mg) : FnOk P w K mg base CX0 2 T.a_law_take T.d_law_take ["_law_box_here", "_law_many"] (spB K PreTake RTake) := by
  refine T.F_law_take.ok sc_law_take (fun vs H Q E h => ?_) (fun cdv A outer s H vs Q E hr h => ?_)
  · obtain ⟨b, ws, Hd, ds, rfl, hb, sx, B, hds, ⟨m, rfl, hm, hm2⟩, q⟩ := h
    cases hds with
    | cons h1 h2 => cases h2; rfl
  · obtain ⟨b, ws, Hd, ds, rfl, hb, sx, B, hds, ⟨m, rfl, hm, hm2⟩, q⟩ := h
    obtain ⟨m', rfl⟩ : ∃ m', ws = [m'] := by
      cases hds with
      | cons h1 h2 => cases h2; exact ⟨_, rfl⟩
    have em : m' = .int m := by
      cases hds with
      | cons h1 h2 => cases h1; rfl
    subst em
    obtain ⟨bb, ca⟩ := b
    obtain ⟨cells, xs, h1, ⟨pos, rest, turn, seed, rfl, hpos⟩, h3, h4⟩ := B
    have nca : ca ≠ bb := by
      intro e
      subst e
      rw [h1] at h3
      have h5 := HO.lst.inj (Option.some.inj h3)
      cases cells with
      | nil => cases h5
      | cons c cs => cases h5
    have fin : ∀ (pos' rest' turn' r : Int) (H2 : Hp), 0 ≤ pos' → 0 ≤ r → r < m → Ex (upd H bb (.lst [.ref ca, .int pos', .int rest', .int turn', .int seed])) H2 → Q (.int r) H2 := fun pos' rest' turn' r H2 hp h0 hr e2 => by
      refine q (.int r) H2 Hd (.int r) ⟨fun a o n h => e2 a o (by rw [upd_ne n]; exact h), Ex.refl _, fun a o h => e2 a o (by rw [upd_ne (ne_of_none h hb)]; exact sx a o h), fun a o _ h => h, ?_⟩ (.int r) ⟨m, r, rfl, rfl, h0, hr⟩
      exact Bx.mono e2 ⟨cells, _, upd_same, ⟨pos', rest', turn', seed, rfl, hp⟩, by rw [upd_ne nca]; exact h3, h4⟩
    have wd : ∀ z : Int, CDivW z m := fun z => wide_div (b := 80) hm (by omega) (by decide) (by decide)
    have mm : ∀ z : Int, 0 ≤ z % m ∧ z % m < m := fun z => ⟨Int.emod_nonneg z (by omega), Int.emod_lt_of_pos z hm⟩
    refine ⟨_, (pss_cons (ps_asg (pe_op op_add (pe_ix (r := rIxL K) ix_list (pv 0) pe_int (fun _ _ => rfl)) pe_int) (pg_sub (pv 0) pe_int set_list))
      (pss_cons (ps_if (pt_cmpR op_gt (pe_ix (r := rIxL K) ix_list (pv 0) pe_int (fun _ _ => rfl)) pe_int (nomark _)) (pss_cons (ps_set (i := 2) sc_law_take.nd rfl (.inl rfl) (pe_ix (r := rIxL K) ix_list (pv 0) pe_int (fun _ _ => rfl)))
      (pss_cons (ps_asg (pe_op op_fdivW (pv 2) (pv 1)) (pg_sub (pv 0) pe_int set_list))
      (pss_cons (ps_ret (pe_op op_mod (pv 2) (pv 1)))
      pss_nil))) pss_nil)
      (pss_cons (ps_if (pt_cmpR op_ge (pe_ix (r := rIxL K) ix_list (pv 0) pe_int (fun _ _ => rfl)) (pe_callB (r := rLenS K) call_lenQ (by rfl) T.n_len PySem.boot_len (pa_cons (pe_ix (r := rIxL K) ix_list (pv 0) pe_int (fun _ _ => rfl)) pa_nil)) (nomark _)) (pss_cons (ps_ret (pe_op op_mod (pe_call (ok_law_mixed (P := P) (w := w) T) (hr.mono (by omega)) (by rfl) T.g_law_mixed T.F_law_mixed.kp T.b_law_mixed .nil pass0 (pa_cons (pe_ix (r := rIxL K) ix_list (pv 0) pe_int (fun _ _ => rfl)) (pa_cons (pe_ix (r := rIxL K) ix_list (pv 0) pe_int (fun _ _ => rfl)) pa_nil))) (pv 1)))
      pss_nil) pss_nil)
      (pss_cons (ps_set (i := 3) sc_law_take.nd rfl (.inl rfl) (pe_ix (r := rIxL K) ix_list (pe_ix (r := rIxL K) ix_list (pv 0) pe_int (fun _ _ => rfl)) (pe_ix (r := rIxL K) ix_list (pv 0) pe_int (fun _ _ => rfl)) (fun _ _ => rfl)))
      (pss_cons (ps_asg (pe_op op_add (pe_ix (r := rIxL K) ix_list (pv 0) pe_int (fun _ _ => rfl)) pe_int) (pg_sub (pv 0) pe_int set_list))
      (pss_cons (ps_if (pt_cmpR op_lt (pv 3) (pe_op op_pow pe_int pe_int) (nomark _)) (pss_cons (ps_ret (pe_op op_mod (pe_call (ok_law_mixed (P := P) (w := w) T) (hr.mono (by omega)) (by rfl) T.g_law_mixed T.F_law_mixed.kp T.b_law_mixed .nil pass0 (pa_cons (pe_op op_add (pv 3) (pe_ix (r := rIxL K) ix_list (pv 0) pe_int (fun _ _ => rfl))) (pa_cons (pe_ix (r := rIxL K) ix_list (pv 0) pe_int (fun _ _ => rfl)) pa_nil))) (pv 1)))
      pss_nil) pss_nil)
      (pss_cons (ps_asg (pe_op op_fdivW (pv 3) (pv 1)) (pg_sub (pv 0) pe_int set_list))
      (pss_cons (ps_ret (pe_op op_mod (pv 3) (pv 1)))
      pss_nil)))))))), Go.go ?_⟩
    refine go_setL (j := 3) h1 (v := .int (turn + 1)) ?_ (ev_var rfl) ev_c (by simp) ?_
    · walk_at "ev"
    show Go _ _ _ (upd H bb (.lst [.ref ca, .int pos, .int rest, .int (turn + 1), .int seed]))
    apply go_when
    · walk_at "et"
    · intro _
      apply go_asg
      · walk_at "ev"
      refine go_setL (j := 2) upd_same (v := .int (rest / m)) ?_ (ev_var rfl) ev_c (by simp) ?_
      · refine ev_op (ev_var rfl) (ev_var rfl) (rv_I (wd _))
      apply go_retV
      · walk_at "ev"
      rw [upd_upd]
      exact fun H' e => fin pos (rest / m) (turn + 1) _ H' hpos (mm _).1 (mm _).2 e
    intro _
    have h3' : upd H bb (.lst [.ref ca, .int pos, .int rest, .int (turn + 1), .int seed]) ca = some (.lst (cells.map V.int)) := by
      rw [upd_ne nca]
      exact h3
    apply go_when
    · apply et_test
      apply ev_op
      · walk_at "ev"
      · refine ev_len (K := K) (p := ca) ?_ (sq_of h3')
        walk_at "ev"
      · exact rv_I0
    · intro _ H1 e1
      refine ev_mixed (a := seed) (b := turn + 1) (EvA.mono e1 (by walk_at "ea")) fun r H2 e2 => ?_
      exact ⟨_, rfl, _, _, rfl, rfl, hm, fin pos rest (turn + 1) _ H2 hpos (mm _).1 (mm _).2 (e1.trans e2)⟩
    intro hlt
    have hlt2 : pos < (cells.length : Int) := by
      have h5 := of_decide_eq_false hlt
      rw [List.length_map] at h5
      omega
    have hget : atI (cells.map V.int) pos = some (.int (cells[pos.toNat]'(by omega))) := by
      refine at_of (j := pos.toNat) (by omega) ?_
      rw [List.getElem?_map, List.getElem?_eq_getElem (by omega)]
      rfl
    generalize hcell : cells[pos.toNat]'(by omega) = cell at hget
    apply go_asg (v := .int cell)
    · refine ev_op (x := .ref ca) (y := .int pos) (by walk_at "ev") (by walk_at "ev") (rv_ixL (K := K) (sq_of h3') hget)
    refine go_setL (j := 1) upd_same (v := .int (pos + 1)) ?_ (ev_var rfl) ev_c (by simp) ?_
    · walk_at "ev"
    rw [upd_upd]
    show Go _ _ _ (upd H bb (.lst [.ref ca, .int (pos + 1), .int rest, .int (turn + 1), .int seed]))
    apply go_when
    · walk_at "et"
    · intro _ H1 e1
      refine ev_mixed (a := cell + seed) (b := turn + 1) (EvA.mono e1 (by walk_at "ea")) fun r H2 e2 => ?_
      exact ⟨_, rfl, _, _, rfl, rfl, hm, fin (pos + 1) rest (turn + 1) _ H2 (by omega) (mm _).1 (mm _).2 (e1.trans e2)⟩
    intro _
    refine go_setL (j := 2) upd_same (v := .int (cell / m)) ?_ (ev_var rfl) ev_c (by simp) ?_
    · refine ev_op (ev_var rfl) (ev_var rfl) (rv_I (wd _))
    apply go_retV
    · walk_at "ev"
    rw [upd_upd]
    exact fun H' e => fin (pos + 1) (cell / m) (turn + 1) _ H' (by omega) (mm _).1 (mm _).2 e
theorem eb_take {σ : L2.St} {Hd : Hp} {E : XK} {b : Bid} {ta tb : TE} {m : Int} (ha : Ev ta σ Hd (.ref b.b)) (hm : Ev tb σ Hd (.int m)) (h0 : 0 < m) (h1 : m < 2 ^ 80) : EvB K b (tCall (spB K PreTake RTake) [] E (tCons ta (tCons tb tNil))) σ Hd (isI fun r => 0 ≤ r ∧ r < m) := by
  refine EvB.imp (eb_call ha (eba_cons (eb_ev hm) eba_nil) ?_) ?_
  · rintro ds ⟨d, es, rfl, ⟨i, rfl, rfl⟩, rfl⟩
    exact ⟨_, rfl, h0, h1⟩
  · rintro d ⟨ds, ⟨d', es, rfl, ⟨i, rfl, rfl⟩, rfl⟩, m', r, e1, rfl, h2, h3⟩
    cases e1
    exact ⟨r, rfl, h2, h3⟩

/-- the box is made -/
def spBox (K : PySem.W.Frag) : Sp := fun vs H Q _ => ∃ (a : Addr) (ns : List Int), vs = [.ref a] ∧ SqL K H a (ns.map V.int) ∧ ns.length ≤ 63 ∧ ∀ (b : Bid) H2, H b.b = none → H b.ca = none → Ex H H2 → Bx H2 b → Q (.ref b.b) H2
theorem cut_ints {ns : List Int} : cutV (ns.map V.int) none (some 63) = ((ns.take 63).map V.int) := by
  unfold cutV
  rw [HT.sIx_none, show HT.sIx (ns.map V.int).length (ns.map V.int).length (some 63) = min 63 (ns.map V.int).length from HT.sIx_nat _ _ 63]
  rw [List.drop_zero, Nat.sub_zero, List.length_map, List.map_take]
  by_cases h : 63 ≤ ns.length
  · rw [Nat.min_eq_left h]
  · rw [Nat.min_eq_right (by omega), List.take_of_length_le (by rw [List.length_map]; omega), List.take_of_length_le (by rw [List.length_map]; omega)]
theorem ok_law_box (T : Tx w K mg) : FnOk P w K mg base CX0 1 T.a_law_box T.d_law_box ["_law_script"] (spBox K) := by
  refine T.F_law_box.ok sc_law_box (fun vs H Q E h => ?_) (fun cdv A outer s H vs Q E hr h => ?_)
  · obtain ⟨a, ns, rfl, _⟩ := h
    rfl
  · obtain ⟨a, ns, rfl, hL, hn, q⟩ := h
    refine ⟨_, (pss_cons (ps_set (i := 1) sc_law_box.nd rfl (.inl rfl) pe_int)
      (pss_cons (ps_for PassesOwn.never rfl (pi_list (pe_slice (r := rSlL K) sl_list (pv 0) po_none (po_some pe_int))) (pg_name (i := 2) sc_law_box.nd rfl (.inl rfl)) (pss_cons (ps_set (i := 1) sc_law_box.nd rfl (.inl rfl) (pe_op op_mod (pe_op op_add (pe_op op_add (pe_op op_mul (pv 1) pe_int) (pe_op op_mod (pv 2) pe_int)) pe_int) pe_int))
      pss_nil))
      (pss_cons (ps_ret (pe_lst (pa_cons (pe_callTy (r := rListS K) call_listQ (by rfl) T.n_list (by decide +kernel) (pa_cons (pe_slice (r := rSlL K) sl_list (pv 0) po_none (po_some pe_int)) pa_nil)) (pa_cons pe_int (pa_cons pe_int (pa_cons pe_int (pa_cons (pv 1) pa_nil)))))))
      pss_nil))), ?_⟩
    refine q_asg ev_c fun H1 e1 => ?_
    refine q_forNLn (K := K) (xs := (ns.take 63).map V.int) ?_ (fun p i σ H' => Ex H H' ∧ H p = none ∧ H' p = some (.lst ((ns.take 63).map V.int)) ∧ ∃ (z : Int) (x : Option V), σ = [some (.ref a), some (.int z), x]) (fun p H2 hp e2 h2 => ⟨e1.trans e2, fresh_back e1 hp, h2, 7, none, rfl⟩) (fun p i σ' H' _ h => sq_of h.2.2.1) ?_ ?_
    · rw [← cut_ints]
      exact el_sl (ev_var rfl) eo_none (eo_some ev_c) (ex_l e1 hL)
    · rintro p i x σ' H' hx ⟨e2, hp, h2, z, x0, rfl⟩
      rw [List.getElem?_map] at hx
      cases hh : (ns.take 63)[i]? with
      | none => rw [hh] at hx; cases hx
      | some y =>
        rw [hh] at hx
        cases hx
        refine Go.go ?_
        apply go_asg
        · walk_at "ev"
        exact go_next fun H3 e3 => ⟨e2.trans e3, hp, e3 _ _ h2, _, _, rfl⟩
    · rintro p σ' H' ⟨e2, hp, h2, z, x0, rfl⟩
      have hE : Ex H H' := e2
      refine el_sl (K := K) (ev_var rfl) eo_none (eo_some ev_c) (ex_l hE hL) H' (Ex.refl _) _ fun c H4 hc e4 h4 => ?_
      rw [cut_ints] at h4
      refine ⟨c, _, rfl, Or.inl (sq_of h4), fun l hl => ?_⟩
      refine ⟨.int z, rfl, by show 5 ≤ sizeLine; decide, fun b hb => ?_⟩
      have nlb : l ≠ b := fun e => by
        subst e
        rw [upd_same] at hb
        cases hb
      have hb4 : H4 b = none := by
        rw [upd_ne nlb.symm] at hb
        exact hb
      refine q ⟨b, l⟩ _ (fresh_back (hE.trans e4) hb4) (fresh_back (hE.trans e4) hl) (((hE.trans e4).trans (Ex.new hl)).trans (Ex.new hb)) ⟨ns.take 63, _, upd_same, ⟨0, 0, 0, z, rfl, by decide⟩, ?_, ?_⟩
      · rw [upd_ne nlb, upd_same]
      · rw [List.length_take]
        omega
theorem go_box {σ : L2.St} {H : Hp} {E : XK} {ta : TE} {tz : TS} {D : Ends} {i : Nat} {a : Addr} {ns : List Int} (hL : SqL K H a (ns.map V.int)) (hn : ns.length ≤ 63) (h : Ev ta σ H (.ref a)) (k : ∀ (b : Bid) H', H b.b = none → H b.ca = none → Ex H H' → Bx H' b → Go tz D (σ.set i (some (.ref b.b))) H') : Go (tSeq (tAsg (tCall (spBox K) [] E (tCons ta tNil)) (gName i)) tz) D σ H := fun H1 e1 =>
  h H1 e1 _ fun H2 e2 => ⟨a, ns, rfl, ex_l (e1.trans e2) hL, hn, fun b H3 hb hc e3 B => k b H3 (fresh_back (e1.trans e2) hb) (fresh_back (e1.trans e2) hc) ((e1.trans e2).trans e3) B H3 (Ex.refl _)⟩
def sp_law (K : PySem.W.Frag) : Sp := fun vs H Q _ => ∃ (a : Addr) (ns : List Int), vs = [.ref a] ∧ SqL K H a (ns.map V.int) ∧ ns.length ≤ 63 ∧ ∀ H', Q (.bl true) H'

/-! ### _law_whole, _law_same -/
theorem ok_law_whole (T : Tx w K mg) : FnOk P w K mg base CX0 1 T.a_law_whole T.d_law_whole ["_law_found"] (spS fun vs v => ∃ i, vs = [.int i] ∧ v = .bl true) := by
  refine T.F_law_whole.ok sc_law_whole (fun vs H Q E h => ?_) (fun cdv A outer s H vs Q E hr h => ?_)
  · obtain ⟨v, ⟨i, rfl, rfl⟩, q⟩ := h
    rfl
  · obtain ⟨v, ⟨i, rfl, rfl⟩, q⟩ := h
    refine ⟨_, (pss_cons (ps_ret (pe_and (pe_callB (r := rIsi K) call_isi (by rfl) T.n_isinstance (by decide +kernel) (pa_cons (pv 0) (pa_cons (pe_bltn (v := .ty "int") (by rfl) T.n_int (by decide +kernel) rfl) pa_nil))) (pe_one (pe_not (pe_callB (r := rIsi K) call_isi (by rfl) T.n_isinstance (by decide +kernel) (pa_cons (pv 0) (pa_cons (pe_bltn (v := .ty "bool") (by rfl) T.n_bool (by decide +kernel) rfl) pa_nil)))))))
      pss_nil), Go.go ?_⟩
    have hi : Dp K H (.int i) (.int i) := .int i
    apply go_retE (k := q)
    · walk_at "ev"
    · rfl
theorem ev_whole {σ : L2.St} {H : Hp} {E : XK} {tr : TA} {i : Int} (h : EvA tr σ H [.int i]) : Ev (tCall (spS fun vs v => ∃ i, vs = [.int i] ∧ v = .bl true) [] E tr) σ H (.bl true) := ev_callS h ⟨i, rfl, rfl⟩
local macro_rules | `(tactic| walk_at "ev") => `(tactic| ((with_reducible apply ev_whole); walk_at "ea"))
theorem ok_law_same_n (T : Tx w K mg) : ∀ n : Nat, FnOk P w K mg base CX0 (n + 1) T.a_law_same T.d_law_same ["_law_found", "_law_due"] (spSame K n) := by
  intro n
  induction n with
  | zero => exact T.F_law_same.ok sc_law_same (fun vs H Q E h => h.elim) (fun cdv A outer s H vs Q E hr h => h.elim)
  | succ n ih =>
  refine T.F_law_same.ok sc_law_same (fun vs H Q E h => ?_) (fun cdv A outer s H vs Q E hr h => ?_)
  · obtain ⟨Hd, d, v1, v2, rfl, _⟩ := h
    rfl
  · obtain ⟨Hd, d, v1, v2, rfl, sx, hd1, hd2, hk, q⟩ := h
    refine ⟨_, (pss_cons (ps_if (pt_cmpR op_isN (pv 1) pe_non (nomark _)) (pss_cons (ps_ret (pe_cmpR op_isN (pv 0) pe_non (nomark _)))
      pss_nil) pss_nil)
      (pss_cons (ps_if (pt_val (pe_callB (r := rIsi K) call_isi (by rfl) T.n_isinstance (by decide +kernel) (pa_cons (pv 1) (pa_cons (pe_bltn (v := .ty "bool") (by rfl) T.n_bool (by decide +kernel) rfl) pa_nil)))) (pss_cons (ps_ret (pe_and (pe_callB (r := rIsi K) call_isi (by rfl) T.n_isinstance (by decide +kernel) (pa_cons (pv 0) (pa_cons (pe_bltn (v := .ty "bool") (by rfl) T.n_bool (by decide +kernel) rfl) pa_nil))) (pe_one (pe_cmpR op_eq (pv 0) (pv 1) (nomark _)))))
      pss_nil) pss_nil)
      (pss_cons (ps_if (pt_val (pe_callB (r := rIsi K) call_isi (by rfl) T.n_isinstance (by decide +kernel) (pa_cons (pv 1) (pa_cons (pe_bltn (v := .ty "int") (by rfl) T.n_int (by decide +kernel) rfl) pa_nil)))) (pss_cons (ps_ret (pe_and (pe_call (ok_law_whole (P := P) (w := w) T) (hr.mono (by omega)) (by rfl) T.g_law_whole T.F_law_whole.kp T.b_law_whole .nil pass0 (pa_cons (pv 0) pa_nil)) (pe_one (pe_cmpR op_eq (pv 0) (pv 1) (nomark _)))))
      pss_nil) pss_nil)
      (pss_cons (ps_if (pt_val (pe_callB (r := rIsi K) call_isi (by rfl) T.n_isinstance (by decide +kernel) (pa_cons (pv 1) (pa_cons (pe_bltn (v := .ty "str") (by rfl) T.n_str (by decide +kernel) rfl) pa_nil)))) (pss_cons (ps_ret (pe_and (pe_callB (r := rIsi K) call_isi (by rfl) T.n_isinstance (by decide +kernel) (pa_cons (pv 0) (pa_cons (pe_bltn (v := .ty "str") (by rfl) T.n_str (by decide +kernel) rfl) pa_nil))) (pe_one (pe_cmpR op_eq (pv 0) (pv 1) (nomark _)))))
      pss_nil) pss_nil)
      (pss_cons (ps_if (pt_cmpR op_ne (pe_callB (r := rIsi K) call_isi (by rfl) T.n_isinstance (by decide +kernel) (pa_cons (pv 1) (pa_cons (pe_bltn (v := .ty "list") (by rfl) T.n_list (by decide +kernel) rfl) pa_nil))) (pe_callB (r := rIsi K) call_isi (by rfl) T.n_isinstance (by decide +kernel) (pa_cons (pv 0) (pa_cons (pe_bltn (v := .ty "list") (by rfl) T.n_list (by decide +kernel) rfl) pa_nil))) (nomark _)) (pss_cons (ps_ret pe_bl)
      pss_nil) pss_nil)
      (pss_cons (ps_if (pt_cmpR op_ne (pe_callB (r := rIsi K) call_isi (by rfl) T.n_isinstance (by decide +kernel) (pa_cons (pv 1) (pa_cons (pe_bltn (v := .ty "tuple") (by rfl) T.n_tuple (by decide +kernel) rfl) pa_nil))) (pe_callB (r := rIsi K) call_isi (by rfl) T.n_isinstance (by decide +kernel) (pa_cons (pv 0) (pa_cons (pe_bltn (v := .ty "tuple") (by rfl) T.n_tuple (by decide +kernel) rfl) pa_nil))) (nomark _)) (pss_cons (ps_ret pe_bl)
      pss_nil) pss_nil)
      (pss_cons (ps_if (PW.pt (pw_or (pt_not (pt_val (pe_callB (r := rIsiT K) call_isiT (by rfl) T.n_isinstance (by decide +kernel) (pa_cons (pv 0) (pa_cons (pe_tup (pa_cons (pe_bltn (v := .ty "list") (by rfl) T.n_list (by decide +kernel) rfl) (pa_cons (pe_bltn (v := .ty "tuple") (by rfl) T.n_tuple (by decide +kernel) rfl) pa_nil))) pa_nil))))) (pw_or1 (pt_cmpR op_ne (pe_callB (r := rLenS K) call_lenQ (by rfl) T.n_len PySem.boot_len (pa_cons (pv 0) pa_nil)) (pe_callB (r := rLenS K) call_lenQ (by rfl) T.n_len PySem.boot_len (pa_cons (pv 1) pa_nil)) (nomark _))))) (pss_cons (ps_ret pe_bl)
      pss_nil) pss_nil)
      (pss_cons (ps_ret (pe_callB (r := rAll K) (cr_all rfl) (by rfl) T.n_all (by decide +kernel) (pa_cons (pe_lc (own := [("_law_one", 2), ("_law_other", 3)]) (g := (gTup K 2 (gCons (gName 2) (gCons (gName 3) gNil)))) (by rfl) sc_law_same.nd (pi_zipA (by rfl) T.n_zip (pa_cons (pv 0) (pa_cons (pv 1) pa_nil))) (blkOk_by (own := [("_law_one", 2), ("_law_other", 3)]) (N := N_law_same) (sc := defScope s_law_same) (by decide +kernel)) (fun _ _ _ _ _ => (pg_tup rfl (pgs_cons (pg_name (i := 2) sc_law_same.nd rfl (.inl rfl) (hf := .inr rfl)) (pgs_cons (pg_name (i := 3) sc_law_same.nd rfl (.inl rfl) (hf := .inr rfl)) pgs_nil)))) (fun _ _ _ _ _ => pts_nil) (fun _ _ _ _ _ => (pe_call (ih) (hr.mono (by omega)) (by rfl) T.g_law_same T.F_law_same.kp T.b_law_same .nil pass0 (pa_cons (pv 2) (pa_cons (pv 3) pa_nil))))) pa_nil)))
      pss_nil)))))))), Go.go ?_⟩
    have items : ∀ (ds : List PyData), (n = 0 → ds = []) → (∀ m, n = m + 1 → ∀ e ∈ ds, okD m e) → ∀ (i : Nat) (e : PyData) (σ2 : L2.St) (Hn : Hp) (tr : TA) (E : XK), ds[i]? = some e → EvDA K tr σ2 Hn [e, e] → EvD K (tCall (spSame K n) [] E tr) σ2 Hn (.bool true) := by
      intro ds h0 h1 i e σ2 Hn tr E he hv
      have hm := List.mem_of_getElem? he
      cases n with
      | zero => rw [h0 rfl] at hm; cases hm
      | succ m => exact ed_bool (ev_same hv (h1 m rfl e hm))
    have trues : ∀ n : Nat, (List.range n).map (fun _ => PyData.bool true) = (List.replicate n true).map PyData.bool := by
      intro n
      apply List.ext_getElem
      · simp
      · intro i h1 h2
        simp
    cases d with
    | none =>
      cases hd1
      cases hd2
      refine go_whenT (et_is (by walk_at "et") (by decide)) ?_
      apply go_retE (k := q)
      · walk_at "ev"
      · rfl
    | bool b =>
      cases hd1
      cases hd2
      refine go_whenF (et_is (by walk_at "et") (by rfl)) ?_
      refine go_whenT (et_is (by walk_at "et") (by rfl)) ?_
      apply go_retE (k := q)
      · walk_at "ev"
      · simp
    | int b =>
      cases hd1
      cases hd2
      refine go_whenF (et_is (by walk_at "et") (by rfl)) ?_
      refine go_whenF (et_is (by walk_at "et") (by rfl)) ?_
      refine go_whenT (et_is (by walk_at "et") (by rfl)) ?_
      apply go_retE (k := q)
      · walk_at "ev"
      · simp
    | str b =>
      cases hd1
      cases hd2
      refine go_whenF (et_is (by walk_at "et") (by rfl)) ?_
      refine go_whenF (et_is (by walk_at "et") (by rfl)) ?_
      refine go_whenF (et_is (by walk_at "et") (by rfl)) ?_
      refine go_whenT (et_is (by walk_at "et") (by rfl)) ?_
      apply go_retE (k := q)
      · walk_at "ev"
      · simp
    | list ds =>
      obtain ⟨a1, rfl⟩ : ∃ a, v1 = .ref a := by cases hd1; exact ⟨_, rfl⟩
      obtain ⟨a2, rfl⟩ : ∃ a, v2 = .ref a := by cases hd2; exact ⟨_, rfl⟩
      have hd1' := dp_mono sx _ hd1
      have hd2' := dp_mono sx _ hd2
      have hl : ds.length ≤ 40000 := by
        cases n with
        | zero => rw [show ds = [] from hk]; decide
        | succ m => exact hk.1
      refine go_whenF (et_is (by walk_at "et") (by rfl)) ?_
      refine go_whenF (et_is (by walk_at "et") (by rfl)) ?_
      refine go_whenF (et_is (by walk_at "et") (by rfl)) ?_
      refine go_whenF (et_is (by walk_at "et") (by rfl)) ?_
      refine go_whenF (et_is (by walk_at "et") (by simp)) ?_
      refine go_whenF (et_is (by walk_at "et") (by simp)) ?_
      refine go_whenF (et_is (by walk_at "et") (by simp)) ?_
      apply go_retE (k := q)
      · apply ev_all (K := K) (bs := List.replicate ds.length true)
        rw [← trues, ← givenD_all]
        refine ed_new (en_lc (ei_zipL (K := K) (ds := ds) (es := ds) (by walk_at "eda") rfl) hl (fun _ => true) (fun _ => .bool true) ?_)
        rintro i σ2 Hn hi e ⟨v, v2, d, d2, h1, h2, h3, h4, rfl⟩
        rw [h1] at h2
        cases h2
        refine ⟨rfl, et_yes, fun _ => ?_⟩
        refine items ds (fun z => by subst z; exact hk) (fun m hm => by subst hm; exact hk.2) i d _ Hn _ _ h1 ?_
        walk_at "eda"
      · simp
    | tuple ds =>
      obtain ⟨a1, rfl⟩ : ∃ a, v1 = .ref a := by cases hd1; exact ⟨_, rfl⟩
      obtain ⟨a2, rfl⟩ : ∃ a, v2 = .ref a := by cases hd2; exact ⟨_, rfl⟩
      have hd1' := dp_mono sx _ hd1
      have hd2' := dp_mono sx _ hd2
      have hl : ds.length ≤ 40000 := by
        cases n with
        | zero => rw [show ds = [] from hk]; decide
        | succ m => exact hk.1
      refine go_whenF (et_is (by walk_at "et") (by rfl)) ?_
      refine go_whenF (et_is (by walk_at "et") (by rfl)) ?_
      refine go_whenF (et_is (by walk_at "et") (by rfl)) ?_
      refine go_whenF (et_is (by walk_at "et") (by rfl)) ?_
      refine go_whenF (et_is (by walk_at "et") (by simp)) ?_
      refine go_whenF (et_is (by walk_at "et") (by simp)) ?_
      refine go_whenF (et_is (by walk_at "et") (by simp)) ?_
      apply go_retE (k := q)
      · apply ev_all (K := K) (bs := List.replicate ds.length true)
        rw [← trues, ← givenD_all]
        refine ed_new (en_lc (ei_zipT (K := K) (ds := ds) (es := ds) (by walk_at "eda") rfl) hl (fun _ => true) (fun _ => .bool true) ?_)
        rintro i σ2 Hn hi e ⟨v, v2, d, d2, h1, h2, h3, h4, rfl⟩
        rw [h1] at h2
        cases h2
        refine ⟨rfl, et_yes, fun _ => ?_⟩
        refine items ds (fun z => by subst z; exact hk) (fun m hm => by subst hm; exact hk.2) i d _ Hn _ _ h1 ?_
        walk_at "eda"
      · simp
    | dict _ => cases hd1
theorem ok_law_same (T : Tx w K mg) : FnOk P w K mg base CX0 8 T.a_law_same T.d_law_same ["_law_found", "_law_due"] (spSame K 7) := ok_law_same_n T 7

/-! ### names, numbers, what squares are, as words -/
abbrev lettersS : Str := "abcdefghijklmnopqrstuvwxyz"
abbrev figuresS : Str := "0123456789"
def isNameS (z : Str) : Bool := (decide (1 ≤ z.length) && decide (z.length ≤ 8)) && z.cps.toList.all fun k => decide (k ∈ lettersS.cps.toList)
def figsB (z : Str) : Bool := (decide (1 ≤ z.length) && decide (z.length ≤ 6)) && z.cps.toList.all fun k => decide (k ∈ figuresS.cps.toList)
def readNum (z : Str) : Option Int := if figsB z = true then (if decide (1 < z.length) && decide (z.cps.toList.head? = some 48) then none else some ((NumText.digitsVal z.cps.toList : Nat) : Int)) else none
def readWhat (z : Str) : Option Int := if z = "land" then some (-1) else if z = "sea" then some (-2) else readNum z
def whatT (n : Int) : Str := if n = -1 then "land" else if n = -2 then "sea" else Str.ofString (toString n)
def readT (k z : Str) : PyData := if k = "name" then (if isNameS z = true then .str z else .none) else if k = "what" then oD (readWhat z) else oD (readNum z)
def thingT (k : Str) : PyData → Str
  | .int n => if k = "what" then whatT n else Str.ofString (toString n)
  | .str z => z
  | _ => ""
theorem thingT_int (k : Str) (n : Int) : thingT k (.int n) = if k = "what" then whatT n else Str.ofString (toString n) := rfl
theorem len_int (z : Str) (k : Nat) (c : Int) (hc : c = (k : Int)) : decide ((1 : Int) ≤ (z.length : Int)) = decide (1 ≤ z.length) ∧ decide ((z.length : Int) ≤ c) = decide (z.length ≤ k) := by
  subst hc
  exact ⟨by rw [decide_eq_decide]; omega, by rw [decide_eq_decide]; omega⟩
def R_name (vs : List V) (v : V) : Prop := ∃ z : Str, vs = [.str z] ∧ z.length ≤ 30000 ∧ v = .bl (isNameS z)
theorem ok_is_name (T : Tx w K mg) : FnOk P w K mg base CX0 1 T.a_is_name T.d_is_name ["word"] (spS R_name) := by
  refine T.F_is_name.ok sc_is_name (fun vs H Q E h => ?_) (fun cdv A outer s H vs Q E hr h => ?_)
  · obtain ⟨v, ⟨z, rfl, _⟩, q⟩ := h
    rfl
  · obtain ⟨v, ⟨z, rfl, hz, rfl⟩, q⟩ := h
    refine ⟨_, (pss_cons (ps_ret (pe_and (pe_chain op_le op_le pe_int (pe_callB (r := rLenX) call_lenX (by rfl) T.n_len PySem.boot_len (pa_cons (pv 0) pa_nil)) (pe_glob (v := .int (8)) rfl T.c_MOST_LETTERS ⟨_, rfl⟩)) (pe_one (pe_callB (r := rAll K) (cr_all rfl) (by rfl) T.n_all (by decide +kernel) (pa_cons (pe_lc (own := [("letter", 1)]) (g := (gName 1)) (by rfl) sc_is_name.nd (pi_str (pv 0)) (blkOk_by (own := [("letter", 1)]) (N := N_is_name) (sc := defScope s_is_name) (by decide +kernel)) (fun _ _ _ _ _ => (pg_name (i := 1) sc_is_name.nd rfl (.inl rfl) (hf := .inr rfl))) (fun _ _ _ _ _ => pts_nil) (fun _ _ _ _ _ => (pe_cmpR (r := rInSg) op_in_sign (pv 1) (pe_glob (v := .str "abcdefghijklmnopqrstuvwxyz") rfl T.c_LETTERS ⟨_, rfl⟩) (by rfl)))) pa_nil)))))
      pss_nil), Go.go ?_⟩
    refine go_retE (v := .bl (isNameS z)) (ev_andB (ev_chainB ev_c (ev_lenX (ev_var rfl) (by omega)) rv_I0 ev_c rv_I0) (ev_all (K := K) (ed_new (en_signs (f := fun k => decide (k ∈ lettersS.cps.toList)) (ev_var rfl) (by omega) ?_)))) ?_ q
    · rintro σ2 Hn k ex rfl
      exact ⟨rfl, ev_inSg (ev_var rfl) ev_c⟩
    · unfold isNameS
      rw [(len_int z 8 8 rfl).1, (len_int z 8 8 rfl).2, List.all_map]
      rfl
theorem zero_sg : ("0" : Str) = sg 48 := by decide +kernel
theorem figs_all : ∀ k ∈ figuresS.cps.toList, 48 ≤ k ∧ k ≤ 57 := by decide +kernel
def R_num (vs : List V) (v : V) : Prop := ∃ z : Str, vs = [.str z] ∧ z.length ≤ 30000 ∧ v = oV (readNum z)
theorem ok_read_number (T : Tx w K mg) : FnOk P w K mg base CX0 1 T.a_read_number T.d_read_number ["word"] (spS R_num) := by
  refine T.F_read_number.ok sc_read_number (fun vs H Q E h => ?_) (fun cdv A outer s H vs Q E hr h => ?_)
  · obtain ⟨v, ⟨z, rfl, _⟩, q⟩ := h
    rfl
  · obtain ⟨v, ⟨z, rfl, hz, rfl⟩, q⟩ := h
    refine ⟨_, (pss_cons (ps_if (PW.pt (pw_or (pt_not (pt_chain op_le op_le pe_int (pe_callB (r := rLenX) call_lenX (by rfl) T.n_len PySem.boot_len (pa_cons (pv 0) pa_nil)) (pe_glob (v := .int (6)) rfl T.c_MOST_FIGURES ⟨_, rfl⟩))) (pw_or1 (pt_not (pt_val (pe_callB (r := rAll K) (cr_all rfl) (by rfl) T.n_all (by decide +kernel) (pa_cons (pe_lc (own := [("figure", 1)]) (g := (gName 1)) (by rfl) sc_read_number.nd (pi_str (pv 0)) (blkOk_by (own := [("figure", 1)]) (N := N_read_number) (sc := defScope s_read_number) (by decide +kernel)) (fun _ _ _ _ _ => (pg_name (i := 1) sc_read_number.nd rfl (.inl rfl) (hf := .inr rfl))) (fun _ _ _ _ _ => pts_nil) (fun _ _ _ _ _ => (pe_cmpR (r := rInSg) op_in_sign (pv 1) (pe_glob (v := .str "0123456789") rfl T.c_FIGURES ⟨_, rfl⟩) (by rfl)))) pa_nil))))))) (pss_cons (ps_ret pe_non)
      pss_nil) pss_nil)
      (pss_cons (ps_if (PW.pt (pw_and (pt_cmpR op_gt (pe_callB (r := rLenX) call_lenX (by rfl) T.n_len PySem.boot_len (pa_cons (pv 0) pa_nil)) pe_int (nomark _)) (pw_and1 (pt_cmpR op_eq (pe_ix (r := rIxS) ix_str (pv 0) pe_int (fun _ _ => rfl)) pe_str (nomark _))))) (pss_cons (ps_ret pe_non)
      pss_nil) pss_nil)
      (pss_cons (ps_ret (pe_callTy (r := rIntS) call_intS (by rfl) T.n_int (by decide +kernel) (pa_cons (pv 0) pa_nil)))
      pss_nil))), Go.go ?_⟩
    refine go_when (b := !figsB z) (et_is (et_orB (et_not (et_test (ev_chainB ev_c (ev_lenX (ev_var rfl) (by omega)) rv_I0 ev_c rv_I0))) (et_not (et_test (ev_all (K := K) (ed_new (en_signs (f := fun k => decide (k ∈ figuresS.cps.toList)) (ev_var rfl) (by omega) ?_)))))) ?_) (fun e => ?_) (fun e => ?_)
    · rintro σ2 Hn k ex rfl
      exact ⟨rfl, ev_inSg (ev_var rfl) ev_c⟩
    · unfold figsB
      rw [(len_int z 6 6 rfl).1, (len_int z 6 6 rfl).2, List.all_map, ← Bool.not_and]
      rfl
    · have e0 : figsB z = false := by simpa using e
      refine go_retE (v := oV (readNum z)) ev_c ?_ q
      unfold readNum
      rw [e0]
      rfl
    have e0 : figsB z = true := by simpa using e
    obtain ⟨⟨l1, l6⟩, ha⟩ : (1 ≤ z.length ∧ z.length ≤ 6) ∧ _ := by
      unfold figsB at e0
      rw [Bool.and_eq_true, Bool.and_eq_true, decide_eq_true_eq, decide_eq_true_eq] at e0
      exact e0
    have hlen : z.cps.toList.length = z.length := by simp [Str.length]
    obtain ⟨c0, cs, hcs⟩ : ∃ c cs, z.cps.toList = c :: cs := by
      cases h : z.cps.toList with
      | nil => rw [h] at hlen; simp at hlen; omega
      | cons c cs => exact ⟨c, cs, rfl⟩
    refine go_when (b := decide (1 < z.length) && decide (z.cps.toList.head? = some 48)) (et_is (et_andB (et_test (ev_op (ev_lenX (ev_var rfl) (by omega)) ev_c rv_I0)) (et_test (ev_op (ev_ixS (c := c0) (ev_var rfl) ev_c (by omega) (by rw [hcs]; exact atI_nat (j := 0) rfl)) ev_c (rv_eq rfl)))) ?_) (fun e2 => ?_) (fun e2 => ?_)
    · rw [hcs]
      congr 1
      · rw [decide_eq_decide]
        omega
      · rw [zero_sg, decide_eq_decide, V.str.injEq]
        constructor
        · intro h
          have := congrArg TL.tl h
          rw [List.head?_cons, List.singleton_inj.mp this]
        · intro h
          rw [Option.some.inj h]
    · refine go_retE (v := oV (readNum z)) ev_c ?_ q
      unfold readNum
      rw [if_pos e0, if_pos e2]
      rfl
    · have hi : intText? z = some ((NumText.digitsVal z.cps.toList : Nat) : Int) := intText_digits (x := z) (fun c hc => figs_all c (of_decide_eq_true (List.all_eq_true.mp ha c hc))) (by rw [hcs]; simp) (by omega)
      refine go_retE (v := oV (readNum z)) (ev_intS (ev_var rfl) hi (by omega)) ?_ q
      unfold readNum
      rw [if_pos e0, if_neg (by rw [e2]; decide)]
      rfl
def R_rwhat (vs : List V) (v : V) : Prop := ∃ z : Str, vs = [.str z] ∧ z.length ≤ 30000 ∧ v = oV (readWhat z)
theorem ok_read_what (T : Tx w K mg) : FnOk P w K mg base CX0 2 T.a_read_what T.d_read_what ["word"] (spS R_rwhat) := by
  refine T.F_read_what.ok sc_read_what (fun vs H Q E h => ?_) (fun cdv A outer s H vs Q E hr h => ?_)
  · obtain ⟨v, ⟨z, rfl, _⟩, q⟩ := h
    rfl
  · obtain ⟨v, ⟨z, rfl, hz, rfl⟩, q⟩ := h
    refine ⟨_, (pss_cons (ps_if (pt_cmpR op_eq (pv 0) pe_str (nomark _)) (pss_cons (ps_ret (pe_glob (v := .int (-1)) rfl T.c_LAND ⟨_, rfl⟩))
      pss_nil) pss_nil)
      (pss_cons (ps_if (pt_cmpR op_eq (pv 0) pe_str (nomark _)) (pss_cons (ps_ret (pe_glob (v := .int (-2)) rfl T.c_UNTOLD ⟨_, rfl⟩))
      pss_nil) pss_nil)
      (pss_cons (ps_ret (pe_call (ok_read_number (P := P) (w := w) T) (hr.mono (by omega)) (by rfl) T.g_read_number T.F_read_number.kp T.b_read_number .nil pass0 (pa_cons (pv 0) pa_nil)))
      pss_nil))), Go.go ?_⟩
    refine go_when (b := decide (z = "land")) (et_is (by walk_at "et") (by rw [decide_eq_decide, V.str.injEq])) (fun e => ?_) (fun e => ?_)
    · exact go_retE (v := oV (readWhat z)) ev_c (by unfold readWhat; rw [if_pos (of_decide_eq_true e)]; rfl) q
    refine go_when (b := decide (z = "sea")) (et_is (by walk_at "et") (by rw [decide_eq_decide, V.str.injEq])) (fun e2 => ?_) (fun e2 => ?_)
    · exact go_retE (v := oV (readWhat z)) ev_c (by unfold readWhat; rw [if_neg (of_decide_eq_false e), if_pos (of_decide_eq_true e2)]; rfl) q
    exact go_retE (v := oV (readWhat z)) (ev_callS (ea_cons (ev_var rfl) ea_nil) ⟨z, rfl, hz, rfl⟩) (by unfold readWhat; rw [if_neg (of_decide_eq_false e), if_neg (of_decide_eq_false e2)]) q
def RReadT (ds : List PyData) (d : PyData) : Prop := ∃ k z : Str, ds = [.str k, .str z] ∧ z.length ≤ 30000 ∧ d = readT k z
theorem ok_read_thing (T : Tx w K mg) : FnOk P w K mg base CX0 3 T.a_read_thing T.d_read_thing ["kind", "word"] (spF K RReadT) := by
  refine T.F_read_thing.ok sc_read_thing (fun vs H Q E h => ?_) (fun cdv A outer s H vs Q E hr h => ?_)
  · obtain ⟨Hd, ds, d, sx, hds, ⟨k, z, rfl, _⟩, q⟩ := h
    rw [dpa_len hds]
    rfl
  · obtain ⟨Hd, ds, d, sx, hds, ⟨k, z, rfl, hz, rfl⟩, q⟩ := h
    cases hds with
    | @cons v1 _ _ _ d1 h2 =>
    cases h2 with
    | @cons v2 _ _ _ d2 h3 =>
    cases h3
    cases d1
    cases d2
    have fin : ∀ {te : TE} {d : PyData} {σ : L2.St}, EvD K te σ Hd d → d = readT k z → ∀ {tz : TS} {D : Ends}, D.rt = Q → Go (tSeq (tRet te) tz) D σ H := fun {te d σ} h e {tz D} hD => go_ret sx (d := readT k z) (by rw [← e]; exact h) (by rw [hD]; exact q)
    refine ⟨_, (pss_cons (ps_if (pt_cmpR op_eq (pv 0) pe_str (nomark _)) (pss_cons (ps_ret (pe_ifExp (pt_val (pe_call (ok_is_name (P := P) (w := w) T) (hr.mono (by omega)) (by rfl) T.g_is_name T.F_is_name.kp T.b_is_name .nil pass0 (pa_cons (pv 1) pa_nil))) (pv 1) pe_non))
      pss_nil) pss_nil)
      (pss_cons (ps_if (pt_cmpR op_eq (pv 0) pe_str (nomark _)) (pss_cons (ps_ret (pe_call (ok_read_what (P := P) (w := w) T) (hr.mono (by omega)) (by rfl) T.g_read_what T.F_read_what.kp T.b_read_what .nil pass0 (pa_cons (pv 1) pa_nil)))
      pss_nil) pss_nil)
      (pss_cons (ps_ret (pe_call (ok_read_number (P := P) (w := w) T) (hr.mono (by omega)) (by rfl) T.g_read_number T.F_read_number.kp T.b_read_number .nil pass0 (pa_cons (pv 1) pa_nil)))
      pss_nil))), Go.go ?_⟩
    refine go_when (b := decide (k = "name")) (et_is (by walk_at "et") (by rw [decide_eq_decide, V.str.injEq])) (fun e => ?_) (fun e => ?_)
    · refine fin (D := _) (ed_if (c := isNameS z) (d := if isNameS z = true then .str z else .none) (et_test (ev_callS (ea_cons (ev_var rfl) ea_nil) ⟨z, rfl, hz, rfl⟩)) (fun e2 => by rw [if_pos e2]; exact ed_str (ev_var rfl)) (fun e2 => by rw [if_neg (by rw [e2]; decide)]; exact ed_non ev_c)) ?_ rfl
      unfold readT
      rw [if_pos (of_decide_eq_true e)]
    refine go_when (b := decide (k = "what")) (et_is (by walk_at "et") (by rw [decide_eq_decide, V.str.injEq])) (fun e2 => ?_) (fun e2 => ?_)
    · refine fin (ed_ev (v := oV (readWhat z)) (ev_callS (ea_cons (ev_var rfl) ea_nil) ⟨z, rfl, hz, rfl⟩) (ov_dp _)) ?_ rfl
      unfold readT
      rw [if_neg (of_decide_eq_false e), if_pos (of_decide_eq_true e2)]
    · refine fin (ed_ev (v := oV (readNum z)) (ev_callS (ea_cons (ev_var rfl) ea_nil) ⟨z, rfl, hz, rfl⟩) (ov_dp _)) ?_ rfl
      unfold readT
      rw [if_neg (of_decide_eq_false e), if_neg (of_decide_eq_false e2)]
def okT (k : Str) (d : PyData) : Prop := (∃ n : Int, d = .int n ∧ (if k = "what" then -2 ≤ n else 0 ≤ n) ∧ n < 10 ^ 40) ∨ (k ≠ "what" ∧ ∃ z : Str, d = .str z ∧ z.length ≤ 1000)
theorem log2_40 {n : Int} (h0 : -2 ≤ n) (h : n < 10 ^ 40) : n.natAbs.log2 < 1920 := by
  have h1 : n.natAbs < 2 ^ 200 := by
    have : (10 : Int) ^ 40 < 2 ^ 200 := by decide
    omega
  by_cases z : n.natAbs = 0
  · rw [z]; decide
  · have := (Nat.log2_lt z).mpr h1
    omega
def readTs (ks ws : List Str) : PyData := if ws.length = ks.length then (if (List.zipWith readT ks ws).any (fun d => PyData.eqv d .none) = true then .none else .list (List.zipWith readT ks ws)) else .none
def RReadTs (ds : List PyData) (d : PyData) : Prop := ∃ ks ws : List Str, ds = [.tuple (ks.map .str), .list (ws.map .str)] ∧ ks.length ≤ 10 ∧ (∀ z ∈ ws, z.length ≤ 30000) ∧ d = readTs ks ws
theorem letters_all : ∀ k ∈ lettersS.cps.toList, 97 ≤ k ∧ k ≤ 122 := by decide +kernel
theorem name_ok {z : Str} (h : isNameS z = true) : PyData.strOk z = true := by
  unfold isNameS at h
  rw [Bool.and_eq_true] at h
  have h2 := List.all_eq_true.mp h.2
  unfold PyData.strOk
  rw [← Array.all_toList, List.all_eq_true]
  intro c hc
  have := letters_all c (of_decide_eq_true (h2 c hc))
  exact decide_eq_true (by omega)
theorem readT_ok (n : Nat) (k z : Str) : okE n (readT k z) := by
  unfold readT
  split
  · split
    · rename_i h
      cases n <;> exact name_ok h
    · cases n <;> trivial
  · split
    · cases readWhat z <;> cases n <;> trivial
    · cases readNum z <;> cases n <;> trivial
theorem readTs_ok (n : Nat) (ks ws : List Str) : okE (n + 1) (.list (List.zipWith readT ks ws)) := fun e he => by
  obtain ⟨i, hi, rfl⟩ := List.getElem_of_mem he
  rw [List.getElem_zipWith]
  exact readT_ok n _ _
theorem ok_read_things (T : Tx w K mg) : FnOk P w K mg base CX0 4 T.a_read_things T.d_read_things ["kinds", "words"] (spF K RReadTs) := by
  refine T.F_read_things.ok sc_read_things (fun vs H Q E h => ?_) (fun cdv A outer s H vs Q E hr h => ?_)
  · obtain ⟨Hd, ds, d, sx, hds, ⟨ks, ws, rfl, _⟩, q⟩ := h
    rw [dpa_len hds]
    rfl
  · obtain ⟨Hd, ds, d, sx, hds, ⟨ks, ws, rfl, hk, hw, rfl⟩, q⟩ := h
    cases hds with
    | @cons v1 _ _ _ d1 h2 =>
    cases h2 with
    | @cons v2 _ _ _ d2 h3 =>
    cases h3
    refine ⟨_, (pss_cons (ps_if (pt_cmpR op_ne (pe_callB (r := rLenS K) call_lenQ (by rfl) T.n_len PySem.boot_len (pa_cons (pv 1) pa_nil)) (pe_callB (r := rLenS K) call_lenQ (by rfl) T.n_len PySem.boot_len (pa_cons (pv 0) pa_nil)) (nomark _)) (pss_cons (ps_ret pe_non)
      pss_nil) pss_nil)
      (pss_cons (ps_setLc (i := 2) (own := [("kind", 3), ("word", 4)]) (g := (gTup K 2 (gCons (gName 3) (gCons (gName 4) gNil)))) (by rfl) sc_read_things.nd rfl rfl (sw_true rfl rfl rfl (by decide +kernel)) (pi_zipTL (by rfl) T.n_zip (pa_cons (pv 0) (pa_cons (pv 1) pa_nil))) (blkOk_by (own := [("kind", 3), ("word", 4)]) (N := N_read_things) (sc := defScope s_read_things) (by decide +kernel)) (fun _ _ _ _ _ => (pg_tup rfl (pgs_cons (pg_name (i := 3) sc_read_things.nd rfl (.inl rfl) (hf := .inr rfl)) (pgs_cons (pg_name (i := 4) sc_read_things.nd rfl (.inl rfl) (hf := .inr rfl)) pgs_nil)))) (fun _ _ _ _ _ => pts_nil) (fun _ _ _ _ _ => (pe_call (ok_read_thing (P := P) (w := w) T) (hr.mono (by omega)) (by rfl) T.g_read_thing T.F_read_thing.kp T.b_read_thing .nil pass0 (pa_cons (pv 3) (pa_cons (pv 4) pa_nil)))))
      (pss_cons (ps_ret (pe_ifExp (pt_cmpR (r := rInD K) (op_inD (u65 hr)) pe_non (pv 2) (by rfl)) pe_non (pv 2)))
      pss_nil))), Go.go ?_⟩
    refine go_when (b := !decide (ws.length = ks.length)) (EvT.mono sx (et_is (et_test (ev_op (ev_lenL (K := K) (ed_var rfl d2)) (ev_lenT (K := K) (ed_var rfl d1)) (rv_ne rfl))) ?_)) (fun e => ?_) (fun e => ?_)
    · rw [List.length_map, List.length_map]
      congr 1
      rw [decide_eq_decide, V.int.injEq]
      omega
    · refine go_ret (K := K) sx (d := readTs ks ws) ?_ q
      unfold readTs
      rw [if_neg (by simpa using e)]
      exact ed_non ev_c
    have e : ws.length = ks.length := by simpa using e
    have ez : List.zipWith readT ks ws = givenD ks.length (fun _ => true) (fun i => readT ((ks[i]?).getD "") ((ws[i]?).getD "")) := by
      rw [givenD_all]
      apply List.ext_getElem
      · simp [e]
      · intro i h1 h2
        simp [e] at h1
        simp [h1, e]
    refine go_asgD (K := K) (d := .list (List.zipWith readT ks ws)) sx (ed_new ?_) fun v3 H3 D3 g3 h3 => ?_
    · rw [ez]
      have hn : (ks.map PyData.str).length = ks.length := List.length_map ..
      rw [← hn]
      refine en_lc (ei_zipTL (K := K) (eda_cons (ed_var rfl d1) (eda_cons (ed_var rfl d2) eda_nil)) (by simp [e])) (by omega) _ _ ?_
      rintro i σ2 Hn hi ex ⟨va, vb, da, db, hda, hdb, hva, hvb, rfl⟩
      have hda : (ks.map PyData.str)[i]? = some da := hda
      have hdb : (ws.map PyData.str)[i]? = some db := hdb
      rw [List.getElem?_map] at hda hdb
      obtain ⟨k, hk1, rfl⟩ := Option.map_eq_some_iff.mp hda
      obtain ⟨z, hz1, rfl⟩ := Option.map_eq_some_iff.mp hdb
      cases hva
      cases hvb
      refine ⟨rfl, et_yes, fun _ => ?_⟩
      rw [hk1, hz1]
      exact ed_call (eda_cons (ed_str (ev_var rfl)) (eda_cons (ed_str (ev_var rfl)) eda_nil)) ⟨k, z, rfl, hw z (List.mem_of_getElem? hz1), rfl⟩
    refine go_ret (K := K) g3.sub (d := readTs ks ws) (ed_if (c := (List.zipWith readT ks ws).any fun d => PyData.eqv d .none) (et_test (ev_inD (K := K) (d := .none) (ed_non ev_c) (ed_var rfl h3) (by decide) (okE_shaped (readTs_ok 0 ks ws) (by decide)))) (fun e2 => ?_) (fun e2 => ?_)) fun v H4 D4 g4 h4 => q v H4 D4 (g3.trans g4) h4
    · unfold readTs
      rw [if_pos e, if_pos e2]
      exact ed_non ev_c
    · unfold readTs
      rw [if_pos e, if_neg (by rw [e2]; decide)]
      exact ed_var rfl h3

/-! ### the errors of texts -/
theorem ok_BadText_init (T : Tx w K mg) : FnOk P w K mg base CX0 1 T.a_BadText_init T.d_BadText_init ["self", "row"] (spInit T.a_BadText "row") := by
  refine T.F_BadText_init.ok sc_BadText_init (fun vs H Q E h => ?_) (fun cdv A outer s H vs Q E hr h => ?_)
  · obtain ⟨a, n, rfl, _⟩ := h
    rfl
  · obtain ⟨a, n, rfl, h0, h1, ha, q⟩ := h
    refine ⟨_, pss_cons (ps_expr (pe_baseInit (by rfl) T.x_TideError.g T.B_BadText (pa_cons (pv 0) (pa_cons (pe_nfn (pv 1)) pa_nil)))) (pss_cons (ps_ost (pv 0) (pv 1)) pss_nil), ?_⟩
    refine ⟨.ref a, rfl, ?_⟩
    refine nfn_run (i := 1) (n := n) h0 h1 (by decide) (by decide) rfl fun x => ?_
    refine ⟨a, T.a_BadText, [.str x], rfl, by simp, T.O_BadText, ha, ?_⟩
    exact ⟨.int n, rfl, .ref a, rfl, a, T.a_BadText, rfl, T.O_BadText, T.no_BadText, .inl ⟨ha, fun dx hd nd => q dx hd nd⟩⟩
theorem passF {X : Cx} : Passes (L2.CX X.prog X.w) X (fun _ _ _ => False) := fun _ _ _ _ _ _ _ c => by
  obtain ⟨_, _, _, _, _, _, _, _, _, _, _, _, z⟩ := c
  exact z.elim
theorem okL {x ql : Str} {st : Stmt} {f : Addr} {fd : FuncData} {N ps : List Str} {k : Nat} {sp : Sp} (F : Fun K x ql st f fd) (S : FnScope N ps (defScope st)) (ln : ∀ vs H Q E, sp vs H Q E → vs.length = ps.length)
    (hb : ∀ (cdv : Value) (A : Around) (st2 : List Env) (s : Shared) (H : Hp) (vs : List V) (Q : VK) (E : XK), Room k (A.deeper (envOfC ql (defScope st) s.heap.objs.size f cdv)) → sp vs H Q E →
      ∃ t, PSs (cxOf (L2.CX P w) P w K mg base N ql (defScope st) f cdv A st2 s H E) (defBody st) t ∧ t { nx := fun _ H1 => Q .non H1, rt := Q } (L2.start N vs) H) : FnOk P w K mg base (L2.CX P w) (k + 1) f fd ps sp := by
  obtain ⟨_, _, _, _, _, _, cdv, _, _, rfl, lk, hcd⟩ := F.ex
  exact fn_of lk hcd S ln fun A st2 s H vs Q E hr h => hb cdv A st2 s H vs Q E hr h
theorem split_neG {y : Str} {s : Nat} (z : Str) (ey : TL.tl y = [s]) (hk : y.cps.all (· < 256) = true) : Txt.split z y ≠ [] := fun e => by
  have h := split_len z ey hk
  rw [e] at h
  simp at h
theorem split_ne (z : Str) : Txt.split z "\n" ≠ [] := split_neG z (s := 10) (by decide +kernel) (by decide +kernel)
theorem split_neB (z : Str) : Txt.split z " " ≠ [] := split_neG z (s := 32) (by decide +kernel) (by decide +kernel)
theorem head_at {ls : List Str} (h : ls ≠ []) : atI (ls.map PyData.str) 0 = some (.str (ls.headD "")) := by
  cases ls with
  | nil => exact absurd rfl h
  | cons a l =>
    show atI _ ((0 : Nat) : Int) = _
    exact atI_nat rfl

/-! ### deeds as words -/
def deedF : List (Str × List Str) := [("begin", ["name", "number", "number", "number"]), ("tell", ["name", "number", "number", "what", "number"]), ("right", ["name", "number", "what"]), ("strike", ["name", "number"]), ("drop", ["name"]), ("lay", ["name", "name", "number", "number", "number"])]
def lookF (z : Str) : Option (List Str) := (deedF.find? fun e => decide (e.1 = z)).map (·.2)
abbrev deedsKV (T : Tx w K mg) : List (Str × V) := [("begin", .ref T.o_DEEDS_0), ("tell", .ref T.o_DEEDS_1), ("right", .ref T.o_DEEDS_2), ("strike", .ref T.o_DEEDS_3), ("drop", .ref T.o_DEEDS_4), ("lay", .ref T.o_DEEDS_5)]
theorem deeds_look (T : Tx w K mg) (z : Str) : (∀ ks, lookF z = some ks → ∃ a, lookS z (deedsKV T) = some (.ref a) ∧ ks.length ≤ 5 ∧ ∀ H : Hp, Dp K H (.ref a) (.tuple (ks.map .str))) ∧ (lookF z = none → lookS z (deedsKV T) = none) := by
  unfold lookF lookS deedF
  simp only [List.find?_cons, List.find?_nil]
  cases decide (("begin" : Str) = z) with
  | true => exact ⟨fun ks e => by cases e; exact ⟨_, rfl, by simp, fun H => .tup (T.s_DEEDS_0 H) (Cot.dpa_strs (Hd := H) ["name", "number", "number", "number"])⟩, fun e => nomatch e⟩
  | false =>
  cases decide (("tell" : Str) = z) with
  | true => exact ⟨fun ks e => by cases e; exact ⟨_, rfl, by simp, fun H => .tup (T.s_DEEDS_1 H) (Cot.dpa_strs (Hd := H) ["name", "number", "number", "what", "number"])⟩, fun e => nomatch e⟩
  | false =>
  cases decide (("right" : Str) = z) with
  | true => exact ⟨fun ks e => by cases e; exact ⟨_, rfl, by simp, fun H => .tup (T.s_DEEDS_2 H) (Cot.dpa_strs (Hd := H) ["name", "number", "what"])⟩, fun e => nomatch e⟩
  | false =>
  cases decide (("strike" : Str) = z) with
  | true => exact ⟨fun ks e => by cases e; exact ⟨_, rfl, by simp, fun H => .tup (T.s_DEEDS_3 H) (Cot.dpa_strs (Hd := H) ["name", "number"])⟩, fun e => nomatch e⟩
  | false =>
  cases decide (("drop" : Str) = z) with
  | true => exact ⟨fun ks e => by cases e; exact ⟨_, rfl, by simp, fun H => .tup (T.s_DEEDS_4 H) (Cot.dpa_strs (Hd := H) ["name"])⟩, fun e => nomatch e⟩
  | false =>
  cases decide (("lay" : Str) = z) with
  | true => exact ⟨fun ks e => by cases e; exact ⟨_, rfl, by simp, fun H => .tup (T.s_DEEDS_5 H) (Cot.dpa_strs (Hd := H) ["name", "name", "number", "number", "number"])⟩, fun e => nomatch e⟩
  | false => exact ⟨(fun ks e => by cases e), fun _ => rfl⟩
theorem form_short {z : Str} {ks : List Str} (h : lookF z = some ks) : z.length ≤ 10 ∧ 1 ≤ ks.length ∧ ks.length ≤ 5 ∧ ks.head? = some ("name" : Str) := by
  unfold lookF at h
  obtain ⟨e, he, rfl⟩ := Option.map_eq_some_iff.mp h
  have hm := List.mem_of_find?_eq_some he
  have hz : e.1 = z := by simpa using List.find?_some he
  subst hz
  have all : ∀ e ∈ deedF, e.1.length ≤ 10 ∧ 1 ≤ e.2.length ∧ e.2.length ≤ 5 ∧ e.2.head? = some ("name" : Str) := by decide +kernel
  exact all e hm
def okTs : List Str → List PyData → Prop
  | [], [] => True
  | k :: ks, d :: ds => okT k d ∧ okTs ks ds
  | _, _ => False
theorem okTs_len : ∀ {ks : List Str} {ds : List PyData}, okTs ks ds → ds.length = ks.length
  | [], [], _ => rfl
  | k :: ks, d :: ds, h => by rw [List.length_cons, List.length_cons, okTs_len h.2]
theorem okTs_get : ∀ {ks : List Str} {ds : List PyData} {i : Nat} {k : Str} {d : PyData}, okTs ks ds → ks[i]? = some k → ds[i]? = some d → okT k d
  | k0 :: ks, d0 :: ds, 0, k, d, h, h1, h2 => by
    cases h1
    cases h2
    exact h.1
  | k0 :: ks, d0 :: ds, i + 1, k, d, h, h1, h2 => okTs_get (i := i) h.2 (by simpa using h1) (by simpa using h2)
def DeedOk (w0 : Str) (ds : List PyData) : Prop := ∃ ks, lookF w0 = some ks ∧ okTs ks ds
def wordsT (w0 : Str) (ds : List PyData) : List Str := w0 :: List.zipWith thingT ((lookF w0).getD []) ds
def deedT (w0 : Str) (ds : List PyData) : Str := Txt.join " " (wordsT w0 ds)
theorem toString_short {n : Int} (h0 : 0 ≤ n) (h : n < 10 ^ 40) : (Str.ofString (toString n)).length ≤ 40 := toString_length_le h0 (k := 40) (by decide) h
theorem thingT_len {k : Str} {d : PyData} (h : okT k d) : (thingT k d).length ≤ 1000 := by
  rcases h with ⟨n, rfl, h0, h1⟩ | ⟨_, z, rfl, hz⟩
  · rw [thingT_int]
    split
    · rename_i e
      rw [if_pos e] at h0
      unfold whatT
      split
      · decide +kernel
      · split
        · decide +kernel
        · have := toString_short (n := n) (by omega) h1
          omega
    · rename_i e
      rw [if_neg e] at h0
      have := toString_short (n := n) (by omega) h1
      omega
  · exact hz
theorem sum_le (l : List Str) (m : Nat) (h : ∀ z ∈ l, z.length ≤ m) : (l.map (·.length)).sum ≤ l.length * m := by
  induction l with
  | nil => simp
  | cons a l ih =>
    have h1 := h a List.mem_cons_self
    have h2 := ih fun z hz => h z (List.mem_cons_of_mem _ hz)
    rw [List.map_cons, List.sum_cons, List.length_cons, Nat.add_mul, Nat.one_mul]
    omega
theorem wordsT_len {w0 : Str} {ds : List PyData} (h : DeedOk w0 ds) : (wordsT w0 ds).length ≤ 6 ∧ ∀ z ∈ wordsT w0 ds, z.length ≤ 1000 := by
  obtain ⟨ks, hk, ht⟩ := h
  obtain ⟨h1, h2, h3, _⟩ := form_short hk
  have hl := okTs_len ht
  unfold wordsT
  rw [hk]
  refine ⟨by simp; omega, fun z hz => ?_⟩
  rcases List.mem_cons.mp hz with rfl | hz
  · omega
  · obtain ⟨i, hi, rfl⟩ := List.getElem_of_mem hz
    rw [List.getElem_zipWith]
    rw [List.length_zipWith] at hi
    exact thingT_len (okTs_get ht (List.getElem?_eq_getElem (by omega)) (List.getElem?_eq_getElem (by omega)))
theorem deedT_len {w0 : Str} {ds : List PyData} (h : DeedOk w0 ds) : (deedT w0 ds).length ≤ 7000 := by
  obtain ⟨h1, h2⟩ := wordsT_len h
  have h3 := sum_le _ _ h2
  have h4 := join_len " " (wordsT w0 ds)
  rw [show Str.length " " = 1 by decide +kernel] at h4
  unfold deedT
  have : (wordsT w0 ds).length * 1000 ≤ 6 * 1000 := Nat.mul_le_mul_right _ h1
  omega
def readDeed (z : Str) : Option (Str × List PyData) := match lookF ((Txt.split z " ").headD "") with
  | none => none
  | some ks => match readTs ks (Txt.split z " ").tail with
    | .list es => some ((Txt.split z " ").headD "", es)
    | _ => none
def spRDeed (K : PySem.W.Frag) (C : Addr) : Sp := fun vs H Q E => ∃ (Hd : Hp) (z : Str), vs = [.str z] ∧ Ex Hd H ∧ z.length ≤ 20000 ∧
  match readDeed z with
  | none => ∀ H2 d, Ex H H2 → H2 d = none → E (.ref C) (some d) (upd H2 d (.xd [("row", .int 0)]))
  | some (w0, es) => ∀ v H2 Hn, Gr Hd H Hn H2 → Dp K Hn v (.tuple (.str w0 :: es)) → Q v H2
theorem readTs_none {ks ws : List Str} : readTs ks ws = .none ∨ ∃ es, readTs ks ws = .list es := by
  unfold readTs
  split
  · split
    · exact .inl rfl
    · exact .inr ⟨_, rfl⟩
  · exact .inl rfl
theorem okL_read_deed (T : Tx w K mg) : FnOk P w K mg base (L2.CX P w) 5 T.a_read_deed T.d_read_deed ["text"] (spRDeed K T.a_BadText) := by
  refine okL T.F_read_deed sc_read_deed (fun vs H Q E h => ?_) (fun cdv A outer s H vs Q E hr h => ?_)
  · obtain ⟨Hd, z, rfl, _⟩ := h
    rfl
  · obtain ⟨Hd, z, rfl, sx, hz, q⟩ := h
    have hne := split_neB z
    have hsl := split_len z (y := " ") (s := 32) (by decide +kernel) (by decide +kernel)
    unfold readDeed at q
    refine ⟨_, (pss_cons (ps_set (i := 1) sc_read_deed.nd rfl (.inl rfl) (pe_spl (pv 0) pe_str))
      (pss_cons (ps_if (pt_cmpR (r := rInDK K w true) (op_notInDK (by rfl) (by rfl)) (pe_ix (r := rIxL K) ix_list (pv 1) pe_int (fun _ _ => rfl)) (pe_glob (v := .ref T.o_DEEDS) rfl T.c_DEEDS rfl) (by rfl)) (pss_cons (L2.ps_raise rfl (L2.takes_of rfl rfl rfl rfl) (pmk_oex T.O_BadText T.i_BadText T.it_BadText (ok_BadText_init (P := P) (w := w) T) (hr.mono (by omega)) T.b_BadText_init .nil pass0 (by rfl) T.x_BadText.g (pa_cons pe_int pa_nil)))
      pss_nil) pss_nil)
      (pss_cons (ps_set (i := 2) sc_read_deed.nd rfl (.inl rfl) (pe_call (ok_read_things (P := P) (w := w) T) (hr.mono (by omega)) (by rfl) T.g_read_things T.F_read_things.kp T.b_read_things .nil pass0 (pa_cons (pe_ix (r := rIxD K w) (ix_dk (by rfl) (by rfl)) (pe_glob (v := .ref T.o_DEEDS) rfl T.c_DEEDS rfl) (pe_ix (r := rIxL K) ix_list (pv 1) pe_int (fun _ _ => rfl)) (fun _ _ => rfl)) (pa_cons (pe_slice (r := rSlL K) sl_list (pv 1) (po_some pe_int) po_none) pa_nil))))
      (pss_cons (ps_if (pt_cmpR op_isN (pv 2) pe_non (nomark _)) (pss_cons (L2.ps_raise rfl (L2.takes_of rfl rfl rfl rfl) (pmk_oex T.O_BadText T.i_BadText T.it_BadText (ok_BadText_init (P := P) (w := w) T) (hr.mono (by omega)) T.b_BadText_init .nil pass0 (by rfl) T.x_BadText.g (pa_cons pe_int pa_nil)))
      pss_nil) pss_nil)
      (pss_cons (ps_ret (pe_tup (pa_cons (pe_ix (r := rIxL K) ix_list (pv 1) pe_int (fun _ _ => rfl)) (StX.pa_star (pv 2) pa_nil))))
      pss_nil))))), Go.go ?_⟩
    refine go_asgD (K := K) (d := .list ((Txt.split z " ").map .str)) sx (ed_new (en_split (ev_var rfl) ev_c (by decide +kernel) (by omega))) fun v1 H2 D2 g2 h2 => ?_
    generalize Txt.split z " " = ws at hne hsl q h2
    have hh := head_at hne
    have hwl : ∀ x ∈ ws, x.length ≤ 30000 := fun x hx => by have := sum_mem hx; omega
    obtain ⟨look1, look0⟩ := deeds_look T (ws.headD "")
    refine go_when (b := !(lookF (ws.headD "")).isSome) (EvT.mono g2.sub (et_is (et_test (ev_inDK (neg := true) (ev_str (K := K) (ed_ixL (ed_var rfl h2) ev_c hh)) ev_c T.k_DEEDS)) ?_)) (fun e => ?_) (fun e => ?_)
    · cases hF : lookF (ws.headD "") with
      | none => rw [look0 hF]; rfl
      | some ks =>
        obtain ⟨a, ha, _⟩ := look1 ks hF
        rw [ha]
        rfl
    · have hF : lookF (ws.headD "") = none := by simpa using e
      rw [hF] at q
      intro H3 e3
      exact mkO_run (n := 0) (by omega) (by omega) (ea_cons ev_c ea_nil) fun H4 d e4 nd => q H4 d ((g2.ex.trans e3).trans e4) nd
    obtain ⟨ks, hF⟩ : ∃ ks, lookF (ws.headD "") = some ks := by
      cases hF : lookF (ws.headD "") with
      | none => rw [hF] at e; simp at e
      | some ks => exact ⟨ks, rfl⟩
    rw [hF] at q
    obtain ⟨a, ha, hkl, hTu⟩ := look1 ks hF
    refine go_asgD (K := K) (d := readTs ks ws.tail) g2.sub (ed_call (eda_cons (ed_ev (ev_ixDK ev_c (ev_str (K := K) (ed_ixL (ed_var rfl h2) ev_c hh)) T.k_DEEDS ha) (hTu D2)) (eda_cons (ed_new (en_from (j := 1) (ed_var rfl h2) ev_c)) eda_nil)) ⟨ks, ws.tail, ?_, by omega, fun x hx => hwl x (List.mem_of_mem_tail hx), rfl⟩) fun v2 H3 D3 g3 h3 => ?_
    · rw [← List.map_drop, List.drop_one]
    have h2' := dp_mono g3.dx _ h2
    rcases readTs_none (ks := ks) (ws := ws.tail) with hR | ⟨es, hR⟩
    · rw [hR] at h3
      cases h3
      refine go_whenT (et_is (et_test (ev_op (ev_var rfl) ev_c rv_isN)) (decide_eq_true rfl)) ?_
      dsimp only at q
      rw [hR] at q
      intro H4 e4
      exact mkO_run (n := 0) (by omega) (by omega) (ea_cons ev_c ea_nil) fun H5 d e5 nd => q H5 d (((g2.trans g3).ex.trans e4).trans e5) nd
    · rw [hR] at h3
      dsimp only at q
      rw [hR] at q
      have hv2 : v2 ≠ .non := fun z => by rw [z] at h3; cases h3
      refine go_whenF (et_is (et_test (ev_op (ev_var rfl) ev_c rv_isN)) (decide_eq_false hv2)) ?_
      have hE : EvD K (tTup (tCons (tOp (rIxL K) (tVar 1) (tC (.int 0))) (StX.tStar K (tVar 2) tNil))) [some (.str z), some v1, some v2] D3 (.tuple (.str (ws.headD "") :: (es ++ []))) := ed_tup (eda_cons (ed_ixL (ed_var rfl h2') ev_c hh) (eda_star (ed_var rfl h3) eda_nil)) (by
        have : (PyData.list es) = readTs ks ws.tail := hR.symm
        unfold readTs at this
        have hlen : es.length ≤ ks.length := by
          split at this
          · split at this
            · cases this
            · cases this
              simp
              omega
          · cases this
        simp
        omega)
      rw [List.append_nil] at hE
      exact go_ret g3.sub hE fun v H4 D4 g4 h4 => q v H4 D4 ((g2.trans g3).trans g4) h4

def PreAny (ds : List PyData) : Prop := ∃ es : List PyData, ds = [.list es] ∧ es ≠ [] ∧ es.length ≤ 100000
def RAny (ds : List PyData) (d : PyData) : Prop := ∃ es : List PyData, ds = [.list es] ∧ d ∈ es
theorem ok_law_any (T : Tx w K mg) : FnOk P w K mg base CX0 3 T.a_law_any T.d_law_any ["_law_box_here", "_law_some"] (spB K PreAny RAny) := by
  refine T.F_law_any.ok sc_law_any (fun vs H Q E h => ?_) (fun cdv A outer s H vs Q E hr h => ?_)
  · obtain ⟨b, ws, Hd, ds, rfl, hb, sx, B, hds, ⟨es, rfl, hm⟩, q⟩ := h
    rw [List.length_cons, dpa_len hds]
    rfl
  · obtain ⟨b, ws, Hd, ds, rfl, hb, sx, B, hds, ⟨es, rfl, hne, hl⟩, q⟩ := h
    cases hds with
    | @cons v1 _ _ _ d1 h2 =>
    cases h2
    have hp := List.length_pos_iff.mpr hne
    refine ⟨_, (pss_cons (ps_ret (pe_ix (r := rIxL K) ix_list (pv 1) (pe_call (ok_law_take (P := P) (w := w) T) (hr.mono (by omega)) (by rfl) T.g_law_take T.F_law_take.kp T.b_law_take .nil pass0 (pa_cons (pv 0) (pa_cons (pe_callB (r := rLenS K) call_lenQ (by rfl) T.n_len PySem.boot_len (pa_cons (pv 1) pa_nil)) pa_nil))) (fun _ _ => rfl)))
      pss_nil), Go.go ?_⟩
    refine go_retB hb sx B (eb_ixL (Ps := fun ds => ds = es) (p := fun i => 0 ≤ i ∧ i < (es.length : Int)) (EvB.imp (eb_ed (ed_var rfl d1)) fun d e => ⟨es, e, rfl⟩) (eb_take (ev_var rfl) (ev_lenL (K := K) (ds := es) (ed_var rfl d1)) (by omega) (by omega)) ?_) ?_
    · rintro ds i rfl ⟨h1, h2⟩
      obtain ⟨d, hd, _⟩ := atI_get h1 h2
      exact ⟨d, hd⟩
    · rintro v H' Hn d g hd ⟨ds, i, rfl, ⟨h1, h2⟩, hat⟩
      obtain ⟨d', hd', hm⟩ := atI_get h1 h2
      rw [hat] at hd'
      cases hd'
      exact q v H' Hn d g hd ⟨ds, rfl, hm⟩
theorem eb_any {σ : L2.St} {Hd : Hp} {E : XK} {b : Bid} {ta tb : TE} {es : List PyData} (ha : Ev ta σ Hd (.ref b.b)) (h : EvD K tb σ Hd (.list es)) (hne : es ≠ []) (hl : es.length ≤ 100000) : EvB K b (tCall (spB K PreAny RAny) [] E (tCons ta (tCons tb tNil))) σ Hd (fun d => d ∈ es) := by
  refine EvB.imp (eb_call ha (eba_cons (eb_ed h) eba_nil) ?_) ?_
  · rintro ds ⟨d, r, rfl, rfl, rfl⟩
    exact ⟨es, rfl, hne, hl⟩
  · rintro d ⟨ds, ⟨d', r, rfl, rfl, rfl⟩, es', e, hm⟩
    cases e
    exact hm

/-! ### drawn deeds -/
theorem letters_at : ∀ k : Fin 26, atI lettersS.cps.toList (k.val : Int) = some (97 + k.val) := by decide +kernel
theorem letters_in : ∀ k : Fin 26, decide (97 + k.val ∈ lettersS.cps.toList) = true := by decide +kernel
def RAnyName (ds : List PyData) (d : PyData) : Prop := ∃ z : Str, d = .str z ∧ isNameS z = true
theorem sum_le1 (ns : List Nat) : ((((ns.map (97 + ·)).map sg)).map (·.length)).sum = ns.length := by
  induction ns with
  | nil => rfl
  | cons n ns ih =>
    rw [List.map_cons, List.map_cons, List.map_cons, List.sum_cons, ih, List.length_cons]
    show 1 + ns.length = _
    omega
theorem ints_26 {ds : List PyData} (h : ∀ e ∈ ds, isI (fun r => 0 ≤ r ∧ r < 26) e) : ∃ ns : List Nat, ds = (ns.map fun (n : Nat) => (n : Int)).map .int ∧ ∀ n ∈ ns, n < 26 := by
  induction ds with
  | nil => exact ⟨[], rfl, fun _ h => nomatch h⟩
  | cons d ds ih =>
    obtain ⟨ns, e, hn⟩ := ih fun e he => h e (List.mem_cons_of_mem _ he)
    obtain ⟨r, rfl, h0, h1⟩ := h d List.mem_cons_self
    refine ⟨r.toNat :: ns, ?_, fun n hn' => ?_⟩
    · rw [List.map_cons, List.map_cons, ← e]
      have : ((r.toNat : Nat) : Int) = r := by omega
      rw [this]
    · rcases List.mem_cons.mp hn' with rfl | hn'
      · omega
      · exact hn n hn'
theorem name_of {ns : List Nat} (h1 : 1 ≤ ns.length) (h2 : ns.length ≤ 8) (h : ∀ n ∈ ns, n < 26) : isNameS (⟨(ns.map (97 + ·)).toArray⟩ : Str) = true := by
  unfold isNameS
  have hl : (⟨(ns.map (97 + ·)).toArray⟩ : Str).length = ns.length := by simp [Str.length]
  rw [hl, decide_eq_true h1, decide_eq_true h2]
  show List.all (List.map (97 + ·) ns) _ = true
  rw [List.all_eq_true]
  intro c hc
  obtain ⟨n, hn, rfl⟩ := List.mem_map.mp hc
  exact letters_in ⟨n, h n hn⟩
theorem ok_law_any_name (T : Tx w K mg) : FnOk P w K mg base CX0 3 T.a_law_any_name T.d_law_any_name ["_law_box_here"] (spB K (fun ds => ds = []) RAnyName) := by
  refine T.F_law_any_name.ok sc_law_any_name (fun vs H Q E h => ?_) (fun cdv A outer s H vs Q E hr h => ?_)
  · obtain ⟨b, ws, Hd, ds, rfl, hb, sx, B, hds, rfl, q⟩ := h
    cases hds
    rfl
  · obtain ⟨b, ws, Hd, ds, rfl, hb, sx, B, hds, rfl, q⟩ := h
    cases hds
    refine ⟨_, (pss_cons (ps_setLc (i := 1) (own := [("_law_k", 2)]) (g := (gName 2)) (by rfl) sc_law_any_name.nd rfl rfl (sw_true rfl rfl rfl (by decide +kernel)) (pi_range1 (by rfl) T.n_range (pa_cons (pe_op op_add pe_int (pe_call (ok_law_take (P := P) (w := w) T) (hr.mono (by omega)) (by rfl) T.g_law_take T.F_law_take.kp T.b_law_take .nil pass0 (pa_cons (pv 0) (pa_cons pe_int pa_nil)))) pa_nil)) (blkOk_by (own := [("_law_k", 2)]) (N := N_law_any_name) (sc := defScope s_law_any_name) (by decide +kernel)) (fun _ _ _ _ _ => (pg_name (i := 2) sc_law_any_name.nd rfl (.inl rfl) (hf := .inr rfl))) (fun _ _ _ _ _ => pts_nil) (fun _ _ _ _ _ => (pe_call (ok_law_take (P := P) (w := w) T) (hr.mono (by omega)) (by rfl) T.g_law_take T.F_law_take.kp T.b_law_take .nil pass0 (pa_cons (pv 0) (pa_cons pe_int pa_nil)))))
      (pss_cons (ps_ret (pe_jo pe_str (pe_lc (own := [("_law_one", 3)]) (g := (gName 3)) (by rfl) sc_law_any_name.nd (pi_list (pv 1)) (blkOk_by (own := [("_law_one", 3)]) (N := N_law_any_name) (sc := defScope s_law_any_name) (by decide +kernel)) (fun _ _ _ _ _ => (pg_name (i := 3) sc_law_any_name.nd rfl (.inl rfl) (hf := .inr rfl))) (fun _ _ _ _ _ => pts_nil) (fun _ _ _ _ _ => (pe_ix (r := rIxS) ix_str pe_str (pv 3) (fun _ _ => rfl))))))
      pss_nil)), Go.go ?_⟩
    refine go_asgBN (K := K) (Ps := fun ds => ∃ ns : List Nat, ds = (ns.map fun (n : Nat) => (n : Int)).map .int ∧ 1 ≤ ns.length ∧ ns.length ≤ 8 ∧ ∀ n ∈ ns, n < 26) hb sx B (EvBN.imp (bn_lcR (p := fun m => 1 ≤ m ∧ m ≤ 8) (Ps := fun m ds => ds.length = m.toNat ∧ ∀ e ∈ ds, isI (fun r => 0 ≤ r ∧ r < 26) e) (EvB.imp (eb_opI0 (K := K) (fun _ _ => rfl) (eb_ev ev_c) (eb_take (ev_var rfl) ev_c (m := 8) (by decide) (by decide))) ?_) ?_) ?_) ?_
    · rintro d ⟨m, rfl, i, j, rfl, hj, rfl⟩
      exact ⟨_, rfl, by omega, by omega⟩
    · rintro m Hn ⟨m1, m8⟩ ex
      refine bn_lc (PP := isI fun r => 0 ≤ r ∧ r < 26) (ei_range1 (K := K) (m := m) (ea_cons ev_c ea_nil) (by omega)) (by omega) ?_
      rintro i σ2 Hm hi ek rfl
      exact ⟨rfl, eb_take (ev_var rfl) ev_c (m := 26) (by decide) (by decide)⟩
    · rintro ds ⟨m, ⟨m1, m8⟩, hl, hall⟩
      obtain ⟨ns, e, hn⟩ := ints_26 hall
      have : ns.length = m.toNat := by rw [← hl, e]; simp
      exact ⟨ns, e, by omega, by omega, hn⟩
    rintro p xs H2 D2 ds g2 f2 f2' h2 hx2 ⟨ns, rfl, l1, l8, hn⟩
    have G := GrB.add g2 f2 f2' h2
    have hd2 : Dp K (upd D2 p (.lst xs)) (.ref p) (.list ((ns.map fun (n : Nat) => (n : Int)).map .int)) := .lst (sq_of upd_same) (dpa_mono (Ex.new f2') _ hx2)
    have e1 : (ns.map fun n => sg (97 + n)).map PyData.str = givenD ns.length (fun _ => true) (fun i => .str (sg (97 + (ns[i]?).getD 0))) := by
      rw [givenD_all]
      apply List.ext_getElem
      · simp
      · intro i h1 h2
        simp at h1
        simp [h1]
    refine go_retV (v := .str (Txt.join "" ((ns.map (97 + ·)).map sg))) (Ev.mono G.sub (ev_jo (K := K) (ys := (ns.map (97 + ·)).map sg) ev_c (ed_new ?_) ?_)) fun H3 e3 => ?_
    · rw [List.map_map (f := (97 + ·))]
      show EvN K _ _ _ ((ns.map fun n => sg (97 + n)).map PyData.str)
      rw [e1]
      have hn2 : ((ns.map fun (n : Nat) => (n : Int)).map PyData.int).length = ns.length := by simp
      rw [← hn2]
      refine en_lc (ei_list (K := K) (ed_var rfl hd2)) (by omega) _ _ ?_
      rintro i σ2 Hn hi ex ⟨v, d, hd, hv, rfl⟩
      rw [List.getElem?_map, List.getElem?_map] at hd
      obtain ⟨z, hz, rfl⟩ := Option.map_eq_some_iff.mp hd
      obtain ⟨n, hn3, rfl⟩ := Option.map_eq_some_iff.mp hz
      cases hv
      refine ⟨rfl, et_yes, fun _ => ?_⟩
      rw [hn3]
      exact ed_str (ev_ixS ev_c (ev_var rfl) (by decide +kernel) (letters_at ⟨n, hn n (List.mem_of_getElem? hn3)⟩))
    · have := sum_le1 ns
      rw [show Str.length "" = 0 by decide +kernel]
      omega
    · rw [join_signs] at *
      exact q _ H3 _ _ (G.post e3) (.str _) ⟨_, rfl, name_of l1 l8 hn⟩
theorem eb_name {σ : L2.St} {Hd : Hp} {E : XK} {b : Bid} {ta : TE} (ha : Ev ta σ Hd (.ref b.b)) : EvB K b (tCall (spB K (fun ds => ds = []) RAnyName) [] E (tCons ta tNil)) σ Hd (isS fun z => isNameS z = true) := by
  refine EvB.imp (eb_call ha eba_nil fun ds e => e) ?_
  rintro d ⟨ds, rfl, z, rfl, h⟩
  exact ⟨z, rfl, h⟩
theorem eb_takeB {σ : L2.St} {Hd : Hp} {E : XK} {b : Bid} {ta tb : TE} {p : Int → Prop} (ha : Ev ta σ Hd (.ref b.b)) (hm : EvB K b tb σ Hd (isI p)) (hp : ∀ m, p m → 0 < m ∧ m < 2 ^ 80) : EvB K b (tCall (spB K PreTake RTake) [] E (tCons ta (tCons tb tNil))) σ Hd (isI fun r => ∃ m, p m ∧ 0 ≤ r ∧ r < m) := by
  refine EvB.imp (eb_call ha (eba_one hm) ?_) ?_
  · rintro ds ⟨m, rfl, pm⟩
    exact ⟨_, rfl, hp m pm⟩
  · rintro d ⟨ds, ⟨m, rfl, pm⟩, m', r, e1, rfl, h2, h3⟩
    cases e1
    exact ⟨r, rfl, m, pm, h2, h3⟩
def RFig (ds : List PyData) (d : PyData) : Prop := ∃ n : Int, d = .int n ∧ 0 ≤ n ∧ n < 1000000
theorem ok_law_figures (T : Tx w K mg) : FnOk P w K mg base CX0 3 T.a_law_figures T.d_law_figures ["_law_box_here"] (spB K (fun ds => ds = []) RFig) := by
  refine T.F_law_figures.ok sc_law_figures (fun vs H Q E h => ?_) (fun cdv A outer s H vs Q E hr h => ?_)
  · obtain ⟨b, ws, Hd, ds, rfl, hb, sx, B, hds, rfl, q⟩ := h
    cases hds
    rfl
  · obtain ⟨b, ws, Hd, ds, rfl, hb, sx, B, hds, rfl, q⟩ := h
    cases hds
    refine ⟨_, (pss_cons (ps_ret (pe_call (ok_law_take (P := P) (w := w) T) (hr.mono (by omega)) (by rfl) T.g_law_take T.F_law_take.kp T.b_law_take .nil pass0 (pa_cons (pv 0) (pa_cons (pe_ix (r := rIxL K) ix_list (pe_lst (pa_cons pe_int (pa_cons pe_int (pa_cons (pe_op op_pow pe_int pe_int) pa_nil)))) (pe_call (ok_law_take (P := P) (w := w) T) (hr.mono (by omega)) (by rfl) T.g_law_take T.F_law_take.kp T.b_law_take .nil pass0 (pa_cons (pv 0) (pa_cons pe_int pa_nil))) (fun _ _ => rfl)) pa_nil))))
      pss_nil), Go.go ?_⟩
    refine go_retB hb sx B (EvB.imp (eb_takeB (p := fun m => 0 < m ∧ m ≤ 1000000) (ev_var rfl) (EvB.imp (eb_ixL (Ps := fun ds => ds = [.int 10, .int 1000, .int 1000000]) (EvB.imp (eb_ed (ed_new (en_lst (eda_cons (ed_int ev_c) (eda_cons (ed_int ev_c) (eda_cons (ed_int (ev_is (v := .int (10 ^ (6 : Int).toNat)) (by walk_at "ev") rfl)) eda_nil))) (by simp)))) fun d e => ⟨_, e, rfl⟩) (eb_take (ev_var rfl) ev_c (m := 3) (by decide) (by decide)) ?_) ?_) ?_) (P' := RFig []) ?_) q
    · rintro ds i rfl ⟨h0, h1⟩
      obtain ⟨d, hd, _⟩ := (Cot.atI_get h0 h1 : ∃ d, atI [PyData.int 10, .int 1000, .int 1000000] i = some d ∧ d ∈ [PyData.int 10, .int 1000, .int 1000000])
      exact ⟨d, hd⟩
    · rintro d ⟨ds, i, rfl, ⟨h0, h1⟩, hat⟩
      obtain ⟨d', hd', hm⟩ := (Cot.atI_get h0 h1 : ∃ d, atI [PyData.int 10, .int 1000, .int 1000000] i = some d ∧ d ∈ [PyData.int 10, .int 1000, .int 1000000])
      rw [hat] at hd'
      cases hd'
      simp only [List.mem_cons, List.not_mem_nil, or_false] at hm
      rcases hm with rfl | rfl | rfl
      · exact ⟨_, rfl, by decide⟩
      · exact ⟨_, rfl, by decide⟩
      · exact ⟨_, rfl, by decide⟩
    · rintro m ⟨h0, h1⟩
      exact ⟨h0, by omega⟩
    · rintro d ⟨r, rfl, m, ⟨h0, h1⟩, h2, h3⟩
      exact ⟨r, rfl, h2, by omega⟩
theorem eb_fig {σ : L2.St} {Hd : Hp} {E : XK} {b : Bid} {ta : TE} (ha : Ev ta σ Hd (.ref b.b)) : EvB K b (tCall (spB K (fun ds => ds = []) RFig) [] E (tCons ta tNil)) σ Hd (isI fun n => 0 ≤ n ∧ n < 1000000) := by
  refine EvB.imp (eb_call ha eba_nil fun ds e => e) ?_
  rintro d ⟨ds, rfl, n, rfl, h⟩
  exact ⟨n, rfl, h⟩
def goodT (k : Str) (d : PyData) : Prop := (k = "name" ∧ ∃ z : Str, d = .str z ∧ isNameS z = true) ∨ (k = "number" ∧ ∃ n : Int, d = .int n ∧ 0 ≤ n ∧ n < 1000000) ∨ (k = "what" ∧ ∃ n : Int, d = .int n ∧ -2 ≤ n ∧ n < 1000000)
def goodTs : List Str → List PyData → Prop
  | [], [] => True
  | k :: ks, d :: ds => goodT k d ∧ goodTs ks ds
  | _, _ => False
def GoodDeed (w0 : Str) (es : List PyData) : Prop := ∃ ks, lookF w0 = some ks ∧ goodTs ks es
def RAnyDeed (ds : List PyData) (d : PyData) : Prop := ∃ w0 es, d = .tuple (.str w0 :: es) ∧ GoodDeed w0 es
theorem gt_name {z : Str} (h : isNameS z = true) : goodT "name" (.str z) := .inl ⟨rfl, z, rfl, h⟩
theorem gt_num {n : Int} (h0 : 0 ≤ n) (h1 : n < 1000000) : goodT "number" (.int n) := .inr (.inl ⟨rfl, n, rfl, h0, h1⟩)
theorem gt_what {n : Int} (h0 : -2 ≤ n) (h1 : n < 1000000) : goodT "what" (.int n) := .inr (.inr ⟨rfl, n, rfl, h0, h1⟩)
theorem ok_law_any_deed (T : Tx w K mg) : FnOk P w K mg base CX0 4 T.a_law_any_deed T.d_law_any_deed ["_law_box_here"] (spB K (fun ds => ds = []) RAnyDeed) := by
  refine T.F_law_any_deed.ok sc_law_any_deed (fun vs H Q E h => ?_) (fun cdv A outer s H vs Q E hr h => ?_)
  · obtain ⟨b, ws, Hd, ds, rfl, hb, sx, B, hds, rfl, q⟩ := h
    cases hds
    rfl
  · obtain ⟨b, ws, Hd, ds, rfl, hb, sx, B, hds, rfl, q⟩ := h
    cases hds
    refine ⟨_, (pss_cons (ps_set (i := 1) sc_law_any_deed.nd rfl (.inl rfl) (pe_call (ok_law_any (P := P) (w := w) T) (hr.mono (by omega)) (by rfl) T.g_law_any T.F_law_any.kp T.b_law_any .nil pass0 (pa_cons (pv 0) (pa_cons (pe_lst (pa_cons pe_str (pa_cons pe_str (pa_cons pe_str (pa_cons pe_str (pa_cons pe_str (pa_cons pe_str pa_nil))))))) pa_nil))))
      (pss_cons (ps_set (i := 2) sc_law_any_deed.nd rfl (.inl rfl) (pe_tup (pa_cons (pv 1) (pa_cons (pe_call (ok_law_any_name (P := P) (w := w) T) (hr.mono (by omega)) (by rfl) T.g_law_any_name T.F_law_any_name.kp T.b_law_any_name .nil pass0 (pa_cons (pv 0) pa_nil)) pa_nil))))
      (pss_cons (ps_set (i := 3) sc_law_any_deed.nd rfl (.inl rfl) (pe_ix (r := rIxL K) ix_list (pe_lst (pa_cons (pe_call (ok_law_figures (P := P) (w := w) T) (hr.mono (by omega)) (by rfl) T.g_law_figures T.F_law_figures.kp T.b_law_figures .nil pass0 (pa_cons (pv 0) pa_nil)) (pa_cons (pe_un un_neg pe_int) (pa_cons (pe_un un_neg pe_int) pa_nil)))) (pe_call (ok_law_take (P := P) (w := w) T) (hr.mono (by omega)) (by rfl) T.g_law_take T.F_law_take.kp T.b_law_take .nil pass0 (pa_cons (pv 0) (pa_cons pe_int pa_nil))) (fun _ _ => rfl)))
      (pss_cons (ps_set (i := 4) sc_law_any_deed.nd rfl (.inl rfl) (pe_tup (pa_cons (pe_call (ok_law_figures (P := P) (w := w) T) (hr.mono (by omega)) (by rfl) T.g_law_figures T.F_law_figures.kp T.b_law_figures .nil pass0 (pa_cons (pv 0) pa_nil)) (pa_cons (pe_call (ok_law_figures (P := P) (w := w) T) (hr.mono (by omega)) (by rfl) T.g_law_figures T.F_law_figures.kp T.b_law_figures .nil pass0 (pa_cons (pv 0) pa_nil)) (pa_cons (pe_call (ok_law_figures (P := P) (w := w) T) (hr.mono (by omega)) (by rfl) T.g_law_figures T.F_law_figures.kp T.b_law_figures .nil pass0 (pa_cons (pv 0) pa_nil)) pa_nil)))))
      (pss_cons (ps_if (pt_cmpR op_eq (pv 1) pe_str (nomark _)) (pss_cons (ps_ret (pe_op (r := rCatA K) op_catA (pv 2) (pv 4)))
      pss_nil) pss_nil)
      (pss_cons (ps_if (pt_cmpR op_eq (pv 1) pe_str (nomark _)) (pss_cons (ps_ret (pe_op (r := rCatA K) op_catA (pe_op (r := rCatA K) op_catA (pe_op (r := rCatA K) op_catA (pv 2) (pe_slice (r := rSlA K) sl_tupA (pv 4) po_none (po_some pe_int))) (pe_tup (pa_cons (pv 3) pa_nil))) (pe_slice (r := rSlA K) sl_tupA (pv 4) (po_some pe_int) po_none)))
      pss_nil) pss_nil)
      (pss_cons (ps_if (pt_cmpR op_eq (pv 1) pe_str (nomark _)) (pss_cons (ps_ret (pe_op (r := rCatA K) op_catA (pe_op (r := rCatA K) op_catA (pv 2) (pe_slice (r := rSlA K) sl_tupA (pv 4) po_none (po_some pe_int))) (pe_tup (pa_cons (pv 3) pa_nil))))
      pss_nil) pss_nil)
      (pss_cons (ps_if (pt_cmpR op_eq (pv 1) pe_str (nomark _)) (pss_cons (ps_ret (pe_op (r := rCatA K) op_catA (pv 2) (pe_slice (r := rSlA K) sl_tupA (pv 4) po_none (po_some pe_int))))
      pss_nil) pss_nil)
      (pss_cons (ps_if (pt_cmpR op_eq (pv 1) pe_str (nomark _)) (pss_cons (ps_ret (pe_op (r := rCatA K) op_catA (pe_op (r := rCatA K) op_catA (pv 2) (pe_tup (pa_cons (pe_call (ok_law_any_name (P := P) (w := w) T) (hr.mono (by omega)) (by rfl) T.g_law_any_name T.F_law_any_name.kp T.b_law_any_name .nil pass0 (pa_cons (pv 0) pa_nil)) pa_nil))) (pv 4)))
      pss_nil) pss_nil)
      (pss_cons (ps_ret (pv 2))
      pss_nil)))))))))), Go.go ?_⟩
    refine go_asgB (P := fun d => ∃ w0 : Str, d = .str w0 ∧ w0 ∈ (["begin", "tell", "right", "strike", "drop", "lay"] : List Str)) hb sx B (EvB.imp (eb_any (es := ([("begin" : Str), "tell", "right", "strike", "drop", "lay"].map PyData.str)) (ev_var rfl) (ed_new (en_lst (eda_cons (ed_str ev_c) (eda_cons (ed_str ev_c) (eda_cons (ed_str ev_c) (eda_cons (ed_str ev_c) (eda_cons (ed_str ev_c) (eda_cons (ed_str ev_c) eda_nil)))))) (by simp))) (by simp) (by simp)) fun d hd => ?_) ?_
    · obtain ⟨w0, hw, rfl⟩ := List.mem_map.mp hd
      exact ⟨w0, rfl, hw⟩
    rintro v1 H1 D1 d1 g1 hv1 ⟨w0, rfl, hw⟩
    cases hv1
    have b1 := g1.bn hb B
    refine go_asgB (P := fun d => ∃ z : Str, d = .tuple [.str w0, .str z] ∧ isNameS z = true) b1 g1.sub g1.bx (EvB.imp (eb_tup (eba_cons (eb_evS (ev_var rfl)) (eba_cons (eb_name (ev_var rfl)) eba_nil)) ?_) ?_) ?_
    · rintro ds ⟨d, es, rfl, _, d', es', rfl, _, rfl⟩
      simp
    · rintro d ⟨ds, rfl, d, es, rfl, ⟨z0, rfl, rfl⟩, d', es', rfl, ⟨z, rfl, hz⟩, rfl⟩
      exact ⟨z, rfl, hz⟩
    rintro v2 H2 D2 d2 g2 hd2 ⟨z, rfl, hz⟩
    have b2 := g2.bn b1 g1.bx
    refine go_asgB (P := isI fun n => -2 ≤ n ∧ n < 1000000) b2 g2.sub g2.bx (EvB.imp (eb_ixL (Ps := fun ds => ∃ n : Int, ds = [.int n, .int (-1), .int (-2)] ∧ 0 ≤ n ∧ n < 1000000) (EvB.imp (eb_lst (eba_cons (eb_fig (ev_var rfl)) (eba_cons (eb_ev (ev_is (v := .int (-1)) (by walk_at "ev") rfl)) (eba_cons (eb_ev (ev_is (v := .int (-2)) (by walk_at "ev") rfl)) eba_nil))) ?_) ?_) (eb_take (ev_var rfl) ev_c (m := 3) (by decide) (by decide)) ?_) ?_) ?_
    · rintro ds ⟨d, es, rfl, _, d', es', rfl, _, d'', es'', rfl, _, rfl⟩
      simp
    · rintro d ⟨ds, rfl, d, es, rfl, ⟨n, rfl, hn⟩, d', es', rfl, ⟨n', rfl, rfl⟩, d'', es'', rfl, ⟨n'', rfl, rfl⟩, rfl⟩
      exact ⟨_, rfl, n, rfl, hn⟩
    · rintro ds i ⟨n, rfl, _⟩ ⟨h0, h1⟩
      obtain ⟨d, hd, _⟩ := (Cot.atI_get h0 h1 : ∃ d, atI [PyData.int n, .int (-1), .int (-2)] i = some d ∧ d ∈ [PyData.int n, .int (-1), .int (-2)])
      exact ⟨d, hd⟩
    · rintro d ⟨ds, i, ⟨n, rfl, hn⟩, ⟨h0, h1⟩, hat⟩
      obtain ⟨d', hd', hm⟩ := (Cot.atI_get h0 h1 : ∃ d, atI [PyData.int n, .int (-1), .int (-2)] i = some d ∧ d ∈ [PyData.int n, .int (-1), .int (-2)])
      rw [hat] at hd'
      cases hd'
      simp only [List.mem_cons, List.not_mem_nil, or_false] at hm
      rcases hm with rfl | rfl | rfl
      · exact ⟨_, rfl, by omega⟩
      · exact ⟨_, rfl, by decide⟩
      · exact ⟨_, rfl, by decide⟩
    rintro v3 H3 D3 d3 g3 hd3 ⟨n, rfl, n0, n1⟩
    cases hd3
    have b3 := g3.bn b2 g2.bx
    refine go_asgB (P := fun d => ∃ x y z : Int, d = .tuple [.int x, .int y, .int z] ∧ (0 ≤ x ∧ x < 1000000) ∧ (0 ≤ y ∧ y < 1000000) ∧ (0 ≤ z ∧ z < 1000000)) b3 g3.sub g3.bx (EvB.imp (eb_tup (eba_cons (eb_fig (ev_var rfl)) (eba_cons (eb_fig (ev_var rfl)) (eba_cons (eb_fig (ev_var rfl)) eba_nil))) ?_) ?_) ?_
    · rintro ds ⟨d, es, rfl, _, d', es', rfl, _, d'', es'', rfl, _, rfl⟩
      simp
    · rintro d ⟨ds, rfl, d, es, rfl, ⟨n, rfl, hn⟩, d', es', rfl, ⟨n', rfl, hn'⟩, d'', es'', rfl, ⟨n'', rfl, hn''⟩, rfl⟩
      exact ⟨_, _, _, rfl, hn, hn', hn''⟩
    rintro v4 H4 D4 d4 g4 hd4 ⟨x, y, t, rfl, hx, hy, ht⟩
    have b4 := g4.bn b3 g3.bx
    have G : GrB b Hd H D4 H4 := ((g1.trans g2 hb B).trans g3 hb B).trans g4 hb B
    have d24 := dp_mono (g3.dx.trans g4.dx) _ hd2
    have fin : ∀ {te : TE} {σ : L2.St} {es : List PyData} {tz : TS} {D : Ends}, EvD K te σ D4 (.tuple (.str w0 :: es)) → GoodDeed w0 es → D.rt = Q → Go (tSeq (tRet te) tz) D σ H4 := fun {te σ es tz D} h gd hD => go_retB b4 G.sub G.bx (eb_ed h) fun v H' Hn d g hd e => by
      rw [hD]
      exact q v H' Hn d (G.trans g hb B) hd ⟨w0, es, e, gd⟩
    have sl2 : ∀ {σ : L2.St}, σ[4]? = some (some v4) → EvD K (tSl (rSlA K) (tVar 4) tNoPart (tPart (tC (.int 2)))) σ D4 (.tuple [.int x, .int y]) := fun h => ed_slT (ed_var h hd4) eo_none (eo_some ev_c)
    have sl1 : ∀ {σ : L2.St}, σ[4]? = some (some v4) → EvD K (tSl (rSlA K) (tVar 4) tNoPart (tPart (tC (.int 1)))) σ D4 (.tuple [.int x]) := fun h => ed_slT (ed_var h hd4) eo_none (eo_some ev_c)
    have sl3 : ∀ {σ : L2.St}, σ[4]? = some (some v4) → EvD K (tSl (rSlA K) (tVar 4) (tPart (tC (.int 2))) tNoPart) σ D4 (.tuple [.int t]) := fun h => ed_slT (ed_var h hd4) (eo_some ev_c) eo_none
    refine go_when (b := decide (w0 = "begin")) (et_is (by walk_at "et") (by rw [decide_eq_decide, V.str.injEq])) (fun e => ?_) (fun e1 => ?_)
    · have e := of_decide_eq_true e
      subst e
      exact fin (ed_catT (ed_var rfl d24) (ed_var rfl hd4) (by simp)) ⟨_, rfl, gt_name hz, gt_num hx.1 hx.2, gt_num hy.1 hy.2, gt_num ht.1 ht.2, trivial⟩ rfl
    refine go_when (b := decide (w0 = "tell")) (et_is (by walk_at "et") (by rw [decide_eq_decide, V.str.injEq])) (fun e => ?_) (fun e2 => ?_)
    · have e := of_decide_eq_true e
      subst e
      exact fin (ed_catT (ed_catT (ed_catT (ed_var rfl d24) (sl2 rfl) (by simp)) (ed_tup (eda_cons (ed_int (ev_var rfl)) eda_nil) (by simp)) (by simp)) (sl3 rfl) (by simp)) ⟨_, rfl, gt_name hz, gt_num hx.1 hx.2, gt_num hy.1 hy.2, gt_what n0 n1, gt_num ht.1 ht.2, trivial⟩ rfl
    refine go_when (b := decide (w0 = "right")) (et_is (by walk_at "et") (by rw [decide_eq_decide, V.str.injEq])) (fun e => ?_) (fun e3 => ?_)
    · have e := of_decide_eq_true e
      subst e
      exact fin (ed_catT (ed_catT (ed_var rfl d24) (sl1 rfl) (by simp)) (ed_tup (eda_cons (ed_int (ev_var rfl)) eda_nil) (by simp)) (by simp)) ⟨_, rfl, gt_name hz, gt_num hx.1 hx.2, gt_what n0 n1, trivial⟩ rfl
    refine go_when (b := decide (w0 = "strike")) (et_is (by walk_at "et") (by rw [decide_eq_decide, V.str.injEq])) (fun e => ?_) (fun e4 => ?_)
    · have e := of_decide_eq_true e
      subst e
      exact fin (ed_catT (ed_var rfl d24) (sl1 rfl) (by simp)) ⟨_, rfl, gt_name hz, gt_num hx.1 hx.2, trivial⟩ rfl
    refine go_when (b := decide (w0 = "lay")) (et_is (by walk_at "et") (by rw [decide_eq_decide, V.str.injEq])) (fun e => ?_) (fun e5 => ?_)
    · have e := of_decide_eq_true e
      subst e
      refine go_retB b4 G.sub G.bx (P := fun d => ∃ z2 : Str, d = .tuple [.str "lay", .str z, .str z2, .int x, .int y, .int t] ∧ isNameS z2 = true) (EvB.imp (eb_catT (Ps' := fun ds => ds = [.int x, .int y, .int t]) (eb_catT (Ps := fun ds => ds = [.str "lay", .str z]) (EvB.imp (eb_ed (ed_var rfl d24)) fun d e => ⟨_, e, rfl⟩) (eb_tup (eba_cons (eb_name (ev_var rfl)) eba_nil) ?_) ?_) (EvB.imp (eb_ed (ed_var rfl hd4)) fun d e => ⟨_, e, rfl⟩) ?_) ?_) ?_
      · rintro ds ⟨d, es, rfl, _, rfl⟩
        simp
      · rintro ds es rfl ⟨d, es', rfl, _, rfl⟩
        simp
      · rintro ds es ⟨d1, d2, rfl, rfl, d, es', rfl, _, rfl⟩ rfl
        simp
      · rintro d ⟨ds, rfl, d1, d2, rfl, ⟨d3, d4, rfl, rfl, d, es', rfl, ⟨z2, rfl, hz2⟩, rfl⟩, rfl⟩
        exact ⟨z2, rfl, hz2⟩
      · rintro v H' Hn d g hd ⟨z2, rfl, hz2⟩
        exact q v H' Hn _ (G.trans g hb B) hd ⟨"lay", _, rfl, _, rfl, gt_name hz, gt_name hz2, gt_num hx.1 hx.2, gt_num hy.1 hy.2, gt_num ht.1 ht.2, trivial⟩
    have hw5 : w0 = "drop" := by
      simp only [List.mem_cons, List.not_mem_nil, or_false] at hw
      rcases hw with rfl | rfl | rfl | rfl | rfl | rfl
      · exact absurd rfl (of_decide_eq_false e1)
      · exact absurd rfl (of_decide_eq_false e2)
      · exact absurd rfl (of_decide_eq_false e3)
      · exact absurd rfl (of_decide_eq_false e4)
      · rfl
      · exact absurd rfl (of_decide_eq_false e5)
    subst hw5
    exact fin (ed_var rfl d24) ⟨_, rfl, gt_name hz, trivial⟩ rfl
theorem lookF_words : ∀ e ∈ deedF, PyData.strOk e.1 = true ∧ (∀ j : Fin 5, e.2[j.val]? = some ("what" : Str) → (e.1 = "tell" ∧ j.val = 3) ∨ (e.1 = "right" ∧ j.val = 2)) := by decide +kernel
theorem form_what {w0 : Str} {ks : List Str} (h : lookF w0 = some ks) : PyData.strOk w0 = true ∧ ∀ j, ks[j]? = some ("what" : Str) → (w0 = "tell" ∧ j = 3) ∨ (w0 = "right" ∧ j = 2) := by
  have hs := form_short h
  unfold lookF at h
  obtain ⟨e, he, rfl⟩ := Option.map_eq_some_iff.mp h
  have hm := List.mem_of_find?_eq_some he
  have hz : e.1 = w0 := by simpa using List.find?_some he
  subst hz
  obtain ⟨h1, h2⟩ := lookF_words e hm
  refine ⟨h1, fun j hj => ?_⟩
  have hl := (List.getElem?_eq_some_iff.mp hj).1
  exact h2 ⟨j, by omega⟩ hj
theorem goodTs_len : ∀ {ks : List Str} {ds : List PyData}, goodTs ks ds → ds.length = ks.length
  | [], [], _ => rfl
  | k :: ks, d :: ds, h => by rw [List.length_cons, List.length_cons, goodTs_len h.2]
theorem goodTs_get : ∀ {ks : List Str} {ds : List PyData} {i : Nat} {k : Str} {d : PyData}, goodTs ks ds → ks[i]? = some k → ds[i]? = some d → goodT k d
  | k0 :: ks, d0 :: ds, 0, k, d, h, h1, h2 => by
    cases h1
    cases h2
    exact h.1
  | k0 :: ks, d0 :: ds, i + 1, k, d, h, h1, h2 => goodTs_get (i := i) h.2 (by simpa using h1) (by simpa using h2)
theorem good_ok {k : Str} {d : PyData} (h : goodT k d) : okT k d := by
  rcases h with ⟨rfl, z, rfl, hz⟩ | ⟨rfl, n, rfl, h0, h1⟩ | ⟨rfl, n, rfl, h0, h1⟩
  · refine .inr ⟨by decide +kernel, z, rfl, ?_⟩
    unfold isNameS at hz
    simp only [Bool.and_eq_true, decide_eq_true_eq] at hz
    omega
  · refine .inl ⟨n, rfl, ?_, ?_⟩
    · rw [if_neg (by decide +kernel)]; exact h0
    · have : (1000000 : Int) < 10 ^ 40 := by decide
      omega
  · refine .inl ⟨n, rfl, ?_, ?_⟩
    · rw [if_pos rfl]; exact h0
    · have : (1000000 : Int) < 10 ^ 40 := by decide
      omega
theorem goods_ok : ∀ {ks : List Str} {ds : List PyData}, goodTs ks ds → okTs ks ds
  | [], [], _ => trivial
  | k :: ks, d :: ds, h => ⟨good_ok h.1, goods_ok h.2⟩
theorem gooddeed_ok {w0 : Str} {es : List PyData} (h : GoodDeed w0 es) : DeedOk w0 es := by
  obtain ⟨ks, hk, ht⟩ := h
  exact ⟨ks, hk, goods_ok ht⟩
def plainS : PyData → Str
  | .int n => Str.ofString (toString n)
  | .str z => z
  | _ => ""
/-- what the law's own look makes of a thing: its text, unless it is one of two numbers at one of two places -/
theorem law_word {w0 : Str} {es : List PyData} {ks : List Str} (hk : lookF w0 = some ks) (ht : goodTs ks es) {i : Nat} {d : PyData} (hd : (.str w0 :: es : List PyData)[i]? = some d) :
    ((wordsT w0 es)[i]? = some (plainS d) ∧ (([PyData.int (-1), .int (-2)].any fun z => PyData.eqv z d) && ([PyData.tuple [.str "tell", .int 4], .tuple [.str "right", .int 3]].any fun z => PyData.eqv z (.tuple [.str w0, .int (i : Int)]))) = false) ∨
    (∃ n : Int, d = .int n ∧ (n = -1 ∨ n = -2) ∧ (wordsT w0 es)[i]? = some (whatT n) ∧ (([PyData.int (-1), .int (-2)].any fun z => PyData.eqv z d) && ([PyData.tuple [.str "tell", .int 4], .tuple [.str "right", .int 3]].any fun z => PyData.eqv z (.tuple [.str w0, .int (i : Int)]))) = true) := by
  have hl := goodTs_len ht
  have hW : wordsT w0 es = w0 :: List.zipWith thingT ks es := by unfold wordsT; rw [hk]; rfl
  cases i with
  | zero =>
    cases hd
    refine .inl ⟨by rw [hW]; rfl, rfl⟩
  | succ j =>
    have hd : es[j]? = some d := by simpa using hd
    have hj := (List.getElem?_eq_some_iff.mp hd).1
    obtain ⟨k, hk1⟩ : ∃ k, ks[j]? = some k := ⟨_, List.getElem?_eq_getElem (by omega)⟩
    have hw : (wordsT w0 es)[j + 1]? = some (thingT k d) := by
      rw [hW, List.getElem?_cons_succ, List.getElem?_zipWith, hk1, hd]
    rw [hw]
    rcases goodTs_get ht hk1 hd with ⟨rfl, z, rfl, hz⟩ | ⟨rfl, n, rfl, h0, h1⟩ | ⟨rfl, n, rfl, h0, h1⟩
    · exact .inl ⟨rfl, rfl⟩
    · refine .inl ⟨by rw [thingT_int, if_neg (by decide +kernel)]; rfl, ?_⟩
      have e1 : PyData.eqv (.int (-1)) (.int n) = false := by
        show ((-1 : Int) == n) = false
        exact beq_eq_false_iff_ne.mpr (by omega)
      have e2 : PyData.eqv (.int (-2)) (.int n) = false := by
        show ((-2 : Int) == n) = false
        exact beq_eq_false_iff_ne.mpr (by omega)
      rw [List.any_cons, List.any_cons, e1, e2]
      rfl
    · by_cases hn : n = -1 ∨ n = -2
      · refine .inr ⟨n, rfl, hn, by rw [thingT_int, if_pos rfl], ?_⟩
        obtain ⟨rfl, rfl⟩ | ⟨rfl, rfl⟩ := (form_what hk).2 j hk1
        · rcases hn with rfl | rfl <;> decide +kernel
        · rcases hn with rfl | rfl <;> decide +kernel
      · have n1 : n ≠ -1 := fun e => hn (.inl e)
        have n2 : n ≠ -2 := fun e => hn (.inr e)
        refine .inl ⟨by rw [thingT_int, if_pos rfl]; unfold whatT; rw [if_neg n1, if_neg n2]; rfl, ?_⟩
        have e1 : PyData.eqv (.int (-1)) (.int n) = false := by
          show ((-1 : Int) == n) = false
          exact beq_eq_false_iff_ne.mpr fun e => n1 e.symm
        have e2 : PyData.eqv (.int (-2)) (.int n) = false := by
          show ((-2 : Int) == n) = false
          exact beq_eq_false_iff_ne.mpr fun e => n2 e.symm
        rw [List.any_cons, List.any_cons, e1, e2]
        rfl
def RLDText (ds : List PyData) (v : V) : Prop := ∃ (w0 : Str) (es : List PyData), ds = [.tuple (.str w0 :: es)] ∧ GoodDeed w0 es ∧ v = .str (deedT w0 es)
theorem good_thing {w0 : Str} {es : List PyData} {ks : List Str} (hk : lookF w0 = some ks) (ht : goodTs ks es) {i : Nat} {d : PyData} (hd : (.str w0 :: es : List PyData)[i]? = some d) : okE 0 d ∧ ((∃ n : Int, d = .int n ∧ -2 ≤ n ∧ n < 10 ^ 40) ∨ ∃ z, d = .str z) := by
  have big : (1000000 : Int) < 10 ^ 40 := by decide
  cases i with
  | zero =>
    cases hd
    exact ⟨(form_what hk).1, .inr ⟨w0, rfl⟩⟩
  | succ j =>
    have hd : es[j]? = some d := by simpa using hd
    have hj := (List.getElem?_eq_some_iff.mp hd).1
    have hl := goodTs_len ht
    rcases goodTs_get ht (List.getElem?_eq_getElem (by omega : j < ks.length)) hd with ⟨_, z, rfl, hz⟩ | ⟨_, n, rfl, h0, h1⟩ | ⟨_, n, rfl, h0, h1⟩
    · exact ⟨name_ok hz, .inr ⟨z, rfl⟩⟩
    · exact ⟨trivial, .inl ⟨n, rfl, by omega, by omega⟩⟩
    · exact ⟨trivial, .inl ⟨n, rfl, by omega, by omega⟩⟩
theorem ok_law_deed_text (T : Tx w K mg) : FnOk P w K mg base CX0 1 T.a_law_deed_text T.d_law_deed_text ["_law_deed"] (spD K RLDText) := by
  refine T.F_law_deed_text.ok sc_law_deed_text (fun vs H Q E h => ?_) (fun cdv A outer s H vs Q E hr h => ?_)
  · obtain ⟨ds, v, hds, ⟨w0, es, rfl, _⟩, q⟩ := h
    rw [dpa_len hds]
    rfl
  · obtain ⟨ds, v, hds, ⟨w0, es, rfl, hG, rfl⟩, q⟩ := h
    cases hds with
    | @cons v1 _ _ _ d1 h2 =>
    cases h2
    have hD := gooddeed_ok hG
    obtain ⟨hW1, hW2⟩ := wordsT_len hD
    obtain ⟨ks, hk, ht⟩ := id hG
    have hl := goodTs_len ht
    have hkl := form_short hk
    have hlen : (wordsT w0 es).length = (PyData.str w0 :: es).length := by
      unfold wordsT
      rw [hk]
      simp [hl]
    refine ⟨_, (pss_cons (ps_set (i := 1) sc_law_deed_text.nd rfl (.inl rfl) (pe_lst pa_nil))
      (pss_cons (ps_for PassesOwn.never rfl (pi_enumT (by rfl) T.n_enumerate (pa_cons (pv 0) pa_nil)) (pg_tup rfl (pgs_cons (pg_name (i := 2) sc_law_deed_text.nd rfl (.inl rfl)) (pgs_cons (pg_name (i := 3) sc_law_deed_text.nd rfl (.inl rfl)) pgs_nil))) (pss_cons (ps_set (i := 4) sc_law_deed_text.nd rfl (.inl rfl) (pe_callTy (r := rStr) call_strQ (by rfl) T.n_str (by decide +kernel) (pa_cons (pv 3) pa_nil)))
      (pss_cons (ps_if (PW.pt (pw_and (pt_cmpR (r := rInDT K) (op_inDT (u65 hr)) (pv 3) (pe_tup (pa_cons (pe_un un_neg pe_int) (pa_cons (pe_un un_neg pe_int) pa_nil))) (by rfl)) (pw_and1 (pt_cmpR (r := rInDT K) (op_inDT (u65 hr)) (pe_tup (pa_cons (pe_ix (r := rIxT K) ix_tup (pv 0) pe_int (fun _ _ => rfl)) (pa_cons (pv 2) pa_nil))) (pe_tup (pa_cons (pe_tup (pa_cons pe_str (pa_cons pe_int pa_nil))) (pa_cons (pe_tup (pa_cons pe_str (pa_cons pe_int pa_nil))) pa_nil))) (by rfl))))) (pss_cons (ps_set (i := 4) sc_law_deed_text.nd rfl (.inl rfl) (pe_ix (r := rIxL K) ix_list (pe_lst (pa_cons pe_str (pa_cons pe_str pa_nil))) (pe_op op_add (pv 3) pe_int) (fun _ _ => rfl)))
      pss_nil) pss_nil)
      (pss_cons (ps_expr (pe_bm PySem.F.plainAttrs_list PySem.F.slot_list_append PySem.F.type_list_append mt_append (pv 1) (pa_cons (pv 4) pa_nil)))
      pss_nil))))
      (pss_cons (ps_ret (pe_jo pe_str (pv 1)))
      pss_nil))), Go.go ?_⟩
    refine go_asgN (K := K) (ds := []) (Ex.refl H) (en_lst eda_nil (by simp)) fun p xs H1 D1 g1 f1 f1' h1 hx => ?_
    cases hx
    refine go_for (K := K) g1.sub (ei_enumT (K := K) (eda_cons (ed_var rfl (dp_mono g1.dx _ d1)) eda_nil)) (fun Hn i σ' H' => Ex Hn H' ∧ Ex D1 Hn ∧ Hn p = none ∧ Ex H H' ∧ H' p = some (.lst (((wordsT w0 es).take i).map V.str)) ∧ ∃ x2 x3 x4, σ' = [some v1, some (.ref p), x2, x3, x4]) ?_ ?_ ?_ ?_
    · intro H' Hn g'
      exact ⟨g'.sub, g'.dx, g'.fr _ _ h1 f1', g1.ex.trans g'.ex, g'.ex _ _ h1, _, _, _, rfl⟩
    · rintro Hn i σ' H' ⟨h, _⟩
      exact h
    · rintro Hn i σ' σ2 H2 e2 hi ⟨s2, d2, np, ex2, hp2, x2, x3, x4, rfl⟩ ⟨va, vb, da, db, hda, hdb, hva, hvb, rfl⟩
      cases hda
      cases hva
      have hdb : (.str w0 :: es : List PyData)[i]? = some db := hdb
      obtain ⟨hokE, hval⟩ := good_thing hk ht hdb
      have hd1' := dp_mono (g1.dx.trans d2) _ d1
      have hpl : Ev (tCB rStr (tCons (tVar 3) tNil)) [some v1, some (.ref p), some (.int (i : Int)), some vb, x4] H2 (.str (plainS db)) := by
        rcases hval with ⟨n, rfl, h0, h1⟩ | ⟨z, rfl⟩
        · cases hvb
          exact ev_strI (ev_var rfl) (log2_40 h0 h1)
        · cases hvb
          exact ev_strS (ev_var rfl)
      refine go_asg (v := .str (plainS db)) hpl ?_
      have hwok := (form_what hk).1
      have oE : okE 1 (.tuple [.str w0, .int (i : Int)]) := fun e he => by
        rcases List.mem_cons.mp he with rfl | he
        · exact hwok
        · rw [List.mem_singleton.mp he]; trivial
      have test := (EvT.mono s2 (et_andB (et_test (ev_inDT (K := K) (d := db) (ds := [.int (-1), .int (-2)]) (σ := [some v1, some (.ref p), some (.int (i : Int)), some vb, some (.str (plainS db))]) (ta := tVar 3) (Hd := Hn) (ed_var rfl hvb) (ed_tup (eda_cons (ed_int (ev_is (v := .int (-1)) (ev_un (ev_c (v := .int 1)) ru_neg) rfl)) (eda_cons (ed_int (ev_is (v := .int (-2)) (ev_un (ev_c (v := .int 2)) ru_neg) rfl)) eda_nil)) (by simp)) (okE_shaped hokE (by decide)) (by decide)))
        (et_test (ev_inDT (K := K) (d := .tuple [.str w0, .int (i : Int)]) (ds := [.tuple [.str "tell", .int 4], .tuple [.str "right", .int 3]]) (σ := [some v1, some (.ref p), some (.int (i : Int)), some vb, some (.str (plainS db))]) (Hd := Hn) (ed_tup (eda_cons (ed_ixT (ed_var (i := 0) rfl hd1') (ev_c (v := .int 0)) (atI_nat (j := 0) rfl)) (eda_cons (ed_int (ev_var (i := 2) rfl)) eda_nil)) (by simp)) (ed_tup (eda_cons (ed_tup (eda_cons (ed_str ev_c) (eda_cons (ed_int ev_c) eda_nil)) (by simp)) (eda_cons (ed_tup (eda_cons (ed_str ev_c) (eda_cons (ed_int ev_c) eda_nil)) (by simp)) eda_nil)) (by simp)) (okE_shaped oE (by decide)) (by decide +kernel)))))
      have last : ∀ {wd : Str} {H3 : Hp}, (wordsT w0 es)[i]? = some wd → Ex H2 H3 → ∀ {D : Ends}, (∀ H', Ex (upd H3 p (.lst (((wordsT w0 es).take (i + 1)).map V.str))) H' → D.nx [some v1, some (.ref p), some (.int (i : Int)), some vb, some (.str wd)] H') → Go (tSeq (tDrop (tBM K "list" rAppend (tVar 1) (tCons (tVar 4) tNil))) tNext) D [some v1, some (.ref p), some (.int (i : Int)), some vb, some (.str wd)] H3 := fun {wd H3} hw e3 {D} hnx => by
        refine go_app (K := K) (e3 _ _ hp2) (ev_var rfl) (ev_var (v := .str wd) rfl) (by rw [List.length_map, List.length_take]; omega) (go_next fun H4 e4 => hnx H4 ?_)
        rw [List.take_add_one, hw, List.map_append]
        exact e4
      have done : ∀ {H3 H4 : Hp} {x : Option V}, Ex H2 H3 → Ex (upd H3 p (.lst (((wordsT w0 es).take (i + 1)).map V.str))) H4 → Ex Hn H4 ∧ Ex D1 Hn ∧ Hn p = none ∧ Ex H H4 ∧ H4 p = some (.lst (((wordsT w0 es).take (i + 1)).map V.str)) ∧ ∃ x2 x3 x4, [some v1, some (.ref p), some (.int (i : Int)), some vb, x] = [some v1, some (.ref p), x2, x3, x4] := fun {H3 H4 x} e3 e4 =>
        ⟨(Ex.mut (s2.trans e3) np).trans e4, d2, np, (Ex.mut (ex2.trans e3) f1).trans e4, e4 _ _ upd_same, _, _, _, rfl⟩
      rcases law_word hk ht hdb with ⟨hw, hc⟩ | ⟨n, rfl, hn, hw, hc⟩
      · rw [hc] at test
        exact go_whenF test (last hw (Ex.refl H2) fun H4 e4 => done (Ex.refl H2) e4)
      · rw [hc] at test
        cases hvb
        refine go_whenK (fun σ' H' => Ex H2 H' ∧ σ' = [some v1, some (.ref p), some (.int (i : Int)), some (.int n), some (.str (whatT n))]) test (fun _ nx hnx => ?_) (fun e => nomatch e) ?_
        · refine go_asg (v := .str (whatT n)) (Ev.mono s2 (ev_str (K := K) (ed_ixL (i := n + 2) (ed_new (en_lst (eda_cons (ed_str ev_c) (eda_cons (ed_str ev_c) eda_nil)) (by simp))) (by walk_at "ev") ?_))) (go_next fun H3 e3 => hnx _ _ ⟨e3, rfl⟩)
          rcases hn with rfl | rfl
          · exact atI_nat (j := 1) rfl
          · exact atI_nat (j := 0) rfl
        · rintro σ' H3 ⟨e3, rfl⟩
          exact last hw e3 fun H4 e4 => done e3 e4
    · rintro Hn σ' H2 e2 ⟨s2, d2, np, ex2, hp2, x2, x3, x4, rfl⟩
      rw [← hlen, List.take_length] at hp2
      have hd : Dp K H2 (.ref p) (.list ((wordsT w0 es).map .str)) := .lst (sq_of hp2) (Cot.dpa_strs _)
      refine go_retV (v := .str (deedT w0 es)) (ev_jo (K := K) (ys := wordsT w0 es) ev_c (ed_var rfl hd) ?_) fun H3 e3 => q H3 (ex2.trans e3)
      have := sum_le _ _ hW2
      rw [show Str.length " " = 1 by decide +kernel]
      omega

/-! ### the law's own reading of words -/
theorem ok_law_name_good (T : Tx w K mg) : FnOk P w K mg base CX0 1 T.a_law_name_good T.d_law_name_good ["_law_text"] (spS R_name) := by
  refine T.F_law_name_good.ok sc_law_name_good (fun vs H Q E h => ?_) (fun cdv A outer s H vs Q E hr h => ?_)
  · obtain ⟨v, ⟨z, rfl, _⟩, q⟩ := h
    rfl
  · obtain ⟨v, ⟨z, rfl, hz, rfl⟩, q⟩ := h
    refine ⟨_, (pss_cons (ps_ret (pe_and (pe_chain op_le op_le pe_int (pe_callB (r := rLenX) call_lenX (by rfl) T.n_len PySem.boot_len (pa_cons (pv 0) pa_nil)) pe_int) (pe_one (pe_callB (r := rAll K) (cr_all rfl) (by rfl) T.n_all (by decide +kernel) (pa_cons (pe_lc (own := [("_law_sign", 1)]) (g := (gName 1)) (by rfl) sc_law_name_good.nd (pi_str (pv 0)) (blkOk_by (own := [("_law_sign", 1)]) (N := N_law_name_good) (sc := defScope s_law_name_good) (by decide +kernel)) (fun _ _ _ _ _ => (pg_name (i := 1) sc_law_name_good.nd rfl (.inl rfl) (hf := .inr rfl))) (fun _ _ _ _ _ => pts_nil) (fun _ _ _ _ _ => (pe_cmpR (r := rInSg) op_in_sign (pv 1) pe_str (by rfl)))) pa_nil)))))
      pss_nil), Go.go ?_⟩
    refine go_retE (v := .bl (isNameS z)) (ev_andB (ev_chainB ev_c (ev_lenX (ev_var rfl) (by omega)) rv_I0 ev_c rv_I0) (ev_all (K := K) (ed_new (en_signs (f := fun k => decide (k ∈ lettersS.cps.toList)) (ev_var rfl) (by omega) ?_)))) ?_ q
    · rintro σ2 Hn k ex rfl
      exact ⟨rfl, ev_inSg (ev_var rfl) ev_c⟩
    · unfold isNameS
      rw [(len_int z 8 8 rfl).1, (len_int z 8 8 rfl).2, List.all_map]
      rfl
def kindL (k : Str) : Nat := if k = "name" then 110 else if k = "number" then 105 else 111
def RThIn (ds : List PyData) (d : PyData) : Prop := ∃ k z : Str, ds = [.str (sg (kindL k)), .str z] ∧ k ∈ (["name", "number", "what"] : List Str) ∧ z.length ≤ 30000 ∧ d = readT k z
theorem figs_all2 : ∀ k ∈ figuresS.cps.toList, 48 ≤ k ∧ k ≤ 57 := by decide +kernel
theorem sg_110 : ("n" : Str) = sg 110 := by decide +kernel
theorem sg_111 : ("o" : Str) = sg 111 := by decide +kernel
theorem sg_48 : ("0" : Str) = sg 48 := by decide +kernel
def landK : List (Key × V) := [(.inr "land", .int (-1)), (.inr "sea", .int (-2))]
theorem sg_inj (a c : Nat) : (V.str (sg a) = V.str (sg c)) ↔ a = c := by
  rw [V.str.injEq]
  constructor
  · intro h
    have := congrArg TL.tl h
    exact List.singleton_inj.mp this
  · intro h
    rw [h]
theorem in_land (z : Str) : inV (.str z) [.str "land", .str "sea"] = true ↔ z = "land" ∨ z = "sea" := by
  unfold inV
  rw [List.any_cons, List.any_cons, List.any_nil, Bool.or_false, Bool.or_eq_true]
  have h : ∀ a c : Str, eqV (.str a) (.str c) = true ↔ c = a := fun a c => by
    unfold eqV
    simp only [decide_eq_true_eq, beq_iff_eq]
    exact ⟨Eq.symm, Eq.symm⟩
  rw [h, h]
theorem what_land : readT "what" "land" = .int (-1) ∧ readT "what" "sea" = .int (-2) := by
  have h1 : readWhat "land" = some (-1) := by decide +kernel
  have h2 : readWhat "sea" = some (-2) := by decide +kernel
  have hn : ("what" : Str) ≠ "name" := by decide +kernel
  constructor
  · unfold readT
    rw [if_neg hn, if_pos rfl, h1]
    rfl
  · unfold readT
    rw [if_neg hn, if_pos rfl, h2]
    rfl
theorem ok_law_thing_in (T : Tx w K mg) : FnOk P w K mg base CX0 2 T.a_law_thing_in T.d_law_thing_in ["_law_kind", "_law_word"] (spF K RThIn) := by
  refine T.F_law_thing_in.ok sc_law_thing_in (fun vs H Q E h => ?_) (fun cdv A outer s H vs Q E hr h => ?_)
  · obtain ⟨Hd, ds, d, sx, hds, ⟨k, z, rfl, _⟩, q⟩ := h
    rw [dpa_len hds]
    rfl
  · obtain ⟨Hd, ds, d, sx, hds, ⟨k, z, rfl, hk, hz, rfl⟩, q⟩ := h
    cases hds with
    | @cons v1 _ _ _ d1 h2 =>
    cases h2 with
    | @cons v2 _ _ _ d2 h3 =>
    cases h3
    cases d1
    cases d2
    have fin : ∀ {te : TE} {d : PyData} {σ : L2.St}, EvD K te σ Hd d → d = readT k z → ∀ {tz : TS} {D : Ends}, D.rt = Q → Go (tSeq (tRet te) tz) D σ H := fun {te d σ} h e {tz D} hD => go_ret sx (d := readT k z) (by rw [← e]; exact h) (by rw [hD]; exact q)
    refine ⟨_, (pss_cons (ps_if (pt_cmpR op_eq (pv 0) pe_str (nomark _)) (pss_cons (ps_ret (pe_ifExp (pt_val (pe_call (ok_law_name_good (P := P) (w := w) T) (hr.mono (by omega)) (by rfl) T.g_law_name_good T.F_law_name_good.kp T.b_law_name_good .nil pass0 (pa_cons (pv 1) pa_nil))) (pv 1) pe_non))
      pss_nil) pss_nil)
      (pss_cons (ps_if (PW.pt (pw_and (pt_cmpR op_eq (pv 0) pe_str (nomark _)) (pw_and1 (pt_cmpR (r := rIn K false) op_in_seq (pv 1) (pe_tup (pa_cons pe_str (pa_cons pe_str pa_nil))) (by rfl))))) (pss_cons (ps_ret (pe_dget (hu_of hr) (pe_disp (pps_cons pe_str (pe_un un_neg pe_int) (pps_cons pe_str (pe_un un_neg pe_int) pps_nil)) (by rfl) (by rfl) (fun z => by cases z) (by decide)) (pv 1) (fun _ _ => rfl)))
      pss_nil) pss_nil)
      (pss_cons (ps_if (PW.pt (pw_or (pt_not (pt_chain op_le op_le pe_int (pe_callB (r := rLenX) call_lenX (by rfl) T.n_len PySem.boot_len (pa_cons (pv 1) pa_nil)) pe_int)) (pw_or1 (pt_not (pt_val (pe_callB (r := rAll K) (cr_all rfl) (by rfl) T.n_all (by decide +kernel) (pa_cons (pe_lc (own := [("_law_sign", 2)]) (g := (gName 2)) (by rfl) sc_law_thing_in.nd (pi_str (pv 1)) (blkOk_by (own := [("_law_sign", 2)]) (N := N_law_thing_in) (sc := defScope s_law_thing_in) (by decide +kernel)) (fun _ _ _ _ _ => (pg_name (i := 2) sc_law_thing_in.nd rfl (.inl rfl) (hf := .inr rfl))) (fun _ _ _ _ _ => pts_nil) (fun _ _ _ _ _ => (pe_cmpR (r := rInSg) op_in_sign (pv 2) pe_str (by rfl)))) pa_nil))))))) (pss_cons (ps_ret pe_non)
      pss_nil) pss_nil)
      (pss_cons (ps_ret (pe_ifExp (PW.pt (pw_and (pt_cmpR op_eq (pe_ix (r := rIxS) ix_str (pv 1) pe_int (fun _ _ => rfl)) pe_str (nomark _)) (pw_and1 (pt_cmpR op_ne (pv 1) pe_str (nomark _))))) pe_non (pe_callTy (r := rIntS) call_intS (by rfl) T.n_int (by decide +kernel) (pa_cons (pv 1) pa_nil))))
      pss_nil)))), Go.go ?_⟩
    refine go_when (b := decide (k = "name")) (et_is (by walk_at "et") ?_) (fun e => ?_) (fun e => ?_)
    · rw [sg_110, decide_eq_decide, sg_inj]
      simp only [List.mem_cons, List.not_mem_nil, or_false] at hk
      rcases hk with rfl | rfl | rfl <;> decide +kernel
    · have e := of_decide_eq_true e
      subst e
      exact fin (ed_if (c := isNameS z) (d := readT "name" z) (et_test (ev_callS (ea_cons (ev_var rfl) ea_nil) ⟨z, rfl, hz, rfl⟩)) (fun e2 => by unfold readT; rw [if_pos rfl, if_pos e2]; exact ed_str (ev_var rfl)) (fun e2 => by unfold readT; rw [if_pos rfl, if_neg (by rw [e2]; decide)]; exact ed_non ev_c)) rfl rfl
    have e1 := of_decide_eq_false e
    refine go_when (b := decide (k = "what") && decide (z = "land" ∨ z = "sea")) (et_is (et_andB (et_test (by walk_at "ev")) (et_test (ev_inFlat (ev_var rfl) (ea_cons ev_c (ea_cons ev_c ea_nil)) (by simp) rfl rfl))) ?_) (fun e => ?_) (fun e2 => ?_)
    · congr 1
      · rw [sg_111, decide_eq_decide, sg_inj]
        simp only [List.mem_cons, List.not_mem_nil, or_false] at hk
        rcases hk with rfl | rfl | rfl <;> decide +kernel
      · rw [Bool.eq_iff_iff, decide_eq_true_eq]
        exact in_land z
    · rw [Bool.and_eq_true, decide_eq_true_eq, decide_eq_true_eq] at e
      obtain ⟨rfl, hz2⟩ := e
      have ek : ∀ {σ : L2.St}, σ[1]? = some (some (.str z)) → EvK (tDisp [(tC (.str "land"), tUn (rU fun i => V.int (-i)) (tC (.int 1))), (tC (.str "sea"), tUn (rU fun i => V.int (-i)) (tC (.int 2)))]) σ Hd landK := fun h => ek_new (ekn_disp (kvs := landK) (eps_cons ev_c (ev_is (ev_un (ev_c (v := .int 1)) ru_neg) rfl) (eps_cons ev_c (ev_is (ev_un (ev_c (v := .int 2)) ru_neg) rfl) eps_nil)) (by decide))
      rcases hz2 with rfl | rfl
      · exact fin (d := .int (-1)) (ed_int (ev_dgetK (k := .inr "land") (ek rfl) (ev_var rfl) (by decide +kernel))) what_land.1.symm rfl
      · exact fin (d := .int (-2)) (ed_int (ev_dgetK (k := .inr "sea") (ek rfl) (ev_var rfl) (by decide +kernel))) what_land.2.symm rfl
    have hR : readT k z = oD (readNum z) := by
      unfold readT
      rw [if_neg e1]
      split
      · rename_i e3
        unfold readWhat
        rw [decide_eq_true e3, Bool.true_and] at e2
        have := of_decide_eq_false e2
        rw [if_neg fun h => this (.inl h), if_neg fun h => this (.inr h)]
      · rfl
    refine go_when (b := !figsB z) (et_is (et_orB (et_not (et_test (ev_chainB ev_c (ev_lenX (ev_var rfl) (by omega)) rv_I0 ev_c rv_I0))) (et_not (et_test (ev_all (K := K) (ed_new (en_signs (f := fun k => decide (k ∈ figuresS.cps.toList)) (ev_var rfl) (by omega) ?_)))))) ?_) (fun e => ?_) (fun e => ?_)
    · rintro σ2 Hn k ex rfl
      exact ⟨rfl, ev_inSg (ev_var rfl) ev_c⟩
    · unfold figsB
      rw [(len_int z 6 6 rfl).1, (len_int z 6 6 rfl).2, List.all_map, ← Bool.not_and]
      rfl
    · have e0 : figsB z = false := by simpa using e
      refine fin (ed_non ev_c) ?_ rfl
      rw [hR]
      unfold readNum
      rw [e0]
      rfl
    have e0 : figsB z = true := by simpa using e
    obtain ⟨⟨l1, l6⟩, ha⟩ : (1 ≤ z.length ∧ z.length ≤ 6) ∧ _ := by
      unfold figsB at e0
      rw [Bool.and_eq_true, Bool.and_eq_true, decide_eq_true_eq, decide_eq_true_eq] at e0
      exact e0
    have hlen : z.cps.toList.length = z.length := by simp [Str.length]
    obtain ⟨c0, cs, hcs⟩ : ∃ c cs, z.cps.toList = c :: cs := by
      cases h : z.cps.toList with
      | nil => rw [h] at hlen; simp at hlen; omega
      | cons c cs => exact ⟨c, cs, rfl⟩
    have hzz : z = "0" ↔ z.cps.toList = [48] := by
      rw [sg_48]
      constructor
      · intro h; rw [h]
      · intro h; exact TL.ext_tl h
    have hi : intText? z = some ((NumText.digitsVal z.cps.toList : Nat) : Int) := intText_digits (x := z) (fun c hc => figs_all2 c (of_decide_eq_true (List.all_eq_true.mp ha c hc))) (by rw [hcs]; simp) (by omega)
    refine fin (ed_if (c := decide (1 < z.length) && decide (z.cps.toList.head? = some 48)) (d := oD (readNum z)) (et_is (et_andB (et_test (ev_op (ev_ixS (c := c0) (ev_var rfl) ev_c (by omega) (by rw [hcs]; exact atI_nat (j := 0) rfl)) ev_c (rv_eq rfl))) (et_test (ev_op (ev_var rfl) ev_c (rv_ne rfl)))) ?_) (fun e4 => ?_) (fun e4 => ?_)) hR.symm rfl
    · rw [Bool.eq_iff_iff]
      simp only [Bool.and_eq_true, decide_eq_true_eq, Bool.not_eq_true', decide_eq_false_iff_not, V.str.injEq]
      rw [hcs, List.head?_cons, hzz, hcs, sg_48]
      have hl2 : z.length = cs.length + 1 := by rw [← hlen, hcs]; rfl
      have h48 : (sg c0 = sg 48) ↔ c0 = 48 := by rw [← V.str.injEq]; exact sg_inj c0 48
      rw [h48]
      constructor
      · rintro ⟨rfl, hne⟩
        refine ⟨?_, rfl⟩
        cases cs with
        | nil => exact absurd rfl hne
        | cons a l => rw [hl2]; simp
      · rintro ⟨h1, h2⟩
        cases h2
        refine ⟨rfl, fun h => ?_⟩
        cases cs with
        | nil => rw [hl2] at h1; simp at h1
        | cons a l => cases h
    · unfold readNum
      rw [if_pos e0, if_pos e4]
      exact ed_non ev_c
    · unfold readNum
      rw [if_pos e0, if_neg (by rw [e4]; decide)]
      exact ed_int (ev_intS (ev_var rfl) hi (by omega))
def formL (ks : List Str) : Str := ⟨(ks.map kindL).toArray⟩
def formsK : List (Key × V) := [(.inr "begin", .str "niii"), (.inr "tell", .str "niioi"), (.inr "right", .str "nio"), (.inr "strike", .str "ni"), (.inr "drop", .str "n"), (.inr "lay", .str "nniii")]
theorem forms_look (z : Str) : valV formsK (.inr z) = (lookF z).map fun ks => .str (formL ks) := by
  have inj : ∀ a c : Str, ((Sum.inr a : Key) = .inr c) ↔ a = c := fun a c => ⟨fun h => by cases h; rfl, fun h => by rw [h]⟩
  unfold valV formsK lookF deedF
  simp only [List.find?_cons, List.find?_nil, inj]
  cases decide (("begin" : Str) = z) with
  | true => exact congrArg some (by decide +kernel)
  | false =>
  cases decide (("tell" : Str) = z) with
  | true => exact congrArg some (by decide +kernel)
  | false =>
  cases decide (("right" : Str) = z) with
  | true => exact congrArg some (by decide +kernel)
  | false =>
  cases decide (("strike" : Str) = z) with
  | true => exact congrArg some (by decide +kernel)
  | false =>
  cases decide (("drop" : Str) = z) with
  | true => exact congrArg some (by decide +kernel)
  | false =>
  cases decide (("lay" : Str) = z) with
  | true => exact congrArg some (by decide +kernel)
  | false => rfl
theorem forms_kinds : ∀ e ∈ deedF, ∀ k ∈ e.2, k ∈ (["name", "number", "what"] : List Str) := by decide +kernel
theorem form_kind {w0 : Str} {ks : List Str} (h : lookF w0 = some ks) : ∀ k ∈ ks, k ∈ (["name", "number", "what"] : List Str) := by
  unfold lookF at h
  obtain ⟨e, he, rfl⟩ := Option.map_eq_some_iff.mp h
  exact forms_kinds e (List.mem_of_find?_eq_some he)
def dueD (z : Str) : PyData := match readDeed z with
  | none => .none
  | some (w0, es) => .tuple (.str w0 :: es)
def RDIn (ds : List PyData) (d : PyData) : Prop := ∃ z : Str, ds = [.str z] ∧ z.length ≤ 20000 ∧ d = dueD z
theorem ok_law_deed_in (T : Tx w K mg) : FnOk P w K mg base CX0 3 T.a_law_deed_in T.d_law_deed_in ["_law_text"] (spF K RDIn) := by
  refine T.F_law_deed_in.ok sc_law_deed_in (fun vs H Q E h => ?_) (fun cdv A outer s H vs Q E hr h => ?_)
  · obtain ⟨Hd, ds, d, sx, hds, ⟨z, rfl, _⟩, q⟩ := h
    rw [dpa_len hds]
    rfl
  · obtain ⟨Hd, ds, d, sx, hds, ⟨z, rfl, hz, rfl⟩, q⟩ := h
    cases hds with
    | @cons v1 _ _ _ d1 h2 =>
    cases h2
    cases d1
    have hne := split_neB z
    have hsl := split_len z (y := " ") (s := 32) (by decide +kernel) (by decide +kernel)
    unfold dueD readDeed at q
    refine ⟨_, (pss_cons (ps_set (i := 1) sc_law_deed_in.nd rfl (.inl rfl) (pe_disp (pps_cons pe_str pe_str (pps_cons pe_str pe_str (pps_cons pe_str pe_str pps_nil))) (by rfl) (by rfl) (fun z => by cases z) (by decide)))
      (pss_cons (ps_expr (pe_bm (r := rUpd) PySem.F.plainAttrs_dict PySem.F.slot_dict_update PySem.F.type_dict_update mt_dupd (pv 1) (pa_cons (pe_disp (pps_cons pe_str pe_str (pps_cons pe_str pe_str (pps_cons pe_str pe_str pps_nil))) (by rfl) (by rfl) (fun z => by cases z) (by decide)) pa_nil)))
      (pss_cons (ps_set (i := 2) sc_law_deed_in.nd rfl (.inr rfl) (pe_spl (pv 0) pe_str))
      (pss_cons (ps_if (PW.pt (pw_or (pt_cmp (pc_dnotin (hu_of hr) (pe_ix (r := rIxL K) ix_list (pv 2) pe_int (fun _ _ => rfl)) (pv 1))) (pw_or1 (pt_cmpR op_ne (pe_callB (r := rLenS K) call_lenQ (by rfl) T.n_len PySem.boot_len (pa_cons (pv 2) pa_nil)) (pe_op op_add (pe_callB (r := rLenX) call_lenX (by rfl) T.n_len PySem.boot_len (pa_cons (pe_dget (hu_of hr) (pv 1) (pe_ix (r := rIxL K) ix_list (pv 2) pe_int (fun _ _ => rfl)) (fun _ _ => rfl)) pa_nil)) pe_int) (nomark _))))) (pss_cons (ps_ret pe_non)
      pss_nil) pss_nil)
      (pss_cons (ps_set (i := 3) sc_law_deed_in.nd rfl (.inr rfl) (pe_dget (hu_of hr) (pv 1) (pe_ix (r := rIxL K) ix_list (pv 2) pe_int (fun _ _ => rfl)) (fun _ _ => rfl)))
      (pss_cons (ps_setLc (i := 4) (own := [("_law_at", 5)]) (g := (gName 5)) (by rfl) sc_law_deed_in.nd rfl rfl (sw_true rfl rfl rfl (by decide +kernel)) (pi_range1 (by rfl) T.n_range (pa_cons (pe_callB (r := rLenX) call_lenX (by rfl) T.n_len PySem.boot_len (pa_cons (pv 3) pa_nil)) pa_nil)) (blkOk_by (own := [("_law_at", 5)]) (N := N_law_deed_in) (sc := defScope s_law_deed_in) (by decide +kernel)) (fun _ _ _ _ _ => (pg_name (i := 5) sc_law_deed_in.nd rfl (.inl rfl) (hf := .inr rfl))) (fun _ _ _ _ _ => pts_nil) (fun _ _ _ _ _ => (pe_call (ok_law_thing_in (P := P) (w := w) T) (hr.mono (by omega)) (by rfl) T.g_law_thing_in T.F_law_thing_in.kp T.b_law_thing_in .nil pass0 (pa_cons (pe_ix (r := rIxS) ix_str (pv 3) (pv 5) (fun _ _ => rfl)) (pa_cons (pe_ix (r := rIxL K) ix_list (pv 2) (pe_op op_add (pv 5) pe_int) (fun _ _ => rfl)) pa_nil)))))
      (pss_cons (ps_ret (pe_ifExp (pt_cmpR (r := rInD K) (op_inD (u65 hr)) pe_non (pv 4) (by rfl)) pe_non (pe_callTy (r := rTupS K) call_tupleQ (by rfl) T.n_tuple (by decide +kernel) (pa_cons (pe_op op_cat (pe_slice (r := rSlL K) sl_list (pv 2) po_none (po_some pe_int)) (pv 4)) pa_nil))))
      pss_nil))))))), Go.go ?_⟩
    refine go_asgK (ekn_disp (kvs := [(.inr "begin", .str "niii"), (.inr "tell", .str "niioi"), (.inr "right", .str "nio")]) (eps_cons ev_c ev_c (eps_cons ev_c ev_c (eps_cons ev_c ev_c eps_nil))) (by decide)) fun pf H1 e1 n1 hp1 => ?_
    refine go_dupd (ev_var rfl) hp1 (ekn_disp (kvs := [(.inr "strike", .str "ni"), (.inr "drop", .str "n"), (.inr "lay", .str "nniii")]) (eps_cons ev_c ev_c (eps_cons ev_c ev_c (eps_cons ev_c ev_c eps_nil))) (by decide)) (by decide +kernel) ?_
    have hfk : mergeK (mergeK [] [(.inr "begin", .str "niii"), (.inr "tell", .str "niioi"), (.inr "right", .str "nio")]) (mergeK [] [(.inr "strike", .str "ni"), (.inr "drop", .str "n"), (.inr "lay", .str "nniii")]) = formsK := by decide +kernel
    rw [hfk]
    have nd : Hd pf = none := fresh_back sx n1
    have s1 : Ex Hd (upd H1 pf (.dK formsK)) := Ex.mut (sx.trans e1) nd
    have hx1 : Ex H (upd H1 pf (.dK formsK)) := Ex.mut e1 n1
    have hf1 : upd H1 pf (.dK formsK) pf = some (.dK formsK) := upd_same
    generalize upd H1 pf (.dK formsK) = H1' at s1 hx1 hf1
    refine go_asgD (K := K) (d := .list ((Txt.split z " ").map .str)) s1 (ed_new (en_split (ev_var rfl) ev_c (by decide +kernel) (by omega))) fun v2 H2 D2 g2 h2 => ?_
    generalize Txt.split z " " = ws at hne hsl q h2
    have hh := head_at hne
    have hwl : ∀ x ∈ ws, x.length ≤ 30000 := fun x hx => by have := sum_mem hx; omega
    have hf2 : H2 pf = some (.dK formsK) := g2.ex _ _ hf1
    have G2 : Gr Hd H D2 H2 := ⟨hx1.trans g2.ex, g2.dx, g2.sub, fun a o h n => g2.fr a o (hx1 a o h) n⟩
    have h2H := dp_mono g2.sub _ h2
    have hw0 : ∀ {σ : L2.St}, σ[2]? = some (some v2) → Ev (tOp (rIxL K) (tVar 2) (tC (.int 0))) σ H2 (.str (ws.headD "")) := fun h => ev_str (K := K) (ed_ixL (ed_var h h2H) ev_c hh)
    have hform := forms_look (ws.headD "")
    cases hF : lookF (ws.headD "") with
    | none =>
      rw [hF] at hform q
      refine go_when (b := true) (et_or (a := true) (b := true) (et_is (et_test (ev_dnotinK (k := .inr (ws.headD "")) (hw0 rfl) (ek_var rfl hf2))) ?_) (fun h => absurd h (by decide))) (fun _ => ?_) (fun e => absurd e (by decide))
      · rw [hform]; rfl
      · exact go_ret (K := K) G2.sub (d := .none) (ed_non ev_c) fun v H3 Hn g3 hv => q v H3 Hn (G2.trans g3) hv
    | some ks =>
      rw [hF] at hform q
      dsimp only at q
      have hfs := form_short hF
      have hfl : (formL ks).length = ks.length := by simp [formL, Str.length]
      refine go_when (b := !decide (ws.length = ks.length + 1)) (et_is (et_or (a := false) (et_is (et_test (ev_dnotinK (k := .inr (ws.headD "")) (hw0 rfl) (ek_var rfl hf2))) (by rw [hform]; rfl)) (fun _ => et_test (ev_op (ev_lenL (K := K) (ed_var rfl h2H)) (ev_op (ev_lenX (ev_dgetK (v := .str (formL ks)) (k := .inr (ws.headD "")) (ek_var rfl hf2) (hw0 rfl) (by rw [hform]; rfl)) (by omega)) ev_c rv_I0) (rv_ne rfl)))) ?_) (fun e => ?_) (fun e => ?_)
      · rw [Bool.false_or, List.length_map, hfl]
        congr 1
        rw [decide_eq_decide, V.int.injEq]
        omega
      · have hn : ws.tail.length ≠ ks.length := by
          have : ¬ ws.length = ks.length + 1 := by simpa using e
          rw [List.length_tail]
          omega
        have hT : readTs ks ws.tail = .none := by unfold readTs; rw [if_neg hn]
        rw [hT] at q
        exact go_ret (K := K) G2.sub (d := .none) (ed_non ev_c) fun v H3 Hn g3 hv => q v H3 Hn (G2.trans g3) hv
      have e : ws.length = ks.length + 1 := by simpa using e
      have et : ws.tail.length = ks.length := by rw [List.length_tail]; omega
      refine go_asg (v := .str (formL ks)) (ev_dgetK (k := .inr (ws.headD "")) (ek_var rfl hf2) (hw0 rfl) (by rw [hform]; rfl)) ?_
      have ez : List.zipWith readT ks ws.tail = givenD ks.length (fun _ => true) (fun i => readT ((ks[i]?).getD "") ((ws[i + 1]?).getD "")) := by
        rw [givenD_all]
        apply List.ext_getElem
        · simp [et]
        · intro i h1 h2
          simp [et] at h1
          have h3 : i + 1 < ws.length := by omega
          simp [h1, h3]
      refine go_asgN (K := K) (Hd := D2) G2.sub (ds := List.zipWith readT ks ws.tail) ?_ fun p xs H3 D3 g3 f3 f3' h3 hx3 => ?_
      · rw [ez]
        have hnn : (ks.length : Int).toNat = ks.length := by omega
        rw [← hnn]
        refine en_lc (ei_range1 (K := K) (m := (ks.length : Int)) (ea_cons (by rw [← hfl]; exact ev_lenX (ev_var rfl) (by omega)) ea_nil) (by omega)) (by omega) _ _ ?_
        rintro i σ2 Hn hi ex rfl
        rw [hnn] at hi
        have hk1 : ks[i]? = some ks[i] := List.getElem?_eq_getElem hi
        have hkm := List.getElem_mem hi
        generalize ks[i] = k at hk1 hkm
        have hw1 : ws[i + 1]? = some ws[i + 1] := List.getElem?_eq_getElem (by omega)
        have hwm : ws[i + 1] ∈ ws := List.getElem_mem (by omega)
        generalize ws[i + 1] = x at hw1 hwm
        refine ⟨rfl, et_yes, fun _ => ?_⟩
        rw [hk1, hw1]
        have ei : (0 : Int) + (i : Int) = (i : Int) := by omega
        have ei1 : (i : Int) + 1 = ((i + 1 : Nat) : Int) := by omega
        refine ed_call (eda_cons (ed_str (ev_ixS (c := kindL k) (ev_var rfl) (ev_is (ev_var rfl) (by rw [ei])) (by omega) (atI_nat (j := i) ?_))) (eda_cons (ed_ixL (i := ((i + 1 : Nat) : Int)) (ed_var rfl (dp_mono ex _ h2)) (ev_is (by walk_at "ev") (by rw [ei, ei1])) (atI_nat (j := i + 1) ?_)) eda_nil)) ⟨k, x, rfl, form_kind hF k hkm, hwl x hwm, rfl⟩
        · show (List.map kindL ks)[i]? = _
          rw [List.getElem?_map, hk1]
          rfl
        · rw [List.getElem?_map, hw1]
          rfl
      have h2' := dp_mono (g3.dx.trans (Ex.new f3' (o := .lst xs))) _ h2
      have s3 : Ex (upd D3 p (.lst xs)) H3 := ex_add g3.sub h3
      have hxs := dpa_mono (Ex.new f3' (o := .lst xs)) _ hx3
      have hlst : Dp K (upd D3 p (.lst xs)) (.ref p) (.list (List.zipWith readT ks ws.tail)) := .lst (sq_of upd_same) hxs
      have G3 : Gr Hd H (upd D3 p (.lst xs)) H3 := by
        refine ⟨G2.ex.trans g3.ex, G2.dx.trans (g3.dx.trans (Ex.new f3')), s3, fun a o h n => ?_⟩
        have h22 := G2.ex a o h
        rw [upd_ne (ne_of_none h22 f3)]
        exact g3.fr a o h22 (G2.fr a o h n)
      have hT : readTs ks ws.tail = if (List.zipWith readT ks ws.tail).any (fun d => PyData.eqv d .none) = true then .none else .list (List.zipWith readT ks ws.tail) := by unfold readTs; rw [if_pos et]
      rw [hT] at q
      refine go_ret (K := K) s3 (d := if (List.zipWith readT ks ws.tail).any (fun d => PyData.eqv d .none) = true then .none else .tuple (.str (ws.headD "") :: List.zipWith readT ks ws.tail)) (ed_if (c := (List.zipWith readT ks ws.tail).any fun d => PyData.eqv d .none) (et_test (ev_inD (K := K) (d := .none) (ed_non ev_c) (ed_var rfl hlst) (by decide) (okE_shaped (readTs_ok 0 ks ws.tail) (by decide)))) (fun e2 => by rw [if_pos e2]; exact ed_non ev_c) (fun e2 => ?_)) fun v H4 D4 g4 hv => ?_
      · rw [if_neg (by rw [e2]; decide)]
        have e1 : (.str (ws.headD "") :: List.zipWith readT ks ws.tail) = (ws.map PyData.str).take 1 ++ List.zipWith readT ks ws.tail := by
          cases ws with
          | nil => exact absurd rfl hne
          | cons a l => rfl
        rw [e1]
        exact ed_tupleL (ed_new (en_cat (em_new (en_upto (j := 1) (ed_var rfl h2') ev_c)) (em_ref (ev_var rfl) upd_same hxs) (by simp; omega)))
      · refine q v H4 D4 (G3.trans g4) ?_
        cases hb : (List.zipWith readT ks ws.tail).any fun d => PyData.eqv d .none with
        | true => rw [hb] at hv; exact hv
        | false => rw [hb] at hv; exact hv
def toldD (z : Str) : PyData := match readDeed z with
  | none => .int 0
  | some (w0, es) => .tuple (.str w0 :: es)
def RTold (ds : List PyData) (d : PyData) : Prop := ∃ z : Str, ds = [.str z] ∧ z.length ≤ 20000 ∧ d = toldD z
theorem ok_law_told_deed (T : Tx w K mg) : FnOk P w K mg base CX0 6 T.a_law_told_deed T.d_law_told_deed ["_law_text"] (spF K RTold) := by
  refine T.F_law_told_deed.ok sc_law_told_deed (fun vs H Q E h => ?_) (fun cdv A outer s H vs Q E hr h => ?_)
  · obtain ⟨Hd, ds, d, sx, hds, ⟨z, rfl, _⟩, q⟩ := h
    rw [dpa_len hds]
    rfl
  · obtain ⟨Hd, ds, d, sx, hds, ⟨z, rfl, hz, rfl⟩, q⟩ := h
    cases hds with
    | @cons v1 _ _ _ d1 h2 =>
    cases h2
    cases d1
    refine ⟨_, (pss_cons (ps_set (i := 1) sc_law_told_deed.nd rfl (.inl rfl) pe_non)
      (pss_cons (ps_tryYes (i := 2) (c := .ref T.a_BadText) rfl rfl sc_law_told_deed.nd rfl rfl ⟨rfl, by decide, .inl T.x_BadText.g⟩ (fun W pn xe tk _ => (pss_cons (ps_set (i := 1) sc_law_told_deed.nd rfl (.inl rfl) (pe_callS (E := WE W) (okL_read_deed (P := P) (w := w) T) (hr.mono (by omega)) (by rfl) T.g_read_deed T.F_read_deed.kp T.b_read_deed (fun σ => L2.passAt tk σ) (pa_cons (pv 0) pa_nil)))
      pss_nil)) (fun a oe cls d pn hz hf => (pss_cons (ps_set (i := 1) sc_law_told_deed.nd rfl (.inl rfl) (pe_xf T.f_BadText T.no_BadText hz hf (pv 2)))
      pss_nil)))
      (pss_cons (ps_ret (pv 1))
      pss_nil))), Go.go ?_⟩
    refine go_asg (v := .non) ev_c ?_
    intro H1 e1
    refine ⟨.str z, rfl, ?_⟩
    refine ⟨Hd, z, rfl, sx.trans e1, hz, ?_⟩
    unfold toldD at q
    cases hF : readDeed z with
    | none =>
      rw [hF] at q
      intro H3 dx e3 nd
      refine ⟨T.mm_BadText, fun a ha => ?_⟩
      refine ⟨.ref a, rfl, rfl, rfl, dx, _, .int 0, rfl, upd_same, rfl, ?_⟩
      refine ⟨_, rfl, ?_⟩
      exact q _ _ Hd (Gr.ext sx ((e1.trans e3).trans (Ex.new nd))) (.int _)
    | some r =>
      obtain ⟨w0, es⟩ := r
      rw [hF] at q
      intro v H3 Hn g hv
      refine ⟨_, rfl, ?_⟩
      exact q v H3 Hn (g.pre e1) hv

theorem cut_upto (z : Str) (k : Nat) : (cutS z none (some (k : Int))).length ≤ k := by
  have e : (cutS z none (some (k : Int))).length = ((z.cps.toList.drop (HT.sIx z.length 0 none)).take (HT.sIx z.length z.length (some (k : Int)) - HT.sIx z.length 0 none)).length := by simp [cutS, Str.length]
  rw [e, HT.sIx_none, HT.sIx_nat, List.length_take]
  omega
theorem cut_from (z : Str) (k : Nat) : (cutS z (some (k : Int)) none).length ≤ z.length - k := by
  have e : (cutS z (some (k : Int)) none).length = ((z.cps.toList.drop (HT.sIx z.length 0 (some (k : Int)))).take (HT.sIx z.length z.length none - HT.sIx z.length 0 (some (k : Int)))).length := by simp [cutS, Str.length]
  rw [e, HT.sIx_none, HT.sIx_nat, List.length_take]
  omega
def PreSp (ds : List PyData) : Prop := ∃ z : Str, ds = [.str z] ∧ z.length ≤ 20000
def RSp (ds : List PyData) (d : PyData) : Prop := ∃ z y : Str, ds = [.str z] ∧ d = .str y ∧ y.length ≤ z.length + 20
abbrev spSigns : Str := " 0159abez#.-~A/"
theorem spSigns_at : ∀ k : Fin 15, (atI spSigns.cps.toList (k.val : Int)).isSome = true := by decide +kernel
theorem sp_sign {i : Int} (h : 0 ≤ i ∧ i < 15) : ∃ c, atI spSigns.cps.toList i = some c := by
  have := spSigns_at ⟨i.toNat, by omega⟩
  have e : ((i.toNat : Nat) : Int) = i := by omega
  simp only [e] at this
  exact Option.isSome_iff_exists.mp this
theorem blank_tl : TL.tl " " = [32] := by decide +kernel
def oddW : List Str := ["", "0", "00", "land", "sea", "999999", "1000000", "-1", "a", "abcdefghi", "begin", "drop"]
theorem oddW_len : ∀ y ∈ oddW, y.length ≤ 9 := by decide +kernel
theorem sum_take (l : List Str) (k : Nat) : ((l.take k).map (·.length)).sum ≤ (l.map (·.length)).sum := by
  have e : (l.map (·.length)).sum = ((l.take k).map (·.length)).sum + ((l.drop k).map (·.length)).sum := by
    rw [← List.sum_append, ← List.map_append, List.take_append_drop]
  omega
theorem sum_split2 (l : List Str) (k j : Nat) (h : k ≤ j) : ((l.take k).map (·.length)).sum + ((l.drop j).map (·.length)).sum ≤ (l.map (·.length)).sum ∧ (l.take k).length + (l.drop j).length ≤ l.length := by
  have e : (l.map (·.length)).sum = ((l.take j).map (·.length)).sum + ((l.drop j).map (·.length)).sum := by
    rw [← List.sum_append, ← List.map_append, List.take_append_drop]
  have e2 : (l.take k) = (l.take j).take k := by rw [List.take_take, Nat.min_eq_left h]
  have e3 := sum_take (l.take j) k
  rw [← e2] at e3
  refine ⟨by omega, ?_⟩
  rw [List.length_take, List.length_drop]
  omega
theorem spoilt_len {W : List Str} {y : Str} {spot j : Nat} (hy : y ∈ oddW) (hj : spot ≤ j) : ((W.take spot ++ [y] ++ W.drop j).map (·.length)).sum + (W.take spot ++ [y] ++ W.drop j).length ≤ (W.map (·.length)).sum + W.length + 10 := by
  have h1 := sum_split2 W spot j hj
  have h2 := oddW_len y hy
  simp only [List.map_append, List.sum_append, List.length_append, List.map_cons, List.map_nil, List.sum_cons, List.sum_nil, List.length_singleton]
  omega
theorem ok_law_spoilt (T : Tx w K mg) : FnOk P w K mg base CX0 3 T.a_law_spoilt T.d_law_spoilt ["_law_box_here", "_law_text"] (spB K PreSp RSp) := by
  refine T.F_law_spoilt.ok sc_law_spoilt (fun vs H Q E h => ?_) (fun cdv A outer s H vs Q E hr h => ?_)
  · obtain ⟨b, ws, Hd, ds, rfl, hb, sx, B, hds, ⟨z, rfl, _⟩, q⟩ := h
    rw [List.length_cons, dpa_len hds]
    rfl
  · obtain ⟨b, ws, Hd, ds, rfl, hb, sx, B, hds, ⟨z, rfl, hz⟩, q⟩ := h
    cases hds with
    | @cons v1 _ _ _ d1 h2 =>
    cases h2
    cases d1
    have fin : ∀ (y : Str) (H' Hn : Hp), GrB b Hd H Hn H' → y.length ≤ z.length + 20 → Q (.str y) H' := fun y H' Hn g h => q _ _ _ (.str y) g (.str y) ⟨z, y, rfl, rfl, h⟩
    refine ⟨_, (pss_cons (ps_set (i := 2) sc_law_spoilt.nd rfl (.inl rfl) (pe_call (ok_law_take (P := P) (w := w) T) (hr.mono (by omega)) (by rfl) T.g_law_take T.F_law_take.kp T.b_law_take .nil pass0 (pa_cons (pv 0) (pa_cons (pe_op op_add (pe_callB (r := rLenX) call_lenX (by rfl) T.n_len PySem.boot_len (pa_cons (pv 1) pa_nil)) pe_int) pa_nil))))
      (pss_cons (ps_set (i := 3) sc_law_spoilt.nd rfl (.inl rfl) (pe_ix (r := rIxS) ix_str pe_str (pe_call (ok_law_take (P := P) (w := w) T) (hr.mono (by omega)) (by rfl) T.g_law_take T.F_law_take.kp T.b_law_take .nil pass0 (pa_cons (pv 0) (pa_cons pe_int pa_nil))) (fun _ _ => rfl)))
      (pss_cons (ps_set (i := 4) sc_law_spoilt.nd rfl (.inl rfl) (pe_call (ok_law_take (P := P) (w := w) T) (hr.mono (by omega)) (by rfl) T.g_law_take T.F_law_take.kp T.b_law_take .nil pass0 (pa_cons (pv 0) (pa_cons pe_int pa_nil))))
      (pss_cons (ps_if (pt_cmpR op_eq (pv 4) pe_int (nomark _)) (pss_cons (ps_ret (pe_op (r := rAddS) op_addS (pe_op (r := rAddS) op_addS (pe_slice (r := rSlS) sl_str (pv 1) po_none (po_some (pv 2))) (pv 3)) (pe_slice (r := rSlS) sl_str (pv 1) (po_some (pv 2)) po_none)))
      pss_nil) pss_nil)
      (pss_cons (ps_if (pt_cmpR op_eq (pv 4) pe_int (nomark _)) (pss_cons (ps_ret (pe_op (r := rAddS) op_addS (pe_slice (r := rSlS) sl_str (pv 1) po_none (po_some (pv 2))) (pe_slice (r := rSlS) sl_str (pv 1) (po_some (pe_op op_add (pv 2) pe_int)) po_none)))
      pss_nil) pss_nil)
      (pss_cons (ps_if (pt_cmpR op_eq (pv 4) pe_int (nomark _)) (pss_cons (ps_ret (pe_op (r := rAddS) op_addS (pe_op (r := rAddS) op_addS (pe_slice (r := rSlS) sl_str (pv 1) po_none (po_some (pv 2))) (pv 3)) (pe_slice (r := rSlS) sl_str (pv 1) (po_some (pe_op op_add (pv 2) pe_int)) po_none)))
      pss_nil) pss_nil)
      (pss_cons (ps_if (pt_cmpR op_eq (pv 4) pe_int (nomark _)) (pss_cons (ps_ret (pe_op (r := rAddS) op_addS (pe_op (r := rAddS) op_addS (pe_slice (r := rSlS) sl_str (pv 1) po_none (po_some (pv 2))) pe_str) (pe_slice (r := rSlS) sl_str (pv 1) (po_some (pv 2)) po_none)))
      pss_nil) pss_nil)
      (pss_cons (ps_set (i := 5) sc_law_spoilt.nd rfl (.inl rfl) (pe_spl (pv 1) pe_str))
      (pss_cons (ps_set (i := 6) sc_law_spoilt.nd rfl (.inl rfl) (pe_call (ok_law_take (P := P) (w := w) T) (hr.mono (by omega)) (by rfl) T.g_law_take T.F_law_take.kp T.b_law_take .nil pass0 (pa_cons (pv 0) (pa_cons (pe_callB (r := rLenS K) call_lenQ (by rfl) T.n_len PySem.boot_len (pa_cons (pv 5) pa_nil)) pa_nil))))
      (pss_cons (ps_set (i := 7) sc_law_spoilt.nd rfl (.inl rfl) (pe_lst (pa_cons pe_str (pa_cons pe_str (pa_cons pe_str (pa_cons pe_str (pa_cons pe_str (pa_cons pe_str (pa_cons pe_str (pa_cons pe_str (pa_cons pe_str (pa_cons pe_str (pa_cons pe_str (pa_cons pe_str pa_nil))))))))))))))
      (pss_cons (ps_ret (pe_jo pe_str (pe_op op_cat (pe_op op_cat (pe_slice (r := rSlL K) sl_list (pv 5) po_none (po_some (pv 6))) (pe_lst (pa_cons (pe_ix (r := rIxL K) ix_list (pv 7) (pe_call (ok_law_take (P := P) (w := w) T) (hr.mono (by omega)) (by rfl) T.g_law_take T.F_law_take.kp T.b_law_take .nil pass0 (pa_cons (pv 0) (pa_cons pe_int pa_nil))) (fun _ _ => rfl)) pa_nil))) (pe_slice (r := rSlL K) sl_list (pv 5) (po_some (pe_op op_add (pv 6) (pe_call (ok_law_take (P := P) (w := w) T) (hr.mono (by omega)) (by rfl) T.g_law_take T.F_law_take.kp T.b_law_take .nil pass0 (pa_cons (pv 0) (pa_cons pe_int pa_nil))))) po_none))))
      pss_nil))))))))))), Go.go ?_⟩
    refine go_asgB hb sx B (eb_take (ev_var rfl) (ev_op (ev_lenX (ev_var rfl) (by omega)) ev_c rv_I0) (by omega) (by omega)) ?_
    rintro v2 H2 D2 d2 g2 hd2 ⟨k2, rfl, h0, h1⟩
    cases hd2
    obtain ⟨k, rfl⟩ : ∃ k : Nat, k2 = (k : Int) := ⟨k2.toNat, by omega⟩
    have b2 := g2.bn hb B
    refine go_asgB b2 g2.sub g2.bx (eb_ixS ev_c (eb_take (ev_var rfl) ev_c (m := 15) (by decide) (by decide)) (by decide +kernel) fun i hi => sp_sign hi) ?_
    rintro v3 H3 D3 d3 g3 hd3 ⟨y, rfl, i3, c3, _, _, rfl⟩
    cases hd3
    have b3 := g3.bn b2 g2.bx
    refine go_asgB b3 g3.sub g3.bx (eb_take (ev_var rfl) ev_c (m := 6) (by decide) (by decide)) ?_
    rintro v4 H4 D4 d4 g4 hd4 ⟨way, rfl, w0, w1⟩
    cases hd4
    have b4 := g4.bn b3 g3.bx
    have G : GrB b Hd H D4 H4 := (g2.trans g3 hb B).trans g4 hb B
    have up := cut_upto z k
    have fr := cut_from z k
    have fr1 := cut_from z (k + 1)
    have s1 : (sg c3).length = 1 := rfl
    have s10 : Str.length "\n" = 1 := by decide +kernel
    have c1 : (((k + 1 : Nat) : Nat) : Int) = (k : Int) + 1 := by omega
    rw [c1] at fr1
    refine go_when (b := decide (way = 0)) (et_is (by walk_at "et") (by simp)) (fun e => ?_) (fun e => ?_)
    · refine go_retV (ev_addS (ev_addS (ev_slS (ev_var rfl) eo_none (eo_some (ev_var rfl)) (by omega)) (ev_var rfl) ?_) (ev_slS (ev_var rfl) (eo_some (ev_var rfl)) eo_none (by omega)) ?_) fun H' e' => fin _ H' D4 (G.post e') ?_
      all_goals (try simp only [Str.length_append]); omega
    refine go_when (b := decide (way = 1)) (et_is (by walk_at "et") (by simp)) (fun e => ?_) (fun e => ?_)
    · refine go_retV (ev_addS (ev_slS (ev_var rfl) eo_none (eo_some (ev_var rfl)) (by omega)) (ev_slS (ev_var rfl) (eo_some (ev_op (ev_var rfl) ev_c rv_I0)) eo_none (by omega)) ?_) fun H' e' => fin _ H' D4 (G.post e') ?_
      all_goals (try simp only [Str.length_append]); omega
    refine go_when (b := decide (way = 2)) (et_is (by walk_at "et") (by simp)) (fun e => ?_) (fun e => ?_)
    · refine go_retV (ev_addS (ev_addS (ev_slS (ev_var rfl) eo_none (eo_some (ev_var rfl)) (by omega)) (ev_var rfl) ?_) (ev_slS (ev_var rfl) (eo_some (ev_op (ev_var rfl) ev_c rv_I0)) eo_none (by omega)) ?_) fun H' e' => fin _ H' D4 (G.post e') ?_
      all_goals (try simp only [Str.length_append]); omega
    refine go_when (b := decide (way = 3)) (et_is (by walk_at "et") (by simp)) (fun e => ?_) (fun e => ?_)
    · refine go_retV (ev_addS (ev_addS (ev_slS (ev_var rfl) eo_none (eo_some (ev_var rfl)) (by omega)) ev_c ?_) (ev_slS (ev_var rfl) (eo_some (ev_var rfl)) eo_none (by omega)) ?_) fun H' e' => fin _ H' D4 (G.post e') ?_
      all_goals (try simp only [Str.length_append]); omega
    have sl := split_len z blank_tl (by decide +kernel)
    generalize hW : Txt.split z " " = W at sl
    have hne : W ≠ [] := fun e => by rw [e] at sl; simp at sl
    have hW0 : 0 < W.length := List.length_pos_iff.mpr hne
    refine go_asgD (K := K) (d := .list (W.map .str)) g4.sub (ed_new (by rw [← hW]; exact en_split (ev_var rfl) ev_c (by decide +kernel) (by omega))) fun v5 H5 D5 g5 h5 => ?_
    have G5 : GrB b Hd H D5 H5 := G.trans (GrB.of g5 g4.bx) hb B
    have b5 := G5.bn hb B
    refine go_asgB b5 G5.sub G5.bx (eb_take (ev_var rfl) (ev_lenL (K := K) (ed_var rfl h5)) (by rw [List.length_map]; omega) (by rw [List.length_map]; omega)) ?_
    rintro v6 H6 D6 d6 g6 hd6 ⟨spot2, rfl, p0, p1⟩
    cases hd6
    rw [List.length_map] at p1
    obtain ⟨spot, rfl⟩ : ∃ k : Nat, spot2 = (k : Int) := ⟨spot2.toNat, by omega⟩
    have G6 : GrB b Hd H D6 H6 := G5.trans g6 hb B
    refine go_asgD (K := K) (d := .list (oddW.map .str)) G6.sub (ed_new (en_lst (eda_cons (ed_str ev_c) (eda_cons (ed_str ev_c) (eda_cons (ed_str ev_c) (eda_cons (ed_str ev_c) (eda_cons (ed_str ev_c) (eda_cons (ed_str ev_c) (eda_cons (ed_str ev_c) (eda_cons (ed_str ev_c) (eda_cons (ed_str ev_c) (eda_cons (ed_str ev_c) (eda_cons (ed_str ev_c) (eda_cons (ed_str ev_c) eda_nil)))))))))))) (by decide))) fun v7 H7 D7 g7 h7 => ?_
    have G7 : GrB b Hd H D7 H7 := G6.trans (GrB.of g7 G6.bx) hb B
    have b7 := G7.bn hb B
    have h57 := dp_mono (g6.dx.trans g7.dx) _ h5
    refine go_retB b7 G7.sub G7.bx (eb_jo (Pq := fun ys => ∃ y j, y ∈ oddW ∧ spot ≤ j ∧ ys = W.take spot ++ [y] ++ W.drop j) ev_c (EvBN.imp (bn_cat (bn_cat (bn_new (en_upto (ed_var rfl h57) (ev_var rfl))) (bn_lst (eba_cons (eb_ixL (Ps := fun ds => ds = oddW.map .str) (EvB.imp (eb_ed (ed_var rfl h7)) fun d e => ⟨_, e, rfl⟩) (eb_take (ev_var rfl) ev_c (m := 12) (by decide) (by decide)) ?_) eba_nil) ?_) ?_) (bn_from (ed_var rfl h57) (eb_opI0 (K := K) (fun _ _ => rfl) (eb_ev (ev_var rfl)) (eb_take (ev_var rfl) ev_c (m := 2) (by decide) (by decide))) ?_) ?_) ?_) ?_) ?_
    · rintro ds i rfl hi
      obtain ⟨j, rfl⟩ : ∃ j : Nat, i = (j : Int) := ⟨i.toNat, by omega⟩
      exact ⟨_, atI_nat (List.getElem?_eq_getElem (by simp [oddW]; omega))⟩
    · rintro ds ⟨d, es, rfl, _, rfl⟩
      simp
    · rintro d1 d2 rfl ⟨d, es, rfl, _, rfl⟩
      rw [List.length_take, List.length_map, List.length_singleton]
      omega
    · rintro i ⟨i1, j, rfl, hj, rfl⟩
      omega
    · rintro d1 d2 ⟨_, _, rfl, rfl, d, es, rfl, _, rfl⟩ ⟨j, _, rfl⟩
      simp only [List.length_append, List.length_take, List.length_drop, List.length_map, List.length_singleton]
      omega
    · rintro ds ⟨_, _, rfl, ⟨_, _, rfl, rfl, d, es, rfl, ⟨_, i, rfl, hi, hd⟩, rfl⟩, j, ⟨i1, j1, rfl, hj, hj2⟩, rfl⟩
      obtain ⟨_, _, hd1, _⟩ := L2.atI_get hd
      obtain ⟨y, hy, rfl⟩ := List.mem_map.mp (List.mem_of_getElem? hd1)
      exact ⟨W.take spot ++ [y] ++ W.drop j, by simp only [List.map_append, List.map_take, List.map_drop, List.map_cons, List.map_nil], y, j, hy, by omega, rfl⟩
    · rintro ys ⟨y, j, hy, hj, rfl⟩
      have e := spoilt_len (W := W) hy hj
      rw [show Str.length " " = 1 by decide +kernel]
      omega
    · rintro v8 H8 D8 d8 g8 hv8 ⟨z8, rfl, ys, ⟨y, j, hy, hj, rfl⟩, rfl⟩
      cases hv8
      have e := spoilt_len (W := W) hy hj
      have e2 := join_len " " (W.take spot ++ [y] ++ W.drop j)
      rw [show Str.length " " = 1 by decide +kernel] at e2
      exact fin _ H8 D8 (G7.trans g8 hb B) (by omega)

theorem eb_callD {σ : L2.St} {Hd : Hp} {E : XK} {b : Bid} {tr : TA} {R : List PyData → V → Prop} {Ps : List PyData → Prop} {P' : PyData → Prop} (h : EvBA K b tr σ Hd Ps) (hr : ∀ ds, Ps ds → ∃ v d, R ds v ∧ (∀ H, Dp K H v d) ∧ P' d) : EvB K b (tCall (spD K R) [] E tr) σ Hd P' := fun hb H s B Q q =>
  h hb H s B _ fun vs H2 Hn ds g hds hps => by
    obtain ⟨v, d, hR, hd, hP⟩ := hr ds hps
    exact ⟨ds, v, by rw [List.append_nil]; exact dpa_mono g.sub _ hds, hR, fun H3 e3 => q v H3 Hn d (g.post e3) (hd Hn) hP⟩
theorem okD_told (z : Str) : okD 6 (toldD z) := by
  unfold toldD readDeed
  cases hF : lookF ((Txt.split z " ").headD "") with
  | none => trivial
  | some ks =>
    dsimp only
    cases hT : readTs ks (Txt.split z " ").tail with
    | list es =>
      dsimp only
      have hl : es.length ≤ ks.length ∧ ∀ e ∈ es, okD 5 e := by
        unfold readTs at hT
        split at hT
        · split at hT
          · cases hT
          · cases hT
            refine ⟨by rw [List.length_zipWith]; omega, fun e he => ?_⟩
            obtain ⟨i, hi, rfl⟩ := List.getElem_of_mem he
            rw [List.getElem_zipWith]
            unfold readT
            split
            · split <;> trivial
            · split
              · cases readWhat _ <;> trivial
              · cases readNum _ <;> trivial
        · cases hT
      have hfs := form_short hF
      refine ⟨by rw [List.length_cons]; omega, fun e he => ?_⟩
      rcases List.mem_cons.mp he with rfl | he
      · trivial
      · exact hl.2 e he
    | _ => trivial
theorem due_told (z : Str) : (dueD z = .none ∧ toldD z = .int 0) ∨ (dueD z = toldD z ∧ dueD z ≠ .none) := by
  unfold dueD toldD
  cases readDeed z with
  | none => exact .inl ⟨rfl, rfl⟩
  | some r =>
    obtain ⟨w0, es⟩ := r
    exact .inr ⟨rfl, by simp⟩
theorem ok_law (T : Tx w K mg) : FnOk P w K mg base CX0 9 T.a_law T.d_law ["_law_script"] (sp_law K) := by
  refine T.F_law.ok sc_law (fun vs H Q E h => ?_) (fun cdv A outer s H vs Q E hr h => ?_)
  · obtain ⟨a, ns, rfl, _⟩ := h
    rfl
  · obtain ⟨a0, ns, rfl, hL, hn, q⟩ := h
    refine ⟨_, (pss_cons (ps_set (i := 1) sc_law.nd rfl (.inl rfl) (pe_call (ok_law_box (P := P) (w := w) T) (hr.mono (by omega)) (by rfl) T.g_law_box T.F_law_box.kp T.b_law_box .nil pass0 (pa_cons (pv 0) pa_nil)))
      (pss_cons (ps_for PassesOwn.never rfl (pi_range1 (by rfl) T.n_range (pa_cons pe_int pa_nil)) (pg_name (i := 2) sc_law.nd rfl (.inl rfl)) (pss_cons (ps_set (i := 3) sc_law.nd rfl (.inl rfl) (pe_call (ok_law_deed_text (P := P) (w := w) T) (hr.mono (by omega)) (by rfl) T.g_law_deed_text T.F_law_deed_text.kp T.b_law_deed_text .nil pass0 (pa_cons (pe_call (ok_law_any_deed (P := P) (w := w) T) (hr.mono (by omega)) (by rfl) T.g_law_any_deed T.F_law_any_deed.kp T.b_law_any_deed .nil pass0 (pa_cons (pv 1) pa_nil)) pa_nil)))
      (pss_cons (ps_for PassesOwn.never rfl (pi_range1 (by rfl) T.n_range (pa_cons (pe_op op_add pe_int (pe_call (ok_law_take (P := P) (w := w) T) (hr.mono (by omega)) (by rfl) T.g_law_take T.F_law_take.kp T.b_law_take .nil pass0 (pa_cons (pv 1) (pa_cons pe_int pa_nil)))) pa_nil)) (pg_name (i := 4) sc_law.nd rfl (.inl rfl)) (pss_cons (ps_set (i := 3) sc_law.nd rfl (.inl rfl) (pe_call (ok_law_spoilt (P := P) (w := w) T) (hr.mono (by omega)) (by rfl) T.g_law_spoilt T.F_law_spoilt.kp T.b_law_spoilt .nil pass0 (pa_cons (pv 1) (pa_cons (pv 3) pa_nil))))
      pss_nil))
      (pss_cons (ps_set (i := 5) sc_law.nd rfl (.inl rfl) (pe_call (ok_law_deed_in (P := P) (w := w) T) (hr.mono (by omega)) (by rfl) T.g_law_deed_in T.F_law_deed_in.kp T.b_law_deed_in .nil pass0 (pa_cons (pv 3) pa_nil)))
      (pss_cons (ps_if (pt_not (pt_val (pe_call (ok_law_same (P := P) (w := w) T) (hr.mono (by omega)) (by rfl) T.g_law_same T.F_law_same.kp T.b_law_same .nil pass0 (pa_cons (pe_call (ok_law_told_deed (P := P) (w := w) T) (hr.mono (by omega)) (by rfl) T.g_law_told_deed T.F_law_told_deed.kp T.b_law_told_deed .nil pass0 (pa_cons (pv 3) pa_nil)) (pa_cons (pe_ifExp (pt_cmpR op_isN (pv 5) pe_non (nomark _)) pe_int (pv 5)) pa_nil))))) (pss_cons (ps_ret pe_bl)
      pss_nil) pss_nil)
      pss_nil)))))
      (pss_cons (ps_ret (pe_call (ok_law_same (P := P) (w := w) T) (hr.mono (by omega)) (by rfl) T.g_law_same T.F_law_same.kp T.b_law_same .nil pass0 (pa_cons (pe_lst (pa_cons (pe_call (ok_law_told_deed (P := P) (w := w) T) (hr.mono (by omega)) (by rfl) T.g_law_told_deed T.F_law_told_deed.kp T.b_law_told_deed .nil pass0 (pa_cons pe_str pa_nil)) (pa_cons (pe_call (ok_law_told_deed (P := P) (w := w) T) (hr.mono (by omega)) (by rfl) T.g_law_told_deed T.F_law_told_deed.kp T.b_law_told_deed .nil pass0 (pa_cons pe_str pa_nil)) pa_nil))) (pa_cons (pe_lst (pa_cons pe_int (pa_cons pe_int pa_nil))) pa_nil))))
      pss_nil))), Go.go ?_⟩
    refine go_box hL hn (ev_var rfl) fun b H1 hb hca e1 B => ?_
    refine go_forN (m := 12) (by walk_at "ea") (by decide) (fun i σ' H' => Ex H H' ∧ Bx H' b ∧ ∃ x2 x3 x4 x5, σ' = [some (.ref a0), some (.ref b.b), x2, x3, x4, x5]) ?_ ?_ ?_
    · intro H' e'
      exact ⟨e1.trans e', B.mono e', _, _, _, _, rfl⟩
    · rintro i σ' H2 hi ⟨s2, B2, x2, x3, x4, x5, rfl⟩
      refine go_asgB (K := K) (P := isS fun z => z.length ≤ 7000) (Hd := H) hb s2 B2 (eb_callD (Ps := fun ds => ∃ w0 es, ds = [.tuple (.str w0 :: es)] ∧ GoodDeed w0 es) (EvBA.imp (eba_cons (P := fun d => ∃ w0 es, d = .tuple (.str w0 :: es) ∧ GoodDeed w0 es) (EvB.imp (eb_call (ev_var rfl) eba_nil fun ds e => e) ?_) eba_nil) ?_) ?_) ?_
      · rintro d ⟨ds, rfl, w0, es, rfl, h⟩
        exact ⟨w0, es, rfl, h⟩
      · rintro ds ⟨d, r, rfl, ⟨w0, es, rfl, h⟩, rfl⟩
        exact ⟨w0, es, rfl, h⟩
      · rintro ds ⟨w0, es, rfl, h⟩
        exact ⟨.str (deedT w0 es), .str (deedT w0 es), ⟨w0, es, rfl, h, rfl⟩, fun H => .str _, _, rfl, deedT_len (gooddeed_ok h)⟩
      rintro v3 H3 D3 d3 g3 hv3 ⟨z, rfl, hz⟩
      cases hv3
      have b3 := g3.bn hb B2
      refine go_forRB (K := K) (Hd := D3) b3 g3.sub g3.bx (p := fun m => 1 ≤ m ∧ m ≤ 2) (eba_one (EvB.imp (eb_opI0 (K := K) (fun _ _ => rfl) (eb_ev ev_c) (eb_take (ev_var rfl) ev_c (m := 2) (by decide) (by decide))) ?_)) (fun m hm => by omega) (fun m Hn j σ' H' => Ex D3 H' ∧ Bx H' b ∧ ∃ (z : Str) (x4 : Option V), z.length ≤ 7000 + 20 * j ∧ σ' = [some (.ref a0), some (.ref b.b), some (.int (i : Int)), some (.str z), x4, x5]) ?_ ?_ ?_
      · rintro d ⟨m, rfl, i, j, rfl, hj, rfl⟩
        exact ⟨_, rfl, by omega, by omega⟩
      · intro H6 D6 m g6 hm
        exact ⟨g6.dx.trans g6.sub, g6.bx, z, _, by omega, rfl⟩
      · rintro m Hn j σ' H6 hm e6 n6 hj ⟨s6, B6, z6, x4', hz6, rfl⟩
        refine go_asgB (K := K) (P := isS fun y => y.length ≤ z6.length + 20) b3 s6 B6 (EvB.imp (eb_call (Ps := fun ds => ds = [.str z6]) (ev_var rfl) ((eba_cons (eb_evS (ev_var rfl)) eba_nil).imp ?_) ?_) ?_) ?_
        · rintro ds ⟨d, es, rfl, ⟨y, rfl, rfl⟩, rfl⟩
          rfl
        · rintro ds rfl
          exact ⟨z6, rfl, by omega⟩
        · rintro d ⟨ds, rfl, z', y, e, rfl, hy⟩
          cases e
          exact ⟨y, rfl, hy⟩
        · rintro v7 H7 D7 d7 g7 hv7 ⟨y, rfl, hy⟩
          cases hv7
          exact go_next fun H8 e8 => ⟨(g7.dx.trans g7.sub).trans e8, g7.bx.mono e8, y, _, by omega, rfl⟩
      · rintro m Hn σ' H6 hm e6 n6 ⟨s6, B6, z6, x4', hz6, rfl⟩
        have hz7 : z6.length ≤ 20000 := by omega
        refine go_asgD (K := K) (d := dueD z6) s6 (ed_call (eda_cons (ed_str (ev_var rfl)) eda_nil) ⟨z6, rfl, hz7, rfl⟩) fun v5 H7 D7 g7 h7 => ?_
        have fin : Ex H H7 := (g3.dx.trans s6).trans g7.ex
        have hnext : ∀ {x4 x5 x6}, Go tNext { nx := fun σ' H' => Ex H H' ∧ Bx H' b ∧ ∃ x2 x3 x4 x5, σ' = [some (.ref a0), some (.ref b.b), x2, x3, x4, x5], rt := Q } [some (.ref a0), some (.ref b.b), some (.int (i : Int)), x4, x5, x6] H7 := go_next fun H8 e8 => ⟨fin.trans e8, (B6.mono g7.ex).mono e8, _, _, _, _, rfl⟩
        rcases due_told z6 with ⟨hd, ht⟩ | ⟨hd, hne⟩
        · rw [hd] at h7
          cases h7
          refine go_whenF (EvT.mono g7.sub (et_is (et_not (et_B (ev_same (K := K) (d := toldD z6) (n := 6) (eda_cons (ed_call (eda_cons (ed_str (ev_var rfl)) eda_nil) ⟨z6, rfl, hz7, rfl⟩) (eda_cons (ed_if (c := true) (et_is (et_test (ev_op (ev_var rfl) ev_c rv_isN)) (decide_eq_true rfl)) (fun _ => by rw [ht]; exact ed_int ev_c) (fun e => absurd e (by decide))) eda_nil)) (okD_told z6)))) rfl)) ?_
          exact go_next fun H8 e8 => ⟨fin.trans e8, (B6.mono g7.ex).mono e8, _, _, _, _, rfl⟩
        · have hv5 : v5 ≠ .non := fun e => by
            rw [e] at h7
            generalize dueD z6 = d at h7 hne
            cases h7
            exact hne rfl
          refine go_whenF (EvT.mono g7.sub (et_is (et_not (et_B (ev_same (K := K) (d := toldD z6) (n := 6) (eda_cons (ed_call (eda_cons (ed_str (ev_var rfl)) eda_nil) ⟨z6, rfl, hz7, rfl⟩) (eda_cons (ed_if (c := false) (et_is (et_test (ev_op (ev_var rfl) ev_c rv_isN)) (decide_eq_false hv5)) (fun e => absurd e (by decide)) (fun _ => by rw [← hd]; exact ed_var rfl h7)) eda_nil)) (okD_told z6)))) rfl)) ?_
          exact go_next fun H8 e8 => ⟨fin.trans e8, (B6.mono g7.ex).mono e8, _, _, _, _, rfl⟩
    · rintro σ' H3 ⟨s3, B3, x2, x3, x4, x5, rfl⟩
      have h1 : toldD "" = .int 0 := by
        have : readDeed "" = none := by
          unfold readDeed
          rw [show Txt.split "" " " = [("" : Str)] by decide +kernel]
          rfl
        unfold toldD
        rw [this]
      have h2 : toldD "undo" = .int 0 := by
        have : readDeed "undo" = none := by
          unfold readDeed
          rw [show Txt.split "undo" " " = [("undo" : Str)] by decide +kernel]
          rfl
        unfold toldD
        rw [this]
      refine go_retE (v := .bl true) (ev_same (K := K) (Hd := H3) (d := .list [.int 0, .int 0]) (n := 6) (eda_cons (ed_new (en_lst (eda_cons (ed_call (eda_cons (ed_str ev_c) eda_nil) ⟨"", rfl, by decide, h1.symm⟩) (eda_cons (ed_call (eda_cons (ed_str ev_c) eda_nil) ⟨"undo", rfl, by decide +kernel, h2.symm⟩) eda_nil)) (by simp))) (eda_cons (ed_new (en_lst (eda_cons (ed_int ev_c) (eda_cons (ed_int ev_c) eda_nil)) (by simp))) eda_nil)) (by simp [okD])) rfl fun H' _ => q H'

end
theorem all_mk {l : PySem.W.OpenLaw} {w : World} {K : PySem.W.Frag} {h : Heap} {mg : Str → Option Value} {fa : Addr} (X : K.In h) (G : h.Ns mainGlobals mg) (hfa : mg "law" = some (.ref fa))
    {f0 : Addr} {od0 an0 : Option Addr} {sl0 : Array (Option Value)} {oc0 kV0 dc0 pm0 cd0 ct0 : Value}
    {f1 : Addr} {od1 an1 : Option Addr} {sl1 : Array (Option Value)} {oc1 kV1 dc1 pm1 cd1 ct1 : Value}
    {f2 : Addr} {od2 an2 : Option Addr} {sl2 : Array (Option Value)} {oc2 kV2 dc2 pm2 cd2 ct2 : Value}
    {f3 : Addr} {od3 an3 : Option Addr} {sl3 : Array (Option Value)} {oc3 kV3 dc3 pm3 cd3 ct3 : Value}
    {f4 : Addr} {od4 an4 : Option Addr} {sl4 : Array (Option Value)} {oc4 kV4 dc4 pm4 cd4 ct4 : Value}
    {f5 : Addr} {od5 an5 : Option Addr} {sl5 : Array (Option Value)} {oc5 kV5 dc5 pm5 cd5 ct5 : Value}
    {f6 : Addr} {od6 an6 : Option Addr} {sl6 : Array (Option Value)} {oc6 kV6 dc6 pm6 cd6 ct6 : Value}
    {f7 : Addr} {od7 an7 : Option Addr} {sl7 : Array (Option Value)} {oc7 kV7 dc7 pm7 cd7 ct7 : Value}
    {f8 : Addr} {od8 an8 : Option Addr} {sl8 : Array (Option Value)} {oc8 kV8 dc8 pm8 cd8 ct8 : Value}
    {f9 : Addr} {od9 an9 : Option Addr} {sl9 : Array (Option Value)} {oc9 kV9 dc9 pm9 cd9 ct9 : Value}
    {f10 : Addr} {od10 an10 : Option Addr} {sl10 : Array (Option Value)} {oc10 kV10 dc10 pm10 cd10 ct10 : Value}
    {f11 : Addr} {od11 an11 : Option Addr} {sl11 : Array (Option Value)} {oc11 kV11 dc11 pm11 cd11 ct11 : Value}
    {f12 : Addr} {od12 an12 : Option Addr} {sl12 : Array (Option Value)} {oc12 kV12 dc12 pm12 cd12 ct12 : Value}
    {f13 : Addr} {od13 an13 : Option Addr} {sl13 : Array (Option Value)} {oc13 kV13 dc13 pm13 cd13 ct13 : Value}
    {f14 : Addr} {od14 an14 : Option Addr} {sl14 : Array (Option Value)} {oc14 kV14 dc14 pm14 cd14 ct14 : Value}
    {f15 : Addr} {od15 an15 : Option Addr} {sl15 : Array (Option Value)} {oc15 kV15 dc15 pm15 cd15 ct15 : Value}
    {f16 : Addr} {od16 an16 : Option Addr} {sl16 : Array (Option Value)} {oc16 kV16 dc16 pm16 cd16 ct16 : Value}
    {f17 : Addr} {od17 an17 : Option Addr} {sl17 : Array (Option Value)} {oc17 kV17 dc17 pm17 cd17 ct17 : Value}
    {f18 : Addr} {od18 an18 : Option Addr} {sl18 : Array (Option Value)} {oc18 kV18 dc18 pm18 cd18 ct18 : Value}
    {f19 : Addr} {od19 an19 : Option Addr} {sl19 : Array (Option Value)} {oc19 kV19 dc19 pm19 cd19 ct19 : Value}
    {f20 : Addr} {od20 an20 : Option Addr} {sl20 : Array (Option Value)} {oc20 kV20 dc20 pm20 cd20 ct20 : Value}
    {f21 : Addr} {od21 an21 : Option Addr} {sl21 : Array (Option Value)} {oc21 kV21 dc21 pm21 cd21 ct21 : Value}
    {t0 : Tok}
    {t1 : Tok}
    {t2 : Tok}
    {t3 : Tok}
    {t4 : Tok}
    {t5 : Tok}
    {OD0 : Addr} {nD0 : Nat} {hD0_0 : Int} {kD0_0 : Tok} {hD0_1 : Int} {kD0_1 : Tok} {hD0_2 : Int} {kD0_2 : Tok} {hD0_3 : Int} {kD0_3 : Tok} {hD0_4 : Int} {kD0_4 : Tok} {hD0_5 : Int} {kD0_5 : Tok}
    {tD0_0 : Addr} {pD0_0 : Option Addr} {nD0_0 : Nat} {sD0_0 : Array (Option Value)} {vD0_0_0 : Tok} {vD0_0_1 : Tok} {vD0_0_2 : Tok} {vD0_0_3 : Tok}
    {tD0_1 : Addr} {pD0_1 : Option Addr} {nD0_1 : Nat} {sD0_1 : Array (Option Value)} {vD0_1_0 : Tok} {vD0_1_1 : Tok} {vD0_1_2 : Tok} {vD0_1_3 : Tok} {vD0_1_4 : Tok}
    {tD0_2 : Addr} {pD0_2 : Option Addr} {nD0_2 : Nat} {sD0_2 : Array (Option Value)} {vD0_2_0 : Tok} {vD0_2_1 : Tok} {vD0_2_2 : Tok}
    {tD0_3 : Addr} {pD0_3 : Option Addr} {nD0_3 : Nat} {sD0_3 : Array (Option Value)} {vD0_3_0 : Tok} {vD0_3_1 : Tok}
    {tD0_4 : Addr} {pD0_4 : Option Addr} {nD0_4 : Nat} {sD0_4 : Array (Option Value)} {vD0_4_0 : Tok}
    {tD0_5 : Addr} {pD0_5 : Option Addr} {nD0_5 : Nat} {sD0_5 : Array (Option Value)} {vD0_5_0 : Tok} {vD0_5_1 : Tok} {vD0_5_2 : Tok} {vD0_5_3 : Tok} {vD0_5_4 : Tok}
    {C0 : Addr}
    {C1 : Addr}
    {If1 : Addr} {Iod1 Ian1 : Option Addr} {Isl1 : Array (Option Value)} {Ioc1 IkV1 Idc1 Ipm1 Icd1 Ict1 : Value}
    {Jn1 Jq1 : Str} {JN1 : Addr} {Jb1 JB1 : List Value} {Js1 : List Str} {Ju1 : List Value} {Ja1 : Bool} {Jc1 : Option Bool} {Jd1 : Option Addr} {J01 J11 J21 J31 J51 : Option Value}
    (a0 : PySem.W.nsIn K mainGlobals "is_name" = some (some (.ref f0))) (l0 : K.lookup f0 = some ⟨oc0, od0, .func (PySem.W.fnOf "is_name" "is_name" (defArgs s_is_name) (defBody s_is_name) (defScope s_is_name) .none kV0 dc0 pm0 an0 cd0 ct0), sl0⟩) (c0 : PySem.W.codeIn K cd0 "is_name" = true) (k0 : PySem.W.keepIn K (.ref f0) = true)
    (a1 : PySem.W.nsIn K mainGlobals "read_number" = some (some (.ref f1))) (l1 : K.lookup f1 = some ⟨oc1, od1, .func (PySem.W.fnOf "read_number" "read_number" (defArgs s_read_number) (defBody s_read_number) (defScope s_read_number) .none kV1 dc1 pm1 an1 cd1 ct1), sl1⟩) (c1 : PySem.W.codeIn K cd1 "read_number" = true) (k1 : PySem.W.keepIn K (.ref f1) = true)
    (a2 : PySem.W.nsIn K mainGlobals "read_what" = some (some (.ref f2))) (l2 : K.lookup f2 = some ⟨oc2, od2, .func (PySem.W.fnOf "read_what" "read_what" (defArgs s_read_what) (defBody s_read_what) (defScope s_read_what) .none kV2 dc2 pm2 an2 cd2 ct2), sl2⟩) (c2 : PySem.W.codeIn K cd2 "read_what" = true) (k2 : PySem.W.keepIn K (.ref f2) = true)
    (a3 : PySem.W.nsIn K mainGlobals "read_thing" = some (some (.ref f3))) (l3 : K.lookup f3 = some ⟨oc3, od3, .func (PySem.W.fnOf "read_thing" "read_thing" (defArgs s_read_thing) (defBody s_read_thing) (defScope s_read_thing) .none kV3 dc3 pm3 an3 cd3 ct3), sl3⟩) (c3 : PySem.W.codeIn K cd3 "read_thing" = true) (k3 : PySem.W.keepIn K (.ref f3) = true)
    (a4 : PySem.W.nsIn K mainGlobals "read_things" = some (some (.ref f4))) (l4 : K.lookup f4 = some ⟨oc4, od4, .func (PySem.W.fnOf "read_things" "read_things" (defArgs s_read_things) (defBody s_read_things) (defScope s_read_things) .none kV4 dc4 pm4 an4 cd4 ct4), sl4⟩) (c4 : PySem.W.codeIn K cd4 "read_things" = true) (k4 : PySem.W.keepIn K (.ref f4) = true)
    (a5 : PySem.W.nsIn K mainGlobals "read_deed" = some (some (.ref f5))) (l5 : K.lookup f5 = some ⟨oc5, od5, .func (PySem.W.fnOf "read_deed" "read_deed" (defArgs s_read_deed) (defBody s_read_deed) (defScope s_read_deed) .none kV5 dc5 pm5 an5 cd5 ct5), sl5⟩) (c5 : PySem.W.codeIn K cd5 "read_deed" = true) (k5 : PySem.W.keepIn K (.ref f5) = true)
    (a6 : PySem.W.nsIn K mainGlobals "_law_box" = some (some (.ref f6))) (l6 : K.lookup f6 = some ⟨oc6, od6, .func (PySem.W.fnOf "_law_box" "_law_box" (defArgs s_law_box) (defBody s_law_box) (defScope s_law_box) .none kV6 dc6 pm6 an6 cd6 ct6), sl6⟩) (c6 : PySem.W.codeIn K cd6 "_law_box" = true) (k6 : PySem.W.keepIn K (.ref f6) = true)
    (a7 : PySem.W.nsIn K mainGlobals "_law_mixed" = some (some (.ref f7))) (l7 : K.lookup f7 = some ⟨oc7, od7, .func (PySem.W.fnOf "_law_mixed" "_law_mixed" (defArgs s_law_mixed) (defBody s_law_mixed) (defScope s_law_mixed) .none kV7 dc7 pm7 an7 cd7 ct7), sl7⟩) (c7 : PySem.W.codeIn K cd7 "_law_mixed" = true) (k7 : PySem.W.keepIn K (.ref f7) = true)
    (a8 : PySem.W.nsIn K mainGlobals "_law_take" = some (some (.ref f8))) (l8 : K.lookup f8 = some ⟨oc8, od8, .func (PySem.W.fnOf "_law_take" "_law_take" (defArgs s_law_take) (defBody s_law_take) (defScope s_law_take) .none kV8 dc8 pm8 an8 cd8 ct8), sl8⟩) (c8 : PySem.W.codeIn K cd8 "_law_take" = true) (k8 : PySem.W.keepIn K (.ref f8) = true)
    (a9 : PySem.W.nsIn K mainGlobals "_law_any" = some (some (.ref f9))) (l9 : K.lookup f9 = some ⟨oc9, od9, .func (PySem.W.fnOf "_law_any" "_law_any" (defArgs s_law_any) (defBody s_law_any) (defScope s_law_any) .none kV9 dc9 pm9 an9 cd9 ct9), sl9⟩) (c9 : PySem.W.codeIn K cd9 "_law_any" = true) (k9 : PySem.W.keepIn K (.ref f9) = true)
    (a10 : PySem.W.nsIn K mainGlobals "_law_whole" = some (some (.ref f10))) (l10 : K.lookup f10 = some ⟨oc10, od10, .func (PySem.W.fnOf "_law_whole" "_law_whole" (defArgs s_law_whole) (defBody s_law_whole) (defScope s_law_whole) .none kV10 dc10 pm10 an10 cd10 ct10), sl10⟩) (c10 : PySem.W.codeIn K cd10 "_law_whole" = true) (k10 : PySem.W.keepIn K (.ref f10) = true)
    (a11 : PySem.W.nsIn K mainGlobals "_law_same" = some (some (.ref f11))) (l11 : K.lookup f11 = some ⟨oc11, od11, .func (PySem.W.fnOf "_law_same" "_law_same" (defArgs s_law_same) (defBody s_law_same) (defScope s_law_same) .none kV11 dc11 pm11 an11 cd11 ct11), sl11⟩) (c11 : PySem.W.codeIn K cd11 "_law_same" = true) (k11 : PySem.W.keepIn K (.ref f11) = true)
    (a12 : PySem.W.nsIn K mainGlobals "_law_name_good" = some (some (.ref f12))) (l12 : K.lookup f12 = some ⟨oc12, od12, .func (PySem.W.fnOf "_law_name_good" "_law_name_good" (defArgs s_law_name_good) (defBody s_law_name_good) (defScope s_law_name_good) .none kV12 dc12 pm12 an12 cd12 ct12), sl12⟩) (c12 : PySem.W.codeIn K cd12 "_law_name_good" = true) (k12 : PySem.W.keepIn K (.ref f12) = true)
    (a13 : PySem.W.nsIn K mainGlobals "_law_spoilt" = some (some (.ref f13))) (l13 : K.lookup f13 = some ⟨oc13, od13, .func (PySem.W.fnOf "_law_spoilt" "_law_spoilt" (defArgs s_law_spoilt) (defBody s_law_spoilt) (defScope s_law_spoilt) .none kV13 dc13 pm13 an13 cd13 ct13), sl13⟩) (c13 : PySem.W.codeIn K cd13 "_law_spoilt" = true) (k13 : PySem.W.keepIn K (.ref f13) = true)
    (a14 : PySem.W.nsIn K mainGlobals "_law_any_name" = some (some (.ref f14))) (l14 : K.lookup f14 = some ⟨oc14, od14, .func (PySem.W.fnOf "_law_any_name" "_law_any_name" (defArgs s_law_any_name) (defBody s_law_any_name) (defScope s_law_any_name) .none kV14 dc14 pm14 an14 cd14 ct14), sl14⟩) (c14 : PySem.W.codeIn K cd14 "_law_any_name" = true) (k14 : PySem.W.keepIn K (.ref f14) = true)
    (a15 : PySem.W.nsIn K mainGlobals "_law_figures" = some (some (.ref f15))) (l15 : K.lookup f15 = some ⟨oc15, od15, .func (PySem.W.fnOf "_law_figures" "_law_figures" (defArgs s_law_figures) (defBody s_law_figures) (defScope s_law_figures) .none kV15 dc15 pm15 an15 cd15 ct15), sl15⟩) (c15 : PySem.W.codeIn K cd15 "_law_figures" = true) (k15 : PySem.W.keepIn K (.ref f15) = true)
    (a16 : PySem.W.nsIn K mainGlobals "_law_any_deed" = some (some (.ref f16))) (l16 : K.lookup f16 = some ⟨oc16, od16, .func (PySem.W.fnOf "_law_any_deed" "_law_any_deed" (defArgs s_law_any_deed) (defBody s_law_any_deed) (defScope s_law_any_deed) .none kV16 dc16 pm16 an16 cd16 ct16), sl16⟩) (c16 : PySem.W.codeIn K cd16 "_law_any_deed" = true) (k16 : PySem.W.keepIn K (.ref f16) = true)
    (a17 : PySem.W.nsIn K mainGlobals "_law_deed_text" = some (some (.ref f17))) (l17 : K.lookup f17 = some ⟨oc17, od17, .func (PySem.W.fnOf "_law_deed_text" "_law_deed_text" (defArgs s_law_deed_text) (defBody s_law_deed_text) (defScope s_law_deed_text) .none kV17 dc17 pm17 an17 cd17 ct17), sl17⟩) (c17 : PySem.W.codeIn K cd17 "_law_deed_text" = true) (k17 : PySem.W.keepIn K (.ref f17) = true)
    (a18 : PySem.W.nsIn K mainGlobals "_law_thing_in" = some (some (.ref f18))) (l18 : K.lookup f18 = some ⟨oc18, od18, .func (PySem.W.fnOf "_law_thing_in" "_law_thing_in" (defArgs s_law_thing_in) (defBody s_law_thing_in) (defScope s_law_thing_in) .none kV18 dc18 pm18 an18 cd18 ct18), sl18⟩) (c18 : PySem.W.codeIn K cd18 "_law_thing_in" = true) (k18 : PySem.W.keepIn K (.ref f18) = true)
    (a19 : PySem.W.nsIn K mainGlobals "_law_deed_in" = some (some (.ref f19))) (l19 : K.lookup f19 = some ⟨oc19, od19, .func (PySem.W.fnOf "_law_deed_in" "_law_deed_in" (defArgs s_law_deed_in) (defBody s_law_deed_in) (defScope s_law_deed_in) .none kV19 dc19 pm19 an19 cd19 ct19), sl19⟩) (c19 : PySem.W.codeIn K cd19 "_law_deed_in" = true) (k19 : PySem.W.keepIn K (.ref f19) = true)
    (a20 : PySem.W.nsIn K mainGlobals "_law_told_deed" = some (some (.ref f20))) (l20 : K.lookup f20 = some ⟨oc20, od20, .func (PySem.W.fnOf "_law_told_deed" "_law_told_deed" (defArgs s_law_told_deed) (defBody s_law_told_deed) (defScope s_law_told_deed) .none kV20 dc20 pm20 an20 cd20 ct20), sl20⟩) (c20 : PySem.W.codeIn K cd20 "_law_told_deed" = true) (k20 : PySem.W.keepIn K (.ref f20) = true)
    (a21 : PySem.W.nsIn K mainGlobals "law" = some (some (.ref f21))) (l21 : K.lookup f21 = some ⟨oc21, od21, .func (PySem.W.fnOf "law" "law" (defArgs s_law) (defBody s_law) (defScope s_law) .none kV21 dc21 pm21 an21 cd21 ct21), sl21⟩) (c21 : PySem.W.codeIn K cd21 "law" = true) (k21 : PySem.W.keepIn K (.ref f21) = true)
    (q0 : PySem.W.nsIn K mainGlobals "LAND" = some (some (.int (-1) t0)))
    (q1 : PySem.W.nsIn K mainGlobals "UNTOLD" = some (some (.int (-2) t1)))
    (q2 : PySem.W.nsIn K mainGlobals "LETTERS" = some (some (.str "abcdefghijklmnopqrstuvwxyz" t2)))
    (q3 : PySem.W.nsIn K mainGlobals "FIGURES" = some (some (.str "0123456789" t3)))
    (q4 : PySem.W.nsIn K mainGlobals "MOST_LETTERS" = some (some (.int (8) t4)))
    (q5 : PySem.W.nsIn K mainGlobals "MOST_FIGURES" = some (some (.int (6) t5)))
    (qD0 : PySem.W.nsIn K mainGlobals "DEEDS" = some (some (.ref OD0))) (qk0 : K.lookup OD0 = some ⟨.type "dict", none, .dict (List.toArray [⟨hD0_0, .str "begin" kD0_0, .ref tD0_0⟩, ⟨hD0_1, .str "tell" kD0_1, .ref tD0_1⟩, ⟨hD0_2, .str "right" kD0_2, .ref tD0_2⟩, ⟨hD0_3, .str "strike" kD0_3, .ref tD0_3⟩, ⟨hD0_4, .str "drop" kD0_4, .ref tD0_4⟩, ⟨hD0_5, .str "lay" kD0_5, .ref tD0_5⟩]) nD0, #[]⟩) (ql0 : PySem.W.KeysLit w.params [⟨hD0_0, .str "begin" kD0_0, .ref tD0_0⟩, ⟨hD0_1, .str "tell" kD0_1, .ref tD0_1⟩, ⟨hD0_2, .str "right" kD0_2, .ref tD0_2⟩, ⟨hD0_3, .str "strike" kD0_3, .ref tD0_3⟩, ⟨hD0_4, .str "drop" kD0_4, .ref tD0_4⟩, ⟨hD0_5, .str "lay" kD0_5, .ref tD0_5⟩]) (qw0 : (OD0 == sysModules) = false)
    (qt0_0 : K.lookup tD0_0 = some ⟨.type "tuple", pD0_0, .seq #[.str "name" vD0_0_0, .str "number" vD0_0_1, .str "number" vD0_0_2, .str "number" vD0_0_3] nD0_0, sD0_0⟩)
    (qt0_1 : K.lookup tD0_1 = some ⟨.type "tuple", pD0_1, .seq #[.str "name" vD0_1_0, .str "number" vD0_1_1, .str "number" vD0_1_2, .str "what" vD0_1_3, .str "number" vD0_1_4] nD0_1, sD0_1⟩)
    (qt0_2 : K.lookup tD0_2 = some ⟨.type "tuple", pD0_2, .seq #[.str "name" vD0_2_0, .str "number" vD0_2_1, .str "what" vD0_2_2] nD0_2, sD0_2⟩)
    (qt0_3 : K.lookup tD0_3 = some ⟨.type "tuple", pD0_3, .seq #[.str "name" vD0_3_0, .str "number" vD0_3_1] nD0_3, sD0_3⟩)
    (qt0_4 : K.lookup tD0_4 = some ⟨.type "tuple", pD0_4, .seq #[.str "name" vD0_4_0] nD0_4, sD0_4⟩)
    (qt0_5 : K.lookup tD0_5 = some ⟨.type "tuple", pD0_5, .seq #[.str "name" vD0_5_0, .str "name" vD0_5_1, .str "number" vD0_5_2, .str "number" vD0_5_3, .str "number" vD0_5_4] nD0_5, sD0_5⟩)
    (z0 : PySem.W.nsIn K mainGlobals "all" = some none)
    (z1 : PySem.W.nsIn K mainGlobals "bool" = some none)
    (z2 : PySem.W.nsIn K mainGlobals "enumerate" = some none)
    (z3 : PySem.W.nsIn K mainGlobals "int" = some none)
    (z4 : PySem.W.nsIn K mainGlobals "isinstance" = some none)
    (z5 : PySem.W.nsIn K mainGlobals "len" = some none)
    (z6 : PySem.W.nsIn K mainGlobals "list" = some none)
    (z7 : PySem.W.nsIn K mainGlobals "range" = some none)
    (z8 : PySem.W.nsIn K mainGlobals "str" = some none)
    (z9 : PySem.W.nsIn K mainGlobals "tuple" = some none)
    (z10 : PySem.W.nsIn K mainGlobals "zip" = some none)
    (ga0 : PySem.W.nsIn K mainGlobals "TideError" = some (some (.ref C0)))
    (gk0 : PySem.W.keepIn K (.ref C0) = true)
    (ga1 : PySem.W.nsIn K mainGlobals "BadText" = some (some (.ref C1)))
    (gk1 : PySem.W.keepIn K (.ref C1) = true)
    (te1 : PySem.W.subIn K (.ref C0) (.type "BaseException") = some true)
    (te2 : PySem.W.hasDictIn K C0 = true)
    (te3 : PySem.W.typeIn K (.ref C0) = some (.type "type"))
    (gs1 : PySem.W.subIn K (.ref C1) (.type "BaseException") = some true)
    (gt1 : PySem.W.typeIn K (.ref C1) = some (.type "type"))
    (gm1 : PySem.W.subIn K (.ref C1) (.ref C0) = some true)
    (Ji1 : PySem.W.findIn K (.ref C1) "__init__" = some (some (.ref If1)))
    (Il1 : K.lookup If1 = some ⟨Ioc1, Iod1, .func (PySem.W.fnOf "__init__" "BadText.__init__" (defArgs s_BadText_init) (defBody s_BadText_init) (defScope s_BadText_init) .none IkV1 Idc1 Ipm1 Ian1 Icd1 Ict1), Isl1⟩)
    (Ic1 : PySem.W.codeIn K Icd1 "BadText.__init__" = true)
    (Ik1 : PySem.W.keepIn K (.ref If1) = true)
    (Jl1 : K.lookup C1 = some (excClassObj Jn1 Jq1 C1 JN1 Jb1 JB1 true Js1 Ju1 Ja1 Jc1 Jd1 J01 J11 J21 J31 J51 "ValueError.__new__"))
    (Jr1 : PySem.HandSPX.refsVE JB1 = true)
    (Js1a : PySem.W.findIn K (.ref C1) "__setattr__" = some (some (.builtin "object.__setattr__")))
    (Jg1 : PySem.W.findIn K (.ref C1) "__getattribute__" = some (some (.builtin "BaseException.__getattribute__")))
    (Jh1 : PySem.W.findIn K (.ref C1) "__getattr__" = some none)
    (Jj1 : PySem.W.hasDictIn K C1 = true)
    (Jt1 : PySem.W.typeIn K (.ref If1) = some (.type "function"))
    (Jf1 : PySem.W.findIn K (.ref C1) "row" = some none)
    (Jm1 : PySem.W.subIn K (.ref C1) (.ref C1) = some true)
    (Kb1_1 : PySem.W.specialIn K (.ref C0) "__getattribute__" = some (some (.builtin "type.__getattribute__")))
    (Kb1_2 : PySem.W.readsIn K C0 (.type "type") = true)
    (Kb1_3 : PySem.W.findCls K (.ref C0) (.type "type") "__init__" = some (.val (.builtin "ValueError.__init__"))) :
    ∃ fd : FuncData, (∀ (s : Shared) (v : Value), BindsTo s fd ⟨[v], []⟩ [("_law_script", v)]) ∧ ∀ base : Heap, K.In base → base.Ns mainGlobals mg → FnOk l.prog w K mg base CX0 9 fa fd ["_law_script"] (sp_law K) := by
  have e := hfa.symm.trans (PySem.W.mg_of X G a21)
  cases e
  refine ⟨_, fun s v => ?_, fun base _ _ => ok_law (T := ⟨_, _, fun_mk (st := s_is_name) l0 c0 k0, PySem.W.mg_of X G a0, (fun_mk (st := s_is_name) l0 c0 k0).binds fun _ _ _ _ _ _ us hl => match us, hl with | [_], _ => rfl,
    _, _, fun_mk (st := s_read_number) l1 c1 k1, PySem.W.mg_of X G a1, (fun_mk (st := s_read_number) l1 c1 k1).binds fun _ _ _ _ _ _ us hl => match us, hl with | [_], _ => rfl,
    _, _, fun_mk (st := s_read_what) l2 c2 k2, PySem.W.mg_of X G a2, (fun_mk (st := s_read_what) l2 c2 k2).binds fun _ _ _ _ _ _ us hl => match us, hl with | [_], _ => rfl,
    _, _, fun_mk (st := s_read_thing) l3 c3 k3, PySem.W.mg_of X G a3, (fun_mk (st := s_read_thing) l3 c3 k3).binds fun _ _ _ _ _ _ us hl => match us, hl with | [_, _], _ => rfl,
    _, _, fun_mk (st := s_read_things) l4 c4 k4, PySem.W.mg_of X G a4, (fun_mk (st := s_read_things) l4 c4 k4).binds fun _ _ _ _ _ _ us hl => match us, hl with | [_, _], _ => rfl,
    _, _, fun_mk (st := s_read_deed) l5 c5 k5, PySem.W.mg_of X G a5, (fun_mk (st := s_read_deed) l5 c5 k5).binds fun _ _ _ _ _ _ us hl => match us, hl with | [_], _ => rfl,
    _, _, fun_mk (st := s_law_box) l6 c6 k6, PySem.W.mg_of X G a6, (fun_mk (st := s_law_box) l6 c6 k6).binds fun _ _ _ _ _ _ us hl => match us, hl with | [_], _ => rfl,
    _, _, fun_mk (st := s_law_mixed) l7 c7 k7, PySem.W.mg_of X G a7, (fun_mk (st := s_law_mixed) l7 c7 k7).binds fun _ _ _ _ _ _ us hl => match us, hl with | [_, _], _ => rfl,
    _, _, fun_mk (st := s_law_take) l8 c8 k8, PySem.W.mg_of X G a8, (fun_mk (st := s_law_take) l8 c8 k8).binds fun _ _ _ _ _ _ us hl => match us, hl with | [_, _], _ => rfl,
    _, _, fun_mk (st := s_law_any) l9 c9 k9, PySem.W.mg_of X G a9, (fun_mk (st := s_law_any) l9 c9 k9).binds fun _ _ _ _ _ _ us hl => match us, hl with | [_, _], _ => rfl,
    _, _, fun_mk (st := s_law_whole) l10 c10 k10, PySem.W.mg_of X G a10, (fun_mk (st := s_law_whole) l10 c10 k10).binds fun _ _ _ _ _ _ us hl => match us, hl with | [_], _ => rfl,
    _, _, fun_mk (st := s_law_same) l11 c11 k11, PySem.W.mg_of X G a11, (fun_mk (st := s_law_same) l11 c11 k11).binds fun _ _ _ _ _ _ us hl => match us, hl with | [_, _], _ => rfl,
    _, _, fun_mk (st := s_law_name_good) l12 c12 k12, PySem.W.mg_of X G a12, (fun_mk (st := s_law_name_good) l12 c12 k12).binds fun _ _ _ _ _ _ us hl => match us, hl with | [_], _ => rfl,
    _, _, fun_mk (st := s_law_spoilt) l13 c13 k13, PySem.W.mg_of X G a13, (fun_mk (st := s_law_spoilt) l13 c13 k13).binds fun _ _ _ _ _ _ us hl => match us, hl with | [_, _], _ => rfl,
    _, _, fun_mk (st := s_law_any_name) l14 c14 k14, PySem.W.mg_of X G a14, (fun_mk (st := s_law_any_name) l14 c14 k14).binds fun _ _ _ _ _ _ us hl => match us, hl with | [_], _ => rfl,
    _, _, fun_mk (st := s_law_figures) l15 c15 k15, PySem.W.mg_of X G a15, (fun_mk (st := s_law_figures) l15 c15 k15).binds fun _ _ _ _ _ _ us hl => match us, hl with | [_], _ => rfl,
    _, _, fun_mk (st := s_law_any_deed) l16 c16 k16, PySem.W.mg_of X G a16, (fun_mk (st := s_law_any_deed) l16 c16 k16).binds fun _ _ _ _ _ _ us hl => match us, hl with | [_], _ => rfl,
    _, _, fun_mk (st := s_law_deed_text) l17 c17 k17, PySem.W.mg_of X G a17, (fun_mk (st := s_law_deed_text) l17 c17 k17).binds fun _ _ _ _ _ _ us hl => match us, hl with | [_], _ => rfl,
    _, _, fun_mk (st := s_law_thing_in) l18 c18 k18, PySem.W.mg_of X G a18, (fun_mk (st := s_law_thing_in) l18 c18 k18).binds fun _ _ _ _ _ _ us hl => match us, hl with | [_, _], _ => rfl,
    _, _, fun_mk (st := s_law_deed_in) l19 c19 k19, PySem.W.mg_of X G a19, (fun_mk (st := s_law_deed_in) l19 c19 k19).binds fun _ _ _ _ _ _ us hl => match us, hl with | [_], _ => rfl,
    _, _, fun_mk (st := s_law_told_deed) l20 c20 k20, PySem.W.mg_of X G a20, (fun_mk (st := s_law_told_deed) l20 c20 k20).binds fun _ _ _ _ _ _ us hl => match us, hl with | [_], _ => rfl,
    _, _, fun_mk (st := s_law) l21 c21 k21, PySem.W.mg_of X G a21, (fun_mk (st := s_law) l21 c21 k21).binds fun _ _ _ _ _ _ us hl => match us, hl with | [_], _ => rfl,
    t0, PySem.W.mg_of X G q0,
    t1, PySem.W.mg_of X G q1,
    t2, PySem.W.mg_of X G q2,
    t3, PySem.W.mg_of X G q3,
    t4, PySem.W.mg_of X G q4,
    t5, PySem.W.mg_of X G q5,
    OD0,
    PySem.W.mg_of X G qD0,
    tD0_0, fun _ => .inr ⟨_, _, _, qt0_0, rfl, rfl, (show 4 ≤ sizeLine by decide), (.cons ⟨_, rfl⟩ (.cons ⟨_, rfl⟩ (.cons ⟨_, rfl⟩ (.cons ⟨_, rfl⟩ .nil))))⟩,
    tD0_1, fun _ => .inr ⟨_, _, _, qt0_1, rfl, rfl, (show 5 ≤ sizeLine by decide), (.cons ⟨_, rfl⟩ (.cons ⟨_, rfl⟩ (.cons ⟨_, rfl⟩ (.cons ⟨_, rfl⟩ (.cons ⟨_, rfl⟩ .nil)))))⟩,
    tD0_2, fun _ => .inr ⟨_, _, _, qt0_2, rfl, rfl, (show 3 ≤ sizeLine by decide), (.cons ⟨_, rfl⟩ (.cons ⟨_, rfl⟩ (.cons ⟨_, rfl⟩ .nil)))⟩,
    tD0_3, fun _ => .inr ⟨_, _, _, qt0_3, rfl, rfl, (show 2 ≤ sizeLine by decide), (.cons ⟨_, rfl⟩ (.cons ⟨_, rfl⟩ .nil))⟩,
    tD0_4, fun _ => .inr ⟨_, _, _, qt0_4, rfl, rfl, (show 1 ≤ sizeLine by decide), (.cons ⟨_, rfl⟩ .nil)⟩,
    tD0_5, fun _ => .inr ⟨_, _, _, qt0_5, rfl, rfl, (show 5 ≤ sizeLine by decide), (.cons ⟨_, rfl⟩ (.cons ⟨_, rfl⟩ (.cons ⟨_, rfl⟩ (.cons ⟨_, rfl⟩ (.cons ⟨_, rfl⟩ .nil)))))⟩,
    dicK_of qk0 ql0 qw0 (.cons ⟨⟨_, rfl⟩, rfl⟩ (.cons ⟨⟨_, rfl⟩, rfl⟩ (.cons ⟨⟨_, rfl⟩, rfl⟩ (.cons ⟨⟨_, rfl⟩, rfl⟩ (.cons ⟨⟨_, rfl⟩, rfl⟩ (.cons ⟨⟨_, rfl⟩, rfl⟩ .nil)))))),
    PySem.W.mg_none_of X G z0,
    PySem.W.mg_none_of X G z1,
    PySem.W.mg_none_of X G z2,
    PySem.W.mg_none_of X G z3,
    PySem.W.mg_none_of X G z4,
    PySem.W.mg_none_of X G z5,
    PySem.W.mg_none_of X G z6,
    PySem.W.mg_none_of X G z7,
    PySem.W.mg_none_of X G z8,
    PySem.W.mg_none_of X G z9,
    PySem.W.mg_none_of X G z10,
    C0,
    C1,
    ⟨PySem.W.mg_of X G ga0, gk0⟩,
    ⟨PySem.W.mg_of X G ga1, gk1⟩,
    PySem.W.exm_ref te1 te2 te3 gm1,
    If1,
    _,
    fun_mk (st := s_BadText_init) Il1 Ic1 Ik1,
    (fun_mk (st := s_BadText_init) Il1 Ic1 Ik1).binds fun _ _ _ _ _ _ us hl => match us, hl with | [_, _], _ => rfl,
    ⟨⟨Jn1, Jq1, JN1, Jb1, JB1, Js1, Ju1, Ja1, Jc1, Jd1, J01, J11, J21, J31, J51, Jl1, Jr1⟩, Js1a, gs1, gt1, gk1⟩,
    ⟨Jg1, Jh1, gs1, Jj1⟩,
    Ji1,
    Jt1,
    Jf1,
    PySem.W.exm_ref gs1 Jj1 gt1 Jm1,
    ⟨Kb1_1, Kb1_2, Kb1_3⟩⟩)⟩
  exact .of_eq rfl
end C_k49
open PySem PySem.W PyProof.Rows
set_option maxHeartbeats 0 in
theorem PySem.Challenge.cw_cotide_k49_texts_of_no_deed_holds : PySem.Challenge.rw_cotide_k49_texts_of_no_deed.Holds := by
  w_on; o_law; k_head; (case hw => w_witness2)
  k_fill
  refine L2.walk_of (l := PySem.Challenge.rw_cotide_k49_texts_of_no_deed) (n := 63) (k := 9) (x := "_law_script") (CX := fun _ => L2.CX0) (sp := fun w => C_k49.sp_law _) rfl (by decide) rfl ⟨rfl, by decide, by decide⟩ (fun w h Y => PySem.W.kIn_of Y) ?F (fun _ _ a ns hl _ hS => ⟨a, ns, rfl, hS, hl, fun _ => rfl⟩) (fun _ _ _ _ _ h => h)
  case F =>
    intro w mg fa h KX G hmg
    refine' C_k49.all_mk KX G hmg ?a0 ?l0 ?c0 ?k0 ?a1 ?l1 ?c1 ?k1 ?a2 ?l2 ?c2 ?k2 ?a3 ?l3 ?c3 ?k3 ?a4 ?l4 ?c4 ?k4 ?a5 ?l5 ?c5 ?k5 ?a6 ?l6 ?c6 ?k6 ?a7 ?l7 ?c7 ?k7 ?a8 ?l8 ?c8 ?k8 ?a9 ?l9 ?c9 ?k9 ?a10 ?l10 ?c10 ?k10 ?a11 ?l11 ?c11 ?k11 ?a12 ?l12 ?c12 ?k12 ?a13 ?l13 ?c13 ?k13 ?a14 ?l14 ?c14 ?k14 ?a15 ?l15 ?c15 ?k15 ?a16 ?l16 ?c16 ?k16 ?a17 ?l17 ?c17 ?k17 ?a18 ?l18 ?c18 ?k18 ?a19 ?l19 ?c19 ?k19 ?a20 ?l20 ?c20 ?k20 ?a21 ?l21 ?c21 ?k21 ?q0 ?q1 ?q2 ?q3 ?q4 ?q5 ?qD0 ?qk0 ?ql0 ?qw0 ?qt0_0 ?qt0_1 ?qt0_2 ?qt0_3 ?qt0_4 ?qt0_5 ?z0 ?z1 ?z2 ?z3 ?z4 ?z5 ?z6 ?z7 ?z8 ?z9 ?z10 ?ga0 ?gk0 ?ga1 ?gk1 ?te1 ?te2 ?te3 ?gs1 ?gt1 ?gm1 ?Ji1 ?Il1 ?Ic1 ?Ik1 ?Jl1 ?Jr1 ?Js1a ?Jg1 ?Jh1 ?Jj1 ?Jt1 ?Jf1 ?Jm1 ?Kb1_1 ?Kb1_2 ?Kb1_3
    (case a0 => k_is); (case l0 => k_is); (case c0 => k_is); (case k0 => k_is); (case a1 => k_is); (case l1 => k_is); (case c1 => k_is); (case k1 => k_is); (case a2 => k_is); (case l2 => k_is); (case c2 => k_is); (case k2 => k_is); (case a3 => k_is); (case l3 => k_is); (case c3 => k_is); (case k3 => k_is); (case a4 => k_is); (case l4 => k_is); (case c4 => k_is); (case k4 => k_is); (case a5 => k_is); (case l5 => k_is); (case c5 => k_is); (case k5 => k_is); (case a6 => k_is); (case l6 => k_is); (case c6 => k_is); (case k6 => k_is); (case a7 => k_is); (case l7 => k_is); (case c7 => k_is); (case k7 => k_is); (case a8 => k_is); (case l8 => k_is); (case c8 => k_is); (case k8 => k_is); (case a9 => k_is); (case l9 => k_is); (case c9 => k_is); (case k9 => k_is); (case a10 => k_is); (case l10 => k_is); (case c10 => k_is); (case k10 => k_is); (case a11 => k_is); (case l11 => k_is); (case c11 => k_is); (case k11 => k_is); (case a12 => k_is); (case l12 => k_is); (case c12 => k_is); (case k12 => k_is); (case a13 => k_is); (case l13 => k_is); (case c13 => k_is); (case k13 => k_is); (case a14 => k_is); (case l14 => k_is); (case c14 => k_is); (case k14 => k_is); (case a15 => k_is); (case l15 => k_is); (case c15 => k_is); (case k15 => k_is); (case a16 => k_is); (case l16 => k_is); (case c16 => k_is); (case k16 => k_is); (case a17 => k_is); (case l17 => k_is); (case c17 => k_is); (case k17 => k_is); (case a18 => k_is); (case l18 => k_is); (case c18 => k_is); (case k18 => k_is); (case a19 => k_is); (case l19 => k_is); (case c19 => k_is); (case k19 => k_is); (case a20 => k_is); (case l20 => k_is); (case c20 => k_is); (case k20 => k_is); (case a21 => k_is); (case l21 => k_is); (case c21 => k_is); (case k21 => k_is); (case q0 => k_is); (case q1 => k_is); (case q2 => k_is); (case q3 => k_is); (case q4 => k_is); (case q5 => k_is); (case qD0 => k_is); (case qk0 => k_is); (case ql0 => k_keys); (case qw0 => first | rfl | decide | k_is); (case qt0_0 => k_is); (case qt0_1 => k_is); (case qt0_2 => k_is); (case qt0_3 => k_is); (case qt0_4 => k_is); (case qt0_5 => k_is); (case z0 => k_is); (case z1 => k_is); (case z2 => k_is); (case z3 => k_is); (case z4 => k_is); (case z5 => k_is); (case z6 => k_is); (case z7 => k_is); (case z8 => k_is); (case z9 => k_is); (case z10 => k_is); (case ga0 => k_is); (case gk0 => k_is); (case ga1 => k_is); (case gk1 => k_is); (case te1 => k_is); (case te2 => k_is); (case te3 => k_is); (case gs1 => k_is); (case gt1 => k_is); (case gm1 => k_is); (case Ji1 => k_is); (case Il1 => k_is); (case Ic1 => k_is); (case Ik1 => k_is); (case Jl1 => k_is); (case Jr1 => decide +kernel); (case Js1a => k_is); (case Jg1 => k_is); (case Jh1 => k_is); (case Jj1 => k_is); (case Jt1 => k_is); (case Jf1 => k_is); (case Jm1 => k_is); (case Kb1_1 => k_is); (case Kb1_2 => k_is); (case Kb1_3 => k_is)
