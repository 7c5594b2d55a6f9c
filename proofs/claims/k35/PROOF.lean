import PyProof.Rows.All
import Wide.All
import OpenK.AllK
import Wide.FinOn
import HandS.Defaults
import KE.RegKIsAll
import KE.KLam
import KE.KNestM
import HandS.EndTab
import HandS.ForMost
import HandS.Evl
import HandS.IsInst
import HandS.Wide
import HandS.Zip
import HandS.Walk
import HandS.Style
import HandS.TupAny
import HandS.TupMul
import HandS.Sort
import KE.GoesMore
import HandS.HotCalls
import HandS.Lambda
import HandS.ExcCtx
import HandS.ExcIs
import HandS.Text
import HandS.TupSets
import HandS.TupLen
import KE.KDictDisplayH
import HandS.SortInts
import HandS.DictComp
import HandS.Conv
import HandS.SortOrd
import HandS.SortRule
import HandS.Deep
import KE.KDictSum
import KE.KeyNested
import KE.KDictWalk
import KE.KDictList
import KE.GoesZip
import HandS.TryOnly
import HandS.ExcInit
import HandS.ExcField
import HandS.FStr
import HandS.Iter
import KE.DataMinMax
import HandS.Replace
import HandS.RaiseMore
import HandS.More
import HandS.HeadHook3
import HandS.Star
import PyProof.DictUpdate
import KE.SortKeyHeap
import KE.SortLaws
import KE.SortData
import OpenK.KOps
import HandS.WordsDict
import HandS.SlotsOwn
import PySem.Challenge.RW_cotide_k35_whole_entries_in_any_order
set_option Elab.async false
set_option linter.all false
set_option maxRecDepth 100000
set_option maxHeartbeats 4000000
set_option Elab.async false
set_option linter.all false
set_option maxRecDepth 100000
set_option maxHeartbeats 4000000
/-! Data in two heaps: Hd, what is data and stays; H, all that stands now. -/
namespace Cot
open PySem L2 Evl
section
variable {K : PySem.W.Frag} {H H' Hd Hn H1 H2 Hm : Hp}
mutual
theorem dp_mono (e : Ex H H') : ∀ (d : PyData) {v : V}, Dp K H v d → Dp K H' v d
  | .none, _, h => by cases h; exact .non
  | .bool b, _, h => by cases h; exact .bl b
  | .int i, _, h => by cases h; exact .int i
  | .str x, _, h => by cases h; exact .str x
  | .list ds, _, h => by
    cases h with
    | lst hs ha => exact .lst (ex_l e hs) (dpa_mono e ds ha)
  | .tuple ds, _, h => by
    cases h with
    | tup hs ha => exact .tup (ex_t e hs) (dpa_mono e ds ha)
  | .dict _, _, h => by cases h
theorem dpa_mono (e : Ex H H') : ∀ (ds : List PyData) {vs : List V}, DpAll K H vs ds → DpAll K H' vs ds
  | [], _, h => by cases h; exact .nil
  | d :: ds, _, h => by
    cases h with
    | cons h1 h2 => exact .cons (dp_mono e d h1) (dpa_mono e ds h2)
end
theorem dpa_len : ∀ {vs : List V} {ds : List PyData}, DpAll K H vs ds → vs.length = ds.length
  | _, [], h => by cases h; rfl
  | _, d :: ds, h => by
    cases h with
    | cons h1 h2 => rw [List.length_cons, List.length_cons, dpa_len h2]
theorem dpa_get : ∀ {ds : List PyData} {vs : List V} {i : Nat} {d : PyData}, DpAll K H vs ds → ds[i]? = some d → ∃ v, vs[i]? = some v ∧ Dp K H v d
  | [], _, i, d, h, e => by simp at e
  | d0 :: ds, _, 0, d, h, e => by
    cases h with
    | cons h1 h2 =>
      have e' : d0 = d := Option.some.inj e
      subst e'
      exact ⟨_, rfl, h1⟩
  | d0 :: ds, _, i + 1, d, h, e => by
    cases h with
    | cons h1 h2 =>
      obtain ⟨v, q1, q2⟩ := dpa_get (i := i) h2 (by simpa using e)
      exact ⟨v, by simpa using q1, q2⟩
theorem dpa_get2 : ∀ {ds : List PyData} {vs : List V} {i : Nat} {v : V}, DpAll K H vs ds → vs[i]? = some v → ∃ d, ds[i]? = some d ∧ Dp K H v d
  | [], _, i, d, h, e => by cases h; simp at e
  | d0 :: ds, _, 0, v, h, e => by
    cases h with
    | cons h1 h2 =>
      have e' := Option.some.inj e
      subst e'
      exact ⟨_, rfl, h1⟩
  | d0 :: ds, _, i + 1, v, h, e => by
    cases h with
    | cons h1 h2 =>
      obtain ⟨v, q1, q2⟩ := dpa_get2 (i := i) h2 (by simpa using e)
      exact ⟨v, by simpa using q1, q2⟩
theorem dpa_at {ds : List PyData} {vs : List V} {i : Int} {d : PyData} (h : DpAll K H vs ds) (e : atI ds i = some d) : ∃ v, atI vs i = some v ∧ Dp K H v d := by
  unfold atI at e ⊢
  rw [dpa_len h]
  cases hx : ixN ds.length i with
  | none => rw [hx] at e; cases e
  | some j =>
    rw [hx] at e
    exact dpa_get h e
theorem dpa_app : ∀ {ds es : List PyData} {vs ws : List V}, DpAll K H vs ds → DpAll K H ws es → DpAll K H (vs ++ ws) (ds ++ es)
  | [], _, _, _, h, h2 => by cases h; exact h2
  | d :: ds, es, _, ws, h, h2 => by
    cases h with
    | cons a b => exact .cons a (dpa_app b h2)
theorem dpa_take : ∀ (n : Nat) {ds : List PyData} {vs : List V}, DpAll K H vs ds → DpAll K H (vs.take n) (ds.take n)
  | 0, _, _, _ => by rw [List.take_zero, List.take_zero]; exact .nil
  | n + 1, [], _, h => by cases h; exact .nil
  | n + 1, d :: ds, _, h => by
    cases h with
    | cons a b => exact .cons a (dpa_take n b)
theorem dpa_drop : ∀ (n : Nat) {ds : List PyData} {vs : List V}, DpAll K H vs ds → DpAll K H (vs.drop n) (ds.drop n)
  | 0, _, _, h => h
  | n + 1, [], _, h => by cases h; exact .nil
  | n + 1, d :: ds, _, h => by
    cases h with
    | cons a b => exact dpa_drop n b
theorem dpa_ints : ∀ (ns : List Int), DpAll K H (ns.map V.int) (ns.map PyData.int)
  | [] => .nil
  | n :: ns => .cons (.int n) (dpa_ints ns)
theorem dpa_bools : ∀ (ns : List Bool), DpAll K H (ns.map V.bl) (ns.map PyData.bool)
  | [] => .nil
  | n :: ns => .cons (.bl n) (dpa_bools ns)
theorem dpa_ints_inv : ∀ {ns : List Int} {vs : List V}, DpAll K H vs (ns.map PyData.int) → vs = ns.map V.int
  | [], _, h => by cases h; rfl
  | n :: ns, _, h => by
    cases h with
    | cons a b =>
      cases a
      rw [dpa_ints_inv b]
      rfl
theorem dpa_bools_inv : ∀ {ns : List Bool} {vs : List V}, DpAll K H vs (ns.map PyData.bool) → vs = ns.map V.bl
  | [], _, h => by cases h; rfl
  | n :: ns, _, h => by
    cases h with
    | cons a b =>
      cases a
      rw [dpa_bools_inv b]
      rfl

/-- Hd grows to Hn by new places alone, H to H2 -/
structure Gr (Hd H Hn H2 : Hp) : Prop where
  ex : Ex H H2
  dx : Ex Hd Hn
  sub : Ex Hn H2
  fr : ∀ a o, H a = some o → Hd a = none → Hn a = none
theorem Gr.refl (s : Ex Hd H) : Gr Hd H Hd H := ⟨Ex.refl _, Ex.refl _, s, fun _ _ _ h => h⟩
theorem Gr.trans (g1 : Gr Hd H Hn H1) (g2 : Gr Hn H1 Hm H2) : Gr Hd H Hm H2 := ⟨g1.ex.trans g2.ex, g1.dx.trans g2.dx, g2.sub, fun a o ha hd => g2.fr a o (g1.ex a o ha) (g1.fr a o ha hd)⟩
theorem Gr.ext (s : Ex Hd H) (e : Ex H H2) : Gr Hd H Hd H2 := ⟨e, Ex.refl _, s.trans e, fun _ _ _ h => h⟩
theorem Gr.pre (e : Ex H H1) (g : Gr Hd H1 Hn H2) : Gr Hd H Hn H2 := ⟨e.trans g.ex, g.dx, g.sub, fun a o ha hd => g.fr a o (e a o ha) hd⟩
theorem Gr.post (g : Gr Hd H Hn H1) (e : Ex H1 H2) : Gr Hd H Hn H2 := ⟨g.ex.trans e, g.dx, g.sub.trans e, g.fr⟩
theorem ex_upd2 {p : Addr} {o : HO} (s : Ex Hd H) : Ex (upd Hd p o) (upd H p o) := fun a u h => by
  by_cases e : a = p
  · subst e
    rw [upd_same] at h ⊢
    exact h
  · rw [upd_ne e] at h ⊢
    exact s a u h
theorem Gr.new {p : Addr} {o : HO} (s : Ex Hd H) (h : H p = none) : Gr Hd H (upd Hd p o) (upd H p o) :=
  ⟨Ex.new h, Ex.new (fresh_back s h), ex_upd2 s, fun a u ha hd => by rw [upd_ne (ne_of_none ha h)]; exact hd⟩
/-- a new place that is no data -/
theorem Gr.alloc {p : Addr} {o : HO} (s : Ex Hd H) (h : H p = none) : Gr Hd H Hd (upd H p o) := Gr.ext s (Ex.new h)

def un (A B : Hp) : Hp := fun a => match A a with | some o => some o | none => B a
theorem un_l {A B : Hp} : Ex A (un A B) := fun a o h => by unfold un; rw [h]
theorem un_r {A B C : Hp} (a : Ex A C) (b : Ex B C) : Ex B (un A B) := fun x o h => by
  unfold un
  cases hA : A x with
  | none => exact h
  | some u =>
    have h1 := a x u hA
    rw [b x o h] at h1
    exact h1.symm
theorem un_sub {A B C : Hp} (a : Ex A C) (b : Ex B C) : Ex (un A B) C := fun x o h => by
  unfold un at h
  cases hA : A x with
  | none => rw [hA] at h; exact b x o h
  | some u => rw [hA] at h; exact a x o (hA.trans h)
theorem Gr.up {Hd' : Hp} (e : Ex Hd Hd') (s : Ex Hd' H) (g : Gr Hd H Hn H2) : Gr Hd' H (un Hd' Hn) H2 :=
  ⟨g.ex, un_l, un_sub (s.trans g.ex) g.sub, fun a o ha hd => by
    unfold un
    rw [hd]
    exact g.fr a o ha (fresh_back e hd)⟩
theorem Gr.upr {Hd' : Hp} (e : Ex Hd Hd') (s : Ex Hd' H) (g : Gr Hd H Hn H2) : Ex Hn (un Hd' Hn) := un_r (s.trans g.ex) g.sub

/-! ### what evaluates to which data -/
def EvD (K : PySem.W.Frag) (te : TE) (σ : L2.St) (Hd : Hp) (d : PyData) : Prop := ∀ H, Ex Hd H → ∀ Q : VK, (∀ v H2 Hn, Gr Hd H Hn H2 → Dp K Hn v d → Q v H2) → te σ H Q
def EvDA (K : PySem.W.Frag) (ta : TA) (σ : L2.St) (Hd : Hp) (ds : List PyData) : Prop := ∀ H, Ex Hd H → ∀ Q : List V → Hp → Prop, (∀ vs H2 Hn, Gr Hd H Hn H2 → DpAll K Hn vs ds → Q vs H2) → ta σ H Q
/-- a new list -/
def EvN (K : PySem.W.Frag) (te : TE) (σ : L2.St) (Hd : Hp) (ds : List PyData) : Prop := ∀ H, Ex Hd H → ∀ Q : VK, (∀ p xs H2 Hn, Gr Hd H Hn H2 → H p = none → Hn p = none → H2 p = some (.lst xs) → DpAll K Hn xs ds → Q (.ref p) H2) → te σ H Q
end
section
variable {K : PySem.W.Frag} {σ : L2.St} {H H' Hd Hd' Hn H1 H2 : Hp} {ta tb te tx : TE} {t u : TT} {x y z v : V} {r : R2} {d : PyData} {ds : List PyData} {tr : TA}
theorem EvD.mono (e : Ex Hd Hd') (h : EvD K te σ Hd d) : EvD K te σ Hd' d := fun H s Q q => h H (e.trans s) Q fun v H2 Hn g hd => q v H2 _ (g.up e s) (dp_mono (g.upr e s) d hd)
theorem EvDA.mono (e : Ex Hd Hd') (h : EvDA K tr σ Hd ds) : EvDA K tr σ Hd' ds := fun H s Q q => h H (e.trans s) Q fun v H2 Hn g hd => q v H2 _ (g.up e s) (dpa_mono (g.upr e s) ds hd)
theorem EvN.mono (e : Ex Hd Hd') (h : EvN K te σ Hd ds) : EvN K te σ Hd' ds := fun H s Q q => h H (e.trans s) Q fun p xs H2 Hn g hp hn h2 hd => q p xs H2 _ (g.up e s) hp (by
  unfold un
  rw [fresh_back s hp]
  exact hn) h2 (dpa_mono (g.upr e s) ds hd)
theorem ed_ev (h : Ev te σ Hd v) (hd : Dp K Hd v d) : EvD K te σ Hd d := fun H s Q q => h H s Q fun H2 e => q v H2 Hd (Gr.ext s e) hd
theorem ed_var {i : Nat} (h : σ[i]? = some (some v)) (hd : Dp K Hd v d) : EvD K (tVar i) σ Hd d := ed_ev (ev_var h) hd
theorem ev_int {i : Int} (h : EvD K te σ Hd (.int i)) : Ev te σ Hd (.int i) := fun H s Q q => h H s Q fun v H2 Hn g hd => by cases hd; exact q H2 g.ex
theorem ev_bool {i : Bool} (h : EvD K te σ Hd (.bool i)) : Ev te σ Hd (.bl i) := fun H s Q q => h H s Q fun v H2 Hn g hd => by cases hd; exact q H2 g.ex
theorem ev_str {i : Str} (h : EvD K te σ Hd (.str i)) : Ev te σ Hd (.str i) := fun H s Q q => h H s Q fun v H2 Hn g hd => by cases hd; exact q H2 g.ex
theorem ev_none (h : EvD K te σ Hd .none) : Ev te σ Hd .non := fun H s Q q => h H s Q fun v H2 Hn g hd => by cases hd; exact q H2 g.ex
theorem ed_int {i : Int} (h : Ev te σ Hd (.int i)) : EvD K te σ Hd (.int i) := ed_ev h (.int i)
theorem ed_bool {i : Bool} (h : Ev te σ Hd (.bl i)) : EvD K te σ Hd (.bool i) := ed_ev h (.bl i)
theorem ed_str {i : Str} (h : Ev te σ Hd (.str i)) : EvD K te σ Hd (.str i) := ed_ev h (.str i)
theorem ed_non (h : Ev te σ Hd .non) : EvD K te σ Hd .none := ed_ev h .non
theorem eda_nil : EvDA K tNil σ Hd [] := fun H s _ q => q [] H Hd (Gr.refl s) .nil
theorem eda_cons (h : EvD K ta σ Hd d) (hr : EvDA K tr σ Hd ds) : EvDA K (tCons ta tr) σ Hd (d :: ds) := fun H s _ q =>
  h H s _ fun v H1 Hn g hd => hr.mono g.dx H1 g.sub _ fun vs H2 Hm g2 hds => q (v :: vs) H2 Hm (g.trans g2) (.cons (dp_mono g2.dx d hd) hds)
theorem ed_tup (h : EvDA K tr σ Hd ds) (hl : ds.length ≤ 100000) : EvD K (tTup tr) σ Hd (.tuple ds) := fun H s _ q =>
  h H s _ fun vs H1 Hn g hd => ⟨sz_of (by rw [dpa_len hd]; exact hl), fun p hp => q (.ref p) _ _ (g.trans (Gr.new g.sub hp)) (.tup (st_of upd_same) (dpa_mono (Ex.new (fresh_back g.sub hp)) ds hd))⟩
theorem en_lst (h : EvDA K tr σ Hd ds) (hl : ds.length ≤ 100000) : EvN K (tLst tr) σ Hd ds := fun H s _ q =>
  h H s _ fun vs H1 Hn g hd => ⟨sz_of (by rw [dpa_len hd]; exact hl), fun p hp => q p vs _ Hn (g.trans (Gr.alloc g.sub hp)) (fresh_back g.ex hp) (fresh_back g.sub hp) upd_same hd⟩
theorem ed_new (h : EvN K te σ Hd ds) : EvD K te σ Hd (.list ds) := fun H s _ q =>
  h H s _ fun p xs H2 Hn g hp hn h2 hd => q (.ref p) H2 (upd Hn p (.lst xs)) ⟨g.ex, g.dx.trans (Ex.new hn), fun a o ha => by
    by_cases e : a = p
    · subst e
      rw [upd_same] at ha
      exact h2.trans ha
    · rw [upd_ne e] at ha
      exact g.sub a o ha, fun a o ha hda => by
    rw [upd_ne (ne_of_none ha hp)]
    exact g.fr a o ha hda⟩ (.lst (sq_of upd_same) (dpa_mono (Ex.new hn) ds hd))
theorem ed_ixT {i : Int} (ha : EvD K ta σ Hd (.tuple ds)) (hi : Ev tb σ Hd (.int i)) (he : atI ds i = some d) : EvD K (tOp (rIxT K) ta tb) σ Hd d := fun H s Q q =>
  ha H s _ fun v H1 Hn g hd => hi.mono g.dx H1 g.sub _ fun H2 e2 => by
    cases hd with
    | @tup p xs ds hs hall =>
      obtain ⟨w, h1, h2⟩ := dpa_at hall he
      exact ⟨p, xs, i, w, rfl, rfl, ex_t (g.sub.trans e2) hs, h1, q w H2 Hn (g.post e2) h2⟩
theorem ed_ixL {i : Int} (ha : EvD K ta σ Hd (.list ds)) (hi : Ev tb σ Hd (.int i)) (he : atI ds i = some d) : EvD K (tOp (rIxL K) ta tb) σ Hd d := fun H s Q q =>
  ha H s _ fun v H1 Hn g hd => hi.mono g.dx H1 g.sub _ fun H2 e2 => by
    cases hd with
    | @lst p xs ds hs hall =>
      obtain ⟨w, h1, h2⟩ := dpa_at hall he
      exact ⟨p, xs, i, w, rfl, rfl, ex_l (g.sub.trans e2) hs, h1, q w H2 Hn (g.post e2) h2⟩
theorem ev_lenT (ha : EvD K ta σ Hd (.tuple ds)) : Ev (tCB (rLenS K) (tCons ta tNil)) σ Hd (.int (ds.length : Int)) := fun H s Q q =>
  ha H s _ fun v H1 Hn g hd => by
    cases hd with
    | @tup p xs ds hs hall => exact ⟨p, xs, rfl, Or.inr (ex_t g.sub hs), by rw [dpa_len hall]; exact q H1 g.ex⟩
theorem ev_lenL (ha : EvD K ta σ Hd (.list ds)) : Ev (tCB (rLenS K) (tCons ta tNil)) σ Hd (.int (ds.length : Int)) := fun H s Q q =>
  ha H s _ fun v H1 Hn g hd => by
    cases hd with
    | @lst p xs ds hs hall => exact ⟨p, xs, rfl, Or.inl (ex_l g.sub hs), by rw [dpa_len hall]; exact q H1 g.ex⟩

/-! ### promises: a pure def, by a relation of its data -/
def spF (K : PySem.W.Frag) (R : List PyData → PyData → Prop) : Sp := fun vs H Q _ => ∃ Hd ds d, Ex Hd H ∧ DpAll K Hd vs ds ∧ R ds d ∧ ∀ v H2 Hn, Gr Hd H Hn H2 → Dp K Hn v d → Q v H2
/-- the answer is a new list -/
def spN (K : PySem.W.Frag) (R : List PyData → List PyData → Prop) : Sp := fun vs H Q _ => ∃ Hd ds es, Ex Hd H ∧ DpAll K Hd vs ds ∧ R ds es ∧ ∀ p xs H2 Hn, Gr Hd H Hn H2 → H p = none → Hn p = none → H2 p = some (.lst xs) → DpAll K Hn xs es → Q (.ref p) H2
theorem ed_call {R : List PyData → PyData → Prop} {E : XK} (h : EvDA K tr σ Hd ds) (hr : R ds d) : EvD K (tCall (spF K R) [] E tr) σ Hd d := fun H s Q q =>
  h H s _ fun vs H2 Hn g hd => ⟨Hn, ds, d, g.sub, by rw [List.append_nil]; exact hd, hr, fun v H3 Hm g2 hv => q v H3 Hm (g.trans g2) hv⟩
theorem en_call {R : List PyData → List PyData → Prop} {es : List PyData} {E : XK} (h : EvDA K tr σ Hd ds) (hr : R ds es) : EvN K (tCall (spN K R) [] E tr) σ Hd es := fun H s Q q =>
  h H s _ fun vs H2 Hn g hd => ⟨Hn, ds, es, g.sub, by rw [List.append_nil]; exact hd, hr, fun p xs H3 Hm g2 hp hm h3 hv => q p xs H3 Hm (g.trans g2) (fresh_back g.ex hp) hm h3 hv⟩

/-! ### statements -/
variable {D : Ends} {tu tw tz : TS} {g : TG} {i : Nat}
def Go (t : TS) (D : Ends) (σ : L2.St) (H : Hp) : Prop := ∀ H2, Ex H H2 → t D σ H2
theorem Go.go (h : Go tz D σ H) : tz D σ H := h H (Ex.refl H)
theorem go_asg (h : Ev te σ H v) (k : Go tz D (σ.set i (some v)) H) : Go (tSeq (tAsg te (gName i)) tz) D σ H := fun H1 e1 => h H1 e1 _ fun H2 e2 => k H2 (e1.trans e2)
theorem go_asgD (s : Ex Hd H) (h : EvD K te σ Hd d) (k : ∀ v H' Hn, Gr Hd H Hn H' → Dp K Hn v d → Go tz D (σ.set i (some v)) H') : Go (tSeq (tAsg te (gName i)) tz) D σ H := fun H1 e1 =>
  h H1 (s.trans e1) _ fun v H2 Hn g hd => k v H2 Hn (g.pre e1) hd H2 (Ex.refl _)
theorem go_asgN (s : Ex Hd H) (h : EvN K te σ Hd ds) (k : ∀ p xs H' Hn, Gr Hd H Hn H' → H p = none → Hn p = none → H' p = some (.lst xs) → DpAll K Hn xs ds → Go tz D (σ.set i (some (.ref p))) H') : Go (tSeq (tAsg te (gName i)) tz) D σ H := fun H1 e1 =>
  h H1 (s.trans e1) _ fun p xs H2 Hn g hp hn h2 hd => k p xs H2 Hn (g.pre e1) (fresh_back e1 hp) hn h2 hd H2 (Ex.refl _)
theorem go_if {b : Bool} (h : EvT t σ H b) (h1 : b = true → Go tu { D with nx := tz D } σ H) (h2 : b = false → Go tw { D with nx := tz D } σ H) : Go (tSeq (tIfS t tu tw) tz) D σ H := fun H1 e1 => h H1 e1 _ fun H2 e2 => by
  cases b with
  | true =>
    show tu { D with nx := tz D } σ H2
    exact h1 rfl H2 (e1.trans e2)
  | false =>
    show tw { D with nx := tz D } σ H2
    exact h2 rfl H2 (e1.trans e2)
theorem go_when {b : Bool} (h : EvT t σ H b) (h1 : b = true → Go tu { D with nx := tz D } σ H) (h2 : b = false → Go tz D σ H) : Go (tSeq (tIfS t tu tNext) tz) D σ H := go_if h h1 h2
theorem go_next (k : ∀ H', Ex H H' → D.nx σ H') : Go tNext D σ H := k
theorem go_ret (s : Ex Hd H) (h : EvD K te σ Hd d) (k : ∀ v H' Hn, Gr Hd H Hn H' → Dp K Hn v d → D.rt v H') : Go (tSeq (tRet te) tz) D σ H := fun H1 e1 => h H1 (s.trans e1) _ fun v H2 Hn g hd => k v H2 Hn (g.pre e1) hd
theorem go_retN (s : Ex Hd H) (h : EvN K te σ Hd ds) (k : ∀ p xs H' Hn, Gr Hd H Hn H' → H p = none → Hn p = none → H' p = some (.lst xs) → DpAll K Hn xs ds → D.rt (.ref p) H') : Go (tSeq (tRet te) tz) D σ H := fun H1 e1 => h H1 (s.trans e1) _ fun p xs H2 Hn g hp hn h2 hd => k p xs H2 Hn (g.pre e1) (fresh_back e1 hp) hn h2 hd
theorem go_retV (h : Ev te σ H v) (k : ∀ H', Ex H H' → D.rt v H') : Go (tSeq (tRet te) tz) D σ H := fun H1 e1 => h H1 e1 _ fun H2 e2 => k H2 (e1.trans e2)
theorem go_drop (h : Ev te σ H v) (k : Go tz D σ H) : Go (tSeq (tDrop te) tz) D σ H := fun H1 e1 => h H1 e1 _ fun H2 e2 => k H2 (e1.trans e2)
theorem Go.mono (e : Ex H H') (h : Go tz D σ H) : Go tz D σ H' := fun H2 e2 => h H2 (e.trans e2)
/-- a chain of two comparisons of ints -/
theorem ev_chain {r' : R2} {tc : TE} {k : Bool} (ha : Ev ta σ H x) (hb : Ev tb σ H y) (hr : RV r x y H (.bl k)) (hc : k = true → Ev tc σ H z) (hr' : k = true → RV r' y z H v) (hv : k = false → v = .bl false) : Ev (tChain r r' ta tb tc) σ H v := fun H1 e1 Q q =>
  ha H1 e1 _ fun H2 e2 => hb H2 (e1.trans e2) _ fun H3 e3 => hr H3 ((e1.trans e2).trans e3) _ fun H4 e4 => ⟨k, rfl, by
    cases k with
    | true =>
      show tc σ H4 fun w' H5 => r' y w' H5 Q
      exact hc rfl H4 (((e1.trans e2).trans e3).trans e4) _ fun H5 e5 => hr' rfl H5 ((((e1.trans e2).trans e3).trans e4).trans e5) _ fun H6 e6 => q H6 ((((e2.trans e3).trans e4).trans e5).trans e6)
    | false =>
      show Q (.bl false) H4
      rw [← hv rfl]
      exact q H4 ((e2.trans e3).trans e4)⟩
end
end Cot
namespace Cot
open PySem L2 Evl
/-! ### defs of scalars -/
def spS (R : List V → V → Prop) : Sp := fun vs H Q _ => ∃ v, R vs v ∧ ∀ H2, Ex H H2 → Q v H2
section
variable {K : PySem.W.Frag} {σ : L2.St} {H H' Hd Hd' Hn H1 H2 : Hp} {ta tb tc te tx : TE} {t u : TT} {x y z v v' : V} {r r' : R2} {d : PyData} {ds : List PyData} {tr : TA} {D : Ends} {tu tw tz : TS} {g : TG} {i : Nat}
theorem ev_callS {R : List V → V → Prop} {vs : List V} {E : XK} (h : EvA tr σ H vs) (hr : R vs v) : Ev (tCall (spS R) [] E tr) σ H v := fun H1 e Q q =>
  h H1 e _ fun H2 e2 => ⟨v, by rw [List.append_nil]; exact hr, fun H3 e3 => q H3 (e2.trans e3)⟩
theorem go_retE (h : Ev te σ H v') (e : v' = v) (k : ∀ H', Ex H H' → D.rt v H') : Go (tSeq (tRet te) tz) D σ H := go_retV (by rw [← e]; exact h) k
theorem ev_chainB {k k' : Bool} (ha : Ev ta σ H x) (hb : Ev tb σ H y) (hr : RV r x y H (.bl k)) (hc : Ev tc σ H z) (hr' : RV r' y z H (.bl k')) : Ev (tChain r r' ta tb tc) σ H (.bl (k && k')) :=
  ev_chain ha hb hr (fun _ => hc) (fun e => by subst e; exact hr') (fun e => by subst e; rfl)
theorem ev_ifB {b : Bool} (h : EvT t σ H b) (h1 : Ev ta σ H x) (h2 : Ev tb σ H y) : Ev (tIf t ta tb) σ H (if b = true then x else y) := by
  refine ev_if h (fun e => ?_) (fun e => ?_)
  · rw [if_pos e]; exact h1
  · rw [if_neg (by rw [e]; decide)]; exact h2
theorem et_andB {a b : Bool} (h1 : EvT t σ H a) (h2 : EvT u σ H b) : EvT (tAnd t u) σ H (a && b) := et_and h1 fun _ => h2
theorem et_orB {a b : Bool} (h1 : EvT t σ H a) (h2 : EvT u σ H b) : EvT (tOr t u) σ H (a || b) := et_or h1 fun _ => h2
theorem ev_andB {a b : Bool} (h1 : Ev ta σ H (.bl a)) (h2 : Ev tb σ H (.bl b)) : Ev (tAndV ta tb) σ H (.bl (a && b)) := ev_andV h1 fun _ => h2
theorem ev_orB {a b : Bool} (h1 : Ev ta σ H (.bl a)) (h2 : Ev tb σ H (.bl b)) : Ev (tOrV ta tb) σ H (.bl (a || b)) := ev_orV h1 fun _ => h2
theorem rv_isN : RV (fun x y H Q => y = .non ∧ Q (.bl (decide (x = .non))) H) x .non H (.bl (decide (x = .non))) := fun H1 _ _ q => ⟨rfl, q H1 (Ex.refl H1)⟩
end
end Cot

set_option Elab.async false
set_option linter.all false
set_option maxRecDepth 100000
set_option maxHeartbeats 4000000
/-! A box of draws: a list that changes; all else grows. -/
namespace Cot
open PySem L2 Evl
section
variable {K : PySem.W.Frag} {X : Cx}
theorem call_lenQ : CallR X (.builtin "len") (rLenS X.K) := call_len_seq
theorem call_listQ : CallR X (.type "list") (rListS X.K) := call_list_of
def BoxL (xs : List V) (ca : Addr) : Prop := ∃ pos rest turn seed : Int, xs = [.ref ca, .int pos, .int rest, .int turn, .int seed] ∧ 0 ≤ pos
/-- a box: its own place, and that of its cells -/
structure Bid where
  b : Addr
  ca : Addr
def Bx (H : Hp) (b : Bid) : Prop := ∃ (cells : List Int) (xs : List V), H b.b = some (.lst xs) ∧ BoxL xs b.ca ∧ H b.ca = some (.lst (cells.map V.int)) ∧ cells.length ≤ 63
theorem Bx.mono {H H' : Hp} {b : Bid} (e : Ex H H') (B : Bx H b) : Bx H' b := by
  obtain ⟨cells, xs, h1, h2, h3, h4⟩ := B
  exact ⟨cells, xs, e _ _ h1, h2, e _ _ h3, h4⟩
theorem Bx.some {H : Hp} {b : Bid} (B : Bx H b) : ∃ o, H b.b = Option.some o := by
  obtain ⟨cells, xs, h1, h2, h3, h4⟩ := B
  exact ⟨_, h1⟩
theorem Bx.keep {H : Hp} {b : Bid} {l : Addr} {o : HO} (B : Bx H b) (n1 : l ≠ b.b) (n2 : l ≠ b.ca) : Bx (upd H l o) b := by
  obtain ⟨cells, xs, h1, h2, h3, h4⟩ := B
  exact ⟨cells, xs, by rw [upd_ne n1.symm]; exact h1, h2, by rw [upd_ne n2.symm]; exact h3, h4⟩
theorem Bx.cell {H : Hp} {b : Bid} (B : Bx H b) : ∃ o, H b.ca = Option.some o := by
  obtain ⟨cells, xs, h1, h2, h3, h4⟩ := B
  exact ⟨_, h3⟩
theorem Bx.apart {H : Hp} {b : Bid} {l : Addr} (B : Bx H b) (h : H l = none) : l ≠ b.b ∧ l ≠ b.ca := by
  obtain ⟨o, h1⟩ := B.some
  obtain ⟨o2, h2⟩ := B.cell
  exact ⟨(ne_of_none h1 h).symm, (ne_of_none h2 h).symm⟩
structure GrB (b : Bid) (Hd H Hn H2 : Hp) : Prop where
  exb : ∀ a o, a ≠ b.b → H a = some o → H2 a = some o
  dx : Ex Hd Hn
  sub : Ex Hn H2
  fr : ∀ a o, H a = some o → Hd a = none → Hn a = none
  bx : Bx H2 b
variable {b : Bid} {H H' Hd Hd' Hn H1 H2 Hm : Hp}
theorem GrB.bn (g : GrB b Hd H Hn H2) (hb : Hd b.b = none) (B : Bx H b) : Hn b.b = none := by
  obtain ⟨o, h⟩ := B.some
  exact g.fr b.b o h hb
theorem GrB.of (g : Gr Hd H Hn H2) (B : Bx H b) : GrB b Hd H Hn H2 := ⟨fun a o _ h => g.ex a o h, g.dx, g.sub, g.fr, B.mono g.ex⟩
theorem GrB.trans (g1 : GrB b Hd H Hn H1) (g2 : GrB b Hn H1 Hm H2) (hb : Hd b.b = none) (B : Bx H b) : GrB b Hd H Hm H2 :=
  ⟨fun a o n h => g2.exb a o n (g1.exb a o n h), g1.dx.trans g2.dx, g2.sub, fun a o h hd => by
    by_cases e : a = b.b
    · rw [e]
      exact g2.bn (g1.bn hb B) g1.bx
    · exact g2.fr a o (g1.exb a o e h) (g1.fr a o h hd), g2.bx⟩
theorem GrB.pre (e : Ex H H1) (g : GrB b Hd H1 Hn H2) : GrB b Hd H Hn H2 := ⟨fun a o n h => g.exb a o n (e a o h), g.dx, g.sub, fun a o ha hd => g.fr a o (e a o ha) hd, g.bx⟩
theorem GrB.up (e : Ex Hd Hd') (s : Ex Hd' H) (hb : Hd' b.b = none) (g : GrB b Hd H Hn H2) : GrB b Hd' H (un Hd' Hn) H2 ∧ Ex Hn (un Hd' Hn) := by
  have s2 : Ex Hd' H2 := fun a o h => g.exb a o (ne_of_none h hb) (s a o h)
  exact ⟨⟨g.exb, un_l, un_sub s2 g.sub, fun a o ha hd => by
    unfold un
    rw [hd]
    exact g.fr a o ha (fresh_back e hd), g.bx⟩, un_r s2 g.sub⟩
def EvB (K : PySem.W.Frag) (b : Bid) (te : TE) (σ : L2.St) (Hd : Hp) (P : PyData → Prop) : Prop := Hd b.b = none → ∀ H, Ex Hd H → Bx H b → ∀ Q : VK, (∀ v H2 Hn d, GrB b Hd H Hn H2 → Dp K Hn v d → P d → Q v H2) → te σ H Q
def EvBA (K : PySem.W.Frag) (b : Bid) (ta : TA) (σ : L2.St) (Hd : Hp) (P : List PyData → Prop) : Prop := Hd b.b = none → ∀ H, Ex Hd H → Bx H b → ∀ Q : List V → Hp → Prop, (∀ vs H2 Hn ds, GrB b Hd H Hn H2 → DpAll K Hn vs ds → P ds → Q vs H2) → ta σ H Q
def isI (p : Int → Prop) (d : PyData) : Prop := ∃ i, d = .int i ∧ p i
/-- a def that draws: its first argument the box -/
def spB (K : PySem.W.Frag) (Pre : List PyData → Prop) (P : List PyData → PyData → Prop) : Sp := fun vs H Q _ => ∃ b ws Hd ds, vs = .ref b.b :: ws ∧ Hd b.b = none ∧ Ex Hd H ∧ Bx H b ∧ DpAll K Hd ws ds ∧ Pre ds ∧ ∀ v H2 Hn d, GrB b Hd H Hn H2 → Dp K Hn v d → P ds d → Q v H2
variable {σ : L2.St} {ta tb tc te tx : TE} {t u : TT} {x y z v v' : V} {r r' : R2} {d : PyData} {ds : List PyData} {tr : TA} {D : Ends} {tu tw tz : TS} {i : Nat} {P P' : PyData → Prop} {Ps : List PyData → Prop} {p p' : Int → Prop}
theorem EvB.mono (e : Ex Hd Hd') (h : EvB K b te σ Hd P) : EvB K b te σ Hd' P := fun hb H s B Q q => h (fresh_back e hb) H (e.trans s) B Q fun v H2 Hn d g hd hp =>
  q v H2 _ d (g.up e s hb).1 (dp_mono (g.up e s hb).2 d hd) hp
theorem EvBA.mono (e : Ex Hd Hd') (h : EvBA K b tr σ Hd Ps) : EvBA K b tr σ Hd' Ps := fun hb H s B Q q => h (fresh_back e hb) H (e.trans s) B Q fun v H2 Hn d g hd hp =>
  q v H2 _ d (g.up e s hb).1 (dpa_mono (g.up e s hb).2 d hd) hp
theorem EvB.imp (h : EvB K b te σ Hd P) (k : ∀ d, P d → P' d) : EvB K b te σ Hd P' := fun hb H s B Q q => h hb H s B Q fun v H2 Hn d g hd hp => q v H2 Hn d g hd (k d hp)
theorem eb_ed (h : EvD K te σ Hd d) : EvB K b te σ Hd (fun d' => d' = d) := fun hb H s B Q q => h H s Q fun v H2 Hn g hd => q v H2 Hn d (GrB.of g B) hd rfl
theorem eb_ev {n : Int} (h : Ev te σ Hd (.int n)) : EvB K b te σ Hd (isI fun m => m = n) := (eb_ed (ed_int h)).imp fun d e => ⟨n, e, rfl⟩
theorem eba_nil : EvBA K b tNil σ Hd (fun ds => ds = []) := fun hb H s B Q q => q [] H Hd [] (GrB.of (Gr.refl s) B) .nil rfl
theorem eba_cons (h : EvB K b ta σ Hd P) (hr : EvBA K b tr σ Hd Ps) : EvBA K b (tCons ta tr) σ Hd (fun ds => ∃ d es, ds = d :: es ∧ P d ∧ Ps es) := fun hb H s B Q q =>
  h hb H s B _ fun v H1 Hn d g hd hp => hr.mono g.dx (g.bn hb B) H1 g.sub g.bx _ fun vs H2 Hm es g2 hes hps => q (v :: vs) H2 Hm (d :: es) (g.trans g2 hb B) (.cons (dp_mono g2.dx d hd) hes) ⟨d, es, rfl, hp, hps⟩
theorem eb_call {Pre : List PyData → Prop} {R : List PyData → PyData → Prop} {E : XK} (ha : Ev ta σ Hd (.ref b.b)) (h : EvBA K b tr σ Hd Ps) (hp : ∀ ds, Ps ds → Pre ds) : EvB K b (tCall (spB K Pre R) [] E (tCons ta tr)) σ Hd (fun d => ∃ ds, Ps ds ∧ R ds d) := fun hb H s B Q q =>
  ha H s _ fun H1 e1 => h hb H1 (s.trans e1) (B.mono e1) _ fun vs H2 Hn ds g hds hps => ⟨b, vs, Hn, ds, by rw [List.append_nil], g.bn hb (B.mono e1), g.sub, g.bx, hds, hp ds hps, fun v H3 Hm d g2 hd hR =>
    q v H3 Hm d ((g.trans g2 hb (B.mono e1)).pre e1) hd ⟨ds, hps, hR⟩⟩
theorem eb_opI {gg : Int → Int → V} {f : Int → Int → Int} (hg : ∀ i j, gg i j = .int (f i j)) {C : Int → Int → Prop} (ha : EvB K b ta σ Hd (isI p)) (hb' : EvB K b tb σ Hd (isI p')) (hc : ∀ i j, p i → p' j → C i j) : EvB K b (tOp (rI C gg) ta tb) σ Hd (isI fun k => ∃ i j, p i ∧ p' j ∧ k = f i j) := fun hb H s B Q q =>
  ha hb H s B _ fun v H1 Hn d g hd hp => hb'.mono g.dx (g.bn hb B) H1 g.sub g.bx _ fun v2 H2 Hm d2 g2 hd2 hp2 => by
    obtain ⟨i, rfl, pi⟩ := hp
    obtain ⟨j, rfl, pj⟩ := hp2
    cases hd
    cases hd2
    refine ⟨i, j, rfl, rfl, hc i j pi pj, ?_⟩
    rw [hg]
    exact q _ H2 Hm (.int (f i j)) (g.trans g2 hb B) (.int _) ⟨_, rfl, i, j, pi, pj, rfl⟩
theorem eb_opI0 {gg : Int → Int → V} {f : Int → Int → Int} (hg : ∀ i j, gg i j = .int (f i j)) (ha : EvB K b ta σ Hd (isI p)) (hb' : EvB K b tb σ Hd (isI p')) : EvB K b (tOp (rI0 gg) ta tb) σ Hd (isI fun k => ∃ i j, p i ∧ p' j ∧ k = f i j) := fun hb H s B Q q =>
  ha hb H s B _ fun v H1 Hn d g hd hp => hb'.mono g.dx (g.bn hb B) H1 g.sub g.bx _ fun v2 H2 Hm d2 g2 hd2 hp2 => by
    obtain ⟨i, rfl, pi⟩ := hp
    obtain ⟨j, rfl, pj⟩ := hp2
    cases hd
    cases hd2
    refine ⟨i, j, rfl, rfl, ?_⟩
    rw [hg]
    exact q _ H2 Hm (.int (f i j)) (g.trans g2 hb B) (.int _) ⟨_, rfl, i, j, pi, pj, rfl⟩
theorem eb_lst (h : EvBA K b tr σ Hd Ps) (hl : ∀ ds, Ps ds → ds.length ≤ 100000) : EvB K b (tLst tr) σ Hd (fun d => ∃ ds, d = .list ds ∧ Ps ds) := fun hb H s B Q q =>
  h hb H s B _ fun vs H1 Hn ds g hd hp => ⟨sz_of (by rw [dpa_len hd]; exact hl ds hp), fun a ha => q (.ref a) _ _ (.list ds) (g.trans (GrB.of (Gr.new g.sub ha) g.bx) hb B) (.lst (sq_of upd_same) (dpa_mono (Ex.new (fresh_back g.sub ha)) ds hd)) ⟨ds, rfl, hp⟩⟩
theorem eb_tup (h : EvBA K b tr σ Hd Ps) (hl : ∀ ds, Ps ds → ds.length ≤ 100000) : EvB K b (tTup tr) σ Hd (fun d => ∃ ds, d = .tuple ds ∧ Ps ds) := fun hb H s B Q q =>
  h hb H s B _ fun vs H1 Hn ds g hd hp => ⟨sz_of (by rw [dpa_len hd]; exact hl ds hp), fun a ha => q (.ref a) _ _ (.tuple ds) (g.trans (GrB.of (Gr.new g.sub ha) g.bx) hb B) (.tup (st_of upd_same) (dpa_mono (Ex.new (fresh_back g.sub ha)) ds hd)) ⟨ds, rfl, hp⟩⟩
theorem eb_ixL (ha : EvB K b ta σ Hd (fun d => ∃ ds, d = .list ds ∧ Ps ds)) (hi : EvB K b tb σ Hd (isI p)) (he : ∀ ds i, Ps ds → p i → ∃ d, atI ds i = some d) : EvB K b (tOp (rIxL K) ta tb) σ Hd (fun d => ∃ ds i, Ps ds ∧ p i ∧ atI ds i = some d) := fun hb H s B Q q =>
  ha hb H s B _ fun v H1 Hn d g hd hp => hi.mono g.dx (g.bn hb B) H1 g.sub g.bx _ fun v2 H2 Hm d2 g2 hd2 hp2 => by
    obtain ⟨ds, rfl, ps⟩ := hp
    obtain ⟨i, rfl, pi⟩ := hp2
    cases hd2
    cases dp_mono g2.dx _ hd with
    | @lst pa xs ds hs hall =>
      obtain ⟨d, hd⟩ := he ds i ps pi
      obtain ⟨w, h1, h2⟩ := dpa_at hall hd
      exact ⟨pa, xs, i, w, rfl, rfl, ex_l g2.sub hs, h1, q w H2 Hm d (g.trans g2 hb B) h2 ⟨ds, i, ps, pi, hd⟩⟩
theorem go_asgB (hb : Hd b.b = none) (s : Ex Hd H) (B : Bx H b) (h : EvB K b te σ Hd P) (k : ∀ v H' Hn d, GrB b Hd H Hn H' → Dp K Hn v d → P d → Go tz D (σ.set i (some v)) H') : Go (tSeq (tAsg te (gName i)) tz) D σ H := fun H1 e1 =>
  h hb H1 (s.trans e1) (B.mono e1) _ fun v H2 Hn d g hd hp => k v H2 Hn d (g.pre e1) hd hp H2 (Ex.refl _)
theorem go_retB (hb : Hd b.b = none) (s : Ex Hd H) (B : Bx H b) (h : EvB K b te σ Hd P) (k : ∀ v H' Hn d, GrB b Hd H Hn H' → Dp K Hn v d → P d → D.rt v H') : Go (tSeq (tRet te) tz) D σ H := fun H1 e1 =>
  h hb H1 (s.trans e1) (B.mono e1) _ fun v H2 Hn d g hd hp => k v H2 Hn d (g.pre e1) hd hp
theorem go_setL {l : Addr} {xs : List V} {j : Nat} (hl : H l = some (.lst xs)) (h : Ev te σ H v) (ho : Ev ta σ H (.ref l)) (hi : Ev tb σ H (.int (j : Int))) (hj : j < xs.length) (k : Go tz D σ (upd H l (.lst (xs.set j v)))) :
    Go (tSeq (tAsg te (gSub ta tb rSetL)) tz) D σ H := fun H1 e1 => q_setL (e1 _ _ hl) (h.mono e1) (ho.mono e1) (hi.mono e1) hj fun H2 e2 => k _ (ex_upd2 (e1.trans e2))
theorem go_app {l : Addr} {xs : List V} (hl : H l = some (.lst xs)) (ha : Ev ta σ H (.ref l)) (h : Ev te σ H v) (hz : xs.length < 100000) (k : Go tz D σ (upd H l (.lst (xs ++ [v])))) :
    Go (tSeq (tDrop (tBM K "list" rAppend ta (tCons te tNil))) tz) D σ H := fun H1 e1 => q_app (e1 _ _ hl) (ha.mono e1) (h.mono e1) hz fun H2 e2 => k _ (ex_upd2 (e1.trans e2))
end
end Cot

set_option Elab.async false
set_option linter.all false
set_option maxRecDepth 100000
set_option maxHeartbeats 4000000
/-! What is walked, and comprehensions over it. -/
namespace Cot
open PySem L2 Evl RZ
section
variable {K : PySem.W.Frag} {X : Cx} {H H' Hd Hd' Hn H1 H2 Hm : Hp} {σ : L2.St} {ta tb tc te tx tl : TE} {t u tt : TT} {x y z v v' : V} {d : PyData} {ds es : List PyData} {tr : TA} {D : Ends} {tu tw tz : TS} {i j j2 n : Nat} {wi : TI} {g : TG}
/-- what is walked: n turns; S tells the slots behind the target, by the turn and the slots ahead -/
def EvI (K : PySem.W.Frag) (wi : TI) (g : TG) (σ : L2.St) (Hd : Hp) (n : Nat) (S : Nat → L2.St → L2.St → Hp → Prop) : Prop := ∀ H, Ex Hd H → ∀ R : It → Hp → Prop,
  (∀ J H2 Hn (G : Hp → Prop) (Y : Nat → Hp → V → Hp → Prop), Gr Hd H Hn H2 → Walk J n G Y → (∀ H', Ex Hn H' → G H') →
    (∀ (i : Nat) (x : V) (H' H'' : Hp) (σ' : L2.St) (k : L2.St → Hp → Prop), i < n → Ex Hn H' → Y i H' x H'' → (∀ σ2 H3, Ex H' H3 → S i σ' σ2 Hn → k σ2 H3) → g x σ' H'' k) → R J H2) → wi σ H R
def SName (K : PySem.W.Frag) (j : Nat) (ds : List PyData) (i : Nat) (σ' σ2 : L2.St) (Hn : Hp) : Prop := ∃ v d, ds[i]? = some d ∧ Dp K Hn v d ∧ σ2 = σ'.set j (some v)
def SPair (K : PySem.W.Frag) (j j2 : Nat) (f f2 : Nat → Option PyData) (i : Nat) (σ' σ2 : L2.St) (Hn : Hp) : Prop := ∃ v v2 d d2, f i = some d ∧ f2 i = some d2 ∧ Dp K Hn v d ∧ Dp K Hn v2 d2 ∧ σ2 = (σ'.set j (some v)).set j2 (some v2)
def SInt (j : Nat) (lo : Int) (i : Nat) (σ' σ2 : L2.St) (_ : Hp) : Prop := σ2 = σ'.set j (some (.int (lo + (i : Int))))
theorem ei_list (h : EvD K tl σ Hd (.list ds)) : EvI K (iList K tl) (gName j) σ Hd ds.length (SName K j ds) := fun H s R r =>
  h H s _ fun v H2 Hn g hd => by
    cases hd with
    | @lst a xs ds hs hall =>
      refine ⟨a, rfl, ⟨xs, ex_l g.sub hs⟩, r _ H2 Hn _ _ g (by rw [← dpa_len hall]; exact walk_list) (fun H' e => ex_l e hs) fun i x H' H'' σ' k hi e y q => ?_⟩
      obtain ⟨rfl, hx⟩ := y
      obtain ⟨d, h1, h2⟩ := dpa_get2 hall hx
      exact q _ _ (Ex.refl _) ⟨x, d, h1, h2, rfl⟩
theorem ei_tup (h : EvD K tl σ Hd (.tuple ds)) : EvI K (iTup K tl) (gName j) σ Hd ds.length (SName K j ds) := fun H s R r =>
  h H s _ fun v H2 Hn g hd => by
    cases hd with
    | @tup a xs ds hs hall =>
      refine ⟨a, rfl, ⟨xs, ex_t g.sub hs⟩, r _ H2 Hn _ _ g (by rw [← dpa_len hall]; exact walk_tup) (fun H' e => ex_t e hs) fun i x H' H'' σ' k hi e y q => ?_⟩
      obtain ⟨rfl, hx⟩ := y
      obtain ⟨d, h1, h2⟩ := dpa_get2 hall hx
      exact q _ _ (Ex.refl _) ⟨x, d, h1, h2, rfl⟩
theorem ei_range1 {m : Int} (h : EvA tr σ Hd [.int m]) (hm : -100000 ≤ m ∧ m ≤ 100000) : EvI K (iRng1 tr) (gName j) σ Hd m.toNat (SInt j 0) := fun H s R r =>
  h H s _ fun H2 e2 => ⟨m, rfl, by omega, by omega, r _ H2 Hd _ _ (Gr.ext s e2) walk_range (fun _ _ => trivial) fun i x H' H'' σ' k hi e y q => by
    obtain ⟨rfl, rfl⟩ := y
    exact q _ _ (Ex.refl _) rfl⟩
theorem ei_range2 {lo m : Int} (h : EvA tr σ Hd [.int lo, .int m]) (hl : -100000 ≤ lo ∧ lo ≤ 100000) (hm : -100000 ≤ m ∧ m ≤ 100000) : EvI K (iRng2 tr) (gName j) σ Hd (m - lo).toNat (SInt j lo) := fun H s R r =>
  h H s _ fun H2 e2 => ⟨lo, m, rfl, ⟨by omega, by omega, by omega, by omega⟩, r _ H2 Hd _ _ (Gr.ext s e2) walk_range (fun _ _ => trivial) fun i x H' H'' σ' k hi e y q => by
    obtain ⟨rfl, rfl⟩ := y
    exact q _ _ (Ex.refl _) rfl⟩
/-- the target of a pair: two names -/
abbrev g2 (K : PySem.W.Frag) (j j2 : Nat) : TG := gTup K 2 (gCons (gName j) (gCons (gName j2) gNil))
theorem pair_turn {f f2 : Nat → Option V} {fd fd2 : Nat → Option PyData} {x : V} {H' H'' : Hp} {σ' : L2.St} {k : L2.St → Hp → Prop} (hf : ∀ v, f i = some v → ∃ d, fd i = some d ∧ Dp K Hn v d) (hf2 : ∀ v, f2 i = some v → ∃ d, fd2 i = some d ∧ Dp K Hn v d)
    (y : YPair f f2 i H' x H'') (q : ∀ σ2 H3, Ex H' H3 → SPair K j j2 fd fd2 i σ' σ2 Hn → k σ2 H3) : g2 K j j2 x σ' H'' k := by
  obtain ⟨T, a, b, rfl, hT, rfl, h1, h2⟩ := y
  obtain ⟨d, e1, q1⟩ := hf a h1
  obtain ⟨d2, e2, q2⟩ := hf2 b h2
  exact ⟨T, [a, b], rfl, st_of upd_same, rfl, a, [b], rfl, b, [], rfl, rfl, q _ _ (Ex.new hT) ⟨a, b, d, d2, e1, e2, q1, q2, rfl⟩⟩
theorem ei_zipL (h : EvDA K tr σ Hd [.list ds, .list es]) (hl : ds.length = es.length) : EvI K (iZipA K tr) (g2 K j j2) σ Hd ds.length (SPair K j j2 (fun i => ds[i]?) (fun i => es[i]?)) := fun H s R r =>
  h H s _ fun vs H2 Hn g hd => by
    cases hd with
    | cons h1 h2 =>
      cases h2 with
      | cons h2 h3 =>
        cases h3
        cases h1 with
        | @lst a xs ds hs hall =>
          cases h2 with
          | @lst b ys es hs2 hall2 =>
            refine ⟨a, b, xs, ys, rfl, Or.inl ⟨ex_l g.sub hs, ex_l g.sub hs2, r _ H2 Hn _ _ g (walk_zip (xs := xs) (ys := ys) (by rw [dpa_len hall, dpa_len hall2]; omega)) (fun H' e => ⟨ex_l e hs, ex_l e hs2⟩) fun i x H' H'' σ' k hi e y q => ?_⟩⟩
            exact pair_turn (fun v e => dpa_get2 hall e) (fun v e => dpa_get2 hall2 e) y q
theorem walk_zipT {a b : Addr} {xs ys : List V} {n : Nat} (hn : n = min xs.length ys.length) : Walk (ItzT K a b) n (fun H => SqT K H a xs ∧ SqT K H b ys) (YPair (fun i => xs[i]?) (fun i => ys[i]?)) := by
  subst hn
  refine ⟨fun i _ hi q => ?_, fun _ q => ⟨xs, ys, q.1, q.2, by omega⟩, fun i H v H' _ q y => ?_⟩
  · have h1 : i < xs.length := by omega
    have h2 : i < ys.length := by omega
    exact ⟨xs, ys, xs[i], ys[i], q.1, q.2, by simp [h1], by simp [h2]⟩
  · obtain ⟨T, x, z, h1, h2, h3, h4, h5⟩ := y
    exact ⟨T, x, z, h1, h2, h3, h4 xs q.1, h5 ys q.2⟩
theorem ei_zipT (h : EvDA K tr σ Hd [.tuple ds, .tuple es]) (hl : ds.length = es.length) : EvI K (iZipA K tr) (g2 K j j2) σ Hd ds.length (SPair K j j2 (fun i => ds[i]?) (fun i => es[i]?)) := fun H s R r =>
  h H s _ fun vs H2 Hn g hd => by
    cases hd with
    | cons h1 h2 =>
      cases h2 with
      | cons h2 h3 =>
        cases h3
        cases h1 with
        | @tup a xs ds hs hall =>
          cases h2 with
          | @tup b ys es hs2 hall2 =>
            refine ⟨a, b, xs, ys, rfl, Or.inr ⟨ex_t g.sub hs, ex_t g.sub hs2, r _ H2 Hn _ _ g (walk_zipT (xs := xs) (ys := ys) (by rw [dpa_len hall, dpa_len hall2]; omega)) (fun H' e => ⟨ex_t e hs, ex_t e hs2⟩) fun i x H' H'' σ' k hi e y q => ?_⟩⟩
            exact pair_turn (fun v e => dpa_get2 hall e) (fun v e => dpa_get2 hall2 e) y q
theorem ei_enum (h : EvDA K tr σ Hd [.list ds]) : EvI K (iEnum K tr) (g2 K j j2) σ Hd ds.length (SPair K j j2 (fun i => some (.int (i : Int))) (fun i => ds[i]?)) := fun H s R r =>
  h H s _ fun vs H2 Hn g hd => by
    cases hd with
    | cons h1 h2 =>
      cases h2
      cases h1 with
      | @lst a xs ds hs hall =>
        refine ⟨a, xs, rfl, ex_l g.sub hs, r _ H2 Hn _ _ g (by rw [← dpa_len hall]; exact walk_enum) (fun H' e => ex_l e hs) fun i x H' H'' σ' k hi e y q => ?_⟩
        refine pair_turn (fun v e => ?_) (fun v e => dpa_get2 hall e) y q
        cases e
        exact ⟨_, rfl, .int _⟩

/-! ### comprehensions -/
def givenD (n : Nat) (f : Nat → Bool) (v : Nat → PyData) : List PyData := ((List.range n).filter f).map v
theorem givenD_yes {f : Nat → Bool} {v : Nat → PyData} (h : f n = true) : givenD (n + 1) f v = givenD n f v ++ [v n] := by
  unfold givenD
  rw [List.range_succ, List.filter_append, List.map_append, List.filter_cons, if_pos h] <;> rfl
theorem givenD_no {f : Nat → Bool} {v : Nat → PyData} (h : f n = false) : givenD (n + 1) f v = givenD n f v := by
  unfold givenD
  rw [List.range_succ, List.filter_append, List.map_append, List.filter_cons, if_neg (by rw [h]; decide)]
  show _ ++ [] = _
  rw [List.append_nil]
theorem givenD_len (n : Nat) (f : Nat → Bool) (v : Nat → PyData) : (givenD n f v).length ≤ n := by
  unfold givenD
  rw [List.length_map]
  have h := List.length_filter_le f (List.range n)
  rw [List.length_range] at h
  exact h
theorem givenD_all (n : Nat) (v : Nat → PyData) : givenD n (fun _ => true) v = (List.range n).map v := by
  unfold givenD
  rw [List.filter_eq_self.mpr (fun _ _ => rfl)]
theorem range_get (ds : List PyData) (F : PyData → PyData) : (List.range ds.length).map (fun i => F (ds[i]?.getD .none)) = ds.map F := by
  apply List.ext_getElem
  · simp
  · intro i h1 h2
    simp at h1 h2 ⊢
    rw [List.getElem?_eq_getElem h1]
    rfl
theorem et_yes : EvT tYes σ H true := fun H1 e Q q => q H1 (Ex.refl H1)
theorem en_lc {S : Nat → L2.St → L2.St → Hp → Prop} {vs : List Nat} (h : EvI K wi g σ Hd n S) (hn : n ≤ 40000) (f : Nat → Bool) (v : Nat → PyData)
    (ht : ∀ (i : Nat) (σ2 : L2.St) (Hn : Hp), i < n → Ex Hd Hn → S i (wipe σ vs) σ2 Hn → wipe σ2 vs = wipe σ vs ∧ EvT tt σ2 Hn (f i) ∧ (f i = true → EvD K te σ2 Hn (v i))) : EvN K (tLc wi g tt te vs) σ Hd (givenD n f v) := fun H s Q q =>
  h H s _ fun J H1 Hn G Y gr w hG hY Dl hD => by
    refine lc_it w (fun i H' => i ≤ n ∧ ∃ Hm acc, Gr Hn H1 Hm H' ∧ Hm Dl = none ∧ H' Dl = some (.lst acc) ∧ DpAll K Hm acc (givenD i f v)) ⟨Nat.zero_le _, Hn, [], Gr.alloc gr.sub hD, fresh_back gr.sub hD, upd_same, .nil⟩ (fun i H' _ p => ?_) (fun i x H' H'' hi p y => ?_) (fun H' p => ?_)
    · obtain ⟨_, Hm, acc, g1, _⟩ := p
      exact hG H' (g1.dx.trans g1.sub)
    · obtain ⟨_, Hm, acc, g1, hm, h2, hac⟩ := p
      refine hY i x H' H'' _ _ hi (g1.dx.trans g1.sub) y fun σ2 H3 e3 hS => ?_
      obtain ⟨hw, hT, hE⟩ := ht i σ2 Hn hi gr.dx hS
      refine ⟨hw, hT H3 ((g1.dx.trans g1.sub).trans e3) _ fun H4 e4 => ?_⟩
      have al : acc.length < sizeLine := sz_lt (by have := givenD_len i f v; rw [dpa_len hac]; omega)
      cases hf : f i with
      | false =>
        show (i + 1 ≤ n ∧ _)
        refine ⟨hi, Hm, acc, g1.post (e3.trans e4), hm, (e3.trans e4) _ _ h2, ?_⟩
        rw [givenD_no hf]
        exact hac
      | true =>
        show te σ2 H4 _
        refine ((hE hf).mono g1.dx) H4 ((g1.sub.trans e3).trans e4) _ fun y H5 Ho g5 hy => ?_
        have h4 : H4 Dl = some (.lst acc) := (e3.trans e4) _ _ h2
        have ho : Ho Dl = none := g5.fr _ _ h4 hm
        have hD1 : H1 Dl = none := hD
        refine ⟨acc, g5.ex _ _ h4, al, hi, Ho, acc ++ [y], ⟨Ex.mut ((g1.ex.trans (e3.trans e4)).trans g5.ex) hD1, g1.dx.trans g5.dx, Ex.mut g5.sub ho, fun a o ha hd => g5.fr a o ((e3.trans e4) a o (g1.ex a o ha)) (g1.fr a o ha hd)⟩, ho, upd_same, ?_⟩
        rw [givenD_yes hf]
        exact dpa_app (dpa_mono g5.dx _ hac) (.cons hy .nil)
    · obtain ⟨_, Hm, acc, g1, hm, h2, hac⟩ := p
      exact q Dl acc H' Hm (gr.trans g1) (fresh_back gr.ex hD) hm h2 hac
theorem ev_all {bs : List Bool} (h : EvD K ta σ Hd (.list (bs.map .bool))) : Ev (tCB (rAll K) (tCons ta tNil)) σ Hd (.bl (bs.all id)) := fun H s Q q =>
  h H s _ fun v H2 Hn g hd => by
    cases hd with
    | @lst a xs ds hs hall =>
      have e := dpa_bools_inv hall
      subst e
      exact ⟨a, bs, rfl, ex_l g.sub hs, q H2 g.ex⟩
theorem ev_sum {bs : List Int} (h : EvD K ta σ Hd (.list (bs.map .int))) : Ev (tCB (rSum K) (tCons ta tNil)) σ Hd (.int bs.sum) := fun H s Q q =>
  h H s _ fun v H2 Hn g hd => by
    cases hd with
    | @lst a xs ds hs hall =>
      have e := dpa_ints_inv hall
      subst e
      exact ⟨a, bs, rfl, ex_l g.sub hs, q H2 g.ex⟩

/-! ### types of data -/
def tyN : PyData → String
  | .none => "NoneType"
  | .bool _ => "bool"
  | .int _ => "int"
  | .str _ => "str"
  | .list _ => "list"
  | .tuple _ => "tuple"
  | .dict _ => "dict"
theorem dp_ty (h : Dp K H v d) : TyX K H v (.type (tyN d)) := by
  cases h with
  | non => exact .base .non
  | bl b => exact .base (.bl b)
  | int i => exact .base (.int i)
  | str z => exact .base (.str z)
  | lst hs _ =>
    rcases hs with (h | ⟨o, h⟩) | ⟨o, its, n, h1, h2, _⟩
    · exact .base (.lst h)
    · exact .base (.frz h)
    · exact .kList h1 h2
  | tup hs _ =>
    rcases hs with (h | ⟨o, h⟩) | ⟨o, its, n, h1, h2, _⟩
    · exact .base (.tup h)
    · exact .fTuple h
    · exact .kTuple h1 h2
theorem ev_isi {T : String} {b : Bool} (ha : EvD K ta σ Hd d) (k : kitB (tyN d) T = some b) : Ev (tCB (rIsi K) (tCons ta (tCons (tC (.ty T)) tNil))) σ Hd (.bl b) := fun H s Q q =>
  ha H s _ fun v H2 Hn g hd => ⟨v, .ty T, _, _, b, rfl, .ty T, dp_ty (dp_mono g.sub _ hd), kit_ty k, q H2 g.ex⟩
theorem ev_isiT2 {T T2 : String} {b b2 : Bool} (ha : EvD K ta σ Hd d) (k : kitB (tyN d) T = some b) (k2 : kitB (tyN d) T2 = some b2) : Ev (tCB (rIsiT K) (tCons ta (tCons (tTup (tCons (tC (.ty T)) (tCons (tC (.ty T2)) tNil))) tNil))) σ Hd (.bl (b || b2)) := fun H s Q q =>
  ha H s _ fun v H2 Hn g hd => ⟨by show 2 ≤ sizeLine; decide, fun p hp => ⟨v, p, [.ty T, .ty T2], _, [.type T, .type T2], b || b2, rfl, upd_same, .cons (.ty T) (.cons (.ty T2) .nil), dp_ty (dp_mono (g.sub.trans (Ex.new hp)) _ hd), by
    refine kitAny_cons (kit_ty k) (fun e => kitAny_cons (kit_ty k2) (fun e2 => ?_) (fun e2 => ?_)) (fun e => ?_)
    · rw [e, e2]; rfl
    · rw [e2, Bool.or_true]
    · rw [e]; rfl, q _ (g.ex.trans (Ex.new hp))⟩⟩
theorem ev_eqD {e : PyData} (ha : EvD K ta σ Hd d) (hb : EvD K tb σ Hd e) (hd : SeqAt.shaped d = true) (he : SeqAt.shaped e = true) : Ev (tOp (rEqD K) ta tb) σ Hd (.bl (PyData.eqv d e)) := fun H s Q q =>
  ha H s _ fun v H2 Hn g h1 => hb.mono g.dx H2 g.sub _ fun v2 H3 Hm g2 h2 => ⟨d, e, dp_mono (g2.dx.trans g2.sub) _ h1, dp_mono g2.sub _ h2, hd, he, q H3 (g.ex.trans g2.ex)⟩
theorem ev_neD {e : PyData} (ha : EvD K ta σ Hd d) (hb : EvD K tb σ Hd e) (hd : SeqAt.shaped d = true) (he : SeqAt.shaped e = true) : Ev (tOp (rNeD K) ta tb) σ Hd (.bl (!PyData.eqv d e)) := fun H s Q q =>
  ha H s _ fun v H2 Hn g h1 => hb.mono g.dx H2 g.sub _ fun v2 H3 Hm g2 h2 => ⟨d, e, dp_mono (g2.dx.trans g2.sub) _ h1, dp_mono g2.sub _ h2, hd, he, q H3 (g.ex.trans g2.ex)⟩
end
end Cot

namespace Cot
open PySem L2 Evl
theorem kb_NoneType_bool : kitB "NoneType" "bool" = some false := by decide +kernel
theorem kb_NoneType_int : kitB "NoneType" "int" = some false := by decide +kernel
theorem kb_NoneType_str : kitB "NoneType" "str" = some false := by decide +kernel
theorem kb_NoneType_list : kitB "NoneType" "list" = some false := by decide +kernel
theorem kb_NoneType_tuple : kitB "NoneType" "tuple" = some false := by decide +kernel
theorem kb_bool_bool : kitB "bool" "bool" = some true := by decide +kernel
theorem kb_bool_int : kitB "bool" "int" = some true := by decide +kernel
theorem kb_bool_str : kitB "bool" "str" = some false := by decide +kernel
theorem kb_bool_list : kitB "bool" "list" = some false := by decide +kernel
theorem kb_bool_tuple : kitB "bool" "tuple" = some false := by decide +kernel
theorem kb_int_bool : kitB "int" "bool" = some false := by decide +kernel
theorem kb_int_int : kitB "int" "int" = some true := by decide +kernel
theorem kb_int_str : kitB "int" "str" = some false := by decide +kernel
theorem kb_int_list : kitB "int" "list" = some false := by decide +kernel
theorem kb_int_tuple : kitB "int" "tuple" = some false := by decide +kernel
theorem kb_str_bool : kitB "str" "bool" = some false := by decide +kernel
theorem kb_str_int : kitB "str" "int" = some false := by decide +kernel
theorem kb_str_str : kitB "str" "str" = some true := by decide +kernel
theorem kb_str_list : kitB "str" "list" = some false := by decide +kernel
theorem kb_str_tuple : kitB "str" "tuple" = some false := by decide +kernel
theorem kb_list_bool : kitB "list" "bool" = some false := by decide +kernel
theorem kb_list_int : kitB "list" "int" = some false := by decide +kernel
theorem kb_list_str : kitB "list" "str" = some false := by decide +kernel
theorem kb_list_list : kitB "list" "list" = some true := by decide +kernel
theorem kb_list_tuple : kitB "list" "tuple" = some false := by decide +kernel
theorem kb_tuple_bool : kitB "tuple" "bool" = some false := by decide +kernel
theorem kb_tuple_int : kitB "tuple" "int" = some false := by decide +kernel
theorem kb_tuple_str : kitB "tuple" "str" = some false := by decide +kernel
theorem kb_tuple_list : kitB "tuple" "list" = some false := by decide +kernel
theorem kb_tuple_tuple : kitB "tuple" "tuple" = some true := by decide +kernel
/-- data of a depth of at most n, without dicts -/
def okD : Nat → PyData → Prop
  | _, .none => True
  | _, .bool _ => True
  | _, .int _ => True
  | _, .str _ => True
  | _, .dict _ => False
  | 0, .list ds => ds = []
  | 0, .tuple ds => ds = []
  | n + 1, .list ds => ds.length ≤ 40000 ∧ ∀ e ∈ ds, okD n e
  | n + 1, .tuple ds => ds.length ≤ 40000 ∧ ∀ e ∈ ds, okD n e
def spSame (K : PySem.W.Frag) : Nat → Sp
  | 0 => fun _ _ _ _ => False
  | n + 1 => fun vs H Q _ => ∃ Hd d v1 v2, vs = [v1, v2] ∧ Ex Hd H ∧ Dp K Hd v1 d ∧ Dp K Hd v2 d ∧ okD n d ∧ ∀ H2, Ex H H2 → Q (.bl true) H2
section
variable {K : PySem.W.Frag} {X : Cx} {H H' Hd Hd' Hn H1 H2 Hm : Hp} {σ : L2.St} {ta tb tc te tx tl : TE} {t u tt : TT} {x y z v v' : V} {d : PyData} {ds es : List PyData} {tr : TA} {D : Ends} {tu tw tz : TS} {i j j2 n : Nat} {wi : TI} {g : TG}
theorem ev_same {E : XK} (h : EvDA K tr σ Hd [d, d]) (hk : okD n d) : Ev (tCall (spSame K (n + 1)) [] E tr) σ Hd (.bl true) := fun H s Q q =>
  h H s _ fun vs H2 Hn g hd => by
    cases hd with
    | cons h1 h2 =>
      cases h2 with
      | cons h2 h3 =>
        cases h3
        exact ⟨Hn, d, _, _, rfl, g.sub, h1, h2, hk, fun H3 e3 => q H3 (g.ex.trans e3)⟩
theorem go_whenT (h : EvT t σ H true) (h1 : Go tu { D with nx := tz D } σ H) : Go (tSeq (tIfS t tu tNext) tz) D σ H := go_when h (fun _ => h1) (fun e => by cases e)
theorem go_whenF (h : EvT t σ H false) (h2 : Go tz D σ H) : Go (tSeq (tIfS t tu tNext) tz) D σ H := go_when h (fun e => by cases e) (fun _ => h2)
end
end Cot
namespace Cot
open PySem L2 Evl
section
variable {K : PySem.W.Frag} {X : Cx} {H H' Hd Hd' Hn H1 H2 Hm : Hp} {σ : L2.St} {ta tb tc te tx tl : TE} {t u tt : TT} {x y z v v' : V} {d : PyData} {ds es : List PyData} {tr : TA} {D : Ends} {tu tw tz : TS} {i j j2 n : Nat} {wi : TI} {g : TG}
theorem go_for {S : Nat → L2.St → L2.St → Hp → Prop} (s : Ex Hd H) (h : EvI K wi g σ Hd n S) (Pv : Hp → Nat → L2.St → Hp → Prop) (h0 : ∀ H' Hn, Gr Hd H Hn H' → Pv Hn 0 σ H') (hE : ∀ Hn i σ' H', Pv Hn i σ' H' → Ex Hn H')
    (hs : ∀ Hn i σ' σ2 H', Ex Hd Hn → i < n → Pv Hn i σ' H' → S i σ' σ2 Hn → Go tu { D with nx := Pv Hn (i + 1), ct := Pv Hn (i + 1), bk := tz D } σ2 H')
    (hd : ∀ Hn σ' H', Ex Hd Hn → Pv Hn n σ' H' → Go tz D σ' H') : Go (tSeq (tFor wi g tu) tz) D σ H := fun H1 e1 =>
  h H1 (s.trans e1) _ fun J H2 Hn G Y gr w hG hY => by
    refine for_it w (Pv Hn) (h0 H2 Hn (gr.pre e1)) (fun i σ' H' _ p => hG H' (hE Hn i σ' H' p)) (fun i x σ' H' H'' hi p y => ?_) (fun σ' H' p => hd Hn σ' H' gr.dx p H' (Ex.refl _))
    exact hY i x H' H'' σ' _ hi (hE Hn i σ' H' p) y fun σ2 H3 e3 hS => hs Hn i σ' σ2 H' gr.dx hi p hS H3 e3
theorem eu_of (h : EvA tr σ Hd [x]) : True := trivial
end
end Cot
namespace Cot
open PySem L2 Evl
section
variable {K : PySem.W.Frag} {b : Bid} {H H' Hd Hd' Hn H1 H2 Hm : Hp} {σ : L2.St} {ta tb te : TE} {tr : TA} {n : Nat} {p : Int → Prop}
def AllP (p : Int → Prop) (n : Nat) (ds : List PyData) : Prop := ds.length = n ∧ ∀ d ∈ ds, isI p d
theorem ap_nil : EvBA K b tNil σ Hd (AllP p 0) := fun hb H s B Q q => eba_nil hb H s B Q fun vs H2 Hn ds g h e => q vs H2 Hn ds g h (by subst e; exact ⟨rfl, fun _ h => by cases h⟩)
theorem ap_cons (h : EvB K b ta σ Hd (isI p)) (hr : EvBA K b tr σ Hd (AllP p n)) : EvBA K b (tCons ta tr) σ Hd (AllP p (n + 1)) := fun hb H s B Q q => eba_cons h hr hb H s B Q fun vs H2 Hn ds g hd hp => q vs H2 Hn ds g hd (by
  obtain ⟨d, es, rfl, h1, h2, h3⟩ := hp
  refine ⟨by rw [List.length_cons, h2], fun e he => ?_⟩
  rcases List.mem_cons.mp he with rfl | he
  · exact h1
  · exact h3 e he)
theorem atI_get {α : Type} {ds : List α} {i : Int} (h0 : 0 ≤ i) (h1 : i < (ds.length : Int)) : ∃ d, atI ds i = some d ∧ d ∈ ds := by
  have h : i.toNat < ds.length := by omega
  refine ⟨ds[i.toNat], ?_, List.getElem_mem h⟩
  unfold atI ixN
  rw [if_pos h0, if_pos (by omega)]
  simp [h]
theorem eb_pick (h : EvBA K b tr σ Hd (AllP p n)) (hi : EvB K b tb σ Hd (isI fun i => 0 ≤ i ∧ i < (n : Int))) (hn : n ≤ 100000) : EvB K b (tOp (rIxL K) (tLst tr) tb) σ Hd (isI p) := by
  refine EvB.imp (eb_ixL (eb_lst h fun ds h => by rw [h.1]; exact hn) hi fun ds i h1 h2 => ?_) ?_
  · obtain ⟨d, h3, _⟩ := atI_get (ds := ds) h2.1 (by rw [h1.1]; exact h2.2)
    exact ⟨d, h3⟩
  · rintro d ⟨ds, i, h1, h2, h3⟩
    obtain ⟨d', h4, h5⟩ := atI_get (ds := ds) h2.1 (by rw [h1.1]; exact h2.2)
    rw [h3] at h4
    cases h4
    exact h1.2 d h5
theorem eb_int {q : Int → Prop} {m : Int} (h : Ev te σ Hd (.int m)) (hq : q m) : EvB K b te σ Hd (isI q) := (eb_ev h).imp fun d ⟨i, e, e2⟩ => ⟨i, e, by rw [e2]; exact hq⟩
theorem EvB.impI {p q : Int → Prop} (h : EvB K b te σ Hd (isI p)) (k : ∀ i, p i → q i) : EvB K b te σ Hd (isI q) := h.imp fun d ⟨i, e, e2⟩ => ⟨i, e, k i e2⟩
end
end Cot
namespace Cot
open PySem L2 Evl
section
variable {K : PySem.W.Frag} {b : Bid} {H H' Hd Hd' Hn H1 H2 Hm : Hp} {σ : L2.St} {ta tb te : TE} {tr : TA} {n i j : Nat} {p : Int → Prop} {Ps : List PyData → Prop} {D : Ends} {tu tz : TS} {ds : List PyData}
theorem go_forTB (hb : Hd b.b = none) (s : Ex Hd H) (B : Bx H b) (h : EvB K b te σ Hd (fun d => ∃ ds, d = .tuple ds ∧ Ps ds)) (Pv : List PyData → Hp → Nat → L2.St → Hp → Prop)
    (h0 : ∀ H' Hn ds, GrB b Hd H Hn H' → Ps ds → Pv ds Hn 0 σ H') (hE : ∀ ds Hn i σ' H', Pv ds Hn i σ' H' → Ex Hn H')
    (hs : ∀ ds Hn i σ' H' v d, Ps ds → Ex Hd Hn → Hn b.b = none → ds[i]? = some d → Dp K Hn v d → Pv ds Hn i σ' H' → Go tu { D with nx := Pv ds Hn (i + 1), ct := Pv ds Hn (i + 1), bk := tz D } (σ'.set j (some v)) H')
    (hd : ∀ ds Hn σ' H', Ps ds → Ex Hd Hn → Hn b.b = none → Pv ds Hn ds.length σ' H' → Go tz D σ' H') : Go (tSeq (tFor (iTup K te) (gName j) tu) tz) D σ H := fun H1 e1 =>
  h hb H1 (s.trans e1) (B.mono e1) _ fun v H2 Hn d g hdp hp => by
    obtain ⟨ds, rfl, ps⟩ := hp
    have hbn := g.bn hb (B.mono e1)
    cases hdp with
    | @tup a xs ds hx hall =>
      refine ⟨a, rfl, ⟨xs, ex_t g.sub hx⟩, for_it (n := ds.length) (G := fun H => SqT K H a xs) (Y := YAt xs) (by rw [← dpa_len hall]; exact walk_tup) (Pv ds Hn) (h0 H2 Hn ds (g.pre e1) ps) (fun i σ' H' _ p => ex_t (hE ds Hn i σ' H' p) hx) (fun i x σ' H' H'' hi p y => ?_) (fun σ' H' p => hd ds Hn σ' H' ps g.dx hbn p H' (Ex.refl _))⟩
      obtain ⟨rfl, hx⟩ := y
      obtain ⟨d, q1, q2⟩ := dpa_get2 hall hx
      exact hs ds Hn i σ' _ x d ps g.dx hbn q1 q2 p _ (Ex.refl _)
theorem dpa_rep {vs : List V} (h : DpAll K H vs ds) : ∀ k : Nat, DpAll K H (List.replicate k vs).flatten (List.replicate k ds).flatten
  | 0 => .nil
  | k + 1 => by
    rw [List.replicate_succ, List.replicate_succ, List.flatten_cons, List.flatten_cons]
    exact dpa_app h (dpa_rep h k)
theorem en_rep {k : Int} (h : EvN K ta σ Hd ds) (hk : Ev tb σ Hd (.int k)) (h0 : -1000 ≤ k ∧ k ≤ 1000) (hl : ds.length * k.toNat ≤ 100000) : EvN K (tOp rRep ta tb) σ Hd (List.replicate k.toNat ds).flatten := fun H s Q q =>
  h H s _ fun p xs H2 Hn g hp hn h2 hd => hk.mono g.dx H2 g.sub _ fun H3 e3 => ⟨p, k, xs, rfl, rfl, e3 _ _ h2, by omega, by omega, by rw [dpa_len hd]; exact sz_of hl, fun r hr => q r _ _ Hn ((g.post e3).trans (Gr.alloc (g.sub.trans e3) hr)) (fresh_back (g.ex.trans e3) hr) (fresh_back (g.sub.trans e3) hr) upd_same (dpa_rep hd _)⟩
end
end Cot
namespace Cot
open PySem L2 Evl
section
variable {K : PySem.W.Frag} {x qual : Str} {params : Arguments} {body : List Stmt} {scope : Scope} {dvs : List V} {kws : List (Str × V)} {f : Addr} {fd : FuncData} {ps : List Str}
theorem bindsAll (F : FunD K x qual params body scope dvs kws f fd) (n : Nat) (hd : dvs ≠ []) (hn : n = ps.length)
    (h : ∀ (T : Addr) (kV doc pm : Value) (an : Option Addr) (cdv ct : Value) (us its : List Value), us.length = n → its.length = dvs.length →
      ∃ k, bindArgs (PySem.W.fnOf x qual params body scope (.ref T) kV doc pm an cdv ct) ⟨us, []⟩ = seqItems? (.ref T) >>= k ∧ k (some its.toArray) = pure (ps.zip us)) : Binds K fd ps [] := by
  obtain ⟨ds, v, b⟩ := F.binds1 (ps := ps) n dvs.length hd (by omega) (fun T kV doc pm an cdv ct us its hu hi => by
    obtain ⟨k, h1, h2⟩ := h T kV doc pm an cdv ct us its hu hi
    refine ⟨k, h1, ?_⟩
    rw [List.drop_of_length_le (by omega), List.append_nil]
    exact h2)
  rw [List.drop_of_length_le (Nat.le_refl _)] at v
  cases v
  exact b
theorem bindsKw (F : FunD K x qual params body scope dvs kws f fd) {n : Nat} {ks : List Str} (hd : dvs ≠ [])
    (h : ∀ (T : Addr) (kV doc pm : Value) (an : Option Addr) (cdv ct : Value) (us ws its : List Value), us.length = n → ws.length = ks.length → its.length = dvs.length →
      ∃ k, bindArgs (PySem.W.fnOf x qual params body scope (.ref T) kV doc pm an cdv ct) ⟨us, ks.zip ws⟩ = seqItems? (.ref T) >>= k ∧ k (some its.toArray) = pure (ps.zip (us ++ ws))) :
    KBn K fd ps n ks (fun us ws => us ++ ws) (fun us ws => us ++ ws) := by
  obtain ⟨oc, od, dV, kV, doc, pm, an, cdv, ct, osl, rfl, lk, hcd, hD, hK⟩ := F.ex
  rcases hD with ⟨e, _⟩ | ⟨_, T, o, its, m, rfl, lT, oT, rT⟩
  · exact absurd e hd
  · refine ⟨fun s us ws X h1 h2 => ?_, fun r1 r2 => r1.append r2⟩
    obtain ⟨k, e1, e2⟩ := h T kV doc pm an cdv ct us ws its h1 h2 rT.length.symm
    refine BindsTo.of_looks fun M => ?_
    rw [e1]
    exact looks_items X lT oT (.of_pure e2)
end
end Cot

set_option Elab.async false
set_option linter.all false
set_option maxRecDepth 100000
set_option maxHeartbeats 4000000
/-! Lists that stand in the heap, loops that draw, equality of data. -/
namespace Cot
open PySem L2 Evl
def okE : Nat → PyData → Prop
  | _, .none => True
  | _, .bool _ => True
  | _, .int _ => True
  | _, .str x => PyData.strOk x = true
  | _, .dict _ => False
  | 0, .list ds => ds = []
  | 0, .tuple ds => ds = []
  | n + 1, .list ds => ∀ e ∈ ds, okE n e
  | n + 1, .tuple ds => ∀ e ∈ ds, okE n e
theorem canAll : ∀ {ds : List PyData}, (∀ e ∈ ds, e.canLay0 = true) → PyData.canLayAll0 ds = true
  | [], _ => by unfold PyData.canLayAll0; rfl
  | d :: ds, h => by
    unfold PyData.canLayAll0
    rw [h d List.mem_cons_self, canAll fun e he => h e (List.mem_cons_of_mem _ he)]
    rfl
theorem depAll {n : Nat} : ∀ {ds : List PyData}, (∀ e ∈ ds, e.depth ≤ n) → PyData.depthAll ds ≤ n
  | [], _ => by unfold PyData.depthAll; omega
  | d :: ds, h => by
    unfold PyData.depthAll
    have h1 := h d List.mem_cons_self
    have h2 := depAll fun e he => h e (List.mem_cons_of_mem _ he)
    omega
theorem okE_lay : ∀ (n : Nat) (d : PyData), okE n d → d.canLay0 = true ∧ d.depth ≤ n + 1
  | n, .none, _ => ⟨by unfold PyData.canLay0; rfl, by unfold PyData.depth; omega⟩
  | n, .bool _, _ => ⟨by unfold PyData.canLay0; rfl, by unfold PyData.depth; omega⟩
  | n, .int _, _ => ⟨by unfold PyData.canLay0; rfl, by unfold PyData.depth; omega⟩
  | n, .str x, h => ⟨by unfold PyData.canLay0; cases n <;> exact h, by unfold PyData.depth; omega⟩
  | n, .dict _, h => by cases n <;> exact h.elim
  | 0, .list ds, h => by
    have e : ds = [] := h
    subst e
    exact ⟨by unfold PyData.canLay0; exact canAll (fun _ h => by cases h), by unfold PyData.depth PyData.depthAll; omega⟩
  | 0, .tuple ds, h => by
    have e : ds = [] := h
    subst e
    exact ⟨by unfold PyData.canLay0; exact canAll (fun _ h => by cases h), by unfold PyData.depth PyData.depthAll; omega⟩
  | n + 1, .list ds, h => ⟨by unfold PyData.canLay0; exact canAll fun e he => (okE_lay n e (h e he)).1, by
      unfold PyData.depth
      have := depAll (n := n + 1) (ds := ds) fun e he => (okE_lay n e (h e he)).2
      omega⟩
  | n + 1, .tuple ds, h => ⟨by unfold PyData.canLay0; exact canAll fun e he => (okE_lay n e (h e he)).1, by
      unfold PyData.depth
      have := depAll (n := n + 1) (ds := ds) fun e he => (okE_lay n e (h e he)).2
      omega⟩
theorem okE_shaped {n : Nat} {d : PyData} (h : okE n d) (hn : n ≤ 63) : SeqAt.shaped d = true := by
  have h1 := okE_lay n d h
  unfold SeqAt.shaped
  rw [h1.1, decide_eq_true (by omega)]
  rfl
theorem okE_ints (n : Nat) (ns : List Int) : okE (n + 1) (.list (ns.map .int)) := fun e he => by
  obtain ⟨i, _, rfl⟩ := List.mem_map.mp he
  cases n <;> trivial
theorem okE_nil : okE 0 (.list []) := rfl
theorem eqv_ints (xs ys : List Int) : PyData.eqv (.list (xs.map .int)) (.list (ys.map .int)) = decide (xs = ys) := by
  unfold PyData.eqv
  induction xs generalizing ys with
  | nil => cases ys <;> simp [PyData.eqvAll]
  | cons x xs ih =>
    cases ys with
    | nil => simp [PyData.eqvAll]
    | cons y ys =>
      simp only [List.map_cons, PyData.eqvAll]
      rw [ih ys]
      simp only [PyData.eqv, List.cons.injEq, Bool.decide_and]
      rfl
section
variable {K : PySem.W.Frag} {X : Cx} {b : Bid} {l : Addr} {H H' Hd Hd' Hn H1 H2 Hm : Hp} {σ : L2.St} {ta tb te : TE} {tl th : TO} {tr : TA} {n i j : Nat} {p : Int → Prop} {P : PyData → Prop} {D : Ends} {tu tz : TS} {ds es : List PyData} {xs : List V} {lo hi : Option Int}
/-- a list that stands in the heap -/
def EvM (K : PySem.W.Frag) (te : TE) (σ : L2.St) (Hd : Hp) (ds : List PyData) : Prop := ∀ H, Ex Hd H → ∀ Q : VK, (∀ p xs H2 Hn, Gr Hd H Hn H2 → H2 p = some (.lst xs) → DpAll K Hn xs ds → Q (.ref p) H2) → te σ H Q
theorem EvM.mono (e : Ex Hd Hd') (h : EvM K te σ Hd ds) : EvM K te σ Hd' ds := fun H s Q q => h H (e.trans s) Q fun p xs H2 Hn g h2 hd => q p xs H2 _ (g.up e s) h2 (dpa_mono (g.upr e s) ds hd)
theorem em_new (h : EvN K te σ Hd ds) : EvM K te σ Hd ds := fun H s Q q => h H s Q fun p xs H2 Hn g _ _ h2 hd => q p xs H2 Hn g h2 hd
theorem em_ref (h : Ev te σ Hd (.ref l)) (hl : Hd l = some (.lst xs)) (hd : DpAll K Hd xs ds) : EvM K te σ Hd ds := fun H s Q q => h H s Q fun H2 e => q l xs H2 Hd (Gr.ext s e) (e _ _ (s _ _ hl)) hd
theorem en_cat (ha : EvM K ta σ Hd ds) (hb : EvM K tb σ Hd es) (hl : ds.length + es.length ≤ 100000) : EvN K (tOp rCat ta tb) σ Hd (ds ++ es) := fun H s Q q =>
  ha H s _ fun p xs H2 Hn g h2 hd => hb.mono g.dx H2 g.sub _ fun p' ys H3 Hm g3 h3 hd3 => ⟨p, p', xs, ys, rfl, rfl, g3.ex _ _ h2, h3, sz_of (by rw [dpa_len hd, dpa_len hd3]; exact hl), fun r hr =>
    q r _ _ Hm ((g.trans g3).trans (Gr.alloc g3.sub hr)) (fresh_back (g.ex.trans g3.ex) hr) (fresh_back g3.sub hr) upd_same (dpa_app (dpa_mono g3.dx _ hd) hd3)⟩
theorem en_slice (h : EvD K te σ Hd (.list ds)) (h1 : EvO tl σ Hd lo) (h2 : EvO th σ Hd hi) : EvN K (tSl (rSlL K) te tl th) σ Hd ((ds.drop (HT.sIx ds.length 0 lo)).take (HT.sIx ds.length ds.length hi - HT.sIx ds.length 0 lo)) := fun H s Q q =>
  h H s _ fun v H2 Hn g hd => by
    cases hd with
    | @lst a xs ds hs hall =>
      have e0 : ∀ {H3}, Ex H2 H3 → Ex Hd H3 := fun e => (g.dx.trans g.sub).trans e
      refine h1 H2 (g.dx.trans g.sub) _ fun H3 e3 => h2 H3 (e0 e3) _ fun H4 e4 => ⟨a, xs, rfl, ex_l ((g.sub.trans e3).trans e4) hs, fun r hr => ?_⟩
      refine q r _ _ Hn ((g.post (e3.trans e4)).trans (Gr.alloc (g.sub.trans (e3.trans e4)) hr)) (fresh_back (g.ex.trans (e3.trans e4)) hr) (fresh_back (g.sub.trans (e3.trans e4)) hr) upd_same ?_
      unfold cutV
      rw [dpa_len hall]
      exact dpa_take _ (dpa_drop _ hall)
theorem dpa_rev : ∀ {ds : List PyData} {vs : List V}, DpAll K H vs ds → DpAll K H vs.reverse ds.reverse
  | [], _, h => by cases h; exact .nil
  | d :: ds, _, h => by
    cases h with
    | cons a b =>
      rw [List.reverse_cons, List.reverse_cons]
      exact dpa_app (dpa_rev b) (.cons a .nil)
theorem en_rev (h : EvD K te σ Hd (.list ds)) : EvN K (tRevL K te) σ Hd ds.reverse := fun H s Q q =>
  h H s _ fun v H2 Hn g hd => by
    cases hd with
    | @lst a xs ds hs hall => exact ⟨a, xs, rfl, ex_l g.sub hs, fun r hr => q r _ _ Hn (g.trans (Gr.alloc g.sub hr)) (fresh_back g.ex hr) (fresh_back g.sub hr) upd_same (dpa_rev hall)⟩
theorem en_list (h : EvD K te σ Hd (.list ds)) : EvN K (tCB (rListS K) (tCons te tNil)) σ Hd ds := fun H s Q q =>
  h H s _ fun v H2 Hn g hd => by
    cases hd with
    | @lst a xs ds hs hall => exact ⟨a, xs, rfl, Or.inl (ex_l g.sub hs), fun r hr => q r _ _ Hn (g.trans (Gr.alloc g.sub hr)) (fresh_back g.ex hr) (fresh_back g.sub hr) upd_same hall⟩
theorem go_forRB (hb : Hd b.b = none) (s : Ex Hd H) (B : Bx H b) (h : EvBA K b tr σ Hd (fun ds => ∃ m, ds = [.int m] ∧ p m)) (hp : ∀ m, p m → -100000 ≤ m ∧ m ≤ 100000) (Pv : Int → Hp → Nat → L2.St → Hp → Prop)
    (h0 : ∀ H' Hn m, GrB b Hd H Hn H' → p m → Pv m Hn 0 σ H')
    (hs : ∀ m Hn i σ' H', p m → Ex Hd Hn → Hn b.b = none → i < m.toNat → Pv m Hn i σ' H' → Go tu { D with nx := Pv m Hn (i + 1), ct := Pv m Hn (i + 1), bk := tz D } (σ'.set j (some (.int (i : Int)))) H')
    (hd : ∀ m Hn σ' H', p m → Ex Hd Hn → Hn b.b = none → Pv m Hn m.toNat σ' H' → Go tz D σ' H') : Go (tSeq (tFor (iRng1 tr) (gName j) tu) tz) D σ H := fun H1 e1 =>
  h hb H1 (s.trans e1) (B.mono e1) _ fun vs H2 Hn ds g hdp hq => by
    obtain ⟨m, rfl, pm⟩ := hq
    have hbn := g.bn hb (B.mono e1)
    have hpm := hp m pm
    cases hdp with
    | cons h1 h2 =>
      cases h2
      cases h1
      refine ⟨m, rfl, by omega, by omega, for_it (walk_range (lo := 0) (n := m.toNat)) (Pv m Hn) (h0 H2 Hn m (g.pre e1) pm) (fun _ _ _ _ _ => trivial) (fun i x σ' H' H'' hi q y => ?_) (fun σ' H' q => hd m Hn σ' H' pm g.dx hbn q H' (Ex.refl _))⟩
      obtain ⟨rfl, rfl⟩ := y
      have e0 : (0 : Int) + (i : Int) = (i : Int) := Int.zero_add _
      show tu _ (σ'.set j (some (.int ((0 : Int) + (i : Int))))) _
      rw [e0]
      exact hs m Hn i σ' _ pm g.dx hbn hi q _ (Ex.refl _)
theorem go_appB (hb : Hd b.b = none) (s : Ex Hd H) (B : Bx H b) (hl : H l = some (.lst xs)) (nl : l ≠ b.b) (ha : Ev ta σ H (.ref l)) (h : EvB K b te σ Hd P) (hz : xs.length < 100000)
    (k : ∀ v H' Hn d, GrB b Hd H Hn H' → Dp K Hn v d → P d → Go tz D σ (upd H' l (.lst (xs ++ [v])))) : Go (tSeq (tDrop (tBM K "list" rAppend ta (tCons te tNil))) tz) D σ H := fun H1 e1 =>
  ha H1 e1 _ fun H2 e2 => ⟨Or.inl ⟨rfl, xs, sq_of ((e1.trans e2) _ _ hl)⟩, h hb H2 ((s.trans e1).trans e2) ((B.mono e1).mono e2) _ fun v H3 Hn d g hd hp => ⟨l, xs, v, rfl, rfl, g.exb _ _ nl ((e1.trans e2) _ _ hl), sz_lt hz, k v H3 Hn d (g.pre (e1.trans e2)) hd hp _ (Ex.refl _)⟩⟩
end
end Cot
namespace Cot
open PySem L2 Evl
section
variable {K : PySem.W.Frag} {b : Bid} {H H' Hd Hd' Hn H1 H2 Hm : Hp} {σ : L2.St} {ta tb te : TE} {tl th : TO} {tr : TA} {Ps Ps' : List PyData → Prop} {ds : List PyData}
theorem EvBA.imp (h : EvBA K b tr σ Hd Ps) (k : ∀ d, Ps d → Ps' d) : EvBA K b tr σ Hd Ps' := fun hb H s B Q q => h hb H s B Q fun v H2 Hn d g hd hp => q v H2 Hn d g hd (k d hp)
theorem eba_one {p : Int → Prop} (h : EvB K b ta σ Hd (isI p)) : EvBA K b (tCons ta tNil) σ Hd (fun ds => ∃ m, ds = [.int m] ∧ p m) := (eba_cons h eba_nil).imp fun ds ⟨d, es, e1, ⟨m, e2, pm⟩, e3⟩ => ⟨m, by rw [e1, e2, e3], pm⟩
theorem en_from {j : Nat} (h : EvD K te σ Hd (.list ds)) (h1 : Ev ta σ Hd (.int (j : Int))) : EvN K (tSl (rSlL K) te (tPart ta) tNoPart) σ Hd (ds.drop j) := by
  have h2 := en_slice h (eo_some h1) (eo_none (σ := σ) (H := Hd))
  rw [HT.sIx_none, HT.sIx_nat] at h2
  by_cases hj : j ≤ ds.length
  · rw [Nat.min_eq_left hj, List.take_of_length_le (by rw [List.length_drop]; omega)] at h2
    exact h2
  · rw [Nat.min_eq_right (by omega), Nat.sub_self, List.take_zero] at h2
    rw [List.drop_of_length_le (by omega)]
    exact h2
theorem en_upto {j : Nat} (h : EvD K te σ Hd (.list ds)) (h1 : Ev ta σ Hd (.int (j : Int))) : EvN K (tSl (rSlL K) te tNoPart (tPart ta)) σ Hd (ds.take j) := by
  have h2 := en_slice h (eo_none (σ := σ) (H := Hd)) (eo_some h1)
  rw [HT.sIx_none, HT.sIx_nat, List.drop_zero, Nat.sub_zero] at h2
  by_cases hj : j ≤ ds.length
  · rw [Nat.min_eq_left hj] at h2
    exact h2
  · rw [Nat.min_eq_right (by omega), List.take_length] at h2
    rw [List.take_of_length_le (by omega)]
    exact h2
end
end Cot

set_option Elab.async false
set_option linter.all false
set_option maxRecDepth 100000
set_option maxHeartbeats 4000000
/-! Tuples of any kind, ranges asked, tests and comprehensions that draw. -/
namespace Cot
open PySem L2 Evl PyProof.Rows
section
variable {X : Cx}
def rTupS (K : PySem.W.Frag) : List V → Hp → VK → Prop := fun xs H Q => ∃ p ys, xs = [.ref p] ∧ ((SqL K H p ys ∧ ∀ l, H l = none → Q (.ref l) (upd H l (.tup ys))) ∨ (SqT K H p ys ∧ Q (.ref p) H))
theorem call_tupleQ : CallR X (.type "tuple") (rTupS X.K) := call_tuple_of
def rRg2 : List V → Hp → VK → Prop := fun vs H Q => ∃ i j, vs = [V.int i, V.int j] ∧ ∀ p, H p = none → Q (.ref p) (upd H p (.rng i j))
theorem call_rangeQ : CallR X (.type "range") rRg2 := cr_range2
def rInR (neg : Bool) : R2 := fun x y H Q => ∃ i a lo hi, x = V.int i ∧ y = V.ref a ∧ H a = some (.rng lo hi) ∧ Q (.bl (if neg then !decide (lo ≤ i ∧ i < hi) else decide (lo ≤ i ∧ i < hi))) H
theorem op_inR : OpR X (compareOp .In) (rInR false) := op_in_rng
theorem op_notInR : OpR X (compareOp .NotIn) (rInR true) := by
  intro ps s0 σ0 H0 x y vx vy Q I rx ry hq
  obtain ⟨i, a, lo, hi, rfl, rfl, ha, q⟩ := hq
  obtain ⟨k, rfl⟩ := rx
  cases ry
  obtain ⟨ta, tb, tc, ho⟩ := I.hok a _ ha
  show wpAny _ _ (do return Value.bool (!(← contains (.ref a) (.int i k)))) _ _ s0
  refine wpAny_bind ?_
  refine wpAny_contains_slot (T := "range") ?t1 F.slot_range_contains ?t2
  case t1 => exact ⟨_, ho, rfl⟩
  case t2 =>
  refine call_meets F.slot_range_contains ?t3 F.entry_range_contains (F.args_range_contains_2 _ _) (q_contains a lo hi i ta tb tc k) ?t4
  case t3 => exact ⟨_, ho, rfl⟩
  case t4 =>
  refine ⟨ho, wpAny_truthy_bool (wpAny_pure ?_)⟩
  refine ⟨.bl _, H0, I, rfl, ?_⟩
  rw [place1]
  exact q
end
section
variable {K : PySem.W.Frag} {b : Bid} {l : Addr} {H H' Hd Hd' Hn H1 H2 Hm : Hp} {σ : L2.St} {ta tb te : TE} {t u : TT} {tl th : TO} {tr : TA} {n i j j2 : Nat} {p : Int → Prop} {P : PyData → Prop} {D : Ends} {tu tw tz : TS} {d d1 d2 : PyData} {ds es : List PyData} {xs : List V} {lo hi : Option Int} {wi : TI} {g : TG} {x : V}
theorem ed_tupleL (h : EvD K te σ Hd (.list ds)) : EvD K (tCB (rTupS K) (tCons te tNil)) σ Hd (.tuple ds) := fun H s Q q =>
  h H s _ fun v H2 Hn g hd => by
    cases hd with
    | @lst a xs ds hs hall => exact ⟨a, xs, rfl, Or.inl ⟨ex_l g.sub hs, fun r hr => q (.ref r) _ _ (g.trans (Gr.new g.sub hr)) (.tup (st_of upd_same) (dpa_mono (Ex.new (fresh_back g.sub hr)) _ hall))⟩⟩
theorem ed_catT (ha : EvD K ta σ Hd (.tuple ds)) (hb : EvD K tb σ Hd (.tuple es)) (hl : ds.length + es.length ≤ 100000) : EvD K (tOp (rCatA K) ta tb) σ Hd (.tuple (ds ++ es)) := fun H s Q q =>
  ha H s _ fun v H2 Hn g hd => hb.mono g.dx H2 g.sub _ fun v2 H3 Hm g3 hd3 => by
    have hd' := dp_mono g3.dx _ hd
    cases hd' with
    | @tup a xs ds hs hall =>
      have h3 := hd3
      cases hd3 with
      | @tup a2 ys es hs2 hall2 =>
        refine ⟨a, a2, xs, ys, rfl, rfl, ex_t g3.sub hs, ex_t g3.sub hs2, sz_of (by rw [dpa_len hall, dpa_len hall2]; exact hl), fun e => ?_, fun e e2 => ?_, fun e e2 r hr => ?_⟩
        · subst e
          cases hall
          exact q _ H3 Hm (g.trans g3) h3
        · subst e2
          cases hall2
          rw [List.append_nil] at q
          exact q _ H3 Hm (g.trans g3) (.tup hs hall)
        · exact q (.ref r) _ _ ((g.trans g3).trans (Gr.new g3.sub hr)) (.tup (st_of upd_same) (dpa_mono (Ex.new (fresh_back g3.sub hr)) _ (dpa_app hall hall2)))
def cutD (ds : List PyData) (lo hi : Option Int) : List PyData := (ds.drop (HT.sIx ds.length 0 lo)).take (HT.sIx ds.length ds.length hi - HT.sIx ds.length 0 lo)
theorem cutD_mem {e : PyData} (h : e ∈ cutD ds lo hi) : e ∈ ds := List.mem_of_mem_drop (List.mem_of_mem_take h)
theorem cutD_len : (cutD ds lo hi).length ≤ ds.length := by
  unfold cutD
  rw [List.length_take, List.length_drop]
  omega
theorem dpa_cut {vs : List V} (h : DpAll K H vs ds) : DpAll K H (cutV vs lo hi) (cutD ds lo hi) := by
  unfold cutV cutD
  rw [dpa_len h]
  exact dpa_take _ (dpa_drop _ h)
theorem cut_done {a : Addr} {Q : VK} {H4 : Hp} (hs : SqT K Hn a xs) (hall : DpAll K Hn xs ds) (s : Ex Hn H4) (q : ∀ v H5 Hm, Gr Hn H4 Hm H5 → Dp K Hm v (.tuple (cutD ds lo hi)) → Q v H5) : rSlA K (.ref a) lo hi H4 Q := by
  refine ⟨a, xs, rfl, ex_t s hs, fun hw => ?_, fun _ r hr => ?_⟩
  · have e : cutD ds lo hi = ds := by
      unfold cutD
      rw [dpa_len hall] at hw
      rw [hw.1, hw.2, List.drop_zero, Nat.sub_zero, List.take_length]
    refine q _ H4 Hn (Gr.refl s) ?_
    rw [e]
    exact .tup hs hall
  · exact q (.ref r) _ _ (Gr.new s hr) (.tup (st_of upd_same) (dpa_mono (Ex.new (fresh_back s hr)) _ (dpa_cut hall)))
theorem ed_slT (h : EvD K te σ Hd (.tuple ds)) (h1 : EvO tl σ Hd lo) (h2 : EvO th σ Hd hi) : EvD K (tSl (rSlA K) te tl th) σ Hd (.tuple (cutD ds lo hi)) := fun H s Q q =>
  h H s _ fun v H2 Hn g hd => by
    cases hd with
    | @tup a xs ds hs hall =>
      have e0 : ∀ {H3}, Ex H2 H3 → Ex Hd H3 := fun e => (g.dx.trans g.sub).trans e
      refine h1 H2 (g.dx.trans g.sub) _ fun H3 e3 => h2 H3 (e0 e3) _ fun H4 e4 => cut_done hs hall ((g.sub.trans e3).trans e4) fun v H5 Hm g5 hv => q v H5 Hm ((g.post (e3.trans e4)).trans g5) hv
/-- t[:e], e drawn -/
theorem eb_slT (h : EvD K te σ Hd (.tuple ds)) (h2 : EvB K b tb σ Hd (isI p)) : EvB K b (tSl (rSlA K) te tNoPart (tPart tb)) σ Hd (fun d => ∃ i, p i ∧ d = .tuple (cutD ds none (some i))) := fun hb H s B Q q =>
  h H s _ fun v H2 Hn g hd => by
    cases hd with
    | @tup a xs ds hs hall =>
      have gb := GrB.of g B
      refine h2.mono g.dx (gb.bn hb B) H2 g.sub gb.bx _ fun v3 H3 Hm d3 g3 hd3 hp3 => ?_
      obtain ⟨i, rfl, pi⟩ := hp3
      cases hd3
      refine ⟨i, rfl, cut_done (ex_t g3.dx hs) (dpa_mono g3.dx _ hall) g3.sub fun v H5 Hk g5 hv => q v H5 Hk _ ?_ hv ⟨i, pi, rfl⟩⟩
      exact (gb.trans g3 hb B).trans (GrB.of g5 g3.bx) hb B
theorem ed_repT {k : Int} (ha : EvD K ta σ Hd (.tuple ds)) (hk : Ev tb σ Hd (.int k)) (hne : ds ≠ []) (h0 : 2 ≤ k ∧ k ≤ 1000) (hl : ds.length ≤ 1000) : EvD K (tOp (rRepT K) ta tb) σ Hd (.tuple (List.replicate k.toNat ds).flatten) := fun H s Q q =>
  ha H s _ fun v H2 Hn g hd => hk.mono g.dx H2 g.sub _ fun H3 e3 => by
    cases hd with
    | @tup a xs ds hs hall =>
      refine ⟨a, k, xs, rfl, rfl, ex_t (g.sub.trans e3) hs, fun e => ?_, h0.1, h0.2, by rw [dpa_len hall]; exact hl, fun r hr => q (.ref r) _ _ ((g.post e3).trans (Gr.new (g.sub.trans e3) hr)) (.tup (st_of upd_same) (dpa_mono (Ex.new (fresh_back (g.sub.trans e3) hr)) _ (dpa_rep hall _)))⟩
      subst e
      cases hall
      exact hne rfl
theorem ev_inR {neg : Bool} {i lo hi : Int} (ha : Ev ta σ H (.int i)) (h1 : EvA tr σ H [.int lo, .int hi]) : Ev (tOp (rInR neg) ta (tCB rRg2 tr)) σ H (.bl (if neg then !decide (lo ≤ i ∧ i < hi) else decide (lo ≤ i ∧ i < hi))) := fun H1 e1 Q q =>
  ha H1 e1 _ fun H2 e2 => h1 H2 (e1.trans e2) _ fun H3 e3 => ⟨lo, hi, rfl, fun p hp => ⟨i, p, lo, hi, rfl, rfl, upd_same, q _ ((e2.trans e3).trans (Ex.new hp))⟩⟩
/-- a, b = e -/
theorem go_two (s : Ex Hd H) (h : EvD K te σ Hd (.tuple [d1, d2])) (k : ∀ v1 v2 H' Hn, Gr Hd H Hn H' → Dp K Hn v1 d1 → Dp K Hn v2 d2 → Go tz D ((σ.set i (some v1)).set j (some v2)) H') : Go (tSeq (tAsg te (gTup K 2 (gCons (gName i) (gCons (gName j) gNil)))) tz) D σ H := fun H1 e1 =>
  h H1 (s.trans e1) _ fun v H2 Hn g hd => by
    cases hd with
    | @tup a xs ds hs hall =>
      cases hall with
      | cons h1 h2 =>
        cases h2 with
        | cons h2 h3 =>
          cases h3
          exact ⟨a, _, rfl, ex_t g.sub hs, rfl, _, _, rfl, _, _, rfl, rfl, k _ _ H2 Hn (g.pre e1) h1 h2 H2 (Ex.refl _)⟩
theorem go_appD (s : Ex Hd H) (hl : H l = some (.lst xs)) (ha : Ev ta σ H (.ref l)) (h : EvD K te σ Hd d) (hz : xs.length < 100000) (k : ∀ v H' Hn, Gr Hd H Hn H' → Dp K Hn v d → Go tz D σ (upd H' l (.lst (xs ++ [v])))) :
    Go (tSeq (tDrop (tBM K "list" rAppend ta (tCons te tNil))) tz) D σ H := fun H1 e1 =>
  ha H1 e1 _ fun H2 e2 => ⟨Or.inl ⟨rfl, xs, sq_of ((e1.trans e2) _ _ hl)⟩, h H2 ((s.trans e1).trans e2) _ fun v H3 Hn g hd => ⟨l, xs, v, rfl, rfl, g.ex _ _ ((e1.trans e2) _ _ hl), sz_lt hz, k v H3 Hn (g.pre (e1.trans e2)) hd _ (Ex.refl _)⟩⟩
theorem ex_add {o : HO} (s : Ex Hd H) (h : H l = some o) : Ex (upd Hd l o) H := fun a u ha => by
  by_cases e : a = l
  · subst e
    rw [upd_same] at ha
    exact h.trans ha
  · rw [upd_ne e] at ha
    exact s a u ha
/-- a test that draws -/
def EvBT (K : PySem.W.Frag) (b : Bid) (t : TT) (σ : L2.St) (Hd : Hp) : Prop := Hd b.b = none → ∀ H, Ex Hd H → Bx H b → ∀ Q : Bool → Hp → Prop, (∀ c H2 Hn, GrB b Hd H Hn H2 → Q c H2) → t σ H Q
theorem ebt_of {c : Bool} (h : EvT t σ Hd c) : EvBT K b t σ Hd := fun hb H s B Q q => h H s _ fun H2 e => q c H2 Hd (GrB.of (Gr.ext s e) B)
theorem EvBT.mono (e : Ex Hd Hd') (h : EvBT K b t σ Hd) : EvBT K b t σ Hd' := fun hb H s B Q q => h (fresh_back e hb) H (e.trans s) B Q fun c H2 Hn g => q c H2 _ (g.up e s hb).1
theorem ebt_and (h : EvBT K b t σ Hd) (h2 : EvBT K b u σ Hd) : EvBT K b (tAnd t u) σ Hd := fun hb H s B Q q => h hb H s B _ fun c H2 Hn g => by
  cases c with
  | true =>
    show u σ H2 Q
    exact h2.mono g.dx (g.bn hb B) H2 g.sub g.bx Q fun c H3 Hm g3 => q c H3 Hm (g.trans g3 hb B)
  | false => exact q false H2 Hn g
theorem ebt_I0 {gg : Int → Int → V} {f : Int → Int → Bool} {p p' : Int → Prop} (hg : ∀ i j, gg i j = .bl (f i j)) (ha : EvB K b ta σ Hd (isI p)) (hb' : EvB K b tb σ Hd (isI p')) : EvBT K b (tTest (tOp (rI0 gg) ta tb)) σ Hd := fun hb H s B Q q =>
  ha hb H s B _ fun v H1 Hn d g hd hp => hb'.mono g.dx (g.bn hb B) H1 g.sub g.bx _ fun v2 H2 Hm d2 g2 hd2 hp2 => by
    obtain ⟨i, rfl, pi⟩ := hp
    obtain ⟨j, rfl, pj⟩ := hp2
    cases hd
    cases hd2
    exact ⟨i, j, rfl, rfl, f i j, hg i j, q _ H2 Hm (g.trans g2 hb B)⟩
theorem go_whenB (hb : Hd b.b = none) (s : Ex Hd H) (B : Bx H b) (h : EvBT K b t σ Hd) (h1 : ∀ H' Hn, GrB b Hd H Hn H' → Go tu { D with nx := tz D } σ H') (h2 : ∀ H' Hn, GrB b Hd H Hn H' → Go tz D σ H') : Go (tSeq (tIfS t tu tNext) tz) D σ H := fun H1 e1 =>
  h hb H1 (s.trans e1) (B.mono e1) _ fun c H2 Hn g => by
    cases c with
    | true => exact h1 H2 Hn (g.pre e1) H2 (Ex.refl _)
    | false => exact h2 H2 Hn (g.pre e1) H2 (Ex.refl _)
/-- a comprehension whose items draw -/
theorem eb_lc {S : Nat → L2.St → L2.St → Hp → Prop} {vs : List Nat} {PP : PyData → Prop} (h : EvI K wi g σ Hd n S) (hn : n ≤ 40000)
    (ht : ∀ (i : Nat) (σ2 : L2.St) (Hn : Hp), i < n → Ex Hd Hn → S i (wipe σ vs) σ2 Hn → wipe σ2 vs = wipe σ vs ∧ EvB K b te σ2 Hn PP) : EvB K b (tLc wi g tYes te vs) σ Hd (fun d => ∃ ds, d = .list ds ∧ ds.length = n ∧ ∀ e ∈ ds, PP e) := fun hb H s B Q q =>
  h H s _ fun J H1 Hn G Y gr w hG hY Dl hD => by
    have gb := GrB.of gr B
    have hbn := gb.bn hb B
    obtain ⟨nb, nca⟩ := gb.bx.apart hD
    refine lc_it w (fun i H' => i ≤ n ∧ ∃ Hm acc ds, GrB b Hn H1 Hm H' ∧ Hm Dl = none ∧ H' Dl = some (.lst acc) ∧ DpAll K Hm acc ds ∧ ds.length = i ∧ ∀ e ∈ ds, PP e) ⟨Nat.zero_le _, Hn, [], [], GrB.of (Gr.alloc gr.sub hD) gb.bx, fresh_back gr.sub hD, upd_same, .nil, rfl, fun _ h => by cases h⟩ (fun i H' _ p => ?_) (fun i x H' H'' hi p y => ?_) (fun H' p => ?_)
    · obtain ⟨_, Hm, acc, ds, g1, _⟩ := p
      exact hG H' (g1.dx.trans g1.sub)
    · obtain ⟨_, Hm, acc, ds, g1, hm, h2, hac, hln, hpp⟩ := p
      refine hY i x H' H'' _ _ hi (g1.dx.trans g1.sub) y fun σ2 H3 e3 hS => ?_
      obtain ⟨hw, hE⟩ := ht i σ2 Hn hi gr.dx hS
      refine ⟨hw, ?_⟩
      have al : acc.length < sizeLine := sz_lt (by rw [dpa_len hac]; omega)
      have hbm := g1.bn hbn gb.bx
      refine (hE.mono g1.dx) hbm H3 (g1.sub.trans e3) (g1.bx.mono e3) _ fun y H5 Ho d5 g5 hy hp5 => ?_
      have h3 : H3 Dl = some (.lst acc) := e3 _ _ h2
      have ho : Ho Dl = none := g5.fr _ _ h3 hm
      refine ⟨acc, g5.exb _ _ nb h3, al, hi, Ho, acc ++ [y], ds ++ [d5], ⟨fun a o na ha => ?_, g1.dx.trans g5.dx, Ex.mut g5.sub ho, fun a o ha hd => ?_, g5.bx.keep nb nca⟩, ho, upd_same, dpa_app (dpa_mono g5.dx _ hac) (.cons hy .nil), by rw [List.length_append, hln]; rfl, fun e he => ?_⟩
      · rw [upd_ne (ne_of_none ha hD)]
        exact g5.exb a o na (e3 a o (g1.exb a o na ha))
      · by_cases e : a = b.b
        · rw [e]
          exact g5.bn hbm (g1.bx.mono e3)
        · exact g5.fr a o (e3 a o (g1.exb a o e ha)) (g1.fr a o ha hd)
      · rcases List.mem_append.mp he with he | he
        · exact hpp e he
        · rcases List.mem_cons.mp he with rfl | he
          · exact hp5
          · cases he
    · obtain ⟨_, Hm, acc, ds, g1, hm, h2, hac, hln, hpp⟩ := p
      refine q (.ref Dl) H' (upd Hm Dl (.lst acc)) (.list ds) ⟨fun a o na ha => g1.exb a o na (gr.ex a o ha), (gr.dx.trans g1.dx).trans (Ex.new hm), ex_add g1.sub h2, fun a o ha hd => ?_, g1.bx⟩ (.lst (sq_of upd_same) (dpa_mono (Ex.new hm) _ hac)) ⟨ds, rfl, hln, hpp⟩
      have ha1 := gr.ex a o ha
      rw [upd_ne (ne_of_none ha1 hD)]
      exact g1.fr a o ha1 (gr.fr a o ha hd)
theorem eb_tupleL {Ps : List PyData → Prop} (h : EvB K b te σ Hd (fun d => ∃ ds, d = .list ds ∧ Ps ds)) : EvB K b (tCB (rTupS K) (tCons te tNil)) σ Hd (fun d => ∃ ds, d = .tuple ds ∧ Ps ds) := fun hb H s B Q q =>
  h hb H s B _ fun v H2 Hn d g hd hp => by
    obtain ⟨ds, rfl, ps⟩ := hp
    cases hd with
    | @lst a xs ds hs hall => exact ⟨a, xs, rfl, Or.inl ⟨ex_l g.sub hs, fun r hr => q (.ref r) _ _ (.tuple ds) (g.trans (GrB.of (Gr.new g.sub hr) g.bx) hb B) (.tup (st_of upd_same) (dpa_mono (Ex.new (fresh_back g.sub hr)) _ hall)) ⟨ds, rfl, ps⟩⟩⟩
end
end Cot
namespace Cot
open PySem L2 Evl
section
variable {K : PySem.W.Frag} {b : Bid} {l : Addr} {o : HO} {H H' Hd Hg Hd' Hn H1 H2 Hm : Hp}
theorem GrB.fresh (G : GrB b Hd H Hg H') (h : H' l = none) : H l = none := by
  obtain ⟨ob, hob⟩ := G.bx.some
  have n : l ≠ b.b := (ne_of_none hob h).symm
  cases e : H l with
  | none => rfl
  | some u =>
    rw [G.exb l u n e] at h
    cases h
theorem GrB.mut (G : GrB b Hd H Hg H') (h0 : H l = none) (hg : Hg l = none) (n1 : l ≠ b.b) (n2 : l ≠ b.ca) : GrB b Hd H Hg (upd H' l o) :=
  ⟨fun a u na ha => by rw [upd_ne (ne_of_none ha h0)]; exact G.exb a u na ha, G.dx, Ex.mut G.sub hg, G.fr, G.bx.keep n1 n2⟩
theorem GrB.add (G : GrB b Hd H Hg H') (h0 : H l = none) (hg : Hg l = none) (hl : H' l = some o) : GrB b Hd H (upd Hg l o) H' :=
  ⟨G.exb, G.dx.trans (Ex.new hg), ex_add G.sub hl, fun a u ha hd => by rw [upd_ne (ne_of_none ha h0)]; exact G.fr a u ha hd, G.bx⟩
theorem GrB.low (e : Ex Hg Hd') (g : GrB b Hd' H Hn H2) : GrB b Hg H Hg H2 := ⟨g.exb, Ex.refl _, (e.trans g.dx).trans g.sub, fun _ _ _ h => h, g.bx⟩
theorem GrB.post (g : GrB b Hd H Hn H1) (e : Ex H1 H2) : GrB b Hd H Hn H2 := ⟨fun a o n h => e a o (g.exb a o n h), g.dx, g.sub.trans e, g.fr, g.bx.mono e⟩
end
end Cot

set_option Elab.async false
set_option linter.all false
set_option maxRecDepth 100000
set_option maxHeartbeats 4000000
/-! enumerate over a tuple; two clauses in a comprehension. -/
namespace Cot
open PySem PySem.Spec PyProof.Rows L2 Evl
abbrev tupItO (t : Addr) : Obj := { cls := .type "tuple_iterator", data := .fields #[.ref t, .int 0 0] }
abbrev enumO (k : Addr) : Obj := { cls := .type "enumerate", data := .fields #[.none, .bool false, .ref k, rawInt 0, .none, .none] }
set_option maxHeartbeats 1000000 in
theorem enumT_new (t : Addr) (items : Array Value) :
    Meets (Builtin.«enumerate.__new__» ⟨[.type "enumerate", .ref t], []⟩) (fun _ R s => s.heap.IsTuple t items ∧ R (.ok (.ret (.ref (s.heap.push (tupItO t)).objs.size))) { s with heap := (s.heap.push (tupItO t)).push (enumO s.heap.objs.size) }) :=
  .of_wp fun prog w A R s hh => by
    obtain ⟨hp, gs, dr, tk, os⟩ := s
    obtain ⟨hT, hh⟩ := hh
    have sb := sub_enumerate
    wp_walk
    refine wpAny_stack_any fun st => wpAny_pure ?_
    split
    · rename_i cc _ _ _ _ _
      cases (cc == Value.type "enumerate") <;> (wp_walk using wpAny_pyIter_tuple hT; exact ⟨_, rfl, hh⟩)
    · wp_walk using wpAny_pyIter_tuple hT
      exact ⟨_, rfl, hh⟩
section
variable {prog : Program} {w : World} {A : Around} {E : Value → Shared → Prop} {s : Shared}
theorem call_enumT {t : Addr} {items : Array Value} {Q : Value → Shared → Prop} (hT : s.heap.IsTuple t items)
    (hq : ∀ h', IsEnum h' (s.heap.objs.size + 1) s.heap.objs.size 0 .none → h'.IsTupleIter s.heap.objs.size t 0 → (∀ b o, s.heap.get? b = some o → h'.get? b = some o) → Q (.ref (s.heap.objs.size + 1)) { s with heap := h' }) :
    wpAny (model prog w) A (call (.type "enumerate") [.ref t]) Q E s := by
  refine callType_new F.called_enumerate (by decide) (F.typeCall_enumerate_1 _) (F.newCall_enumerate_1 _) (fun ob => F.args_object_init_2 ob _) F.entry_enumerate_new (enumT_new t items) ⟨hT, ?_⟩
  have hz : (s.heap.push (tupItO t)).objs.size = s.heap.objs.size + 1 := Heap.size_push ..
  have he : IsEnum ((s.heap.push (tupItO t)).push (enumO s.heap.objs.size)) (s.heap.objs.size + 1) s.heap.objs.size 0 .none := by
    have z := Heap.get?_push_size (s.heap.push (tupItO t)) (o := enumO s.heap.objs.size) rfl
    rw [hz] at z
    exact z
  show _ ∧ _
  rw [hz]
  exact ⟨⟨_, he, rfl⟩, hq _ he ⟨_, Heap.get?_push_of_some _ (Heap.get?_push_size _ rfl), rfl, rfl⟩ fun b o x => Heap.get?_push_of_some _ (Heap.get?_push_of_some _ x)⟩
end
/-- a tuple's items, each in a new pair with its place -/
def IteT (K : PySem.W.Frag) (a : Addr) : It :=
  ⟨fun i H => ∃ (xs : List V) (x : V), SqT K H a xs ∧ xs[i]? = some x, fun i H v H' => ∃ T x, v = .ref T ∧ H T = none ∧ H' = upd H T (.tup [.int (i : Nat), x]) ∧ ∀ xs, SqT K H a xs → xs[i]? = some x, fun i H => ∃ xs : List V, SqT K H a xs ∧ xs.length = i⟩
theorem turn_enumT {P : Program} {w : World} {K : PySem.W.Frag} {elts : List Expr} {kk : Nat} {tpos : Pos} (a e it : Addr) :
    Turn P w K (.Tuple elts kk tpos) (IteT K a) [e, it] e (fun i h => (∃ old, IsEnum h e it ((i : Nat) : Int) old) ∧ h.IsTupleIter it a i ∧ e ≠ it) where
  mem := by simp
  obj := fun i h st b hb => by
    obtain ⟨⟨old, he⟩, ⟨o, ho, hc, hd⟩, _⟩ := st
    rcases (show b = e ∨ b = it by simpa using hb) with z | z
    · rw [z]; exact ⟨_, he, fun v q => nomatch q⟩
    · rw [z]; exact ⟨o, ho, fun v q => by rw [hd] at q; cases q⟩
  keep := fun i h h' st k => by
    obtain ⟨⟨old, he⟩, ⟨o, ho, hc⟩, hne⟩ := st
    exact ⟨⟨old, k e (by simp) _ he⟩, ⟨o, k it (by simp) _ ho, hc⟩, hne⟩
  item := by
    intro X hP hw hK hc i pins s σ H E I hf st hg
    subst hP hw hK
    obtain ⟨⟨old, he⟩, hit, hne⟩ := st
    obtain ⟨xs, x, hq, hx⟩ := hg
    obtain ⟨its, rv, p, hz⟩ := I.tuple hq
    obtain ⟨u, hu, ru⟩ := rv.get hx
    have hel : e < s.heap.objs.size := Heap.lt_size he
    have hil : it < s.heap.objs.size := by
      obtain ⟨_, q, _⟩ := hit
      exact Heap.lt_size q
    have nai : a ≠ it := fun z => by
      subst z
      obtain ⟨o1, h1, c1, _⟩ := p
      obtain ⟨o2, h2, c2, _⟩ := hit
      rw [h1] at h2
      cases h2
      rw [c1] at c2
      exact absurd (Value.type.inj c2) (by decide)
    have nae : a ≠ e := fun z => by
      subst z
      obtain ⟨o1, h1, c1, _⟩ := p
      have he' := he
      unfold IsEnum at he'
      rw [h1] at he'
      cases he'
      exact absurd (Value.type.inj c1) (by decide)
    have lti : i < its.toArray.size := by
      have := (List.getElem?_eq_some_iff.mp hu).1
      simpa using this
    have D : Draws X.prog X.w X.A.in1 it [it, a] its.toArray.size (fun i v => its.toArray[i]? = some v) (fun i h => h.IsTupleIter it a i ∧ h.IsTuple a its.toArray) := Draws.tuple (show X.A.in1.handled = none from I.ok.hd hc) it a nai its.toArray
    refine wpAny_pyNext_enum_itemD D he ⟨hit, p⟩ lti hne (by simp [hne, nae.symm]) fun y h' tk hy ho hit' hT hsz hk => ?_
    have ey : y = u := by
      have h2 : its.toArray[i]? = some u := by simpa using hu
      rw [h2] at hy
      cases hy
      rfl
    subst ey
    refine ⟨_, rfl, wpAny_letOwnedTupleGo_enum (s := { s with heap := h', toks := tk + 1 }) ho fun h2 he2 sb => ?_⟩
    have hT2 : h2.get? s.heap.objs.size = some { cls := .type "tuple", data := .seq #[.int i tk, y] } := (sb.2 _ (Nat.ne_of_gt hel)).trans hT
    have new : ObjOk X.prog X.w (upd H s.heap.objs.size (.tup [.int (i : Nat), x])) h2 s.heap.objs.size (.tup [.int (i : Nat), x]) :=
      ⟨by show 2 ≤ sizeLine; decide, [.int i tk, y], .cons ⟨_, rfl⟩ (.cons ru .nil), ⟨_, hT2, rfl, _, rfl⟩⟩
    have I1 : Inv X pins σ (upd H s.heap.objs.size (.tup [.int (i : Nat), x])) { s with heap := h2, toks := tk + 1 } :=
      I.turnedNew (ch := [e, it]) (fun b ob hb q => (sb.2 b (fun z => hb (by simp [z]))).trans (hk b ob (fun z => hb (by simp [z])) (fun z => hb (by simp [z])) q)) hf (Nat.le_refl _) new
    refine ⟨.ref s.heap.objs.size, _, I1, rfl, ⟨_, x, rfl, I.hok.fresh (Nat.le_refl _), rfl, fun ys hy => by rw [I.tuple_inj hy hq]; exact hx⟩, ⟨⟨y, ?_⟩, ?_, hne⟩, fun b hb => ?_⟩
    · have e1 : ((i + 1 : Nat) : Int) = (i : Int) + 1 := by omega
      rw [e1]
      exact he2
    · obtain ⟨o3, h3, r3⟩ := hit'.1
      exact ⟨o3, (sb.2 it (Ne.symm hne)).trans h3, r3⟩
    · have hb' : b < s.heap.objs.size := by
        rcases (show b = e ∨ b = it by simpa using hb) with z | z
        · rw [z]; exact hel
        · rw [z]; exact hil
      rw [upd_ne (Nat.ne_of_lt hb')]
      exact (hf b hb).1
  done := by
    intro X hP hw hK hc i pins s σ H E I hf st hg
    subst hP hw hK
    obtain ⟨⟨old, he⟩, hit, hne⟩ := st
    obtain ⟨xs, hq, hx⟩ := hg
    obtain ⟨its, rv, p, hz⟩ := I.tuple hq
    obtain ⟨f0, f1, f2, f3, f4, f5⟩ := hf it (by simp)
    have hl := rv.length
    have nai : a ≠ it := fun z => by
      subst z
      obtain ⟨o1, h1, c1, _⟩ := p
      obtain ⟨o2, h2, c2, _⟩ := hit
      rw [h1] at h2
      cases h2
      rw [c1] at c2
      exact absurd (Value.type.inj c2) (by decide)
    have D : Draws X.prog X.w X.A.in1 it [it, a] its.toArray.size (fun i v => its.toArray[i]? = some v) (fun i h => h.IsTupleIter it a i ∧ h.IsTuple a its.toArray) := Draws.tuple (show X.A.in1.handled = none from I.ok.hd hc) it a nai its.toArray
    have ei : its.toArray.size = i := by
      rw [List.size_toArray, ← hl]
      exact hx
    refine wpAny_pyNext_enum_endD D he (by rw [ei]; exact ⟨hit, p⟩) fun h' eb => ⟨rfl, I.turned (t' := s.toks) (fun b o hb q => eb b o hb q) f0 f1 f3 f4 f5⟩
  self := fun A i s Q E st h => let ⟨⟨_, he⟩, _⟩ := st; wpAny_pyIter_enum he h
def iEnumT (K : PySem.W.Frag) (ta : TA) : TI := fun σ H R => ta σ H fun vs H1 => ∃ a xs, vs = [.ref a] ∧ SqT K H1 a xs ∧ R (IteT K a) H1
theorem pi_enumT {X : Cx} {e : Expr} {ta : TA} {p pos tpos : Pos} {elts : List Expr} {kk : Nat} (hg : Gl X "enumerate") (hm : X.mg "enumerate" = none) (ha : PA X [e] ta) (hs : starEach [e] X.env = [(false, eval e X.env)] := by rfl) :
    PI X (.Tuple elts kk tpos) (.Call (.Name "enumerate" p) [e] [] pos) (iEnumT X.K ta) := by
  refine ⟨fun pins s σ H R I hw => ?_⟩
  refine Call_ (ld_blt I hg hm boot_enumerate (PyProof.Rows.callWith_type1 (thn (ha.run pos pins s σ H _ I hw) fun us s1 hh => ?_) hs rfl))
  obtain ⟨vs, H1, I1, r1, a, xs, rfl, hq, q⟩ := hh
  cases r1 with
  | cons ra rr =>
    cases rr
    cases ra
    obtain ⟨its, rv, pt, _⟩ := I1.tuple hq
    refine call_enumT pt fun h' he hit hk => wpAny_pyIter_enum he ?_
    have I2 : Inv X pins σ H1 { s1 with heap := h' } := I1.kept (t' := s1.toks) hk
    refine ⟨s1.heap.objs.size + 1, [s1.heap.objs.size + 1, s1.heap.objs.size], _, _, H1, rfl, I2, turn_enumT a (s1.heap.objs.size + 1) s1.heap.objs.size, ⟨⟨.none, he⟩, hit, Nat.succ_ne_self _⟩, fun b hb => ?_, q⟩
    have hle : s1.heap.objs.size ≤ b := by
      rcases (show b = s1.heap.objs.size + 1 ∨ b = s1.heap.objs.size by simpa using hb) with z | z
      · rw [z]; exact Nat.le_succ _
      · rw [z]; exact Nat.le_refl _
    exact I1.fpOk hle (I1.hok.fresh hle)
section
variable {K : PySem.W.Frag} {H H' Hd Hd' Hn H1 H2 Hm : Hp} {σ : L2.St} {ta tb te : TE} {tr : TA} {n i j j2 : Nat} {ds es : List PyData} {a : Addr} {xs : List V}
theorem walk_enumT : Walk (IteT K a) xs.length (fun H => SqT K H a xs) (YPair (fun i => some (.int (i : Nat))) (fun i => xs[i]?)) := by
  refine ⟨fun i _ hi q => ⟨xs, xs[i], q, by simp [hi]⟩, fun _ q => ⟨xs, q, rfl⟩, fun i H v H' _ q y => ?_⟩
  obtain ⟨T, x, h1, h2, h3, h4⟩ := y
  exact ⟨T, .int (i : Nat), x, h1, h2, h3, rfl, h4 xs q⟩
theorem ei_enumT (h : EvDA K tr σ Hd [.tuple ds]) : EvI K (iEnumT K tr) (g2 K j j2) σ Hd ds.length (SPair K j j2 (fun i => some (.int (i : Int))) (fun i => ds[i]?)) := fun H s R r =>
  h H s _ fun vs H2 Hn g hd => by
    cases hd with
    | cons h1 h2 =>
      cases h2
      cases h1 with
      | @tup a xs ds hs hall =>
        refine ⟨a, xs, rfl, ex_t g.sub hs, r _ H2 Hn _ _ g (by rw [← dpa_len hall]; exact walk_enumT) (fun H' e => ex_t e hs) fun i x H' H'' σ' k hi e y q => ?_⟩
        refine pair_turn (fun v e => ?_) (fun v e => dpa_get2 hall e) y q
        cases e
        exact ⟨_, rfl, .int _⟩
end
end Cot
namespace Cot
open PySem PySem.Spec PyProof.Rows L2 Evl
section
variable {K : PySem.W.Frag} {H H' Hd Hd' Hn H1 H2 Hm : Hp} {σ : L2.St} {ta tb te : TE} {t tt1 : TT} {tr : TA} {n i j j2 : Nat} {ds es : List PyData} {wi wi1 : TI} {g g1 : TG}
theorem lc1_it {J : It} {n : Nat} {G : Hp → Prop} {Y : Nat → Hp → V → Hp → Prop} (w : Walk J n G Y) {g : TG} {tt : TT} {te : TE} {vs : List Nat} {σ : L2.St} {H1 : Hp} {D : Addr} {Qd : Hp → Prop} (Pv : Nat → Hp → Prop) (h0 : Pv 0 H1) (hG : ∀ i H, i ≤ n → Pv i H → G H)
    (hs : ∀ i x H H', i < n → Pv i H → Y i H x H' → g x (wipe σ vs) H' fun σ2 H2 => wipe σ2 vs = wipe σ vs ∧ tt σ2 H2 fun b H3 =>
      if b = true then te σ2 H3 fun y H4 => ∃ acc, H4 D = some (.lst acc) ∧ acc.length < sizeLine ∧ Pv (i + 1) (upd H4 D (.lst (acc ++ [y]))) else Pv (i + 1) H3) (hd : ∀ H, Pv n H → Qd H) :
    ∃ W : Nat → Nat → Hp → Prop, (∃ m, W 0 m H1) ∧ ∀ i m H, W i m H →
      (J.stop i H ∧ Qd H) ∨ (J.go i H ∧ ∃ Nx : Hp → Prop, (∀ H', Nx H' → ∃ m', m' < m ∧ W (i + 1) m' H') ∧ ∀ x H', J.yld i H x H' → g x (wipe σ vs) H' fun σ2 H2 => wipe σ2 vs = wipe σ vs ∧ tt σ2 H2 fun b H3 =>
        if b = true then te σ2 H3 fun y H4 => ∃ acc, H4 D = some (.lst acc) ∧ acc.length < sizeLine ∧ Nx (upd H4 D (.lst (acc ++ [y]))) else Nx H3) := by
  refine ⟨fun i m H => m = n - i ∧ i ≤ n ∧ Pv i H, ⟨n, by simp, Nat.zero_le _, h0⟩, ?_⟩
  rintro i m Hx ⟨rfl, hi, p⟩
  have q := hG i Hx hi p
  by_cases hlt : i < n
  · exact .inr ⟨w.goes i Hx hlt q, Pv (i + 1), fun Hy p' => ⟨n - (i + 1), by omega, rfl, hlt, p'⟩, fun x Hy y => hs i x Hx Hy hlt p (w.yields i Hx x Hy hlt q y)⟩
  · have e : i = n := by omega
    subst e
    exact .inl ⟨w.stops Hx q, hd Hx p⟩
def flatD (n : Nat) (L : Nat → List PyData) : List PyData := ((List.range n).map L).flatten
theorem flatD_succ (n : Nat) (L : Nat → List PyData) : flatD (n + 1) L = flatD n L ++ L n := by
  unfold flatD
  rw [List.range_succ, List.map_append, List.flatten_append]
  simp
theorem en_lc2 {S : Nat → L2.St → L2.St → Hp → Prop} {S1 : Nat → Nat → L2.St → L2.St → Hp → Prop} {vs vs1 : List Nat} (n1 : Nat → Nat) (h : EvI K wi g σ Hd n S) (f : Nat → Nat → Bool) (v : Nat → Nat → PyData) (hn : (flatD n fun i => givenD (n1 i) (f i) (v i)).length ≤ 40000) (hsz : ∀ i, i < n → (flatD i fun i => givenD (n1 i) (f i) (v i)).length + n1 i ≤ 90000)
    (ht : ∀ (i : Nat) (σ2 : L2.St) (Hn : Hp), i < n → Ex Hd Hn → S i (wipe σ vs) σ2 Hn → wipe σ2 vs = wipe σ vs ∧ EvI K wi1 g1 σ2 Hn (n1 i) (S1 i) ∧
      ∀ (j : Nat) (σ3 : L2.St) (Hk : Hp), j < n1 i → Ex Hn Hk → S1 i j (wipe σ2 vs1) σ3 Hk → wipe σ3 vs1 = wipe σ2 vs1 ∧ EvT tt1 σ3 Hk (f i j) ∧ (f i j = true → EvD K te σ3 Hk (v i j))) :
    EvN K (tLc2 wi g tYes wi1 g1 tt1 te vs vs1) σ Hd (flatD n fun i => givenD (n1 i) (f i) (v i)) := fun H s Q q =>
  h H s _ fun J H1 Hn G Y gr w hG hY Dl hD => by
    refine ⟨fun i m H' => m = n - i ∧ i ≤ n ∧ ∃ Hm acc, Gr Hn H1 Hm H' ∧ Hm Dl = none ∧ H' Dl = some (.lst acc) ∧ DpAll K Hm acc (flatD i fun i => givenD (n1 i) (f i) (v i)), ⟨n, by simp, Nat.zero_le _, Hn, [], Gr.alloc gr.sub hD, fresh_back gr.sub hD, upd_same, .nil⟩, ?_⟩
    rintro i m H' ⟨rfl, hi, p⟩
    obtain ⟨Hm, acc, g1', hm, h2, hac⟩ := p
    have q0 := hG H' (g1'.dx.trans g1'.sub)
    by_cases hlt : i < n
    · refine .inr ⟨w.goes i H' hlt q0, fun H2 => ∃ Hm acc, Gr Hn H1 Hm H2 ∧ Hm Dl = none ∧ H2 Dl = some (.lst acc) ∧ DpAll K Hm acc (flatD (i + 1) fun i => givenD (n1 i) (f i) (v i)), fun H2 p' => ⟨n - (i + 1), by omega, rfl, hlt, p'⟩, fun x H'' y => ?_⟩
      refine hY i x H' H'' _ _ hlt (g1'.dx.trans g1'.sub) (w.yields i H' x H'' hlt q0 y) fun σ2 H3 e3 hS => ?_
      obtain ⟨hw, hI, hT⟩ := ht i σ2 Hn hlt gr.dx hS
      refine ⟨hw, ?_⟩
      refine hI H3 ((g1'.dx.trans g1'.sub).trans e3) _ fun J1 H4 Hk G1 Y1 gk w1 hG1 hY1 => ?_
      have gm : Gr Hm H3 (un Hm Hk) H4 := gk.up g1'.dx (g1'.sub.trans e3)
      have em : Ex Hk (un Hm Hk) := gk.upr g1'.dx (g1'.sub.trans e3)
      have hm4 : un Hm Hk Dl = none := gm.fr _ _ (e3 _ _ h2) hm
      refine lc1_it w1 (fun j H5 => j ≤ n1 i ∧ ∃ Ho acc, Gr Hn H1 Ho H5 ∧ Ex (un Hm Hk) Ho ∧ Ho Dl = none ∧ H5 Dl = some (.lst acc) ∧ DpAll K Ho acc (flatD i (fun i => givenD (n1 i) (f i) (v i)) ++ givenD j (f i) (v i))) ⟨Nat.zero_le _, un Hm Hk, acc, (g1'.post e3).trans gm, Ex.refl _, hm4, gk.ex _ _ (e3 _ _ h2), ?_⟩ (fun j H5 _ p => ?_) (fun j x H5 H6 hj p y => ?_) (fun H5 p => ?_)
      · show DpAll K _ _ (_ ++ [])
        rw [List.append_nil]
        exact dpa_mono gm.dx _ hac
      · obtain ⟨_, Ho, acc', go, eo, _⟩ := p
        exact hG1 H5 ((em.trans eo).trans go.sub)
      · obtain ⟨_, Ho, acc', go, eo, ho, h5, hac'⟩ := p
        refine hY1 j x H5 H6 _ _ hj ((em.trans eo).trans go.sub) y fun σ3 H7 e7 hS1 => ?_
        obtain ⟨hw1, hT1, hE⟩ := hT j σ3 Hk hj gk.dx hS1
        refine ⟨hw1, hT1 H7 (((em.trans eo).trans go.sub).trans e7) _ fun H8 e8 => ?_⟩
        have h8 : H8 Dl = some (.lst acc') := e8 _ _ (e7 _ _ h5)
        cases hf : f i j with
        | false =>
          show (j + 1 ≤ n1 i ∧ _)
          refine ⟨hj, Ho, acc', go.post (e7.trans e8), eo, ho, h8, ?_⟩
          rw [givenD_no hf]
          exact hac'
        | true =>
          show te σ3 H8 _
          refine ((hE hf).mono (em.trans eo)) H8 ((go.sub.trans e7).trans e8) _ fun y H9 Hp' g9 hy => ?_
          have hp9 : Hp' Dl = none := g9.fr _ _ h8 ho
          have al : acc'.length < sizeLine := sz_lt (by
            have h10 := givenD_len j (f i) (v i)
            have h11 := hsz i hlt
            rw [dpa_len hac', List.length_append]
            omega)
          refine ⟨acc', g9.ex _ _ h8, al, hj, Hp', acc' ++ [y], ⟨Ex.mut ((go.ex.trans (e7.trans e8)).trans g9.ex) hD, go.dx.trans g9.dx, Ex.mut g9.sub hp9, fun a o ha hd => g9.fr a o ((e7.trans e8) a o (go.ex a o ha)) (go.fr a o ha hd)⟩, eo.trans g9.dx, hp9, upd_same, ?_⟩
          rw [givenD_yes hf, ← List.append_assoc]
          exact dpa_app (dpa_mono g9.dx _ hac') (.cons hy .nil)
      · obtain ⟨_, Ho, acc', go, eo, ho, h5, hac'⟩ := p
        refine ⟨Ho, acc', go, ho, h5, ?_⟩
        rw [flatD_succ]
        exact hac'
    · have e : i = n := by omega
      subst e
      exact .inl ⟨w.stops H' q0, q Dl acc H' Hm (gr.trans g1') (fresh_back gr.ex hD) hm h2 hac⟩
end
end Cot

set_option Elab.async false
set_option linter.all false
set_option maxRecDepth 100000
set_option maxHeartbeats 4000000
/-! While an exception is handled: the ends of iterators, a tuple unpacked, a comprehension over a list. -/
namespace Cot
open PySem PySem.Spec PyProof.Rows L2 L2H HotX
section
variable {prog : Program} {w : World} {A : Around} {E : Value → Shared → Prop} {s : Shared}
/-- StopIteration() is made and raised -/
theorem stop_hot {α : Type} {x1 : Addr} {Q : α → Shared → Prop} (hot : HotAt A x1 s.heap)
    (hE : ∀ h' e, (∀ b o, s.heap.get? b = some o → h'.get? b = some o) → (∃ o, h'.get? e = some o ∧ o.cls = .type "StopIteration") → E (.ref e) { s with heap := h' }) :
    wpAny (model prog w) A (newExc (.type "StopIteration") [] >>= fun e => (raiseNew e : Sem α)) Q E s := by
  obtain ⟨hh, o1, vs1, h1, d1, c1⟩ := hot
  refine wpAny_bind ?_
  simp only [newExc, newTuple]
  refine wpAny_bind (wpAny_newObj_type ?a1 (by size_fits))
  case a1 =>
  refine wpAny_bind (m := firstArgMember _ _) (wpAny_of_eq (a := Value.none) ?a2 ?a3)
  case a2 => first | rfl | (simp only [firstArgMember]; rfl)
  case a3 =>
  refine wpAny_newObj_type ?a4 (by size_fits)
  case a4 =>
  have k1 := Heap.get?_push_of_some ({ cls := .type "tuple", data := .seq #[] } : Obj) h1
  refine raiseNew_hot ⟨hh, o1, vs1, Heap.get?_push_of_some _ (Heap.get?_push_of_some _ h1), d1, c1⟩ ?b1 (Heap.get?_push_size _ rfl) rfl ?b2 ?b3
  case b1 => exact Nat.ne_of_lt (Heap.lt_size (Heap.get?_push_of_some _ h1))
  case b2 => first | (simp; done) | (simp; omega) | (simp only [Array.size_append]; simp; omega)
  case b3 =>
  refine hE _ _ (fun b o e => ?_) ⟨_, Heap.get?_update_self _ (Heap.get?_push_size _ rfl) rfl, rfl⟩
  have e2 := Heap.get?_push_of_some ({ cls := .type "tuple", data := .seq #[] } : Obj) e
  rw [Heap.get?_update_other _ _ (Nat.ne_of_gt (Heap.lt_size (Heap.get?_push_of_some _ e)))]
  exact Heap.get?_push_of_some _ (Heap.get?_push_of_some _ e)
/-- a list's iterator at its end -/
theorem listEnd_hot {x1 it l : Addr} {i : Nat} {items : Array Value} {Q : Option Value → Shared → Prop} (hot : HotAt A x1 s.heap) (n1 : x1 ≠ it) (hit : s.heap.IsListIter it l i) (hl : s.heap.IsList l items) (hx : items[i]? = none)
    (hQ : ∀ h', Heap.ExtBut it s.heap h' → Q none { s with heap := h' }) : wpAny (model prog w) A (pyNext (.ref it)) Q E s := by
  obtain ⟨o, ho, hc, hd⟩ := id hit
  obtain ⟨ol, hol, _, nl, hdl⟩ := hl
  have hty := hit.typeIs
  unfold pyNext
  apply wpAny_bind
  apply wpAny_attempt
  refine wpAny_callSpecial?_slot (name := Str.ofString "__next__") hty slot_listiter_next (wpAny_call_entry slot_listiter_next hty entry_listiter_next ?_ (args_listiter_next _))
  show wpAny _ A.in1 (field (Value.ref it) 0 >>= _) _ _ _
  refine wpAny_bind (wpAny_field ho hd (x := .ref l) rfl ?f0)
  case f0 =>
  have nn : ¬ ((Value.ref l == Value.none) = true) := Bool.false_ne_true
  show wpAny _ _ (ite ((Value.ref l == Value.none) = true) _ _) _ _ s
  rw [if_neg nn]
  show wpAny _ A.in1 (field (Value.ref it) 1 >>= _) _ _ _
  refine wpAny_bind (wpAny_field ho hd (x := .int i 0) rfl ?f9)
  case f9 =>
  show wpAny _ A.in1 (seqItems? (Value.ref l) >>= _) _ _ _
  refine wpAny_bind (wpAny_seqItems hol hdl ?f1)
  case f1 =>
  simp only [Int.toNat_natCast, hx]
  refine wpAny_bind (wpAny_rule (wpAny_bind (wpAny_setField ho hd (by simp) ?f2)))
  case f2 =>
  obtain ⟨hh, o1, vs1, h1, d1, c1⟩ := hot
  refine stop_hot (A := A.in1) (x1 := x1) ⟨hh, o1, vs1, ?g1, d1, c1⟩ fun h' e k ke => ?g2
  case g1 =>
    show (Heap.update s.heap it _).get? x1 = some o1
    rw [Heap.get?_update_other _ _ n1.symm]
    exact h1
  case g2 =>
  obtain ⟨oe, q1, q2⟩ := ke
  refine wpAny_bind (wpAny_isInstance (T := "StopIteration") (b := true) ⟨oe, q1, q2⟩ isSubtype_stop (wpAny_pure (hQ h' fun b u hb hu => k b u ?g3)))
  case g3 =>
    show (Heap.update s.heap it _).get? b = some u
    rw [Heap.get?_update_other _ _ (Ne.symm hb)]
    exact hu
/-- a tuple's iterator at its end -/
theorem tupEnd_hot {x1 it l : Addr} {i : Nat} {items : Array Value} {Q : Option Value → Shared → Prop} (hot : HotAt A x1 s.heap) (n1 : x1 ≠ it) (hit : IsTupIter s.heap it l i) (hl : IsTup s.heap l items) (hx : items[i]? = none)
    (hQ : ∀ h', Heap.ExtBut it s.heap h' → Q none { s with heap := h' }) : wpAny (model prog w) A (pyNext (.ref it)) Q E s := by
  obtain ⟨o, ho, hc, hd⟩ := id hit
  obtain ⟨ol, hol, _, nl, hdl⟩ := hl
  have hty := hit.typeIs
  unfold pyNext
  apply wpAny_bind
  apply wpAny_attempt
  refine wpAny_callSpecial?_slot (name := Str.ofString "__next__") hty slot_tupleiter_next (wpAny_call_entry slot_tupleiter_next hty entry_tupleiter_next ?_ (args_tupleiter_next _))
  show wpAny _ A.in1 (field (Value.ref it) 0 >>= _) _ _ _
  refine wpAny_bind (wpAny_field ho hd (x := .ref l) rfl ?f0)
  case f0 =>
  have nn : ¬ ((Value.ref l == Value.none) = true) := Bool.false_ne_true
  show wpAny _ _ (ite ((Value.ref l == Value.none) = true) _ _) _ _ s
  rw [if_neg nn]
  show wpAny _ A.in1 (field (Value.ref it) 1 >>= _) _ _ _
  refine wpAny_bind (wpAny_field ho hd (x := .int i 0) rfl ?f9)
  case f9 =>
  show wpAny _ A.in1 (seqItems? (Value.ref l) >>= _) _ _ _
  refine wpAny_bind (wpAny_seqItems hol hdl ?f1)
  case f1 =>
  simp only [Int.toNat_natCast, hx]
  refine wpAny_bind (wpAny_rule (wpAny_bind (wpAny_setField ho hd (by simp) ?f2)))
  case f2 =>
  obtain ⟨hh, o1, vs1, h1, d1, c1⟩ := hot
  refine stop_hot (A := A.in1) (x1 := x1) ⟨hh, o1, vs1, ?g1, d1, c1⟩ fun h' e k ke => ?g2
  case g1 =>
    show (Heap.update s.heap it _).get? x1 = some o1
    rw [Heap.get?_update_other _ _ n1.symm]
    exact h1
  case g2 =>
  obtain ⟨oe, q1, q2⟩ := ke
  refine wpAny_bind (wpAny_isInstance (T := "StopIteration") (b := true) ⟨oe, q1, q2⟩ isSubtype_stop (wpAny_pure (hQ h' fun b u hb hu => k b u ?g3)))
  case g3 =>
    show (Heap.update s.heap it _).get? b = some u
    rw [Heap.get?_update_other _ _ (Ne.symm hb)]
    exact hu
/-- a, b, .. = a tuple -/
theorem unpack_hot {x1 t : Addr} {items : Array Value} {env : Env} {elts : List Expr} {k1} {pos : Pos} {Q : Unit → Shared → Prop} (hot : HotAt A x1 s.heap) (ht : IsTup s.heap t items) (hn : (assignEach elts env).length = items.size) (hstar : (assignEach elts env).findIdx? (·.1) = none)
    (hq : ∀ h', Heap.ExtBut s.heap.objs.size s.heap h' → wpAny (model prog w) A (assignInOrder ((assignEach elts env).map (·.2)) items.toList) Q E { s with heap := h' }) :
    wpAny (model prog w) A (assign (.Tuple elts k1 pos) env (.ref t)) Q E s := by
  have nt : t ≠ s.heap.objs.size := by
    obtain ⟨o, ho, _⟩ := ht
    exact Nat.ne_of_lt (Heap.lt_size ho)
  have n1 : x1 ≠ s.heap.objs.size := by
    obtain ⟨_, o1, _, h1, _⟩ := hot
    exact Nat.ne_of_lt (Heap.lt_size h1)
  rw [assign_Tuple]
  apply wpAny_bind
  apply wpAny_standAt
  unfold unpack
  rw [hn, hstar]
  apply wpAny_bind
  apply wpAny_holding
  unfold unpackItems notIterableAtAll
  refine wpAny_bind (wpAny_bind (wpAny_specialOf ht.typeIs slot_tuple_iter.lookup (wpAny_pure ?u1)))
  case u1 =>
  simp only [Bool.false_eq_true, if_false]
  refine wpAny_bind (wpAny_holding (iter_tuple ht ?u2))
  case u2 =>
  refine wpAny_bind (wpAny_holding (draw_tuple nt items.size 0 _ _ ⟨_, Heap.get?_push_size _ rfl, rfl, rfl⟩ (ht.push _) (by omega) fun ha ia sa => ?u3))
  case u3 =>
  have all : (items.toList.drop 0).take items.size = items.toList := by
    rw [List.drop_zero]
    exact List.take_of_length_le (by simp)
  rw [all, if_neg (by simp)]
  have ta : IsTup ha t items := (ht.push _).extBut sa.extBut nt
  have hota : HotAt A x1 ha := by
    obtain ⟨hh, o1, vs1, h1, d1, c1⟩ := hot
    exact ⟨hh, o1, vs1, sa.extBut _ _ n1 (Heap.get?_push_of_some _ h1), d1, c1⟩
  refine wpAny_bind (wpAny_holding (tupEnd_hot hota n1 ia ta (by simp) fun hb eb => ?u4))
  case u4 =>
  simp only [Option.isSome_none, Bool.false_eq_true, if_false]
  refine wpAny_pure (hq hb fun c o hc e => eb c o hc (sa.extBut c o hc (Heap.get?_push_of_some _ e)))
end
/-- a context in which an exception is handled, whatever was done -/
def HotI (X : Cx) : Prop := ∀ (pins : List (Addr × Obj)) (σ : L2.St) (H : Hp) (s : Shared), Inv X pins σ H s → ∃ x1, HotAt X.A x1 s.heap
theorem pg_tupH {X : Cx} {es : List Expr} {k n : Nat} {t : TGs} {pos : Pos} (hc : HotI X) (h : PGs X es t)
    (hn : (assignEach es X.env).length = n := by rfl) (hst : (assignEach es X.env).findIdx? (·.1) = none := by rfl) : PG X (.Tuple es k pos) (gTup X.K n t) := by
  refine ⟨fun pins s σ H v u Q I r hw => ?_⟩
  obtain ⟨a, xs, rfl, hq, hl, hw⟩ := hw
  cases r
  obtain ⟨its, rv, ht, _⟩ := I.tuple hq
  obtain ⟨x1, hot⟩ := hc pins σ H s I
  refine unpack_hot hot ht (by simp [hn, ← hl, rv.length]) hst fun h' hx => ?_
  have J : Inv X pins σ H { s with heap := h' } := I.kept (t' := s.toks) fun b o e => hx b o (Nat.ne_of_lt (Heap.lt_size e)) e
  exact h.run pins _ σ H xs _ Q J (by simpa using rv) hw
/-- what stands untracked where a block begins stands all along, so the handled exception too -/
theorem hot_blk {X : Cx} {s : Shared} {H : Hp} {scope : Scope} {ce : Env} {fp : List Addr} {p : Addr × Obj} (h1 : Hot1 X.A p) (g : s.heap.get? p.1 = some p.2) (n : H p.1 = none) (f : p.1 ∉ frs X.stack) (nf : p.1 ∉ fp) : HotI (X.blk s H scope ce fp) := fun pins σ H' s' I => by
  obtain ⟨hh, vs, d, c⟩ := h1
  refine ⟨p.1, hh, p.2, vs, I.base.keep p.1 p.2 g n ?_ nf, d, c⟩
  exact f
theorem pe_lcH {X : Cx} {elt tg l : Expr} {ifs : List Expr} {scope : Scope} {own : List (Str × Nat)} {pos : Pos} {tl te : TE} {g : TG} {tt : TT} (hot : HotC X) (hN : X.N.Nodup) (hl : PE X l tl) (ok : BlkOk X.N X.env.scope scope own)
    (hg : ∀ (s : Shared) (H : Hp) (C : Addr) (cl : List (Str × Addr)) (fp : List Addr), HotI (X.blk s H scope (compEnvC scope cl C X.env) fp) → PG (X.blk s H scope (compEnvC scope cl C X.env) fp) tg g)
    (ht : ∀ (s : Shared) (H : Hp) (C : Addr) (cl : List (Str × Addr)) (fp : List Addr), PTs (X.blk s H scope (compEnvC scope cl C X.env) fp) ifs tt)
    (he : ∀ (s : Shared) (H : Hp) (C : Addr) (cl : List (Str × Addr)) (fp : List Addr), PE (X.blk s H scope (compEnvC scope cl C X.env) fp) elt te) (hs : ∀ x, foldedSetIterable l X.env x = pure x := by intro _; rfl) :
    PE X (.ListComp elt [⟨tg, l, ifs, 0⟩] scope pos) (tLc (iList X.K tl) g tt te (own.map (·.2))) := by
  refine ⟨fun pins s σ H Q I hw => ?_⟩
  rw [eval_ListComp]
  have cells : ∀ y ∈ scope.names, y.2 = .free → ∃ c, X.env.cells.lookup y.1 = some c := fun y hy e => by
    rcases ok.free y hy e with k | k
    · exact I.ok.has _ (.inl k)
    · exact I.ok.has _ (.inr k)
  apply wpAny_comprehension_free rfl hs (closure_ok cells) ok.kind (fun y hy e => by rw [ok.uniq y hy, e])
  refine thn (hl.run pins s σ H _ I hw) fun xv sa hx => ?_
  obtain ⟨xv', Ha, Ia, ra, a, rfl, ⟨xs, hq⟩, q⟩ := hx
  cases ra
  obtain ⟨its, rv, pl, _⟩ := Ia.list hq
  apply wpAny_pyIter_list pl.isList
  -- the iterator, new
  obtain ⟨it, eit⟩ : ∃ it, it = sa.heap.objs.size := ⟨_, rfl⟩
  obtain ⟨sb, esb⟩ : ∃ sb : Shared, sb = { sa with heap := sa.heap.push { cls := .type "list_iterator", data := .fields #[.ref a, .int 0 0] } } := ⟨_, rfl⟩
  have Ib : Inv X pins σ Ha sb := by
    rw [esb]
    exact Ia.kept (t' := sa.toks) fun b o e => Heap.get?_push_of_some _ e
  have itb : sb.heap.IsListIter it a 0 := by
    rw [esb, eit]
    exact ⟨_, Heap.get?_push_size _ rfl, rfl, rfl⟩
  have fpb : FpOk X pins Ha it := by
    rw [eit]
    exact Ia.fpOk (Nat.le_refl _) (Ia.hok.fresh (Nat.le_refl _))
  rw [← eit, ← esb]
  refine wpAny_newObj_type (newEnv_comp ?_) (by show 0 ≤ sizeLine; decide)
  obtain ⟨D, eD⟩ : ∃ D, D = sb.heap.objs.size := ⟨_, rfl⟩
  have nD : Ha D = none := by
    rw [eD]
    exact Ib.hok.fresh (Nat.le_refl _)
  obtain ⟨W, ⟨m0, w0⟩, turn⟩ := q D nD
  obtain ⟨sc, esc⟩ : ∃ sc : Shared, sc = { sb with heap := sb.heap.push { cls := .type "list", data := .seq ([] : List Value).toArray } } := ⟨_, rfl⟩
  have hsc : sc.heap = sb.heap.push { cls := .type "list", data := .seq ([] : List Value).toArray } := by rw [esc]
  have Ic : Inv X pins σ (upd Ha D (.lst [])) sc := by
    rw [esc]
    refine Ib.laid (t' := sb.toks) (fun b o e => Heap.get?_push_of_some _ e) (Nat.le_of_eq eD.symm) ⟨Nat.zero_le _, [], 0, .nil, ?_⟩
    rw [eD]
    exact Heap.get?_push_size _ rfl
  have ltit : it < sb.heap.objs.size := by
    obtain ⟨o, e, _⟩ := itb
    exact Heap.lt_size e
  have nDit : it ≠ D := by
    rw [eD]
    exact Nat.ne_of_lt ltit
  have itc : sc.heap.IsListIter it a 0 := itb.at fun o e => by
    rw [hsc]
    exact Heap.get?_push_of_some _ e
  have fpc : ∀ b ∈ [it], FpOk X pins (upd Ha D (.lst [])) b ∧ b < sc.heap.objs.size := fun b hb => by
    rw [List.mem_singleton.mp hb]
    refine ⟨⟨?_, fpb.2⟩, ?_⟩
    · rw [upd_ne nDit]
      exact fpb.1
    · rw [hsc, Heap.size_push]
      exact Nat.lt_succ_of_lt ltit
  obtain ⟨p, hp1, hpn⟩ := hot
  have pc := Ic.pin p (List.mem_append_left _ hpn)
  have npit : p.1 ≠ it := fun z => fpb.2.2.2.2.2 p (List.mem_append_left _ hpn) z
  have Id := block_start Ic ok hN fpc
  rw [← esc]
  obtain ⟨Hc, eHc⟩ : ∃ Hc, Hc = upd Ha D (.lst []) := ⟨_, rfl⟩
  rw [← eHc] at Ic Id fpc w0 pc
  obtain ⟨cl, ecl⟩ : ∃ cl, cl = cellsFrom (sc.heap.objs.size + 1) scope.names (cloFrom X.env.cells scope.names []) := ⟨_, rfl⟩
  rw [← ecl] at Id ⊢
  obtain ⟨C, eC⟩ : ∃ C, C = sc.heap.objs.size := ⟨_, rfl⟩
  have hI : HotI (X.blk sc Hc scope (compEnvC scope cl C X.env) [it]) := hot_blk hp1 pc.1 pc.2.1 (fun z => (List.mem_cons.mp (Ic.stkSub p.1 z)).elim pc.2.2.1 pc.2.2.2.1) (by simp [npit])
  have pg := hg sc Hc C cl [it] hI
  have pt := ht sc Hc C cl [it]
  have pe := he sc Hc C cl [it]
  obtain ⟨sd, esd⟩ : ∃ sd : Shared, sd = { sc with heap := pushCells (sc.heap.push { cls := .type "dict", data := .dict #[] }) scope.names } := ⟨_, rfl⟩
  obtain ⟨ce, ece⟩ : ∃ ce, ce = compEnvC scope cl C X.env := ⟨_, rfl⟩
  rw [← eC] at Id
  rw [← ece] at Id pg pt pe hI
  have Id' : Inv (X.blk sc Hc scope ce [it]) [] (wipe σ (own.map (·.2))) Hc sd := by
    rw [esd]
    exact Id
  have locC : ce.locals = C := by rw [ece]; rfl
  have itd : sd.heap.IsListIter it a 0 := itc.at fun o e => by
    rw [esd]
    exact pushCells_keeps _ _ _ _ (Heap.get?_push_of_some _ e)
  show codeAny (model X.prog X.w) X.A (.compStart (.ListComp elt [⟨tg, l, ifs, 0⟩] scope pos) 0 (.ref it) (.ref sb.heap.objs.size) (compEnvC scope cl sc.heap.objs.size X.env)) (compPost (model X.prog X.w) X.A X.xe none (EP X pins σ Q) (.ref sb.heap.objs.size) sc.heap.objs.size) _
  rw [← esd, ← eC, ← ece, ← eD]
  -- the iterator's own place, at any state of the block
  have fpAt : ∀ {σ' : L2.St} {H' : Hp} {s' : Shared}, Inv (X.blk sc Hc scope ce [it]) [] σ' H' s' → H' it = none → FpOk (X.blk sc Hc scope ce [it]) [] H' it := fun {σ' H' s'} J hn =>
    ⟨hn, (J.ok.exf it (by simp)).1, J.ok.exfs it (by simp), .inl (by simp), fun x c e => (J.ok.exf it (by simp)).2 x c e, fun z hz => absurd (show z ∈ ([] : List (Addr × Obj)) ++ [] from hz) (by simp)⟩
  have loop : codeAny (model X.prog X.w) X.A (.compLoop (.ListComp elt [⟨tg, l, ifs, 0⟩] scope pos) 0 (.ref it) (.ref D) ce) (compPost (model X.prog X.w) X.A X.xe none (EP X pins σ Q) (.ref D) C) sd := by
    refine compLoop_any (fun n s' => ∃ i H', Inv (X.blk sc Hc scope ce [it]) [] (wipe σ (own.map (·.2))) H' s' ∧ s'.heap.IsListIter it a i ∧ H' it = none ∧ W i n H') ?_ m0 ⟨0, Hc, Id', itd, (fpc it (by simp)).1.1, w0⟩
    rintro n se ⟨i, He, Ie, ite, ne, we⟩
    obtain ⟨x1, hx1⟩ := hI _ _ _ _ Ie
    obtain ⟨f0, f1, f2, f3, f4, f5⟩ := fpAt Ie ne
    have nx1 : x1 ≠ it := fun z => by
      obtain ⟨_, o1, vs1, q1, q2, q3⟩ := hx1
      obtain ⟨o2, q4, q5, q6⟩ := ite
      rw [z, q4] at q1
      cases q1
      rw [q6] at q2
      cases q2
      simp at q3
    rcases turn i n He we with ⟨stop, qe⟩ | ⟨go, Nx, hNx, step⟩
    · obtain ⟨ys, hy, hly⟩ := stop
      obtain ⟨its2, rv2, pl2, _⟩ := Ie.list hy
      have l2 := rv2.length
      refine listEnd_hot hx1 nx1 ite pl2.isList (by simp; omega) fun h' eb => ?_
      have If : Inv (X.blk sc Hc scope ce [it]) [] (wipe σ (own.map (·.2))) He { se with heap := h' } := Ie.turned (t' := se.toks) (fun b o hb e => eb b o hb e) f0 f1 f3 f4 f5
      have Ig : Inv X pins σ He { se with heap := h' } := Ic.call' (ch := [it]) If.os If.base If.hok If.bare fun b hb => by
        have z := (fpc b hb).1
        exact ⟨z.2.2.2.1, z.2.1, z.2.2.2.2.1, z.2.2.2.2.2⟩
      have nC : He C = none := by
        have z : He ce.locals = none := If.free
        rw [locC] at z
        exact z
      obtain ⟨m, hm, _⟩ := If.loc
      have hm : ({ se with heap := h' } : Shared).heap.Ns ce.locals m := hm
      rw [locC] at hm
      have fC : FpOk X pins He C := by
        rw [eC] at nC ⊢
        exact Ic.fpOk (Nat.le_refl _) nC
      obtain ⟨c0, c1, c2, c3, c4, c5⟩ := fC
      exact ⟨m, hm, fun h2 sb2 => ⟨.ref D, He, Ig.turned (t' := se.toks) (fun b o hb e => (sb2.2 b hb).trans e) c0 c1 c3 c4 c5, rfl, qe⟩⟩
    · obtain ⟨ys, x, hy, hx⟩ := go
      obtain ⟨its2, rv2, pl2, _⟩ := Ie.list hy
      obtain ⟨u, hu, ru⟩ := rv2.get hx
      refine wpAny_pyNext_list_item ite pl2.isList (x := u) (by simpa using hu) fun hf itf sbf => ?_
      obtain ⟨sf, esf⟩ : ∃ sf : Shared, sf = { se with heap := hf } := ⟨_, rfl⟩
      have If : Inv (X.blk sc Hc scope ce [it]) [] (wipe σ (own.map (·.2))) He sf := by
        rw [esf]
        exact Ie.turned (t' := se.toks) (fun b o hb e => (sbf.2 b hb).trans e) f0 f1 f3 f4 f5
      have itf2 : sf.heap.IsListIter it a (i + 1) := by rw [esf]; exact itf
      rw [← esf]
      obtain ⟨oi, ei, ci, di⟩ := id itf2
      have ncell : ∀ v, oi.data ≠ .cell v := fun v z => by
        rw [di] at z
        cases z
      refine go_of (s := sf) ei ci di (by decide) ?_
      have Ip : Inv (X.blk sc Hc scope ce [it]) ([] ++ pinsAt [it] sf.heap) (wipe σ (own.map (·.2))) He sf := If.pinned (fun b hb => by rw [List.mem_singleton.mp hb]; exact fpAt If ne) (fun b hb => by rw [List.mem_singleton.mp hb]; exact ⟨oi, ei, ncell⟩)
      -- behind a turn
      have next : ∀ {σ' : L2.St} {s' : Shared} {H' : Hp}, Inv (X.blk sc Hc scope ce [it]) ([] ++ pinsAt [it] sf.heap) σ' H' s' → wipe σ' (own.map (·.2)) = wipe σ (own.map (·.2)) → Nx H' → ∃ m, m < n ∧ ∃ i H', Inv (X.blk sc Hc scope ce [it]) [] (wipe σ (own.map (·.2))) H' s' ∧ s'.heap.IsListIter it a i ∧ H' it = none ∧ W i m H' := fun {σ' s' H'} J hwp nx => by
        obtain ⟨m', lt', w'⟩ := hNx H' nx
        have pin := J.pin (it, oi) (List.mem_append_right _ (List.mem_append_right _ (mem_pinsAt (by simp) ei)))
        refine ⟨m', lt', i + 1, H', (J.unpinned (pins := [])).weak (by rw [← hwp, wipe_length]) (fun j v e => ?_), itf2.at fun o e => ?_, pin.2.1, w'⟩
        · rw [← hwp] at e
          exact (wipe_some e).1
        · rw [ei] at e
          cases e
          exact pin.1
      refine thnF (pg.run _ sf _ He x u _ Ip ru (step x He ⟨rfl, fun zs hz => by rw [Ie.list_inj hz hy]; exact hx⟩)) fun _ sg hgq => ?_
      obtain ⟨σg, Hg, Ig, hwg, qg⟩ := hgq
      refine thnF (pt.run _ sg σg Hg _ Ig qg) fun bb sh hhq => ?_
      obtain ⟨Hh, Ih, qh⟩ := hhq
      cases bb with
      | false =>
        rw [if_neg Bool.false_ne_true] at qh ⊢
        exact next Ih hwg qh
      | true =>
        rw [if_pos rfl] at qh ⊢
        refine thnF (pe.run _ sh σg Hh _ Ih qh) fun z si hiq => ?_
        obtain ⟨yv, Hi, Ii, ri, acc, hDi, hzi, nx⟩ := hiq
        exact app_ok (X := X.blk sc Hc scope ce [it]) Ii hDi hzi ri fun sj Ij => next Ij hwg nx
  exact codeAny_compStart_list loop (wpAny_pyIter_listiter itd loop)
end Cot

set_option Elab.async false
set_option linter.all false
set_option maxRecDepth 100000
set_option maxHeartbeats 4000000
/-! A lambda without parameters handed to a def, whose exceptions bear no context. -/
namespace Cot
open PySem PySem.Spec PyProof.Rows L2 LamX
/-- the lambda's context, exceptions as L2N tells them -/
def lamN (X : Cx) (A : Around) (outer : List Env) (s : Shared) (H : Hp) (E : XK) (scope : Scope) (f c' : Addr) : Cx :=
  (lamCx X A outer s H E scope f c').wish fun e s1 => wpAny (model X.prog X.w) (A.deeper (lamEnv X scope s.heap.objs.size f c')) (leaving (lamEnv X scope s.heap.objs.size f c') e) (fun _ s2 => L2N.CX X.prog X.w outer H s E e s2) (fun e2 s2 => L2N.CX X.prog X.w outer H s E e2 s2) s1
section
variable {X : Cx} {pins : List (Addr × Obj)} {σ : L2.St} {H : Hp} {s : Shared}
theorem actN {CXg : CXT} {Eg : XK} {Ng : List Str} {qg : Str} {sg : Scope} {g f c' : Addr} {cdg pm ctv : Value} {params : Arguments} {body : Expr} {scope : Scope} {k i : Nat} {a : Str} {pn : List (Addr × Obj)} {xe : Value → Shared → Prop} {W : WX} {E : XK} {tb : TE} {p1 p2 : Pos}
    (I : Inv X pins σ H s) (L : LamS X.env.scope scope) (of0 : s.heap.get? f = some (PySem.W.kla_obj "<lambda>" (X.env.qual ++ "<lambda>") params body scope (cloFrom X.env.cells scope.names []) pm c' ctv)) (nf : H f = none) (ff : f ∉ frs X.stack)
    (bnd : bindArgs (PySem.W.kla_fn "<lambda>" (X.env.qual ++ "<lambda>") params body scope (cloFrom X.env.cells scope.names []) pm (.ref c') ctv) ⟨[], []⟩ = pure [])
    (tk : L2N.Takes ((cxOf CXg X.prog X.w X.K X.mg X.base Ng qg sg g cdg X.A X.stack s H Eg).tr pn xe) W) (hW : ∀ cls d σ1 H1, E cls d H1 → W cls d σ1 H1) (hr : Room (k + 1) (X.A.deeper (envOfC qg sg s.heap.objs.size g cdg)))
    (hb : ∀ (A : Around) (outer : List Env) (s : Shared) (H : Hp), Room k (A.deeper (lamEnv X scope s.heap.objs.size f c')) → PE (lamN X A outer s H E scope f c') body tb)
    (hN : Ng[i]? = some a) (hv : Vis sg a) (hd : (a == ("__debug__" : Str)) = false) (hcd : (a == ("__classdict__" : Str)) = false) :
    PE ((cxOf CXg X.prog X.w X.K X.mg X.base Ng qg sg g cdg X.A X.stack s H Eg).tr pn xe) (.Call (.Name a p1) [] [] p2)
      (fun σz Hz Q => σz[i]? = some (some (.ref f)) ∧ Hz c' = some (CodeO c' (X.env.qual ++ "<lambda>")) ∧ tb σ Hz Q) := by
  refine ⟨fun pz sz σz Hz Q Iz hq => ?_⟩
  obtain ⟨h1, h2, h3⟩ := hq
  have var := (pe_var (X := (cxOf CXg X.prog X.w X.K X.mg X.base Ng qg sg g cdg X.A X.stack s H Eg).tr pn xe) (pos := p1) (i := i) hN hv hd hcd).run pz sz σz Hz (fun v H1 => v = .ref f ∧ H1 = Hz) Iz ⟨.ref f, h1, rfl, rfl⟩
  refine wpAny_Call_Name_kw (thn var fun u sa hh => ?_)
  obtain ⟨v, Ha, Ia, ra, rfl, eHa⟩ := hh
  rw [eHa] at Ia
  cases ra
  have ofa := Ia.base.keep f _ of0 nf ff (fun z => nomatch (show f ∈ ([] : List Addr) from z))
  refine PySem.W.callWith_F0 ⟨_, _, _, _, ofa⟩ ?_
  have una : Un (frs X.stack) [] H Hz s.heap sa.heap := Ia.base
  obtain ⟨⟨oc, vs, t, hoc, hdc, hvc⟩, _, _⟩ := Ia.hok c' _ h2
  have run : codeAny (model X.prog X.w) (X.A.deeper (envOfC qg sg s.heap.objs.size g cdg)) (.call (.ref f) ⟨[], []⟩) (CR (L2N.CX X.prog X.w) (envOfC qg sg s.heap.objs.size g cdg :: X.stack) X.prog X.w Hz sa Q E) sa := by
    refine PySem.W.kla_callFunE hr.depth ofa rfl L.co L.gen rfl ⟨c', oc, vs, t, rfl, hoc, hdc, hvc⟩ ?_
    rw [bnd]
    apply wpAny_pure
    refine wpAny_newFunctionEnv (fun y hy => (L.own y hy).2) (fun y hy => absurd hy (by simp)) (fun hn ns sb => ⟨Ia.nolimit.fresh _ sb, ?_⟩) L.kind
    have keep : ∀ b o, sa.heap.get? b = some o → hn.get? b = some o := fun b o e => sb.extBut b o (Nat.ne_of_lt (Heap.lt_size e)) (Heap.get?_push_of_some _ e)
    have J := (lam_start2 (E := E) (f := f) (c' := c') (tk := sa.toks + ([] : List (Str × Value)).length) I L Ia.env0 hr.hd una ns keep).wish (fun e s1 => wpAny (model X.prog X.w) ((X.A.deeper (envOfC qg sg s.heap.objs.size g cdg)).deeper (lamEnv X scope sa.heap.objs.size f c')) (leaving (lamEnv X scope sa.heap.objs.size f c') e) (fun _ s2 => L2N.CX X.prog X.w (envOfC qg sg s.heap.objs.size g cdg :: X.stack) Hz sa E e s2) (fun e2 s2 => L2N.CX X.prog X.w (envOfC qg sg s.heap.objs.size g cdg :: X.stack) Hz sa E e2 s2) s1)
    show codeAny _ _ (.expr body (lamEnv X scope sa.heap.objs.size f c')) _ _
    refine PySem.W.kla_codeExpr (wpAny_mono ((hb _ _ sa Hz (hr.deeper _)).run [] _ _ Hz Q J h3) (fun v s1 hv => ?_) fun e s1 hv => hv)
    obtain ⟨v1, H1, J1, r1, q1⟩ := hv
    exact ⟨v1, H1, J1.os, J1.bare, J1.base, J1.hok, r1, q1⟩
  have pass := L2N.passes_call tk hW
  refine wpAny_call (codeAny_mono run fun r s1 hv => ?_)
  cases r with
  | error e => exact pass pz σz Hz sa e s1 Ia hv
  | ok fl =>
    cases fl with
    | ret u => exact Ia.after hv
    | next => exact hv.elim
    | brk => exact hv.elim
    | cont => exact hv.elim
end
/-- the def that calls what it got -/
def GivesN (X : Cx) (Ng : List Str) (x : Str) (sg : Scope) (g : Addr) (cdg : Value) (bg : List Stmt) (a : Str) (q : Str) (k : Nat) (TT : (XK → Hp → VK → Prop) → Hp → VK → Prop) : Prop :=
  ∀ (f c' : Addr) (s : Shared) (H : Hp) (Q : VK) (tl : XK → Hp → VK → Prop), Room (k + 1) (X.A.deeper (envOfC x sg s.heap.objs.size g cdg)) →
    (∀ (W : WX) (pn : List (Addr × Obj)) (xe : Value → Shared → Prop) (E : XK) (p1 p2 : Pos), L2N.Takes ((cxOf C8.CX0 X.prog X.w X.K X.mg X.base Ng x sg g cdg X.A X.stack s H C8.E0).tr pn xe) W → (∀ cls d σ1 H1, E cls d H1 → W cls d σ1 H1) →
      PE ((cxOf C8.CX0 X.prog X.w X.K X.mg X.base Ng x sg g cdg X.A X.stack s H C8.E0).tr pn xe) (.Call (.Name a p1) [] [] p2) (fun σz Hz Q => σz[0]? = some (some (.ref f)) ∧ Hz c' = some (CodeO c' q) ∧ tl E Hz Q)) →
    H c' = some (CodeO c' q) → TT tl H Q →
    ∃ t, PSs (cxOf C8.CX0 X.prog X.w X.K X.mg X.base Ng x sg g cdg X.A X.stack s H C8.E0).nox bg t ∧ t { nx := fun _ H1 => Q .non H1, rt := Q } (L2.start Ng [.ref f]) H
theorem pe_lamN {X : Cx} {T : List (Addr × Str)} {TT : (XK → Hp → VK → Prop) → Hp → VK → Prop} {x a : Str} {g c P : Addr} {k : Nat} {pg : Arguments} {bg : List Stmt} {sg : Scope} {dV kV doc pm cdv ct oc : Value} {an od : Option Addr} {osl : Array (Option Value)} {Ng : List Str}
    {params : Arguments} {body : Expr} {scope : Scope} {t : XK → TE} {p lpos pos : Pos} (hg : Gl X x) (hm : X.mg x = some (.ref g)) (hk : PySem.W.keepIn X.K (.ref g) = true)
    (lk : X.K.lookup g = some ⟨oc, od, .func (PySem.W.fnOf x x pg bg sg dV kV doc pm an cdv ct), osl⟩) (hcg : PySem.W.codeIn X.K cdv x = true) (hbi : L2.Binds X.K (PySem.W.fnOf x x pg bg sg dV kV doc pm an cdv ct) [a] []) (Sg : FnScope Ng [a] sg) (hNg : Ng[0]? = some a) (hva : Vis sg a)
    (hG : GivesN X Ng x sg g cdv bg a (X.env.qual ++ "<lambda>") k TT)
    (TB : TabB X.base X.mg c P) (hcode : X.env.code = .ref c) (hmT : (P, X.env.qual ++ "<lambda>") ∈ T) (hu : ∀ q ∈ T, q.1 = P → q.2 = X.env.qual ++ "<lambda>") (hr : Room (k + 2) X.A) (L : LamS X.env.scope scope) (hdef : defaultsOf params X.env = ([], []))
    (bnd : ∀ (q : Str) (cl : List (Str × Addr)) (pm cv ctv : Value), bindArgs (PySem.W.kla_fn "<lambda>" q params body scope cl pm cv ctv) ⟨[], []⟩ = pure [])
    (hb : ∀ (A : Around) (outer : List Env) (s : Shared) (H : Hp) (E : XK) (f c' : Addr), Room k (A.deeper (lamEnv X scope s.heap.objs.size f c')) → PE (lamN X A outer s H E scope f c') body (t E))
    (hdb : (x == ("__debug__" : Str)) = false := by decide) (hd : (a == ("__debug__" : Str)) = false := by decide) (hcd : (a == ("__classdict__" : Str)) = false := by decide) :
    PE X (.Call (.Name x p) [.Lambda params body scope lpos] [] pos) (tLam T TT t) := by
  refine ⟨fun pz sz σz Hz Q Iz hq => ?_⟩
  obtain ⟨hT, hq⟩ := hq
  refine wpAny_Call_Name_kw (ld_glob Iz hg hm (PySem.W.callWith_K (h₀ := X.base) Iz.ok.mod.kin hk ?_ (by rfl) (by rfl)) hdb)
  show wpAny _ _ (spliced ((false, eval (.Lambda params body scope lpos) X.env) :: backTo pos (starEach [] X.env))) _ _ sz
  refine Calls.spliced_cons (lam_make2 Iz TB hcode hmT hu hT hdef (L.has Iz.ok) fun f c' pm1 ctv Ha sa Ia eN Ta of0 nf ff hco => ?_)
  refine Calls.spliced_nil ⟨Ia.kIn, ?_⟩
  have run : codeAny (model X.prog X.w) X.A (.call (.ref g) ⟨[.ref f], []⟩) (CR C8.CX0 X.stack X.prog X.w Ha sa Q C8.E0) sa := by
    refine run_ofS (N := Ng) (ps := [a]) (us := [.ref f]) (vs := [.ref f]) lk hcg Sg hr Ia.env0 (hbi sa [.ref f] Ia.kIn rfl) (.cons rfl .nil) rfl fun hr1 => ?_
    obtain ⟨t1, ht1, hq1⟩ := hG f c' sa Ha Q (fun E H1 Q1 => t E σz H1 Q1) hr1 (fun W pn xe E p1 p2 tk hW => actN (i := 0) Ia L of0 nf ff (bnd _ _ _ _ _) tk hW hr1 (fun A outer s H hr2 => hb A outer s H E f c' hr2) hNg hva hd hcd) hco (hq Ha eN Ta)
    exact ⟨t1, ht1.nox, hq1⟩
  refine wpAny_call (codeAny_mono run fun r s1 hv => ?_)
  cases r with
  | error e => exact (show False from hv).elim
  | ok fl =>
    cases fl with
    | ret u => exact Ia.after hv
    | next => exact hv.elim
    | brk => exact hv.elim
    | cont => exact hv.elim
end Cot

set_option Elab.async false
set_option linter.all false
set_option maxRecDepth 100000
set_option maxHeartbeats 4000000
/-! A def that is handed the exception that is being handled; isinstance of it. -/
namespace Cot
open PySem PySem.Spec PyProof.Rows L2 L2H
/-- what such a def promises: told of the exception's place and object -/
structure FnP (P : Program) (w : World) (K : PySem.W.Frag) (mg : Str → Option Value) (base : Heap) (CX : CXT) (k : Nat) (f : Addr) (fd : FuncData) (ps : List Str) (sp : Addr × Obj → Sp) : Prop where
  ln : ∀ p vs H Q E, sp p vs H Q E → vs.length = ps.length
  go : ∀ (p : Addr × Obj) (A : Around) (st : List Env) (s : Shared) (H : Hp) (as : Args) (us : List Value) (vs : List V) (Q : VK) (E : XK), RoomH k A → Hot1 A p → PinOk st H s p →
    Env0 P w K mg base A st s H → BindsTo s fd as (ps.zip us) → Vals vs us → sp p vs H Q E → codeAny (model P w) A (.call (.ref f) as) (CR CX st P w H s Q E) s
theorem fn_ofP {P : Program} {w : World} {K : PySem.W.Frag} {mg : Str → Option Value} {base : Heap} {CX : CXT} {k : Nat} {f : Addr} {nm ql : Str} {par : Arguments} {bd : List Stmt} {sc : Scope} {dV kV doc pm cdv ct oc : Value} {an od : Option Addr} {osl : Array (Option Value)} {N ps : List Str} {sp : Addr × Obj → Sp}
    (hl : K.lookup f = some ⟨oc, od, .func (PySem.W.fnOf nm ql par bd sc dV kV doc pm an cdv ct), osl⟩) (hcd : PySem.W.codeIn K cdv ql = true) (S : FnScope N ps sc) (ln : ∀ p vs H Q E, sp p vs H Q E → vs.length = ps.length)
    (hb : ∀ (p : Addr × Obj) (A : Around) (st : List Env) (s : Shared) (H : Hp) (vs : List V) (Q : VK) (E : XK), Hot1 A p → RoomH k (A.deeper (envOfC ql sc s.heap.objs.size f cdv)) → sp p vs H Q E →
      ∃ t, PSs (cxH CX P w K mg base N ql sc f cdv A st s H E p) bd t ∧ t { nx := fun _ H1 => Q .non H1, rt := Q } (L2.start N vs) H) :
    FnP P w K mg base CX (k + 1) f (PySem.W.fnOf nm ql par bd sc dV kV doc pm an cdv ct) ps sp := by
  refine ⟨ln, ?_⟩
  intro p A st s H as us vs Q E room hot pin e0 bnd rel want
  have kin : K.In s.heap := e0.mod.kin.keeps fun b o e => (e0.bs b o e).1
  have nol : s.heap.NoLimit := e0.mod.nolimit.keeps fun b o e => (e0.bs b o e).1
  refine codeAny_call_function room.depth (kin _ _ hl) rfl S.co S.gen rfl (PySem.W.codeRec_of kin hcd) (bnd _ _ _ _ ?_)
  refine wpAny_newFunctionEnv_cells S.kind (fun y hy => ?kinds) fun env he s1 x => ?rest
  case kinds =>
    obtain ⟨n, v⟩ := y
    cases S.par n (List.of_mem_zip hy).1 with
    | inl q => exact .inl q
    | inr q => exact .inr ⟨q, PySem.W.cellsFrom_some _ _ _ (.inl q)⟩
  case rest =>
    subst he
    refine ⟨nol.keeps x.toInCall.keep, codeAny_func ?_⟩
    obtain ⟨t, ht, want2⟩ := hb p A st s H vs Q E hot (room.deeper _) want
    have I0 := inv_startH (CX := CX) (E := E) (qual := ql) (f := f) (cd := cdv) S pin e0 (ln _ _ _ _ _ want) rel x
    refine wpAny_mono (ht.run [] s1 _ H _ I0 want2) (fun fl s2 h2 => ?_) fun _ _ h2 => h2
    cases fl with
    | next =>
      obtain ⟨σ2, H2, J, q⟩ := h2
      exact ⟨V.non, H2, J.os, J.bare, J.base, J.hok, rfl, q⟩
    | ret u =>
      obtain ⟨v, σ2, H2, J, rv, q⟩ := h2
      exact ⟨v, H2, J.os, J.bare, J.base, J.hok, rv, q⟩
    | brk =>
      obtain ⟨_, _, _, q⟩ := h2
      cases q
    | cont =>
      obtain ⟨_, _, _, q⟩ := h2
      cases q
section
variable {X : Cx} {p : Addr × Obj}
theorem pe_callP {CX : CXT} {k : Nat} {f : Addr} {fd : FuncData} {ps : List Str} {sp : Addr × Obj → Sp} {E : L2.St → XK} {x : Str} {q pos : Pos} {e : Expr} {es : List Expr} {t : TA}
    (F : FnP X.prog X.w X.K X.mg X.base CX k f fd ps sp) (room : RoomH k X.A) (hot : Hot1 X.A p) (hp : p ∈ X.pn) (hg : Gl X x) (hm : X.mg x = some (.ref f)) (hk : PySem.W.keepIn X.K (.ref f) = true) (hb : L2.Binds X.K fd ps [])
    (hx : ∀ σ, PassesAt CX X σ (E σ)) (ha : PA X (e :: es) t) (hdb : (x == ("__debug__" : Str)) = false := by decide) (he : starEach (e :: es) X.env = (false, eval e X.env) :: starEach es X.env := by rfl)
    (hpl : (backTo pos (starEach es X.env)).any (·.1) = false := by rfl) : PE X (.Call (.Name x q) (e :: es) [] pos) (tCallS (sp p) E t) := by
  refine ⟨fun pins s σ H Q I want => wpAny_Call_Name_kw (ld_glob I hg hm ?_ hdb)⟩
  refine PySem.W.callWith_K (h₀ := X.base) I.ok.mod.kin hk (thn (ha.run pos pins s σ H _ I want) fun us s1 hh => ?_) he hpl
  obtain ⟨vs, H1, I1, rel, want1⟩ := hh
  refine ⟨I1.kIn, ?_⟩
  have pn := I1.pin p (List.mem_append_left _ hp)
  have bnd := hb s1 us I1.kIn (by rw [List.append_nil, ← rel.length]; exact F.ln _ _ _ _ _ want1)
  rw [List.append_nil] at bnd
  have out : PinOk X.stack H1 s1 p := ⟨pn.1, pn.2.1, fun z => (List.mem_cons.mp (I1.stkSub p.1 z)).elim pn.2.2.1 pn.2.2.2.1, pn.2.2.2.2⟩
  refine wpAny_call (codeAny_mono (F.go p X.A X.stack s1 H1 ⟨us, []⟩ us vs Q (E σ) room hot out I1.env0 bnd rel want1) fun r s2 hv => ?_)
  cases r with
  | error u => exact hx σ pins H1 s1 u s2 I1 hv
  | ok fl =>
    cases fl with
    | ret u => exact I1.after hv
    | next => cases hv
    | brk => cases hv
    | cont => cases hv
/-- isinstance of the exception that is handled -/
theorem call_isP {D : Addr} (C : ExcC X.K D) (hp : p ∈ X.pn) (hz : Zc (.ref D) none p.2) (hf : ∃ vs, p.2.data = .fields vs) : CallR X (.builtin "isinstance") (rIsE X.K D p.1) := by
  intro pins s σ H xs us Q I rel want
  obtain ⟨c, cv, b, rfl, only, ans, q⟩ := want
  obtain ⟨a, oe⟩ := p
  obtain ⟨oc, od, oda, osl⟩ := oe
  obtain ⟨h1, h2⟩ := hz
  obtain ⟨vs, h3⟩ := hf
  dsimp only at h1 h2 h3
  have got := (I.pin _ (List.mem_append_left _ hp)).1
  subst h1 h2 h3
  cases rel with
  | cons r1 r2 =>
    cases r2 with
    | cons r2 r3 =>
      cases r3
      cases r1
      obtain rfl := only _ r2
      have at' : PySem.W.InstAt s.heap a ⟨.ref D, none, .fields vs, osl⟩ D none := ⟨got, rfl, rfl, trivial⟩
      refine PySem.W.kia_one (PySem.W.handS_kitx_exc C.hg C.hk C.hs C.hd C.ha C.hn C.ht C.hm) I.kIn at' ans (fun z => nomatch z) fun tk => ?_
      exact ⟨.bl b, H, I.kept (t' := tk) fun _ _ z => z, rfl, q⟩
end
end Cot

set_option Elab.async false
set_option linter.all false
set_option maxRecDepth 100000
set_option maxHeartbeats 4000000
/-! Own exception classes: their facts, defs that raise, texts joined, pairs walked. -/
namespace Cot
open PySem PySem.Spec PyProof.Rows L2 L2H Evl RZ
section
variable {P : Program} {w : World} {K : PySem.W.Frag} {mg : Str → Option Value} {base : Heap}
theorem okN {x ql : Str} {st : Stmt} {f : Addr} {fd : FuncData} {N ps : List Str} {k : Nat} {sp : Sp} (F : Fun K x ql st f fd) (S : FnScope N ps (defScope st)) (ln : ∀ vs H Q E, sp vs H Q E → vs.length = ps.length)
    (hb : ∀ (cdv : Value) (A : Around) (st2 : List Env) (s : Shared) (H : Hp) (vs : List V) (Q : VK) (E : XK), Room k (A.deeper (envOfC ql (defScope st) s.heap.objs.size f cdv)) → sp vs H Q E →
      ∃ t, PSs (cxOf (L2N.CX P w) P w K mg base N ql (defScope st) f cdv A st2 s H E) (defBody st) t ∧ t { nx := fun _ H1 => Q .non H1, rt := Q } (L2.start N vs) H) : FnOk P w K mg base (L2N.CX P w) (k + 1) f fd ps sp := by
  obtain ⟨_, _, _, _, _, _, cdv, _, _, rfl, lk, hcd⟩ := F.ex
  exact fn_of lk hcd S ln fun A st2 s H vs Q E hr h => hb cdv A st2 s H vs Q E hr h
theorem okP {x ql : Str} {st : Stmt} {f : Addr} {fd : FuncData} {N ps : List Str} {k : Nat} {CX : CXT} {sp : Addr × Obj → Sp} (F : Fun K x ql st f fd) (S : FnScope N ps (defScope st)) (ln : ∀ p vs H Q E, sp p vs H Q E → vs.length = ps.length)
    (hb : ∀ (cdv : Value) (p : Addr × Obj) (A : Around) (st2 : List Env) (s : Shared) (H : Hp) (vs : List V) (Q : VK) (E : XK), Hot1 A p → RoomH k (A.deeper (envOfC ql (defScope st) s.heap.objs.size f cdv)) → sp p vs H Q E →
      ∃ t, PSs (cxH CX P w K mg base N ql (defScope st) f cdv A st2 s H E p) (defBody st) t ∧ t { nx := fun _ H1 => Q .non H1, rt := Q } (L2.start N vs) H) : FnP P w K mg base CX (k + 1) f fd ps sp := by
  obtain ⟨_, _, _, _, _, _, cdv, _, _, rfl, lk, hcd⟩ := F.ex
  exact fn_ofP lk hcd S ln fun p A st2 s H vs Q E hot hr h => hb cdv p A st2 s H vs Q E hot hr h
end
/-- a class of errors, by its name -/
structure ExB (K : PySem.W.Frag) (mg : Str → Option Value) (x : Str) (C : Addr) : Prop where
  g : mg x = some (.ref C)
  kp : PySem.W.keepIn K (.ref C) = true
/-- one under ValueError, without an own __init__ -/
structure Exn (K : PySem.W.Frag) (mg : Str → Option Value) (x : Str) (C : Addr) : Prop extends ExB K mg x C where
  xi : PySem.W.excIn K C [.type "ValueError", .type "Exception", .type "BaseException", .type "object"] "ValueError.__new__" = true
  sb : PySem.W.subIn K (.ref C) (.type "BaseException") = some true
  ty : PySem.W.typeIn K (.ref C) = some (.type "type")
/-- isinstance of an instance of D, class by class -/
inductive KRow (K : PySem.W.Frag) (D : Addr) : List Value → List Bool → Prop
  | nil : KRow K D [] []
  | cons {c : Value} {b : Bool} {cs : List Value} {bs : List Bool} (h : PySem.W.kitOne K (.ref D) c = some b) (r : KRow K D cs bs) : KRow K D (c :: cs) (b :: bs)
theorem KRow.get {K : PySem.W.Frag} {D : Addr} {cs : List Value} {bs : List Bool} (r : KRow K D cs bs) : ∀ (i : Nat) (c : Value), cs[i]? = some c → PySem.W.kitOne K (.ref D) c = some (bs.getD i false) := by
  induction r with
  | nil => intro i c e; simp at e
  | cons h _ ih =>
    intro i c e
    cases i with
    | zero =>
      cases e
      exact h
    | succ i => exact ih i c e
theorem Exn.pmk {X : Cx} {x m : Str} {C : Addr} {j : Nat} {p p2 pos : Pos} (e : Exn X.K X.mg x C) (hg : Gl X x) (hdb : (x == ("__debug__" : Str)) = false := by decide) : L2N.PMk X (.Call (.Name x p) [.Constant (.str m) j p2] [] pos) (fun _ H Q => Q (.ref C) none H) :=
  L2N.pmk_own PySem.F.excBase_ValueError e.xi e.g e.kp (raises_own e.sb e.ty) hg hdb
section
variable {K : PySem.W.Frag} {X : Cx} {H H' Hd Hd' Hn H1 H2 Hm : Hp} {σ : L2.St} {ta tb tc te tx tl to : TE} {d : PyData} {ds es : List PyData} {tr : TA} {i j j2 n : Nat}
/-- a list of pairs, walked -/
theorem ei_pairs {f f2 : Nat → Option PyData} (h : EvD K tl σ Hd (.list ds)) (hp : ∀ i d, ds[i]? = some d → ∃ d1 d2, d = .tuple [d1, d2] ∧ f i = some d1 ∧ f2 i = some d2) : EvI K (iList K tl) (g2 K j j2) σ Hd ds.length (SPair K j j2 f f2) := fun H s R r =>
  h H s _ fun v H2 Hn g hd => by
    cases hd with
    | @lst a xs ds hs hall =>
      refine ⟨a, rfl, ⟨xs, ex_l g.sub hs⟩, r _ H2 Hn _ _ g (by rw [← dpa_len hall]; exact walk_list) (fun H' e => ex_l e hs) fun i x H' H'' σ' k hi e y q => ?_⟩
      obtain ⟨rfl, hx⟩ := y
      obtain ⟨d, h1, h2⟩ := dpa_get2 hall hx
      obtain ⟨d1, d2, rfl, q1, q2⟩ := hp i d h1
      cases h2 with
      | @tup T ys es ht hal =>
        cases hal with
        | cons p1 p2 =>
          cases p2 with
          | cons p2 p3 =>
            cases p3
            exact ⟨T, _, rfl, ex_t e ht, rfl, _, _, rfl, _, [], rfl, rfl, q _ _ (Ex.refl _) ⟨_, _, d1, d2, q1, q2, p1, p2, rfl⟩⟩
def rJo (K : PySem.W.Frag) : V → List V → Hp → VK → Prop := fun x xs H Q => ∃ a p, ∃ ys : List Str, x = .str a ∧ xs = [.ref p] ∧ (SqL K H p (ys.map V.str) ∨ SqT K H p (ys.map V.str)) ∧ (ys.map (·.length)).sum + ys.length * a.length ≤ 16777216 ∧ Q (.str (Txt.join a ys)) H
theorem pe_jo {o e : Expr} {apos pos : Pos} (ho : PE X o to) (he : PE X e te) (hs : starEach [e] X.env = [(false, eval e X.env)] := by rfl) (hbase : attributeBase o "join" X.env (eval o X.env) = eval o X.env := by rfl) (hline : (apos.endLine == pos.line) = true := by rfl) :
    PE X (.Call (.Attribute o "join" apos) [e] [] pos) (tM1 (rJo X.K) to te) := pe_join ho he hs hbase hline
theorem dpa_strs_inv : ∀ {ns : List Str} {vs : List V}, DpAll K H vs (ns.map PyData.str) → vs = ns.map V.str
  | [], _, h => by cases h; rfl
  | n :: ns, _, h => by
    cases h with
    | cons a b =>
      cases a
      rw [dpa_strs_inv b]
      rfl
theorem ev_jo {a : Str} {ys : List Str} (ho : Ev to σ Hd (.str a)) (h : EvD K te σ Hd (.list (ys.map .str))) (hl : (ys.map (·.length)).sum + ys.length * a.length ≤ 16777216) : Ev (tM1 (rJo K) to te) σ Hd (.str (Txt.join a ys)) := fun H s Q q =>
  ho H s _ fun H1 e1 => ⟨⟨a, rfl⟩, h H1 (s.trans e1) _ fun v H2 Hn g hd => by
    cases hd with
    | @lst p xs ds hs hall =>
      have e := dpa_strs_inv hall
      subst e
      exact ⟨a, p, ys, rfl, rfl, .inl (ex_l g.sub hs), hl, q H2 (e1.trans g.ex)⟩⟩
theorem ev_isX {D a C : Addr} {b : Bool} (ha : Ev ta σ H (.ref a)) (k : PySem.W.kitOne K (.ref D) (.ref C) = some b) : Ev (tCB (rIsE K D a) (tCons ta (tCons (tC (.ref C)) tNil))) σ H (.bl b) := fun H1 s Q q =>
  ha H1 s _ fun H2 e => ⟨.ref C, .ref C, b, rfl, fun u r => r, k, q H2 e⟩
theorem ev_isXT {D a : Addr} {T : String} {b : Bool} (ha : Ev ta σ H (.ref a)) (k : PySem.W.kitOne K (.ref D) (.type T) = some b) : Ev (tCB (rIsE K D a) (tCons ta (tCons (tC (.ty T)) tNil))) σ H (.bl b) := fun H1 s Q q =>
  ha H1 s _ fun H2 e => ⟨.ty T, .type T, b, rfl, fun u r => r, k, q H2 e⟩
end
end Cot

set_option Elab.async false
set_option linter.all false
set_option maxRecDepth 100000
set_option maxHeartbeats 4000000
/-! Defs that answer or refuse: their promise by data, their calls. -/
namespace Cot
open PySem PySem.Spec PyProof.Rows L2 Evl
/-- an answer by R, or an error of a class by Rx -/
def spX (K : PySem.W.Frag) (R : List PyData → PyData → Prop) (Rx : List PyData → Addr → Prop) : Sp := fun vs H Q E => ∃ Hd ds, Ex Hd H ∧ DpAll K Hd vs ds ∧
  ((∃ d, R ds d ∧ ∀ v H2 Hn, Gr Hd H Hn H2 → Dp K Hn v d → Q v H2) ∨ ∃ C, Rx ds C ∧ ∀ H2, Ex H H2 → E (.ref C) none H2)
section
variable {K : PySem.W.Frag} {H Hd : Hp} {σ : L2.St} {tr : TA} {D : Ends} {tz : TS} {ds : List PyData} {d : PyData} {C : Addr} {E : XK} {R : List PyData → PyData → Prop} {Rx : List PyData → Addr → Prop} {Q : VK} {dv : List V} {dd : List PyData}
theorem tx_ok (s : Ex Hd H) (h : EvDA K tr σ Hd ds) (hv : ∀ H, DpAll K H dv dd) (hr : R (ds ++ dd) d) (k : ∀ v H2 Hn, Gr Hd H Hn H2 → Dp K Hn v d → Q v H2) : tCall (spX K R Rx) dv E tr σ H Q :=
  h H s _ fun vs H2 Hn g hd => ⟨Hn, ds ++ dd, g.sub, dpa_app hd (hv Hn), .inl ⟨d, hr, fun v H3 Hm g3 hv => k v H3 Hm (g.trans g3) hv⟩⟩
theorem tx_no (s : Ex Hd H) (h : EvDA K tr σ Hd ds) (hv : ∀ H, DpAll K H dv dd) (hr : Rx (ds ++ dd) C) (k : ∀ H2, Ex H H2 → E (.ref C) none H2) : tCall (spX K R Rx) dv E tr σ H Q :=
  h H s _ fun vs H2 Hn g hd => ⟨Hn, ds ++ dd, g.sub, dpa_app hd (hv Hn), .inr ⟨C, hr, fun H3 e3 => k H3 (g.ex.trans e3)⟩⟩
theorem go_dropOk (s : Ex Hd H) (h : EvDA K tr σ Hd ds) (hr : R ds d) (k : ∀ v H2 Hn, Gr Hd H Hn H2 → Dp K Hn v d → Go tz D σ H2) : Go (tSeq (tDrop (tCall (spX K R Rx) [] E tr)) tz) D σ H := fun H1 e1 =>
  tx_ok (s.trans e1) h (fun _ => .nil) (by rw [List.append_nil]; exact hr) fun v H2 Hn g hd => k v H2 Hn (g.pre e1) hd H2 (Ex.refl _)
theorem go_dropNo (s : Ex Hd H) (h : EvDA K tr σ Hd ds) (hr : Rx ds C) (k : ∀ H2, Ex H H2 → E (.ref C) none H2) : Go (tSeq (tDrop (tCall (spX K R Rx) [] E tr)) tz) D σ H := fun H1 e1 =>
  tx_no (s.trans e1) h (fun _ => .nil) (by rw [List.append_nil]; exact hr) fun H2 e2 => k H2 (e1.trans e2)
theorem go_raise (k : ∀ H2, Ex H H2 → E (.ref C) none H2) : Go (tSeq (fun _ σ H => (fun _ H1 Q1 => Q1 (Value.ref C) none H1 : L2.St → Hp → XK → Prop) σ H fun cls d H1 => E cls d H1) tz) D σ H := fun H1 e1 => k H1 e1
end
end Cot

set_option Elab.async false
set_option linter.all false
set_option maxRecDepth 100000
set_option maxHeartbeats 4000000
/-! Tables of code objects beside boxes and lists; a loop over a range that asks nothing of the heap. -/
namespace Cot
open PySem PySem.Spec PyProof.Rows L2 Evl LamX
def hp0 : Hp := fun _ => none
theorem ex0 {H : Hp} : Ex hp0 H := fun _ _ h => nomatch h
section
variable {K : PySem.W.Frag} {b : Bid} {l : Addr} {H H1 H2 Hd Hn : Hp} {Tt : List (Addr × Str)} {xs : List V} {o : HO}
theorem tabs_but (hl : H l = some (.lst xs)) (k : ∀ a o, a ≠ l → H a = some o → H2 a = some o) (t : Tabs Tt H) : Tabs Tt H2 := fun p hp => by
  obtain ⟨ps, h1, h2, h3⟩ := t p hp
  refine ⟨ps, k _ _ (fun z => ?_) h1, h2, fun pos cv hc => ?_⟩
  · rw [z, hl] at h1
    cases h1
  · obtain ⟨c, e, hcd⟩ := h3 pos cv hc
    refine ⟨c, e, k _ _ (fun z => ?_) hcd⟩
    rw [z, hl] at hcd
    unfold CodeO at hcd
    cases hcd
theorem tabs_box (t : Tabs Tt H) (B : Bx H b) (g : GrB b Hd H Hn H2) : Tabs Tt H2 := by
  obtain ⟨cells, xs, h1, _⟩ := B
  exact tabs_but h1 (fun a o n h => g.exb a o n h) t
theorem tabs_ex (t : Tabs Tt H) (e : Ex H H2) : Tabs Tt H2 := t.ext e
theorem lst_extN (h : H l = some (.lst xs)) (e : ExtN H H2) : H2 l = some (.lst xs) := e l _ h fun ps z => by cases z
theorem bx_extN (B : Bx H b) (e : ExtN H H2) : Bx H2 b := by
  obtain ⟨cells, xs, h1, h2, h3, h4⟩ := B
  exact ⟨cells, xs, lst_extN h1 e, h2, lst_extN h3 e, h4⟩
theorem extN_ex (e : Ex H H2) : ExtN H H2 := ExtN.of e
theorem extN_new (h : H l = none) : ExtN H (upd H l o) := ExtN.of (Ex.new h)
end
section
variable {K : PySem.W.Frag} {H : Hp} {σ : L2.St} {ta te : TE} {tr : TA} {D : Ends} {tu tz : TS} {j : Nat} {m : Int}
theorem go_forN (h : EvA tr σ H [.int m]) (hm : -100000 ≤ m ∧ m ≤ 100000) (Pv : Nat → L2.St → Hp → Prop) (h0 : ∀ H', Ex H H' → Pv 0 σ H') (hs : ∀ i σ' H', i < m.toNat → Pv i σ' H' → Go tu { D with nx := Pv (i + 1), ct := Pv (i + 1), bk := tz D } (σ'.set j (some (.int (i : Int)))) H')
    (hd : ∀ σ' H', Pv m.toNat σ' H' → Go tz D σ' H') : Go (tSeq (tFor (iRng1 tr) (gName j) tu) tz) D σ H := fun H1 e1 =>
  h H1 e1 _ fun H2 e2 => by
    refine ⟨m, rfl, by omega, by omega, for_it (walk_range (lo := 0) (n := m.toNat)) Pv (h0 H2 (e1.trans e2)) (fun _ _ _ _ _ => trivial) (fun i x σ' H' H'' hi q y => ?_) (fun σ' H' q => hd σ' H' q H' (Ex.refl _))⟩
    obtain ⟨rfl, rfl⟩ := y
    have e0 : (0 : Int) + (i : Int) = (i : Int) := Int.zero_add _
    show tu _ (σ'.set j (some (.int ((0 : Int) + (i : Int))))) _
    rw [e0]
    exact hs i σ' _ hi q _ (Ex.refl _)
def rInt1 : List V → Hp → VK → Prop := fun xs H Q => (∃ i, xs = [.int i] ∧ Q (.int i) H) ∨ ∃ k, xs = [.bl k] ∧ Q (.int (if k then 1 else 0)) H
theorem call_intQ {X : Cx} : CallR X (.type "int") rInt1 := call_int1
theorem ev_intB {k : Bool} (h : Ev ta σ H (.bl k)) : Ev (tCB rInt1 (tCons ta tNil)) σ H (.int (if k then 1 else 0)) := fun H1 e Q q => h H1 e _ fun H2 e2 => .inr ⟨k, rfl, q H2 e2⟩
end
end Cot

set_option Elab.async false
set_option linter.all false
set_option maxRecDepth 100000
set_option maxHeartbeats 4000000
/-! A heap without its tables: data stands there as before, and stays behind a lambda. -/
namespace Cot
open PySem PySem.Spec PyProof.Rows L2 Evl LamX
def noT (H : Hp) : Hp := fun a => match H a with
  | some (.tbl _) => none
  | o => o
section
variable {K : PySem.W.Frag} {H H2 Hd : Hp} {a : Addr} {o : HO} {xs : List V}
theorem noT_some (h : noT H a = some o) : H a = some o ∧ ∀ ps, o ≠ .tbl ps := by
  unfold noT at h
  split at h
  · cases h
  · rename_i hn
    refine ⟨h, fun ps z => ?_⟩
    subst z
    exact hn _ h
theorem noT_of (h : H a = some o) (n : ∀ ps, o ≠ .tbl ps) : noT H a = some o := by
  unfold noT
  split
  · rename_i ps hp
    rw [h] at hp
    exact absurd (Option.some.inj hp) (n ps)
  · exact h
theorem noT_none (h : H a = none) : noT H a = none := by
  cases e : noT H a with
  | none => rfl
  | some o =>
    have := (noT_some e).1
    rw [h] at this
    cases this
theorem noT_ex : Ex (noT H) H := fun a o h => (noT_some h).1
theorem noT_extN (s : Ex Hd H) (e : ExtN H H2) : Ex (noT Hd) H2 := fun a o h => e a o (s a o (noT_some h).1) (noT_some h).2
theorem noT_l (h : SqL K H a xs) : SqL K (noT H) a xs := by
  rcases h with (h | ⟨o, h⟩) | h
  · exact .inl (.inl (noT_of h fun ps z => by cases z))
  · exact .inl (.inr ⟨o, noT_of h fun ps z => by cases z⟩)
  · exact .inr h
theorem noT_t (h : SqT K H a xs) : SqT K (noT H) a xs := by
  rcases h with (h | ⟨o, h⟩) | h
  · exact .inl (.inl (noT_of h fun ps z => by cases z))
  · exact .inl (.inr ⟨o, noT_of h fun ps z => by cases z⟩)
  · exact .inr h
mutual
theorem dp_noT : ∀ (d : PyData) {v : V}, Dp K H v d → Dp K (noT H) v d
  | .none, _, h => by cases h; exact .non
  | .bool b, _, h => by cases h; exact .bl b
  | .int i, _, h => by cases h; exact .int i
  | .str x, _, h => by cases h; exact .str x
  | .list ds, _, h => by
    cases h with
    | lst hs ha => exact .lst (noT_l hs) (dpa_noT ds ha)
  | .tuple ds, _, h => by
    cases h with
    | tup hs ha => exact .tup (noT_t hs) (dpa_noT ds ha)
  | .dict _, _, h => by cases h
theorem dpa_noT : ∀ (ds : List PyData) {vs : List V}, DpAll K H vs ds → DpAll K (noT H) vs ds
  | [], _, h => by cases h; exact .nil
  | d :: ds, _, h => by
    cases h with
    | cons h1 h2 => exact .cons (dp_noT d h1) (dpa_noT ds h2)
end
/-- data stays data behind a lambda -/
theorem dp_extN {d : PyData} {v : V} (s : Ex Hd H) (e : ExtN H H2) (h : Dp K Hd v d) : Dp K H2 v d := dp_mono (noT_extN s e) d (dp_noT d h)
end
end Cot

set_option Elab.async false
set_option linter.all false
set_option maxRecDepth 100000
set_option maxHeartbeats 4000000
/-! Dicts whose keys are tuples of ints; the keys' own places are told beside the dict. -/
namespace Cot
open PySem PySem.Spec PyProof.Rows L2 Evl
/-- the key, the place of its tuple, the value -/
abbrev Dkv := List (List Int × Addr × V)
def valD (m : Dkv) (k : List Int) : Option V := (m.find? fun e => decide (e.1 = k)).map fun e => e.2.2
def putD (m : Dkv) (k : List Int) (b : Addr) (v : V) : Dkv := if (valD m k).isSome then m.map (fun e => if e.1 = k then (e.1, e.2.1, v) else e) else m ++ [(k, b, v)]
abbrev DRel : Dkv → List (List Int × Addr × Value) → Prop := Paired fun p q => p.1 = q.1 ∧ p.2.1 = q.2.1 ∧ RelV p.2.2 q.2.2
theorem valD_pos {e : List Int × Addr × V} {m : Dkv} {k : List Int} (h : e.1 = k) : valD (e :: m) k = some e.2.2 := by simp [valD, List.find?_cons, h]
theorem valD_neg {e : List Int × Addr × V} {m : Dkv} {k : List Int} (h : ¬ e.1 = k) : valD (e :: m) k = valD m k := by simp [valD, List.find?_cons, h]
theorem drel_val {m : Dkv} {xs : List (List Int × Addr × Value)} (r : DRel m xs) (k : List Int) : RelO (valD m k) ((atKey xs k).map (·.2)) := by
  induction r with
  | nil => exact True.intro
  | @cons p q ps qs h t ih =>
    by_cases e : p.1 = k
    · rw [valD_pos e]
      have e2 : (atKey (q :: qs) k) = some q.2 := by simp [atKey, List.find?_cons, ← h.1, e]
      rw [e2]
      exact h.2.2
    · rw [valD_neg e]
      have e2 : (atKey (q :: qs) k) = atKey qs k := by simp [atKey, List.find?_cons, ← h.1, e]
      rw [e2]
      exact ih
theorem drel_map {m : Dkv} {xs : List (List Int × Addr × Value)} (r : DRel m xs) (k : List Int) {v : V} {u : Value} (rv : RelV v u) : DRel (m.map (fun e => if e.1 = k then (e.1, e.2.1, v) else e)) (xs.map (putAt k u)) := by
  induction r with
  | nil => exact .nil
  | @cons p q ps qs h t ih =>
    refine Paired.cons ?_ ih
    unfold putAt
    dsimp only
    by_cases e : p.1 = k
    · rw [if_pos e, if_pos (by rw [← h.1]; exact e)]
      exact ⟨h.1, h.2.1, rv⟩
    · rw [if_neg e, if_neg (by rw [← h.1]; exact e)]
      exact h
theorem drel_app {m m2 : Dkv} {xs ys : List (List Int × Addr × Value)} (r : DRel m xs) (r2 : DRel m2 ys) : DRel (m ++ m2) (xs ++ ys) := by
  induction r with
  | nil => exact r2
  | cons h t ih => exact Paired.cons h ih
theorem drel_put {m : Dkv} {xs : List (List Int × Addr × Value)} (r : DRel m xs) (k : List Int) (b : Addr) {v : V} {u : Value} (rv : RelV v u) : DRel (putD m k b v) (storedH xs k b u) := by
  have h := (drel_val r k).isSome_eq
  rw [Option.isSome_map] at h
  unfold putD storedH
  rw [h]
  split
  · exact drel_map r k rv
  · exact drel_app r (.cons ⟨rfl, rfl, rv⟩ .nil)
theorem putD_len (m : Dkv) (k : List Int) (b : Addr) (v : V) : (putD m k b v).length ≤ m.length + 1 := by
  unfold putD
  split
  · rw [List.length_map]; omega
  · rw [List.length_append]; exact Nat.le_refl _
theorem putD_new {m : Dkv} {k : List Int} (b : Addr) (v : V) (h : valD m k = none) : putD m k b v = m ++ [(k, b, v)] := by
  unfold putD
  rw [h]
  rfl
theorem valD_none {m : Dkv} {k : List Int} : valD m k = none ↔ ∀ e ∈ m, e.1 ≠ k := by
  unfold valD
  rw [Option.map_eq_none_iff, List.find?_eq_none]
  simp
theorem valD_app (m m2 : Dkv) (k : List Int) : valD (m ++ m2) k = (valD m k).or (valD m2 k) := by
  unfold valD
  rw [List.find?_append]
  cases m.find? fun e => decide (e.1 = k) <;> rfl
theorem valD_mem {m : Dkv} {k : List Int} {v : V} (h : valD m k = some v) : ∃ b, (k, b, v) ∈ m := by
  unfold valD at h
  obtain ⟨e, he, hv⟩ := Option.map_eq_some_iff.mp h
  have h1 := List.mem_of_find?_eq_some he
  have h2 := List.find?_some he
  obtain ⟨k', b, v'⟩ := e
  have h3 : k' = k := of_decide_eq_true h2
  have h4 : v' = v := hv
  subst h3
  subst h4
  exact ⟨b, h1⟩
def DicP (P : Program) (w : World) (h : Heap) (a : Addr) (m : Dkv) : Prop := m.length ≤ sizeLine ∧ (a == sysModules) = false ∧ ∃ xs : List (List Int × Addr × Value), DRel m xs ∧ (xs.map (·.1)).Nodup ∧
  ∃ o es ep, h.get? a = some o ∧ o.ExactDict ∧ o.data = .dict es ep ∧ es.toList = xs.map (entryOfKey (TK P w))
/-- the dict at a -/
def DicO (P : Program) (w : World) (a : Addr) (m : Dkv) : HO := .ext fun h => DicP P w h a m
theorem dicO_ok {P : Program} {w : World} {H : Hp} {h : Heap} {a : Addr} {m : Dkv} (d : DicP P w h a m) : ObjOk P w H h a (DicO P w a m) := by
  refine ⟨d, ?_, ?_⟩
  · obtain ⟨_, _, _, _, _, o, _, _, ho, _⟩ := d
    exact ⟨o, ho⟩
  · rintro h1 h2 ⟨z, y, xs, r, n, o, es, ep, ho, rest⟩ k
    exact ⟨z, y, xs, r, n, o, es, ep, k o ho, rest⟩
def KeysAt (K : PySem.W.Frag) (H : Hp) (m : Dkv) : Prop := ∀ e ∈ m, SqT K H e.2.1 (e.1.map V.int)
theorem KeysAt.mono {K : PySem.W.Frag} {H H' : Hp} {m : Dkv} (e : Ex H H') (k : KeysAt K H m) : KeysAt K H' m := fun x hx => ex_t e (k x hx)
theorem KeysAt.put {K : PySem.W.Frag} {H : Hp} {m : Dkv} {k : List Int} {b : Addr} {v : V} (h : KeysAt K H m) (hb : SqT K H b (k.map V.int)) : KeysAt K H (putD m k b v) := by
  intro e he
  unfold putD at he
  split at he
  · obtain ⟨e0, h0, rfl⟩ := List.mem_map.mp he
    split
    · exact h e0 h0
    · exact h e0 h0
  · rcases List.mem_append.mp he with he | he
    · exact h e he
    · rcases List.mem_cons.mp he with rfl | he
      · exact hb
      · cases he
def DiAt (K : PySem.W.Frag) (P : Program) (w : World) (H : Hp) (a : Addr) (m : Dkv) : Prop := H a = some (DicO P w a m) ∧ KeysAt K H m
/-- the dict at a while a loop walks it: its object stays -/
def DicF (P : Program) (w : World) (a : Addr) (m : Dkv) (o : Obj) : HO := .ext fun h => h.get? a = some o ∧ DicP P w h a m
/-- a dict that can be read -/
def DiR (K : PySem.W.Frag) (P : Program) (w : World) (H : Hp) (a : Addr) (m : Dkv) : Prop := (H a = some (DicO P w a m) ∨ ∃ o, H a = some (DicF P w a m o)) ∧ KeysAt K H m
theorem DiR.mono {K : PySem.W.Frag} {P : Program} {w : World} {H H' : Hp} {a : Addr} {m : Dkv} (e : Ex H H') (d : DiR K P w H a m) : DiR K P w H' a m := ⟨d.1.elim (fun h => .inl (e _ _ h)) fun ⟨o, h⟩ => .inr ⟨o, e _ _ h⟩, d.2.mono e⟩
theorem DiAt.r {K : PySem.W.Frag} {P : Program} {w : World} {H : Hp} {a : Addr} {m : Dkv} (d : DiAt K P w H a m) : DiR K P w H a m := ⟨.inl d.1, d.2⟩
theorem DiAt.mono {K : PySem.W.Frag} {P : Program} {w : World} {H H' : Hp} {a : Addr} {m : Dkv} (e : Ex H H') (d : DiAt K P w H a m) : DiAt K P w H' a m := ⟨e _ _ d.1, d.2.mono e⟩
section
variable {X : Cx} {pins : List (Addr × Obj)} {σ : L2.St} {H : Hp} {s : Shared} {a b : Addr} {m : Dkv} {k : List Int} {v : V} {u : Value} {A : Around} {E : Value → Shared → Prop}
theorem dic_of (I : Inv X pins σ H s) (d : DiR X.K X.prog X.w H a m) : m.length ≤ sizeLine ∧ (a == sysModules) = false ∧ ∃ xs, DRel m xs ∧ s.heap.DictOfH (TK X.prog X.w) a xs := by
  have hp : DicP X.prog X.w s.heap a m := by
    rcases d.1 with h | ⟨o, h⟩
    · exact (show ObjOk X.prog X.w H s.heap a (DicO X.prog X.w a m) from I.hok a _ h).1
    · exact (show ObjOk X.prog X.w H s.heap a (DicF X.prog X.w a m o) from I.hok a _ h).1.2
  obtain ⟨z, y, xs, r, n, o, es, ep, ho, hx, hd, he⟩ := hp
  refine ⟨z, y, xs, r, o, es, ep, ho, hx, hd, he, ?_, n⟩
  have all : ∀ {l : Dkv} {ys : List (List Int × Addr × Value)}, DRel l ys → (∀ e ∈ l, SqT X.K H e.2.1 (e.1.map V.int)) → ∀ x ∈ ys, (TK X.prog X.w).is s.heap x.1 x.2.1 := by
    intro l ys q
    induction q with
    | nil => intro _ x hx; cases hx
    | @cons p q ps qs hq t ih =>
      intro hk x hx
      rcases List.mem_cons.mp hx with rfl | hx
      · have := I.isT (hk p List.mem_cons_self)
        rw [hq.1, hq.2.1] at this
        exact this
      · exact ih (fun e he => hk e (List.mem_cons_of_mem _ he)) x hx
  exact all r d.2
theorem dic_get {Q : Value → Shared → Prop} (hu : A.units + 1 < cLine) (I : Inv X pins σ H s) (d : DiR X.K X.prog X.w H a m) (hb : SqT X.K H b (k.map V.int)) (hv : valD m k = some v) (h : ∀ w' s', Inv X pins σ H s' → RelV v w' → Q w' s') :
    wpAny (model X.prog X.w) A (getItem (.ref a) (.ref b)) Q E s := by
  obtain ⟨z, y, xs, r, dd⟩ := dic_of I d
  have rv := drel_val r k
  rw [hv] at rv
  obtain ⟨w', hw, rw'⟩ := RelO.some_of (v := v) (o := (atKey xs k).map (·.2)) rv
  obtain ⟨p, hp, hp2⟩ := Option.map_eq_some_iff.mp hw
  refine wpAny_getItem_heap (tupleKind_room_in1 hu) (I.isT hb) dd hp ?_
  rw [hp2]
  exact h w' _ (I.tok _) rw'
theorem dic_in {Q : Value → Shared → Prop} (hu : A.units + 1 < cLine) (I : Inv X pins σ H s) (d : DiR X.K X.prog X.w H a m) (hb : SqT X.K H b (k.map V.int)) (h : ∀ s', Inv X pins σ H s' → Q (.bool (valD m k).isSome) s') :
    wpAny (model X.prog X.w) A (compareOp .In (.ref b) (.ref a)) Q E s := by
  obtain ⟨z, y, xs, r, dd⟩ := dic_of I d
  have q := (drel_val r k).isSome_eq
  rw [Option.isSome_map] at q
  refine wpAny_in_heap (tupleKind_room_in1 hu) (I.isT hb) y dd ?_
  rw [← q]
  exact h _ (I.tok _)
theorem dic_notIn {Q : Value → Shared → Prop} (hu : A.units + 1 < cLine) (I : Inv X pins σ H s) (d : DiR X.K X.prog X.w H a m) (hb : SqT X.K H b (k.map V.int)) (h : ∀ s', Inv X pins σ H s' → Q (.bool (!(valD m k).isSome)) s') :
    wpAny (model X.prog X.w) A (compareOp .NotIn (.ref b) (.ref a)) Q E s := by
  obtain ⟨z, y, xs, r, dd⟩ := dic_of I d
  have q := (drel_val r k).isSome_eq
  rw [Option.isSome_map] at q
  refine wpAny_notIn_heap (tupleKind_room_in1 hu) (I.isT hb) y dd ?_
  rw [← q]
  exact h _ (I.tok _)
theorem dic_get2 {z : V} {r0 : Value} {Q : Value → Shared → Prop} (hu : A.units + 1 < cLine) (I : Inv X pins σ H s) (d : DiR X.K X.prog X.w H a m) (hb : SqT X.K H b (k.map V.int)) (rz : RelV z r0) (h : ∀ w' s', Inv X pins σ H s' → RelV ((valD m k).getD z) w' → Q w' s') :
    wpAny (model X.prog X.w) A (call (.builtin "dict.get") [.ref a, .ref b, r0]) Q E s := by
  obtain ⟨z', y, xs, r, dd⟩ := dic_of I d
  exact call_meetsIn PySem.F.slot_dict_get dd.typeIs PySem.F.entry_dict_get (PySem.F.args_dict_get_3 _ _ _) (meetsH_dict_get_default (TK X.prog X.w) a b y r0) ⟨tupleKind_room_in1 hu, k, xs, I.isT hb, dd, h _ _ (I.tok _) ((drel_val r k).getD rz)⟩
theorem dic_put {Q : Unit → Shared → Prop} (hu : A.units + 1 < cLine) (I : Inv X pins σ H s) (d : DiAt X.K X.prog X.w H a m) (hb : SqT X.K H b (k.map V.int)) (hl : m.length < sizeLine) (rv : RelV v u) (h : ∀ s', Inv X pins σ (upd H a (DicO X.prog X.w a (putD m k b v))) s' → Q () s') :
    wpAny (model X.prog X.w) A (setItem (.ref a) (.ref b) u) Q E s := by
  obtain ⟨z, y, xs, r, dd⟩ := dic_of I d.r
  have hz : xs.length ≤ sizeLine := by rw [← Paired.length r]; exact z
  refine wpAny_setItem_heap (hsz := hz) (tupleKind_room_in1 hu) (I.isT hb) dd fun h' dd' hs => h _ ?_
  obtain ⟨o, es, ep, ho, h2, h3, h4, _, h5⟩ := dd'
  refine d_write I (by rw [d.1]; exact True.intro) hs ⟨o, ho⟩ (dicO_ok ⟨?_, y, _, drel_put r k b rv, h5, o, es, ep, ho, h2, h3, h4⟩)
  have := putD_len m k b v
  omega
theorem dic_set {Q : Unit → Shared → Prop} (hu : A.units < cLine) (I : Inv X pins σ H s) (d : DiAt X.K X.prog X.w H a m) (hb : SqT X.K H b (k.map V.int)) (hl : m.length < sizeLine) (rv : RelV v u) (h : ∀ s', Inv X pins σ (upd H a (DicO X.prog X.w a (putD m k b v))) s' → Q () s') :
    wpAny (model X.prog X.w) A (dictSet a (.ref b) u) Q E s := by
  obtain ⟨z, y, xs, r, dd⟩ := dic_of I d.r
  have hz : xs.length ≤ sizeLine := by rw [← Paired.length r]; exact z
  refine wpAny_dictSet_heap (hsz := hz) (knd := TK X.prog X.w) hu (I.isT hb) dd fun h' dd' hs => h _ ?_
  obtain ⟨o, es, ep, ho, h2, h3, h4, _, h5⟩ := dd'
  refine d_write I (by rw [d.1]; exact True.intro) hs ⟨o, ho⟩ (dicO_ok ⟨?_, y, _, drel_put r k b rv, h5, o, es, ep, ho, h2, h3, h4⟩)
  have := putD_len m k b v
  omega
theorem dic_empty {P : Program} {w : World} {h : Heap} (hb : sysModules < h.objs.size) : DicP P w (h.push { cls := .type "dict", data := .dict #[] }) h.objs.size [] :=
  ⟨Nat.zero_le _, beq_eq_false_iff_ne.mpr (Ne.symm (Nat.ne_of_lt hb)), [], .nil, List.nodup_nil, _, #[], 0, Heap.get?_push_size _ rfl, ⟨rfl, rfl, rfl⟩, rfl, rfl⟩
end
/-! ### the rules -/
section
variable (K : PySem.W.Frag) (P : Program) (w : World)
def tNGet (td ty : TE) : TE := fun σ H Q => td σ H fun x H1 => ty σ H1 fun y H2 => ∃ a m b k v, x = .ref a ∧ y = .ref b ∧ DiR K P w H2 a m ∧ SqT K H2 b (k.map V.int) ∧ valD m k = some v ∧ Q v H2
def tNIn (neg : Bool) (ty td : TE) : TE := fun σ H Q => ty σ H fun y H1 => td σ H1 fun x H2 => ∃ a m b k, x = .ref a ∧ y = .ref b ∧ DiR K P w H2 a m ∧ SqT K H2 b (k.map V.int) ∧ Q (.bl (if neg then !(valD m k).isSome else (valD m k).isSome)) H2
def tNGet2 (td ty tx : TE) : TE := fun σ H Q => td σ H fun x H1 => ∃ a m, x = .ref a ∧ DiR K P w H1 a m ∧ ty σ H1 fun y H2 => tx σ H2 fun z H3 => ∃ b k, y = .ref b ∧ DiR K P w H3 a m ∧ SqT K H3 b (k.map V.int) ∧ Q ((valD m k).getD z) H3
def sNPut (td ty tv : TE) : TS := fun D σ H => tv σ H fun v H1 => td σ H1 fun x H2 => ty σ H2 fun y H3 => ∃ a m b k, x = .ref a ∧ y = .ref b ∧ DiAt K P w H3 a m ∧ SqT K H3 b (k.map V.int) ∧ m.length < sizeLine ∧ D.nx σ (upd H3 a (DicO P w a (putD m k b v)))
def tNNew : TE := fun _ H Q => ∀ p, H p = none → Q (.ref p) (upd H p (DicO P w p []))
def rNLen : List V → Hp → VK → Prop := fun xs H Q => ∃ a m, xs = [.ref a] ∧ DiR K P w H a m ∧ Q (.int ((m.length : Nat) : Int)) H
/-- {k: v}, one pair -/
def tNOne (tk tv : TE) : TE := fun σ H Q => ∀ p, H p = none → tk σ (upd H p (DicO P w p [])) fun y H1 => tv σ H1 fun v H2 => ∃ b k, y = .ref b ∧ H2 p = some (DicO P w p []) ∧ SqT K H2 b (k.map V.int) ∧ Q (.ref p) (upd H2 p (DicO P w p [(k, b, v)]))
end
section
variable {X : Cx} {o i e f value : Expr} {pos pos' apos cpos : Pos} {td ty tv tx : TE}
theorem pe_nget (hu : X.A.units + 1 < cLine) (ho : PE X o td) (hi : PE X i ty) (hs : NoSl i) : PE X (.Subscript o i pos) (tNGet X.K X.prog X.w td ty) := by
  refine ⟨fun pins s σ H Q I h => ?_⟩
  refine subD_of PySem.F.slot_dict_getitem.lookup hs (thn (ho.run pins s σ H _ I h) fun u s1 ⟨x, H1, I1, rx, q1⟩ => thn (hi.run pins s1 σ H1 _ I1 q1) fun iv s2 ⟨y, H2, I2, ry, a, m, b, k, v, ex, ey, d, hb, hv, q2⟩ => ?_)
  subst ex
  subst ey
  cases rx
  cases ry
  exact ⟨(dic_of I2 d).2.2.elim fun xs q => q.2.typeIs, dic_get hu I2 d hb hv fun w' s3 I3 rw' => ⟨v, H2, I3, rw', q2⟩⟩
theorem pc_nin (hu : X.A.units + 1 < cLine) (hi : PE X i ty) (ho : PE X o td) : PC X .In i o (tNIn X.K X.prog X.w false ty td) := by
  refine ⟨fun pins s σ H Q I h => ?_⟩
  refine thn (hi.run pins s σ H _ I h) fun iv s1 ⟨y, H1, I1, ry, q1⟩ => thn (ho.run pins s1 σ H1 _ I1 q1) fun u s2 ⟨x, H2, I2, rx, a, m, b, k, ex, ey, d, hb, q2⟩ => ?_
  subst ex
  subst ey
  cases rx
  cases ry
  exact dic_in hu I2 d hb fun s3 I3 => ⟨.bl (valD m k).isSome, H2, I3, rfl, q2⟩
theorem pc_nnotin (hu : X.A.units + 1 < cLine) (hi : PE X i ty) (ho : PE X o td) : PC X .NotIn i o (tNIn X.K X.prog X.w true ty td) := by
  refine ⟨fun pins s σ H Q I h => ?_⟩
  refine thn (hi.run pins s σ H _ I h) fun iv s1 ⟨y, H1, I1, ry, q1⟩ => thn (ho.run pins s1 σ H1 _ I1 q1) fun u s2 ⟨x, H2, I2, rx, a, m, b, k, ex, ey, d, hb, q2⟩ => ?_
  subst ex
  subst ey
  cases rx
  cases ry
  exact dic_notIn hu I2 d hb fun s3 I3 => ⟨.bl (!(valD m k).isSome), H2, I3, rfl, q2⟩
theorem pe_nget2 (hu : X.A.units + 1 < cLine) (ho : PE X o td) (he : PE X e ty) (hf : PE X f tx) (m : M2 X o "get" apos e f cpos) : PE X (.Call (.Attribute o "get" apos) [e, f] [] cpos) (tNGet2 X.K X.prog X.w td ty tx) := by
  refine ⟨fun pins s σ H Q I h => ?_⟩
  refine wpAny_Call_method m.base m.few m.line PySem.F.plainAttrs_dict PySem.F.slot_dict_get PySem.F.type_dict_get (thn (ho.run pins s σ H _ I h) fun u s1 ⟨x, H1, I1, rx, a, mm, ex, d, q1⟩ => ?_)
  subst ex
  cases rx
  obtain ⟨_, _, xs, _, dd⟩ := dic_of I1 d
  refine ⟨dd.typeIs, fun b q => ?_, ?_⟩
  · cases q
    obtain ⟨ob, _, _, h1, h2, _⟩ := dd
    exact ⟨ob, h1, h2.2.1⟩
  · rw [m.trees]
    refine Calls.callWith_builtin rfl (Calls.evalArgs_plain (Calls.spliced_cons (thn (he.run pins s1 σ H1 _ I1 q1) fun iv s2 ⟨y, H2, I2, ry, q2⟩ =>
      Calls.spliced_cons (thn (hf.run pins s2 σ H2 _ I2 q2) fun fv s3 ⟨z, H3, I3, rz, b, k, ey, d3, hb, q3⟩ => Calls.spliced_nil ?_))))
    subst ey
    cases ry
    exact dic_get2 hu I3 d3 hb rz fun w' s4 I4 rw' => ⟨_, H3, I4, rw', q3⟩
theorem ps_nput (hu : X.A.units + 1 < cLine) (ho : PE X o td) (hi : PE X i ty) (hv : PE X value tv) (hs : swapsWith value (some (.Subscript o i pos')) pos.line X.env = pure false) :
    PS X (.Assign [.Subscript o i pos'] value pos) (sNPut X.K X.prog X.w td ty tv) := by
  refine ⟨fun pins s σ H D I h => ?_⟩
  refine wpAny_Assign_Subscript (thn (hv.run pins s σ H _ I h) fun r s1 ⟨v, H1, I1, rv, q1⟩ => thn (ho.run pins s1 σ H1 _ I1 q1) fun u s2 ⟨x, H2, I2, rx, q2⟩ => thn (hi.run pins s2 σ H2 _ I2 q2) fun iv s3 ⟨y, H3, I3, ry, a, m, b, k, ex, ey, d, hb, hl, q3⟩ => ?_) hs
  subst ex
  subst ey
  cases rx
  cases ry
  exact dic_put hu I3 d hb hl rv fun s4 I4 => ⟨σ, _, I4, q3⟩
theorem pe_nnew : PE X (.Dict [] [] pos) (tNNew X.prog X.w) := ⟨fun pins s σ H Q I h =>
  wpAny_Dict_empty ⟨.ref s.heap.objs.size, _, I.laid (a := s.heap.objs.size) (o := DicO X.prog X.w s.heap.objs.size []) (t' := s.toks) (fun _ _ q => Heap.get?_push_of_some _ q) (Nat.le_refl _) (dicO_ok (dic_empty I.big)), rfl, h _ (I.hok.fresh (Nat.le_refl _))⟩⟩
theorem call_nlen : CallR X (.builtin "len") (rNLen X.K X.prog X.w) := by
  intro pins s σ H xs us Q I r h
  obtain ⟨a, m, rfl, d, q⟩ := h
  obtain ⟨u, rfl, rx⟩ := vals1 r
  cases rx
  obtain ⟨z, y, ys, rel, dd⟩ := dic_of I d
  have hl : m.length = ys.length := Paired.length rel
  refine call_len_dictH y dd (by rw [← hl]; rw [sizeLine_eq] at z; omega) ?_
  rw [← hl]
  exact ⟨.int ((m.length : Nat) : Int), H, I.tok _, ⟨_, rfl⟩, q⟩
theorem pe_none (hu : X.A.units < cLine) {k v : Expr} {tk : TE} (hk : PE X k tk) (hv : PE X v tv) : PE X (.Dict [some k] [v] pos) (tNOne X.K X.prog X.w tk tv) := by
  refine ⟨fun pins s σ H Q I h => ?_⟩
  have hn := I.hok.fresh (Nat.le_refl s.heap.objs.size)
  have I1 := I.laid (a := s.heap.objs.size) (o := DicO X.prog X.w s.heap.objs.size []) (h' := s.heap.push { cls := .type "dict", data := .dict #[] }) (t' := s.toks) (fun _ _ q => Heap.get?_push_of_some _ q) (Nat.le_refl _) (dicO_ok (dic_empty I.big))
  rw [arm_eval_Dict, zip_pairTrees [some k] [v] X.env pos rfl rfl, dictDisplay_pairs (pairTrees [some k] [v] X.env pos) (by intro z; cases z) (by show 1 < 17; omega)]
  refine wpAny_bind (wpAny_standAt (wpAny_bind (wpAny_subDictH (knd := TK X.prog X.w) hu (by show 1 ≤ 15; omega) (pairTrees_cons_walk (thn (hk.run pins _ σ _ _ I1 (h _ hn)) fun kv s2 ⟨y, H2, I2, ry, q2⟩ => thn (hv.run pins s2 σ H2 _ I2 q2) fun vv s3 ⟨z, H3, I3, rz, b, kk, ey, hp, hb, q3⟩ => pairTrees_nil_walk ?_)))))
  subst ey
  cases ry
  obtain ⟨zz, yy, xs, rel, dd⟩ := dic_of I3 (m := []) (a := s.heap.objs.size) ⟨.inl hp, fun _ h => by cases h⟩
  cases rel
  refine ⟨[(kk, b, vv)], ⟨rfl, rfl, I3.isT hb, True.intro⟩, dd, fun h' tk dd' hs => wpAny_pure ⟨.ref s.heap.objs.size, _, ?_, rfl, q3⟩⟩
  obtain ⟨o, es, ep, ho, h2, h3, h4, _, h5⟩ := dd'
  exact d_write I3 (by rw [hp]; exact True.intro) hs ⟨o, ho⟩ (dicO_ok ⟨by rw [sizeLine_eq]; show 1 ≤ 16777216; omega, yy, _, .cons ⟨rfl, rfl, rz⟩ .nil, h5, o, es, ep, ho, h2, h3, h4⟩)
end
end Cot
namespace Cot
open PySem L2 Evl
section
variable {K : PySem.W.Frag} {P : Program} {w : World} {H H' Hd Hd' Hn H1 H2 : Hp} {σ : L2.St} {ta td ty tv tx : TE} {tr : TA} {D : Ends} {tz : TS} {a b : Addr} {m : Dkv} {k : List Int} {v z : V} {i : Nat}
theorem dp_key (h : Dp K H v (.tuple (k.map .int))) : ∃ p, v = .ref p ∧ SqT K H p (k.map V.int) := by
  cases h with
  | @tup p xs ds hs hall =>
    have e := dpa_ints_inv hall
    subst e
    exact ⟨p, rfl, hs⟩
theorem key_dp (h : SqT K H b (k.map V.int)) : Dp K H (.ref b) (.tuple (k.map .int)) := .tup h (dpa_ints k)
theorem ev_ninR {neg : Bool} (s : Ex Hd H) (hk : EvD K ty σ Hd (.tuple (k.map .int))) (hd : Ev td σ H (.ref a)) (d : DiR K P w H a m) : Ev (tNIn K P w neg ty td) σ H (.bl (if neg then !(valD m k).isSome else (valD m k).isSome)) := fun H1 e1 Q q =>
  hk H1 (s.trans e1) _ fun v H2 Hn g hv => hd H2 (e1.trans g.ex) _ fun H3 e3 => by
    obtain ⟨p, rfl, hp⟩ := dp_key hv
    exact ⟨a, m, p, k, rfl, rfl, d.mono ((e1.trans g.ex).trans e3), ex_t (g.sub.trans e3) hp, q H3 (g.ex.trans e3)⟩
theorem ev_ngetR (s : Ex Hd H) (hd : Ev td σ H (.ref a)) (hk : EvD K ty σ Hd (.tuple (k.map .int))) (d : DiR K P w H a m) (hv : valD m k = some v) : Ev (tNGet K P w td ty) σ H v := fun H1 e1 Q q =>
  hd H1 e1 _ fun H2 e2 => hk H2 ((s.trans e1).trans e2) _ fun u H3 Hn g hu => by
    obtain ⟨p, rfl, hp⟩ := dp_key hu
    exact ⟨a, m, p, k, v, rfl, rfl, d.mono ((e1.trans e2).trans g.ex), ex_t g.sub hp, hv, q H3 (e2.trans g.ex)⟩
theorem ev_nget2R (s : Ex Hd H) (hd : Ev td σ H (.ref a)) (hk : EvD K ty σ Hd (.tuple (k.map .int))) (hz : Ev tx σ H z) (d : DiR K P w H a m) : Ev (tNGet2 K P w td ty tx) σ H ((valD m k).getD z) := fun H1 e1 Q q =>
  hd H1 e1 _ fun H2 e2 => ⟨a, m, rfl, d.mono (e1.trans e2), hk H2 ((s.trans e1).trans e2) _ fun u H3 Hn g hu => hz H3 ((e1.trans e2).trans g.ex) _ fun H4 e4 => by
    obtain ⟨p, rfl, hp⟩ := dp_key hu
    exact ⟨p, k, rfl, d.mono (((e1.trans e2).trans g.ex).trans e4), ex_t (g.sub.trans e4) hp, q H4 ((e2.trans g.ex).trans e4)⟩⟩
theorem ev_nlenR (hd : Ev td σ H (.ref a)) (d : DiR K P w H a m) : Ev (tCB (rNLen K P w) (tCons td tNil)) σ H (.int ((m.length : Nat) : Int)) := fun H1 e1 Q q =>
  hd H1 e1 _ fun H2 e2 => ⟨a, m, rfl, d.mono (e1.trans e2), q H2 e2⟩
theorem ev_nin {neg : Bool} (s : Ex Hd H) (hk : EvD K ty σ Hd (.tuple (k.map .int))) (hd : Ev td σ H (.ref a)) (d : DiAt K P w H a m) : Ev (tNIn K P w neg ty td) σ H (.bl (if neg then !(valD m k).isSome else (valD m k).isSome)) := ev_ninR s hk hd d.r
theorem ev_nget (s : Ex Hd H) (hd : Ev td σ H (.ref a)) (hk : EvD K ty σ Hd (.tuple (k.map .int))) (d : DiAt K P w H a m) (hv : valD m k = some v) : Ev (tNGet K P w td ty) σ H v := ev_ngetR s hd hk d.r hv
theorem ev_nget2 (s : Ex Hd H) (hd : Ev td σ H (.ref a)) (hk : EvD K ty σ Hd (.tuple (k.map .int))) (hz : Ev tx σ H z) (d : DiAt K P w H a m) : Ev (tNGet2 K P w td ty tx) σ H ((valD m k).getD z) := ev_nget2R s hd hk hz d.r
theorem ev_nlen (hd : Ev td σ H (.ref a)) (d : DiAt K P w H a m) : Ev (tCB (rNLen K P w) (tCons td tNil)) σ H (.int ((m.length : Nat) : Int)) := ev_nlenR hd d.r
theorem go_nput (s : Ex Hd H) (hv : Ev tv σ H v) (hd : Ev td σ H (.ref a)) (hk : EvD K ty σ Hd (.tuple (k.map .int))) (d : DiAt K P w H a m) (hl : m.length < 100000)
    (kk : ∀ p H' Hn, Gr Hd H Hn H' → SqT K Hn p (k.map V.int) → Go tz D σ (upd H' a (DicO P w a (putD m k p v)))) : Go (tSeq (sNPut K P w td ty tv) tz) D σ H := fun H1 e1 =>
  hv H1 e1 _ fun H2 e2 => hd H2 (e1.trans e2) _ fun H3 e3 => hk H3 (((s.trans e1).trans e2).trans e3) _ fun u H4 Hn g hu => by
    obtain ⟨p, rfl, hp⟩ := dp_key hu
    exact ⟨a, m, p, k, rfl, rfl, d.mono (((e1.trans e2).trans e3).trans g.ex), ex_t g.sub hp, sz_lt hl, kk p H4 Hn (g.pre ((e1.trans e2).trans e3)) hp _ (Ex.refl _)⟩
/-- a new dict of one pair -/
theorem go_none (s : Ex Hd H) (hk : EvD K ty σ Hd (.tuple (k.map .int))) (hv : ∀ H1, Ex H H1 → Ev tv σ H1 v)
    (kk : ∀ a p H' Hn, Gr Hd H Hn H' → H a = none → Hn a = none → SqT K Hn p (k.map V.int) → H' a = some (DicO P w a [(k, p, v)]) → Go tz D (σ.set i (some (.ref a))) H') : Go (tSeq (tAsg (tNOne K P w ty tv) (gName i)) tz) D σ H := fun H1 e1 a ha => by
  have s1 : Ex Hd (upd H1 a (DicO P w a [])) := (s.trans e1).trans (Ex.new ha)
  refine hk _ s1 _ fun u H2 Hn g hu => hv H2 ((e1.trans (Ex.new ha)).trans g.ex) _ (Ex.refl _) _ fun H3 e3 => ?_
  obtain ⟨p, rfl, hp⟩ := dp_key hu
  have h3 : H3 a = some (DicO P w a []) := e3 _ _ (g.ex _ _ upd_same)
  have hna : Hn a = none := g.fr _ _ upd_same (fresh_back (s.trans e1) ha)
  refine ⟨p, k, rfl, h3, ex_t (g.sub.trans e3) hp, ?_⟩
  refine kk a p _ Hn ⟨fun x o hx => ?_, g.dx, Ex.mut (g.sub.trans e3) hna, fun x o hx hd => ?_⟩ (fresh_back e1 ha) hna hp upd_same _ (Ex.refl _)
  · have hx1 := e1 x o hx
    rw [upd_ne (ne_of_none hx1 ha)]
    exact e3 _ _ (g.ex _ _ (by rw [upd_ne (ne_of_none hx1 ha)]; exact hx1))
  · have hx1 := e1 x o hx
    exact g.fr x o (by rw [upd_ne (ne_of_none hx1 ha)]; exact hx1) hd
end
end Cot
namespace Cot
open PySem L2 Evl
/-! ### the same, where the context is a block's -/
section
variable {X : Cx} {K : PySem.W.Frag} {P : Program} {w : World} {o i e f value : Expr} {pos pos' apos cpos : Pos} {td ty tv tx tk : TE}
theorem pb_nget (h1 : X.K = K) (h2 : X.prog = P) (h3 : X.w = w) (hu : X.A.units + 1 < cLine) (ho : PE X o td) (hi : PE X i ty) (hs : NoSl i) : PE X (.Subscript o i pos) (tNGet K P w td ty) := by
  subst h1 h2 h3
  exact pe_nget hu ho hi hs
theorem pb_nin (h1 : X.K = K) (h2 : X.prog = P) (h3 : X.w = w) (hu : X.A.units + 1 < cLine) (hi : PE X i ty) (ho : PE X o td) : PC X .In i o (tNIn K P w false ty td) := by
  subst h1 h2 h3
  exact pc_nin hu hi ho
theorem pb_nnotin (h1 : X.K = K) (h2 : X.prog = P) (h3 : X.w = w) (hu : X.A.units + 1 < cLine) (hi : PE X i ty) (ho : PE X o td) : PC X .NotIn i o (tNIn K P w true ty td) := by
  subst h1 h2 h3
  exact pc_nnotin hu hi ho
theorem pb_nget2 (h1 : X.K = K) (h2 : X.prog = P) (h3 : X.w = w) (hu : X.A.units + 1 < cLine) (ho : PE X o td) (he : PE X e ty) (hf : PE X f tx) (m : M2 X o "get" apos e f cpos) : PE X (.Call (.Attribute o "get" apos) [e, f] [] cpos) (tNGet2 K P w td ty tx) := by
  subst h1 h2 h3
  exact pe_nget2 hu ho he hf m
theorem pb_nput (h1 : X.K = K) (h2 : X.prog = P) (h3 : X.w = w) (hu : X.A.units + 1 < cLine) (ho : PE X o td) (hi : PE X i ty) (hv : PE X value tv) (hs : swapsWith value (some (.Subscript o i pos')) pos.line X.env = pure false) :
    PS X (.Assign [.Subscript o i pos'] value pos) (sNPut K P w td ty tv) := by
  subst h1 h2 h3
  exact ps_nput hu ho hi hv hs
theorem pb_nnew (h2 : X.prog = P) (h3 : X.w = w) : PE X (.Dict [] [] pos) (tNNew P w) := by
  subst h2 h3
  exact pe_nnew
theorem cb_nlen (h1 : X.K = K) (h2 : X.prog = P) (h3 : X.w = w) : CallR X (.builtin "len") (rNLen K P w) := by
  subst h1 h2 h3
  exact call_nlen
theorem pb_none (h1 : X.K = K) (h2 : X.prog = P) (h3 : X.w = w) (hu : X.A.units < cLine) {k v : Expr} (hk : PE X k tk) (hv : PE X v tv) : PE X (.Dict [some k] [v] pos) (tNOne K P w tk tv) := by
  subst h1 h2 h3
  exact pe_none hu hk hv
end
end Cot

set_option Elab.async false
set_option linter.all false
set_option maxRecDepth 100000
set_option maxHeartbeats 4000000
/-! The lesser of two, sorted ints. -/
namespace Cot
open PySem PySem.Spec PyProof.Rows L2 Evl
section
variable {X : Cx} {K : PySem.W.Frag} {H Hd : Hp} {σ : L2.St} {ta tb : TE} {ns : List Int}
def rMin2 : List V → Hp → VK → Prop := fun xs H Q => ∃ i j, xs = [V.int i, V.int j] ∧ Q (V.int (if j < i then j else i)) H
theorem call_minQ (hc : X.calm = true := by rfl) : CallR X (.builtin "min") rMin2 := call_min2 hc
theorem ev_min2 {i j : Int} (ha : Ev ta σ H (.int i)) (hb : Ev tb σ H (.int j)) : Ev (tCB rMin2 (tCons ta (tCons tb tNil))) σ H (.int (if j < i then j else i)) := fun H1 e Q q =>
  ha H1 e _ fun H2 e2 => hb H2 (e.trans e2) _ fun H3 e3 => ⟨i, j, rfl, q H3 (e2.trans e3)⟩
/-- sorted of two ints -/
theorem en_sort2 {i j : Int} (h : EvD K ta σ Hd (.list [.int i, .int j])) : EvN K (tCB (rSortedI K) (tCons ta tNil)) σ Hd (if i ≤ j then [.int i, .int j] else [.int j, .int i]) := fun H s Q q =>
  h H s _ fun v H2 Hn g hd => by
    cases hd with
    | @lst a xs ds hs hall =>
      have e := dpa_ints_inv (ns := [i, j]) hall
      subst e
      refine ⟨a, [i, j], rfl, ex_l g.sub hs, fun ns' p hp hw hn => q p _ _ Hn (g.trans (Gr.alloc g.sub hn)) (fresh_back g.ex hn) (fresh_back g.sub hn) upd_same ?_⟩
      have e2 : ns' = if i ≤ j then [i, j] else [j, i] := by
        refine List.Perm.eq_of_pairwise (le := fun a b => a ≤ b) (fun a b _ _ h1 h2 => Int.le_antisymm h1 h2) hw ?_ ?_
        · split
          · exact List.pairwise_pair.mpr (by assumption)
          · exact List.pairwise_pair.mpr (by omega)
        · split
          · exact hp
          · exact hp.trans (List.Perm.swap _ _ _)
      rw [e2]
      split
      · exact dpa_ints [i, j]
      · exact dpa_ints [j, i]
end
end Cot
namespace Cot
open PySem L2 Evl
/-! ### a place let go of -/
def del (H : Hp) (l : Addr) : Hp := fun a => if a = l then none else H a
theorem del_same {H : Hp} {l : Addr} : del H l l = none := by unfold del; rw [if_pos rfl]
theorem del_ne {H : Hp} {l a : Addr} (h : a ≠ l) : del H l a = H a := by unfold del; rw [if_neg h]
theorem ex_del {H : Hp} {l : Addr} : Ex (del H l) H := fun a o h => by
  by_cases e : a = l
  · rw [e, del_same] at h; cases h
  · rw [del_ne e] at h; exact h
def noL : PyData → Bool
  | .list _ => false
  | .dict _ => false
  | .tuple ds => noLs ds
  | _ => true
where noLs : List PyData → Bool
  | [] => true
  | d :: ds => noL d && noLs ds
section
variable {K : PySem.W.Frag} {b : Bid} {H H' Hd Hd' Hn H1 H2 : Hp} {σ : L2.St} {ta td te tl th : TE} {t : TT} {tr : TA} {D : Ends} {tz : TS} {l : Addr} {o : HO} {v : V} {xs : List V} {d : PyData} {ds es : List PyData} {i : Nat} {P : PyData → Prop} {Ps : List PyData → Prop}
/-- no tuple -/
def NoTup (o : HO) : Prop := (∀ xs, o ≠ .tup xs) ∧ ∀ ob u, o ≠ .frz ob u
theorem noTup_lst : NoTup (.lst xs) := ⟨fun _ h => (by cases h), fun _ _ h => (by cases h)⟩
theorem sqT_del {a : Addr} (ho : H l = some o) (n : NoTup o) (h : SqT K H a xs) : SqT K (del H l) a xs := by
  rcases h with (h | ⟨ob, h⟩) | h
  · refine .inl (.inl ?_)
    rw [del_ne (fun e => by rw [e, ho] at h; exact n.1 _ (Option.some.inj h))]
    exact h
  · refine .inl (.inr ⟨ob, ?_⟩)
    rw [del_ne (fun e => by rw [e, ho] at h; exact n.2 _ _ (Option.some.inj h))]
    exact h
  · exact .inr h
mutual
theorem dp_del (ho : H l = some o) (n : NoTup o) : ∀ (d : PyData) {v : V}, noL d = true → Dp K H v d → Dp K (del H l) v d
  | .none, _, _, h => by cases h; exact .non
  | .bool b, _, _, h => by cases h; exact .bl b
  | .int i, _, _, h => by cases h; exact .int i
  | .str x, _, _, h => by cases h; exact .str x
  | .list ds, _, e, _ => by unfold noL at e; cases e
  | .tuple ds, _, e, h => by
    cases h with
    | tup hs ha => exact .tup (sqT_del ho n hs) (dpa_del ho n ds (by unfold noL at e; exact e) ha)
  | .dict _, _, _, h => by cases h
theorem dpa_del (ho : H l = some o) (n : NoTup o) : ∀ (ds : List PyData) {vs : List V}, noL.noLs ds = true → DpAll K H vs ds → DpAll K (del H l) vs ds
  | [], _, _, h => by cases h; exact .nil
  | d :: ds, _, e, h => by
    unfold noL.noLs at e
    rw [Bool.and_eq_true] at e
    cases h with
    | cons h1 h2 => exact .cons (dp_del ho n d e.1 h1) (dpa_del ho n ds e.2 h2)
end
theorem noLs_of : ∀ {ds : List PyData}, (∀ d ∈ ds, noL d = true) → noL.noLs ds = true
  | [], _ => by unfold noL.noLs; rfl
  | d :: ds, h => by
    unfold noL.noLs
    rw [h d List.mem_cons_self, noLs_of fun e he => h e (List.mem_cons_of_mem _ he)]
    rfl
theorem Gr.del (g : Gr (upd Hd l o) H Hn H2) (hl : Hd l = none) : Gr Hd H (del Hn l) H2 :=
  ⟨g.ex, fun a u ha => by
    have n : a ≠ l := fun e => by rw [e, hl] at ha; cases ha
    rw [del_ne n]
    exact g.dx a u (by rw [upd_ne n]; exact ha), ex_del.trans g.sub, fun a u ha hd => by
    by_cases e : a = l
    · rw [e]; exact del_same
    · rw [del_ne e]
      exact g.fr a u ha (by rw [upd_ne e]; exact hd)⟩
theorem GrB.del (g : GrB b (upd Hd l o) H Hn H2) (hl : Hd l = none) : GrB b Hd H (del Hn l) H2 :=
  ⟨g.exb, fun a u ha => by
    have n : a ≠ l := fun e => by rw [e, hl] at ha; cases ha
    rw [del_ne n]
    exact g.dx a u (by rw [upd_ne n]; exact ha), ex_del.trans g.sub, fun a u ha hd => by
    by_cases e : a = l
    · rw [e]; exact del_same
    · rw [del_ne e]
      exact g.fr a u ha (by rw [upd_ne e]; exact hd), g.bx⟩
/-- l.append(e), e read with l standing -/
theorem go_appX (s : Ex Hd H) (hl : H l = some (.lst xs)) (hd : Hd l = none) (ha : Ev ta σ H (.ref l)) (h : EvD K te σ (upd Hd l (.lst xs)) d) (nl : noL d = true) (hz : xs.length < 100000)
    (k : ∀ v H' Hn, Gr Hd H Hn H' → Hn l = none → Dp K Hn v d → Go tz D σ (upd H' l (.lst (xs ++ [v])))) : Go (tSeq (tDrop (tBM K "list" rAppend ta (tCons te tNil))) tz) D σ H :=
  go_appD (ex_add s hl) hl ha h hz fun v H' Hn g hv => k v H' (del Hn l) (g.del hd) del_same (dp_del (g.dx _ _ upd_same) noTup_lst d nl hv)
/-- the same, e drawn -/
theorem go_appBX (hb : Hd b.b = none) (s : Ex Hd H) (B : Bx H b) (hl : H l = some (.lst xs)) (hd : Hd l = none) (nlb : l ≠ b.b) (ha : Ev ta σ H (.ref l)) (h : EvB K b te σ (upd Hd l (.lst xs)) P) (nl : ∀ d, P d → noL d = true) (hz : xs.length < 100000)
    (k : ∀ v H' Hn d, GrB b Hd H Hn H' → Hn l = none → Dp K Hn v d → P d → Go tz D σ (upd H' l (.lst (xs ++ [v])))) : Go (tSeq (tDrop (tBM K "list" rAppend ta (tCons te tNil))) tz) D σ H :=
  go_appB (by rw [upd_ne nlb.symm]; exact hb) (ex_add s hl) B hl nlb ha h hz fun v H' Hn d g hv hp => k v H' (del Hn l) d (g.del hd) del_same (dp_del (g.dx _ _ upd_same) noTup_lst d (nl d hp) hv) hp
/-- x = [drawn ..]: a list that is to change -/
theorem go_asgBL (hb : Hd b.b = none) (s : Ex Hd H) (B : Bx H b) (h : EvBA K b tr σ Hd Ps) (hl : ∀ ds, Ps ds → ds.length ≤ 100000)
    (k : ∀ p xs H' Hn ds, GrB b Hd H Hn H' → H p = none → Hn p = none → p ≠ b.b → p ≠ b.ca → H' p = some (.lst xs) → DpAll K Hn xs ds → Ps ds → Go tz D (σ.set i (some (.ref p))) H') : Go (tSeq (tAsg (tLst tr) (gName i)) tz) D σ H := fun H1 e1 =>
  h hb H1 (s.trans e1) (B.mono e1) _ fun vs H2 Hn ds g hd hp => ⟨sz_of (by rw [dpa_len hd]; exact hl ds hp), fun p hpn => by
    obtain ⟨n1, n2⟩ := g.bx.apart hpn
    have hpn1 : H1 p = none := GrB.fresh g hpn
    exact k p vs _ Hn ds ((g.pre e1).post (Ex.new hpn)) (fresh_back e1 hpn1) (fresh_back g.sub hpn) n1 n2 upd_same hd hp _ (Ex.refl _)⟩
theorem ed_if {c : Bool} (h : EvT t σ Hd c) (h1 : c = true → EvD K ta σ Hd d) (h2 : c = false → EvD K te σ Hd d) : EvD K (tIf t ta te) σ Hd d := fun H s Q q => h H s _ fun H2 e2 => by
  cases c with
  | true => exact h1 rfl H2 (s.trans e2) Q fun v H3 Hn g hv => q v H3 Hn (g.pre e2) hv
  | false => exact h2 rfl H2 (s.trans e2) Q fun v H3 Hn g hv => q v H3 Hn (g.pre e2) hv
/-- a test by == of two drawn ints -/
theorem ebt_eq {p p' : Int → Prop} (ha : EvB K b ta σ Hd (isI p)) (hb' : EvB K b te σ Hd (isI p')) : EvBT K b (tTest (tOp rEq ta te)) σ Hd := fun hb H s B Q q =>
  ha hb H s B _ fun v H1 Hn d g hd hp => hb'.mono g.dx (g.bn hb B) H1 g.sub g.bx _ fun v2 H2 Hm d2 g2 hd2 hp2 => by
    obtain ⟨i, rfl, pi⟩ := hp
    obtain ⟨j, rfl, pj⟩ := hp2
    cases hd
    cases hd2
    exact ⟨rfl, _, rfl, q _ H2 Hm (g.trans g2 hb B)⟩
end
end Cot
namespace Cot
open PySem L2 Evl
/-- a def that is handed data and tells a scalar -/
def spD (K : PySem.W.Frag) (R : List PyData → V → Prop) : Sp := fun vs H Q _ => ∃ ds v, DpAll K H vs ds ∧ R ds v ∧ ∀ H2, Ex H H2 → Q v H2
section
variable {K : PySem.W.Frag} {Hd : Hp} {σ : L2.St} {tr : TA} {ds : List PyData} {v : V} {E : XK} {R : List PyData → V → Prop}
/-- a, b = x, y -/
theorem go_par {H : Hp} {d1 d2 : PyData} {D : Ends} {tz : TS} {i j : Nat} (s : Ex Hd H) (h : EvDA K tr σ Hd [d1, d2]) (k : ∀ v1 v2 H' Hn, Gr Hd H Hn H' → Dp K Hn v1 d1 → Dp K Hn v2 d2 → Go tz D ((σ.set i (some v1)).set j (some v2)) H') : Go (tSeq (tPar i j tr) tz) D σ H := fun H1 e1 =>
  h H1 (s.trans e1) _ fun vs H2 Hn g hd => by
    cases hd with
    | cons h1 h2 =>
      cases h2 with
      | cons h2 h3 =>
        cases h3
        exact ⟨_, _, rfl, k _ _ H2 Hn (g.pre e1) h1 h2 H2 (Ex.refl _)⟩
theorem ev_callD (h : EvDA K tr σ Hd ds) (hr : R ds v) : Ev (tCall (spD K R) [] E tr) σ Hd v := fun H s Q q =>
  h H s _ fun vs H2 Hn g hd => ⟨ds, v, by rw [List.append_nil]; exact dpa_mono g.sub _ hd, hr, fun H3 e3 => q H3 (g.ex.trans e3)⟩
end
end Cot

set_option Elab.async false
set_option linter.all false
set_option maxRecDepth 100000
set_option maxHeartbeats 4000000
/-! A tuple turned about, lists of lists that grow, calls with names. -/
namespace Cot
open PySem PySem.Spec PyProof.Rows L2 Evl
section
variable {prog : Program} {w : World} {A : Around} {E : Value → Shared → Prop} {s : Shared}
theorem adjust_rev (n : Nat) : Builtin.Slice.sliceAdjust none none (-1) (n : Int) = ((n : Int) - 1, -1) := rfl
theorem places_rev (n : Nat) : Builtin.Slice.slicePlaces ((n : Int) - 1) (-1) (-1) = n := by
  unfold Builtin.Slice.slicePlaces
  have h1 : ¬ ((-1 : Int) > 0) := by omega
  simp only [h1, if_false]
  by_cases h : (n : Int) - 1 > -1
  · rw [if_pos h, show (- -1 : Int) = 1 by decide, Int.ediv_one]
    omega
  · rw [if_neg h]
    omega
theorem pick_rev (xs : Array Value) : ((List.range xs.size).filterMap fun (m : Nat) => xs[(((xs.size : Nat) : Int) - 1 + (m : Int) * (-1)).toNat]?).toArray = xs.toList.reverse.toArray := by
  have e : (List.range xs.size).filterMap (fun (m : Nat) => xs[(((xs.size : Nat) : Int) - 1 + (m : Int) * (-1)).toNat]?) = ((List.range xs.size).map fun k => xs.size - 1 - k).filterMap (xs[·]?) := by
    rw [List.filterMap_map]
    have key : ∀ l : List Nat, (∀ m ∈ l, m < xs.size) → l.filterMap (fun (m : Nat) => xs[(((xs.size : Nat) : Int) - 1 + (m : Int) * (-1)).toNat]?) = l.filterMap ((xs[·]?) ∘ fun k => xs.size - 1 - k) := by
      intro l
      induction l with
      | nil => intro _; rfl
      | cons m l ih =>
        intro h
        have hm := h m List.mem_cons_self
        have e2 : (((xs.size : Nat) : Int) - 1 + (m : Int) * (-1)).toNat = xs.size - 1 - m := by omega
        rw [List.filterMap_cons, List.filterMap_cons, ih fun m hm => h m (List.mem_cons_of_mem _ hm), e2]
        rfl
    exact key _ fun m hm => List.mem_range.mp hm
  rw [e, PySem.W.krv_range, List.filterMap_reverse, PySem.W.krv_all]
theorem sliceApplied_rev {sl : Addr} {vs : Value} {n : Nat} {Q : Int × Int × Nat → Shared → Prop} (hs : s.heap.IsSliceOf sl .none .none vs) (ps : IsPart vs (some (-1)))
    (h : Q ((n : Int) - 1, -1, n) s) : wpAny (model prog w) A (Builtin.Slice.sliceApplied (.ref sl) (pure (n : Int))) Q E s := by
  obtain ⟨os, hos, hcs, hds⟩ := id hs
  unfold Builtin.Slice.sliceApplied Builtin.Slice.sliceFields
  refine wpAny_bind (wpAny_bind (wpAny_field hos hds (x := .none) rfl (wpAny_bind (wpAny_field hos hds (x := .none) rfl (wpAny_bind (wpAny_field hos hds (x := vs) rfl (wpAny_pure ?_)))))))
  refine wpAny_bind (HT.slicePart_ ps ?_)
  show wpAny _ _ (if ((-1 : Int) == 0) = true then _ else _) _ _ s
  rw [if_neg (by decide)]
  refine wpAny_bind (HT.slicePart_ .none (wpAny_bind (HT.slicePart_ .none (wpAny_bind (wpAny_pure ?_)))))
  show wpAny _ _ (match Builtin.Slice.sliceAdjust none none (-1) (n : Int) with | (lo, hi) => pure (lo, (-1 : Int), Builtin.Slice.slicePlaces lo hi (-1))) _ _ s
  rw [adjust_rev n]
  show wpAny _ _ (pure ((n : Int) - 1, (-1 : Int), Builtin.Slice.slicePlaces ((n : Int) - 1) (-1) (-1))) _ _ s
  rw [places_rev]
  exact wpAny_pure h
theorem getItem_tuple_rev {t sl : Addr} {items : Array Value} {vs : Value} {Q : Value → Shared → Prop} (ht : IsTup s.heap t items) (hs : s.heap.IsSliceOf sl .none .none vs) (ps : IsPart vs (some (-1)))
    (h : Q (.ref s.heap.objs.size) { s with heap := s.heap.push { cls := .type "tuple", data := .seq items.toList.reverse.toArray } })
    (hsz : items.size ≤ sizeLine) : wpAny (model prog w) A (getItem (.ref t) (.ref sl)) Q E s := by
  have htake : sizeOk (.seq items.toList.reverse.toArray) := by
    show items.toList.reverse.toArray.size ≤ sizeLine
    rw [List.size_toArray, List.length_reverse, Array.length_toList]
    exact hsz
  obtain ⟨os, hos, hcs, hds⟩ := id hs
  have hTs : s.TypeIs (.ref sl) "slice" := ⟨os, hos, hcs⟩
  unfold getItem
  try with_reducible refine wpAny_holding ?_
  first | refine wpAny_bind (wpAny_pure ?_) | skip
  refine wpAny_bind (wpAny_sequenceKey ht.typeIs (by decide) ?_)
  refine wpAny_bind (wpAny_callSpecial?_slot (name := Str.ofString "__getitem__") ht.typeIs PyProof.Rows.slot_tuple_getitem
    (wpAny_call_entry PyProof.Rows.slot_tuple_getitem ht.typeIs entry_tuple_getitem ?_ (args_tuple_getitem _ _)))
  show wpAny _ _ (Builtin.Tuple.tupleItemsOf (.ref t) >>= _) _ _ s
  refine wpAny_bind (tupleItemsOf_ ht ?_)
  refine wpAny_bind (wpAny_typeOf hTs ?_)
  rw [if_pos (by decide)]
  refine wpAny_bind (sliceApplied_rev hs ps ?_)
  have hno : ¬ ((((items.size : Int) - 1) == 0 && (-1 : Int) == 1 && items.size == items.size) = true) := by
    intro q
    rw [Bool.and_eq_true, Bool.and_eq_true] at q
    exact absurd q.1.2 (by decide)
  show wpAny _ _ (if (((items.size : Int) - 1) == 0 && (-1 : Int) == 1 && items.size == items.size) = true then _ else _) _ _ s
  rw [if_neg hno, pick_rev]
  first
    | exact wpAny_bind (m := Builtin.Tuple.tupleExact _) (wpAny_newObj_type (wpAny_pure ⟨_, rfl, wpAny_pure h⟩) htake)
    | exact wpAny_bind (m := Builtin.Tuple.tupleExact _) (wpAny_newObj_type (wpAny_bind (wpAny_pure (wpAny_pure ⟨_, rfl, wpAny_pure h⟩))) htake)
    | exact wpAny_bind (wpAny_bind (m := Builtin.Tuple.tupleExact _) (wpAny_newObj_type (wpAny_pure (wpAny_pure ⟨_, rfl, wpAny_pure h⟩)) htake))
    | exact wpAny_bind (wpAny_bind (m := Builtin.Tuple.tupleExact _) (wpAny_newObj_type (wpAny_pure ⟨_, rfl, wpAny_pure h⟩) htake))
end
section
variable {X : Cx}
def tRevT (K : PySem.W.Frag) (te : TE) : TE := fun σ H Q => te σ H fun x H1 => ∃ a xs, x = .ref a ∧ SqT K H1 a xs ∧ ∀ p, H1 p = none → Q (.ref p) (upd H1 p (.tup xs.reverse))
theorem pe_revT {e : Expr} {te : TE} {k : Nat} {p1 p2 p3 pos : Pos} (he : PE X e te) : PE X (.Subscript e (.Slice none none (some (.UnaryOp .USub (.Constant (.int 1) k p1) p2)) p3) pos) (tRevT X.K te) := by
  refine ⟨fun pins s σ H Q I h => ?_⟩
  refine Subscript_ (thn (he.run pins s σ H _ I h) fun v s1 ⟨x, H1, I1, r1, q1⟩ => ?_)
  obtain ⟨a, xs, ex, hx, q⟩ := q1
  subst ex
  cases r1
  have hst : PO X (some (.UnaryOp .USub (.Constant (.int 1) k p1) p2)) (tPart (tUn (rU fun i => .int (-i)) (tC (.int 1)))) := po_some (pe_un un_neg pe_int)
  refine wpAny_Slice (thn (po_none.run pins s1 σ H1 (fun o H2 => o = none ∧ H2 = H1) I1 ⟨rfl, rfl⟩) fun vl s2 ⟨l, H2, I2, pl, el, e2⟩ => ?_)
  subst el e2
  refine thn (po_none.run pins s2 σ H2 (fun o H3 => o = none ∧ H3 = H2) I2 ⟨rfl, rfl⟩) fun vu s3 ⟨u, H3, I3, pu, eu, e3⟩ => ?_
  subst eu e3
  refine thn (hst.run pins s3 σ H3 (fun o H4 => o = some (-1) ∧ H4 = H3) I3 ⟨1, rfl, -1, rfl, rfl, rfl⟩) fun vs s4 ⟨o, H4, I4, ps, eo, e4⟩ => ?_
  subst eo e4
  cases pl
  cases pu
  have I5 : Inv X pins σ H4 { s4 with heap := s4.heap.push { cls := .type "slice", data := .fields #[.none, .none, vs] } } := I4.kept (t' := s4.toks) fun b ob q => Heap.get?_push_of_some _ q
  obtain ⟨its, r, ht, hz⟩ := I5.tuple hx
  have hlen := r.length
  show wpAny (model X.prog X.w) X.A (subscriptTail e (.Slice none none (some (.UnaryOp .USub (.Constant (.int 1) k p1) p2)) p3) (.ref a) (.ref s4.heap.objs.size)) (EP X pins σ Q) X.xe { s4 with heap := s4.heap.push { cls := .type "slice", data := .fields #[.none, .none, vs] } }
  refine tail_any (ops := [.ref a, .ref s4.heap.objs.size]) ht.typeIs (PyProof.Rows.slot_tuple_getitem.lookup) ?_ (by with_unfolding_all rfl)
  refine getItem_tuple_rev ht (Heap.IsSliceOf.new _ .none .none vs) ps ?_ (by rw [List.size_toArray]; omega)
  refine ⟨.ref _, _, I5.laid (t' := s4.toks) (o := .tup xs.reverse) (fun b ob q => Heap.get?_push_of_some _ q) (Nat.le_refl _) ?_, rfl, q _ (I5.hok.fresh (Nat.le_refl _))⟩
  exact ⟨by rw [List.length_reverse]; exact hz, _, r.reverse, IsTup.new _ _⟩
end
section
variable {K : PySem.W.Frag} {l : Addr} {H H' Hd Hd' Hn H1 H2 Hm Hg : Hp} {σ : L2.St} {ta tb te : TE} {tr tk : TA} {D : Ends} {tz : TS} {d : PyData} {ds es : List PyData} {xs : List V}
theorem ed_revT (h : EvD K te σ Hd (.tuple ds)) : EvD K (tRevT K te) σ Hd (.tuple ds.reverse) := fun H s Q q =>
  h H s _ fun v H2 Hn g hd => by
    cases hd with
    | @tup a xs ds hs hall => exact ⟨a, xs, rfl, ex_t g.sub hs, fun r hr => q (.ref r) _ _ (g.trans (Gr.new g.sub hr)) (.tup (st_of upd_same) (dpa_mono (Ex.new (fresh_back g.sub hr)) _ (dpa_rev hall)))⟩
/-- a call whose last things are left out -/
theorem ed_callE {R : List PyData → PyData → Prop} {E : XK} {ns : List Int} (h : EvDA K tr σ Hd ds) (hr : R (ds ++ ns.map .int) d) : EvD K (tCall (spF K R) (ns.map .int) E tr) σ Hd d := fun H s Q q =>
  h H s _ fun vs H2 Hn g hd => ⟨Hn, ds ++ ns.map .int, d, g.sub, dpa_app hd (dpa_ints ns), hr, fun v H3 Hm g3 h3 => q v H3 Hm (g.trans g3) h3⟩
/-- the last things by their names, in their order -/
theorem ed_callN {R : List PyData → PyData → Prop} {E : XK} {n k : Nat} (h : EvDA K tr σ Hd ds) (hk : EvDA K tk σ Hd es) (h1 : ds.length = n) (h2 : es.length = k) (hr : R (ds ++ es) d) : EvD K (tCallN n k (spF K R) (fun us ws => us ++ ws) E tr tk) σ Hd d := fun H s Q q =>
  h H s _ fun vs H2 Hn g hd => (hk.mono g.dx) H2 g.sub _ fun ws H3 Hm g3 hd3 => ⟨by rw [dpa_len hd]; exact h1, by rw [dpa_len hd3]; exact h2, Hm, ds ++ es, d, g3.sub, dpa_app (dpa_mono g3.dx _ hd) hd3, hr, fun v H4 Ho g4 h4 => q v H4 Ho ((g.trans g3).trans g4) h4⟩
/-- a list that grows: it is no data yet, its things are -/
def LsAt (K : PySem.W.Frag) (Hg H' : Hp) (p : Addr) (ds : List PyData) : Prop := Hg p = none ∧ ∃ vs, H' p = some (.lst vs) ∧ DpAll K Hg vs ds
theorem LsAt.gr (h : LsAt K Hg H' l ds) (g : Gr Hg H' Hn H2) : LsAt K Hn H2 l ds := by
  obtain ⟨h1, vs, h2, h3⟩ := h
  exact ⟨g.fr _ _ h2 h1, vs, g.ex _ _ h2, dpa_mono g.dx _ h3⟩
theorem LsAt.ext (h : LsAt K Hg H' l ds) (e : Ex H' H2) : LsAt K Hg H2 l ds := by
  obtain ⟨h1, vs, h2, h3⟩ := h
  exact ⟨h1, vs, e _ _ h2, h3⟩
theorem LsAt.oth {p : Addr} {o : HO} (h : LsAt K Hg H' l ds) (n : l ≠ p) : LsAt K Hg (upd H' p o) l ds := by
  obtain ⟨h1, vs, h2, h3⟩ := h
  exact ⟨h1, vs, by rw [upd_ne n]; exact h2, h3⟩
/-- a list of places that are no data yet -/
def RfAt (Hg H' : Hp) (p : Addr) (xs : List V) : Prop := Hg p = none ∧ H' p = some (.lst xs)
theorem RfAt.gr (h : RfAt Hg H' l xs) (g : Gr Hg H' Hn H2) : RfAt Hn H2 l xs := ⟨g.fr _ _ h.2 h.1, g.ex _ _ h.2⟩
theorem RfAt.ext (h : RfAt Hg H' l xs) (e : Ex H' H2) : RfAt Hg H2 l xs := ⟨h.1, e _ _ h.2⟩
theorem RfAt.oth {p : Addr} {o : HO} (h : RfAt Hg H' l xs) (n : l ≠ p) : RfAt Hg (upd H' p o) l xs := ⟨h.1, by rw [upd_ne n]; exact h.2⟩
theorem go_appA (s : Ex Hd H) (hl : LsAt K Hd H l ds) (ha : Ev ta σ H (.ref l)) (h : EvD K te σ Hd d) (hz : ds.length < 100000)
    (k : ∀ H' Hn, Ex Hd Hn → Ex Hn H' → LsAt K Hn H' l (ds ++ [d]) → (∀ p es, p ≠ l → LsAt K Hd H p es → LsAt K Hn H' p es) → (∀ p xs, p ≠ l → RfAt Hd H p xs → RfAt Hn H' p xs) → Go tz D σ H') :
    Go (tSeq (tDrop (tBM K "list" rAppend ta (tCons te tNil))) tz) D σ H := by
  obtain ⟨h1, vs, h2, h3⟩ := hl
  refine go_appD (K := K) (d := d) s h2 ha h (by rw [dpa_len h3]; exact hz) fun v H' Hn g hv => ?_
  have n1 := g.fr _ _ h2 h1
  exact k _ Hn g.dx (Ex.mut g.sub n1) ⟨n1, _, upd_same, dpa_app (dpa_mono g.dx _ h3) (.cons hv .nil)⟩ (fun p es n h => (h.gr g).oth n) (fun p xs n h => (h.gr g).oth n)
/-- it is data from here on -/
theorem LsAt.add (h : LsAt K Hg H' l ds) (s : Ex Hg H') : ∃ Hn, Ex Hg Hn ∧ Ex Hn H' ∧ Dp K Hn (.ref l) (.list ds) ∧ ∀ q, q ≠ l → Hg q = none → Hn q = none := by
  obtain ⟨h1, vs, h2, h3⟩ := h
  exact ⟨upd Hg l (.lst vs), Ex.new h1, ex_add s h2, .lst (sq_of upd_same) (dpa_mono (Ex.new h1) _ h3), fun q n hq => by rw [upd_ne n]; exact hq⟩
theorem RfAt.add (h : RfAt Hg H' l xs) (s : Ex Hg H') (hd : DpAll K Hg xs ds) : ∃ Hn, Ex Hg Hn ∧ Ex Hn H' ∧ Dp K Hn (.ref l) (.list ds) := ⟨upd Hg l (.lst xs), Ex.new h.1, ex_add s h.2, .lst (sq_of upd_same) (dpa_mono (Ex.new h.1) _ hd)⟩
end
theorem pe_revTK {X : Cx} {K : PySem.W.Frag} {e : Expr} {te : TE} {k : Nat} {p1 p2 p3 pos : Pos} (hK : X.K = K) (he : PE X e te) : PE X (.Subscript e (.Slice none none (some (.UnaryOp .USub (.Constant (.int 1) k p1) p2)) p3) pos) (tRevT K te) := hK ▸ pe_revT he
theorem pb_tup {X : Cx} {K : PySem.W.Frag} {tg l : Expr} {tl : TE} (hK : X.K = K) (hl : PE X l tl) : PI X tg l (iTup K tl) := hK ▸ pi_tup hl
theorem pb_list {X : Cx} {K : PySem.W.Frag} {tg l : Expr} {tl : TE} (hK : X.K = K) (hl : PE X l tl) : PI X tg l (iList K tl) := hK ▸ pi_list hl
/-! ### a comprehension within a comprehension -/
theorem look_relabel {env : Env} : ∀ {names : List (Str × NameKind)} {x : Str}, names.lookup x = some .cell ∨ names.lookup x = some .free →
    (names.map fun (n, k) => if (k == NameKind.free && env.scope.kind == .function && env.kindOf n == some .cell) then (n, NameKind.cell) else (n, k)).lookup x = some .cell ∨
    (names.map fun (n, k) => if (k == NameKind.free && env.scope.kind == .function && env.kindOf n == some .cell) then (n, NameKind.cell) else (n, k)).lookup x = some .free
  | [], _, h => by simp at h
  | (n, k) :: r, x, h => by
    have ih := look_relabel (env := env) (names := r) (x := x)
    rw [List.map_cons]
    generalize List.map (fun (x : Str × NameKind) => match x with | (n, k) => if (k == NameKind.free && env.scope.kind == ScopeKind.function && env.kindOf n == some NameKind.cell) then (n, NameKind.cell) else (n, k)) r = r' at ih ⊢
    dsimp only
    by_cases hc : (k == NameKind.free && env.scope.kind == .function && env.kindOf n == some .cell) = true
    · rw [if_pos hc, List.lookup_cons]
      rw [List.lookup_cons] at h
      cases hx : x == n
      · rw [hx] at h
        exact ih h
      · exact .inl rfl
    · rw [if_neg hc, List.lookup_cons]
      rw [List.lookup_cons] at h
      cases hx : x == n
      · rw [hx] at h
        exact ih h
      · rw [hx] at h
        exact h
theorem blkIn_by {N : List Str} {env : Env} {sc scope : Scope} {own : List (Str × Nat)} (h : blkC N sc scope own = true) : BlkOk N (relabel sc env) scope own := by
  have b := blkOk_by h
  exact ⟨b.kind, b.uniq, b.ix, fun y hy e => look_relabel (b.free y hy e), b.own⟩
end Cot

set_option Elab.async false
set_option linter.all false
set_option maxRecDepth 100000
set_option maxHeartbeats 4000000
/-! A slice of a list told anew, lists of lists of ints that are changed, calls by names. -/
namespace Cot
open PySem PySem.Spec PyProof.Rows L2 Evl
section
variable {X : Cx}
/-- o[lo:hi] = a new list -/
def gSlc (to : TE) (tl th : TO) : TG := fun v σ H Q => to σ H fun o H1 => tl σ H1 fun lo H2 => th σ H2 fun hi H3 => ∃ l b xs ys a c, o = .ref l ∧ v = .ref b ∧ lo = some a ∧ hi = some c ∧ H3 l = some (.lst xs) ∧ H3 b = some (.lst ys) ∧ l ≠ b ∧ 0 ≤ a ∧ a ≤ c ∧ c ≤ (xs.length : Int) ∧ xs.length + ys.length ≤ sizeLine ∧ Q σ (upd H3 l (.lst (xs.take a.toNat ++ ys ++ xs.drop c.toNat)))
theorem pg_slc {o : Expr} {lo hi : Option Expr} {to : TE} {tl th : TO} {p2 pos : Pos} (ho : PE X o to) (hl : PO X lo tl) (hu : PO X hi th)
    (ha : ∀ v, assign (.Subscript o (.Slice lo hi none p2) pos) X.env v = (do
      let ov ← holding [v] (eval o X.env)
      let iv ← holding [v, ov] (eval (.Slice lo hi none p2) X.env)
      standAt pos
      holding [v, ov, iv] (setItem ov iv v)
      release [iv, v, ov] []) := by intro _; rfl) : PG X (.Subscript o (.Slice lo hi none p2) pos) (gSlc to tl th) := by
  refine ⟨fun pins s σ H v u Q I r h => ?_⟩
  rw [ha]
  refine wpAny_bind (wpAny_holding (thn (ho.run pins s σ H _ I h) fun ov s1 ⟨x, H1, I1, r1, q1⟩ => ?_))
  refine wpAny_bind (wpAny_holding ?_)
  refine wpAny_Slice (thn (hl.run pins s1 σ H1 _ I1 q1) fun vl s2 ⟨l, H2, I2, pl, q2⟩ => thn (hu.run pins s2 σ H2 _ I2 q2) fun vu s3 ⟨uu, H3, I3, pu, q3⟩ => ?_)
  rw [evalPart_none]
  refine wpAny_pure ?_
  have I4 : Inv X pins σ H3 { s3 with heap := s3.heap.push { cls := .type "slice", data := .fields #[vl, vu, .none] } } := I3.kept (t' := s3.toks) fun b ob q => Heap.get?_push_of_some _ q
  obtain ⟨l', b, xs, ys, a, c, rfl, rfl, rfl, rfl, hl3, hb3, hne, h0, h1, h2, hz, q⟩ := q3
  cases r1
  cases r
  have ra : RelV (.int a) vl := by cases pl; exact ⟨_, rfl⟩
  have rc : RelV (.int c) vu := by cases pu; exact ⟨_, rfl⟩
  refine wpAny_bind (wpAny_standAt (wpAny_bind (wpAny_holding (set_slice I4 hl3 hb3 hne (Heap.IsSliceOf.new ..) ra rc h0 h1 h2 hz fun s5 I5 => ?_))))
  exact wpAny_release ⟨σ, _, I5, q⟩
end
/-! ### calls by names -/
section
variable {K : PySem.W.Frag} {x qual : Str} {st : Stmt} {f : Addr} {fd : FuncData} {ps : List Str}
theorem kbFun (F : Fun K x qual st f fd) {n : Nat} {ks : List Str}
    (h : ∀ (kV doc pm : Value) (an : Option Addr) (cdv ct : Value) (us ws : List Value), us.length = n → ws.length = ks.length → bindArgs (PySem.W.fnOf x qual (defArgs st) (defBody st) (defScope st) .none kV doc pm an cdv ct) ⟨us, ks.zip ws⟩ = pure (ps.zip (us ++ ws))) :
    KBn K fd ps n ks (fun us ws => us ++ ws) (fun us ws => us ++ ws) := by
  obtain ⟨oc, od, kV, doc, pm, an, cdv, ct, osl, rfl, lk, hcd⟩ := F.ex
  exact ⟨fun s us ws X h1 h2 => .of_eq (h kV doc pm an cdv ct us ws h1 h2), fun r1 r2 => r1.append r2⟩
theorem kbFunR (F : Fun K x qual st f fd) {n : Nat} {ks : List Str}
    (h : ∀ (kV doc pm : Value) (an : Option Addr) (cdv ct : Value) (us ws : List Value), us.length = n → ws.length = ks.length → bindArgs (PySem.W.fnOf x qual (defArgs st) (defBody st) (defScope st) .none kV doc pm an cdv ct) ⟨us, ks.zip ws⟩ = pure (ps.zip (us ++ ws.reverse))) :
    KBn K fd ps n ks (fun us ws => us ++ ws.reverse) (fun us ws => us ++ ws.reverse) := by
  obtain ⟨oc, od, kV, doc, pm, an, cdv, ct, osl, rfl, lk, hcd⟩ := F.ex
  exact ⟨fun s us ws X h1 h2 => .of_eq (h kV doc pm an cdv ct us ws h1 h2), fun r1 r2 => r1.append r2.reverse⟩
end
section
variable {K : PySem.W.Frag} {a p : Addr} {ps : List Addr} {rs : List (List Int)} {r ns : List Int} {H H' Hd Hn H1 H2 : Hp} {σ : L2.St} {ta tb te tl : TE} {tlo thi : TO} {tr tk : TA} {D : Ends} {tz : TS} {d : PyData} {ds es : List PyData} {i j : Nat} {lo hi : Int}
theorem ed_callR {R : List PyData → PyData → Prop} {E : XK} {n k : Nat} (h : EvDA K tr σ Hd ds) (hk : EvDA K tk σ Hd es) (h1 : ds.length = n) (h2 : es.length = k) (hr : R (ds ++ es.reverse) d) : EvD K (tCallN n k (spF K R) (fun us ws => us ++ ws.reverse) E tr tk) σ Hd d := fun H s Q q =>
  h H s _ fun vs H2 Hn g hd => (hk.mono g.dx) H2 g.sub _ fun ws H3 Hm g3 hd3 => ⟨by rw [dpa_len hd]; exact h1, by rw [dpa_len hd3]; exact h2, Hm, ds ++ es.reverse, d, g3.sub, dpa_app (dpa_mono g3.dx _ hd) (dpa_rev hd3), hr, fun v H4 Ho g4 h4 => q v H4 Ho ((g.trans g3).trans g4) h4⟩
theorem en_listT (h : EvD K te σ Hd (.tuple ds)) : EvN K (tCB (rListS K) (tCons te tNil)) σ Hd ds := fun H s Q q =>
  h H s _ fun v H2 Hn g hd => by
    cases hd with
    | @tup a xs ds hs hall => exact ⟨a, xs, rfl, Or.inr (ex_t g.sub hs), fun r hr => q r _ _ Hn (g.trans (Gr.alloc g.sub hr)) (fresh_back g.ex hr) (fresh_back g.sub hr) upd_same hall⟩
/-- a list of lists of ints, each its own -/
structure LL (H : Hp) (a : Addr) (ps : List Addr) (rs : List (List Int)) : Prop where
  top : H a = some (.lst (ps.map .ref))
  len : ps.length = rs.length
  nd : ps.Nodup
  out : a ∉ ps
  row : ∀ (i : Nat) (p : Addr) (r : List Int), ps[i]? = some p → rs[i]? = some r → H p = some (.lst (r.map .int))
theorem LL.ext (h : LL H a ps rs) (e : Ex H H2) : LL H2 a ps rs := ⟨e _ _ h.top, h.len, h.nd, h.out, fun i p r h1 h2 => e _ _ (h.row i p r h1 h2)⟩
theorem LL.oth {q : Addr} {o : HO} (h : LL H a ps rs) (n : q ≠ a) (m : q ∉ ps) : LL (upd H q o) a ps rs := ⟨by rw [upd_ne n.symm]; exact h.top, h.len, h.nd, h.out, fun i p r h1 h2 => by
  rw [upd_ne (show p ≠ q from fun e => m (by rw [← e]; exact List.mem_of_getElem? h1))]
  exact h.row i p r h1 h2⟩
theorem LL.put (h : LL H a ps rs) (hp : ps[i]? = some p) (r' : List Int) : LL (upd H p (.lst (r'.map .int))) a ps (rs.set i r') := by
  have hm := List.mem_of_getElem? hp
  refine ⟨by rw [upd_ne (show a ≠ p from fun e => h.out (by rw [e]; exact hm))]; exact h.top, by rw [List.length_set]; exact h.len, h.nd, h.out, fun k q r h1 h2 => ?_⟩
  by_cases e : k = i
  · subst e
    rw [h1] at hp
    cases hp
    have hk : k < rs.length := by
      have := List.getElem?_eq_some_iff.mp h1
      rw [← h.len]
      exact this.1
    rw [List.getElem?_set_self hk] at h2
    cases h2
    exact upd_same
  · rw [List.getElem?_set_ne (fun e2 => e e2.symm)] at h2
    have hne : q ≠ p := by
      intro e2
      subst e2
      have a1 := List.getElem?_eq_some_iff.mp h1
      have a2 := List.getElem?_eq_some_iff.mp hp
      exact e ((List.getElem_inj h.nd).mp (a1.2.trans a2.2.symm))
    rw [upd_ne hne]
    exact h.row k q r h1 h2
theorem ll_data : ∀ {ps : List Addr} {rs : List (List Int)}, ps.length = rs.length → (∀ (i : Nat) (p : Addr) (r : List Int), ps[i]? = some p → rs[i]? = some r → H p = some (.lst (r.map .int))) → DpAll K H (ps.map .ref) (rs.map fun r => .list (r.map .int))
  | [], [], _, _ => .nil
  | [], _ :: _, h, _ => by cases h
  | _ :: _, [], h, _ => by cases h
  | p :: ps, r :: rs, h, k => .cons (.lst (sq_of (k 0 p r rfl rfl)) (dpa_ints r)) (ll_data (by simpa using h) fun i p r h1 h2 => k (i + 1) p r h1 h2)
theorem LL.data (h : LL H a ps rs) (s : Ex Hd H) (na : Hd a = none) (np : ∀ p ∈ ps, Hd p = none) : ∃ Hn, Ex Hd Hn ∧ Ex Hn H ∧ Dp K Hn (.ref a) (.list (rs.map fun r => .list (r.map .int))) ∧ ∀ q, q ≠ a → q ∉ ps → Hn q = Hd q := by
  refine ⟨fun x => if x = a ∨ x ∈ ps then H x else Hd x, fun x o hx => ?_, fun x o hx => ?_, .lst (xs := ps.map .ref) (sq_of ?_) (ll_data h.len fun i p r h1 h2 => ?_), fun q n m => if_neg (fun h => h.elim n m)⟩
  · show (if x = a ∨ x ∈ ps then H x else Hd x) = some o
    split
    · exact s x o hx
    · exact hx
  · have hx' : (if x = a ∨ x ∈ ps then H x else Hd x) = some o := hx
    split at hx'
    · exact hx'
    · exact s x o hx'
  · show (if a = a ∨ a ∈ ps then H a else Hd a) = _
    rw [if_pos (.inl rfl)]
    exact h.top
  · show (if p = a ∨ p ∈ ps then H p else Hd p) = _
    rw [if_pos (.inr (List.mem_of_getElem? h1))]
    exact h.row i p r h1 h2
def EvLL (te : TE) (σ : L2.St) (Hd : Hp) (rs : List (List Int)) : Prop := ∀ H, Ex Hd H → ∀ Q : VK, (∀ a ps H2, Ex H H2 → H a = none → (∀ p ∈ ps, H p = none) → LL H2 a ps rs → Q (.ref a) H2) → te σ H Q
theorem go_asgLL (s : Ex Hd H) (h : EvLL te σ Hd rs) (k : ∀ a ps H', Ex H H' → H a = none → (∀ p ∈ ps, H p = none) → LL H' a ps rs → Go tz D (σ.set i (some (.ref a))) H') : Go (tSeq (tAsg te (gName i)) tz) D σ H := fun H1 e1 =>
  h H1 (s.trans e1) _ fun a ps H2 e2 n m l => k a ps H2 (e1.trans e2) (fresh_back e1 n) (fun p hp => fresh_back e1 (m p hp)) l _ (Ex.refl _)
theorem ll_lc {vs : List Nat} (h : EvD K tl σ Hd (.tuple (rs.map fun r => .tuple (r.map .int)))) (hn : rs.length ≤ 1000) (hw : ∀ u, wipe ((wipe σ vs).set j (some u)) vs = wipe σ vs) (hj : ∀ u, ((wipe σ vs).set j (some u))[j]? = some (some u)) :
    EvLL (tLc (iTup K tl) (gName j) tYes (tCB (rListS K) (tCons (tVar j) tNil)) vs) σ Hd rs := fun H s Q q =>
  (ei_tup (j := j) h) H s _ fun J H1 Hn G Y gr w hG hY Dl hD => by
    rw [List.length_map] at w hY
    refine lc_it w (fun i H' => i ≤ rs.length ∧ ∃ ps, Ex H1 H' ∧ (∀ p ∈ ps, H1 p = none) ∧ LL H' Dl ps (rs.take i)) ⟨Nat.zero_le _, [], Ex.new hD, (fun _ h => by cases h), ⟨upd_same, rfl, List.nodup_nil, (fun h => by cases h), fun i p r h1 _ => by simp at h1⟩⟩ (fun i H' _ p => ?_) (fun i x H' H'' hi p y => ?_) (fun H' p => ?_)
    · obtain ⟨_, ps, e, _⟩ := p
      exact hG H' (gr.sub.trans e)
    · obtain ⟨_, ps, e, hf, L⟩ := p
      refine hY i x H' H'' _ _ hi (gr.sub.trans e) y fun σ2 H3 e3 hS => ?_
      obtain ⟨u, d, h3, h4, rfl⟩ := hS
      refine ⟨hw u, et_yes (H := Hn) H3 ((gr.sub.trans e).trans e3) _ fun H4 e4 => ?_⟩
      show (tCB (rListS K) (tCons (tVar j) tNil)) _ H4 _
      rw [List.getElem?_map, List.getElem?_eq_getElem hi] at h3
      cases h3
      refine (ed_var (hj u) h4) H4 (((gr.sub.trans e).trans e3).trans e4) _ fun v H5 Hm g5 hd5 => ?_
      cases hd5 with
      | @tup b xs ds hs hall =>
        have ex := dpa_ints_inv hall
        subst ex
        refine ⟨b, _, rfl, Or.inr (ex_t g5.sub hs), fun l hl => ?_⟩
        have L5 : LL H5 Dl ps (rs.take i) := L.ext ((e3.trans e4).trans g5.ex)
        have e15 : Ex H1 H5 := (e.trans (e3.trans e4)).trans g5.ex
        have nl : l ≠ Dl := (ne_of_none L5.top hl).symm
        have nps : l ∉ ps := by
          intro hm
          obtain ⟨k, hk, ek⟩ := List.getElem_of_mem hm
          have := L5.row k l ((rs.take i)[k]'(by rw [← L5.len]; exact hk)) (List.getElem?_eq_some_iff.mpr ⟨hk, ek⟩) (List.getElem?_eq_getElem _)
          rw [hl] at this
          cases this
        have lps : ps.length = i := by
          have := L5.len
          rw [List.length_take] at this
          omega
        have L6 := L5.oth (o := .lst ((rs[i]).map .int)) nl nps
        refine ⟨ps.map .ref, L6.top, sz_lt (by rw [List.length_map]; omega), hi, ps ++ [l], ?_, ?_, ?_⟩
        · exact Ex.mut (e15.trans (Ex.new hl)) hD
        · intro p hp
          rcases List.mem_append.mp hp with hp | hp
          · exact hf p hp
          · rcases List.mem_cons.mp hp with rfl | hp
            · exact fresh_back e15 hl
            · cases hp
        · have et : rs.take (i + 1) = rs.take i ++ [rs[i]] := by rw [List.take_append_getElem]
          have ei : (rs.take i).length = i := by rw [List.length_take]; omega
          refine ⟨?_, ?_, ?_, ?_, ?_⟩
          · rw [upd_same, List.map_append]
            rfl
          · rw [et, List.length_append, List.length_append, lps, ei]
            rfl
          · rw [List.nodup_append]
            refine ⟨L6.nd, by simp, fun x hx y hy e => ?_⟩
            rcases List.mem_cons.mp hy with rfl | hy
            · subst e; exact nps hx
            · cases hy
          · intro hm
            rcases List.mem_append.mp hm with hm | hm
            · exact L6.out hm
            · rcases List.mem_cons.mp hm with e | hm
              · exact nl e.symm
              · cases hm
          · intro k p r h1 h2
            rw [et] at h2
            by_cases hk : k < i
            · rw [List.getElem?_append_left (by omega)] at h1 h2
              rw [upd_ne (show p ≠ Dl from fun e => L6.out (by rw [← e]; exact List.mem_of_getElem? h1))]
              exact L6.row k p r h1 h2
            · have hk2 : k = i := by
                have := (List.getElem?_eq_some_iff.mp h1).1
                rw [List.length_append, lps, List.length_singleton] at this
                omega
              subst hk2
              rw [List.getElem?_append_right (by omega), lps, Nat.sub_self] at h1
              rw [List.getElem?_append_right (by omega), ei, Nat.sub_self] at h2
              cases h1
              cases h2
              rw [upd_ne nl, upd_same]
    · obtain ⟨_, ps, e, hf, L⟩ := p
      rw [List.take_length] at L
      exact q Dl ps H' (gr.ex.trans e) (fresh_back gr.ex hD) (fun p hp => fresh_back gr.ex (hf p hp)) L
theorem go_slc (s : Ex Hd H) (L : LL H a ps rs) (np : ∀ p ∈ ps, Hd p = none) (h : EvN K te σ Hd (ns.map .int)) (ha : Ev ta σ H (.ref p)) (hp : ps[i]? = some p) (hr : rs[i]? = some r) (h1 : EvO tlo σ H (some lo)) (h2 : EvO thi σ H (some hi)) (b0 : 0 ≤ lo) (b1 : lo ≤ hi) (b2 : hi ≤ (r.length : Int)) (hz : r.length + ns.length ≤ 100000)
    (k : ∀ H', Ex Hd H' → LL H' a ps (rs.set i (r.take lo.toNat ++ ns ++ r.drop hi.toNat)) → Go tz D σ H') : Go (tSeq (tAsg te (gSlc ta tlo thi)) tz) D σ H := fun H1 e1 =>
  h H1 (s.trans e1) _ fun b xs H2 Hn g n1 n2 hb hx => by
    have ex := dpa_ints_inv hx
    subst ex
    have hpr := L.row i p r hp hr
    have pm := List.mem_of_getElem? hp
    refine ha H2 (e1.trans g.ex) _ fun H3 e3 => h1 H3 ((e1.trans g.ex).trans e3) _ fun H4 e4 => h2 H4 (((e1.trans g.ex).trans e3).trans e4) _ fun H5 e5 => ?_
    have E5 : Ex H H5 := (((e1.trans g.ex).trans e3).trans e4).trans e5
    refine ⟨p, b, r.map .int, ns.map .int, lo, hi, rfl, rfl, rfl, rfl, E5 _ _ hpr, ((e3.trans e4).trans e5) _ _ hb, ne_of_none (e1 _ _ hpr) n1, b0, b1, by rw [List.length_map]; exact b2, sz_of (by rw [List.length_map, List.length_map]; exact hz), ?_⟩
    have e : (r.map V.int).take lo.toNat ++ ns.map V.int ++ (r.map V.int).drop hi.toNat = (r.take lo.toNat ++ ns ++ r.drop hi.toNat).map V.int := by
      rw [List.map_append, List.map_append, List.map_take, List.map_drop]
    rw [e]
    exact k _ (Ex.mut (s.trans E5) (np p pm)) ((L.ext E5).put hp _) _ (Ex.refl _)
theorem go_setLL {v : Int} (s : Ex Hd H) (L : LL H a ps rs) (np : ∀ p ∈ ps, Hd p = none) (h : Ev te σ H (.int v)) (ha : Ev ta σ H (.ref p)) (hp : ps[i]? = some p) (hr : rs[i]? = some r) (hj : Ev tb σ H (.int (j : Int))) (hl : j < r.length)
    (k : ∀ H', Ex Hd H' → LL H' a ps (rs.set i (r.set j v)) → Go tz D σ H') : Go (tSeq (tAsg te (gSub ta tb rSetL)) tz) D σ H := by
  refine go_setL (j := j) (L.row i p r hp hr) h ha hj (by rw [List.length_map]; exact hl) ?_
  have e : (r.map V.int).set j (.int v) = (r.set j v).map V.int := by rw [List.map_set]
  rw [e]
  exact k _ (Ex.mut s (np p (List.mem_of_getElem? hp))) (L.put hp _)
end
end Cot

set_option Elab.async false
set_option linter.all false
set_option maxRecDepth 100000
set_option maxHeartbeats 4000000
/-! Sets of tuples of ints, of any number up to two hundred: the tables of 8, 32, 128 and 512 slots. -/
namespace Cot
open PySem PySem.Spec PyProof.Rows L2 Evl
/-- when the round of 512 slots comes to each of them -/
def turn512 : List Nat := [
  0, 1, 326, 495, 412, 365, 2, 379, 376, 281, 254, 327, 404, 261, 58, 339, 496, 305, 438, 415, 140, 413, 370, 43, 360, 73, 366, 247, 132, 309, 426, 3,
  480, 97, 38, 335, 380, 461, 226, 219, 344, 377, 478, 167, 372, 357, 282, 179, 464, 401, 150, 255, 108, 509, 82, 395, 328, 169, 78, 87, 100, 405, 138, 355,
  448, 193, 262, 175, 348, 45, 450, 59, 312, 473, 190, 7, 340, 453, 506, 19, 432, 497, 374, 95, 76, 93, 306, 235, 296, 265, 302, 439, 68, 501, 362, 195,
  416, 289, 486, 15, 316, 141, 162, 411, 280, 57, 414, 359, 308, 37, 218, 371, 400, 81, 86, 447, 44, 189, 18, 75, 264, 361, 14, 279, 36, 85, 74, 35,
  384, 385, 198, 367, 284, 237, 386, 251, 248, 153, 126, 199, 276, 133, 442, 211, 368, 177, 310, 287, 12, 285, 242, 427, 232, 457, 238, 119, 4, 181, 298, 387,
  352, 481, 422, 207, 252, 333, 98, 91, 216, 249, 350, 39, 244, 229, 154, 51, 336, 273, 22, 127, 492, 381, 466, 267, 200, 41, 462, 471, 484, 277, 10, 227,
  320, 65, 134, 47, 220, 429, 322, 443, 184, 345, 62, 391, 212, 325, 378, 403, 304, 369, 246, 479, 460, 477, 178, 107, 168, 137, 174, 311, 452, 373, 234, 67,
  288, 161, 358, 399, 188, 13, 34, 283, 152, 441, 286, 231, 180, 421, 90, 243, 272, 465, 470, 319, 428, 61, 402, 459, 136, 233, 398, 151, 420, 469, 458, 419,
  256, 257, 70, 239, 156, 109, 258, 123, 120, 25, 510, 71, 148, 5, 314, 83, 240, 49, 182, 159, 396, 157, 114, 299, 104, 329, 110, 503, 388, 53, 170, 259,
  224, 353, 294, 79, 124, 205, 482, 475, 88, 121, 222, 423, 116, 101, 26, 435, 208, 145, 406, 511, 364, 253, 338, 139, 72, 425, 334, 343, 356, 149, 394, 99,
  192, 449, 6, 431, 92, 301, 194, 315, 56, 217, 446, 263, 84, 197, 250, 275, 176, 241, 118, 351, 332, 349, 50, 491, 40, 9, 46, 183, 324, 245, 106, 451,
  160, 33, 230, 271, 60, 397, 418, 155, 24, 313, 158, 103, 52, 293, 474, 115, 144, 337, 342, 191, 300, 445, 274, 331, 8, 105, 270, 23, 292, 341, 330, 291,
  128, 129, 454, 111, 28, 493, 130, 507, 504, 409, 382, 455, 20, 389, 186, 467, 112, 433, 54, 31, 268, 29, 498, 171, 488, 201, 494, 375, 260, 437, 42, 131,
  96, 225, 166, 463, 508, 77, 354, 347, 472, 505, 94, 295, 500, 485, 410, 307, 80, 17, 278, 383, 236, 125, 210, 11, 456, 297, 206, 215, 228, 21, 266, 483,
  64, 321, 390, 303, 476, 173, 66, 187, 440, 89, 318, 135, 468, 69, 122, 147, 48, 113, 502, 223, 204, 221, 434, 363, 424, 393, 430, 55, 196, 117, 490, 323,
  32, 417, 102, 143, 444, 269, 290, 27, 408, 185, 30, 487, 436, 165, 346, 499, 16, 209, 214, 63, 172, 317, 146, 203, 392, 489, 142, 407, 164, 213, 202, 163]
theorem turn512_ok : ((List.range 512).all fun j => lcgN 511 (turn512.getD j 0) == j) = true := by decide +kernel
theorem turn512_lt : ((List.range 512).all fun j => decide (turn512.getD j 0 < 512)) = true := by decide +kernel
theorem round512 : lcgN 511 512 = 0 := by decide +kernel
theorem round512_on : ∀ k, lcgN 511 (512 + k) = lcgN 511 k
  | 0 => round512
  | k + 1 => congrArg (fun z => (z * 5 + 1) % 512) (round512_on k)
theorem all512 {i j : Nat} (hi : i < 512) (hj : j < 512) : ∃ k, k < 512 ∧ lcgI 511 i k = j := by
  have pick : ∀ x, x < 512 → ∃ b, b < 512 ∧ lcgN 511 b = x := fun x hx =>
    ⟨turn512.getD x 0, of_decide_eq_true (List.all_eq_true.mp turn512_lt x (List.mem_range.mpr hx)), beq_iff_eq.mp (List.all_eq_true.mp turn512_ok x (List.mem_range.mpr hx))⟩
  obtain ⟨p, hp, rfl⟩ := pick i hi
  obtain ⟨q, hq, rfl⟩ := pick j hj
  by_cases h : p ≤ q
  · exact ⟨q - p, by omega, by rw [lcgN_add, show p + (q - p) = q by omega]⟩
  · exact ⟨q + 512 - p, by omega, by rw [lcgN_add, show p + (q + 512 - p) = 512 + q by omega, round512_on]⟩
/-- a mask whose runs come to every slot -/
structure Cov (m : Nat) : Prop where
  run : ∀ (h : Int) (j : Nat), j ≤ m → ∃ n, n < SetTable.turns m ∧ runI m (SetTable.bits h) n = j
  odd : m % 2 = 1
  low : m ≤ 511
theorem cov_old {m : Nat} (hm : MaskOk m) : Cov m := by
  refine ⟨fun h j hj => ?_, mask_odd hm, ?_⟩
  · obtain ⟨n, hn, e⟩ := run_meets hm h hj
    exact ⟨n, by unfold SetTable.turns; omega, e⟩
  · rcases hm with e | e | e <;> omega
theorem cov_511 : Cov 511 := by
  refine ⟨fun h j hj => ?_, rfl, Nat.le_refl _⟩
  have h12 := runI_le 511 (SetTable.bits h) 12
  obtain ⟨k, hk, e⟩ := all512 (show runI 511 (SetTable.bits h) 12 < 512 by omega) (show j < 512 by omega)
  exact ⟨12 + k, by unfold SetTable.turns; omega, by rw [runI_tail (bits_lt h)]; exact e⟩
theorem Cov.way {m : Nat} (c : Cov m) (h : Int) {j : Nat} (hj : j ≤ m) : ∃ k, k < 10 * SetTable.turns m ∧ L2.way m h k = j := by
  obtain ⟨n, hn, e⟩ := c.run h j hj
  obtain ⟨k, hk, e2⟩ := run_nth m (SetTable.bits h) n
  refine ⟨k, by omega, ?_⟩
  unfold L2.way
  rw [e2]
  exact e
theorem way_in (m : Nat) (h : Int) (k : Nat) : L2.way m h k ≤ m := by
  have h0 : SetTable.bits h % (m + 1) < m + 1 := Nat.mod_lt _ (Nat.succ_pos m)
  have h1 := runEnd_bd (m := m) (i := SetTable.bits h % (m + 1)) (by omega)
  have h2 : (nth m (runAt m (SetTable.bits h % (m + 1)) (SetTable.bits h)) k).j + (nth m (runAt m (SetTable.bits h % (m + 1)) (SetTable.bits h)) k).more ≤ m := nth_in k _ (by unfold runAt; dsimp only; omega)
  unfold L2.way
  omega
/-- a table in which each hash is found again -/
structure Tb (t : SetTable) (hs : List Int) : Prop where
  cov : Cov t.mask
  up : Ris t.place.toList
  dum : t.dummies = #[]
  len : t.place.size = hs.length
  low : ∀ x ∈ t.place.toList, x ≤ t.mask
  met : ∀ (i : Nat) (h : Int) (j : Nat), hs[i]? = some h → t.place.toList[i]? = some j → ∃ k, L2.way t.mask h k = j ∧ ∀ n, n < k → L2.way t.mask h n ∈ t.place.toList
variable {t : SetTable} {hs : List Int}
/-- the first free slot for a hash -/
def Free (t : SetTable) (h : Int) (n : Nat) : Prop := L2.way t.mask h n ∉ t.place.toList ∧ ∀ k, k < n → L2.way t.mask h k ∈ t.place.toList
theorem Tb.free (T : Tb t hs) (hl : hs.length ≤ t.mask) (h : Int) : ∃ n, n < 10 * SetTable.turns t.mask ∧ Free t h n := by
  obtain ⟨j, hj, hno⟩ := st_missing t.place.toList (t.mask + 1) (by rw [Array.length_toList, T.len]; omega)
  obtain ⟨k, hk, e⟩ := T.cov.way h (j := j) (by omega)
  obtain ⟨n, n1, n2, n3⟩ := st_least (p := fun k => L2.way t.mask h k ∉ t.place.toList) k (by rw [e]; exact hno)
  exact ⟨n, by omega, n2, fun k' hk' => Classical.byContradiction fun z => n3 k' hk' z⟩
theorem Tb.ahead (T : Tb t hs) {h : Int} {n i j : Nat} (f : Free t h n) (hi : hs[i]? = some h) (hj : t.place.toList[i]? = some j) : ∃ k, k < n ∧ L2.way t.mask h k = j := by
  obtain ⟨k, e, z⟩ := T.met i h j hi hj
  refine ⟨k, Classical.byContradiction fun hge => ?_, e⟩
  by_cases hk : k = n
  · exact f.1 (by rw [← hk, e]; exact List.mem_of_getElem? hj)
  · exact f.1 (z n (by omega))
/-- one more is put in at the first free slot -/
theorem Tb.more (T : Tb t hs) {h : Int} {n : Nat} (f : Free t h n) :
    ∃ p, t.put (L2.way t.mask h n) = ((t.put (L2.way t.mask h n)).1, p) ∧ p ≤ hs.length ∧ Tb (t.put (L2.way t.mask h n)).1 (hs.take p ++ h :: hs.drop p) ∧ (t.put (L2.way t.mask h n)).1.mask = t.mask ∧
      (t.put (L2.way t.mask h n)).1.led = t.led ∧ (t.put (L2.way t.mask h n)).1.plain = t.plain ∧ (t.put (L2.way t.mask h n)).1.fill = hs.length + 1 := by
  have hle := way_in t.mask h n
  generalize ej : L2.way t.mask h n = j at f hle
  obtain ⟨f1, f2⟩ := f
  rw [ej] at f1
  have cut := (below_cut T.up j).1
  have lp : t.place.toList.length = hs.length := by rw [Array.length_toList]; exact T.len
  have c1 : SetTable.below t.place j ≤ t.place.toList.length := by rw [Array.length_toList]; exact cut
  have c2 : SetTable.below t.place j ≤ hs.length := by omega
  have pl := put_place t j
  have sz : (t.put j).1.place.size = hs.length + 1 := by rw [← Array.length_toList, pl, len_ins _ c1, lp]
  have keep : ∀ x, x ∈ t.place.toList → x ∈ (t.put j).1.place.toList := fun x hx => by rw [pl]; exact mem_ins.mpr (.inr hx)
  refine ⟨SetTable.below t.place j, rfl, c2, ⟨T.cov, ?_, put_dm T.dum j, ?_, ?_, ?_⟩, rfl, rfl, rfl, ?_⟩
  · exact ris_insert T.up fun e => f1 (List.mem_of_getElem? (i := SetTable.below t.place j) (by rw [Array.getElem?_toList]; exact e))
  · rw [sz, len_ins _ c2]
  · intro x hx
    rw [pl, mem_ins] at hx
    exact hx.elim (fun e => by rw [e]; exact hle) (T.low x)
  · intro i h' j' e1 e2
    rw [pl, tins_get _ c1] at e2
    rw [tins_get hs c2] at e1
    have old : ∀ i', hs[i']? = some h' → t.place.toList[i']? = some j' → ∃ k, L2.way t.mask h' k = j' ∧ ∀ n, n < k → L2.way t.mask h' n ∈ (t.put j).1.place.toList := fun i' a b => by
      obtain ⟨k, z1, z2⟩ := T.met i' h' j' a b
      exact ⟨k, z1, fun n hn => keep _ (z2 n hn)⟩
    rcases Nat.lt_trichotomy i (SetTable.below t.place j) with c | c | c
    · rw [if_pos c] at e1 e2
      exact old i e1 e2
    · rw [if_neg (by omega), if_pos c] at e1 e2
      cases e1
      cases e2
      exact ⟨n, ej, fun k hk => keep _ (f2 k hk)⟩
    · rw [if_neg (by omega), if_neg (by omega)] at e1 e2
      exact old (i - 1) e1 e2
  · unfold SetTable.fill
    rw [sz, put_dm T.dum j]
    rfl
/-! ### all laid anew -/
theorem lay_free {m : Nat} (c : Cov m) (own : Array (Option Nat)) (h : Int) {j : Nat} (hj : j ≤ m) (hf : oAt own j = none) :
    ∃ n, SetTable.layClean.free m own (SetTable.turns m) (SetTable.bits h % (m + 1)) (SetTable.bits h) = some (L2.way m h n) ∧ oAt own (L2.way m h n) = none ∧ ∀ k, k < n → oAt own (L2.way m h k) ≠ none := by
  obtain ⟨r, hr, e⟩ := c.run h j hj
  have at_j : L2.way m h (off m (SetTable.bits h % (m + 1)) (SetTable.bits h) r) = j := by
    unfold L2.way
    rw [nth_off, itL_run]
    exact e
  obtain ⟨n, n1, n2, n3⟩ := st_least (p := fun k => oAt own (L2.way m h k) = none) _ (show oAt own (L2.way m h (off m (SetTable.bits h % (m + 1)) (SetTable.bits h) r)) = none by rw [at_j]; exact hf)
  refine ⟨n, free_spec m own _ r _ _ n hr n1 (fun k hk => ?_) ?_, n2, n3⟩
  · have z := n3 k hk
    unfold L2.way at z
    cases e2 : oAt own (nth m (runAt m (SetTable.bits h % (m + 1)) (SetTable.bits h)) k).j with
    | none => exact absurd e2 z
    | some _ => rfl
  · unfold L2.way at n2
    rw [n2]
    rfl
theorem lay_step {m : Nat} (c : Cov m) {done : List Int} {own : Array (Option Nat)} (W : Own m done own) (hl : done.length ≤ m) (h : Int) :
    ∃ j, SetTable.layClean.free m own (SetTable.turns m) (SetTable.bits h % (m + 1)) (SetTable.bits h) = some j ∧ Own m (done ++ [h]) (own.setIfInBounds j (some done.length)) := by
  obtain ⟨ps, lps, inps⟩ := W.ps
  obtain ⟨z, hz, nz⟩ := st_missing ps (m + 1) (by omega)
  have fz : oAt own z = none := Classical.byContradiction fun e => nz (inps z (by omega) e)
  obtain ⟨n, n1, n2, n3⟩ := lay_free c own h (j := z) (by omega) fz
  have jm := way_in m h n
  generalize ej : L2.way m h n = j at n1 n2 jm
  have here : oAt (own.setIfInBounds j (some done.length)) j = some done.length := oAt_set_self _ (by rw [W.sz]; omega)
  have away : ∀ i, i ≠ j → oAt (own.setIfInBounds j (some done.length)) i = oAt own i := fun i hi => oAt_set_ne _ hi
  have full : ∀ i, oAt own i ≠ none → oAt (own.setIfInBounds j (some done.length)) i ≠ none := fun i hi => by
    by_cases e : i = j
    · rw [e, here]; exact fun z => nomatch z
    · rw [away i e]; exact hi
  refine ⟨j, n1, ⟨by rw [Array.size_setIfInBounds]; exact W.sz, ?_, ?_, j :: ps, by rw [List.length_cons, lps, List.length_append]; rfl, ?_⟩⟩
  · intro i k hi e
    by_cases ei : i = j
    · rw [ei, here] at e
      cases e
      exact ⟨h, n, by rw [List.getElem?_append_right (Nat.le_refl _), Nat.sub_self]; rfl, by rw [ei]; exact ej, fun k hk => full _ (n3 k hk)⟩
    · rw [away i ei] at e
      obtain ⟨h', n', a1, a2, a3⟩ := W.at_ i k hi e
      exact ⟨h', n', by rw [List.getElem?_append_left (List.getElem?_eq_some_iff.mp a1).1]; exact a1, a2, fun k hk => full _ (a3 k hk)⟩
  · intro k hk
    rw [List.length_append, List.length_cons, List.length_nil] at hk
    by_cases ek : k = done.length
    · exact ⟨j, jm, by rw [ek]; exact here⟩
    · obtain ⟨i, hi, e⟩ := W.all k (by omega)
      exact ⟨i, hi, by rw [away i (fun z => by rw [z, n2] at e; cases e)]; exact e⟩
  · intro i hi e
    by_cases ei : i = j
    · rw [ei]; exact List.mem_cons_self
    · rw [away i ei] at e
      exact List.mem_cons_of_mem _ (inps i hi e)
theorem lay_fold {m : Nat} (c : Cov m) : ∀ (todo done : List Int) (own : Array (Option Nat)), Own m done own → done.length + todo.length ≤ m → ∃ own', todo.foldl (stepF m) (some (own, done.length)) = some (own', done.length + todo.length) ∧ Own m (done ++ todo) own'
  | [], done, own, W, _ => ⟨own, rfl, by rw [List.append_nil]; exact W⟩
  | h :: todo, done, own, W, hl => by
    rw [List.length_cons] at hl
    obtain ⟨j, e, W1⟩ := lay_step c W (by omega) h
    have l1 : (done ++ [h]).length = done.length + 1 := by rw [List.length_append]; rfl
    obtain ⟨own', e2, W2⟩ := lay_fold c todo (done ++ [h]) _ W1 (by omega)
    refine ⟨own', ?_, by rw [← List.singleton_append, ← List.append_assoc]; exact W2⟩
    rw [List.foldl_cons, stepF_some e, ← l1, e2, List.length_cons, l1]
    congr 2
    omega
theorem lay_all {m : Nat} (c : Cov m) {hs : Array Int} (hn : hs.size ≤ m) : ∃ own, SetTable.layClean m hs = some own ∧ Own m hs.toList own := by
  obtain ⟨own, e, W⟩ := lay_fold c hs.toList [] _ (Own.init m) (by rw [List.length_nil, Array.length_toList]; omega)
  refine ⟨own, ?_, W⟩
  rw [layClean_eq]
  have e' : hs.toList.foldl (stepF m) (some (Array.replicate (m + 1) none, 0)) = _ := e
  rw [e']
  rfl
end Cot

set_option Elab.async false
set_option linter.all false
set_option maxRecDepth 100000
set_option maxHeartbeats 4000000
/-! Sets of tuples of ints: laid anew, searched, added to. -/
namespace Cot
open PySem PySem.Spec PyProof.Rows L2 Evl
theorem relaid_tb (t : SetTable) {hs : Array Int} {wanted M : Nat} (hw : SetTable.sizeAbove wanted - 1 = M) (c : Cov M) (hn : hs.size ≤ M) :
    ∃ t' order, t.relaid hs wanted = some (t', order) ∧ order.toList.Perm (List.range hs.size) ∧ Tb t' (order.toList.map fun i => hs.getD i 0) ∧ t'.mask = M ∧ t'.led = t.led ∧ t'.plain = t.plain := by
  obtain ⟨own, e, W⟩ := lay_all c hn
  have is : ∀ j k, (j, k) ∈ liveOf M own ↔ j ≤ M ∧ oAt own j = some k := fun j k => mem_live W.sz
  have hr : t.relaid hs wanted = some (tabOf t M own, ((liveOf M own).map (·.2)).toArray) := by
    rw [relaid_eq, hw, e]
    rfl
  obtain ⟨rise, within⟩ := ris_live (fun j => own.getD j none) (List.range (M + 1)) (by unfold Ris; exact List.pairwise_lt_range)
  have rise' : Ris ((liveOf M own).map (·.1)) := rise
  have every : ∀ k, k < hs.size → k ∈ (liveOf M own).map (·.2) := fun k hk => by
    obtain ⟨j, j1, j2⟩ := W.all k (by rw [Array.length_toList]; exact hk)
    exact List.mem_map.mpr ⟨(j, k), (is j k).mpr ⟨j1, j2⟩, rfl⟩
  have many : (liveOf M own).length = hs.size := by
    obtain ⟨ps, p1, p2⟩ := W.ps
    have ndl : ((liveOf M own).map (·.1)).Nodup := List.Pairwise.imp (fun h => Nat.ne_of_lt h) rise'
    have le1 := nat_nodup_len ((liveOf M own).map (·.1)) ps ndl (by
      intro x hx
      obtain ⟨⟨y, k⟩, h1, rfl⟩ := List.mem_map.mp hx
      obtain ⟨b1, b2⟩ := (is y k).mp h1
      exact p2 y b1 (by rw [b2]; exact fun z => nomatch z))
    have le2 := nat_nodup_len (List.range hs.size) ((liveOf M own).map (·.2)) List.nodup_range fun k hk => every k (List.mem_range.mp hk)
    rw [List.length_map, p1] at le1
    have lz : hs.toList.length = hs.size := Array.length_toList
    rw [List.length_map, List.length_range] at le2
    omega
  refine ⟨_, _, hr, perm_range hs.size _ (by rw [List.length_map]; exact many) every, ⟨c, rise', rfl, ?_, ?_, ?_⟩, rfl, rfl, rfl⟩
  · show ((liveOf M own).map (·.1)).toArray.size = _
    rw [List.size_toArray, List.length_map, List.length_map]
    exact (List.length_map ..).symm
  · intro x hx
    have hx' : x ∈ (liveOf M own).map (·.1) := hx
    have := List.mem_range.mp (within x hx')
    show x ≤ M
    omega
  · intro i h j h1 h2
    replace h1 : (((liveOf M own).map (·.2)).map fun i => hs.getD i 0)[i]? = some h := h1
    replace h2 : ((liveOf M own).map (·.1))[i]? = some j := h2
    show ∃ k, L2.way M h k = j ∧ ∀ n, n < k → L2.way M h n ∈ (liveOf M own).map (·.1)
    rw [List.getElem?_map] at h1 h2
    rw [List.getElem?_map] at h1
    obtain ⟨⟨y, k⟩, hq, rfl⟩ := Option.map_eq_some_iff.mp h2
    rw [hq] at h1
    obtain ⟨b1, b2⟩ := (is y k).mp (List.mem_of_getElem? hq)
    obtain ⟨h0, n, a1, a2, a3⟩ := W.at_ y k b1 b2
    have e0 : h0 = h := by
      have e1 : hs.getD k 0 = h := Option.some.inj h1
      rw [← e1, Array.getD_eq_getD_getElem?, ← Array.getElem?_toList, a1]
      rfl
    subst e0
    refine ⟨n, a2, fun n' hn' => ?_⟩
    obtain ⟨k2, hk2⟩ := Option.ne_none_iff_exists'.mp (a3 n' hn')
    exact List.mem_map.mpr ⟨(_, k2), (is _ k2).mpr ⟨way_in M h0 n', hk2⟩, rfl⟩
/-- a set of tuples of ints, as its object tells it -/
structure Sets (P : Program) (w : World) (h : Heap) (a : Addr) (L : List (Addr × List Int)) (es : Array (Int × Value)) (ep : Nat) (t : SetTable) : Prop where
  ob : ∃ o, h.get? a = some o ∧ o.ExactSet ∧ o.data = .set es ep t
  row : es.toList = rowsOf P w L
  tb : Tb t (L.map fun p => thash P w p.2)
  nd : (L.map (·.2)).Nodup
  tp : ∀ p ∈ L, IsT P w h p.2 p.1
  pl : t.plain = true
  ld : w.params.followText "set-order" = true ∨ t.led = true
  rm : L.length * 5 < t.mask * 3
  msk : t.mask = 7 ∨ t.mask = 31 ∨ t.mask = 127 ∨ t.mask = 511
section
variable {P : Program} {w : World} {A : Around} {E : Value → Shared → Prop} {s : Shared} {a : Addr} {L : List (Addr × List Int)} {es : Array (Int × Value)} {ep : Nat} {t : SetTable}
theorem rows_size {L : List (Addr × List Int)} {es : Array (Int × Value)} (h : es.toList = rowsOf P w L) : es.size = L.length := by
  rw [← Array.length_toList, h]
  unfold rowsOf
  rw [List.length_map]
theorem fits_tb {hs : List Int} (T : Tb t hs) {n : Nat} (hn : n = hs.length) (hl : n ≤ t.mask) : t.fits n = true := by
  unfold SetTable.fits SetTable.fill
  rw [T.dum, Bool.and_eq_true, beq_iff_eq, decide_eq_true_eq, T.len]
  exact ⟨hn.symm, by show hs.length + 0 ≤ t.mask; omega⟩
theorem Sets.le (S : Sets P w s.heap a L es ep t) : L.length ≤ t.mask := by
  have := S.rm
  omega
theorem Sets.fits (S : Sets P w s.heap a L es ep t) : t.fits es.size = true :=
  fits_tb S.tb (by rw [List.length_map, rows_size S.row]) (by rw [rows_size S.row]; exact S.le)
theorem Sets.ent (S : Sets P w s.heap a L es ep t) {i : Nat} {p : Addr × List Int} (h : L[i]? = some p) : es[i]? = some (thash P w p.2, Value.ref p.1) := by
  rw [← Array.getElem?_toList, S.row]
  unfold rowsOf
  rw [List.getElem?_map, h]
  rfl
theorem nth_dummy (m : Nat) : ∀ (n : Nat) (p : SetTable.Probe), p.dummy = none → (nth m p n).dummy = none
  | 0, _, h => h
  | n + 1, p, h => nth_dummy m n (adv m p) (by unfold adv; split <;> exact h)
/-- the search, from its c-th step on -/
theorem seek_from (S : Sets P w s.heap a L es ep t) {x : Addr} {k : List Int} {ad : Bool} (hx : IsT P w s.heap k x) (hu : A.units < cLine) {n : Nat} (hn : n < 10 * SetTable.turns t.mask) (fr : Free t (thash P w k) n) {Q : SetFound → Shared → Prop}
    (yes : k ∈ L.map (·.2) → ∀ o, (ad = false → o.isSome = true) → Q (.there o) s) (no : k ∉ L.map (·.2) → Q (.free (L2.way t.mask (thash P w k) n) false) s) :
    ∀ (fuel c : Nat) (from_ : Option SetTable.Probe), from_.getD (t.probeStart (thash P w k)) = nth t.mask (runAt t.mask (SetTable.bits (thash P w k) % (t.mask + 1)) (SetTable.bits (thash P w k))) c → c ≤ n → n < c + fuel →
      (∀ (i : Nat) p, L[i]? = some p → p.2 = k → ∃ c', c ≤ c' ∧ c' < n ∧ t.place.toList[i]? = some (L2.way t.mask (thash P w k) c')) →
      wpAny (model P w) A (setSearchFrom a (.ref x) (thash P w k) ad fuel from_) Q E s := by
  obtain ⟨o, ho, hex, hd⟩ := S.ob
  generalize hH : thash P w k = hk at fr no
  intro fuel
  induction fuel with
  | zero => intro c from_ _ h1 h2; omega
  | succ fuel ih =>
    intro c from_ hf hc hcn still
    generalize hst : nth t.mask (runAt t.mask (SetTable.bits hk % (t.mask + 1)) (SetTable.bits hk)) c = stp at hf
    have shift : ∀ q, (nth t.mask stp q) = nth t.mask (runAt t.mask (SetTable.bits hk % (t.mask + 1)) (SetTable.bits hk)) (c + q) := fun q => by rw [← hst, ← nth_add]
    have shiftJ : ∀ q, (nth t.mask stp q).j = L2.way t.mask hk (c + q) := fun q => by unfold L2.way; rw [shift]
    have hashes : ∀ (i : Nat) p, L[i]? = some p → ((es[i]?.map (·.1)).getD 0) = thash P w p.2 := fun i p hp => by rw [S.ent hp]; rfl
    rw [setSearchFrom_succ]
    refine wpAny_bind (wpAny_setState_of ho hd S.fits ?_)
    dsimp only
    refine wp_if_neg (by unfold SetTable.gaveWay; rw [S.tb.cov.odd]; decide) ?_
    try refine wpAny_bind (wpAny_pure ?_)
    rcases go_spec t S.tb.up S.tb.dum (fun i => (es[i]?.map (·.1)).getD 0) hk (10 * SetTable.turns t.mask) (n - c) stp (by rw [← hst]; exact nth_dummy _ _ _ rfl) (by omega)
      (fun q hq => by rw [shiftJ]; exact fr.2 (c + q) (by omega)) (by rw [shiftJ, show c + (n - c) = n by omega]; exact fr.1) with ⟨q, i, hq, hi, hh, hno, met⟩ | ⟨hno, met⟩
    · have met' : t.probe (fun i => (es[i]?.map (·.1)).getD 0) hk (from_.getD (t.probeStart hk)) = some (.candidate (L2.way t.mask hk (c + q)) i (nth t.mask (runAt t.mask (SetTable.bits hk % (t.mask + 1)) (SetTable.bits hk)) (c + q + 1))) := by
        rw [hf, ← shiftJ, Nat.add_assoc, ← shift]
        exact met
      rw [met']
      dsimp only
      rw [shiftJ] at hi
      have il : i < L.length := by
        have := (List.getElem?_eq_some_iff.mp hi).1
        rw [Array.length_toList, S.tb.len, List.length_map] at this
        exact this
      obtain ⟨p, hp⟩ : ∃ p, L[i]? = some p := ⟨_, List.getElem?_eq_getElem il⟩
      have pm : p ∈ L := List.mem_of_getElem? hp
      have live : t.slot (L2.way t.mask hk (c + q)) = .live i := slot_live S.tb.up hi
      have rest : wpAny (model P w) A (searchRest a (.ref x) hk ad fuel es t (L2.way t.mask hk (c + q)) i (nth t.mask (runAt t.mask (SetTable.bits hk % (t.mask + 1)) (SetTable.bits hk)) (c + q + 1))) Q E s := by
        unfold searchRest
        rw [S.ent hp]
        dsimp only
        refine wpAny_bind (wpAny_holding (wpAny_eqBool_tuple hu (S.tp p pm) hx ?_))
        refine wpAny_bind (wpAny_setState_of ho hd S.fits ?_)
        dsimp only
        by_cases same : p.2 = k
        · have there : k ∈ L.map (·.2) := List.mem_map.mpr ⟨p, pm, same⟩
          cases ad with
          | true =>
            refine wp_if_pos (by simp [same]) ?_
            exact wpAny_pure (yes there _ (fun z => nomatch z))
          | false =>
            refine wp_if_neg (by simp) ?_
            try refine wpAny_bind (wpAny_pure ?_)
            rw [sameMem]
            dsimp only
            simp only [if_true, live, S.ent hp]
            refine wpAny_bind (wpAny_isSame_ref_self (wpAny_bind (wpAny_pure ?_)))
            simp only [if_true]
            refine wp_if_pos (by simp [same]) ?_
            exact wpAny_pure (yes there _ (fun _ => rfl))
        · refine wp_if_neg (by simp [same]) ?_
          try refine wpAny_bind (wpAny_pure ?_)
          rw [sameMem]
          dsimp only
          simp only [if_true, live, S.ent hp]
          refine wpAny_bind (wpAny_isSame_ref_self (wpAny_bind (wpAny_pure ?_)))
          simp only [if_true]
          refine wp_if_neg (by simp [same]) ?_
          refine ih (c + q + 1) _ rfl (by omega) (by omega) fun i0 p0 h0 k0 => ?_
          obtain ⟨c', a1, a2, a3⟩ := still i0 p0 h0 k0
          refine ⟨c', ?_, a2, a3⟩
          rcases Nat.lt_trichotomy c' (c + q) with z | z | z
          · exact absurd ((hashes i0 p0 h0).trans (by rw [k0]; exact hH)) (hno (c' - c) i0 (by omega) (by rw [shiftJ, show c + (c' - c) = c' by omega]; exact a3))
          · exfalso
            rw [z] at a3
            have s0 := slot_live S.tb.up a3
            rw [live] at s0
            cases s0
            rw [hp] at h0
            cases h0
            exact same k0
          · exact z
      by_cases hl : t.led = true
      · refine wp_if_neg (by simp [hl]) ?_
        try refine wpAny_bind (wpAny_pure ?_)
        exact rest
      · refine wp_if_pos (by simp [hl]) (wpAny_bind (seen_tup hx (fun y hy => ?_) (wp_if_neg (by decide) ?_)))
        · obtain ⟨en, he, rfl⟩ := List.mem_map.mp hy
          have he' : en ∈ es.toList := by
            have : en ∈ es ∧ en.1 = hk := by simpa using he
            simpa using this.1
          rw [S.row] at he'
          obtain ⟨p2, m2, rfl⟩ := List.mem_map.mp he'
          exact ⟨p2.2, p2.1, rfl, S.tp p2 m2⟩
        · try refine wpAny_bind (wpAny_pure ?_)
          exact rest
    · have met' : t.probe (fun i => (es[i]?.map (·.1)).getD 0) hk (from_.getD (t.probeStart hk)) = some (.empty (L2.way t.mask hk n) none) := by
        have e : L2.way t.mask hk n = (nth t.mask stp (n - c)).j := by rw [shiftJ, show c + (n - c) = n by omega]
        rw [hf, e]
        exact met
      rw [met']
      dsimp only
      refine wpAny_pure (no fun hm => ?_)
      obtain ⟨p0, m0, k0⟩ := List.mem_map.mp hm
      obtain ⟨i0, h0⟩ := List.mem_iff_getElem?.mp m0
      obtain ⟨c', a1, a2, a3⟩ := still i0 p0 h0 k0
      exact hno (c' - c) i0 (by omega) (by rw [shiftJ, show c + (c' - c) = c' by omega]; exact a3) ((hashes i0 p0 h0).trans (by rw [k0]; exact hH))
theorem seek (S : Sets P w s.heap a L es ep t) {x : Addr} {k : List Int} {ad : Bool} (hx : IsT P w s.heap k x) (hu : A.units < cLine) {Q : SetFound → Shared → Prop}
    (yes : k ∈ L.map (·.2) → ∀ o, (ad = false → o.isSome = true) → Q (.there o) s) (no : ∀ n, k ∉ L.map (·.2) → Free t (thash P w k) n → Q (.free (L2.way t.mask (thash P w k) n) false) s) :
    wpAny (model P w) A (setSearch a (.ref x) (thash P w k) ad) Q E s := by
  obtain ⟨n, hn, fr⟩ := S.tb.free (by rw [List.length_map]; exact S.le) (thash P w k)
  have low := S.tb.cov.low
  have n6 : n < 100000 := by
    unfold SetTable.turns at hn
    omega
  unfold setSearch
  refine seek_from S hx hu hn fr yes (fun z => no n z fr) 100000 0 none rfl (Nat.zero_le _) (by omega) fun i p hp hk => ?_
  have hi : (L.map fun p => thash P w p.2)[i]? = some (thash P w k) := by rw [List.getElem?_map, hp, ← hk]; rfl
  have il : i < t.place.toList.length := by
    have := (List.getElem?_eq_some_iff.mp hp).1
    rw [Array.length_toList, S.tb.len, List.length_map]
    exact this
  obtain ⟨c, c1, c2⟩ := S.tb.ahead fr hi (List.getElem?_eq_getElem il)
  exact ⟨c, Nat.zero_le _, c1, by rw [c2]; exact List.getElem?_eq_getElem il⟩
end
end Cot

set_option Elab.async false
set_option linter.all false
set_option maxRecDepth 100000
set_option maxHeartbeats 4000000
/-! Sets of tuples of ints: set(list), x in set. -/
namespace Cot
open PySem PySem.Spec PyProof.Rows L2 Evl
section
variable {P : Program} {w : World} {A : Around} {E : Value → Shared → Prop} {s : Shared} {a : Addr} {L : List (Addr × List Int)} {es : Array (Int × Value)} {ep : Nat} {t : SetTable}
theorem sizes : SetTable.sizeAbove (SetTable.grown 5) = 32 ∧ SetTable.sizeAbove (SetTable.grown 19) = 128 ∧ SetTable.sizeAbove (SetTable.grown 77) = 512 := by decide +kernel
/-- laid anew, larger: the table is good, its room not yet asked -/
theorem relay_one {o : Obj} {M wanted : Nat} (ho : s.heap.get? a = some o) (hex : o.ExactSet) (hd : o.data = .set es ep t) (row : es.toList = rowsOf P w L) (T : Tb t (L.map fun p => thash P w p.2)) (lm : L.length ≤ t.mask)
    (nd : (L.map (·.2)).Nodup) (tp : ∀ p ∈ L, IsT P w s.heap p.2 p.1) (pl : t.plain = true) (ld : w.params.followText "set-order" = true ∨ t.led = true)
    (hw : SetTable.sizeAbove wanted = M + 1) (cM : Cov M) (mM : M = 7 ∨ M = 31 ∨ M = 127 ∨ M = 511) (rm : L.length * 5 < M * 3) {Q : Unit → Shared → Prop}
    (q : ∀ h' L' es' ep' t', Heap.SameBut a s.heap h' → Sets P w h' a L' es' ep' t' → L'.Perm L → Q () { s with heap := h' }) : wpAny (model P w) A (setRelay a wanted) Q E s := by
  have len := rows_size row
  have low := cM.low
  obtain ⟨t', order, e1, e2, T', e3, e4, e5⟩ := relaid_tb t (hs := es.map (·.1)) (M := M) (by rw [hw]; rfl) cM (by rw [Array.size_map, len]; omega)
  rw [Array.size_map, len] at e2
  obtain ⟨L', r1, r2, r3⟩ := order_rows L es order row e2
  rw [← r3] at T'
  have len' : (order.filterMap (es[·]?)).size = es.size := by rw [rows_size r1, r2.length_eq, len]
  rw [setRelay_eq]
  refine wpAny_bind (wpAny_setState_of ho hd (fits_tb T (by rw [List.length_map, len]) (by rw [len]; exact lm)) ?_)
  dsimp only
  refine wp_if_neg (by rw [hw, sizeLine_eq]; omega) ?_
  try refine wpAny_bind (wpAny_pure ?_)
  rw [e1]
  dsimp only
  refine wpAny_bind (wp_if_neg (by rw [len']; simp) ?_)
  try refine wpAny_bind (wpAny_pure ?_)
  refine wpAny_pure ?_
  dsimp only
  refine wpAny_storeSet_of ho hd ?_ (by rw [len', len, sizeLine_eq]; omega)
  have same : Heap.SameBut a s.heap (s.heap.update a (Obj.putSet (order.filterMap (es[·]?)) t')) := Heap.SameBut.update ..
  exact q _ L' _ (ep + 1) t' same ⟨⟨_, store_at ho hd, ⟨hex.1, hex.2.1, hex.2.2⟩, rfl⟩, r1, T', (r2.map (·.2)).nodup_iff.mpr nd, fun p hp => isT_same (tp p (r2.mem_iff.mp hp)) ho hd same, by rw [e5]; exact pl, by rw [e4]; exact ld,
    by rw [r2.length_eq, e3]; exact rm, by rw [e3]; exact mM⟩ r2
/-- one tuple is added -/
theorem add_one (S : Sets P w s.heap a L es ep t) {x : Addr} {k : List Int} (hx : IsT P w s.heap k x) (hu : A.units < cLine) (few : L.length < 200) {Q : Bool → Shared → Prop}
    (q : ∀ b h' L' es' ep' t', Heap.SameBut a s.heap h' → Sets P w h' a L' es' ep' t' → (k ∈ L.map (·.2) → L' = L) → (k ∉ L.map (·.2) → L'.Perm ((x, k) :: L)) → Q b { s with heap := h' }) :
    wpAny (model P w) A (setAddHashed a (.ref x) (thash P w k)) Q E s := by
  obtain ⟨o, ho, hex, hd⟩ := S.ob
  have len := rows_size S.row
  unfold setAddHashed
  refine wpAny_holding ?_
  rw [show (100000 : Nat) = 99999 + 1 from rfl, setAddHashedIn_succ]
  refine wpAny_bind (wpAny_setState_of ho hd S.fits ?_)
  dsimp only
  refine wp_if_neg (by simp [byScan, Value.scannable]) ?_
  try refine wpAny_bind (wpAny_pure ?_)
  refine wpAny_bind (seek S hx hu (fun there oi _ => ?_) fun n away fr => ?_)
  · dsimp only
    exact wpAny_pure (q false s.heap L es ep t (Heap.SameBut.refl a s.heap) S (fun _ => rfl) fun z => absurd there z)
  · dsimp only
    refine wpAny_bind (wpAny_setState_of ho hd S.fits ?_)
    dsimp only
    obtain ⟨p, m1, m2, T1, m4, m5, m6, m7⟩ := S.tb.more fr
    generalize t.put (L2.way t.mask (thash P w k) n) = pt at m1 T1 m4 m5 m6 m7 ⊢
    obtain ⟨t1, p'⟩ := pt
    dsimp only at m1 T1 m4 m5 m6 m7 ⊢
    have ep0 : p' = p := congrArg Prod.snd m1
    subst ep0
    have pl1 : t1.plain = true := by rw [m6]; exact S.pl
    first
      | (refine wpAny_bind ?_; refine wp_if_pos pl1 ?_; refine hashBy_tup hx ?_)
      | refine wp_if_pos pl1 (wpAny_bind (hashBy_tup hx ?_))
    simp only [if_true]
    have row1 : (SetTable.insertAt es p' (thash P w k, Value.ref x)).toList = rowsOf P w (L.take p' ++ (x, k) :: L.drop p') := by rw [SetTable.toList_insertAt, rows_put, S.row]
    have perm1 := put_perm L p' (x, k)
    have T2 : Tb t1 ((L.take p' ++ (x, k) :: L.drop p').map fun p => thash P w p.2) := by
      rw [List.map_append, List.map_cons, List.map_take, List.map_drop]
      exact T1
    have nd1 : ((L.take p' ++ (x, k) :: L.drop p').map (·.2)).Nodup := (perm1.map (·.2)).nodup_iff.mpr (by rw [List.map_cons]; exact List.nodup_cons.mpr ⟨away, S.nd⟩)
    have len1 := perm1.length_eq
    rw [List.length_cons] at len1
    generalize L.take p' ++ (x, k) :: L.drop p' = L1 at row1 perm1 T2 nd1 len1
    generalize SetTable.insertAt es p' (thash P w k, Value.ref x) = es1 at row1 ⊢
    have size1 := rows_size row1
    refine wpAny_bind (wpAny_storeSet_of ho hd ?_ (by rw [size1, len1, sizeLine_eq]; omega))
    have same1 : Heap.SameBut a s.heap (s.heap.update a (Obj.putSet es1 t1)) := Heap.SameBut.update ..
    have ho1 := store_at (es' := es1) (t' := t1) ho hd
    generalize s.heap.update a (Obj.putSet es1 t1) = h1 at same1 ho1 ⊢
    have tp1 : ∀ p ∈ L1, IsT P w h1 p.2 p.1 := fun p hp => (List.mem_cons.mp (perm1.mem_iff.mp hp)).elim (fun e => by rw [e]; exact isT_same hx ho hd same1) fun hp => isT_same (S.tp p hp) ho hd same1
    have ld1 : w.params.followText "set-order" = true ∨ t1.led = true := by rw [m5]; exact S.ld
    have rm0 := S.rm
    have full : t1.tooFull = decide ((L.length + 1) * 5 ≥ t.mask * 3) := by
      unfold SetTable.tooFull
      rw [m7, List.length_map, m4]
    by_cases hf : (L.length + 1) * 5 ≥ t.mask * 3
    · have hf' : t1.tooFull = true := by rw [full]; exact decide_eq_true hf
      first
        | (refine wpAny_bind ?_; refine wp_if_pos (by simp [hf']) ?_)
        | (refine wp_if_pos (by simp [hf']) ?_; refine wpAny_bind ?_)
      rw [len]
      have grow : ∀ M, SetTable.sizeAbove (SetTable.grown (L.length + 1)) = M + 1 → Cov M → (M = 7 ∨ M = 31 ∨ M = 127 ∨ M = 511) → (L.length + 1) * 5 < M * 3 →
          wpAny (model P w) A (setRelay a (SetTable.grown (L.length + 1))) (fun _ s' => wpAny (model P w) A (pure true) Q E s') E { s with heap := h1 } := fun M g1 g2 g3 g4 =>
        relay_one (s := { s with heap := h1 }) ho1 ⟨hex.1, hex.2.1, hex.2.2⟩ rfl row1 T2 (by rw [len1, m4]; have := S.le; rcases S.msk with e | e | e | e <;> omega) nd1 tp1 pl1 ld1 g1 g2 g3 (by rw [len1]; exact g4)
          fun h2 L2 es2 ep2 t2 same2 S2 perm2 => wpAny_pure (q true h2 L2 es2 ep2 t2 (same1.trans same2) S2 (fun z => absurd z away) fun _ => perm2.trans perm1)
      rcases S.msk with e | e | e | e
      · have l4 : L.length = 4 := by omega
        exact grow 31 (by rw [l4]; exact sizes.1) (cov_old (.inr (.inl rfl))) (.inr (.inl rfl)) (by omega)
      · have l18 : L.length = 18 := by omega
        exact grow 127 (by rw [l18]; exact sizes.2.1) (cov_old (.inr (.inr rfl))) (.inr (.inr (.inl rfl))) (by omega)
      · have l76 : L.length = 76 := by omega
        exact grow 511 (by rw [l76]; exact sizes.2.2) cov_511 (.inr (.inr (.inr rfl))) (by omega)
      · omega
    · have hf' : t1.tooFull = false := by rw [full]; exact decide_eq_false hf
      first
        | refine wp_if_neg (by simp [hf']) ?_
        | (refine wpAny_bind ?_; refine wp_if_neg (by simp [hf']) ?_; refine wpAny_pure ?_)
      exact wpAny_pure (q true h1 L1 es1 (ep + 1) t1 same1 ⟨⟨_, ho1, ⟨hex.1, hex.2.1, hex.2.2⟩, rfl⟩, row1, T2, nd1, tp1, pl1, ld1, by rw [len1, m4]; omega, by rw [m4]; exact S.msk⟩ (fun z => absurd z away) fun _ => perm1)
theorem Sets.keep {h h' : Heap} (S : Sets P w h a L es ep t) (ka : ∀ o, h.get? a = some o → h'.get? a = some o) (kt : ∀ p ∈ L, IsT P w h' p.2 p.1) : Sets P w h' a L es ep t := by
  obtain ⟨o, ho, r⟩ := S.ob
  exact ⟨⟨o, ka o ho, r⟩, S.row, S.tb, S.nd, kt, S.pl, S.ld, S.rm, S.msk⟩
theorem sets_new {h : Heap} (ho : h.get? a = some { cls := .type "set", dict := none, data := .set #[] 0 (.fresh 0 0 (!w.params.followText "set-order")) }) : Sets P w h a [] #[] 0 (.fresh 0 0 (!w.params.followText "set-order")) := by
  have R := setTR_fresh (P := P) ho
  exact ⟨R.ob, rfl, ⟨cov_old R.tab.mok, R.tab.ris, R.tab.dm, R.tab.sz, R.tab.bd, R.tab.reach⟩, R.nd, R.tup, R.plain, R.led, R.room, .inl rfl⟩
/-- x in s -/
theorem sets_in (S : Sets P w s.heap a L es ep t) {x : Addr} {k : List Int} (hx : IsT P w s.heap k x) (hu : A.units + 3 < cLine) {Q : Value → Shared → Prop} (q : ∀ tk, Q (.bool (decide (k ∈ L.map (·.2)))) { s with toks := tk }) :
    wpAny (model P w) A (compareOp .In (.ref x) (.ref a)) Q E s := by
  obtain ⟨o, ho, hex, hd⟩ := S.ob
  have ty : s.TypeIs (.ref a) "set" := ⟨o, ho, hex.1⟩
  show wpAny _ _ (do return .bool (← contains (.ref a) (.ref x))) Q E s
  refine wpAny_bind ?_
  unfold contains
  try with_reducible refine wpAny_holding ?_
  refine wpAny_bind (wpAny_specialOf ty F.slot_set_contains.lookup ?_)
  show wpAny _ _ (if (some (Value.builtin "set.__contains__") == some Value.none) = true then _ else _) _ E s
  rw [if_neg (by rw [beq_builtin_none]; exact Bool.false_ne_true)]
  refine wpAny_bind (wpAny_callSpecialUnlessNone?_slot (name := Str.ofString "__contains__") ty F.slot_set_contains (wpAny_call_entry F.slot_set_contains ty entry_set_contains ?_ (F.args_set_contains_2 _ _)))
  unfold Builtin.«frozenset.__contains__» Builtin.Frozenset.oneOther
  simp only [List.isEmpty_nil, bind_assoc]
  unfold Builtin.Frozenset.addrOf Builtin.Frozenset.withSetAsKey setContains
  refine wpAny_bind (wpAny_pure ?_)
  try dsimp only
  refine wpAny_bind (wpAny_pure ?_)
  try dsimp only
  refine wpAny_bind (wpAny_tryCatch (wpAny_holding (wpAny_bind (wpAny_pyHash_tuple (by show A.units + 1 < cLine; omega) hx ?_))))
  have S' : Sets P w ({ s with toks := s.toks + (k.length + 1) } : Shared).heap a L es ep t := S
  refine wpAny_bind ?_
  unfold setFind
  rw [show (100000 : Nat) = 99999 + 1 from rfl]
  unfold setFindIn
  refine wpAny_bind (wpAny_setState_of (s := { s with toks := s.toks + (k.length + 1) }) ho hd S.fits ?_)
  dsimp only
  refine wp_if_neg (by simp [byScan, Value.scannable]) ?_
  try refine wpAny_bind (wpAny_pure ?_)
  refine wpAny_bind (seek (ad := false) S' hx (by show A.units + 1 < cLine; omega) (fun there oi hoi => ?_) fun n away fr => ?_)
  · dsimp only
    refine wpAny_pure (wpAny_pure ?_)
    show wpAny _ _ (ret (Value.bool oi.isSome)) _ _ _
    rw [hoi rfl]
    have q1 := q (s.toks + (k.length + 1))
    rw [decide_eq_true there] at q1
    exact wpAny_pure ⟨_, rfl, wpAny_truthy_bool (wpAny_pure q1)⟩
  · dsimp only
    refine wpAny_pure (wpAny_pure ?_)
    show wpAny _ _ (ret (Value.bool false)) _ _ _
    have q1 := q (s.toks + (k.length + 1))
    rw [decide_eq_false away] at q1
    exact wpAny_pure ⟨_, rfl, wpAny_truthy_bool (wpAny_pure q1)⟩
end
end Cot

set_option Elab.async false
set_option linter.all false
set_option maxRecDepth 100000
set_option maxHeartbeats 4000000
/-! set(list of tuples of ints), and «in», as rules. -/
namespace Cot
open PySem PySem.Spec PyProof.Rows L2 Evl
section
variable {P : Program} {w : World} {A : Around} {E : Value → Shared → Prop} {s : Shared}
/-- the set's own loop over what it is made of -/
theorem fill_loop {I S : Addr} {fp wr : List Addr} {G : Array GenState → Array GenState → Prop} {N : Nat} {Pv : Nat → Value → Prop} {St : Nat → Shared → Prop} {R : Result → Shared → Prop} (W : WalksS P w A.in1 I fp wr G N Pv St) (out : S ∉ fp)
    (ks : List (Addr × List Int)) (hN : N = ks.length) (few : ks.length < 200) (hv : ∀ i v, Pv i v → ∃ p, ks[i]? = some p ∧ v = .ref p.1) (h0 : Heap) (tup : ∀ p ∈ ks, IsT P w h0 p.2 p.1) (fS : h0.get? S = none) (fw : ∀ b ∈ wr, h0.get? b = none) (hu : A.in1.units < cLine) :
    ∀ (left i : Nat) (s : Shared), N - i = left → i ≤ N → St i s → (∀ b o, h0.get? b = some o → s.heap.get? b = some o) → (∃ L es ep t, Sets P w s.heap S L es ep t ∧ Got ks i L) →
      (∀ s' L es ep t, Moved (S :: wr) G s s' → Sets P w s'.heap S L es ep t → Got ks N L → (∀ b o, h0.get? b = some o → s'.heap.get? b = some o) → R (.ok (.ret .none)) s') →
      codeAny (model P w) A (.builtin "set.update.loop" ⟨[.ref S, .ref I], []⟩) R s := by
  have out' : S ∉ wr := fun h => out (W.sub _ h)
  have stay : ∀ {s s' : Shared}, Moved wr G s s' → (∀ b o, h0.get? b = some o → s.heap.get? b = some o) → ∀ b o, h0.get? b = some o → s'.heap.get? b = some o := fun mv k b o e =>
    mv.heap b o (fun hb => by rw [fw b hb] at e; cases e) (k b o e)
  have of_ : ∀ {i : Nat} {L : List (Addr × List Int)}, Got ks i L → ∀ p ∈ L, p ∈ ks := fun g p hp => List.mem_of_mem_take (g.sub p hp)
  intro left
  induction left with
  | zero =>
    rintro i s e hi st k0 ⟨L, es, ep, t, S0, g⟩ fin
    obtain rfl : i = N := by omega
    refine codeAny_builtin F.entry_set_update_loop ?_
    rw [Around.under_plainId F.plain_set_update_loop _]
    show wpAny _ A.in1 (pyNext (.ref I) >>= _) _ _ s
    refine wpAny_bind (W.done s _ _ st fun s1 mv => ?_)
    have k1 := stay mv k0
    exact wpAny_pure (fin s1 L es ep t (mv.mono fun b hb => List.mem_cons_of_mem _ hb) (S0.keep (fun o z => mv.heap S o out' z) fun p hp => isT_keep (tup p (of_ g p hp)) k1) g k1)
  | succ left ih =>
    rintro i s e hi st k0 ⟨L, es, ep, t, S0, g⟩ fin
    have lt : i < N := by omega
    refine codeAny_builtin F.entry_set_update_loop ?_
    rw [Around.under_plainId F.plain_set_update_loop _]
    show wpAny _ A.in1 (pyNext (.ref I) >>= _) _ _ s
    refine wpAny_bind (W.item i s _ _ lt st fun v s1 pv st1 mv => ?_)
    obtain ⟨p, hp, rfl⟩ := hv i v pv
    have k1 := stay mv k0
    have S1 : Sets P w s1.heap S L es ep t := S0.keep (fun o z => mv.heap S o out' z) fun q hq => isT_keep (tup q (of_ g q hq)) k1
    have tp1 : IsT P w s1.heap p.2 p.1 := isT_keep (tup p (List.mem_of_getElem? hp)) k1
    show wpAny _ A.in1 (holding [Value.ref p.1] (setAdd S (.ref p.1)) >>= _) _ _ s1
    refine wpAny_bind (wpAny_holding ?_)
    unfold setAdd
    refine wpAny_holding (wpAny_bind (wpAny_pyHash_tuple hu tp1 ?_))
    refine add_one (s := { s1 with toks := s1.toks + (p.2.length + 1) }) S1 tp1 hu (by have := g.len; omega) fun b h' L' es' ep' t' sb S2 c1 c2 => ?_
    have g' : Got ks (i + 1) L' := by
      by_cases c : p.2 ∈ L.map (·.2)
      · rw [c1 c]
        exact g.same hp c
      · exact g.more hp (c2 c)
    have k2 : ∀ b o, h0.get? b = some o → h'.get? b = some o := fun b o z => (sb.2 b (fun eb => by rw [eb, fS] at z; cases z)).trans (k1 b o z)
    refine wpAny_pure ⟨plainId_quiet F.plain_set_update_loop _, ih (i + 1) _ (by omega) lt (W.frame _ s1 _ _ st1 (Nat.le_add_right _ _) fun b hb o z => ?_) k2 ⟨L', es', ep', t', S2, g'⟩ fun s3 L3 es3 ep3 t3 mv3 S3 g3 k3 => ?_⟩
    · exact (sb.2 b (fun eb : b = S => out (by rw [← eb]; exact hb))).trans z
    · refine fin s3 L3 es3 ep3 t3 (Moved.trans W.gtrans ((mv.mono fun b hb => List.mem_cons_of_mem _ hb).then_heap (Nat.le_add_right _ _) fun b o hb z => ?_) mv3) S3 g3 k3
      exact (sb.2 b (fun eb : b = S => hb (by rw [eb]; exact List.mem_cons_self))).trans z
/-- the empty set that is made first -/
abbrev setObj0 (w : World) : Obj := { cls := .type "set", dict := none, data := .set #[] 0 (.fresh 0 0 (!w.params.followText "set-order")) }
set_option maxHeartbeats 8000000 in
theorem call_setL {l : Addr} {items : Array Value} (ks : List (Addr × List Int)) {Q : Value → Shared → Prop} (hh : A.handled = none) (hl : s.heap.IsList l items) (hi : items.toList = ks.map fun p => Value.ref p.1) (tup : ∀ p ∈ ks, IsT P w s.heap p.2 p.1) (few : ks.length < 200) (hu : A.units + 3 < cLine)
    (q : ∀ (h' : Heap) (tk : Nat) L es ep t, Sets P w h' s.heap.objs.size L es ep t → Got ks ks.length L → (∀ b o, s.heap.get? b = some o → h'.get? b = some o) → Q (.ref s.heap.objs.size) { s with heap := h', toks := tk }) :
    wpAny (model P w) A (call (.type "set") [.ref l]) Q E s := by
  have size : items.size = ks.length := by rw [← Array.length_toList, hi, List.length_map]
  obtain ⟨c, tl, hmro⟩ := F.called_set.mro
  have hmade := F.called_set.made
  have hsub := F.called_set.sub
  refine wpAny_call (codeAny_of_tree ?_)
  show wpAny _ _ (callAny (.type "set") _) _ _ _
  refine wpAny_pure ⟨Code.quiet_builtin _ (by decide +kernel), codeAny_builtin F.entry_type_call ?_⟩
  rw [Around.under_plain (weight_type_call_type "set" [.ref l] []) rfl]
  have f1 := F.called_set.notType
  have f2 := F.called_set.canCreate
  have f3 := F.typeCall_set_1 (.ref l)
  repeat (any_goals (first | assumption | wp_step))
  refine codeAny_mono (code_set_led1 (.ref l) (E := E) (Q₁ := fun obj s₁ => obj = .ref s.heap.objs.size ∧ s₁ = { s with heap := s.heap.push (setObj0 w) }) ⟨rfl, rfl⟩) fun r s₁ hr => ?_
  cases r with
  | error e => exact hr
  | ok fl =>
    cases fl with
    | ret obj =>
      obtain ⟨rfl, rfl⟩ := hr
      have here : (s.heap.push (setObj0 w)).get? s.heap.objs.size = some (setObj0 w) := Heap.get?_push_size _ rfl
      have ty : Shared.TypeIs { s with heap := s.heap.push (setObj0 w) } (.ref s.heap.objs.size) "set" := ⟨_, here, rfl⟩
      have i1 := F.called_set.init.lookup
      have i2 := F.called_set.init.bind (.ref s.heap.objs.size)
      repeat (any_goals (first | assumption | wp_step))
      refine codeAny_mono (codeAny_call_builtin (R := wants (fun r s₂ => r = .none ∧ ∃ h' tk L es ep t, s₂ = { s with heap := h', toks := tk } ∧ Sets P w h' s.heap.objs.size L es ep t ∧ Got ks ks.length L ∧ (∀ b o, s.heap.get? b = some o → h'.get? b = some o)) E) F.called_set.init.plain F.entry_set_init (check_set_init_1 ty ?_)) fun r₂ s₂ hr₂ => ?_
      · obtain ⟨ol, hol, hcl, nl, hdl⟩ := hl
        obtain ⟨ocls, odict, odata, oslots⟩ := ol
        simp only at hcl hdl
        subst hcl; subst hdl
        have hol' : (s.heap.push (setObj0 w)).get? l = some { cls := .type "list", dict := odict, data := .seq items nl, slots := oslots } := Heap.get?_push_of_some _ hol
        have g1 := F.sub_list_set
        have g2 := F.sub_list_frozenset
        have g3 : (Value.type "list" == Value.type "dict") = false := by decide
        have hl1 : (s.heap.push (setObj0 w)).IsList l items := ⟨_, hol', rfl, nl, rfl⟩
        unfold Builtin.«set.__init__» noKeywords Builtin.Frozenset.updateFrom
        generalize hPI : pyIter = PI
        wp_walk
        subst hPI
        refine wpAny_pyIter_list hl1 (wpAny_bind (wpAny_runValue ?_))
        have ll : l < s.heap.objs.size := Heap.lt_size hol
        have sz : (s.heap.push (setObj0 w)).objs.size = s.heap.objs.size + 1 := Heap.size_push ..
        have gone : ∀ b, s.heap.objs.size ≤ b → s.heap.get? b = none := fun b hb => by
          cases e : s.heap.get? b with
          | none => rfl
          | some o => exact absurd (Nat.lt_of_lt_of_le (Heap.lt_size e) hb) (Nat.lt_irrefl _)
        refine fill_loop (S := s.heap.objs.size) ((Walks.list (show A.in1.in1.in1.handled = none by simp [hh]) _ l (show l ≠ (s.heap.push (setObj0 w)).objs.size by rw [sz]; exact Nat.ne_of_lt (Nat.lt_succ_of_lt ll)) items).toS) ?o1 ks size few ?o2 s.heap tup (gone _ (Nat.le_refl _)) ?o3 hu (items.size - 0) 0 _ (by omega) (Nat.zero_le _)
          ⟨⟨_, Heap.get?_push_size _ rfl, rfl, rfl⟩, (hl1.push _)⟩ (fun b o e => Heap.get?_push_of_some _ (Heap.get?_push_of_some _ e)) ?o4 ?o5
        case o1 =>
          rw [sz]
          simp only [List.mem_cons, List.not_mem_nil, or_false, not_or]
          exact ⟨Nat.ne_of_lt (Nat.lt_succ_self _), Nat.ne_of_gt ll⟩
        case o2 =>
          intro i v hv
          have e : items.toList[i]? = some v := by rw [Array.getElem?_toList]; exact hv
          rw [hi, List.getElem?_map] at e
          obtain ⟨p, hp, rfl⟩ := Option.map_eq_some_iff.mp e
          exact ⟨p, hp, rfl⟩
        case o3 =>
          intro b hb
          refine gone b ?_
          rw [List.mem_singleton.mp hb, sz]
          exact Nat.le_succ _
        case o4 => exact ⟨[], #[], 0, _, sets_new (Heap.get?_push_of_some _ here), Got.zero ks⟩
        case o5 =>
          intro s' L es ep t mv S' g' k'
          obtain ⟨h', gn, dr, tk, os⟩ := s'
          have e1 : gn = s.gens := mv.gens
          have e2 : dr = s.drawn := mv.drawn
          have e3 : os = s.os := mv.os
          subst e1; subst e2; subst e3
          show wpAny _ _ _ _ _ _
          refine wpAny_pure ?_
          show wpAny _ _ (ret Value.none) _ _ _
          rw [size] at g'
          exact wpAny_pure ⟨rfl, h', tk, L, es, ep, t, rfl, S', g', k'⟩
      · cases r₂ with
        | error e => exact hr₂
        | ok fl₂ =>
          cases fl₂ with
          | ret r =>
            obtain ⟨rfl, h', tk, L, es, ep, t, rfl, S', g', k'⟩ := hr₂
            repeat (any_goals (first | assumption | wp_step))
            exact q _ _ _ _ _ _ S' g' k'
          | _ => exact hr₂.elim
    | _ => exact hr.elim
end
/-! ### as rules -/
/-- the set at a, the places of its tuples told beside it -/
structure SetP (P : Program) (w : World) (h : Heap) (a : Addr) (L : List (Addr × List Int)) : Prop where
  big : ∃ es ep t, (∃ o, h.get? a = some o ∧ o.ExactSet ∧ o.data = .set es ep t) ∧ es.toList = rowsOf P w L ∧ Tb t (L.map fun p => thash P w p.2) ∧ t.plain = true ∧ (w.params.followText "set-order" = true ∨ t.led = true) ∧ L.length * 5 < t.mask * 3 ∧ (t.mask = 7 ∨ t.mask = 31 ∨ t.mask = 127 ∨ t.mask = 511)
  nd : (L.map (·.2)).Nodup
def SetO (P : Program) (w : World) (a : Addr) (L : List (Addr × List Int)) : HO := .ext fun h => SetP P w h a L
theorem Sets.p {P : Program} {w : World} {h : Heap} {a : Addr} {L : List (Addr × List Int)} {es : Array (Int × Value)} {ep : Nat} {t : SetTable} (S : Sets P w h a L es ep t) : SetP P w h a L :=
  ⟨⟨es, ep, t, S.ob, S.row, S.tb, S.pl, S.ld, S.rm, S.msk⟩, S.nd⟩
theorem SetP.full {P : Program} {w : World} {h : Heap} {a : Addr} {L : List (Addr × List Int)} (S : SetP P w h a L) (ht : ∀ p ∈ L, IsT P w h p.2 p.1) : ∃ es ep t, Sets P w h a L es ep t := by
  obtain ⟨es, ep, t, h1, h2, h3, h4, h5, h6, h7⟩ := S.big
  exact ⟨es, ep, t, h1, h2, h3, S.nd, ht, h4, h5, h6, h7⟩
theorem setO_ok {P : Program} {w : World} {H : Hp} {h : Heap} {a : Addr} {L : List (Addr × List Int)} (S : SetP P w h a L) : ObjOk P w H h a (SetO P w a L) := by
  refine ⟨S, ?_, ?_⟩
  · obtain ⟨es, ep, t, ⟨o, ho, _⟩, _⟩ := S.big
    exact ⟨o, ho⟩
  · rintro h1 h2 ⟨⟨es, ep, t, ⟨o, ho, r⟩, rest⟩, nd⟩ k
    exact ⟨⟨es, ep, t, ⟨o, k o ho, r⟩, rest⟩, nd⟩
section
variable (K : PySem.W.Frag) (P : Program) (w : World)
def rSetL : List V → Hp → VK → Prop := fun xs H Q => ∃ (l : Addr) (ks : List (Addr × List Int)), xs = [V.ref l] ∧ SqL K H l (ks.map fun p => V.ref p.1) ∧ (∀ p ∈ ks, SqT K H p.1 (p.2.map V.int)) ∧ ks.length < 200 ∧
  ∀ a L, H a = none → (∀ p ∈ L, p ∈ ks) → (∀ p ∈ ks, p.2 ∈ L.map (·.2)) → Q (.ref a) (upd H a (SetO P w a L))
def tInS (ty td : TE) : TE := fun σ H Q => ty σ H fun y H1 => td σ H1 fun x H2 => ∃ a L b k, x = .ref a ∧ y = .ref b ∧ H2 a = some (SetO P w a L) ∧ (∀ p ∈ L, SqT K H2 p.1 (p.2.map V.int)) ∧ SqT K H2 b (k.map V.int) ∧ Q (.bl (decide (k ∈ L.map (·.2)))) H2
end
section
variable {X : Cx} {K : PySem.W.Frag} {P : Program} {w : World} {i o : Expr} {ty td : TE}
theorem call_setQ (h1 : X.K = K) (h2 : X.prog = P) (h3 : X.w = w) (hc : X.calm = true) (hu : X.A.units + 64 < cLine) : CallR X (.type "set") (rSetL K P w) := by
  subst h1 h2 h3
  intro pins s σ H xs us Q I r h
  obtain ⟨l, ks, rfl, hl, hk, hf, q⟩ := h
  obtain ⟨u, rfl, ru⟩ := vals1 r
  cases ru
  obtain ⟨its, rv, pl, hz⟩ := I.list hl
  have e := refs_of_vals rv
  refine call_setL ks (I.ok.hd hc) pl.isList (by rw [← e]) (fun p hp => I.isT (hk p hp)) hf (by omega) fun h' tk L es ep t S g k => ?_
  have hn : H s.heap.objs.size = none := I.hok.fresh (Nat.le_refl _)
  refine ⟨.ref s.heap.objs.size, upd H s.heap.objs.size (SetO X.prog X.w s.heap.objs.size L), I.laid (t' := tk) k (Nat.le_refl _) (setO_ok S.p), rfl, q _ L hn (fun p hp => List.mem_of_mem_take (g.sub p hp)) fun p hp => ?_⟩
  exact g.all p (by rw [List.take_length]; exact hp)
theorem pc_inS (h1 : X.K = K) (h2 : X.prog = P) (h3 : X.w = w) (hu : X.A.units + 64 < cLine) (hi : PE X i ty) (ho : PE X o td) : PC X .In i o (tInS K P w ty td) := by
  subst h1 h2 h3
  refine ⟨fun pins s σ H Q I h => ?_⟩
  refine thn (hi.run pins s σ H _ I h) fun iv s1 ⟨y, H1, I1, ry, q1⟩ => thn (ho.run pins s1 σ H1 _ I1 q1) fun u s2 ⟨x, H2, I2, rx, a, L, b, k, ex, ey, ha, hL, hb, q2⟩ => ?_
  subst ex
  subst ey
  cases rx
  cases ry
  obtain ⟨es, ep, t, S⟩ := (show ObjOk X.prog X.w H2 s2.heap a (SetO X.prog X.w a L) from I2.hok a _ ha).1.full fun p hp => I2.isT (hL p hp)
  exact sets_in S (I2.isT hb) (by omega) fun tk => ⟨.bl _, H2, I2.tok _, rfl, q2⟩
end
end Cot

set_option Elab.async false
set_option linter.all false
set_option maxRecDepth 100000
set_option maxHeartbeats 4000000
/-! Dict comprehensions whose keys are tuples of ints: one clause, two clauses. -/
namespace Cot
open PySem PySem.Spec PyProof.Rows L2 Evl
abbrev dc1 (kx vx t0 i0 : Expr) (fs0 : List Expr) (sc : Scope) (pos : Pos) : Expr := .DictComp kx vx [⟨t0, i0, fs0, 0⟩] sc pos
abbrev dc2 (kx vx t0 i0 : Expr) (fs0 : List Expr) (t1 i1 : Expr) (fs1 : List Expr) (sc : Scope) (pos : Pos) : Expr := .DictComp kx vx [⟨t0, i0, fs0, 0⟩, ⟨t1, i1, fs1, 0⟩] sc pos
section
variable {prog : Program} {w : World} {A : Around} {R : Result → Shared → Prop} {s : Shared} {kx vx t0 i0 t1 i1 : Expr} {fs0 fs1 : List Expr} {sc : Scope} {pos : Pos} {it acc : Value} {env : Env} {D : Addr}
/-- all tests of a clause -/
abbrev asks (fs : List Expr) (env : Env) : Sem Bool := forIn fs true fun c r => if r = true then do let ok ← isTrue c env (eval c env); pure (ForInStep.yield ok) else pure (ForInStep.yield r)
theorem turn_d2o : compTurn (dc2 kx vx t0 i0 fs0 t1 i1 fs1 sc pos) 0 it acc env = (do
    standAt i0.pos
    match ← pyNext it with
    | none => pure (.done .next)
    | some v =>
      letOwnedTupleGo t0 it v
      assign t0 env v
      let ok ← asks fs0 env
      if ok then
        let x ← eval i1 env
        standAt i1.pos
        let x ← foldedSetIterable i1 env x
        let _ ← runOwn (.compStart (dc2 kx vx t0 i0 fs0 t1 i1 fs1 sc pos) 1 (← holding [x] (pyIter x)) acc env) env
      again (.compLoop (dc2 kx vx t0 i0 fs0 t1 i1 fs1 sc pos) 0 it acc env)) := by rfl
theorem turn_d2i : compTurn (dc2 kx vx t0 i0 fs0 t1 i1 fs1 sc pos) 1 it (.ref D) env = (do
    standAt i1.pos
    match ← pyNext it with
    | none => pure (.done .next)
    | some v =>
      letOwnedTupleGo t1 it v
      assign t1 env v
      let ok ← asks fs1 env
      if ok then
        (do
          let kv ← eval kx env
          let vv ← holding [kv] (eval vx env)
          standAt { kx.pos with endLine := vx.pos.endLine, endCol := vx.pos.endCol }
          holding [kv, vv] (dictSet D kv vv))
      again (.compLoop (dc2 kx vx t0 i0 fs0 t1 i1 fs1 sc pos) 1 it (.ref D) env)) := by rfl
abbrev bad (prog : Program) (w : World) (A : Around) (env : Env) (R : Result → Shared → Prop) : Value → Shared → Prop := notedBy (model prog w) A env fun e s' => R (.error e) s'
theorem loop_d2o (hs : ∀ x, foldedSetIterable i1 env x = pure x) (I : Nat → Shared → Prop)
    (turn : ∀ n s, I n s → wpAny (model prog w) A (pyNext it) (fun r s₁ => match r with
      | none => R (.ok .next) s₁
      | some v => wpAny (model prog w) A (letOwnedTupleGo t0 it v) (fun _ s₂ => wpAny (model prog w) A (assign t0 env v) (fun _ s₃ => wpAny (model prog w) A (asks fs0 env) (fun ok s₄ =>
          if ok = true then wpAny (model prog w) A (eval i1 env) (fun x s₅ => wpAny (model prog w) A (pyIter x) (fun it1 s₆ =>
            codeAny (model prog w) A (.compStart (dc2 kx vx t0 i0 fs0 t1 i1 fs1 sc pos) 1 it1 acc env) (fun r s' => match r with
              | .ok _ => ∃ m, m < n ∧ I m s'
              | .error _ => False) s₆) (bad prog w A env R) s₅) (bad prog w A env R) s₄
          else ∃ m, m < n ∧ I m s₄) (bad prog w A env R) s₃) (bad prog w A env R) s₂) (bad prog w A env R) s₁) (bad prog w A env R) s)
    (n : Nat) (h : I n s) : codeAny (model prog w) A (.compLoop (dc2 kx vx t0 i0 fs0 t1 i1 fs1 sc pos) 0 it acc env) R s := by
  refine codeAny_loop rfl I (fun n s hI => ?_) n h
  show wpAny _ A ((compTurn (dc2 kx vx t0 i0 fs0 t1 i1 fs1 sc pos) 0 it acc env).onRaise (fun x => do noteFrame x env; theTreesLotGoes x)) _ _ s
  refine wpAny_noted ?_
  rw [turn_d2o]
  refine wpAny_bind (wpAny_standAt (wpAny_bind (wpAny_mono (turn n s hI) (fun r s₁ k1 => ?_) fun _ _ z => z)))
  cases r with
  | none => exact wpAny_pure k1
  | some v =>
    refine wpAny_bind (wpAny_mono k1 (fun _ s₂ k2 => wpAny_bind (wpAny_mono k2 (fun _ s₃ k3 => wpAny_bind (wpAny_mono k3 (fun ok s₄ k4 => ?_) fun _ _ z => z)) fun _ _ z => z)) fun _ _ z => z)
    cases ok with
    | false => exact wpAny_pure ⟨rfl, k4⟩
    | true =>
      refine wpAny_bind (wpAny_mono k4 (fun x s₅ k5 => wpAny_bind (wpAny_standAt (wpAny_bind (wpAny_of_eq (hs x) (wpAny_bind (wpAny_holding (wpAny_mono k5 (fun it1 s₆ k6 => ?_) fun _ _ z => z))))))) fun _ _ z => z)
      refine wpAny_bind (wpAny_runOwn ?_)
      rw [Around.mark_none]
      refine codeAny_mono k6 fun r s' hr => ?_
      cases r with
      | ok f =>
        first
          | exact wpAny_pure ⟨rfl, hr⟩
          | exact wpAny_bind (wpAny_pure (wpAny_pure ⟨rfl, hr⟩))
      | error e => exact hr.elim
theorem loop_d2i (I : Nat → Shared → Prop)
    (turn : ∀ n s, I n s → wpAny (model prog w) A (pyNext it) (fun r s₁ => match r with
      | none => R (.ok .next) s₁
      | some v => wpAny (model prog w) A (letOwnedTupleGo t1 it v) (fun _ s₂ => wpAny (model prog w) A (assign t1 env v) (fun _ s₃ => wpAny (model prog w) A (asks fs1 env) (fun ok s₄ =>
          if ok = true then wpAny (model prog w) A (eval kx env) (fun kv s₅ => wpAny (model prog w) A (eval vx env) (fun vv s₆ => wpAny (model prog w) A (dictSet D kv vv) (fun _ s₇ => ∃ m, m < n ∧ I m s₇) (bad prog w A env R) s₆) (bad prog w A env R) s₅) (bad prog w A env R) s₄
          else ∃ m, m < n ∧ I m s₄) (bad prog w A env R) s₃) (bad prog w A env R) s₂) (bad prog w A env R) s₁) (bad prog w A env R) s)
    (n : Nat) (h : I n s) : codeAny (model prog w) A (.compLoop (dc2 kx vx t0 i0 fs0 t1 i1 fs1 sc pos) 1 it (.ref D) env) R s := by
  refine codeAny_loop rfl I (fun n s hI => ?_) n h
  show wpAny _ A ((compTurn (dc2 kx vx t0 i0 fs0 t1 i1 fs1 sc pos) 1 it (.ref D) env).onRaise (fun x => do noteFrame x env; theTreesLotGoes x)) _ _ s
  refine wpAny_noted ?_
  rw [turn_d2i]
  refine wpAny_bind (wpAny_standAt (wpAny_bind (wpAny_mono (turn n s hI) (fun r s₁ k1 => ?_) fun _ _ z => z)))
  cases r with
  | none => exact wpAny_pure k1
  | some v =>
    refine wpAny_bind (wpAny_mono k1 (fun _ s₂ k2 => wpAny_bind (wpAny_mono k2 (fun _ s₃ k3 => wpAny_bind (wpAny_mono k3 (fun ok s₄ k4 => ?_) fun _ _ z => z)) fun _ _ z => z)) fun _ _ z => z)
    cases ok with
    | false => exact wpAny_pure ⟨rfl, k4⟩
    | true => exact wpAny_bind (wpAny_bind (wpAny_mono k4 (fun kv s₅ k5 => wpAny_bind (wpAny_holding (wpAny_mono k5 (fun vv s₆ k6 => wpAny_bind (wpAny_standAt (wpAny_holding (wpAny_mono k6 (fun _ s₇ k7 => wpAny_pure ⟨rfl, k7⟩) fun _ _ z => z)))) fun _ _ z => z))) fun _ _ z => z))
theorem start_d2 (h0 : codeAny (model prog w) A (.compLoop (dc2 kx vx t0 i0 fs0 t1 i1 fs1 sc pos) 1 it acc env) R s)
    (h : wpAny (model prog w) A (pyIter it) (fun it' s' => codeAny (model prog w) A (.compLoop (dc2 kx vx t0 i0 fs0 t1 i1 fs1 sc pos) 1 it' acc env) R s') (bad prog w A env R) s) :
    codeAny (model prog w) A (.compStart (dc2 kx vx t0 i0 fs0 t1 i1 fs1 sc pos) 1 it acc env) R s := by
  refine codeAny_of_tree ?_
  show wpAny _ _ ((compStart (dc2 kx vx t0 i0 fs0 t1 i1 fs1 sc pos) 1 it acc env).onRaise (fun x => do noteFrame x env; standAt theWindowsPlace)) _ _ s
  refine wpAny_notedAt ?_
  unfold compStart
  show wpAny _ _ (ask >>= _) _ _ s
  refine wpAny_bind (wpAny_askSetting (wpAny_ite ?_))
  split
  · first
      | exact wpAny_bind (wpAny_pure (wpAny_pure (And.intro rfl h0)))
      | exact wpAny_pure (And.intro rfl h0)
  · first
      | exact wpAny_bind (wpAny_rule (wpAny_bind (wpAny_standAt (wpAny_bind (wpAny_mono h (fun it' s' z => wpAny_pure (And.intro rfl z)) fun _ _ x => x)))))
      | (refine wpAny_bind (wpAny_rule ?_); show wpAny _ _ (standAt i1.pos >>= _) _ _ s; exact wpAny_bind (wpAny_standAt (wpAny_bind (wpAny_mono h (fun it' s' z => wpAny_pure (And.intro rfl z)) fun _ _ x => x))))
end
end Cot

set_option Elab.async false
set_option linter.all false
set_option maxRecDepth 100000
set_option maxHeartbeats 4000000
/-! The rules for them. -/
namespace Cot
open PySem PySem.Spec PyProof.Rows L2 Evl
section
variable (K : PySem.W.Frag) (P : Program) (w : World)
/-- one more pair is laid in -/
def nPut (D : Addr) (tk tv : TE) (Nx : Hp → Prop) : L2.St → Hp → Prop := fun σ H => tk σ H fun y H1 => tv σ H1 fun z H2 => ∃ m b k, y = .ref b ∧ DiAt K P w H2 D m ∧ SqT K H2 b (k.map V.int) ∧ m.length < sizeLine ∧ Nx (upd H2 D (DicO P w D (putD m k b z)))
/-- a walk's turns, each ending in Nx -/
def turns (J : It) (W : Nat → Nat → Hp → Prop) (Q : Hp → Prop) (g : TG) (σ : L2.St) (vs : List Nat) (tt : TT) (body : (Hp → Prop) → L2.St → Hp → Prop) : Prop := ∀ i m H, W i m H →
  (J.stop i H ∧ Q H) ∨ (J.go i H ∧ ∃ Nx : Hp → Prop, (∀ H', Nx H' → ∃ m', m' < m ∧ W (i + 1) m' H') ∧ ∀ x H', J.yld i H x H' → g x (wipe σ vs) H' fun σ2 H2 => wipe σ2 vs = wipe σ vs ∧ tt σ2 H2 fun b H3 => if b = true then body Nx σ2 H3 else Nx H3)
def tNc1 (wi : TI) (g : TG) (tt : TT) (tk tv : TE) (vs : List Nat) : TE := fun σ H Q => wi σ H fun J H1 => ∀ D, H1 D = none → ∃ W : Nat → Nat → Hp → Prop, (∃ m, W 0 m (upd H1 D (DicO P w D []))) ∧ turns J W (Q (.ref D)) g σ vs tt fun Nx => nPut K P w D tk tv Nx
def tNc2 (wi : TI) (g : TG) (tt : TT) (wi1 : TI) (g1 : TG) (tt1 : TT) (tk tv : TE) (vs vs1 : List Nat) : TE := fun σ H Q => wi σ H fun J H1 => ∀ D, H1 D = none → ∃ W : Nat → Nat → Hp → Prop, (∃ m, W 0 m (upd H1 D (DicO P w D []))) ∧
  turns J W (Q (.ref D)) g σ vs tt fun Nx σ2 H3 => wi1 σ2 H3 fun J1 H4 => ∃ W1 : Nat → Nat → Hp → Prop, (∃ m, W1 0 m H4) ∧ turns J1 W1 Nx g1 σ2 vs1 tt1 fun Nx1 => nPut K P w D tk tv Nx1
end
section
variable {X : Cx}
/-- a block's context -/
abbrev Blk (X : Cx) (sc : Scope) (F : Cx → Prop) : Prop := ∀ (s : Shared) (H : Hp) (C : Addr) (cl : List (Str × Addr)) (fp : List Addr), F (X.blk s H sc (compEnvC sc cl C X.env) fp)
theorem pe_nc2 {kx vx t0 i0 t1 i1 : Expr} {fs0 fs1 : List Expr} {sc : Scope} {own : List (Str × Nat)} {vs1 : List Nat} {pos : Pos} {wi wi1 : TI} {g g1 : TG} {tt tt1 : TT} {tk tv : TE} {K : PySem.W.Frag} {P : Program} {w : World} (eK : X.K = K) (eP : X.prog = P) (ew : X.w = w) (hu : X.A.units < cLine) (hc : X.calm = true) (hN : X.N.Nodup)
    (hi : PI X t0 i0 wi) (ok : BlkOk X.N X.env.scope sc own) (hv : ∀ i ∈ vs1, i ∈ own.map (·.2)) (hg : Blk X sc fun Y => PG Y t0 g) (ht : Blk X sc fun Y => PTs Y fs0 tt) (hi1 : Blk X sc fun Y => PI Y t1 i1 wi1) (hg1 : Blk X sc fun Y => PG Y t1 g1) (ht1 : Blk X sc fun Y => PTs Y fs1 tt1)
    (hk : Blk X sc fun Y => PE Y kx tk) (he : Blk X sc fun Y => PE Y vx tv) (hs : ∀ x, foldedSetIterable i0 X.env x = pure x := by intro _; rfl) (hs1 : ∀ env x, foldedSetIterable i1 env x = pure x := by intro _ _; rfl) :
    PE X (dc2 kx vx t0 i0 fs0 t1 i1 fs1 sc pos) (tNc2 K P w wi g tt wi1 g1 tt1 tk tv (own.map (·.2)) vs1) := by
  subst eK eP ew
  refine ⟨fun pins s σ H Q I h => ?_⟩
  rw [arm_eval_DictComp]
  have cells : ∀ y ∈ sc.names, y.2 = .free → ∃ c, X.env.cells.lookup y.1 = some c := fun y hy e => (ok.free y hy e).elim (fun k => I.ok.has _ (.inl k)) fun k => I.ok.has _ (.inr k)
  refine wpAny_comprehension_free (use := none) rfl hs (closure_ok cells) ok.kind (fun y hy e => by rw [ok.uniq y hy, e]) (thn (hi.run pins s σ H _ I h) fun xv s1 hx => thn hx fun itv s2 h2 => ?_)
  obtain ⟨it, fp, tn, J, H2, e, I2, T, st2, f2, q⟩ := h2
  subst e
  refine wpAny_newObj_type (newEnv_comp ?_)
  generalize hD : s2.heap.objs.size = D
  obtain ⟨W, ⟨m0, w0⟩, turn⟩ := q D (I2.hok.fresh (Nat.le_of_eq hD))
  generalize hs3 : ({ s2 with heap := s2.heap.push { cls := .type "dict", data := .dict #[] } } : Shared) = s3
  have h3 : s3.heap = s2.heap.push { cls := .type "dict", data := .dict #[] } := by rw [← hs3]
  have I3 : Inv X pins σ (upd H2 D (DicO X.prog X.w D [])) s3 := by
    rw [← hs3]
    refine I2.laid (t' := s2.toks) (fun b o e => Heap.get?_push_of_some _ e) (Nat.le_of_eq hD) ?_
    rw [← hD]
    exact dicO_ok (dic_empty I2.big)
  have f3 : ∀ b ∈ fp, FpOk X pins (upd H2 D (DicO X.prog X.w D [])) b ∧ b < s3.heap.objs.size := fun b hb => by
    obtain ⟨o, eo, _⟩ := T.obj _ _ st2 b hb
    have lt : b < s2.heap.objs.size := Heap.lt_size eo
    refine ⟨⟨?_, (f2 b hb).2⟩, by rw [h3, Heap.size_push]; exact Nat.lt_succ_of_lt lt⟩
    rw [upd_ne (by rw [← hD]; exact Nat.ne_of_lt lt)]
    exact (f2 b hb).1
  have I4 := block_start I3 ok hN f3
  have pg := hg s3 (upd H2 D (DicO X.prog X.w D [])) s3.heap.objs.size (cellsFrom (s3.heap.objs.size + 1) sc.names (cloFrom X.env.cells sc.names [])) fp
  have pt := ht s3 (upd H2 D (DicO X.prog X.w D [])) s3.heap.objs.size (cellsFrom (s3.heap.objs.size + 1) sc.names (cloFrom X.env.cells sc.names [])) fp
  have pk := hk s3 (upd H2 D (DicO X.prog X.w D [])) s3.heap.objs.size (cellsFrom (s3.heap.objs.size + 1) sc.names (cloFrom X.env.cells sc.names [])) fp
  have pv := he s3 (upd H2 D (DicO X.prog X.w D [])) s3.heap.objs.size (cellsFrom (s3.heap.objs.size + 1) sc.names (cloFrom X.env.cells sc.names [])) fp
  have pi1 := hi1 s3 (upd H2 D (DicO X.prog X.w D [])) s3.heap.objs.size (cellsFrom (s3.heap.objs.size + 1) sc.names (cloFrom X.env.cells sc.names [])) fp
  have pg1 := hg1 s3 (upd H2 D (DicO X.prog X.w D [])) s3.heap.objs.size (cellsFrom (s3.heap.objs.size + 1) sc.names (cloFrom X.env.cells sc.names [])) fp
  have pt1 := ht1 s3 (upd H2 D (DicO X.prog X.w D [])) s3.heap.objs.size (cellsFrom (s3.heap.objs.size + 1) sc.names (cloFrom X.env.cells sc.names [])) fp
  have none3 : ∀ b ∈ fp, (upd H2 D (DicO X.prog X.w D [])) b = none := fun b hb => (f3 b hb).1.1
  show codeAny _ _ (.compStart (dc2 kx vx t0 i0 fs0 t1 i1 fs1 sc pos) 0 (.ref it) (.ref D) (compEnvC sc (cellsFrom (s3.heap.objs.size + 1) sc.names (cloFrom X.env.cells sc.names [])) s3.heap.objs.size X.env)) _ { s3 with heap := pushCells (s3.heap.push { cls := .type "dict", data := .dict #[] }) sc.names }
  generalize hce : compEnvC sc (cellsFrom (s3.heap.objs.size + 1) sc.names (cloFrom X.env.cells sc.names [])) s3.heap.objs.size X.env = ce at I4 pg pt pk pv pi1 pg1 pt1 ⊢
  have loc : ce.locals = s3.heap.objs.size := by subst hce; rfl
  generalize upd H2 D (DicO X.prog X.w D []) = H3 at I3 I4 pg pt pk pv pi1 pg1 pt1 w0 none3 f3
  generalize hs4 : ({ s3 with heap := pushCells (s3.heap.push { cls := .type "dict", data := .dict #[] }) sc.names } : Shared) = s4 at I4 ⊢
  have st4 : tn 0 s4.heap := T.keep _ _ _ st2 fun b _ o e => by
    rw [← hs4]
    refine pushCells_keeps _ _ _ _ (Heap.get?_push_of_some _ ?_)
    rw [h3]
    exact Heap.get?_push_of_some _ e
  have stat : ∀ {σ' : L2.St} {H' : Hp} {s' : Shared}, Inv (X.blk s3 H3 sc ce fp) [] σ' H' s' → (∀ b ∈ fp, H' b = none) → ∀ b ∈ fp, FpOk (X.blk s3 H3 sc ce fp) [] H' b := fun {σ' H' s'} I' hn b hb =>
    ⟨hn b hb, (I'.ok.exf b hb).1, I'.ok.exfs b hb, .inl hb, fun x c e => (I'.ok.exf b hb).2 x c e, fun p hp => (by simp at hp : False).elim⟩
  have loop : codeAny (model X.prog X.w) X.A (.compLoop (dc2 kx vx t0 i0 fs0 t1 i1 fs1 sc pos) 0 (.ref it) (.ref D) ce) (compPost (model X.prog X.w) X.A X.xe none (EP X pins σ Q) (.ref D) s3.heap.objs.size) s4 := by
    refine loop_d2o (hs1 ce) (fun n s' => ∃ i H', Inv (X.blk s3 H3 sc ce fp) [] (wipe σ (own.map (·.2))) H' s' ∧ tn i s'.heap ∧ (∀ b ∈ fp, H' b = none) ∧ W i n H') ?_ m0 ⟨0, H3, I4, st4, none3, w0⟩
    rintro n s5 ⟨i, H5, I5, st5, n5, w5⟩
    rcases turn i n H5 w5 with ⟨stop, qq⟩ | ⟨go, Nx, hNx, step⟩
    · refine thnF (T.done (X.blk s3 H3 sc ce fp) rfl rfl rfl hc i [] s5 _ H5 (fun _ _ => False) I5 (stat I5 n5) st5 stop) fun r s6 ⟨hr, I6⟩ => ?_
      subst hr
      have I7 : Inv X pins σ H5 s6 := I3.call' (ch := fp) I6.os I6.base I6.hok I6.bare fun b hb => ⟨(f3 b hb).1.2.2.2.1, (f3 b hb).1.2.1, (f3 b hb).1.2.2.2.2.1, (f3 b hb).1.2.2.2.2.2⟩
      have nC : H5 s3.heap.objs.size = none := by
        rw [← loc]
        exact I6.free
      obtain ⟨m, hn, _⟩ := I6.loc
      replace hn : s6.heap.Ns ce.locals m := hn
      rw [loc] at hn
      obtain ⟨f0, f1, f2', f3', f4, f5⟩ := I3.fpOk (Nat.le_refl _) nC
      exact ⟨m, hn, fun h'' sb => ⟨.ref D, H5, I7.turned (t' := s6.toks) (fun b o hb e => (sb.2 b hb).trans e) f0 f1 f3' f4 f5, rfl, qq⟩⟩
    · refine thnF (T.item (X.blk s3 H3 sc ce fp) rfl rfl rfl hc i [] s5 _ H5 (fun _ _ => False) I5 (stat I5 n5) st5 go) fun r s6 ⟨u, hr, h6⟩ => ?_
      subst hr
      refine thnF h6 fun _ s7 ⟨x, H7, I7, r7, y7, st7, n7⟩ => ?_
      refine thnF (pg.run _ s7 _ H7 x u _ (I7.pinned (stat I7 n7) (T.obj _ _ st7)) r7 (step x H7 y7)) fun _ s8 ⟨σ8, H8, I8, hw8, q8⟩ => ?_
      refine thnF (pt.run _ s8 σ8 H8 _ I8 q8) fun b s9 ⟨H9, I9, q9⟩ => ?_
      have fin : ∀ {σ9 : L2.St} {s' : Shared} {H' : Hp}, Inv (X.blk s3 H3 sc ce fp) ([] ++ pinsAt fp s7.heap) σ9 H' s' → (wipe σ (own.map (·.2))).length = σ9.length → (∀ (j : Nat) v, (wipe σ (own.map (·.2)))[j]? = some (some v) → σ9[j]? = some (some v)) → Nx H' →
          ∃ m, m < n ∧ ∃ i H', Inv (X.blk s3 H3 sc ce fp) [] (wipe σ (own.map (·.2))) H' s' ∧ tn i s'.heap ∧ (∀ b ∈ fp, H' b = none) ∧ W i m H' := fun {σ9 s' H'} I' hl hkp nx => by
        obtain ⟨m', hm, w'⟩ := hNx H' nx
        have pin' : ∀ b ∈ fp, ∀ o, s7.heap.get? b = some o → s'.heap.get? b = some o ∧ H' b = none := fun b hb o e =>
          let z := I'.pin (b, o) (List.mem_append_right _ (List.mem_append_right _ (mem_pinsAt hb e)))
          ⟨z.1, z.2.1⟩
        refine ⟨m', hm, i + 1, H', (I'.unpinned (pins := [])).weak hl hkp, T.keep _ _ _ st7 fun b hb o e => (pin' b hb o e).1, fun b hb => ?_, w'⟩
        obtain ⟨o, e, _⟩ := T.obj _ _ st7 b hb
        exact (pin' b hb o e).2
      have l8 : (wipe σ (own.map (·.2))).length = σ8.length := by rw [← hw8, wipe_length]
      have k8 : ∀ (j : Nat) v, (wipe σ (own.map (·.2)))[j]? = some (some v) → σ8[j]? = some (some v) ∧ j ∉ own.map (·.2) := fun j v e => by
        rw [← hw8] at e
        exact wipe_some e
      cases b with
      | false =>
        simp only [Bool.false_eq_true, if_false] at q9 ⊢
        exact fin I9 l8 (fun j v e => (k8 j v e).1) q9
      | true =>
        simp only [if_true] at q9 ⊢
        refine thnF (pi1.run _ s9 σ8 H9 _ I9 q9) fun xv s10 hx => thnF hx fun itv s11 h11 => ?_
        obtain ⟨it1, fp1, tn1, J1, H11, e1, I11, T1, st11, f11, W1, ⟨m1, w1⟩, turn1⟩ := h11
        subst e1
        have stat1 : ∀ {H' : Hp}, (∀ b ∈ fp1, H' b = none) → ∀ b ∈ fp1, FpOk (X.blk s3 H3 sc ce fp) ([] ++ pinsAt fp s7.heap) H' b := fun hn b hb => ⟨hn b hb, (f11 b hb).2⟩
        have loop1 : codeAny (model X.prog X.w) X.A (.compLoop (dc2 kx vx t0 i0 fs0 t1 i1 fs1 sc pos) 1 (.ref it1) (.ref D) ce)
            (fun r s' => match r with
              | .ok _ => ∃ m, m < n ∧ ∃ i H', Inv (X.blk s3 H3 sc ce fp) [] (wipe σ (own.map (·.2))) H' s' ∧ tn i s'.heap ∧ (∀ b ∈ fp, H' b = none) ∧ W i m H'
              | .error _ => False) s11 := by
          refine loop_d2i (fun k s' => ∃ j H', Inv (X.blk s3 H3 sc ce fp) ([] ++ pinsAt fp s7.heap) (wipe σ8 vs1) H' s' ∧ tn1 j s'.heap ∧ (∀ b ∈ fp1, H' b = none) ∧ W1 j k H') ?_ m1 ⟨0, H11, I11.weak (wipe_length _ _) (fun j v e => (wipe_some e).1), st11, fun b hb => (f11 b hb).1, w1⟩
          rintro k s12 ⟨j, H12, I12, st12, n12, w12⟩
          rcases turn1 j k H12 w12 with ⟨stop1, nx1⟩ | ⟨go1, Nx1, hNx1, step1⟩
          · refine thnF (T1.done (X.blk s3 H3 sc ce fp) rfl rfl rfl hc j _ s12 (wipe σ8 vs1) H12 (fun _ _ => False) I12 (stat1 n12) st12 stop1) fun r s13 ⟨hr, I13⟩ => ?_
            subst hr
            refine fin I13 (l8.trans (wipe_length σ8 vs1).symm) (fun j v e => ?_) nx1
            obtain ⟨z1, z2⟩ := k8 j v e
            rw [wipe_out fun z => z2 (hv j z)]
            exact z1
          · refine thnF (T1.item (X.blk s3 H3 sc ce fp) rfl rfl rfl hc j _ s12 (wipe σ8 vs1) H12 (fun _ _ => False) I12 (stat1 n12) st12 go1) fun r s13 ⟨u1, hr, h13⟩ => ?_
            subst hr
            refine thnF h13 fun _ s14 ⟨x1, H14, I14, r14, y14, st14, n14⟩ => ?_
            refine thnF (pg1.run _ s14 (wipe σ8 vs1) H14 x1 u1 _ (I14.pinned (stat1 n14) (T1.obj _ _ st14)) r14 (step1 x1 H14 y14)) fun _ s15 ⟨σ15, H15, I15, hw15, q15⟩ => ?_
            refine thnF (pt1.run _ s15 σ15 H15 _ I15 q15) fun b1 s16 ⟨H16, I16, q16⟩ => ?_
            have fin1 : ∀ {s' : Shared} {H' : Hp}, Inv (X.blk s3 H3 sc ce fp) (([] ++ pinsAt fp s7.heap) ++ pinsAt fp1 s14.heap) σ15 H' s' → Nx1 H' → ∃ m, m < k ∧ ∃ j H', Inv (X.blk s3 H3 sc ce fp) ([] ++ pinsAt fp s7.heap) (wipe σ8 vs1) H' s' ∧ tn1 j s'.heap ∧ (∀ b ∈ fp1, H' b = none) ∧ W1 j m H' := fun {s' H'} I' nx => by
              obtain ⟨m', hm, w'⟩ := hNx1 H' nx
              have pin' : ∀ b ∈ fp1, ∀ o, s14.heap.get? b = some o → s'.heap.get? b = some o ∧ H' b = none := fun b hb o e =>
                let z := I'.pin (b, o) (List.mem_append_right _ (List.mem_append_right _ (mem_pinsAt hb e)))
                ⟨z.1, z.2.1⟩
              refine ⟨m', hm, j + 1, H', I'.unpinned.weak (by rw [← hw15, wipe_length]) (fun j v e => by rw [← hw15] at e; exact (wipe_some e).1), T1.keep _ _ _ st14 fun b hb o e => (pin' b hb o e).1, fun b hb => ?_, w'⟩
              obtain ⟨o, e, _⟩ := T1.obj _ _ st14 b hb
              exact (pin' b hb o e).2
            cases b1 with
            | false =>
              simp only [Bool.false_eq_true, if_false] at q16 ⊢
              exact fin1 I16 q16
            | true =>
              simp only [if_true] at q16 ⊢
              refine thnF (pk.run _ s16 σ15 H16 _ I16 q16) fun kv s17 ⟨yk, H17, I17, r17, q17⟩ => ?_
              refine thnF (pv.run _ s17 σ15 H17 _ I17 q17) fun vv s18 ⟨yv, H18, I18, r18, mm, bb, kk, ek, dA, hb18, hz, nx⟩ => ?_
              subst ek
              cases r17
              exact dic_set (X := X.blk s3 H3 sc ce fp) hu I18 dA hb18 hz r18 fun s19 I19 => fin1 I19 nx
        exact start_d2 loop1 (T1.self X.A 0 _ _ _ st11 loop1)
  exact codeAny_compStart_dict loop (T.self X.A 0 _ _ _ st4 loop)
end
end Cot

set_option Elab.async false
set_option linter.all false
set_option maxRecDepth 100000
set_option maxHeartbeats 4000000
/-! New dicts as they are told; sets as they are made. -/
namespace Cot
open PySem PySem.Spec PyProof.Rows L2 Evl
def givenA {α : Type} (n : Nat) (f : Nat → Bool) (v : Nat → α) : List α := ((List.range n).filter f).map v
theorem givenA_yes {α : Type} {n : Nat} {f : Nat → Bool} {v : Nat → α} (h : f n = true) : givenA (n + 1) f v = givenA n f v ++ [v n] := by
  unfold givenA
  rw [List.range_succ, List.filter_append, List.map_append, List.filter_cons, if_pos h]
  rfl
theorem givenA_no {α : Type} {n : Nat} {f : Nat → Bool} {v : Nat → α} (h : f n = false) : givenA (n + 1) f v = givenA n f v := by
  unfold givenA
  rw [List.range_succ, List.filter_append, List.map_append, List.filter_cons, if_neg (by rw [h]; decide)]
  exact List.append_nil _
theorem givenA_len {α : Type} (n : Nat) (f : Nat → Bool) (v : Nat → α) : (givenA n f v).length ≤ n := by
  unfold givenA
  rw [List.length_map]
  have := List.length_filter_le f (List.range n)
  rw [List.length_range] at this
  exact this
theorem givenA_mem {α : Type} {n : Nat} {f : Nat → Bool} {v : Nat → α} {x : α} : x ∈ givenA n f v ↔ ∃ i, i < n ∧ f i = true ∧ v i = x := by
  unfold givenA
  simp [List.mem_map, List.mem_filter, and_assoc]
def flatA {α : Type} (n : Nat) (L : Nat → List α) : List α := ((List.range n).map L).flatten
theorem flatA_succ {α : Type} (n : Nat) (L : Nat → List α) : flatA (n + 1) L = flatA n L ++ L n := by
  unfold flatA
  rw [List.range_succ, List.map_append, List.flatten_append]
  simp
theorem flatA_mem {α : Type} {n : Nat} {L : Nat → List α} {x : α} : x ∈ flatA n L ↔ ∃ i, i < n ∧ x ∈ L i := by
  unfold flatA
  simp only [List.mem_flatten, List.mem_map, List.mem_range]
  constructor
  · rintro ⟨l, ⟨i, hi, rfl⟩, hx⟩
    exact ⟨i, hi, hx⟩
  · rintro ⟨i, hi, hx⟩
    exact ⟨L i, ⟨i, hi, rfl⟩, hx⟩
/-- a new dict, by its keys and values -/
def EvC (K : PySem.W.Frag) (P : Program) (w : World) (te : TE) (σ : L2.St) (Hd : Hp) (L : List (List Int × V)) : Prop := ∀ H, Ex Hd H → ∀ Q : VK, (∀ a m H2 Hn, Gr Hd H Hn H2 → H a = none → Hn a = none → H2 a = some (DicO P w a m) → KeysAt K Hn m → m.map (fun e => (e.1, e.2.2)) = L → Q (.ref a) H2) → te σ H Q
/-- what a def that tells a new dict promises -/
def spC (K : PySem.W.Frag) (P : Program) (w : World) (R : List PyData → List (List Int × V) → Prop) : Sp := fun vs H Q _ => ∃ Hd ds L, Ex Hd H ∧ DpAll K Hd vs ds ∧ R ds L ∧ ∀ a m H2 Hn, Gr Hd H Hn H2 → H a = none → Hn a = none → H2 a = some (DicO P w a m) → KeysAt K Hn m → m.map (fun e => (e.1, e.2.2)) = L → Q (.ref a) H2
section
variable {K : PySem.W.Frag} {P : Program} {w : World} {H H' Hd Hd' Hn H1 H2 : Hp} {σ : L2.St} {te tk tv : TE} {tr : TA} {tt tt1 : TT} {n : Nat} {wi wi1 : TI} {g g1 : TG} {L : List (List Int × V)} {ds es : List PyData} {D : Ends} {tz : TS} {i : Nat}
theorem ec_call {R : List PyData → List (List Int × V) → Prop} {E : XK} (h : EvDA K tr σ Hd ds) (hr : R ds L) : EvC K P w (tCall (spC K P w R) [] E tr) σ Hd L := fun H s Q q =>
  h H s _ fun vs H2 Hn g hd => ⟨Hn, ds, L, g.sub, by rw [List.append_nil]; exact hd, hr, fun a m H3 Hm g3 ha hm h3 hk e => q a m H3 Hm (g.trans g3) (fresh_back g.ex ha) hm h3 hk e⟩
theorem go_retC (s : Ex Hd H) (h : EvC K P w te σ Hd L) (k : ∀ a m H2 Hn, Gr Hd H Hn H2 → H a = none → Hn a = none → H2 a = some (DicO P w a m) → KeysAt K Hn m → m.map (fun e => (e.1, e.2.2)) = L → D.rt (.ref a) H2) : Go (tSeq (tRet te) tz) D σ H := fun H1 e1 =>
  h H1 (s.trans e1) _ fun a m H2 Hn g ha hn h2 hk e => k a m H2 Hn (g.pre e1) (fresh_back e1 ha) hn h2 hk e
theorem go_asgC (s : Ex Hd H) (h : EvC K P w te σ Hd L) (k : ∀ a m H2 Hn, Gr Hd H Hn H2 → H a = none → Hn a = none → H2 a = some (DicO P w a m) → KeysAt K Hn m → m.map (fun e => (e.1, e.2.2)) = L → Go tz D (σ.set i (some (.ref a))) H2) : Go (tSeq (tAsg te (gName i)) tz) D σ H := fun H1 e1 =>
  h H1 (s.trans e1) _ fun a m H2 Hn g ha hn h2 hk e => k a m H2 Hn (g.pre e1) (fresh_back e1 ha) hn h2 hk e H2 (Ex.refl _)
theorem val_fresh {m : Dkv} {k : List Int} (h : m.map (fun e => (e.1, e.2.2)) = L) (hk : k ∉ L.map (·.1)) : valD m k = none := by
  rw [valD_none]
  intro e he hek
  refine hk ?_
  rw [← h, List.map_map]
  exact List.mem_map.mpr ⟨e, he, hek⟩
theorem ec_nc2 {S : Nat → L2.St → L2.St → Hp → Prop} {S1 : Nat → Nat → L2.St → L2.St → Hp → Prop} {vs vs1 : List Nat} (n1 : Nat → Nat) (h : EvI K wi g σ Hd n S) (f : Nat → Nat → Bool) (kv : Nat → Nat → List Int × V)
    (hz : ∀ i, i < n → (flatA i fun i => givenA (n1 i) (f i) (kv i)).length + n1 i ≤ 90000)
    (hnd : ∀ i j, i < n → j < n1 i → f i j = true → (kv i j).1 ∉ ((flatA i fun i => givenA (n1 i) (f i) (kv i)) ++ givenA j (f i) (kv i)).map (·.1))
    (ht : ∀ (i : Nat) (σ2 : L2.St) (Hn : Hp), i < n → Ex Hd Hn → S i (wipe σ vs) σ2 Hn → wipe σ2 vs = wipe σ vs ∧ EvI K wi1 g1 σ2 Hn (n1 i) (S1 i) ∧
      ∀ (j : Nat) (σ3 : L2.St) (Hk : Hp), j < n1 i → Ex Hn Hk → S1 i j (wipe σ2 vs1) σ3 Hk → wipe σ3 vs1 = wipe σ2 vs1 ∧ EvT tt1 σ3 Hk (f i j) ∧ (f i j = true → EvD K tk σ3 Hk (.tuple ((kv i j).1.map .int)) ∧ Ev tv σ3 Hk (kv i j).2)) :
    EvC K P w (tNc2 K P w wi g tYes wi1 g1 tt1 tk tv vs vs1) σ Hd (flatA n fun i => givenA (n1 i) (f i) (kv i)) := fun H s Q q =>
  h H s _ fun J H1 Hn G Y gr wk hG hY D hD => by
    refine ⟨fun i m H' => m = n - i ∧ i ≤ n ∧ ∃ Hm mm, Gr Hn H1 Hm H' ∧ Hm D = none ∧ H' D = some (DicO P w D mm) ∧ KeysAt K Hm mm ∧ mm.map (fun e => (e.1, e.2.2)) = flatA i fun i => givenA (n1 i) (f i) (kv i), ⟨n, by simp, Nat.zero_le _, Hn, [], Gr.alloc gr.sub hD, fresh_back gr.sub hD, upd_same, fun _ h => (by cases h), rfl⟩, ?_⟩
    rintro i m H' ⟨rfl, hi, Hm, mm, g0, hm, h2, hk, hL⟩
    have q0 := hG H' (g0.dx.trans g0.sub)
    by_cases hlt : i < n
    · refine .inr ⟨wk.goes i H' hlt q0, fun H2 => ∃ Hm mm, Gr Hn H1 Hm H2 ∧ Hm D = none ∧ H2 D = some (DicO P w D mm) ∧ KeysAt K Hm mm ∧ mm.map (fun e => (e.1, e.2.2)) = flatA (i + 1) fun i => givenA (n1 i) (f i) (kv i), fun H2 p' => ⟨n - (i + 1), by omega, rfl, hlt, p'⟩, fun x H'' y => ?_⟩
      refine hY i x H' H'' _ _ hlt (g0.dx.trans g0.sub) (wk.yields i H' x H'' hlt q0 y) fun σ2 H3 e3 hS => ?_
      obtain ⟨hw, hI, hT⟩ := ht i σ2 Hn hlt gr.dx hS
      refine ⟨hw, ?_⟩
      refine hI H3 ((g0.dx.trans g0.sub).trans e3) _ fun J1 H4 Hk G1 Y1 gk w1 hG1 hY1 => ?_
      have gm : Gr Hm H3 (un Hm Hk) H4 := gk.up g0.dx (g0.sub.trans e3)
      have em : Ex Hk (un Hm Hk) := gk.upr g0.dx (g0.sub.trans e3)
      have hm4 : un Hm Hk D = none := gm.fr _ _ (e3 _ _ h2) hm
      have hzi := hz i hlt
      refine ⟨fun j k H5 => k = n1 i - j ∧ j ≤ n1 i ∧ ∃ Ho mm, Gr Hn H1 Ho H5 ∧ Ex (un Hm Hk) Ho ∧ Ho D = none ∧ H5 D = some (DicO P w D mm) ∧ KeysAt K Ho mm ∧ mm.map (fun e => (e.1, e.2.2)) = (flatA i fun i => givenA (n1 i) (f i) (kv i)) ++ givenA j (f i) (kv i),
        ⟨n1 i, by simp, Nat.zero_le _, un Hm Hk, mm, (g0.post e3).trans gm, Ex.refl _, hm4, gk.ex _ _ (e3 _ _ h2), hk.mono gm.dx, by rw [hL]; exact (List.append_nil _).symm⟩, ?_⟩
      rintro j k H5 ⟨rfl, hj, Ho, m5, go, eo, ho, h5, hk5, hL5⟩
      have q1 := hG1 H5 ((em.trans eo).trans go.sub)
      by_cases hlt1 : j < n1 i
      · refine .inr ⟨w1.goes j H5 hlt1 q1, fun H6 => ∃ Ho mm, Gr Hn H1 Ho H6 ∧ Ex (un Hm Hk) Ho ∧ Ho D = none ∧ H6 D = some (DicO P w D mm) ∧ KeysAt K Ho mm ∧ mm.map (fun e => (e.1, e.2.2)) = (flatA i fun i => givenA (n1 i) (f i) (kv i)) ++ givenA (j + 1) (f i) (kv i), fun H6 p' => ⟨n1 i - (j + 1), by omega, rfl, hlt1, p'⟩, fun x1 H6 y1 => ?_⟩
        refine hY1 j x1 H5 H6 _ _ hlt1 ((em.trans eo).trans go.sub) (w1.yields j H5 x1 H6 hlt1 q1 y1) fun σ3 H7 e7 hS1 => ?_
        obtain ⟨hw1, hT1, hE⟩ := hT j σ3 Hk hlt1 gk.dx hS1
        refine ⟨hw1, hT1 H7 (((em.trans eo).trans go.sub).trans e7) _ fun H8 e8 => ?_⟩
        have h8 : H8 D = some (DicO P w D m5) := e8 _ _ (e7 _ _ h5)
        cases hf : f i j with
        | false =>
          refine ⟨Ho, m5, go.post (e7.trans e8), eo, ho, h8, hk5, ?_⟩
          rw [givenA_no hf]
          exact hL5
        | true =>
          show tk σ3 H8 _
          obtain ⟨hE1, hE2⟩ := hE hf
          refine (hE1.mono (em.trans eo)) H8 ((go.sub.trans e7).trans e8) _ fun y H9 Hp g9 hy => ?_
          obtain ⟨p, rfl, hp⟩ := dp_key hy
          refine (hE2.mono ((em.trans eo).trans g9.dx)) H9 g9.sub _ fun H10 e10 => ?_
          have hp9 : Hp D = none := g9.fr _ _ h8 ho
          have fr : valD m5 (kv i j).1 = none := val_fresh hL5 (hnd i j hlt hlt1 hf)
          have kp : KeysAt K Hp m5 := hk5.mono g9.dx
          refine ⟨m5, p, (kv i j).1, rfl, ⟨e10 _ _ (g9.ex _ _ h8), kp.mono (g9.sub.trans e10)⟩, ex_t (g9.sub.trans e10) hp, ?_, Hp, putD m5 (kv i j).1 p (kv i j).2, ⟨Ex.mut (((go.ex.trans (e7.trans e8)).trans g9.ex).trans e10) hD, go.dx.trans g9.dx, Ex.mut (g9.sub.trans e10) hp9, fun a o ha hd => g9.fr a o ((e7.trans e8) a o (go.ex a o ha)) (go.fr a o ha hd)⟩, eo.trans g9.dx, hp9, upd_same, kp.put hp, ?_⟩
          · refine sz_lt ?_
            have l1 := congrArg List.length hL5
            rw [List.length_map, List.length_append] at l1
            have := givenA_len j (f i) (kv i)
            omega
          · rw [putD_new _ _ fr, List.map_append, hL5, givenA_yes hf, ← List.append_assoc]
            rfl
      · have e : j = n1 i := by omega
        subst e
        refine .inl ⟨w1.stops H5 q1, Ho, m5, go, ho, h5, hk5, ?_⟩
        rw [flatA_succ]
        exact hL5
    · have e : i = n := by omega
      subst e
      exact .inl ⟨wk.stops H' q0, q D mm H' Hm (gr.trans g0) (fresh_back gr.ex hD) hm h2 hk hL⟩
end
/-! ### list(d), set(l), x in s -/
theorem pb_enumT {X : Cx} {K : PySem.W.Frag} {e : Expr} {ta : TA} {p pos tpos : Pos} {elts : List Expr} {kk : Nat} (eK : X.K = K) (hg : Gl X "enumerate") (hm : X.mg "enumerate" = none) (ha : PA X [e] ta) (hs : starEach [e] X.env = [(false, eval e X.env)] := by rfl) :
    PI X (.Tuple elts kk tpos) (.Call (.Name "enumerate" p) [e] [] pos) (iEnumT K ta) := by
  subst eK
  exact pi_enumT hg hm ha hs
abbrev keyD (k : List Int) : PyData := .tuple (k.map .int)
def rNList (K : PySem.W.Frag) (P : Program) (w : World) : List V → Hp → VK → Prop := fun xs H Q => ∃ d m, xs = [V.ref d] ∧ DiAt K P w H d m ∧ ∀ p, H p = none → Q (.ref p) (upd H p (.lst (m.map fun e => V.ref e.2.1)))
theorem call_nlist {X : Cx} {K : PySem.W.Frag} {P : Program} {w : World} (e1 : X.K = K) (e2 : X.prog = P) (e3 : X.w = w) (hc : X.calm = true) : CallR X (.type "list") (rNList K P w) := by
  subst e1 e2 e3
  intro pins s σ H xs us Q I r h
  obtain ⟨d, m, rfl, dA, q⟩ := h
  obtain ⟨u, rfl, rx⟩ := vals1 r
  cases rx
  obtain ⟨z, y, ys, rel, o, es, ep, ho, hx, hdt, he, _, _⟩ := dic_of I dA.r
  have l1 : es.size = ys.length := size_of_entries he
  have l2 : m.length = ys.length := Paired.length rel
  refine PySem.W.kdl_call (kdl_raw y hx hdt) (I.ok.hd hc) ho (by omega) fun h' tk acc c kp eo it => ?_
  have lens : acc.toList.length = m.length := by
    rw [Array.length_toList, it.1]
    omega
  have keys : ∀ {ms : Dkv} {zs : List (List Int × Addr × Value)}, DRel ms zs → ∀ (j : Nat) (z : List Int × Addr × Value), zs[j]? = some z → ∃ e, ms[j]? = some e ∧ e.2.1 = z.2.1 := by
    intro ms zs q
    induction q with
    | nil => intro j z hz; simp at hz
    | @cons a b as bs hab t ih =>
      intro j z hz
      cases j with
      | zero =>
        cases hz
        exact ⟨a, rfl, hab.2.1⟩
      | succ j => exact ih j z hz
  refine ⟨.ref s.heap.objs.size, _, I.laid (t' := tk) (o := .lst (m.map fun e => V.ref e.2.1)) kp (Nat.le_refl _) ⟨by rw [List.length_map]; exact z, acc.toList, c, ?_, by rw [Array.toArray_toList]; exact eo⟩, rfl, q _ (I.hok.fresh (Nat.le_refl _))⟩
  refine vals_of_at (by rw [List.length_map, lens]) fun j x v h1 h2 => ?_
  obtain ⟨en, hen, rfl⟩ := it.2 j v (by rw [← Array.getElem?_toList]; exact h2)
  have qe := entry_at he j
  rw [hen] at qe
  cases hb : ys[j]? with
  | none => rw [hb] at qe; exact nomatch (show some en = none from qe)
  | some b =>
    rw [hb] at qe
    have e2 : en = entryOfKey (TK X.prog X.w) b := Option.some.inj qe
    obtain ⟨e, hm, hee⟩ := keys rel j b hb
    rw [List.getElem?_map, hm] at h1
    cases h1
    rw [e2]
    show Value.ref b.2.1 = Value.ref e.2.1
    rw [hee]
section
variable {K : PySem.W.Frag} {P : Program} {w : World} {H H' Hd Hd' Hn H1 H2 : Hp} {σ : L2.St} {te ty td : TE} {L : List (List Int × V)} {D : Ends} {tz : TS} {i : Nat} {a : Addr} {xs : List V} {qs : List (List Int)} {k : List Int}
theorem dpa_keys : ∀ {m : Dkv}, KeysAt K H m → DpAll K H (m.map fun e => V.ref e.2.1) (m.map fun e => keyD e.1)
  | [], _ => .nil
  | e :: m, h => .cons (key_dp (h e List.mem_cons_self)) (dpa_keys fun x hx => h x (List.mem_cons_of_mem _ hx))
theorem en_listC (h : EvC K P w te σ Hd L) : EvN K (tCB (rNList K P w) (tCons te tNil)) σ Hd (L.map fun x => keyD x.1) := fun H s Q q =>
  h H s _ fun a m H2 Hn g ha hn h2 hk e => ⟨a, m, rfl, ⟨h2, hk.mono g.sub⟩, fun p hp => by
    refine q p _ _ Hn (g.trans (Gr.alloc g.sub hp)) (fresh_back g.ex hp) (fresh_back g.sub hp) upd_same ?_
    have h1 := dpa_keys hk
    have e2 : (m.map fun e => keyD e.1) = L.map fun x => keyD x.1 := by
      rw [← e, List.map_map]
      rfl
    rw [e2] at h1
    exact h1⟩
theorem keys_refs : ∀ {qs : List (List Int)} {xs : List V}, DpAll K H xs (qs.map keyD) → ∃ ks : List (Addr × List Int), xs = ks.map (fun p => V.ref p.1) ∧ ks.map (·.2) = qs ∧ ∀ p ∈ ks, SqT K H p.1 (p.2.map V.int)
  | [], _, h => by cases h; exact ⟨[], rfl, rfl, fun _ h => (by cases h)⟩
  | q :: qs, _, h => by
    cases h with
    | cons h1 h2 =>
      obtain ⟨p, rfl, hp⟩ := dp_key h1
      obtain ⟨ks, rfl, e, hk⟩ := keys_refs h2
      refine ⟨(p, q) :: ks, rfl, by rw [List.map_cons, e], fun x hx => ?_⟩
      rcases List.mem_cons.mp hx with rfl | hx
      · exact hp
      · exact hk x hx
/-- the set at a of these tuples -/
structure SiAt (K : PySem.W.Frag) (P : Program) (w : World) (Hn H : Hp) (a : Addr) (qs : List (List Int)) : Prop where
  ex : ∃ L, H a = some (SetO P w a L) ∧ (∀ p ∈ L, SqT K Hn p.1 (p.2.map V.int)) ∧ ∀ k, k ∈ L.map (·.2) ↔ k ∈ qs
theorem go_asgS (s : Ex Hd H) (h : EvD K te σ Hd (.list (qs.map keyD))) (hl : qs.length < 200) (kk : ∀ a H' Hn, Gr Hd H Hn H' → H a = none → Hn a = none → SiAt K P w Hn H' a qs → Go tz D (σ.set i (some (.ref a))) H') : Go (tSeq (tAsg (tCB (rSetL K P w) (tCons te tNil)) (gName i)) tz) D σ H := fun H1 e1 =>
  h H1 (s.trans e1) _ fun v H2 Hn g hv => by
    cases hv with
    | @lst l xs ds hs hall =>
      obtain ⟨ks, rfl, e, hk⟩ := keys_refs hall
      refine ⟨l, ks, rfl, ex_l g.sub hs, fun p hp => ex_t g.sub (hk p hp), by rw [← e, List.length_map] at hl; exact hl, fun a L ha h1 h2 => ?_⟩
      refine kk a _ Hn ((g.trans (Gr.alloc g.sub ha)).pre e1) (fresh_back (e1.trans g.ex) ha) (fresh_back g.sub ha) ⟨L, upd_same, fun p hp => hk p (h1 p hp), fun k => ?_⟩ _ (Ex.refl _)
      constructor
      · intro h3
        obtain ⟨p, hp, rfl⟩ := List.mem_map.mp h3
        rw [← e]
        exact List.mem_map.mpr ⟨p, h1 p hp, rfl⟩
      · intro h3
        rw [← e] at h3
        obtain ⟨p, hp, rfl⟩ := List.mem_map.mp h3
        exact h2 p hp
theorem ev_inS (s : Ex Hd H) (hn : Ex Hn H) (hk : EvD K ty σ Hd (keyD k)) (hd : Ev td σ H (.ref a)) (S : SiAt K P w Hn H a qs) : Ev (tInS K P w ty td) σ H (.bl (decide (k ∈ qs))) := fun H1 e1 Q q =>
  hk H1 (s.trans e1) _ fun v H2 Hm g hv => hd H2 (e1.trans g.ex) _ fun H3 e3 => by
    obtain ⟨p, rfl, hp⟩ := dp_key hv
    obtain ⟨L, h1, h2, h3⟩ := S.ex
    have e4 : Ex H H3 := (e1.trans g.ex).trans e3
    refine ⟨a, L, p, k, rfl, rfl, e4 _ _ h1, fun x hx => ex_t (hn.trans e4) (h2 x hx), ex_t (g.sub.trans e3) hp, ?_⟩
    have e5 : decide (k ∈ L.map (·.2)) = decide (k ∈ qs) := by
      by_cases c : k ∈ qs
      · rw [decide_eq_true c, decide_eq_true ((h3 k).mpr c)]
      · rw [decide_eq_false c, decide_eq_false fun z => c ((h3 k).mp z)]
    rw [e5]
    exact q H3 (g.ex.trans e3)
theorem SiAt.mono {Hn' : Hp} (S : SiAt K P w Hn H a qs) (e1 : Ex Hn Hn') (e2 : ∀ o, H a = some o → H' a = some o) : SiAt K P w Hn' H' a qs := by
  obtain ⟨L, h1, h2, h3⟩ := S.ex
  exact ⟨L, e2 _ h1, fun p hp => ex_t e1 (h2 p hp), h3⟩
end
end Cot

set_option Elab.async false
set_option linter.all false
set_option maxRecDepth 100000
set_option maxHeartbeats 4000000
/-! sorted of pairs of tuples of ints that rise already, of any number. -/
namespace Cot
open PySem PySem.Spec PyProof.Rows L2 Evl
theorem lex_irr : ∀ x : List Int, HT.lexLt x x = false
  | [] => rfl
  | a :: x => by simp [HT.lexLt, lex_irr x]
theorem lex_tot : ∀ x y : List Int, HT.lexLt x y = true ∨ x = y ∨ HT.lexLt y x = true
  | [], [] => .inr (.inl rfl)
  | [], _ :: _ => .inl rfl
  | _ :: _, [] => .inr (.inr rfl)
  | a :: x, b :: y => by
    rcases Int.lt_trichotomy a b with h | h | h
    · exact .inl (by simp [HT.lexLt, h, Int.ne_of_lt h])
    · subst h
      rcases lex_tot x y with k | k | k
      · exact .inl (by simp [HT.lexLt, k])
      · exact .inr (.inl (by rw [k]))
      · exact .inr (.inr (by simp [HT.lexLt, k]))
    · exact .inr (.inr (by simp [HT.lexLt, h, Int.ne_of_lt h]))
theorem lex_tr : ∀ {x y z : List Int}, HT.lexLt x y = true → HT.lexLt y z = true → HT.lexLt x z = true
  | [], _ :: _, _ :: _, _, _ => rfl
  | [], [], _, h, _ => by cases h
  | _, _ :: _, [], _, h => by simp [HT.lexLt] at h
  | _ :: _, [], _, h, _ => by simp [HT.lexLt] at h
  | a :: x, b :: y, c :: z, h1, h2 => by
    simp only [HT.lexLt] at h1 h2 ⊢
    by_cases e1 : a = b
    · subst e1
      rw [if_pos rfl] at h1
      by_cases e2 : a = c
      · subst e2
        rw [if_pos rfl] at h2 ⊢
        exact lex_tr h1 h2
      · rw [if_neg e2] at h2 ⊢
        exact h2
    · rw [if_neg e1, decide_eq_true_eq] at h1
      by_cases e2 : b = c
      · subst e2
        rw [if_neg e1, decide_eq_true_eq]
        exact h1
      · rw [if_neg e2, decide_eq_true_eq] at h2
        rw [if_neg (by omega), decide_eq_true_eq]
        omega
abbrev Key2 := List Int × List Int
def ltK (p q : Key2) : Bool := if p.1 = q.1 then HT.lexLt p.2 q.2 else HT.lexLt p.1 q.1
theorem ltK_tot (p q : Key2) : ltK p q = true ∨ p = q ∨ ltK q p = true := by
  unfold ltK
  by_cases e : p.1 = q.1
  · rw [if_pos e, if_pos e.symm]
    rcases lex_tot p.2 q.2 with h | h | h
    · exact .inl h
    · exact .inr (.inl (Prod.ext e h))
    · exact .inr (.inr h)
  · rw [if_neg e, if_neg fun z => e z.symm]
    rcases lex_tot p.1 q.1 with h | h | h
    · exact .inl h
    · exact absurd h e
    · exact .inr (.inr h)
theorem ltK_irr (p : Key2) : ltK p p = false := by
  unfold ltK
  rw [if_pos rfl]
  exact lex_irr _
theorem ltK_tr {p q r : Key2} (h1 : ltK p q = true) (h2 : ltK q r = true) : ltK p r = true := by
  unfold ltK at h1 h2 ⊢
  by_cases e1 : p.1 = q.1
  · by_cases e2 : q.1 = r.1
    · rw [if_pos e1] at h1
      rw [if_pos e2] at h2
      rw [if_pos (e1.trans e2)]
      exact lex_tr h1 h2
    · rw [if_neg e2] at h2
      rw [if_neg (by rw [e1]; exact e2), e1]
      exact h2
  · rw [if_neg e1] at h1
    by_cases e2 : q.1 = r.1
    · rw [if_neg (by rw [← e2]; exact e1), ← e2]
      exact h1
    · rw [if_neg e2] at h2
      have h3 := lex_tr h1 h2
      rw [if_neg fun z => by rw [z, lex_irr] at h3; cases h3]
      exact h3
theorem ltK_swo {α : Type} (k : α → Key2) : SrtO.Swo fun x y => ltK (k x) (k y) := by
  have as : ∀ p q : Key2, ltK p q = true → ltK q p = false := fun p q h => by
    cases e : ltK q p with
    | false => rfl
    | true =>
      have h2 := ltK_tr h e
      rw [ltK_irr] at h2
      cases h2
  refine ⟨fun x y h => as _ _ h, fun x y z h1 h2 => ?_⟩
  cases e : ltK (k z) (k x) with
  | false => rfl
  | true =>
    rcases ltK_tot (k z) (k y) with h | h | h
    · rw [h2] at h; cases h
    · rw [h] at e; rw [e] at h1; cases h1
    · have := ltK_tr h e
      rw [h1] at this
      cases this
/-! the two tuples of a pair, read off the heap -/
def firstOf (h : Heap) (v : Value) : Value × Value := match v with
  | .ref a => match h.get? a with
    | some o => match o.data with
      | .seq xs _ => (xs.getD 0 .none, xs.getD 1 .none)
      | _ => (.none, .none)
    | none => (.none, .none)
  | _ => (.none, .none)
def keyOf (h : Heap) (v : Value) : Key2 := (TS.intsOf h (firstOf h v).1, TS.intsOf h (firstOf h v).2)
/-- v is a pair of tuples of ints -/
def IsPP (P : Program) (w : World) (h : Heap) (v : Value) (k : Key2) : Prop := ∃ a o x y n, v = .ref a ∧ h.get? a = some o ∧ o.cls = .type "tuple" ∧ o.data = .seq #[.ref x, .ref y] n ∧ IsT P w h k.1 x ∧ IsT P w h k.2 y
section
variable {P : Program} {w : World} {A : Around} {E : Value → Shared → Prop} {s : Shared} {h h' : Heap} {v u : Value} {k k' : Key2}
theorem IsPP.key (p : IsPP P w h v k) : keyOf h v = k := by
  obtain ⟨a, o, x, y, n, rfl, ho, hc, hd, hx, hy⟩ := p
  have e : firstOf h (.ref a) = (.ref x, .ref y) := by
    unfold firstOf
    simp only [ho, hd]
    rfl
  unfold keyOf
  rw [e]
  exact Prod.ext (tupInts_of hx).ints (tupInts_of hy).ints
theorem isT_tups {k : List Int} {b : Addr} (x : IsT P w h k b) (kp : ∀ b o, h.get? b = some o → o.cls = .type "tuple" → h'.get? b = some o) : IsT P w h' k b := by
  obtain ⟨o, items, n, ho, hc, r⟩ := x
  exact ⟨o, items, n, kp b o ho hc, hc, r⟩
theorem IsPP.keeps (p : IsPP P w h v k) (kp : ∀ b o, h.get? b = some o → o.cls = .type "tuple" → h'.get? b = some o) : IsPP P w h' v k := by
  obtain ⟨a, o, x, y, n, e, ho, hc, hd, hx, hy⟩ := p
  exact ⟨a, o, x, y, n, e, kp a o ho hc, hc, hd, isT_tups hx kp, isT_tups hy kp⟩
theorem lt_T {x y : List Int} {a b : Addr} {Q : Value → Shared → Prop} (hx : IsT P w s.heap x a) (hy : IsT P w s.heap y b) (hu : A.units < cLine) (q : Q (.bool (HT.lexLt x y)) s) : wpAny (model P w) A (compareOp .Lt (.ref a) (.ref b)) Q E s := by
  obtain ⟨o, xs, n, ho, hc, hd, hi⟩ := hx
  obtain ⟨o2, ys, n2, ho2, hc2, hd2, hi2⟩ := hy
  exact HT.lt_tupInts ⟨o, ho, hc, n, hd⟩ ⟨o2, ho2, hc2, n2, hd2⟩ (ints_of_items hi) (ints_of_items hi2) hu q
theorem pp_cmp {vs : List Value} (hu : A.units < cLine) (hp : ∀ v ∈ vs, ∃ k, IsPP P w s.heap v k) (κ : Value → Key2) (hκ : ∀ v ∈ vs, ∀ k, IsPP P w s.heap v k → κ v = k) : SrtO.Cmp P w A s (tuples' false) (fun p => p.1 ∈ vs) (SrtO.lt2 fun v u => ltK (κ v) (κ u)) := by
  intro p q hm hm'
  obtain ⟨k, h1⟩ := hp _ hm
  obtain ⟨k', h2⟩ := hp _ hm'
  show wpAny (model P w) A (keyLt' (tuples' false) p.1 q.1) (fun r s' => s' = s ∧ r = ltK (κ p.1) (κ q.1)) (fun _ _ => False) s
  rw [hκ _ hm k h1, hκ _ hm' k' h2]
  obtain ⟨a, o, x, y, n, e, ho, hc, hd, hx, hy⟩ := h1
  obtain ⟨a', o', x', y', n', e', ho', hc', hd', hx', hy'⟩ := h2
  rw [e, e']
  refine PySem.W.kat_lt ho hd ho' hd' ?_
  show PySem.W.KatLex P w A false (decide (2 < 2)) _ [(.ref x, .ref x'), (.ref y, .ref y')] 0 s
  refine PySem.W.kat_cons (wpAny_eqBool_tuple hu hx hx' ?_)
  unfold ltK
  refine PySem.W.kat_go (fun e1 => ?_) (fun e1 => ?_)
  · have ex := of_decide_eq_true e1
    rw [if_pos ex]
    refine PySem.W.kat_yes (PySem.W.kat_cons (wpAny_eqBool_tuple hu hy hy' ?_))
    refine PySem.W.kat_go (fun e2 => ?_) (fun e2 => ?_)
    · have ey := of_decide_eq_true e2
      refine PySem.W.kat_yes (PySem.W.kat_nil ⟨rfl, ?_⟩)
      rw [ey, lex_irr]
      rfl
    · exact PySem.W.kat_no (PySem.W.kat_one _ _ (lt_T hy hy' hu (show s = s ∧ HT.lexLt k.2 k'.2 = HT.lexLt k.2 k'.2 from ⟨rfl, rfl⟩)))
  · have ex := of_decide_eq_false e1
    rw [if_neg ex]
    exact PySem.W.kat_no (PySem.W.kat_one _ _ (lt_T hx hx' hu (show s = s ∧ HT.lexLt k.1 k'.1 = HT.lexLt k.1 k'.1 from ⟨rfl, rfl⟩)))
theorem pp_firsts : ∀ {vs : List Value}, (∀ v ∈ vs, ∃ k, IsPP P w h v k) → ∃ fs : List Value, PySem.W.KatTups h vs fs ∧ fs.length = vs.length ∧ ∀ f ∈ fs, ∃ x k, f = Value.ref x ∧ IsT P w h k x
  | [], _ => ⟨[], PySem.W.KatTups.nil, rfl, fun _ h => (by cases h)⟩
  | v :: vs, hp => by
    obtain ⟨fs, h1, h2, h3⟩ := pp_firsts fun v hv => hp v (List.mem_cons_of_mem _ hv)
    obtain ⟨k, a, o, x, y, n, rfl, ho, hc, hd, hx, hy⟩ := hp v List.mem_cons_self
    refine ⟨.ref x :: fs, PySem.W.KatTups.cons ho hc hd rfl h1, by rw [List.length_cons, h2, List.length_cons], fun f hf => ?_⟩
    rcases List.mem_cons.mp hf with rfl | hf
    · exact ⟨x, k.1, rfl, hx⟩
    · exact h3 f hf
theorem sorted_pp {l : Addr} {vs : List Value} {Q : Value → Shared → Prop} (hu : A.units + 3 < cLine) (hl : s.heap.IsList l vs.toArray) (hz : vs.length ≤ sizeLine) (hp : ∀ v ∈ vs, ∃ k, IsPP P w s.heap v k)
    (q : ∀ (h' : Heap) (d : Addr) (out : List Value), SrtO.Srtd (fun v u => ltK (keyOf s.heap v) (keyOf s.heap u)) out → SrtO.Stb (fun v u => ltK (keyOf s.heap v) (keyOf s.heap u)) out vs → (∀ b o, s.heap.get? b = some o → h'.get? b = some o) → s.heap.objs.size ≤ d → (∃ n, h'.get? d = some (seqObj "list" out.toArray n)) → Q (.ref d) { s with heap := h' }) :
    wpAny (model P w) A (call (.builtin "sorted") [.ref l]) Q E s := by
  refine SrtO.sorted_ord (ltK_swo (keyOf s.heap)) hl hz (fun h2 h₁ a ha kk => ?_) fun out hs hb => q _ _ out hs hb (fun b o e => sortedAll_old e) (Nat.le_succ _) (sortedAll_at s.heap vs out.toArray)
  intro h' keep
  have noT : ∀ o, h₁.get? a = some o → o.cls ≠ .type "tuple" := fun o e c => by
    have e' : some o = some (seqObj "list" vs.toArray 0) := e.symm.trans ha
    cases e'
    exact absurd (Value.type.inj c) (by decide)
  have kp : ∀ b o, s.heap.get? b = some o → o.cls = .type "tuple" → h'.get? b = some o := fun b o e c => keep b o (kk b o e).1 (kk b o e).2
  have hp' : ∀ v ∈ vs, ∃ k, IsPP P w h' v k := fun v hm => by
    obtain ⟨k, z⟩ := hp v hm
    exact ⟨k, z.keeps kp⟩
  obtain ⟨fs, f1, f2, f3⟩ := pp_firsts hp'
  refine ⟨tuples' false, fun Q E hq => ?_, pp_cmp (s := { s with heap := h' }) (by show A.units + 2 < cLine; omega) hp' (keyOf s.heap) fun v hm k z => ?_⟩
  · refine PySem.W.kat_kind (T := .type "tuple") f1 (by omega) (fun f hm => ?_) (by rfl) ?_
    · obtain ⟨x, k, rfl, hx⟩ := f3 f hm
      obtain ⟨o, items, n, ho, hc, _⟩ := hx
      have z : PySem.W.Looks (model P w) h' (typeOf (.ref x)) o.cls := (PySem.W.Looks.ld ho).andThen .now
      rw [hc] at z
      exact z
    · have e : (Value.type "tuple" != Value.type "tuple") = false := by first | decide +kernel | rfl | decide
      rw [e]
      exact hq
  · obtain ⟨k2, z2⟩ := hp v hm
    rw [z2.key, ← z.key, (z2.keeps kp).key]
end
/-! ### as a rule: what rises already stays -/
abbrev pairK (k : Key2) : PyData := .tuple [keyD k.1, keyD k.2]
/-- rising: none lies below one ahead of it -/
def Rises (ks : List Key2) : Prop := ks.Pairwise fun x y => ltK y x = false
def rSortQ (K : PySem.W.Frag) : List V → Hp → VK → Prop := fun vs H Q => ∃ (a : Addr) (xs : List V) (ks : List Key2), vs = [V.ref a] ∧ SqL K H a xs ∧ DpAll K H xs (ks.map pairK) ∧ Rises ks ∧ ∀ p, H p = none → Q (.ref p) (upd H p (.lst xs))
theorem dpp {X : Cx} {pins : List (Addr × Obj)} {σ : L2.St} {H : Hp} {s : Shared} (I : Inv X pins σ H s) : ∀ {ks : List Key2} {xs : List V} {us : List Value}, DpAll X.K H xs (ks.map pairK) → Vals xs us → us.map (keyOf s.heap) = ks ∧ ∀ u ∈ us, ∃ k, IsPP X.prog X.w s.heap u k
  | [], _, _, h, r => by
    cases h
    cases r
    exact ⟨rfl, fun _ h => (by cases h)⟩
  | k :: ks, _, _, h, r => by
    cases h with
    | cons h1 h2 =>
      cases r with
      | @cons x u xs us r1 r2 =>
        obtain ⟨e, hp⟩ := dpp I h2 r2
        have pp : IsPP X.prog X.w s.heap u k := by
          cases h1 with
          | @tup p ys ds hs hall =>
            cases hall with
            | cons g1 g2 =>
              cases g2 with
              | cons g2 g3 =>
                cases g3
                obtain ⟨x1, rfl, q1⟩ := dp_key g1
                obtain ⟨x2, rfl, q2⟩ := dp_key g2
                obtain ⟨its, rv, ⟨o, ho, hc, n, hd⟩, _⟩ := I.tuple hs
                cases r1
                cases rv with
                | cons ra rb =>
                  cases rb with
                  | cons rb rc =>
                    cases rc
                    cases ra
                    cases rb
                    exact ⟨p, o, x1, x2, n, rfl, ho, hc, hd, I.isT q1, I.isT q2⟩
        refine ⟨by rw [List.map_cons, pp.key, e], fun y hy => ?_⟩
        rcases List.mem_cons.mp hy with rfl | hy
        · exact ⟨k, pp⟩
        · exact hp y hy
theorem call_sortQ {X : Cx} {K : PySem.W.Frag} (eK : X.K = K) (hu : X.A.units + 64 < cLine) : CallR X (.builtin "sorted") (rSortQ K) := by
  subst eK
  intro pins s σ H vs us Q I r h
  obtain ⟨a, xs, ks, rfl, hs, hx, rise, q⟩ := h
  obtain ⟨its, rv, hl, hz⟩ := I.list hs
  obtain ⟨u, rfl, ru⟩ := vals1 r
  cases ru
  obtain ⟨e, hp⟩ := dpp I hx rv
  refine sorted_pp (by omega) hl.isList (by rw [← rv.length]; exact hz) hp fun h' d out h1 h2 kp hd hn => ?_
  have sv : SrtO.Srtd (fun v u => ltK (keyOf s.heap v) (keyOf s.heap u)) its := by
    unfold Rises at rise
    rw [← e, List.pairwise_map] at rise
    exact rise
  have eo : out = its := SrtO.stb_uniq (ltK_swo (keyOf s.heap)) h1 sv h2
  subst eo
  obtain ⟨n, hn⟩ := hn
  exact ⟨.ref d, upd H d (.lst xs), I.laid (t' := s.toks) kp hd ⟨hz, out, n, rv, hn⟩, rfl, q d (I.hok.fresh hd)⟩
theorem en_sortQ {K : PySem.W.Frag} {Hd : Hp} {σ : L2.St} {te : TE} {ks : List Key2} (h : EvD K te σ Hd (.list (ks.map pairK))) (hr : Rises ks) : EvN K (tCB (rSortQ K) (tCons te tNil)) σ Hd (ks.map pairK) := fun H s Q q =>
  h H s _ fun v H2 Hn g hv => by
    cases hv with
    | @lst a xs ds hs hall => exact ⟨a, xs, ks, rfl, ex_l g.sub hs, dpa_mono g.sub _ hall, hr, fun p hp => q p _ _ Hn (g.trans (Gr.alloc g.sub hp)) (fresh_back g.ex hp) (fresh_back g.sub hp) upd_same hall⟩
end Cot

set_option Elab.async false
set_option linter.all false
set_option maxRecDepth 100000
set_option maxHeartbeats 4000000
/-! Dict comprehensions of one clause whose keys are tuples of ints. -/
namespace Cot
open PySem PySem.Spec PyProof.Rows L2 Evl
section
variable {prog : Program} {w : World} {A : Around} {R : Result → Shared → Prop} {s : Shared} {kx vx t0 i0 : Expr} {fs0 : List Expr} {sc : Scope} {pos : Pos} {it acc : Value} {env : Env} {D : Addr}
theorem turn_d1 : compTurn (dc1 kx vx t0 i0 fs0 sc pos) 0 it (.ref D) env = (do
    standAt i0.pos
    match ← pyNext it with
    | none => pure (.done .next)
    | some v =>
      letOwnedTupleGo t0 it v
      assign t0 env v
      let ok ← asks fs0 env
      if ok then
        (do
          let kv ← eval kx env
          let vv ← holding [kv] (eval vx env)
          standAt { kx.pos with endLine := vx.pos.endLine, endCol := vx.pos.endCol }
          holding [kv, vv] (dictSet D kv vv))
      again (.compLoop (dc1 kx vx t0 i0 fs0 sc pos) 0 it (.ref D) env)) := by rfl
theorem loop_d1 (I : Nat → Shared → Prop)
    (turn : ∀ n s, I n s → wpAny (model prog w) A (pyNext it) (fun r s₁ => match r with
      | none => R (.ok .next) s₁
      | some v => wpAny (model prog w) A (letOwnedTupleGo t0 it v) (fun _ s₂ => wpAny (model prog w) A (assign t0 env v) (fun _ s₃ => wpAny (model prog w) A (asks fs0 env) (fun ok s₄ =>
          if ok = true then wpAny (model prog w) A (eval kx env) (fun kv s₅ => wpAny (model prog w) A (eval vx env) (fun vv s₆ => wpAny (model prog w) A (dictSet D kv vv) (fun _ s₇ => ∃ m, m < n ∧ I m s₇) (bad prog w A env R) s₆) (bad prog w A env R) s₅) (bad prog w A env R) s₄
          else ∃ m, m < n ∧ I m s₄) (bad prog w A env R) s₃) (bad prog w A env R) s₂) (bad prog w A env R) s₁) (bad prog w A env R) s)
    (n : Nat) (h : I n s) : codeAny (model prog w) A (.compLoop (dc1 kx vx t0 i0 fs0 sc pos) 0 it (.ref D) env) R s := by
  refine codeAny_loop rfl I (fun n s hI => ?_) n h
  show wpAny _ A ((compTurn (dc1 kx vx t0 i0 fs0 sc pos) 0 it (.ref D) env).onRaise (fun x => do noteFrame x env; theTreesLotGoes x)) _ _ s
  refine wpAny_noted ?_
  rw [turn_d1]
  refine wpAny_bind (wpAny_standAt (wpAny_bind (wpAny_mono (turn n s hI) (fun r s₁ k1 => ?_) fun _ _ z => z)))
  cases r with
  | none => exact wpAny_pure k1
  | some v =>
    refine wpAny_bind (wpAny_mono k1 (fun _ s₂ k2 => wpAny_bind (wpAny_mono k2 (fun _ s₃ k3 => wpAny_bind (wpAny_mono k3 (fun ok s₄ k4 => ?_) fun _ _ z => z)) fun _ _ z => z)) fun _ _ z => z)
    cases ok with
    | false => exact wpAny_pure ⟨rfl, k4⟩
    | true => exact wpAny_bind (wpAny_bind (wpAny_mono k4 (fun kv s₅ k5 => wpAny_bind (wpAny_holding (wpAny_mono k5 (fun vv s₆ k6 => wpAny_bind (wpAny_standAt (wpAny_holding (wpAny_mono k6 (fun _ s₇ k7 => wpAny_pure ⟨rfl, k7⟩) fun _ _ z => z)))) fun _ _ z => z))) fun _ _ z => z))
end
section
variable {X : Cx}
theorem nc1_core {pins : List (Addr × Obj)} {s : Shared} {σ : L2.St} {H : Hp} {Q : VK} {kx vx t0 i0 : Expr} {fs0 : List Expr} {sc : Scope} {own : List (Str × Nat)} {pos pos' : Pos} {wi : TI} {g : TG} {tt : TT} {tk tv : TE} {use : Option (Value → Sem Unit)} {Qf : Value → Shared → Prop} (hu : X.A.units < cLine) (hc : X.calm = true) (hN : X.N.Nodup) (I : Inv X pins σ H s)
    (hi : PI X t0 i0 wi) (ok : BlkOk X.N X.env.scope sc own) (hg : Blk X sc fun Y => PG Y t0 g) (ht : Blk X sc fun Y => PTs Y fs0 tt)
    (hk : Blk X sc fun Y => PE Y kx tk) (he : Blk X sc fun Y => PE Y vx tv) (hs : ∀ x, foldedSetIterable i0 X.env x = pure x) (h : tNc1 X.K X.prog X.w wi g tt tk tv (own.map (·.2)) σ H Q)
    (hRR : ∀ D C s' m H', Inv X pins σ H' s' → Q (.ref D) H' → s'.heap.Ns C m → FpOk X pins H' C → compPost (model X.prog X.w) X.A X.xe use Qf (.ref D) C (.ok .next) s') :
    wpAny (model X.prog X.w) X.A (comprehension (dc1 kx vx t0 i0 fs0 sc pos) sc X.env pos' newDict false (eval i0 X.env) use) Qf X.xe s := by
  have cells : ∀ y ∈ sc.names, y.2 = .free → ∃ c, X.env.cells.lookup y.1 = some c := fun y hy e => (ok.free y hy e).elim (fun k => I.ok.has _ (.inl k)) fun k => I.ok.has _ (.inr k)
  refine wpAny_comprehension_free (use := use) rfl hs (closure_ok cells) ok.kind (fun y hy e => by rw [ok.uniq y hy, e]) (thn (hi.run pins s σ H _ I h) fun xv s1 hx => thn hx fun itv s2 h2 => ?_)
  obtain ⟨it, fp, tn, J, H2, e, I2, T, st2, f2, q⟩ := h2
  subst e
  refine wpAny_newObj_type (newEnv_comp ?_)
  generalize hD : s2.heap.objs.size = D
  obtain ⟨W, ⟨m0, w0⟩, turn⟩ := q D (I2.hok.fresh (Nat.le_of_eq hD))
  generalize hs3 : ({ s2 with heap := s2.heap.push { cls := .type "dict", data := .dict #[] } } : Shared) = s3
  have h3 : s3.heap = s2.heap.push { cls := .type "dict", data := .dict #[] } := by rw [← hs3]
  have I3 : Inv X pins σ (upd H2 D (DicO X.prog X.w D [])) s3 := by
    rw [← hs3]
    refine I2.laid (t' := s2.toks) (fun b o e => Heap.get?_push_of_some _ e) (Nat.le_of_eq hD) ?_
    rw [← hD]
    exact dicO_ok (dic_empty I2.big)
  have f3 : ∀ b ∈ fp, FpOk X pins (upd H2 D (DicO X.prog X.w D [])) b ∧ b < s3.heap.objs.size := fun b hb => by
    obtain ⟨o, eo, _⟩ := T.obj _ _ st2 b hb
    have lt : b < s2.heap.objs.size := Heap.lt_size eo
    refine ⟨⟨?_, (f2 b hb).2⟩, by rw [h3, Heap.size_push]; exact Nat.lt_succ_of_lt lt⟩
    rw [upd_ne (by rw [← hD]; exact Nat.ne_of_lt lt)]
    exact (f2 b hb).1
  have I4 := block_start I3 ok hN f3
  have pg := hg s3 (upd H2 D (DicO X.prog X.w D [])) s3.heap.objs.size (cellsFrom (s3.heap.objs.size + 1) sc.names (cloFrom X.env.cells sc.names [])) fp
  have pt := ht s3 (upd H2 D (DicO X.prog X.w D [])) s3.heap.objs.size (cellsFrom (s3.heap.objs.size + 1) sc.names (cloFrom X.env.cells sc.names [])) fp
  have pk := hk s3 (upd H2 D (DicO X.prog X.w D [])) s3.heap.objs.size (cellsFrom (s3.heap.objs.size + 1) sc.names (cloFrom X.env.cells sc.names [])) fp
  have pv := he s3 (upd H2 D (DicO X.prog X.w D [])) s3.heap.objs.size (cellsFrom (s3.heap.objs.size + 1) sc.names (cloFrom X.env.cells sc.names [])) fp
  have none3 : ∀ b ∈ fp, (upd H2 D (DicO X.prog X.w D [])) b = none := fun b hb => (f3 b hb).1.1
  show codeAny _ _ (.compStart (dc1 kx vx t0 i0 fs0 sc pos) 0 (.ref it) (.ref D) (compEnvC sc (cellsFrom (s3.heap.objs.size + 1) sc.names (cloFrom X.env.cells sc.names [])) s3.heap.objs.size X.env)) _ { s3 with heap := pushCells (s3.heap.push { cls := .type "dict", data := .dict #[] }) sc.names }
  generalize hce : compEnvC sc (cellsFrom (s3.heap.objs.size + 1) sc.names (cloFrom X.env.cells sc.names [])) s3.heap.objs.size X.env = ce at I4 pg pt pk pv ⊢
  have loc : ce.locals = s3.heap.objs.size := by subst hce; rfl
  generalize upd H2 D (DicO X.prog X.w D []) = H3 at I3 I4 pg pt pk pv w0 none3 f3
  generalize hs4 : ({ s3 with heap := pushCells (s3.heap.push { cls := .type "dict", data := .dict #[] }) sc.names } : Shared) = s4 at I4 ⊢
  have st4 : tn 0 s4.heap := T.keep _ _ _ st2 fun b _ o e => by
    rw [← hs4]
    refine pushCells_keeps _ _ _ _ (Heap.get?_push_of_some _ ?_)
    rw [h3]
    exact Heap.get?_push_of_some _ e
  have stat : ∀ {σ' : L2.St} {H' : Hp} {s' : Shared}, Inv (X.blk s3 H3 sc ce fp) [] σ' H' s' → (∀ b ∈ fp, H' b = none) → ∀ b ∈ fp, FpOk (X.blk s3 H3 sc ce fp) [] H' b := fun {σ' H' s'} I' hn b hb =>
    ⟨hn b hb, (I'.ok.exf b hb).1, I'.ok.exfs b hb, .inl hb, fun x c e => (I'.ok.exf b hb).2 x c e, fun p hp => (by simp at hp : False).elim⟩
  have loop : codeAny (model X.prog X.w) X.A (.compLoop (dc1 kx vx t0 i0 fs0 sc pos) 0 (.ref it) (.ref D) ce) (compPost (model X.prog X.w) X.A X.xe use Qf (.ref D) s3.heap.objs.size) s4 := by
    refine loop_d1 (fun n s' => ∃ i H', Inv (X.blk s3 H3 sc ce fp) [] (wipe σ (own.map (·.2))) H' s' ∧ tn i s'.heap ∧ (∀ b ∈ fp, H' b = none) ∧ W i n H') ?_ m0 ⟨0, H3, I4, st4, none3, w0⟩
    rintro n s5 ⟨i, H5, I5, st5, n5, w5⟩
    rcases turn i n H5 w5 with ⟨stop, qq⟩ | ⟨go, Nx, hNx, step⟩
    · refine thnF (T.done (X.blk s3 H3 sc ce fp) rfl rfl rfl hc i [] s5 _ H5 (fun _ _ => False) I5 (stat I5 n5) st5 stop) fun r s6 ⟨hr, I6⟩ => ?_
      subst hr
      have I7 : Inv X pins σ H5 s6 := I3.call' (ch := fp) I6.os I6.base I6.hok I6.bare fun b hb => ⟨(f3 b hb).1.2.2.2.1, (f3 b hb).1.2.1, (f3 b hb).1.2.2.2.2.1, (f3 b hb).1.2.2.2.2.2⟩
      have nC : H5 s3.heap.objs.size = none := by
        rw [← loc]
        exact I6.free
      obtain ⟨m, hn, _⟩ := I6.loc
      replace hn : s6.heap.Ns ce.locals m := hn
      rw [loc] at hn
      exact hRR D s3.heap.objs.size s6 m H5 I7 qq hn (I3.fpOk (Nat.le_refl _) nC)
    · refine thnF (T.item (X.blk s3 H3 sc ce fp) rfl rfl rfl hc i [] s5 _ H5 (fun _ _ => False) I5 (stat I5 n5) st5 go) fun r s6 ⟨u, hr, h6⟩ => ?_
      subst hr
      refine thnF h6 fun _ s7 ⟨x, H7, I7, r7, y7, st7, n7⟩ => ?_
      refine thnF (pg.run _ s7 _ H7 x u _ (I7.pinned (stat I7 n7) (T.obj _ _ st7)) r7 (step x H7 y7)) fun _ s8 ⟨σ8, H8, I8, hw8, q8⟩ => ?_
      refine thnF (pt.run _ s8 σ8 H8 _ I8 q8) fun b s9 ⟨H9, I9, q9⟩ => ?_
      have fin : ∀ {s' : Shared} {H' : Hp}, Inv (X.blk s3 H3 sc ce fp) ([] ++ pinsAt fp s7.heap) σ8 H' s' → Nx H' →
          ∃ m, m < n ∧ ∃ i H', Inv (X.blk s3 H3 sc ce fp) [] (wipe σ (own.map (·.2))) H' s' ∧ tn i s'.heap ∧ (∀ b ∈ fp, H' b = none) ∧ W i m H' := fun {s' H'} I' nx => by
        obtain ⟨m', hm, w'⟩ := hNx H' nx
        have pin' : ∀ b ∈ fp, ∀ o, s7.heap.get? b = some o → s'.heap.get? b = some o ∧ H' b = none := fun b hb o e =>
          let z := I'.pin (b, o) (List.mem_append_right _ (List.mem_append_right _ (mem_pinsAt hb e)))
          ⟨z.1, z.2.1⟩
        refine ⟨m', hm, i + 1, H', (I'.unpinned (pins := [])).weak (by rw [← hw8, wipe_length]) (fun j v e => by rw [← hw8] at e; exact (wipe_some e).1), T.keep _ _ _ st7 fun b hb o e => (pin' b hb o e).1, fun b hb => ?_, w'⟩
        obtain ⟨o, e, _⟩ := T.obj _ _ st7 b hb
        exact (pin' b hb o e).2
      cases b with
      | false =>
        simp only [Bool.false_eq_true, if_false] at q9 ⊢
        exact fin I9 q9
      | true =>
        simp only [if_true] at q9 ⊢
        refine thnF (pk.run _ s9 σ8 H9 _ I9 q9) fun kv s17 ⟨yk, H17, I17, r17, q17⟩ => ?_
        refine thnF (pv.run _ s17 σ8 H17 _ I17 q17) fun vv s18 ⟨yv, H18, I18, r18, mm, bb, kk, ek, dA, hb18, hz, nx⟩ => ?_
        subst ek
        cases r17
        exact dic_set (X := X.blk s3 H3 sc ce fp) hu I18 dA hb18 hz r18 fun s19 I19 => fin I19 nx
  exact codeAny_compStart_dict loop (T.self X.A 0 _ _ _ st4 loop)
theorem pe_nc1 {kx vx t0 i0 : Expr} {fs0 : List Expr} {sc : Scope} {own : List (Str × Nat)} {pos : Pos} {wi : TI} {g : TG} {tt : TT} {tk tv : TE} {K : PySem.W.Frag} {P : Program} {w : World} (eK : X.K = K) (eP : X.prog = P) (ew : X.w = w) (hu : X.A.units < cLine) (hc : X.calm = true) (hN : X.N.Nodup)
    (hi : PI X t0 i0 wi) (ok : BlkOk X.N X.env.scope sc own) (hg : Blk X sc fun Y => PG Y t0 g) (ht : Blk X sc fun Y => PTs Y fs0 tt)
    (hk : Blk X sc fun Y => PE Y kx tk) (he : Blk X sc fun Y => PE Y vx tv) (hs : ∀ x, foldedSetIterable i0 X.env x = pure x := by intro _; rfl) :
    PE X (dc1 kx vx t0 i0 fs0 sc pos) (tNc1 K P w wi g tt tk tv (own.map (·.2))) := by
  subst eK eP ew
  refine ⟨fun pins s σ H Q I h => ?_⟩
  rw [arm_eval_DictComp]
  exact nc1_core (Qf := EP X pins σ Q) hu hc hN I hi ok hg ht hk he hs h fun D C s' m H' I' q hn f => ⟨m, hn, fun h'' sb => ⟨.ref D, H', I'.turned (t' := s'.toks) (fun b o hb e => (sb.2 b hb).trans e) f.1 f.2.1 f.2.2.2.1 f.2.2.2.2.1 f.2.2.2.2.2, rfl, q⟩⟩
/-- a local name made a dict by a comprehension -/
theorem ps_setNc1 {i : Nat} {y : Str} {py : Pos} {kx vx t0 i0 : Expr} {fs0 : List Expr} {sc : Scope} {own : List (Str × Nat)} {pos spos : Pos} {wi : TI} {g : TG} {tt : TT} {tk tv : TE} {K : PySem.W.Frag} {P : Program} {w : World} (eK : X.K = K) (eP : X.prog = P) (ew : X.w = w) (hu : X.A.units < cLine) (hc : X.calm = true) (hN : X.N.Nodup) (hy : X.N[i]? = some y) (hyl : X.env.scope.names.lookup y = some .local)
    (hsw : swapsWith (dc1 kx vx t0 i0 fs0 sc pos) (some (.Name y py)) spos.line X.env = pure true) (hi : PI X t0 i0 wi) (ok : BlkOk X.N X.env.scope sc own) (hg : Blk X sc fun Y => PG Y t0 g) (ht : Blk X sc fun Y => PTs Y fs0 tt)
    (hk : Blk X sc fun Y => PE Y kx tk) (he : Blk X sc fun Y => PE Y vx tv) (hs : ∀ x, foldedSetIterable i0 X.env x = pure x := by intro _; rfl) :
    PS X (.Assign [.Name y py] (dc1 kx vx t0 i0 fs0 sc pos) spos) (tAsg (tNc1 K P w wi g tt tk tv (own.map (·.2))) (gName i)) := by
  subst eK eP ew
  refine ⟨fun pins s σ H D I h => ?_⟩
  rw [exec_Assign_Name_used _ _ _ _ hsw]
  refine wpAny_bind (wpAny_standAt (wpAny_bind ?_))
  show wpAny _ X.A (do let _ ← comprehension (dc1 kx vx t0 i0 fs0 sc pos) sc X.env (firstIterPos [⟨t0, i0, fs0, 0⟩] pos) newDict false (eval i0 X.env) (some (assign (.Name y py) X.env))) _ _ s
  have h0 : tNc1 X.K X.prog X.w wi g tt tk tv (own.map (·.2)) σ H (fun x H1 => gName i x σ H1 D.nx) := h
  refine wpAny_bind (thn (nc1_core (Qf := fun _ s' => SP X pins D .next s') hu hc hN I hi ok hg ht hk he hs h0 fun L C s' m H' I' q hn f => ?_) fun _ s' hq => wpAny_pure (wpAny_pure hq))
  show wpAny _ _ (assign (.Name y py) X.env (.ref L)) _ _ _
  refine wpAny_assign_Name (store_ok2 (v := V.ref L) I' hN hy (.inl hyl) rfl (fun s2 I2 ⟨a, sb, ha⟩ => ?_) (.inr hyl))
  have apart : C ≠ a := ha.elim (fun z => by rw [z]; exact f.2.1) fun z e => f.2.2.2.2.1 y a z e.symm
  exact ⟨m, hn.sameBut sb apart, fun h3 sb3 => ⟨_, H', I2.turned (t' := s2.toks) (fun b o hb e => (sb3.2 b hb).trans e) f.1 f.2.1 f.2.2.2.1 f.2.2.2.2.1 f.2.2.2.2.2, q⟩⟩
theorem swD_true {kx vx : Expr} {gs : List Comprehension} {scope : Scope} {pos py : Pos} {y : Str} {l : Nat} {env : Env} (kd : env.scope.kind = .function) (own : env.scope.names.lookup y = some .local) (row : (py.line == pos.line) = true)
    (no : (scope.names.any fun (n, k) => n == y && (k == .local || k == .cell)) = false) : swapsWith (.DictComp kx vx gs scope pos) (some (.Name y py)) l env = pure true := by
  have k1 : env.kindOf y = some .local := own
  have k2 : env.blockKind = .function := by
    unfold Env.blockKind
    rw [kd]
    rfl
  unfold swapsWith
  simp only [k2, k1, no, Expr.pos, row]
  rfl
end
end Cot

set_option Elab.async false
set_option linter.all false
set_option maxRecDepth 100000
set_option maxHeartbeats 4000000
/-! A dict whose values are lists of its own. -/
namespace Cot
open PySem PySem.Spec PyProof.Rows L2 Evl
def NbM (K : PySem.W.Frag) (P : Program) (w : World) (H0 Hd H : Hp) (a : Addr) (m : Dkv) (f : List Int → List PyData) : Prop := H a = some (DicO P w a m) ∧ H0 a = none ∧ Hd a = none ∧ KeysAt K Hd m ∧
  (∀ e ∈ m, ∃ p xs, e.2.2 = V.ref p ∧ p ≠ a ∧ H0 p = none ∧ Hd p = none ∧ H p = some (.lst xs) ∧ DpAll K Hd xs (f e.1)) ∧ ∀ e ∈ m, ∀ e' ∈ m, (e.2.2 = e'.2.2 ↔ e.1 = e'.1)
def NbAt (K : PySem.W.Frag) (P : Program) (w : World) (H0 Hd H : Hp) (a : Addr) (ks : List (List Int)) (f : List Int → List PyData) : Prop := ∃ m, NbM K P w H0 Hd H a m f ∧ m.map (·.1) = ks
/-- a new dict of new lists -/
def EvL (K : PySem.W.Frag) (P : Program) (w : World) (te : TE) (σ : L2.St) (Hd : Hp) (ks : List (List Int)) (f : List Int → List PyData) : Prop := ∀ H, Ex Hd H → ∀ Q : VK, (∀ a H2 Hn, Gr Hd H Hn H2 → NbAt K P w H Hn H2 a ks f → Q (.ref a) H2) → te σ H Q
def spL (K : PySem.W.Frag) (P : Program) (w : World) (R : List PyData → List (List Int) → (List Int → List PyData) → Prop) : Sp := fun vs H Q _ => ∃ Hd ds ks f, Ex Hd H ∧ DpAll K Hd vs ds ∧ R ds ks f ∧ ∀ a H2 Hn, Gr Hd H Hn H2 → NbAt K P w H Hn H2 a ks f → Q (.ref a) H2
section
variable {K : PySem.W.Frag} {P : Program} {w : World} {H H' Hd Hd' Hn H0 H1 H2 Hd0 : Hp} {σ : L2.St} {te tk tv td tx : TE} {tr : TA} {tt : TT} {n : Nat} {wi : TI} {g : TG} {ks : List (List Int)} {f : List Int → List PyData} {ds : List PyData} {D : Ends} {tz : TS} {i : Nat} {a : Addr} {m : Dkv}
theorem NbM.mono (N : NbM K P w H0 Hd H a m f) (h0 : Ex H1 H0) (g : Gr Hd H Hn H2) : NbM K P w H1 Hn H2 a m f := by
  obtain ⟨h1, h2, h3, h4, h5, h6⟩ := N
  refine ⟨g.ex _ _ h1, fresh_back h0 h2, g.fr _ _ h1 h3, h4.mono g.dx, fun e he => ?_, h6⟩
  obtain ⟨p, xs, e1, e2, e3, e4, e5, e6⟩ := h5 e he
  exact ⟨p, xs, e1, e2, fresh_back h0 e3, g.fr _ _ e5 e4, g.ex _ _ e5, dpa_mono g.dx _ e6⟩
theorem NbAt.mono (N : NbAt K P w H0 Hd H a ks f) (h0 : Ex H1 H0) (g : Gr Hd H Hn H2) : NbAt K P w H1 Hn H2 a ks f := by
  obtain ⟨m, h, e⟩ := N
  exact ⟨m, h.mono h0 g, e⟩
theorem NbAt.same {f' : List Int → List PyData} (N : NbAt K P w H0 Hd H a ks f) (h : ∀ k, f k = f' k) : NbAt K P w H0 Hd H a ks f' := by
  have e : f = f' := funext h
  rw [← e]
  exact N
theorem el_call {R : List PyData → List (List Int) → (List Int → List PyData) → Prop} {E : XK} (h : EvDA K tr σ Hd ds) (hr : R ds ks f) : EvL K P w (tCall (spL K P w R) [] E tr) σ Hd ks f := fun H s Q q =>
  h H s _ fun vs H2 Hn g hd => ⟨Hn, ds, ks, f, g.sub, by rw [List.append_nil]; exact hd, hr, fun a H3 Hm g3 N => q a H3 Hm (g.trans g3) (N.mono g.ex (Gr.refl g3.sub))⟩
theorem go_asgL (s : Ex Hd H) (h : EvL K P w te σ Hd ks f) (k : ∀ a H2 Hn, Gr Hd H Hn H2 → NbAt K P w H Hn H2 a ks f → Go tz D (σ.set i (some (.ref a))) H2) : Go (tSeq (tAsg te (gName i)) tz) D σ H := fun H1 e1 =>
  h H1 (s.trans e1) _ fun a H2 Hn g N => k a H2 Hn (g.pre e1) (N.mono e1 (Gr.refl g.sub)) H2 (Ex.refl _)
theorem gr_upd {l : Addr} {o : HO} (G : Gr Hd0 H0 Hd H) (h0 : H0 l = none) (hg : Hd l = none) : Gr Hd0 H0 Hd (upd H l o) := ⟨Ex.mut G.ex h0, G.dx, Ex.mut G.sub hg, G.fr⟩
/-- d[k].append(x) -/
theorem go_appL {k : List Int} {v : V} {d : PyData} (G : Gr Hd0 H0 Hd H) (N : NbAt K P w H0 Hd H a ks f) (ha : Ev td σ H (.ref a)) (hk : EvD K tk σ Hd (keyD k)) (hx : Ev tx σ H v) (hv : Dp K Hd v d) (hm : k ∈ ks) (hz : (f k).length < 100000)
    (kk : ∀ H', Gr Hd0 H0 Hd H' → NbAt K P w H0 Hd H' a ks (fun k' => f k' ++ if k' = k then [d] else []) → Go tz D σ H') : Go (tSeq (tDrop (tBM K "list" rAppend (tNGet K P w td tk) (tCons tx tNil))) tz) D σ H := by
  obtain ⟨m, ⟨h1, h2, h3, h4, h5, h6⟩, e⟩ := N
  cases hval : valD m k with
  | none =>
    rw [← e] at hm
    obtain ⟨x, hx, ex⟩ := List.mem_map.mp hm
    exact absurd ex (valD_none.mp hval x hx)
  | some z =>
    obtain ⟨b, hb⟩ := valD_mem hval
    obtain ⟨p, xs, e1, e2, e3, e4, e5, e6⟩ := h5 _ hb
    have e1 : z = .ref p := e1
    subst e1
    refine go_app (K := K) e5 (ev_nget G.sub ha hk ⟨h1, h4.mono G.sub⟩ hval) hx (by rw [dpa_len e6]; exact hz) (kk _ (gr_upd G e3 e4) ⟨m, ⟨?_, h2, h3, h4, fun x hx => ?_, h6⟩, e⟩)
    · rw [upd_ne e2.symm]
      exact h1
    · obtain ⟨p', xs', u1, u2, u3, u4, u5, u6⟩ := h5 x hx
      by_cases c : x.1 = k
      · have e7 := (h6 x hx _ hb).mpr c
        rw [u1] at e7
        have e7 : V.ref p' = V.ref p := e7
        cases e7
        refine ⟨p, xs' ++ [v], u1, u2, u3, u4, ?_, ?_⟩
        · rw [upd_same]
          rw [u5] at e5
          cases e5
          rfl
        · show DpAll K Hd _ (f x.1 ++ if x.1 = k then [d] else [])
          rw [if_pos c]
          exact dpa_app u6 (.cons hv .nil)
      · refine ⟨p', xs', u1, u2, u3, u4, ?_, ?_⟩
        · rw [upd_ne]
          · exact u5
          · intro z
            subst z
            exact c ((h6 x hx _ hb).mp u1)
        · show DpAll K Hd _ (f x.1 ++ if x.1 = k then [d] else [])
          rw [if_neg c, List.append_nil]
          exact u6
/-- {k: [] for ..} -/
theorem el_nc1 {S : Nat → L2.St → L2.St → Hp → Prop} {vs : List Nat} (kv : Nat → List Int) (h : EvI K wi g σ Hd n S) (hz : n ≤ 90000) (hnd : ∀ i j, i < j → j < n → kv i ≠ kv j)
    (ht : ∀ (i : Nat) (σ2 : L2.St) (Hn : Hp), i < n → Ex Hd Hn → S i (wipe σ vs) σ2 Hn → wipe σ2 vs = wipe σ vs ∧ EvD K tk σ2 Hn (keyD (kv i))) :
    EvL K P w (tNc1 K P w wi g tYes tk (tLst tNil) vs) σ Hd ((List.range n).map kv) (fun _ => []) := fun H s Q q =>
  h H s _ fun J H1 Hn G Y gr wk hG hY D hD => by
    refine ⟨fun i c H' => c = n - i ∧ i ≤ n ∧ ∃ Hm mm, Gr Hn H1 Hm H' ∧ NbM K P w H1 Hm H' D mm (fun _ => []) ∧ mm.map (·.1) = (List.range i).map kv, ⟨n, by simp, Nat.zero_le _, Hn, [], Gr.alloc gr.sub hD, ⟨upd_same, hD, fresh_back gr.sub hD, fun _ h => (by cases h), fun _ h => (by cases h), fun _ h => (by cases h)⟩, rfl⟩, ?_⟩
    rintro i c H' ⟨rfl, hi, Hm, mm, g0, N, hL⟩
    have q0 := hG H' (g0.dx.trans g0.sub)
    by_cases hlt : i < n
    · refine .inr ⟨wk.goes i H' hlt q0, fun H2 => ∃ Hm mm, Gr Hn H1 Hm H2 ∧ NbM K P w H1 Hm H2 D mm (fun _ => []) ∧ mm.map (·.1) = (List.range (i + 1)).map kv, fun H2 p' => ⟨n - (i + 1), by omega, rfl, hlt, p'⟩, fun x H'' y => ?_⟩
      refine hY i x H' H'' _ _ hlt (g0.dx.trans g0.sub) (wk.yields i H' x H'' hlt q0 y) fun σ2 H3 e3 hS => ?_
      obtain ⟨hw, hE⟩ := ht i σ2 Hn hlt gr.dx hS
      refine ⟨hw, ?_⟩
      show tk σ2 H3 _
      refine (hE.mono g0.dx) H3 (g0.sub.trans e3) _ fun yv H4 Hp g4 hy => ?_
      obtain ⟨p, rfl, hp⟩ := dp_key hy
      have G4 : Gr Hn H1 Hp H4 := (g0.post e3).trans g4
      obtain ⟨h1, h2, h3, h4, h5, h6⟩ := N.mono (Ex.refl _) ((Gr.ext g0.sub e3).trans g4)
      refine ⟨by show 0 ≤ sizeLine; decide, fun pl hpl => ?_⟩
      have npl : pl ≠ D := (ne_of_none h1 hpl).symm
      have lm : mm.length = i := by
        have l1 := congrArg List.length hL
        rw [List.length_map, List.length_map, List.length_range] at l1
        exact l1
      have nk : ∀ x ∈ mm, x.1 ≠ kv i := fun x hx e => by
        have h1 : x.1 ∈ (List.range i).map kv := by
          rw [← hL]
          exact List.mem_map.mpr ⟨x, hx, rfl⟩
        obtain ⟨j, hj, ej⟩ := List.mem_map.mp h1
        exact hnd j i (List.mem_range.mp hj) hlt (ej.trans e)
      have fr : valD mm (kv i) = none := valD_none.mpr nk
      have hne : ∀ x ∈ mm, x.2.2 ≠ V.ref pl := fun x hx e => by
        obtain ⟨p', xs', u1, u2, u3, u4, u5, u6⟩ := h5 x hx
        rw [u1] at e
        cases e
        rw [hpl] at u5
        cases u5
      refine ⟨mm, p, kv i, rfl, ⟨by rw [upd_ne npl.symm]; exact h1, h4.mono (g4.sub.trans (Ex.new hpl))⟩, ex_t (g4.sub.trans (Ex.new hpl)) hp, sz_lt (by omega), Hp, putD mm (kv i) p (.ref pl), gr_upd (gr_upd G4 (fresh_back G4.ex hpl) (fresh_back g4.sub hpl)) h2 h3, ⟨upd_same, h2, h3, h4.put hp, ?_, ?_⟩, ?_⟩
      · rw [putD_new _ _ fr]
        intro x hx
        rcases List.mem_append.mp hx with hx | hx
        · obtain ⟨p', xs', u1, u2, u3, u4, u5, u6⟩ := h5 x hx
          refine ⟨p', xs', u1, u2, u3, u4, ?_, u6⟩
          rw [upd_ne u2, upd_ne (fun z => hne x hx (by rw [u1, z]))]
          exact u5
        · rw [List.mem_singleton] at hx
          subst hx
          refine ⟨pl, [], rfl, npl, fresh_back G4.ex hpl, fresh_back g4.sub hpl, ?_, .nil⟩
          rw [upd_ne npl]
          exact upd_same
      · rw [putD_new _ _ fr]
        intro x hx y hy
        rcases List.mem_append.mp hx with hx | hx <;> rcases List.mem_append.mp hy with hy | hy
        · exact h6 x hx y hy
        · rw [List.mem_singleton] at hy
          subst hy
          exact ⟨fun z => absurd z (hne x hx), fun z => absurd z (nk x hx)⟩
        · rw [List.mem_singleton] at hx
          subst hx
          exact ⟨fun z => absurd z.symm (hne y hy), fun z => absurd z.symm (nk y hy)⟩
        · rw [List.mem_singleton] at hx hy
          subst hx
          subst hy
          exact ⟨fun _ => rfl, fun _ => rfl⟩
      · rw [putD_new _ _ fr, List.map_append, hL, List.range_succ, List.map_append]
        rfl
    · have e : i = n := by omega
      subst e
      exact .inl ⟨wk.stops H' q0, q D H' Hm (gr.trans g0) ⟨mm, N.mono gr.ex (Gr.refl g0.sub), hL⟩⟩
end
end Cot

set_option Elab.async false
set_option linter.all false
set_option maxRecDepth 100000
set_option maxHeartbeats 4000000
/-! Whether data stands in a list; new lists that are made while it is drawn. -/
namespace Cot
open PySem PySem.Spec PyProof.Rows L2 Evl
theorem u65 {k : Nat} {A : Around} (r : Room k A) : A.units + 65 < cLine := by have := r.un; omega
section
variable {K : PySem.W.Frag} {P : Program} {w : World} {b : Bid} {H H' Hd Hd' Hn H0 H1 H2 : Hp} {σ : L2.St} {te ta tb tk td : TE} {tr : TA} {ks : List (List Int)} {f : List Int → List PyData} {ds es : List PyData} {d : PyData} {a : Addr} {k : List Int} {Ps Ps' : List PyData → Prop} {p : Int → Prop} {i : Nat} {D : Ends} {tz : TS}
theorem ev_inD (ha : EvD K ta σ Hd d) (hb : EvD K tb σ Hd (.list ds)) (s1 : SeqAt.shaped d = true) (s2 : SeqAt.shaped (.list ds) = true) : Ev (tOp (rInD K) ta tb) σ Hd (.bl (ds.any fun z => PyData.eqv z d)) := fun H s Q q =>
  ha H s _ fun v H2 Hn g hd => hb.mono g.dx H2 g.sub _ fun v2 H3 Hm g3 hd3 => ⟨d, ds, dp_mono (g3.dx.trans g3.sub) _ hd, dp_mono g3.sub _ hd3, s1, s2, q H3 (g.ex.trans g3.ex)⟩
/-- x in d.get(k, []) -/
theorem ev_inGet {Hx : Hp} (s : Ex Hd H) (sx : Ex Hx H) (N : NbAt K P w H0 Hd H a ks f) (hx : EvD K ta σ Hx d) (ha : Ev td σ H (.ref a)) (hk : EvD K tk σ Hx (keyD k)) (h0 : k ∉ ks → f k = []) (s1 : SeqAt.shaped d = true) (s2 : SeqAt.shaped (.list (f k)) = true) :
    Ev (tOp (rInD K) ta (tNGet2 K P w td tk (tLst tNil))) σ H (.bl ((f k).any fun z => PyData.eqv z d)) := fun H1 e1 Q q => by
  obtain ⟨m, ⟨h1, h2, h3, h4, h5, h6⟩, e⟩ := N
  refine hx H1 (sx.trans e1) _ fun x H2 D2 g2 hdx => ha H2 (e1.trans g2.ex) _ fun H3 e3 => ?_
  have s3 : Ex D2 H3 := g2.sub.trans e3
  have x3 : Ex H H3 := (e1.trans g2.ex).trans e3
  refine ⟨a, m, rfl, ⟨.inl (x3 _ _ h1), h4.mono (s.trans x3)⟩, (hk.mono g2.dx) H3 s3 _ fun y H4 D4 g4 hy => ?_⟩
  obtain ⟨b, rfl, hb⟩ := dp_key hy
  have x4 : Ex H H4 := x3.trans g4.ex
  refine ⟨by show 0 ≤ sizeLine; decide, fun l hl => ?_⟩
  have x5 : Ex H (upd H4 l (.lst [])) := x4.trans (Ex.new hl)
  have d5 : Dp K (upd H4 l (.lst [])) x d := dp_mono (((g4.dx.trans g4.sub)).trans (Ex.new hl)) _ hdx
  refine ⟨b, k, rfl, ⟨.inl (x5 _ _ h1), h4.mono (s.trans x5)⟩, ex_t (g4.sub.trans (Ex.new hl)) hb, ?_⟩
  have xq : Ex H1 (upd H4 l (.lst [])) := ((g2.ex.trans e3).trans g4.ex).trans (Ex.new hl)
  cases hval : valD m k with
  | none =>
    have hn : k ∉ ks := fun hm => by
      rw [← e] at hm
      obtain ⟨z, hz, ez⟩ := List.mem_map.mp hm
      exact valD_none.mp hval z hz ez
    rw [h0 hn] at q s2
    exact ⟨d, [], d5, .lst (sq_of upd_same) .nil, s1, s2, q _ xq⟩
  | some z =>
    obtain ⟨bb, hbb⟩ := valD_mem hval
    obtain ⟨p, xs, e1', e2, e3', e4, e5, e6⟩ := h5 _ hbb
    have ez : z = .ref p := e1'
    subst ez
    exact ⟨d, f k, d5, .lst (sq_of (x5 _ _ e5)) (dpa_mono (s.trans x5) _ e6), s1, s2, q _ xq⟩
/-- a new list, made while it is drawn -/
def EvBN (K : PySem.W.Frag) (b : Bid) (te : TE) (σ : L2.St) (Hd : Hp) (P : List PyData → Prop) : Prop := Hd b.b = none → ∀ H, Ex Hd H → Bx H b → ∀ Q : VK, (∀ p xs H2 Hn ds, GrB b Hd H Hn H2 → H p = none → Hn p = none → H2 p = some (.lst xs) → DpAll K Hn xs ds → P ds → Q (.ref p) H2) → te σ H Q
theorem EvBN.imp (h : EvBN K b te σ Hd Ps) (k : ∀ ds, Ps ds → Ps' ds) : EvBN K b te σ Hd Ps' := fun hb H s B Q q => h hb H s B Q fun p xs H2 Hn ds g h1 h2 h3 h4 h5 => q p xs H2 Hn ds g h1 h2 h3 h4 (k ds h5)
theorem EvBN.mono (e : Ex Hd Hd') (h : EvBN K b te σ Hd Ps) : EvBN K b te σ Hd' Ps := fun hb H s B Q q => h (fresh_back e hb) H (e.trans s) B Q fun p xs H2 Hn ds g h1 h2 h3 h4 h5 =>
  q p xs H2 _ ds (g.up e s hb).1 h1 (by
    unfold un
    rw [fresh_back s h1]
    exact h2) h3 (dpa_mono (g.up e s hb).2 _ h4) h5
theorem bn_new (h : EvN K te σ Hd ds) : EvBN K b te σ Hd (fun es => es = ds) := fun hb H s B Q q => h H s Q fun p xs H2 Hn g h1 h2 h3 h4 => q p xs H2 Hn ds (GrB.of g B) h1 h2 h3 h4 rfl
theorem bn_lst (h : EvBA K b tr σ Hd Ps) (hl : ∀ ds, Ps ds → ds.length ≤ 100000) : EvBN K b (tLst tr) σ Hd Ps := fun hb H s B Q q =>
  h hb H s B _ fun vs H1 Hn ds g hd hp => ⟨sz_of (by rw [dpa_len hd]; exact hl ds hp), fun a ha => q a vs _ Hn ds (g.post (Ex.new ha)) (g.fresh ha) (fresh_back g.sub ha) upd_same hd hp⟩
theorem bn_cat (h1 : EvBN K b ta σ Hd Ps) (h2 : EvBN K b tb σ Hd Ps') (hl : ∀ d1 d2, Ps d1 → Ps' d2 → d1.length + d2.length ≤ 100000) : EvBN K b (tOp rCat ta tb) σ Hd (fun ds => ∃ d1 d2, ds = d1 ++ d2 ∧ Ps d1 ∧ Ps' d2) := fun hb H s B Q q =>
  h1 hb H s B _ fun p1 xs1 H1 D1 d1 g1 a1 a2 a3 a4 a5 => (h2.mono g1.dx) (g1.bn hb B) H1 g1.sub g1.bx _ fun p2 xs2 H2 D2 d2 g2 b1 b2 b3 b4 b5 => by
    have G := g1.trans g2 hb B
    have nb : p1 ≠ b.b := (B.apart a1).1
    refine ⟨p1, p2, xs1, xs2, rfl, rfl, g2.exb _ _ nb a3, b3, sz_of (by rw [dpa_len a4, dpa_len b4]; exact hl d1 d2 a5 b5), fun l hl' => ?_⟩
    exact q l _ _ D2 (d1 ++ d2) (G.post (Ex.new hl')) (G.fresh hl') (fresh_back G.sub hl') upd_same (dpa_app (dpa_mono g2.dx _ a4) b4) ⟨d1, d2, rfl, a5, b5⟩
theorem eb_bn (h : EvBN K b te σ Hd Ps) : EvB K b te σ Hd (fun d => ∃ ds, d = .list ds ∧ Ps ds) := fun hb H s B Q q => h hb H s B Q fun p xs H2 Hn ds g h1 h2 h3 h4 h5 =>
  q (.ref p) H2 (upd Hn p (.lst xs)) (.list ds) (g.add h1 h2 h3) (.lst (sq_of upd_same) (dpa_mono (Ex.new h2) _ h4)) ⟨ds, rfl, h5⟩
/-- xs[:n], n drawn -/
theorem bn_upto (h : EvD K te σ Hd (.list ds)) (h2 : EvB K b tb σ Hd (isI p)) (hp : ∀ i, p i → 0 ≤ i) : EvBN K b (tSl (rSlL K) te tNoPart (tPart tb)) σ Hd (fun es => ∃ j : Nat, es = ds.take j) := fun hb H s B Q q =>
  h H s _ fun v H1 D1 g1 hd => by
    have G1 := GrB.of g1 B
    refine (h2.mono g1.dx) (G1.bn hb B) H1 g1.sub G1.bx _ fun v2 H2 D2 d2 g2 hd2 hp2 => ?_
    obtain ⟨n, rfl, hn⟩ := hp2
    cases hd2
    cases dp_mono g2.dx _ hd with
    | @lst l xs ds hs hall =>
      refine ⟨n, rfl, l, xs, rfl, ex_l g2.sub hs, fun r hr => ?_⟩
      have G := G1.trans g2 hb B
      obtain ⟨j, rfl⟩ := Int.eq_ofNat_of_zero_le (hp n hn)
      refine q r _ _ D2 (ds.take (min j ds.length)) (G.post (Ex.new hr)) (G.fresh hr) (fresh_back G.sub hr) upd_same ?_ ⟨_, rfl⟩
      unfold cutV
      rw [HT.sIx_none, HT.sIx_nat, List.drop_zero, Nat.sub_zero, dpa_len hall]
      exact dpa_take _ hall
end
end Cot

set_option Elab.async false
set_option linter.all false
set_option maxRecDepth 100000
set_option maxHeartbeats 4000000
/-! A dict of one's own, walked; pairs of ints sorted. -/
namespace Cot
open PySem PySem.Spec PyProof.Rows L2 Evl
theorem dicF_ok {P : Program} {w : World} {H : Hp} {h : Heap} {a : Addr} {m : Dkv} {o : Obj} (ho : h.get? a = some o) (d : DicP P w h a m) : ObjOk P w H h a (DicF P w a m o) := by
  refine ⟨⟨ho, d⟩, ⟨o, ho⟩, ?_⟩
  rintro h1 h2 ⟨q, z, y, xs, r, n, o', es, ep, ho', rest⟩ k
  exact ⟨k _ q, z, y, xs, r, n, o', es, ep, k o' ho', rest⟩
section
variable {X : Cx} {pins : List (Addr × Obj)} {σ : L2.St} {H : Hp} {s : Shared} {d : Addr} {m : Dkv} {o : Obj}
theorem fix_of (I : Inv X pins σ H s) (h : H d = some (DicF X.prog X.w d m o)) : (d == sysModules) = false ∧ s.heap.get? d = some o ∧ o.ExactDict ∧ ∃ (es : Array DictEntry) (ep : Nat), o.data = .dict es ep ∧ es.size = m.length ∧ ∀ (i : Nat) (e : List Int × Addr × V), m[i]? = some e → ∃ en : DictEntry, es[i]? = some en ∧ en.key = .ref e.2.1 := by
  obtain ⟨ho, z, y, xs, r, n, o', es, ep, ho', hx, hd, he⟩ := (show ObjOk X.prog X.w H s.heap d (DicF X.prog X.w d m o) from I.hok d _ h).1
  rw [ho] at ho'
  cases ho'
  have l1 : es.size = xs.length := size_of_entries he
  have l2 : m.length = xs.length := Paired.length r
  refine ⟨y, ho, hx, es, ep, hd, by omega, fun i e hm => ?_⟩
  have keys : ∀ {ms : Dkv} {zs : List (List Int × Addr × Value)}, DRel ms zs → ∀ (j : Nat) (e : List Int × Addr × V), ms[j]? = some e → ∃ z, zs[j]? = some z ∧ e.2.1 = z.2.1 := by
    intro ms zs q
    induction q with
    | nil => intro j z hz; simp at hz
    | @cons a b as bs hab t ih =>
      intro j z hz
      cases j with
      | zero =>
        cases hz
        exact ⟨b, rfl, hab.2.1⟩
      | succ j => exact ih j z hz
  obtain ⟨b, hb, e2⟩ := keys r i e hm
  have q := entry_at he i
  rw [hb] at q
  exact ⟨_, q, by rw [e2]; rfl⟩
theorem fix_in (I : Inv X pins σ H s) (h : H d = some (DicO X.prog X.w d m)) : ∃ o, Inv X pins σ (upd H d (DicF X.prog X.w d m o)) s := by
  have hp := (show ObjOk X.prog X.w H s.heap d (DicO X.prog X.w d m) from I.hok d _ h).1
  obtain ⟨z, y, xs, r, n, o, es, ep, ho, rest⟩ := id hp
  exact ⟨o, d_write (h' := s.heap) (t' := s.toks) I (by rw [h]; exact True.intro) (Heap.SameBut.refl _ _) ⟨o, ho⟩ (dicF_ok ho hp)⟩
theorem fix_out (I : Inv X pins σ H s) (h : H d = some (DicF X.prog X.w d m o)) : Inv X pins σ (upd H d (DicO X.prog X.w d m)) s := by
  obtain ⟨ho, hp⟩ := (show ObjOk X.prog X.w H s.heap d (DicF X.prog X.w d m o) from I.hok d _ h).1
  exact d_write (h' := s.heap) (t' := s.toks) I (by rw [h]; exact True.intro) (Heap.SameBut.refl _ _) ⟨o, ho⟩ (dicO_ok hp)
end
/-- the statement runs while the dict's object stays -/
def tFix (P : Program) (w : World) (t : TS) : TS := fun D σ H => ∃ d m, H d = some (DicO P w d m) ∧ ∀ o, t ⟨fun σ' H' => H' d = some (DicF P w d m o) ∧ D.nx σ' (upd H' d (DicO P w d m)), fun v H' => H' d = some (DicF P w d m o) ∧ D.rt v (upd H' d (DicO P w d m)), fun σ' H' => H' d = some (DicF P w d m o) ∧ D.bk σ' (upd H' d (DicO P w d m)), fun σ' H' => H' d = some (DicF P w d m o) ∧ D.ct σ' (upd H' d (DicO P w d m))⟩ σ (upd H d (DicF P w d m o))
theorem ps_fix {X : Cx} {P : Program} {w : World} {st : Stmt} {t : TS} (eP : X.prog = P) (ew : X.w = w) (h : PS X st t) : PS X st (tFix P w t) := by
  subst eP ew
  refine ⟨fun pins s σ H D I hw => ?_⟩
  obtain ⟨d, m, hd, hw⟩ := hw
  obtain ⟨o, I1⟩ := fix_in I hd
  refine thn (h.run pins s σ _ _ I1 (hw o)) fun f s1 q => ?_
  cases f with
  | next => obtain ⟨σ', H', I2, e, q⟩ := q; exact ⟨σ', _, fix_out I2 e, q⟩
  | brk => obtain ⟨σ', H', I2, e, q⟩ := q; exact ⟨σ', _, fix_out I2 e, q⟩
  | cont => obtain ⟨σ', H', I2, e, q⟩ := q; exact ⟨σ', _, fix_out I2 e, q⟩
  | ret v => obtain ⟨x, σ', H', I2, r, e, q⟩ := q; exact ⟨x, σ', _, fix_out I2 e, r, q⟩
def ItN (P : Program) (w : World) (d : Addr) (m : Dkv) (o : Obj) : It :=
  ⟨fun i H => H d = some (DicF P w d m o) ∧ i < m.length, fun i H x H' => H' = H ∧ ∃ e, m[i]? = some e ∧ x = .ref e.2.1, fun i H => H d = some (DicF P w d m o) ∧ m.length ≤ i⟩
section
variable {P : Program} {w : World} {K : PySem.W.Frag} {tg : Expr} {d : Addr} {o : Obj} {es : Array DictEntry} {ep : Nat}
theorem turn_nkeys {m : Dkv} (it : Addr) (hod : o.data = .dict es ep) : Turn P w K tg (ItN P w d m o) [it] it (fun i h => h.IsKeyIter it d i m.length ep) where
  mem := by simp
  obj := fun i h st b hb => by
    have e : b = it := by simpa using hb
    subst e
    obtain ⟨oi, e, c, dd⟩ := st
    exact ⟨oi, e, fun v z => by rw [dd] at z; cases z⟩
  keep := fun i h h' st k => st.at fun oi e => k it (by simp) oi e
  item := by
    intro X hP hw hK hc i pins s σ H E I hf st hg
    subst hP hw hK
    obtain ⟨hd, hi⟩ := hg
    obtain ⟨f0, f1, f2, f3, f4, f5⟩ := hf it (by simp)
    obtain ⟨hs, hgd, hx, es', ep', hdt, hsz, ent⟩ := fix_of I hd
    obtain ⟨rfl, rfl⟩ := dict_ep hod hdt
    have hkv : m[i]? = some m[i] := List.getElem?_eq_getElem hi
    obtain ⟨en, hen, hkey⟩ := ent i _ hkv
    refine next_key_item st hgd hdt hsz hen fun h' st' sb => ?_
    have I1 : Inv X pins σ H { s with heap := h' } := I.turned (t' := s.toks) (fun b ob hb e => (sb.2 b hb).trans e) f0 f1 f3 f4 f5
    obtain ⟨oi, e, c, dd⟩ := id st'
    exact ⟨en.key, rfl, go_of (s := { s with heap := h' }) e c dd (by decide) ⟨.ref (m[i]).2.1, H, I1, hkey, ⟨rfl, _, hkv, rfl⟩, st', fun b hb => (hf b hb).1⟩⟩
  done := by
    intro X hP hw hK hc i pins s σ H E I hf st hg
    subst hP hw hK
    obtain ⟨hd, hi⟩ := hg
    obtain ⟨f0, f1, f2, f3, f4, f5⟩ := hf it (by simp)
    obtain ⟨hs, hgd, hx, es', ep', hdt, hsz, ent⟩ := fix_of I hd
    obtain ⟨rfl, rfl⟩ := dict_ep hod hdt
    exact next_key_end (I.ok.hd hc) st hgd hdt hsz hi fun h' eb => ⟨rfl, I.turned (t' := s.toks) (fun b ob hb e => eb b ob hb e) f0 f1 f3 f4 f5⟩
  self := fun A i s Q E st h => by
    refine wpAny_pyIter_slot st.typeIs F.slot_dict_keyiterator_iter (wpAny_call_entry F.slot_dict_keyiterator_iter st.typeIs F.entry_dict_keyiterator_iter ?_ (F.args_dict_keyiterator_iter_1 _))
    show wpAny _ _ (ret (.ref it)) _ _ s
    exact wpAny_pure ⟨_, rfl, "dict_keyiterator", _, st.typeIs, F.slot_dict_keyiterator_next.lookup, h⟩
end
def iNKeys (P : Program) (w : World) (td : TE) : TI := fun σ H R => td σ H fun x H1 => ∃ d o m, x = .ref d ∧ H1 d = some (DicF P w d m o) ∧ R (ItN P w d m o) H1
theorem pi_nkeys {X : Cx} {P : Program} {w : World} {tg e : Expr} {td : TE} (eP : X.prog = P) (ew : X.w = w) (he : PE X e td) : PI X tg e (iNKeys P w td) := by
  subst eP ew
  refine ⟨fun pins s σ H R I h => ?_⟩
  refine thn (he.run pins s σ H _ I h) fun u s1 ⟨x, H1, I1, rx, d, o, m, ex, hd, q⟩ => ?_
  subst ex
  obtain rfl : u = Value.ref d := rx
  obtain ⟨hs, hgd, hx, es, ep, hdt, hsz, ent⟩ := fix_of I1 hd
  refine iter_keys hs hgd hx hdt (pi_one (tk := s1.toks) I1 _ (turn_nkeys _ hdt) ⟨_, Heap.get?_push_size _ rfl, rfl, ?_⟩ q)
  rw [hsz] <;> rfl
section
variable {P : Program} {w : World} {H : Hp} {σ : L2.St} {td : TE} {D : Ends} {tu tz : TS} {j : Nat} {a : Addr} {m : Dkv}
theorem walk_nkeys {o : Obj} : Walk (ItN P w a m o) m.length (fun H => H a = some (DicF P w a m o)) (fun i H x H' => H' = H ∧ ∃ e, m[i]? = some e ∧ x = .ref e.2.1) :=
  ⟨fun i H hi h => ⟨h, hi⟩, fun H h => ⟨h, Nat.le_refl _⟩, fun i H x H' _ _ y => y⟩
/-- for k in d -/
theorem go_forK (hv : ∀ H', Ev td σ H' (.ref a)) (hH : H a = some (DicO P w a m)) (Pv : Obj → Nat → L2.St → Hp → Prop) (h0 : ∀ o H', Ex (upd H a (DicF P w a m o)) H' → Pv o 0 σ H') (hF : ∀ o i σ' H', Pv o i σ' H' → H' a = some (DicF P w a m o))
    (hs : ∀ o i σ' H' e (D' : Ends), m[i]? = some e → Pv o i σ' H' → D'.nx = Pv o (i + 1) → Go tu D' (σ'.set j (some (.ref e.2.1))) H') (hd : ∀ o σ' H', Pv o m.length σ' H' → Go tz D σ' (upd H' a (DicO P w a m))) :
    Go (tSeq (tFix P w (tFor (iNKeys P w td) (gName j) tu)) tz) D σ H := fun H1 e1 =>
  ⟨a, m, e1 _ _ hH, fun o => by
    have x1 : Ex (upd H a (DicF P w a m o)) (upd H1 a (DicF P w a m o)) := ex_upd2 e1
    refine hv _ _ (Ex.refl _) _ fun H2 e2 => ⟨a, o, m, rfl, e2 _ _ upd_same, for_it walk_nkeys (Pv o) (h0 o H2 (x1.trans e2)) (fun i σ' H' _ p => hF o i σ' H' p) (fun i x σ' H' H'' hi p y => ?_) (fun σ' H' p => ⟨hF o _ σ' H' p, hd o σ' H' p _ (Ex.refl _)⟩)⟩
    obtain ⟨rfl, e, he, rfl⟩ := y
    exact hs o i σ' H'' e _ he p rfl _ (Ex.refl _)⟩
end
end Cot

set_option Elab.async false
set_option linter.all false
set_option maxRecDepth 100000
set_option maxHeartbeats 4000000
/-! Pairs of ints sorted, of a list or of a dict's keys. -/
namespace Cot
open PySem PySem.Spec PyProof.Rows L2 Evl
abbrev sqV (q : Int × Int) : PyData := .tuple [.int q.1, .int q.2]
def keyP (h : Heap) : Value → Int × Int
  | .ref a => match h.get? a with
    | some o => match o.data with
      | .seq items _ => match items.toList with
        | [.int i _, .int j _] => (i, j)
        | _ => (0, 0)
      | _ => (0, 0)
    | none => (0, 0)
  | _ => (0, 0)
theorem keyP_of {h : Heap} {a : Addr} {o : Obj} {x y : Int} {t u : Tok} {n : Nat} (ho : h.get? a = some o) (hd : o.data = .seq #[.int x t, .int y u] n) : keyP h (.ref a) = (x, y) := by
  unfold keyP
  simp only [ho, hd]
def leQ (p q : Int × Int) : Prop := SrtO.lexB q p = false
theorem leQ_iff {p q : Int × Int} : leQ p q ↔ p.1 < q.1 ∨ (p.1 = q.1 ∧ p.2 ≤ q.2) := by
  unfold leQ
  rw [SrtO.lexB_no]
  omega
def sortQ (l : List (Int × Int)) : List (Int × Int) := l.mergeSort fun p q => !SrtO.lexB q p
theorem sortQ_perm (l : List (Int × Int)) : (sortQ l).Perm l := List.mergeSort_perm _ _
theorem sortQ_sorted (l : List (Int × Int)) : (sortQ l).Pairwise leQ := by
  have h := List.pairwise_mergeSort (le := fun (p q : Int × Int) => !SrtO.lexB q p) (fun a b c h1 h2 => by
    have a1 : leQ a b := by simpa [leQ] using h1
    have a2 : leQ b c := by simpa [leQ] using h2
    have a3 : leQ a c := by
      rw [leQ_iff] at a1 a2 ⊢
      omega
    simpa [leQ] using a3) (fun a b => by
    have : leQ a b ∨ leQ b a := by
      rw [leQ_iff, leQ_iff]
      omega
    rcases this with h | h
    · have h' : SrtO.lexB b a = false := h
      simp [h']
    · have h' : SrtO.lexB a b = false := h
      simp [h']) l
  refine List.Pairwise.imp (fun {a b} h => ?_) h
  simpa [leQ] using h
theorem sortQ_uniq {l l' : List (Int × Int)} (hp : l'.Perm l) (hs : l'.Pairwise leQ) : l' = sortQ l :=
  List.Perm.eq_of_pairwise (le := leQ) (fun a b _ _ h1 h2 => by
    rw [leQ_iff] at h1 h2
    exact Prod.ext (by omega) (by omega)) hs (sortQ_sorted l) (hp.trans (sortQ_perm l).symm)
theorem sortQ_same {l l' : List (Int × Int)} (hp : l'.Perm l) : sortQ l' = sortQ l := sortQ_uniq ((sortQ_perm l').trans hp) (sortQ_sorted l')
section
variable {X : Cx} {pins : List (Addr × Obj)} {σ : L2.St} {H : Hp} {s : Shared}
theorem dp_pair {x : V} {u : Value} {q : Int × Int} (I : Inv X pins σ H s) (hd : Dp X.K H x (sqV q)) (r : RelV x u) : ∃ t, u = .ref t ∧ x = .ref t ∧ keyP s.heap u = q ∧ Srt.IsPair s.heap u q.1 q.2 := by
  cases hd with
  | @tup t xs ds hs hall =>
    have e := dpa_ints_inv (ns := [q.1, q.2]) hall
    subst e
    cases r
    obtain ⟨its2, r2, ⟨o, ho, hc, n, hdt⟩, _⟩ := I.tuple hs
    obtain ⟨u1, u2, rfl, ri, rj⟩ := vals2 r2
    obtain ⟨t1, rfl⟩ := ri
    obtain ⟨t2, rfl⟩ := rj
    exact ⟨t, rfl, rfl, keyP_of ho hdt, t, o, t1, t2, n, rfl, ho, hc, hdt⟩
theorem vals_pairs {Hd : Hp} (I : Inv X pins σ H s) (sx : Ex Hd H) : ∀ {xs : List V} {its : List Value} {qs : List (Int × Int)}, Vals xs its → DpAll X.K Hd xs (qs.map sqV) →
    its.map (keyP s.heap) = qs ∧ ∀ u ∈ its, ∃ t, u = .ref t ∧ Dp X.K Hd (.ref t) (sqV (keyP s.heap u)) ∧ Srt.IsPair s.heap u (keyP s.heap u).1 (keyP s.heap u).2
  | _, _, [], r, h => by
    cases h
    cases r
    exact ⟨rfl, fun _ h => by cases h⟩
  | _, _, q :: qs, r, h => by
    cases h with
    | cons h1 h2 =>
      cases r with
      | cons r1 r2 =>
        obtain ⟨e, ih⟩ := vals_pairs I sx r2 h2
        obtain ⟨t, rfl, rfl, e1, e2⟩ := dp_pair I (dp_mono sx _ h1) r1
        refine ⟨by rw [List.map_cons, e1, e], fun u hu => ?_⟩
        rcases List.mem_cons.mp hu with rfl | hu
        · exact ⟨t, rfl, by rw [e1]; exact h1, by rw [e1]; exact e2⟩
        · exact ih u hu
theorem back_dp {Hd : Hp} {out : List Value} {h : Heap} (hx : ∀ u ∈ out, ∃ t, u = .ref t ∧ Dp X.K Hd (.ref t) (sqV (keyP h u))) : DpAll X.K Hd (out.map backV) ((out.map (keyP h)).map sqV) := by
  induction out with
  | nil => exact .nil
  | cons u out ih =>
    obtain ⟨t, rfl, hd⟩ := hx u List.mem_cons_self
    exact .cons hd (ih fun u hu => hx u (List.mem_cons_of_mem _ hu))
theorem srt_keys {out : List Value} {h : Heap} (hs : SrtO.Srtd (fun v u => SrtO.lexB (keyP h v) (keyP h u)) out) : (out.map (keyP h)).Pairwise leQ := by
  rw [List.pairwise_map]
  exact hs
def rSortS (K : PySem.W.Frag) : List V → Hp → VK → Prop := fun vs H Q => ∃ Hd a xs qs, Ex Hd H ∧ vs = [V.ref a] ∧ SqL K H a xs ∧ DpAll K Hd xs (qs.map sqV) ∧ ∀ ys p, DpAll K Hd ys ((sortQ qs).map sqV) → H p = none → Q (.ref p) (upd H p (.lst ys))
theorem call_sortS {K : PySem.W.Frag} (eK : X.K = K) : CallR X (.builtin "sorted") (rSortS K) := by
  subst eK
  intro pins s σ H vs us Q I r h
  obtain ⟨Hd, a, xs, qs, sx, rfl, hs, hx, q⟩ := h
  obtain ⟨its, rv, hl, hz⟩ := I.list hs
  obtain ⟨u, rfl, ru⟩ := vals1 r
  obtain rfl : u = Value.ref a := ru
  obtain ⟨e1, e2⟩ := vals_pairs I sx rv hx
  refine SrtO.sorted_pairsO (k := keyP s.heap) hl.isList (by rw [← rv.length]; exact hz) (fun v hv => (e2 v hv).elim fun _ h => h.2.2) fun h' d out h1 h2 kp hd hn => ?_
  have h3 : ∀ u ∈ out, ∃ a, u = Value.ref a := fun u hu => (e2 u (h2.perm.mem_iff.mp hu)).elim fun t h => ⟨t, h.1⟩
  obtain ⟨n, hn⟩ := hn
  have hp : (out.map (keyP s.heap)).Perm qs := by
    rw [← e1]
    exact h2.perm.map _
  have eq : out.map (keyP s.heap) = sortQ qs := sortQ_uniq hp (srt_keys h1)
  refine ⟨.ref d, upd H d (.lst (out.map backV)), I.laid (t' := s.toks) kp hd ⟨?_, out, n, vals_back h3, hn⟩, rfl, q _ d ?_ (I.hok.fresh hd)⟩
  · rw [List.length_map, h2.perm.length_eq, ← rv.length]
    exact hz
  · rw [← eq]
    exact back_dp fun u hu => (e2 u (h2.perm.mem_iff.mp hu)).elim fun t h => ⟨t, h.1, h.2.1⟩
def rSortN (K : PySem.W.Frag) (P : Program) (w : World) : List V → Hp → VK → Prop := fun vs H Q => ∃ Hd a m qs, Ex Hd H ∧ vs = [V.ref a] ∧ DiR K P w H a m ∧ KeysAt K Hd m ∧ m.map (·.1) = qs.map (fun (q : Int × Int) => [q.1, q.2]) ∧ ∀ ys p, DpAll K Hd ys ((sortQ qs).map sqV) → H p = none → Q (.ref p) (upd H p (.lst ys))
theorem call_sortN {K : PySem.W.Frag} {P : Program} {w : World} (eK : X.K = K) (eP : X.prog = P) (ew : X.w = w) (hc : X.calm = true) : CallR X (.builtin "sorted") (rSortN K P w) := by
  subst eK eP ew
  intro pins s σ H vs us Q I r h
  obtain ⟨Hd, a, m, qs, sx, rfl, dA, hkd, hm, q⟩ := h
  obtain ⟨u, rfl, ru⟩ := vals1 r
  obtain rfl : u = Value.ref a := ru
  obtain ⟨z, y, ys, rel, o, es, ep, ho, hx, hdt, he, _, _⟩ := dic_of I dA
  have l1 : es.size = ys.length := size_of_entries he
  have l2 : m.length = ys.length := Paired.length rel
  refine Calls.call_function_entry kind_sorted plain_sorted entry_sorted (args_sorted1 _) ?_
  unfold Builtin.«sorted»
  refine wpAny_bind (m := checkCount "sorted" 1 1 _) (wpAny_pure ?_)
  refine wpAny_bind (PySem.W.kdu_collect (A := X.A.in1) (kdl_raw y hx hdt) (I.ok.hd hc) ho (by omega) fun h' tk acc hk hacc => ?_)
  have hl : acc.toList.length = m.length := by rw [Array.length_toList, hacc.1]; omega
  have hzz : acc.toList.length ≤ sizeLine := by rw [hl]; exact z
  refine wpAny_bind (wpAny_newList ?_ hzz)
  -- the keys as values
  have keys : ∀ {ms : Dkv} {zs : List (List Int × Addr × Value)}, DRel ms zs → ∀ (j : Nat) (z : List Int × Addr × Value), zs[j]? = some z → ∃ e, ms[j]? = some e ∧ e.2.1 = z.2.1 := by
    intro ms zs q
    induction q with
    | nil => intro j z hz; simp at hz
    | @cons a b as bs hab t ih =>
      intro j z hz
      cases j with
      | zero =>
        cases hz
        exact ⟨a, rfl, hab.2.1⟩
      | succ j => exact ih j z hz
  have rvals : Vals (m.map fun e => V.ref e.2.1) acc.toList := by
    refine vals_of_at (by rw [List.length_map, hl]) fun j x v h1 h2 => ?_
    obtain ⟨en, hen, rfl⟩ := hacc.2 j v (by rw [← Array.getElem?_toList]; exact h2)
    have qe := entry_at he j
    rw [hen] at qe
    cases hb : ys[j]? with
    | none => rw [hb] at qe; exact nomatch (show some en = none from qe)
    | some b =>
      rw [hb] at qe
      have e2 : en = entryOfKey (TK X.prog X.w) b := Option.some.inj qe
      obtain ⟨e, hm, hee⟩ := keys rel j b hb
      rw [List.getElem?_map, hm] at h1
      cases h1
      rw [e2]
      show Value.ref b.2.1 = Value.ref e.2.1
      rw [hee]
  have hdp : DpAll X.K Hd (m.map fun e => V.ref e.2.1) (qs.map sqV) := by
    have h1 := dpa_keys hkd
    have e3 : (m.map fun e => keyD e.1) = qs.map sqV := by
      have e4 : (m.map fun e => keyD e.1) = (m.map (·.1)).map keyD := by rw [List.map_map]; rfl
      rw [e4, hm, List.map_map]
      rfl
    rw [e3] at h1
    exact h1
  obtain ⟨e1, e2⟩ := vals_pairs I sx rvals hdp
  generalize acc.toList = vs at hl hzz rvals e1 e2
  have hoL : (h'.push (seqObj "list" vs.toArray 0)).get? h'.objs.size = some (seqObj "list" vs.toArray 0) := Heap.get?_push_size _ rfl
  have keep : ∀ b ob, s.heap.get? b = some ob → b ≠ h'.objs.size ∧ (h'.push (seqObj "list" vs.toArray 0)).get? b = some ob := fun b ob e => ⟨Nat.ne_of_lt (Heap.lt_size (hk b ob e)), Heap.get?_push_of_some _ (hk b ob e)⟩
  refine wpAny_bind (wpAny_holding (wpAny_call_entry (s := { s with heap := h'.push (seqObj "list" vs.toArray 0), toks := tk }) slot_list_sort ⟨_, hoL, rfl⟩ entry_list_sort (SrtO.list_sort_ord (SrtO.swo_lex (keyP s.heap)) hoL hzz (fun h2 => SrtO.pairs_sortableO (by omega) (fun v hm => ((e2 v hm).elim fun _ h => h.2.2).keeps fun b o e _ => (keep b o e).2) fun ob e => ?_) fun out h1 h2 => ⟨_, rfl, ?_⟩) (args_list_sort _)))
  · have e' : some ob = some (seqObj "list" vs.toArray 0) := e.symm.trans hoL
    cases e'
    intro c
    exact absurd (Value.type.inj c) (by decide)
  refine wpAny_pure ⟨_, rfl, ?_⟩
  have h3 : ∀ u ∈ out, ∃ a, u = Value.ref a := fun u hu => (e2 u (h2.perm.mem_iff.mp hu)).elim fun t h => ⟨t, h.1⟩
  have hp : (out.map (keyP s.heap)).Perm qs := by
    rw [← e1]
    exact h2.perm.map _
  have eq : out.map (keyP s.heap) = sortQ qs := sortQ_uniq hp (srt_keys h1)
  obtain ⟨n, hn⟩ := PyProof.Rows.sortedHeap_at (vs := vs) (out := out.toArray) hoL
  have I1 : Inv X pins σ H { s with heap := h', toks := tk } := I.kept hk
  have keep1 : ∀ b ob, h'.get? b = some ob → b ≠ h'.objs.size ∧ (h'.push (seqObj "list" vs.toArray 0)).get? b = some ob := fun b ob e => ⟨Nat.ne_of_lt (Heap.lt_size e), Heap.get?_push_of_some _ e⟩
  refine ⟨.ref h'.objs.size, upd H h'.objs.size (.lst (out.map backV)), I1.laid (t' := tk) (fun b ob e => (PyProof.Rows.sortedHeap_old (keep1 b ob e).1 (Heap.lt_size (keep1 b ob e).2)).trans (keep1 b ob e).2) (Nat.le_refl _) ⟨?_, out, n, vals_back h3, hn⟩, rfl, q _ _ ?_ (I1.hok.fresh (Nat.le_refl _))⟩
  · rw [List.length_map, h2.perm.length_eq]
    exact hzz
  · rw [← eq]
    exact back_dp fun u hu => (e2 u (h2.perm.mem_iff.mp hu)).elim fun t h => ⟨t, h.1, h.2.1⟩
end
section
variable {K : PySem.W.Frag} {P : Program} {w : World} {Hd : Hp} {σ : L2.St} {te : TE} {qs : List (Int × Int)} {L : List (List Int × V)}
theorem en_sortS (h : EvD K te σ Hd (.list (qs.map sqV))) : EvN K (tCB (rSortS K) (tCons te tNil)) σ Hd ((sortQ qs).map sqV) := fun H s Q q =>
  h H s _ fun v H2 Hn g hd => by
    cases hd with
    | @lst a xs ds hs hall => exact ⟨Hn, a, xs, qs, g.sub, rfl, ex_l g.sub hs, hall, fun ys p hy hp => q p ys _ Hn (g.trans (Gr.alloc g.sub hp)) (fresh_back g.ex hp) (fresh_back g.sub hp) upd_same hy⟩
/-- sorted of a list that stands, no data yet -/
theorem en_sortM (h : EvM K te σ Hd (qs.map sqV)) : EvN K (tCB (rSortS K) (tCons te tNil)) σ Hd ((sortQ qs).map sqV) := fun H s Q q =>
  h H s _ fun p0 xs H2 Hn g h2 hd => ⟨Hn, p0, xs, qs, g.sub, rfl, sq_of h2, hd, fun ys p hy hp => q p ys _ Hn (g.trans (Gr.alloc g.sub hp)) (fresh_back g.ex hp) (fresh_back g.sub hp) upd_same hy⟩
theorem en_sortC (h : EvC K P w te σ Hd L) (hL : L.map (·.1) = qs.map (fun (q : Int × Int) => [q.1, q.2])) : EvN K (tCB (rSortN K P w) (tCons te tNil)) σ Hd ((sortQ qs).map sqV) := fun H s Q q =>
  h H s _ fun a m H2 Hn g ha hn h2 hk e => ⟨Hn, a, m, qs, g.sub, rfl, ⟨.inl h2, hk.mono g.sub⟩, hk, by rw [← hL, ← e, List.map_map]; rfl, fun ys p hy hp => q p ys _ Hn (g.trans (Gr.alloc g.sub hp)) (fresh_back g.ex hp) (fresh_back g.sub hp) upd_same hy⟩
end
end Cot
namespace Cot
open PySem L2 Evl RZ
section
variable {K : PySem.W.Frag}
def EvIH (K : PySem.W.Frag) (wi : TI) (g : TG) (σ : L2.St) (Hd H : Hp) (n : Nat) (S : Nat → L2.St → L2.St → Hp → Prop) : Prop := ∀ H1, Ex H H1 → ∀ R : It → Hp → Prop,
  (∀ J H2 Hn (G : Hp → Prop) (Y : Nat → Hp → V → Hp → Prop), Gr Hd H1 Hn H2 → Walk J n G Y → (∀ H', Ex Hn H' → G H') →
    (∀ (i : Nat) (x : V) (H' H'' : Hp) (σ' : L2.St) (k : L2.St → Hp → Prop), i < n → Ex Hn H' → Y i H' x H'' → (∀ σ2 H3, Ex H' H3 → S i σ' σ2 Hn → k σ2 H3) → g x σ' H'' k) → R J H2) → wi σ H1 R
section
variable {Hd H : Hp} {σ : L2.St} {ta tb : TE} {tz tu : TS} {D : Ends} {d : PyData} {ds : List PyData} {l : Addr} {xs : List V} {wi : TI} {g : TG} {n : Nat}
/-- a walk of what is told by things that stand -/
theorem go_forH {S : Nat → L2.St → L2.St → Hp → Prop} (h : EvIH K wi g σ Hd H n S) (Pv : Hp → Nat → L2.St → Hp → Prop) (h0 : ∀ H' Hn, Gr Hd H Hn H' → Pv Hn 0 σ H') (hE : ∀ Hn i σ' H', Pv Hn i σ' H' → Ex Hn H')
    (hs : ∀ Hn i σ' σ2 H', Ex Hd Hn → i < n → Pv Hn i σ' H' → S i σ' σ2 Hn → Go tu { D with nx := Pv Hn (i + 1), ct := Pv Hn (i + 1), bk := tz D } σ2 H')
    (hd : ∀ Hn σ' H', Ex Hd Hn → Pv Hn n σ' H' → Go tz D σ' H') : Go (tSeq (tFor wi g tu) tz) D σ H := fun H1 e1 =>
  h H1 e1 _ fun J H2 Hn G Y gr w hG hY => by
    refine for_it w (Pv Hn) (h0 H2 Hn (gr.pre e1)) (fun i σ' H' _ p => hG H' (hE Hn i σ' H' p)) (fun i x σ' H' H'' hi p y => ?_) (fun σ' H' p => hd Hn σ' H' gr.dx p H' (Ex.refl _))
    exact hY i x H' H'' σ' _ hi (hE Hn i σ' H' p) y fun σ2 H3 e3 hS => hs Hn i σ' σ2 H' gr.dx hi p hS H3 e3
theorem evih_call {S : Nat → L2.St → L2.St → Hp → Prop} {sp : Sp} {E : XK} {v : V} (s : Ex Hd H) (hv : Ev ta σ H v) (h : EvI K (iList K (tCall sp [] E (tCons (tC v) tNil))) g σ Hd n S) : EvIH K (iList K (tCall sp [] E (tCons ta tNil))) g σ Hd H n S := fun H1 e1 R r =>
  hv H1 e1 _ fun H2 e2 => h H2 ((s.trans e1).trans e2) R fun J H3 Hn G Y gr w hG hY => r J H3 Hn G Y (gr.pre e2) w hG hY
theorem ev_notInX (s : Ex Hd H) (ha : EvD K ta σ Hd d) (hb : Ev tb σ H (.ref l)) (hl : H l = some (.lst xs)) (hx : DpAll K Hd xs ds) (s1 : SeqAt.shaped d = true) (s2 : SeqAt.shaped (.list ds) = true) : Ev (tOp (rNotInD K) ta tb) σ H (.bl (!ds.any fun z => PyData.eqv z d)) := fun H1 e1 Q q =>
  ha H1 (s.trans e1) _ fun v H2 Hn g hd => hb H2 (e1.trans g.ex) _ fun H3 e3 => ⟨d, ds, dp_mono (g.sub.trans e3) _ hd, .lst (sq_of (((e1.trans g.ex).trans e3) _ _ hl)) (dpa_mono ((s.trans (e1.trans g.ex)).trans e3) _ hx), s1, s2, q H3 (g.ex.trans e3)⟩
end
end
end Cot

set_option Elab.async false
set_option linter.all false
set_option maxRecDepth 100000
set_option maxHeartbeats 4000000
/-! Dicts whose keys are tuples of ints; the keys' own places are told beside the dict. -/
namespace Cot
open PySem PySem.Spec PyProof.Rows L2 Evl
/-- the key k stands at b -/
def KeyM (K : PySem.W.Frag) (H : Hp) (b : Addr) (k : NestedKey) : Prop := Dp K H (.ref b) k.data ∧ k.depth ≤ 8
theorem keyM_mono {K : PySem.W.Frag} {H H' : Hp} {b : Addr} {k : NestedKey} (e : Ex H H') (h : KeyM K H b k) : KeyM K H' b k := ⟨dp_mono e _ h.1, h.2⟩
mutual
theorem nestedOf {X : Cx} {pins : List (Addr × Obj)} {σ : L2.St} {H : Hp} {s : Shared} (I : Inv X pins σ H s) : ∀ (k : NestedKey) {v : V} {u : Value}, Dp X.K H v k.data → RelV v u → NestedIs s.heap k u
  | .none, v, u, h, r => by
    unfold NestedKey.data at h
    cases h
    cases r
    exact .none
  | .num i, v, u, h, r => by
    unfold NestedKey.data at h
    cases h
    obtain ⟨t, rfl⟩ := r
    exact .int i t
  | .text x, v, u, h, r => by
    unfold NestedKey.data at h
    cases h
    obtain ⟨t, rfl⟩ := r
    exact .text x t
  | .tup ks, v, u, h, r => by
    unfold NestedKey.data at h
    cases h with
    | tup hs hall =>
      cases r
      obtain ⟨its, rv, ⟨o, ho, hc, n, hd⟩, _⟩ := I.tuple hs
      exact .tup ho hc hd (by simpa using nestedAll I ks hall rv)
theorem nestedAll {X : Cx} {pins : List (Addr × Obj)} {σ : L2.St} {H : Hp} {s : Shared} (I : Inv X pins σ H s) : ∀ (ks : List NestedKey) {vs : List V} {us : List Value}, DpAll X.K H vs (NestedKey.datas ks) → Vals vs us → NestedAll s.heap ks us
  | [], vs, us, h, r => by
    unfold NestedKey.datas at h
    cases h
    cases r
    exact .nil
  | k :: ks, vs, us, h, r => by
    unfold NestedKey.datas at h
    cases h with
    | cons h1 h2 =>
      cases r with
      | cons r1 r2 => exact .cons (nestedOf I k h1 r1) (nestedAll I ks h2 r2)
end
theorem isM {X : Cx} {pins : List (Addr × Obj)} {σ : L2.St} {H : Hp} {s : Shared} {b : Addr} {k : NestedKey} (I : Inv X pins σ H s) (h : KeyM X.K H b k) : (nestedKind X.prog X.w).is s.heap k b := ⟨nestedOf I k h.1 rfl, h.2⟩
theorem nk_room {P : Program} {w : World} {A : Around} (hu : A.units + 65 < cLine) : (nestedKind P w).room A := by
  show A.units + 8 < cLine
  omega
theorem nk_room1 {P : Program} {w : World} {A : Around} (hu : A.units + 65 < cLine) : (nestedKind P w).room A.in1 := by
  show A.units + 1 + 8 < cLine
  omega
/-- a key that is a tuple, not too deep -/
def KOk (k : NestedKey) : Prop := (∃ ks, k = .tup ks) ∧ k.depth ≤ 8
/-- the key, the place of its tuple, the value -/
abbrev Mkv := List (NestedKey × Addr × V)
def valM (m : Mkv) (k : NestedKey) : Option V := (m.find? fun e => decide (e.1 = k)).map fun e => e.2.2
def putM (m : Mkv) (k : NestedKey) (b : Addr) (v : V) : Mkv := if (valM m k).isSome then m.map (fun e => if e.1 = k then (e.1, e.2.1, v) else e) else m ++ [(k, b, v)]
abbrev MRel : Mkv → List (NestedKey × Addr × Value) → Prop := Paired fun p q => p.1 = q.1 ∧ p.2.1 = q.2.1 ∧ RelV p.2.2 q.2.2
theorem valM_pos {e : NestedKey × Addr × V} {m : Mkv} {k : NestedKey} (h : e.1 = k) : valM (e :: m) k = some e.2.2 := by simp [valM, List.find?_cons, h]
theorem valM_neg {e : NestedKey × Addr × V} {m : Mkv} {k : NestedKey} (h : ¬ e.1 = k) : valM (e :: m) k = valM m k := by simp [valM, List.find?_cons, h]
theorem mrel_val {m : Mkv} {xs : List (NestedKey × Addr × Value)} (r : MRel m xs) (k : NestedKey) : RelO (valM m k) ((atKey xs k).map (·.2)) := by
  induction r with
  | nil => exact True.intro
  | @cons p q ps qs h t ih =>
    by_cases e : p.1 = k
    · rw [valM_pos e]
      have e2 : (atKey (q :: qs) k) = some q.2 := by simp [atKey, List.find?_cons, ← h.1, e]
      rw [e2]
      exact h.2.2
    · rw [valM_neg e]
      have e2 : (atKey (q :: qs) k) = atKey qs k := by simp [atKey, List.find?_cons, ← h.1, e]
      rw [e2]
      exact ih
theorem mrel_map {m : Mkv} {xs : List (NestedKey × Addr × Value)} (r : MRel m xs) (k : NestedKey) {v : V} {u : Value} (rv : RelV v u) : MRel (m.map (fun e => if e.1 = k then (e.1, e.2.1, v) else e)) (xs.map (putAt k u)) := by
  induction r with
  | nil => exact .nil
  | @cons p q ps qs h t ih =>
    refine Paired.cons ?_ ih
    unfold putAt
    dsimp only
    by_cases e : p.1 = k
    · rw [if_pos e, if_pos (by rw [← h.1]; exact e)]
      exact ⟨h.1, h.2.1, rv⟩
    · rw [if_neg e, if_neg (by rw [← h.1]; exact e)]
      exact h
theorem mrel_app {m m2 : Mkv} {xs ys : List (NestedKey × Addr × Value)} (r : MRel m xs) (r2 : MRel m2 ys) : MRel (m ++ m2) (xs ++ ys) := by
  induction r with
  | nil => exact r2
  | cons h t ih => exact Paired.cons h ih
theorem mrel_put {m : Mkv} {xs : List (NestedKey × Addr × Value)} (r : MRel m xs) (k : NestedKey) (b : Addr) {v : V} {u : Value} (rv : RelV v u) : MRel (putM m k b v) (storedH xs k b u) := by
  have h := (mrel_val r k).isSome_eq
  rw [Option.isSome_map] at h
  unfold putM storedH
  rw [h]
  split
  · exact mrel_map r k rv
  · exact mrel_app r (.cons ⟨rfl, rfl, rv⟩ .nil)
theorem putM_len (m : Mkv) (k : NestedKey) (b : Addr) (v : V) : (putM m k b v).length ≤ m.length + 1 := by
  unfold putM
  split
  · rw [List.length_map]; omega
  · rw [List.length_append]; exact Nat.le_refl _
theorem putM_new {m : Mkv} {k : NestedKey} (b : Addr) (v : V) (h : valM m k = none) : putM m k b v = m ++ [(k, b, v)] := by
  unfold putM
  rw [h]
  rfl
theorem valM_none {m : Mkv} {k : NestedKey} : valM m k = none ↔ ∀ e ∈ m, e.1 ≠ k := by
  unfold valM
  rw [Option.map_eq_none_iff, List.find?_eq_none]
  simp
theorem valM_app (m m2 : Mkv) (k : NestedKey) : valM (m ++ m2) k = (valM m k).or (valM m2 k) := by
  unfold valM
  rw [List.find?_append]
  cases m.find? fun e => decide (e.1 = k) <;> rfl
theorem valM_mem {m : Mkv} {k : NestedKey} {v : V} (h : valM m k = some v) : ∃ b, (k, b, v) ∈ m := by
  unfold valM at h
  obtain ⟨e, he, hv⟩ := Option.map_eq_some_iff.mp h
  have h1 := List.mem_of_find?_eq_some he
  have h2 := List.find?_some he
  obtain ⟨k', b, v'⟩ := e
  have h3 : k' = k := of_decide_eq_true h2
  have h4 : v' = v := hv
  subst h3
  subst h4
  exact ⟨b, h1⟩
def DicPM (P : Program) (w : World) (h : Heap) (a : Addr) (m : Mkv) : Prop := m.length ≤ sizeLine ∧ (a == sysModules) = false ∧ ∃ xs : List (NestedKey × Addr × Value), MRel m xs ∧ (xs.map (·.1)).Nodup ∧
  ∃ o es ep, h.get? a = some o ∧ o.ExactDict ∧ o.data = .dict es ep ∧ es.toList = xs.map (entryOfKey (nestedKind P w))
/-- the dict at a -/
def DicM (P : Program) (w : World) (a : Addr) (m : Mkv) : HO := .ext fun h => DicPM P w h a m
theorem dicM_ok {P : Program} {w : World} {H : Hp} {h : Heap} {a : Addr} {m : Mkv} (d : DicPM P w h a m) : ObjOk P w H h a (DicM P w a m) := by
  refine ⟨d, ?_, ?_⟩
  · obtain ⟨_, _, _, _, _, o, _, _, ho, _⟩ := d
    exact ⟨o, ho⟩
  · rintro h1 h2 ⟨z, y, xs, r, n, o, es, ep, ho, rest⟩ k
    exact ⟨z, y, xs, r, n, o, es, ep, k o ho, rest⟩
def KeysM (K : PySem.W.Frag) (H : Hp) (m : Mkv) : Prop := ∀ e ∈ m, KeyM K H e.2.1 e.1
theorem KeysM.mono {K : PySem.W.Frag} {H H' : Hp} {m : Mkv} (e : Ex H H') (k : KeysM K H m) : KeysM K H' m := fun x hx => keyM_mono e (k x hx)
theorem KeysM.put {K : PySem.W.Frag} {H : Hp} {m : Mkv} {k : NestedKey} {b : Addr} {v : V} (h : KeysM K H m) (hb : KeyM K H b k) : KeysM K H (putM m k b v) := by
  intro e he
  unfold putM at he
  split at he
  · obtain ⟨e0, h0, rfl⟩ := List.mem_map.mp he
    split
    · exact h e0 h0
    · exact h e0 h0
  · rcases List.mem_append.mp he with he | he
    · exact h e he
    · rcases List.mem_cons.mp he with rfl | he
      · exact hb
      · cases he
def MiAt (K : PySem.W.Frag) (P : Program) (w : World) (H : Hp) (a : Addr) (m : Mkv) : Prop := H a = some (DicM P w a m) ∧ KeysM K H m
/-- the dict at a while a loop walks it: its object stays -/
def DicMF (P : Program) (w : World) (a : Addr) (m : Mkv) (o : Obj) : HO := .ext fun h => h.get? a = some o ∧ DicPM P w h a m
/-- a dict that can be read -/
def MiR (K : PySem.W.Frag) (P : Program) (w : World) (H : Hp) (a : Addr) (m : Mkv) : Prop := (H a = some (DicM P w a m) ∨ ∃ o, H a = some (DicMF P w a m o)) ∧ KeysM K H m
theorem MiR.mono {K : PySem.W.Frag} {P : Program} {w : World} {H H' : Hp} {a : Addr} {m : Mkv} (e : Ex H H') (d : MiR K P w H a m) : MiR K P w H' a m := ⟨d.1.elim (fun h => .inl (e _ _ h)) fun ⟨o, h⟩ => .inr ⟨o, e _ _ h⟩, d.2.mono e⟩
theorem MiAt.r {K : PySem.W.Frag} {P : Program} {w : World} {H : Hp} {a : Addr} {m : Mkv} (d : MiAt K P w H a m) : MiR K P w H a m := ⟨.inl d.1, d.2⟩
theorem MiAt.mono {K : PySem.W.Frag} {P : Program} {w : World} {H H' : Hp} {a : Addr} {m : Mkv} (e : Ex H H') (d : MiAt K P w H a m) : MiAt K P w H' a m := ⟨e _ _ d.1, d.2.mono e⟩
section
variable {X : Cx} {pins : List (Addr × Obj)} {σ : L2.St} {H : Hp} {s : Shared} {a b : Addr} {m : Mkv} {k : NestedKey} {v : V} {u : Value} {A : Around} {E : Value → Shared → Prop}
theorem mdic_of (I : Inv X pins σ H s) (d : MiR X.K X.prog X.w H a m) : m.length ≤ sizeLine ∧ (a == sysModules) = false ∧ ∃ xs, MRel m xs ∧ s.heap.DictOfH (nestedKind X.prog X.w) a xs := by
  have hp : DicPM X.prog X.w s.heap a m := by
    rcases d.1 with h | ⟨o, h⟩
    · exact (show ObjOk X.prog X.w H s.heap a (DicM X.prog X.w a m) from I.hok a _ h).1
    · exact (show ObjOk X.prog X.w H s.heap a (DicMF X.prog X.w a m o) from I.hok a _ h).1.2
  obtain ⟨z, y, xs, r, n, o, es, ep, ho, hx, hd, he⟩ := hp
  refine ⟨z, y, xs, r, o, es, ep, ho, hx, hd, he, ?_, n⟩
  have all : ∀ {l : Mkv} {ys : List (NestedKey × Addr × Value)}, MRel l ys → (∀ e ∈ l, KeyM X.K H e.2.1 e.1) → ∀ x ∈ ys, (nestedKind X.prog X.w).is s.heap x.1 x.2.1 := by
    intro l ys q
    induction q with
    | nil => intro _ x hx; cases hx
    | @cons p q ps qs hq t ih =>
      intro hk x hx
      rcases List.mem_cons.mp hx with rfl | hx
      · have := isM I (hk p List.mem_cons_self)
        rw [hq.1, hq.2.1] at this
        exact this
      · exact ih (fun e he => hk e (List.mem_cons_of_mem _ he)) x hx
  exact all r d.2
theorem mdic_get {Q : Value → Shared → Prop} (hu : A.units + 65 < cLine) (I : Inv X pins σ H s) (d : MiR X.K X.prog X.w H a m) (hb : KeyM X.K H b k) (hv : valM m k = some v) (h : ∀ w' s', Inv X pins σ H s' → RelV v w' → Q w' s') :
    wpAny (model X.prog X.w) A (getItem (.ref a) (.ref b)) Q E s := by
  obtain ⟨z, y, xs, r, dd⟩ := mdic_of I d
  have rv := mrel_val r k
  rw [hv] at rv
  obtain ⟨w', hw, rw'⟩ := RelO.some_of (v := v) (o := (atKey xs k).map (·.2)) rv
  obtain ⟨p, hp, hp2⟩ := Option.map_eq_some_iff.mp hw
  refine wpAny_getItem_heap (nk_room1 hu) (isM I hb) dd hp ?_
  rw [hp2]
  exact h w' _ (I.tok _) rw'
theorem mdic_in {Q : Value → Shared → Prop} (hu : A.units + 65 < cLine) (I : Inv X pins σ H s) (d : MiR X.K X.prog X.w H a m) (hb : KeyM X.K H b k) (h : ∀ s', Inv X pins σ H s' → Q (.bool (valM m k).isSome) s') :
    wpAny (model X.prog X.w) A (compareOp .In (.ref b) (.ref a)) Q E s := by
  obtain ⟨z, y, xs, r, dd⟩ := mdic_of I d
  have q := (mrel_val r k).isSome_eq
  rw [Option.isSome_map] at q
  refine wpAny_in_heap (nk_room1 hu) (isM I hb) y dd ?_
  rw [← q]
  exact h _ (I.tok _)
theorem mdic_notIn {Q : Value → Shared → Prop} (hu : A.units + 65 < cLine) (I : Inv X pins σ H s) (d : MiR X.K X.prog X.w H a m) (hb : KeyM X.K H b k) (h : ∀ s', Inv X pins σ H s' → Q (.bool (!(valM m k).isSome)) s') :
    wpAny (model X.prog X.w) A (compareOp .NotIn (.ref b) (.ref a)) Q E s := by
  obtain ⟨z, y, xs, r, dd⟩ := mdic_of I d
  have q := (mrel_val r k).isSome_eq
  rw [Option.isSome_map] at q
  refine wpAny_notIn_heap (nk_room1 hu) (isM I hb) y dd ?_
  rw [← q]
  exact h _ (I.tok _)
theorem mdic_get2 {z : V} {r0 : Value} {Q : Value → Shared → Prop} (hu : A.units + 65 < cLine) (I : Inv X pins σ H s) (d : MiR X.K X.prog X.w H a m) (hb : KeyM X.K H b k) (rz : RelV z r0) (h : ∀ w' s', Inv X pins σ H s' → RelV ((valM m k).getD z) w' → Q w' s') :
    wpAny (model X.prog X.w) A (call (.builtin "dict.get") [.ref a, .ref b, r0]) Q E s := by
  obtain ⟨z', y, xs, r, dd⟩ := mdic_of I d
  exact call_meetsIn PySem.F.slot_dict_get dd.typeIs PySem.F.entry_dict_get (PySem.F.args_dict_get_3 _ _ _) (meetsH_dict_get_default (nestedKind X.prog X.w) a b y r0) ⟨nk_room1 hu, k, xs, isM I hb, dd, h _ _ (I.tok _) ((mrel_val r k).getD rz)⟩
theorem mdic_put {Q : Unit → Shared → Prop} (hu : A.units + 65 < cLine) (I : Inv X pins σ H s) (d : MiAt X.K X.prog X.w H a m) (hb : KeyM X.K H b k) (hl : m.length < sizeLine) (rv : RelV v u) (h : ∀ s', Inv X pins σ (upd H a (DicM X.prog X.w a (putM m k b v))) s' → Q () s') :
    wpAny (model X.prog X.w) A (setItem (.ref a) (.ref b) u) Q E s := by
  obtain ⟨z, y, xs, r, dd⟩ := mdic_of I d.r
  have hz : xs.length ≤ sizeLine := by rw [← Paired.length r]; exact z
  refine wpAny_setItem_heap (hsz := hz) (nk_room1 hu) (isM I hb) dd fun h' dd' hs => h _ ?_
  obtain ⟨o, es, ep, ho, h2, h3, h4, _, h5⟩ := dd'
  refine d_write I (by rw [d.1]; exact True.intro) hs ⟨o, ho⟩ (dicM_ok ⟨?_, y, _, mrel_put r k b rv, h5, o, es, ep, ho, h2, h3, h4⟩)
  have := putM_len m k b v
  omega
theorem mdic_set {Q : Unit → Shared → Prop} (hu : A.units + 65 < cLine) (I : Inv X pins σ H s) (d : MiAt X.K X.prog X.w H a m) (hb : KeyM X.K H b k) (hl : m.length < sizeLine) (rv : RelV v u) (h : ∀ s', Inv X pins σ (upd H a (DicM X.prog X.w a (putM m k b v))) s' → Q () s') :
    wpAny (model X.prog X.w) A (dictSet a (.ref b) u) Q E s := by
  obtain ⟨z, y, xs, r, dd⟩ := mdic_of I d.r
  have hz : xs.length ≤ sizeLine := by rw [← Paired.length r]; exact z
  refine wpAny_dictSet_heap (hsz := hz) (knd := nestedKind X.prog X.w) (nk_room hu) (isM I hb) dd fun h' dd' hs => h _ ?_
  obtain ⟨o, es, ep, ho, h2, h3, h4, _, h5⟩ := dd'
  refine d_write I (by rw [d.1]; exact True.intro) hs ⟨o, ho⟩ (dicM_ok ⟨?_, y, _, mrel_put r k b rv, h5, o, es, ep, ho, h2, h3, h4⟩)
  have := putM_len m k b v
  omega
theorem mdic_empty {P : Program} {w : World} {h : Heap} (hb : sysModules < h.objs.size) : DicPM P w (h.push { cls := .type "dict", data := .dict #[] }) h.objs.size [] :=
  ⟨Nat.zero_le _, beq_eq_false_iff_ne.mpr (Ne.symm (Nat.ne_of_lt hb)), [], .nil, List.nodup_nil, _, #[], 0, Heap.get?_push_size _ rfl, ⟨rfl, rfl, rfl⟩, rfl, rfl⟩
end
/-! ### the rules -/
section
variable (K : PySem.W.Frag) (P : Program) (w : World)
def tMGet (td ty : TE) : TE := fun σ H Q => td σ H fun x H1 => ty σ H1 fun y H2 => ∃ a m b k v, x = .ref a ∧ y = .ref b ∧ MiR K P w H2 a m ∧ KeyM K H2 b k ∧ valM m k = some v ∧ Q v H2
def tMIn (neg : Bool) (ty td : TE) : TE := fun σ H Q => ty σ H fun y H1 => td σ H1 fun x H2 => ∃ a m b k, x = .ref a ∧ y = .ref b ∧ MiR K P w H2 a m ∧ KeyM K H2 b k ∧ Q (.bl (if neg then !(valM m k).isSome else (valM m k).isSome)) H2
def tMGet2 (td ty tx : TE) : TE := fun σ H Q => td σ H fun x H1 => ∃ a m, x = .ref a ∧ MiR K P w H1 a m ∧ ty σ H1 fun y H2 => tx σ H2 fun z H3 => ∃ b k, y = .ref b ∧ MiR K P w H3 a m ∧ KeyM K H3 b k ∧ Q ((valM m k).getD z) H3
def sMPut (td ty tv : TE) : TS := fun D σ H => tv σ H fun v H1 => td σ H1 fun x H2 => ty σ H2 fun y H3 => ∃ a m b k, x = .ref a ∧ y = .ref b ∧ MiAt K P w H3 a m ∧ KeyM K H3 b k ∧ m.length < sizeLine ∧ D.nx σ (upd H3 a (DicM P w a (putM m k b v)))
def tMNew : TE := fun _ H Q => ∀ p, H p = none → Q (.ref p) (upd H p (DicM P w p []))
def rMLen : List V → Hp → VK → Prop := fun xs H Q => ∃ a m, xs = [.ref a] ∧ MiR K P w H a m ∧ Q (.int ((m.length : Nat) : Int)) H
/-- {k: v}, one pair -/
def tMOne (tk tv : TE) : TE := fun σ H Q => ∀ p, H p = none → tk σ (upd H p (DicM P w p [])) fun y H1 => tv σ H1 fun v H2 => ∃ b k, y = .ref b ∧ H2 p = some (DicM P w p []) ∧ KeyM K H2 b k ∧ Q (.ref p) (upd H2 p (DicM P w p [(k, b, v)]))
end
section
variable {X : Cx} {o i e f value : Expr} {pos pos' apos cpos : Pos} {td ty tv tx : TE}
theorem pe_mget (hu : X.A.units + 65 < cLine) (ho : PE X o td) (hi : PE X i ty) (hs : NoSl i) : PE X (.Subscript o i pos) (tMGet X.K X.prog X.w td ty) := by
  refine ⟨fun pins s σ H Q I h => ?_⟩
  refine subD_of PySem.F.slot_dict_getitem.lookup hs (thn (ho.run pins s σ H _ I h) fun u s1 ⟨x, H1, I1, rx, q1⟩ => thn (hi.run pins s1 σ H1 _ I1 q1) fun iv s2 ⟨y, H2, I2, ry, a, m, b, k, v, ex, ey, d, hb, hv, q2⟩ => ?_)
  subst ex
  subst ey
  cases rx
  cases ry
  exact ⟨(mdic_of I2 d).2.2.elim fun xs q => q.2.typeIs, mdic_get hu I2 d hb hv fun w' s3 I3 rw' => ⟨v, H2, I3, rw', q2⟩⟩
theorem pc_min (hu : X.A.units + 65 < cLine) (hi : PE X i ty) (ho : PE X o td) : PC X .In i o (tMIn X.K X.prog X.w false ty td) := by
  refine ⟨fun pins s σ H Q I h => ?_⟩
  refine thn (hi.run pins s σ H _ I h) fun iv s1 ⟨y, H1, I1, ry, q1⟩ => thn (ho.run pins s1 σ H1 _ I1 q1) fun u s2 ⟨x, H2, I2, rx, a, m, b, k, ex, ey, d, hb, q2⟩ => ?_
  subst ex
  subst ey
  cases rx
  cases ry
  exact mdic_in hu I2 d hb fun s3 I3 => ⟨.bl (valM m k).isSome, H2, I3, rfl, q2⟩
theorem pc_mnotin (hu : X.A.units + 65 < cLine) (hi : PE X i ty) (ho : PE X o td) : PC X .NotIn i o (tMIn X.K X.prog X.w true ty td) := by
  refine ⟨fun pins s σ H Q I h => ?_⟩
  refine thn (hi.run pins s σ H _ I h) fun iv s1 ⟨y, H1, I1, ry, q1⟩ => thn (ho.run pins s1 σ H1 _ I1 q1) fun u s2 ⟨x, H2, I2, rx, a, m, b, k, ex, ey, d, hb, q2⟩ => ?_
  subst ex
  subst ey
  cases rx
  cases ry
  exact mdic_notIn hu I2 d hb fun s3 I3 => ⟨.bl (!(valM m k).isSome), H2, I3, rfl, q2⟩
theorem pe_mget2 (hu : X.A.units + 65 < cLine) (ho : PE X o td) (he : PE X e ty) (hf : PE X f tx) (m : M2 X o "get" apos e f cpos) : PE X (.Call (.Attribute o "get" apos) [e, f] [] cpos) (tMGet2 X.K X.prog X.w td ty tx) := by
  refine ⟨fun pins s σ H Q I h => ?_⟩
  refine wpAny_Call_method m.base m.few m.line PySem.F.plainAttrs_dict PySem.F.slot_dict_get PySem.F.type_dict_get (thn (ho.run pins s σ H _ I h) fun u s1 ⟨x, H1, I1, rx, a, mm, ex, d, q1⟩ => ?_)
  subst ex
  cases rx
  obtain ⟨_, _, xs, _, dd⟩ := mdic_of I1 d
  refine ⟨dd.typeIs, fun b q => ?_, ?_⟩
  · cases q
    obtain ⟨ob, _, _, h1, h2, _⟩ := dd
    exact ⟨ob, h1, h2.2.1⟩
  · rw [m.trees]
    refine Calls.callWith_builtin rfl (Calls.evalArgs_plain (Calls.spliced_cons (thn (he.run pins s1 σ H1 _ I1 q1) fun iv s2 ⟨y, H2, I2, ry, q2⟩ =>
      Calls.spliced_cons (thn (hf.run pins s2 σ H2 _ I2 q2) fun fv s3 ⟨z, H3, I3, rz, b, k, ey, d3, hb, q3⟩ => Calls.spliced_nil ?_))))
    subst ey
    cases ry
    exact mdic_get2 hu I3 d3 hb rz fun w' s4 I4 rw' => ⟨_, H3, I4, rw', q3⟩
theorem ps_mput (hu : X.A.units + 65 < cLine) (ho : PE X o td) (hi : PE X i ty) (hv : PE X value tv) (hs : swapsWith value (some (.Subscript o i pos')) pos.line X.env = pure false) :
    PS X (.Assign [.Subscript o i pos'] value pos) (sMPut X.K X.prog X.w td ty tv) := by
  refine ⟨fun pins s σ H D I h => ?_⟩
  refine wpAny_Assign_Subscript (thn (hv.run pins s σ H _ I h) fun r s1 ⟨v, H1, I1, rv, q1⟩ => thn (ho.run pins s1 σ H1 _ I1 q1) fun u s2 ⟨x, H2, I2, rx, q2⟩ => thn (hi.run pins s2 σ H2 _ I2 q2) fun iv s3 ⟨y, H3, I3, ry, a, m, b, k, ex, ey, d, hb, hl, q3⟩ => ?_) hs
  subst ex
  subst ey
  cases rx
  cases ry
  exact mdic_put hu I3 d hb hl rv fun s4 I4 => ⟨σ, _, I4, q3⟩
theorem pe_mnew : PE X (.Dict [] [] pos) (tMNew X.prog X.w) := ⟨fun pins s σ H Q I h =>
  wpAny_Dict_empty ⟨.ref s.heap.objs.size, _, I.laid (a := s.heap.objs.size) (o := DicM X.prog X.w s.heap.objs.size []) (t' := s.toks) (fun _ _ q => Heap.get?_push_of_some _ q) (Nat.le_refl _) (dicM_ok (mdic_empty I.big)), rfl, h _ (I.hok.fresh (Nat.le_refl _))⟩⟩
theorem call_mlen : CallR X (.builtin "len") (rMLen X.K X.prog X.w) := by
  intro pins s σ H xs us Q I r h
  obtain ⟨a, m, rfl, d, q⟩ := h
  obtain ⟨u, rfl, rx⟩ := vals1 r
  cases rx
  obtain ⟨z, y, ys, rel, dd⟩ := mdic_of I d
  have hl : m.length = ys.length := Paired.length rel
  refine call_len_dictH y dd (by rw [← hl]; rw [sizeLine_eq] at z; omega) ?_
  rw [← hl]
  exact ⟨.int ((m.length : Nat) : Int), H, I.tok _, ⟨_, rfl⟩, q⟩
theorem pe_mone (hu : X.A.units + 65 < cLine) {k v : Expr} {tk : TE} (hk : PE X k tk) (hv : PE X v tv) : PE X (.Dict [some k] [v] pos) (tMOne X.K X.prog X.w tk tv) := by
  refine ⟨fun pins s σ H Q I h => ?_⟩
  have hn := I.hok.fresh (Nat.le_refl s.heap.objs.size)
  have I1 := I.laid (a := s.heap.objs.size) (o := DicM X.prog X.w s.heap.objs.size []) (h' := s.heap.push { cls := .type "dict", data := .dict #[] }) (t' := s.toks) (fun _ _ q => Heap.get?_push_of_some _ q) (Nat.le_refl _) (dicM_ok (mdic_empty I.big))
  rw [arm_eval_Dict, zip_pairTrees [some k] [v] X.env pos rfl rfl, dictDisplay_pairs (pairTrees [some k] [v] X.env pos) (by intro z; cases z) (by show 1 < 17; omega)]
  refine wpAny_bind (wpAny_standAt (wpAny_bind (wpAny_subDictH (knd := nestedKind X.prog X.w) (nk_room hu) (by show 1 ≤ 15; omega) (pairTrees_cons_walk (thn (hk.run pins _ σ _ _ I1 (h _ hn)) fun kv s2 ⟨y, H2, I2, ry, q2⟩ => thn (hv.run pins s2 σ H2 _ I2 q2) fun vv s3 ⟨z, H3, I3, rz, b, kk, ey, hp, hb, q3⟩ => pairTrees_nil_walk ?_)))))
  subst ey
  cases ry
  obtain ⟨zz, yy, xs, rel, dd⟩ := mdic_of I3 (m := []) (a := s.heap.objs.size) ⟨.inl hp, fun _ h => by cases h⟩
  cases rel
  refine ⟨[(kk, b, vv)], ⟨rfl, rfl, isM I3 hb, True.intro⟩, dd, fun h' tk dd' hs => wpAny_pure ⟨.ref s.heap.objs.size, _, ?_, rfl, q3⟩⟩
  obtain ⟨o, es, ep, ho, h2, h3, h4, _, h5⟩ := dd'
  exact d_write I3 (by rw [hp]; exact True.intro) hs ⟨o, ho⟩ (dicM_ok ⟨by rw [sizeLine_eq]; show 1 ≤ 16777216; omega, yy, _, .cons ⟨rfl, rfl, rz⟩ .nil, h5, o, es, ep, ho, h2, h3, h4⟩)
end
end Cot
namespace Cot
open PySem L2 Evl
section
variable {K : PySem.W.Frag} {P : Program} {w : World} {H H' Hd Hd' Hn H1 H2 : Hp} {σ : L2.St} {ta td ty tv tx : TE} {tr : TA} {D : Ends} {tz : TS} {a b : Addr} {m : Mkv} {k : NestedKey} {v z : V} {i : Nat}
theorem dp_keyM (h : Dp K H v k.data) (ko : KOk k) : ∃ p, v = .ref p ∧ KeyM K H p k := by
  obtain ⟨⟨ks, rfl⟩, hd⟩ := ko
  have h' := h
  unfold NestedKey.data at h'
  cases h' with
  | @tup p xs ds hs hall => exact ⟨p, rfl, h, hd⟩
theorem keyM_dp (h : KeyM K H b k) : Dp K H (.ref b) k.data := h.1
theorem ev_minR {neg : Bool} (ko : KOk k) (s : Ex Hd H) (hk : EvD K ty σ Hd k.data) (hd : Ev td σ H (.ref a)) (d : MiR K P w H a m) : Ev (tMIn K P w neg ty td) σ H (.bl (if neg then !(valM m k).isSome else (valM m k).isSome)) := fun H1 e1 Q q =>
  hk H1 (s.trans e1) _ fun v H2 Hn g hv => hd H2 (e1.trans g.ex) _ fun H3 e3 => by
    obtain ⟨p, rfl, hp⟩ := dp_keyM hv ko
    exact ⟨a, m, p, k, rfl, rfl, d.mono ((e1.trans g.ex).trans e3), keyM_mono (g.sub.trans e3) hp, q H3 (g.ex.trans e3)⟩
theorem ev_mgetR (ko : KOk k) (s : Ex Hd H) (hd : Ev td σ H (.ref a)) (hk : EvD K ty σ Hd k.data) (d : MiR K P w H a m) (hv : valM m k = some v) : Ev (tMGet K P w td ty) σ H v := fun H1 e1 Q q =>
  hd H1 e1 _ fun H2 e2 => hk H2 ((s.trans e1).trans e2) _ fun u H3 Hn g hu => by
    obtain ⟨p, rfl, hp⟩ := dp_keyM hu ko
    exact ⟨a, m, p, k, v, rfl, rfl, d.mono ((e1.trans e2).trans g.ex), keyM_mono g.sub hp, hv, q H3 (e2.trans g.ex)⟩
theorem ev_mget2R (ko : KOk k) (s : Ex Hd H) (hd : Ev td σ H (.ref a)) (hk : EvD K ty σ Hd k.data) (hz : Ev tx σ H z) (d : MiR K P w H a m) : Ev (tMGet2 K P w td ty tx) σ H ((valM m k).getD z) := fun H1 e1 Q q =>
  hd H1 e1 _ fun H2 e2 => ⟨a, m, rfl, d.mono (e1.trans e2), hk H2 ((s.trans e1).trans e2) _ fun u H3 Hn g hu => hz H3 ((e1.trans e2).trans g.ex) _ fun H4 e4 => by
    obtain ⟨p, rfl, hp⟩ := dp_keyM hu ko
    exact ⟨p, k, rfl, d.mono (((e1.trans e2).trans g.ex).trans e4), keyM_mono (g.sub.trans e4) hp, q H4 ((e2.trans g.ex).trans e4)⟩⟩
theorem ev_mlenR (hd : Ev td σ H (.ref a)) (d : MiR K P w H a m) : Ev (tCB (rMLen K P w) (tCons td tNil)) σ H (.int ((m.length : Nat) : Int)) := fun H1 e1 Q q =>
  hd H1 e1 _ fun H2 e2 => ⟨a, m, rfl, d.mono (e1.trans e2), q H2 e2⟩
theorem ev_min {neg : Bool} (ko : KOk k) (s : Ex Hd H) (hk : EvD K ty σ Hd k.data) (hd : Ev td σ H (.ref a)) (d : MiAt K P w H a m) : Ev (tMIn K P w neg ty td) σ H (.bl (if neg then !(valM m k).isSome else (valM m k).isSome)) := ev_minR ko s hk hd d.r
theorem ev_mget (ko : KOk k) (s : Ex Hd H) (hd : Ev td σ H (.ref a)) (hk : EvD K ty σ Hd k.data) (d : MiAt K P w H a m) (hv : valM m k = some v) : Ev (tMGet K P w td ty) σ H v := ev_mgetR ko s hd hk d.r hv
theorem ev_mget2 (ko : KOk k) (s : Ex Hd H) (hd : Ev td σ H (.ref a)) (hk : EvD K ty σ Hd k.data) (hz : Ev tx σ H z) (d : MiAt K P w H a m) : Ev (tMGet2 K P w td ty tx) σ H ((valM m k).getD z) := ev_mget2R ko s hd hk hz d.r
theorem ev_mlen (hd : Ev td σ H (.ref a)) (d : MiAt K P w H a m) : Ev (tCB (rMLen K P w) (tCons td tNil)) σ H (.int ((m.length : Nat) : Int)) := ev_mlenR hd d.r
theorem go_mput (ko : KOk k) (s : Ex Hd H) (hv : Ev tv σ H v) (hd : Ev td σ H (.ref a)) (hk : EvD K ty σ Hd k.data) (d : MiAt K P w H a m) (hl : m.length < 100000)
    (kk : ∀ p H' Hn, Gr Hd H Hn H' → KeyM K Hn p k → Go tz D σ (upd H' a (DicM P w a (putM m k p v)))) : Go (tSeq (sMPut K P w td ty tv) tz) D σ H := fun H1 e1 =>
  hv H1 e1 _ fun H2 e2 => hd H2 (e1.trans e2) _ fun H3 e3 => hk H3 (((s.trans e1).trans e2).trans e3) _ fun u H4 Hn g hu => by
    obtain ⟨p, rfl, hp⟩ := dp_keyM hu ko
    exact ⟨a, m, p, k, rfl, rfl, d.mono (((e1.trans e2).trans e3).trans g.ex), keyM_mono g.sub hp, sz_lt hl, kk p H4 Hn (g.pre ((e1.trans e2).trans e3)) hp _ (Ex.refl _)⟩
/-- a new dict of one pair -/
theorem go_mone (ko : KOk k) (s : Ex Hd H) (hk : EvD K ty σ Hd k.data) (hv : ∀ H1, Ex H H1 → Ev tv σ H1 v)
    (kk : ∀ a p H' Hn, Gr Hd H Hn H' → H a = none → Hn a = none → KeyM K Hn p k → H' a = some (DicM P w a [(k, p, v)]) → Go tz D (σ.set i (some (.ref a))) H') : Go (tSeq (tAsg (tMOne K P w ty tv) (gName i)) tz) D σ H := fun H1 e1 a ha => by
  have s1 : Ex Hd (upd H1 a (DicM P w a [])) := (s.trans e1).trans (Ex.new ha)
  refine hk _ s1 _ fun u H2 Hn g hu => hv H2 ((e1.trans (Ex.new ha)).trans g.ex) _ (Ex.refl _) _ fun H3 e3 => ?_
  obtain ⟨p, rfl, hp⟩ := dp_keyM hu ko
  have h3 : H3 a = some (DicM P w a []) := e3 _ _ (g.ex _ _ upd_same)
  have hna : Hn a = none := g.fr _ _ upd_same (fresh_back (s.trans e1) ha)
  refine ⟨p, k, rfl, h3, keyM_mono (g.sub.trans e3) hp, ?_⟩
  refine kk a p _ Hn ⟨fun x o hx => ?_, g.dx, Ex.mut (g.sub.trans e3) hna, fun x o hx hd => ?_⟩ (fresh_back e1 ha) hna hp upd_same _ (Ex.refl _)
  · have hx1 := e1 x o hx
    rw [upd_ne (ne_of_none hx1 ha)]
    exact e3 _ _ (g.ex _ _ (by rw [upd_ne (ne_of_none hx1 ha)]; exact hx1))
  · have hx1 := e1 x o hx
    exact g.fr x o (by rw [upd_ne (ne_of_none hx1 ha)]; exact hx1) hd
end
end Cot
namespace Cot
open PySem L2 Evl
/-! ### the same, where the context is a block's -/
section
variable {X : Cx} {K : PySem.W.Frag} {P : Program} {w : World} {o i e f value : Expr} {pos pos' apos cpos : Pos} {td ty tv tx tk : TE}
theorem pb_mget (h1 : X.K = K) (h2 : X.prog = P) (h3 : X.w = w) (hu : X.A.units + 65 < cLine) (ho : PE X o td) (hi : PE X i ty) (hs : NoSl i) : PE X (.Subscript o i pos) (tMGet K P w td ty) := by
  subst h1 h2 h3
  exact pe_mget hu ho hi hs
theorem pb_min (h1 : X.K = K) (h2 : X.prog = P) (h3 : X.w = w) (hu : X.A.units + 65 < cLine) (hi : PE X i ty) (ho : PE X o td) : PC X .In i o (tMIn K P w false ty td) := by
  subst h1 h2 h3
  exact pc_min hu hi ho
theorem pb_mnotin (h1 : X.K = K) (h2 : X.prog = P) (h3 : X.w = w) (hu : X.A.units + 65 < cLine) (hi : PE X i ty) (ho : PE X o td) : PC X .NotIn i o (tMIn K P w true ty td) := by
  subst h1 h2 h3
  exact pc_mnotin hu hi ho
theorem pb_mget2 (h1 : X.K = K) (h2 : X.prog = P) (h3 : X.w = w) (hu : X.A.units + 65 < cLine) (ho : PE X o td) (he : PE X e ty) (hf : PE X f tx) (m : M2 X o "get" apos e f cpos) : PE X (.Call (.Attribute o "get" apos) [e, f] [] cpos) (tMGet2 K P w td ty tx) := by
  subst h1 h2 h3
  exact pe_mget2 hu ho he hf m
theorem pb_mput (h1 : X.K = K) (h2 : X.prog = P) (h3 : X.w = w) (hu : X.A.units + 65 < cLine) (ho : PE X o td) (hi : PE X i ty) (hv : PE X value tv) (hs : swapsWith value (some (.Subscript o i pos')) pos.line X.env = pure false) :
    PS X (.Assign [.Subscript o i pos'] value pos) (sMPut K P w td ty tv) := by
  subst h1 h2 h3
  exact ps_mput hu ho hi hv hs
theorem pb_mnew (h2 : X.prog = P) (h3 : X.w = w) : PE X (.Dict [] [] pos) (tMNew P w) := by
  subst h2 h3
  exact pe_mnew
theorem cb_mlen (h1 : X.K = K) (h2 : X.prog = P) (h3 : X.w = w) : CallR X (.builtin "len") (rMLen K P w) := by
  subst h1 h2 h3
  exact call_mlen
theorem pb_mone (h1 : X.K = K) (h2 : X.prog = P) (h3 : X.w = w) (hu : X.A.units + 65 < cLine) {k v : Expr} (hk : PE X k tk) (hv : PE X v tv) : PE X (.Dict [some k] [v] pos) (tMOne K P w tk tv) := by
  subst h1 h2 h3
  exact pe_mone hu hk hv
end
end Cot

set_option Elab.async false
set_option linter.all false
set_option maxRecDepth 100000
set_option maxHeartbeats 4000000
/-! Dicts with nested keys: comprehensions, walks. -/
namespace Cot
open PySem PySem.Spec PyProof.Rows L2 Evl
section
variable (K : PySem.W.Frag) (P : Program) (w : World)
/-- one more pair is laid in -/
def mPut (D : Addr) (tk tv : TE) (Nx : Hp → Prop) : L2.St → Hp → Prop := fun σ H => tk σ H fun y H1 => tv σ H1 fun z H2 => ∃ m b k, y = .ref b ∧ MiAt K P w H2 D m ∧ KeyM K H2 b k ∧ m.length < sizeLine ∧ Nx (upd H2 D (DicM P w D (putM m k b z)))
def tMc1 (wi : TI) (g : TG) (tt : TT) (tk tv : TE) (vs : List Nat) : TE := fun σ H Q => wi σ H fun J H1 => ∀ D, H1 D = none → ∃ W : Nat → Nat → Hp → Prop, (∃ m, W 0 m (upd H1 D (DicM P w D []))) ∧ turns J W (Q (.ref D)) g σ vs tt fun Nx => mPut K P w D tk tv Nx
end
section
variable {X : Cx}
theorem mc1_core {pins : List (Addr × Obj)} {s : Shared} {σ : L2.St} {H : Hp} {Q : VK} {kx vx t0 i0 : Expr} {fs0 : List Expr} {sc : Scope} {own : List (Str × Nat)} {pos pos' : Pos} {wi : TI} {g : TG} {tt : TT} {tk tv : TE} {use : Option (Value → Sem Unit)} {Qf : Value → Shared → Prop} (hu : X.A.units + 65 < cLine) (hc : X.calm = true) (hN : X.N.Nodup) (I : Inv X pins σ H s)
    (hi : PI X t0 i0 wi) (ok : BlkOk X.N X.env.scope sc own) (hg : Blk X sc fun Y => PG Y t0 g) (ht : Blk X sc fun Y => PTs Y fs0 tt)
    (hk : Blk X sc fun Y => PE Y kx tk) (he : Blk X sc fun Y => PE Y vx tv) (hs : ∀ x, foldedSetIterable i0 X.env x = pure x) (h : tMc1 X.K X.prog X.w wi g tt tk tv (own.map (·.2)) σ H Q)
    (hRR : ∀ D C s' m H', Inv X pins σ H' s' → Q (.ref D) H' → s'.heap.Ns C m → FpOk X pins H' C → compPost (model X.prog X.w) X.A X.xe use Qf (.ref D) C (.ok .next) s') :
    wpAny (model X.prog X.w) X.A (comprehension (dc1 kx vx t0 i0 fs0 sc pos) sc X.env pos' newDict false (eval i0 X.env) use) Qf X.xe s := by
  have cells : ∀ y ∈ sc.names, y.2 = .free → ∃ c, X.env.cells.lookup y.1 = some c := fun y hy e => (ok.free y hy e).elim (fun k => I.ok.has _ (.inl k)) fun k => I.ok.has _ (.inr k)
  refine wpAny_comprehension_free (use := use) rfl hs (closure_ok cells) ok.kind (fun y hy e => by rw [ok.uniq y hy, e]) (thn (hi.run pins s σ H _ I h) fun xv s1 hx => thn hx fun itv s2 h2 => ?_)
  obtain ⟨it, fp, tn, J, H2, e, I2, T, st2, f2, q⟩ := h2
  subst e
  refine wpAny_newObj_type (newEnv_comp ?_)
  generalize hD : s2.heap.objs.size = D
  obtain ⟨W, ⟨m0, w0⟩, turn⟩ := q D (I2.hok.fresh (Nat.le_of_eq hD))
  generalize hs3 : ({ s2 with heap := s2.heap.push { cls := .type "dict", data := .dict #[] } } : Shared) = s3
  have h3 : s3.heap = s2.heap.push { cls := .type "dict", data := .dict #[] } := by rw [← hs3]
  have I3 : Inv X pins σ (upd H2 D (DicM X.prog X.w D [])) s3 := by
    rw [← hs3]
    refine I2.laid (t' := s2.toks) (fun b o e => Heap.get?_push_of_some _ e) (Nat.le_of_eq hD) ?_
    rw [← hD]
    exact dicM_ok (mdic_empty I2.big)
  have f3 : ∀ b ∈ fp, FpOk X pins (upd H2 D (DicM X.prog X.w D [])) b ∧ b < s3.heap.objs.size := fun b hb => by
    obtain ⟨o, eo, _⟩ := T.obj _ _ st2 b hb
    have lt : b < s2.heap.objs.size := Heap.lt_size eo
    refine ⟨⟨?_, (f2 b hb).2⟩, by rw [h3, Heap.size_push]; exact Nat.lt_succ_of_lt lt⟩
    rw [upd_ne (by rw [← hD]; exact Nat.ne_of_lt lt)]
    exact (f2 b hb).1
  have I4 := block_start I3 ok hN f3
  have pg := hg s3 (upd H2 D (DicM X.prog X.w D [])) s3.heap.objs.size (cellsFrom (s3.heap.objs.size + 1) sc.names (cloFrom X.env.cells sc.names [])) fp
  have pt := ht s3 (upd H2 D (DicM X.prog X.w D [])) s3.heap.objs.size (cellsFrom (s3.heap.objs.size + 1) sc.names (cloFrom X.env.cells sc.names [])) fp
  have pk := hk s3 (upd H2 D (DicM X.prog X.w D [])) s3.heap.objs.size (cellsFrom (s3.heap.objs.size + 1) sc.names (cloFrom X.env.cells sc.names [])) fp
  have pv := he s3 (upd H2 D (DicM X.prog X.w D [])) s3.heap.objs.size (cellsFrom (s3.heap.objs.size + 1) sc.names (cloFrom X.env.cells sc.names [])) fp
  have none3 : ∀ b ∈ fp, (upd H2 D (DicM X.prog X.w D [])) b = none := fun b hb => (f3 b hb).1.1
  show codeAny _ _ (.compStart (dc1 kx vx t0 i0 fs0 sc pos) 0 (.ref it) (.ref D) (compEnvC sc (cellsFrom (s3.heap.objs.size + 1) sc.names (cloFrom X.env.cells sc.names [])) s3.heap.objs.size X.env)) _ { s3 with heap := pushCells (s3.heap.push { cls := .type "dict", data := .dict #[] }) sc.names }
  generalize hce : compEnvC sc (cellsFrom (s3.heap.objs.size + 1) sc.names (cloFrom X.env.cells sc.names [])) s3.heap.objs.size X.env = ce at I4 pg pt pk pv ⊢
  have loc : ce.locals = s3.heap.objs.size := by subst hce; rfl
  generalize upd H2 D (DicM X.prog X.w D []) = H3 at I3 I4 pg pt pk pv w0 none3 f3
  generalize hs4 : ({ s3 with heap := pushCells (s3.heap.push { cls := .type "dict", data := .dict #[] }) sc.names } : Shared) = s4 at I4 ⊢
  have st4 : tn 0 s4.heap := T.keep _ _ _ st2 fun b _ o e => by
    rw [← hs4]
    refine pushCells_keeps _ _ _ _ (Heap.get?_push_of_some _ ?_)
    rw [h3]
    exact Heap.get?_push_of_some _ e
  have stat : ∀ {σ' : L2.St} {H' : Hp} {s' : Shared}, Inv (X.blk s3 H3 sc ce fp) [] σ' H' s' → (∀ b ∈ fp, H' b = none) → ∀ b ∈ fp, FpOk (X.blk s3 H3 sc ce fp) [] H' b := fun {σ' H' s'} I' hn b hb =>
    ⟨hn b hb, (I'.ok.exf b hb).1, I'.ok.exfs b hb, .inl hb, fun x c e => (I'.ok.exf b hb).2 x c e, fun p hp => (by simp at hp : False).elim⟩
  have loop : codeAny (model X.prog X.w) X.A (.compLoop (dc1 kx vx t0 i0 fs0 sc pos) 0 (.ref it) (.ref D) ce) (compPost (model X.prog X.w) X.A X.xe use Qf (.ref D) s3.heap.objs.size) s4 := by
    refine loop_d1 (fun n s' => ∃ i H', Inv (X.blk s3 H3 sc ce fp) [] (wipe σ (own.map (·.2))) H' s' ∧ tn i s'.heap ∧ (∀ b ∈ fp, H' b = none) ∧ W i n H') ?_ m0 ⟨0, H3, I4, st4, none3, w0⟩
    rintro n s5 ⟨i, H5, I5, st5, n5, w5⟩
    rcases turn i n H5 w5 with ⟨stop, qq⟩ | ⟨go, Nx, hNx, step⟩
    · refine thnF (T.done (X.blk s3 H3 sc ce fp) rfl rfl rfl hc i [] s5 _ H5 (fun _ _ => False) I5 (stat I5 n5) st5 stop) fun r s6 ⟨hr, I6⟩ => ?_
      subst hr
      have I7 : Inv X pins σ H5 s6 := I3.call' (ch := fp) I6.os I6.base I6.hok I6.bare fun b hb => ⟨(f3 b hb).1.2.2.2.1, (f3 b hb).1.2.1, (f3 b hb).1.2.2.2.2.1, (f3 b hb).1.2.2.2.2.2⟩
      have nC : H5 s3.heap.objs.size = none := by
        rw [← loc]
        exact I6.free
      obtain ⟨m, hn, _⟩ := I6.loc
      replace hn : s6.heap.Ns ce.locals m := hn
      rw [loc] at hn
      exact hRR D s3.heap.objs.size s6 m H5 I7 qq hn (I3.fpOk (Nat.le_refl _) nC)
    · refine thnF (T.item (X.blk s3 H3 sc ce fp) rfl rfl rfl hc i [] s5 _ H5 (fun _ _ => False) I5 (stat I5 n5) st5 go) fun r s6 ⟨u, hr, h6⟩ => ?_
      subst hr
      refine thnF h6 fun _ s7 ⟨x, H7, I7, r7, y7, st7, n7⟩ => ?_
      refine thnF (pg.run _ s7 _ H7 x u _ (I7.pinned (stat I7 n7) (T.obj _ _ st7)) r7 (step x H7 y7)) fun _ s8 ⟨σ8, H8, I8, hw8, q8⟩ => ?_
      refine thnF (pt.run _ s8 σ8 H8 _ I8 q8) fun b s9 ⟨H9, I9, q9⟩ => ?_
      have fin : ∀ {s' : Shared} {H' : Hp}, Inv (X.blk s3 H3 sc ce fp) ([] ++ pinsAt fp s7.heap) σ8 H' s' → Nx H' →
          ∃ m, m < n ∧ ∃ i H', Inv (X.blk s3 H3 sc ce fp) [] (wipe σ (own.map (·.2))) H' s' ∧ tn i s'.heap ∧ (∀ b ∈ fp, H' b = none) ∧ W i m H' := fun {s' H'} I' nx => by
        obtain ⟨m', hm, w'⟩ := hNx H' nx
        have pin' : ∀ b ∈ fp, ∀ o, s7.heap.get? b = some o → s'.heap.get? b = some o ∧ H' b = none := fun b hb o e =>
          let z := I'.pin (b, o) (List.mem_append_right _ (List.mem_append_right _ (mem_pinsAt hb e)))
          ⟨z.1, z.2.1⟩
        refine ⟨m', hm, i + 1, H', (I'.unpinned (pins := [])).weak (by rw [← hw8, wipe_length]) (fun j v e => by rw [← hw8] at e; exact (wipe_some e).1), T.keep _ _ _ st7 fun b hb o e => (pin' b hb o e).1, fun b hb => ?_, w'⟩
        obtain ⟨o, e, _⟩ := T.obj _ _ st7 b hb
        exact (pin' b hb o e).2
      cases b with
      | false =>
        simp only [Bool.false_eq_true, if_false] at q9 ⊢
        exact fin I9 q9
      | true =>
        simp only [if_true] at q9 ⊢
        refine thnF (pk.run _ s9 σ8 H9 _ I9 q9) fun kv s17 ⟨yk, H17, I17, r17, q17⟩ => ?_
        refine thnF (pv.run _ s17 σ8 H17 _ I17 q17) fun vv s18 ⟨yv, H18, I18, r18, mm, bb, kk, ek, dA, hb18, hz, nx⟩ => ?_
        subst ek
        cases r17
        exact mdic_set (X := X.blk s3 H3 sc ce fp) hu I18 dA hb18 hz r18 fun s19 I19 => fin I19 nx
  exact codeAny_compStart_dict loop (T.self X.A 0 _ _ _ st4 loop)
theorem pe_mc1 {kx vx t0 i0 : Expr} {fs0 : List Expr} {sc : Scope} {own : List (Str × Nat)} {pos : Pos} {wi : TI} {g : TG} {tt : TT} {tk tv : TE} {K : PySem.W.Frag} {P : Program} {w : World} (eK : X.K = K) (eP : X.prog = P) (ew : X.w = w) (hu : X.A.units + 65 < cLine) (hc : X.calm = true) (hN : X.N.Nodup)
    (hi : PI X t0 i0 wi) (ok : BlkOk X.N X.env.scope sc own) (hg : Blk X sc fun Y => PG Y t0 g) (ht : Blk X sc fun Y => PTs Y fs0 tt)
    (hk : Blk X sc fun Y => PE Y kx tk) (he : Blk X sc fun Y => PE Y vx tv) (hs : ∀ x, foldedSetIterable i0 X.env x = pure x := by intro _; rfl) :
    PE X (dc1 kx vx t0 i0 fs0 sc pos) (tMc1 K P w wi g tt tk tv (own.map (·.2))) := by
  subst eK eP ew
  refine ⟨fun pins s σ H Q I h => ?_⟩
  rw [arm_eval_DictComp]
  exact mc1_core (Qf := EP X pins σ Q) hu hc hN I hi ok hg ht hk he hs h fun D C s' m H' I' q hn f => ⟨m, hn, fun h'' sb => ⟨.ref D, H', I'.turned (t' := s'.toks) (fun b o hb e => (sb.2 b hb).trans e) f.1 f.2.1 f.2.2.2.1 f.2.2.2.2.1 f.2.2.2.2.2, rfl, q⟩⟩
/-- a local name made a dict by a comprehension -/
theorem ps_setMc1 {i : Nat} {y : Str} {py : Pos} {kx vx t0 i0 : Expr} {fs0 : List Expr} {sc : Scope} {own : List (Str × Nat)} {pos spos : Pos} {wi : TI} {g : TG} {tt : TT} {tk tv : TE} {K : PySem.W.Frag} {P : Program} {w : World} (eK : X.K = K) (eP : X.prog = P) (ew : X.w = w) (hu : X.A.units + 65 < cLine) (hc : X.calm = true) (hN : X.N.Nodup) (hy : X.N[i]? = some y) (hyl : X.env.scope.names.lookup y = some .local)
    (hsw : swapsWith (dc1 kx vx t0 i0 fs0 sc pos) (some (.Name y py)) spos.line X.env = pure true) (hi : PI X t0 i0 wi) (ok : BlkOk X.N X.env.scope sc own) (hg : Blk X sc fun Y => PG Y t0 g) (ht : Blk X sc fun Y => PTs Y fs0 tt)
    (hk : Blk X sc fun Y => PE Y kx tk) (he : Blk X sc fun Y => PE Y vx tv) (hs : ∀ x, foldedSetIterable i0 X.env x = pure x := by intro _; rfl) :
    PS X (.Assign [.Name y py] (dc1 kx vx t0 i0 fs0 sc pos) spos) (tAsg (tMc1 K P w wi g tt tk tv (own.map (·.2))) (gName i)) := by
  subst eK eP ew
  refine ⟨fun pins s σ H D I h => ?_⟩
  rw [exec_Assign_Name_used _ _ _ _ hsw]
  refine wpAny_bind (wpAny_standAt (wpAny_bind ?_))
  show wpAny _ X.A (do let _ ← comprehension (dc1 kx vx t0 i0 fs0 sc pos) sc X.env (firstIterPos [⟨t0, i0, fs0, 0⟩] pos) newDict false (eval i0 X.env) (some (assign (.Name y py) X.env))) _ _ s
  have h0 : tMc1 X.K X.prog X.w wi g tt tk tv (own.map (·.2)) σ H (fun x H1 => gName i x σ H1 D.nx) := h
  refine wpAny_bind (thn (mc1_core (Qf := fun _ s' => SP X pins D .next s') hu hc hN I hi ok hg ht hk he hs h0 fun L C s' m H' I' q hn f => ?_) fun _ s' hq => wpAny_pure (wpAny_pure hq))
  show wpAny _ _ (assign (.Name y py) X.env (.ref L)) _ _ _
  refine wpAny_assign_Name (store_ok2 (v := V.ref L) I' hN hy (.inl hyl) rfl (fun s2 I2 ⟨a, sb, ha⟩ => ?_) (.inr hyl))
  have apart : C ≠ a := ha.elim (fun z => by rw [z]; exact f.2.1) fun z e => f.2.2.2.2.1 y a z e.symm
  exact ⟨m, hn.sameBut sb apart, fun h3 sb3 => ⟨_, H', I2.turned (t' := s2.toks) (fun b o hb e => (sb3.2 b hb).trans e) f.1 f.2.1 f.2.2.2.1 f.2.2.2.2.1 f.2.2.2.2.2, q⟩⟩
end
theorem dicMF_ok {P : Program} {w : World} {H : Hp} {h : Heap} {a : Addr} {m : Mkv} {o : Obj} (ho : h.get? a = some o) (d : DicPM P w h a m) : ObjOk P w H h a (DicMF P w a m o) := by
  refine ⟨⟨ho, d⟩, ⟨o, ho⟩, ?_⟩
  rintro h1 h2 ⟨q, z, y, xs, r, n, o', es, ep, ho', rest⟩ k
  exact ⟨k _ q, z, y, xs, r, n, o', es, ep, k o' ho', rest⟩
section
variable {X : Cx} {pins : List (Addr × Obj)} {σ : L2.St} {H : Hp} {s : Shared} {d : Addr} {m : Mkv} {o : Obj}
theorem fixM_of (I : Inv X pins σ H s) (h : H d = some (DicMF X.prog X.w d m o)) : (d == sysModules) = false ∧ s.heap.get? d = some o ∧ o.ExactDict ∧ ∃ (es : Array DictEntry) (ep : Nat), o.data = .dict es ep ∧ es.size = m.length ∧ ∀ (i : Nat) (e : NestedKey × Addr × V), m[i]? = some e → ∃ en : DictEntry, es[i]? = some en ∧ en.key = .ref e.2.1 := by
  obtain ⟨ho, z, y, xs, r, n, o', es, ep, ho', hx, hd, he⟩ := (show ObjOk X.prog X.w H s.heap d (DicMF X.prog X.w d m o) from I.hok d _ h).1
  rw [ho] at ho'
  cases ho'
  have l1 : es.size = xs.length := size_of_entries he
  have l2 : m.length = xs.length := Paired.length r
  refine ⟨y, ho, hx, es, ep, hd, by omega, fun i e hm => ?_⟩
  have keys : ∀ {ms : Mkv} {zs : List (NestedKey × Addr × Value)}, MRel ms zs → ∀ (j : Nat) (e : NestedKey × Addr × V), ms[j]? = some e → ∃ z, zs[j]? = some z ∧ e.2.1 = z.2.1 := by
    intro ms zs q
    induction q with
    | nil => intro j z hz; simp at hz
    | @cons a b as bs hab t ih =>
      intro j z hz
      cases j with
      | zero =>
        cases hz
        exact ⟨b, rfl, hab.2.1⟩
      | succ j => exact ih j z hz
  obtain ⟨b, hb, e2⟩ := keys r i e hm
  have q := entry_at he i
  rw [hb] at q
  exact ⟨_, q, by rw [e2]; rfl⟩
theorem fixM_in (I : Inv X pins σ H s) (h : H d = some (DicM X.prog X.w d m)) : ∃ o, Inv X pins σ (upd H d (DicMF X.prog X.w d m o)) s := by
  have hp := (show ObjOk X.prog X.w H s.heap d (DicM X.prog X.w d m) from I.hok d _ h).1
  obtain ⟨z, y, xs, r, n, o, es, ep, ho, rest⟩ := id hp
  exact ⟨o, d_write (h' := s.heap) (t' := s.toks) I (by rw [h]; exact True.intro) (Heap.SameBut.refl _ _) ⟨o, ho⟩ (dicMF_ok ho hp)⟩
theorem fixM_out (I : Inv X pins σ H s) (h : H d = some (DicMF X.prog X.w d m o)) : Inv X pins σ (upd H d (DicM X.prog X.w d m)) s := by
  obtain ⟨ho, hp⟩ := (show ObjOk X.prog X.w H s.heap d (DicMF X.prog X.w d m o) from I.hok d _ h).1
  exact d_write (h' := s.heap) (t' := s.toks) I (by rw [h]; exact True.intro) (Heap.SameBut.refl _ _) ⟨o, ho⟩ (dicM_ok hp)
end
/-- the statement runs while the dict's object stays -/
def tFixM (P : Program) (w : World) (t : TS) : TS := fun D σ H => ∃ d m, H d = some (DicM P w d m) ∧ ∀ o, t ⟨fun σ' H' => H' d = some (DicMF P w d m o) ∧ D.nx σ' (upd H' d (DicM P w d m)), fun v H' => H' d = some (DicMF P w d m o) ∧ D.rt v (upd H' d (DicM P w d m)), fun σ' H' => H' d = some (DicMF P w d m o) ∧ D.bk σ' (upd H' d (DicM P w d m)), fun σ' H' => H' d = some (DicMF P w d m o) ∧ D.ct σ' (upd H' d (DicM P w d m))⟩ σ (upd H d (DicMF P w d m o))
theorem ps_fixM {X : Cx} {P : Program} {w : World} {st : Stmt} {t : TS} (eP : X.prog = P) (ew : X.w = w) (h : PS X st t) : PS X st (tFixM P w t) := by
  subst eP ew
  refine ⟨fun pins s σ H D I hw => ?_⟩
  obtain ⟨d, m, hd, hw⟩ := hw
  obtain ⟨o, I1⟩ := fixM_in I hd
  refine thn (h.run pins s σ _ _ I1 (hw o)) fun f s1 q => ?_
  cases f with
  | next => obtain ⟨σ', H', I2, e, q⟩ := q; exact ⟨σ', _, fixM_out I2 e, q⟩
  | brk => obtain ⟨σ', H', I2, e, q⟩ := q; exact ⟨σ', _, fixM_out I2 e, q⟩
  | cont => obtain ⟨σ', H', I2, e, q⟩ := q; exact ⟨σ', _, fixM_out I2 e, q⟩
  | ret v => obtain ⟨x, σ', H', I2, r, e, q⟩ := q; exact ⟨x, σ', _, fixM_out I2 e, r, q⟩
def ItM (P : Program) (w : World) (d : Addr) (m : Mkv) (o : Obj) : It :=
  ⟨fun i H => H d = some (DicMF P w d m o) ∧ i < m.length, fun i H x H' => H' = H ∧ ∃ e, m[i]? = some e ∧ x = .ref e.2.1, fun i H => H d = some (DicMF P w d m o) ∧ m.length ≤ i⟩
section
variable {P : Program} {w : World} {K : PySem.W.Frag} {tg : Expr} {d : Addr} {o : Obj} {es : Array DictEntry} {ep : Nat}
theorem turn_mkeys {m : Mkv} (it : Addr) (hod : o.data = .dict es ep) : Turn P w K tg (ItM P w d m o) [it] it (fun i h => h.IsKeyIter it d i m.length ep) where
  mem := by simp
  obj := fun i h st b hb => by
    have e : b = it := by simpa using hb
    subst e
    obtain ⟨oi, e, c, dd⟩ := st
    exact ⟨oi, e, fun v z => by rw [dd] at z; cases z⟩
  keep := fun i h h' st k => st.at fun oi e => k it (by simp) oi e
  item := by
    intro X hP hw hK hc i pins s σ H E I hf st hg
    subst hP hw hK
    obtain ⟨hd, hi⟩ := hg
    obtain ⟨f0, f1, f2, f3, f4, f5⟩ := hf it (by simp)
    obtain ⟨hs, hgd, hx, es', ep', hdt, hsz, ent⟩ := fixM_of I hd
    obtain ⟨rfl, rfl⟩ := dict_ep hod hdt
    have hkv : m[i]? = some m[i] := List.getElem?_eq_getElem hi
    obtain ⟨en, hen, hkey⟩ := ent i _ hkv
    refine next_key_item st hgd hdt hsz hen fun h' st' sb => ?_
    have I1 : Inv X pins σ H { s with heap := h' } := I.turned (t' := s.toks) (fun b ob hb e => (sb.2 b hb).trans e) f0 f1 f3 f4 f5
    obtain ⟨oi, e, c, dd⟩ := id st'
    exact ⟨en.key, rfl, go_of (s := { s with heap := h' }) e c dd (by decide) ⟨.ref (m[i]).2.1, H, I1, hkey, ⟨rfl, _, hkv, rfl⟩, st', fun b hb => (hf b hb).1⟩⟩
  done := by
    intro X hP hw hK hc i pins s σ H E I hf st hg
    subst hP hw hK
    obtain ⟨hd, hi⟩ := hg
    obtain ⟨f0, f1, f2, f3, f4, f5⟩ := hf it (by simp)
    obtain ⟨hs, hgd, hx, es', ep', hdt, hsz, ent⟩ := fixM_of I hd
    obtain ⟨rfl, rfl⟩ := dict_ep hod hdt
    exact next_key_end (I.ok.hd hc) st hgd hdt hsz hi fun h' eb => ⟨rfl, I.turned (t' := s.toks) (fun b ob hb e => eb b ob hb e) f0 f1 f3 f4 f5⟩
  self := fun A i s Q E st h => by
    refine wpAny_pyIter_slot st.typeIs F.slot_dict_keyiterator_iter (wpAny_call_entry F.slot_dict_keyiterator_iter st.typeIs F.entry_dict_keyiterator_iter ?_ (F.args_dict_keyiterator_iter_1 _))
    show wpAny _ _ (ret (.ref it)) _ _ s
    exact wpAny_pure ⟨_, rfl, "dict_keyiterator", _, st.typeIs, F.slot_dict_keyiterator_next.lookup, h⟩
end
def iMKeys (P : Program) (w : World) (td : TE) : TI := fun σ H R => td σ H fun x H1 => ∃ d o m, x = .ref d ∧ H1 d = some (DicMF P w d m o) ∧ R (ItM P w d m o) H1
theorem pi_mkeys {X : Cx} {P : Program} {w : World} {tg e : Expr} {td : TE} (eP : X.prog = P) (ew : X.w = w) (he : PE X e td) : PI X tg e (iMKeys P w td) := by
  subst eP ew
  refine ⟨fun pins s σ H R I h => ?_⟩
  refine thn (he.run pins s σ H _ I h) fun u s1 ⟨x, H1, I1, rx, d, o, m, ex, hd, q⟩ => ?_
  subst ex
  obtain rfl : u = Value.ref d := rx
  obtain ⟨hs, hgd, hx, es, ep, hdt, hsz, ent⟩ := fixM_of I1 hd
  refine iter_keys hs hgd hx hdt (pi_one (tk := s1.toks) I1 _ (turn_mkeys _ hdt) ⟨_, Heap.get?_push_size _ rfl, rfl, ?_⟩ q)
  rw [hsz] <;> rfl
section
variable {P : Program} {w : World} {H : Hp} {σ : L2.St} {td : TE} {D : Ends} {tu tz : TS} {j : Nat} {a : Addr} {m : Mkv}
theorem walk_mkeys {o : Obj} : Walk (ItM P w a m o) m.length (fun H => H a = some (DicMF P w a m o)) (fun i H x H' => H' = H ∧ ∃ e, m[i]? = some e ∧ x = .ref e.2.1) :=
  ⟨fun i H hi h => ⟨h, hi⟩, fun H h => ⟨h, Nat.le_refl _⟩, fun i H x H' _ _ y => y⟩
/-- for k in d -/
theorem go_forMK (hv : ∀ H', Ev td σ H' (.ref a)) (hH : H a = some (DicM P w a m)) (Pv : Obj → Nat → L2.St → Hp → Prop) (h0 : ∀ o H', Ex (upd H a (DicMF P w a m o)) H' → Pv o 0 σ H') (hF : ∀ o i σ' H', Pv o i σ' H' → H' a = some (DicMF P w a m o))
    (hs : ∀ o i σ' H' e (D' : Ends), m[i]? = some e → Pv o i σ' H' → D'.nx = Pv o (i + 1) → Go tu D' (σ'.set j (some (.ref e.2.1))) H') (hd : ∀ o σ' H', Pv o m.length σ' H' → Go tz D σ' (upd H' a (DicM P w a m))) :
    Go (tSeq (tFixM P w (tFor (iMKeys P w td) (gName j) tu)) tz) D σ H := fun H1 e1 =>
  ⟨a, m, e1 _ _ hH, fun o => by
    have x1 : Ex (upd H a (DicMF P w a m o)) (upd H1 a (DicMF P w a m o)) := ex_upd2 e1
    refine hv _ _ (Ex.refl _) _ fun H2 e2 => ⟨a, o, m, rfl, e2 _ _ upd_same, for_it walk_mkeys (Pv o) (h0 o H2 (x1.trans e2)) (fun i σ' H' _ p => hF o i σ' H' p) (fun i x σ' H' H'' hi p y => ?_) (fun σ' H' p => ⟨hF o _ σ' H' p, hd o σ' H' p _ (Ex.refl _)⟩)⟩
    obtain ⟨rfl, e, he, rfl⟩ := y
    exact hs o i σ' H'' e _ he p rfl _ (Ex.refl _)⟩
end
end Cot
namespace Cot
open PySem L2 Evl
/-- a new dict with nested keys, by its keys and values, told over the heap H -/
def EvCH (K : PySem.W.Frag) (P : Program) (w : World) (te : TE) (σ : L2.St) (Hd H : Hp) (L : List (NestedKey × V)) : Prop := ∀ H1, Ex H H1 → ∀ Q : VK, (∀ a m H2 Hn, Gr Hd H1 Hn H2 → H1 a = none → Hn a = none → H2 a = some (DicM P w a m) → KeysM K Hn m → m.map (fun e => (e.1, e.2.2)) = L → Q (.ref a) H2) → te σ H1 Q
def spCM (K : PySem.W.Frag) (P : Program) (w : World) (R : List PyData → List (NestedKey × V) → Prop) : Sp := fun vs H Q _ => ∃ Hd ds L, Ex Hd H ∧ DpAll K Hd vs ds ∧ R ds L ∧ ∀ a m H2 Hn, Gr Hd H Hn H2 → H a = none → Hn a = none → H2 a = some (DicM P w a m) → KeysM K Hn m → m.map (fun e => (e.1, e.2.2)) = L → Q (.ref a) H2
section
variable {K : PySem.W.Frag} {P : Program} {w : World} {H H' Hd Hd' Hn H1 H2 : Hp} {σ : L2.St} {te tk tv : TE} {tr : TA} {n : Nat} {wi : TI} {g : TG} {L : List (NestedKey × V)} {ds es : List PyData} {D : Ends} {tz : TS} {i : Nat}
theorem ecm_call {R : List PyData → List (NestedKey × V) → Prop} {E : XK} (s : Ex Hd H) (h : EvDA K tr σ Hd ds) (hr : R ds L) : EvCH K P w (tCall (spCM K P w R) [] E tr) σ Hd H L := fun H1 e1 Q q =>
  h H1 (s.trans e1) _ fun vs H2 Hn g hd => ⟨Hn, ds, L, g.sub, by rw [List.append_nil]; exact hd, hr, fun a m H3 Hm g3 ha hm h3 hk e => q a m H3 Hm (g.trans g3) (fresh_back g.ex ha) hm h3 hk e⟩
theorem go_retCM (h : EvCH K P w te σ Hd H L) (k : ∀ a m H2 Hn, Gr Hd H Hn H2 → H a = none → Hn a = none → H2 a = some (DicM P w a m) → KeysM K Hn m → m.map (fun e => (e.1, e.2.2)) = L → D.rt (.ref a) H2) : Go (tSeq (tRet te) tz) D σ H := fun H1 e1 =>
  h H1 e1 _ fun a m H2 Hn g ha hn h2 hk e => k a m H2 Hn (g.pre e1) (fresh_back e1 ha) hn h2 hk e
theorem go_asgCM (h : EvCH K P w te σ Hd H L) (k : ∀ a m H2 Hn, Gr Hd H Hn H2 → H a = none → Hn a = none → H2 a = some (DicM P w a m) → KeysM K Hn m → m.map (fun e => (e.1, e.2.2)) = L → Go tz D (σ.set i (some (.ref a))) H2) : Go (tSeq (tAsg te (gName i)) tz) D σ H := fun H1 e1 =>
  h H1 e1 _ fun a m H2 Hn g ha hn h2 hk e => k a m H2 Hn (g.pre e1) (fresh_back e1 ha) hn h2 hk e H2 (Ex.refl _)
theorem valM_fresh {m : Mkv} {k : NestedKey} (h : m.map (fun e => (e.1, e.2.2)) = L) (hk : k ∉ L.map (·.1)) : valM m k = none := by
  rw [valM_none]
  intro e he hek
  refine hk ?_
  rw [← h, List.map_map]
  exact List.mem_map.mpr ⟨e, he, hek⟩
theorem valM_pairs {m : Mkv} {k : NestedKey} (h : m.map (fun e => (e.1, e.2.2)) = L) : valM m k = (L.find? fun e => decide (e.1 = k)).map (·.2) := by
  subst h
  unfold valM
  induction m with
  | nil => rfl
  | cons e m ih =>
    rw [List.map_cons, List.find?_cons, List.find?_cons]
    by_cases c : e.1 = k
    · simp [c]
    · simp only [decide_eq_false c]
      exact ih
/-- what is walked, told over the heap H -/
def EvJ (K : PySem.W.Frag) (wi : TI) (g : TG) (σ : L2.St) (Hd H : Hp) (n : Nat) (S : Nat → L2.St → L2.St → Hp → Prop) : Prop := ∀ H1, Ex H H1 → ∀ R : It → Hp → Prop,
  (∀ J H2 Hn (G : Hp → Prop) (Y : Nat → Hp → V → Hp → Prop), Gr Hd H1 Hn H2 → Walk J n G Y → (∀ H', Ex Hn H' → Ex H2 H' → G H') →
    (∀ (i : Nat) (x : V) (H' H'' : Hp) (σ' : L2.St) (k : L2.St → Hp → Prop), i < n → Ex Hn H' → Ex H2 H' → Y i H' x H'' → (∀ σ2 H3, Ex H' H3 → S i σ' σ2 Hn → k σ2 H3) → g x σ' H'' k) → R J H2) → wi σ H1 R
theorem evj_of {S : Nat → L2.St → L2.St → Hp → Prop} (s : Ex Hd H) (h : EvI K wi g σ Hd n S) : EvJ K wi g σ Hd H n S := fun H1 e1 R r =>
  h H1 (s.trans e1) R fun J H2 Hn G Y gr w hG hY => r J H2 Hn G Y gr w (fun H' x _ => hG H' x) fun i x H' H'' σ' k hi e _ y q => hY i x H' H'' σ' k hi e y q
/-- {k: v for ..}, one clause, no test -/
theorem ec_mc1 {S : Nat → L2.St → L2.St → Hp → Prop} {vs : List Nat} (h : EvJ K wi g σ Hd H n S) (hz : n ≤ 90000) (kv : Nat → NestedKey × V) (ko : ∀ i, i < n → KOk (kv i).1) (hnd : ∀ i j, i < j → j < n → (kv i).1 ≠ (kv j).1)
    (ht : ∀ (i : Nat) (σ2 : L2.St) (Hn : Hp), i < n → Ex Hd Hn → S i (wipe σ vs) σ2 Hn → wipe σ2 vs = wipe σ vs ∧ EvD K tk σ2 Hn (kv i).1.data ∧ ∀ H', Ex Hn H' → Ex H H' → Ev tv σ2 H' (kv i).2) :
    EvCH K P w (tMc1 K P w wi g tYes tk tv vs) σ Hd H ((List.range n).map kv) := fun H1 e1 Q q =>
  h H1 e1 _ fun J H2 Hn G Y gr wk hG hY D hD => by
    refine ⟨fun i c H' => c = n - i ∧ i ≤ n ∧ ∃ Hm mm, Gr Hn H2 Hm H' ∧ Hm D = none ∧ H' D = some (DicM P w D mm) ∧ KeysM K Hm mm ∧ mm.map (fun e => (e.1, e.2.2)) = (List.range i).map kv, ⟨n, by simp, Nat.zero_le _, Hn, [], Gr.alloc gr.sub hD, fresh_back gr.sub hD, upd_same, fun _ h => (by cases h), rfl⟩, ?_⟩
    rintro i c H' ⟨rfl, hi, Hm, mm, g0, hmD, hD', hK, hL⟩
    have q0 := hG H' (g0.dx.trans g0.sub) g0.ex
    by_cases hlt : i < n
    · refine .inr ⟨wk.goes i H' hlt q0, fun H3 => ∃ Hm mm, Gr Hn H2 Hm H3 ∧ Hm D = none ∧ H3 D = some (DicM P w D mm) ∧ KeysM K Hm mm ∧ mm.map (fun e => (e.1, e.2.2)) = (List.range (i + 1)).map kv, fun H3 p' => ⟨n - (i + 1), by omega, rfl, hlt, p'⟩, fun x H'' y => ?_⟩
      refine hY i x H' H'' _ _ hlt (g0.dx.trans g0.sub) g0.ex (wk.yields i H' x H'' hlt q0 y) fun σ2 H3 e3 hS => ?_
      obtain ⟨hw, hE, hV⟩ := ht i σ2 Hn hlt gr.dx hS
      refine ⟨hw, ?_⟩
      show tk σ2 H3 _
      refine (hE.mono g0.dx) H3 (g0.sub.trans e3) _ fun yv H4 Hp g4 hy => ?_
      obtain ⟨p, rfl, hp⟩ := dp_keyM hy (ko i hlt)
      have x4 : Ex H' H4 := e3.trans g4.ex
      refine hV H4 ((g0.dx.trans g0.sub).trans x4) ((e1.trans (gr.ex.trans g0.ex)).trans x4) H4 (Ex.refl _) _ fun H5 e5 => ?_
      have hpD : Hp D = none := g4.fr _ _ (e3 _ _ hD') hmD
      have lm : mm.length = i := by
        have l1 := congrArg List.length hL
        rw [List.length_map, List.length_map, List.length_range] at l1
        exact l1
      have fr : valM mm (kv i).1 = none := valM_fresh hL fun hin => by
        rw [List.map_map] at hin
        obtain ⟨j, hj, ej⟩ := List.mem_map.mp hin
        exact hnd j i (List.mem_range.mp hj) hlt ej
      have hK4 : KeysM K Hp mm := hK.mono g4.dx
      refine ⟨mm, p, (kv i).1, rfl, ⟨e5 _ _ (x4 _ _ hD'), hK4.mono (g4.sub.trans e5)⟩, keyM_mono (g4.sub.trans e5) hp, sz_lt (by omega), Hp, putM mm (kv i).1 p (kv i).2, ⟨Ex.mut ((g0.ex.trans x4).trans e5) hD, g0.dx.trans g4.dx, Ex.mut (g4.sub.trans e5) hpD, fun a o ha hd => g4.fr a o ((g0.ex.trans e3) a o ha) (g0.fr a o ha hd)⟩, hpD, upd_same, hK4.put hp, ?_⟩
      rw [putM_new _ _ fr, List.map_append, hL, List.range_succ, List.map_append]
      rfl
    · have e : i = n := by omega
      subst e
      exact .inl ⟨wk.stops H' q0, q D mm H' Hm (gr.trans g0) (fresh_back gr.ex hD) hmD hD' hK hL⟩
/-- the statement that returns while the dict's object stays -/
theorem go_fixRet {a : Addr} {m : Mkv} (hH : H a = some (DicM P w a m)) (k : ∀ o H1, Ex (upd H a (DicMF P w a m o)) H1 → te σ H1 fun v H2 => H2 a = some (DicMF P w a m o) ∧ D.rt v (upd H2 a (DicM P w a m))) : Go (tSeq (tFixM P w (tRet te)) tz) D σ H := fun H1 e1 =>
  ⟨a, m, e1 _ _ hH, fun o => k o _ (ex_upd2 e1)⟩
/-- a walk over the dict's keys, which are pairs -/
theorem ej_mkeys {td : TE} {a : Addr} {m : Mkv} {o : Obj} {j j2 : Nat} {f f2 : Nat → Option PyData} (s : Ex Hd H) (hv : Ev td σ H (.ref a)) (hH : H a = some (DicMF P w a m o)) (hk : KeysM K Hd m) (hp : ∀ i e, m[i]? = some e → ∃ d1 d2, e.1.data = .tuple [d1, d2] ∧ f i = some d1 ∧ f2 i = some d2) :
    EvJ K (iMKeys P w td) (g2 K j j2) σ Hd H m.length (SPair K j j2 f f2) := fun H1 e1 R r =>
  hv H1 e1 _ fun H2 e2 => ⟨a, o, m, rfl, (e1.trans e2) _ _ hH, r _ H2 Hd _ _ (Gr.ext (s.trans e1) e2) walk_mkeys (fun H' _ x => x _ _ ((e1.trans e2) _ _ hH)) fun i x H' H'' σ' k hi x1 x2 y q => by
    obtain ⟨rfl, e, he, rfl⟩ := y
    obtain ⟨d1, d2, ed, h1, h2⟩ := hp i e he
    have hd := (hk e (List.mem_of_getElem? he)).1
    rw [ed] at hd
    cases hd with
    | @tup p xs ds hs hall =>
      cases hall with
      | cons c1 c2 =>
        cases c2 with
        | cons c2 c3 =>
          cases c3
          exact ⟨_, _, rfl, ex_t x1 hs, rfl, _, _, rfl, _, _, rfl, rfl, q _ _ (Ex.refl _) ⟨_, _, d1, d2, h1, h2, c1, c2, rfl⟩⟩⟩
end
end Cot

set_option Elab.async false
set_option linter.all false
set_option maxRecDepth 100000
set_option maxHeartbeats 4000000
/-! d.get(k); xs.pop(); the truth of a list. -/
namespace Cot
open PySem PySem.Spec PyProof.Rows L2 Evl
section
variable {X : Cx} {pins : List (Addr × Obj)} {σ : L2.St} {H : Hp} {s : Shared} {a b : Addr} {m : Dkv} {k : List Int} {A : Around} {E : Value → Shared → Prop}
theorem dic_get1 {Q : Value → Shared → Prop} (hu : A.units + 1 < cLine) (I : Inv X pins σ H s) (d : DiR X.K X.prog X.w H a m) (hb : SqT X.K H b (k.map V.int)) (h : ∀ w' s', Inv X pins σ H s' → RelV ((valD m k).getD .non) w' → Q w' s') :
    wpAny (model X.prog X.w) A (call (.builtin "dict.get") [.ref a, .ref b]) Q E s := by
  obtain ⟨z', y, xs, r, dd⟩ := dic_of I d
  exact call_meetsIn PySem.F.slot_dict_get dd.typeIs PySem.F.entry_dict_get (PySem.F.args_dict_get_2 _ _) (meetsH_dict_get (TK X.prog X.w) a b y) ⟨tupleKind_room_in1 hu, k, xs, I.isT hb, dd, h _ _ (I.tok _) ((drel_val r k).getD (show RelV V.non Value.none from rfl))⟩
end
def tNGet1 (K : PySem.W.Frag) (P : Program) (w : World) (td ty : TE) : TE := fun σ H Q => td σ H fun x H1 => ∃ a m, x = .ref a ∧ DiR K P w H1 a m ∧ ty σ H1 fun y H2 => ∃ b k, y = .ref b ∧ DiR K P w H2 a m ∧ SqT K H2 b (k.map V.int) ∧ Q ((valD m k).getD .non) H2
section
variable {X : Cx} {o e : Expr} {apos cpos : Pos} {td ty : TE}
theorem pe_nget1 (hu : X.A.units + 1 < cLine) (ho : PE X o td) (he : PE X e ty) (m : M1 X o "get" apos e cpos) : PE X (.Call (.Attribute o "get" apos) [e] [] cpos) (tNGet1 X.K X.prog X.w td ty) := by
  refine ⟨fun pins s σ H Q I h => ?_⟩
  refine wpAny_Call_method m.base m.few m.line PySem.F.plainAttrs_dict PySem.F.slot_dict_get PySem.F.type_dict_get (thn (ho.run pins s σ H _ I h) fun u s1 ⟨x, H1, I1, rx, a, mm, ex, d, q1⟩ => ?_)
  subst ex
  cases rx
  obtain ⟨_, _, xs, _, dd⟩ := dic_of I1 d
  refine ⟨dd.typeIs, fun b q => ?_, ?_⟩
  · cases q
    obtain ⟨ob, _, _, h1, h2, _⟩ := dd
    exact ⟨ob, h1, h2.2.1⟩
  · rw [m.trees]
    refine Calls.callWith_builtin rfl (Calls.evalArgs_plain (Calls.spliced_cons (thn (he.run pins s1 σ H1 _ I1 q1) fun iv s2 ⟨y, H2, I2, ry, b, k, ey, d3, hb, q3⟩ => Calls.spliced_nil ?_)))
    subst ey
    cases ry
    exact dic_get1 hu I2 d3 hb fun w' s4 I4 rw' => ⟨_, H2, I4, rw', q3⟩
theorem pb_nget1 {K : PySem.W.Frag} {P : Program} {w : World} (h1 : X.K = K) (h2 : X.prog = P) (h3 : X.w = w) (hu : X.A.units + 1 < cLine) (ho : PE X o td) (he : PE X e ty) (m : M1 X o "get" apos e cpos) : PE X (.Call (.Attribute o "get" apos) [e] [] cpos) (tNGet1 K P w td ty) := by
  subst h1 h2 h3
  exact pe_nget1 hu ho he m
end
end Cot
namespace Cot
open PySem L2 Evl
section
variable {K : PySem.W.Frag} {P : Program} {w : World} {H H' Hd Hd' Hn H1 H2 : Hp} {σ : L2.St} {ta td ty tv tx : TE} {D : Ends} {tz : TS} {a b l : Addr} {m : Dkv} {k : List Int} {v y : V} {i : Nat} {xs : List V}
theorem ev_nget1R (s : Ex Hd H) (hd : Ev td σ H (.ref a)) (hk : EvD K ty σ Hd (.tuple (k.map .int))) (d : DiR K P w H a m) : Ev (tNGet1 K P w td ty) σ H ((valD m k).getD .non) := fun H1 e1 Q q =>
  hd H1 e1 _ fun H2 e2 => ⟨a, m, rfl, d.mono (e1.trans e2), hk H2 ((s.trans e1).trans e2) _ fun u H3 Hn g hu => by
    obtain ⟨p, rfl, hp⟩ := dp_key hu
    exact ⟨p, k, rfl, d.mono ((e1.trans e2).trans g.ex), ex_t g.sub hp, q H3 (e2.trans g.ex)⟩⟩
/-- x = xs.pop() -/
theorem go_asgPop (hl : H l = some (.lst xs)) (ha : Ev ta σ H (.ref l)) (hy : xs[xs.length - 1]? = some y) (k : Go tz D (σ.set i (some y)) (upd H l (.lst xs.dropLast))) : Go (tSeq (tAsg (tBM0 K "list" rPop ta) (gName i)) tz) D σ H := fun H1 e1 =>
  ha H1 e1 _ fun H2 e2 => ⟨Or.inl ⟨rfl, xs, sq_of ((e1.trans e2) _ _ hl)⟩, l, xs, y, rfl, rfl, (e1.trans e2) _ _ hl, hy, k _ (ex_upd2 (e1.trans e2))⟩
/-- if xs: -/
theorem et_truL (ha : Ev ta σ H (.ref l)) (hl : SqL K H l xs) : EvT (fun σ H Q => ta σ H fun x H' => ∃ k, TruV K x H' k ∧ Q k H') σ H (!xs.isEmpty) := fun H1 e1 Q q =>
  ha H1 e1 _ fun H2 e2 => ⟨!xs.isEmpty, .inl ⟨xs, ex_l (e1.trans e2) hl, rfl⟩, q H2 e2⟩
end
end Cot

set_option Elab.async false
set_option linter.all false
set_option maxRecDepth 100000
set_option maxHeartbeats 4000000
/-! list(d.values()), d with nested keys. -/
namespace Cot
open PySem PySem.Spec PyProof.Rows L2 Evl
def viewV (p a : Addr) : HO := .ext fun h => h.IsValuesView p a
theorem viewV_ok {P : Program} {w : World} {H : Hp} {h : Heap} {p a : Addr} (x : h.IsValuesView p a) : ObjOk P w H h p (viewV p a) := by
  refine ⟨x, ?_, ?_⟩
  · obtain ⟨o, ho, _⟩ := x
    exact ⟨o, ho⟩
  · rintro h1 h2 ⟨o, ho, r⟩ k
    exact ⟨o, k o ho, r⟩
def tMVals (K : PySem.W.Frag) (P : Program) (w : World) (td : TE) : TE := fun σ H Q => td σ H fun x H1 => ∃ a m, x = .ref a ∧ MiR K P w H1 a m ∧ ∀ p, H1 p = none → Q (.ref p) (upd H1 p (viewV p a))
def rMVList (K : PySem.W.Frag) (P : Program) (w : World) : List V → Hp → VK → Prop := fun xs H Q => ∃ q d m, xs = [V.ref q] ∧ H q = some (viewV q d) ∧ MiR K P w H d m ∧ ∀ p, H p = none → Q (.ref p) (upd H p (.lst (m.map fun e => e.2.2)))
section
variable {X : Cx} {o : Expr} {apos cpos : Pos} {td : TE}
theorem pe_mvals {K : PySem.W.Frag} {P : Program} {w : World} (e1 : X.K = K) (e2 : X.prog = P) (e3 : X.w = w) (ho : PE X o td) (hbase : attributeBase o "values" X.env (eval o X.env) = eval o X.env := by rfl) (hline : (apos.endLine == cpos.line) = true := by rfl) : PE X (.Call (.Attribute o "values" apos) [] [] cpos) (tMVals K P w td) := by
  subst e1 e2 e3
  refine ⟨fun pins s σ H Q I h => ?_⟩
  refine wpAny_Call_method0_late hbase hline (thn (ho.run pins s σ H _ I h) fun v s1 ⟨x, H1, I1, r1, a, m, ex, d, q⟩ => ?_)
  subst ex
  obtain rfl : v = Value.ref a := r1
  obtain ⟨_, y, xs, _, dd⟩ := mdic_of I1 d
  obtain ⟨es, ep, raw, _⟩ := dd.raw
  obtain ⟨ob, hob, ex, _⟩ := id raw
  refine ⟨"dict", "dict.values", PySem.F.plainAttrs_dict, PySem.F.slot_dict_values, PySem.F.type_dict_values, ⟨ob, hob, ex.1⟩, fun b e => ?_, Calls.callWith_builtin rfl (PySem.evalArgs_none ?_)⟩
  · cases e
    exact ⟨ob, hob, ex.2.1⟩
  refine call_meetsIn PySem.F.slot_dict_values ⟨ob, hob, ex.1⟩ PySem.F.entry_dict_values (PySem.F.args_dict_values_1 _) (PySem.meets_dict_values_raw a y) ⟨⟨es, ep, raw⟩, ?_⟩
  exact ⟨.ref s1.heap.objs.size, _, I1.laid (t' := s1.toks) (fun b o q => Heap.get?_push_of_some _ q) (Nat.le_refl _) (viewV_ok ⟨_, Heap.get?_push_size _ rfl, rfl, rfl⟩), rfl, q _ (I1.hok.fresh (Nat.le_refl _))⟩
theorem kdl_rawV {prog : Program} {w : World} {r d : Addr} {es : Array DictEntry} {ep : Nat} :
    PySem.W.KdlSrc prog w "dict_values" r d es.size (fun i v => ∃ hi : i < es.size, v = es[i].val) (fun h => h.IsValuesView r d ∧ h.DictRaw d es ep) where
  type := fun _ hm => hm.1.typeIs
  there := fun _ hm => ⟨let ⟨_, ho, _⟩ := hm.1; Heap.lt_size ho, let ⟨_, ho, _⟩ := hm.2; Heap.lt_size ho⟩
  keep := fun _ _ hm hk => ⟨let ⟨o, ho, x⟩ := hm.1; ⟨o, hk r (.inl rfl) o ho, x⟩, hm.2.at fun o e => hk d (.inr rfl) o e⟩
  notList := by decide
  notTuple := by decide
  hint := fun _ _ _ _ hm hq => PySem.W.kdl_hint_values hm.1.typeIs hq
  iter := fun _ s hh hm => ⟨_, _, (fun _ _ hq => wpAny_pyIter_values_raw hm.1 hm.2 hq), Walks.rawValues hh _ d (let ⟨_, ho, _⟩ := hm.2; Nat.ne_of_lt (Heap.lt_size ho)) es ep, ⟨⟨_, Heap.get?_push_size _ rfl, rfl, rfl⟩, hm.2.at fun o e => Heap.get?_push_of_some _ e⟩⟩
theorem call_mvlist {K : PySem.W.Frag} {P : Program} {w : World} (e1 : X.K = K) (e2 : X.prog = P) (e3 : X.w = w) (hc : X.calm = true) : CallR X (.type "list") (rMVList K P w) := by
  subst e1 e2 e3
  intro pins s σ H xs us Q I r h
  obtain ⟨q0, d, m, rfl, hq0, dA, q⟩ := h
  obtain ⟨u, rfl, rx⟩ := vals1 r
  cases rx
  have hv : s.heap.IsValuesView q0 d := (show ObjOk X.prog X.w H s.heap q0 (viewV q0 d) from I.hok q0 _ hq0).1
  obtain ⟨z, y, ys, rel, dd⟩ := mdic_of I dA
  obtain ⟨es, ep, raw, l1, hent⟩ := dd.raw
  have l2 : m.length = ys.length := Paired.length rel
  refine PySem.W.kdl_call kdl_rawV (I.ok.hd hc) ⟨hv, raw⟩ (by omega) fun h' tk acc c kp eo it => ?_
  have lens : acc.toList.length = m.length := by
    rw [Array.length_toList, it.1]
    omega
  have vals : ∀ {ms : Mkv} {zs : List (NestedKey × Addr × Value)}, MRel ms zs → ∀ (j : Nat) (z : NestedKey × Addr × Value), zs[j]? = some z → ∃ e, ms[j]? = some e ∧ RelV e.2.2 z.2.2 := by
    intro ms zs q
    induction q with
    | nil => intro j z hz; simp at hz
    | @cons a b as bs hab t ih =>
      intro j z hz
      cases j with
      | zero =>
        cases hz
        exact ⟨a, rfl, hab.2.2⟩
      | succ j => exact ih j z hz
  refine ⟨.ref s.heap.objs.size, _, I.laid (t' := tk) (o := .lst (m.map fun e => e.2.2)) kp (Nat.le_refl _) ⟨by rw [List.length_map]; exact z, acc.toList, c, ?_, by rw [Array.toArray_toList]; exact eo⟩, rfl, q _ (I.hok.fresh (Nat.le_refl _))⟩
  refine vals_of_at (by rw [List.length_map, lens]) fun j x v h1 h2 => ?_
  obtain ⟨hj, rfl⟩ := it.2 j v (by rw [← Array.getElem?_toList]; exact h2)
  obtain ⟨b, hb, _, hval, _⟩ := hent j hj
  obtain ⟨e, hm, hee⟩ := vals rel j b hb
  rw [List.getElem?_map, hm] at h1
  cases h1
  rw [hval]
  exact hee
end
section
theorem truth_ints {prog : Program} {w : World} {A : Around} {ns : List Int} {its : List Value} (e : Vals (ns.map V.int) its) :
    TruthOf prog w A (fun i v => its.toArray[i]? = some v) (fun i => (ns.map fun n => decide (n ≠ 0)).getD i false) := fun i v s Q E hv hq => by
  have hv' : its[i]? = some v := by simpa using hv
  have at' : ∀ {ms : List Int} {us : List Value}, Vals (ms.map V.int) us → ∀ (j : Nat) (u : Value), us[j]? = some u → ∃ n t, ms[j]? = some n ∧ u = Value.int n t := by
    intro ms
    induction ms with
    | nil => intro us h j u hu; cases h; simp at hu
    | cons m ms ih =>
      intro us h j u hu
      cases h with
      | cons r t =>
        cases j with
        | zero =>
          cases hu
          obtain ⟨k, rfl⟩ := r
          exact ⟨m, k, rfl, rfl⟩
        | succ j => exact ih t j u hu
  obtain ⟨n, t, hn, rfl⟩ := at' e i v hv'
  have hg : (ns.map fun n => decide (n ≠ 0)).getD i false = decide (n ≠ 0) := by rw [List.getD_eq_getElem?_getD, List.getElem?_map, hn] <;> rfl
  have hq' : Q ((ns.map fun n => decide (n ≠ 0)).getD i false) s := hq
  rw [hg] at hq'
  have e3 : (n != 0) = decide (n ≠ 0) := by by_cases h : n = 0 <;> simp [h]
  rw [← e3] at hq'
  exact PySem.P.truthy_int hq'
def rAnyI (K : PySem.W.Frag) : List V → Hp → VK → Prop := fun vs H Q => ∃ (a : Addr) (ns : List Int), vs = [V.ref a] ∧ SqL K H a (ns.map V.int) ∧ Q (.bl (ns.any fun n => decide (n ≠ 0))) H
theorem cr_anyI {X : Cx} (hc : X.calm = true) : CallR X (.builtin "any") (rAnyI X.K) := by
  intro pins s σ H vs us Q I r h
  obtain ⟨a, bs, rfl, hs, q⟩ := h
  obtain ⟨its, rv, hl, _⟩ := I.list hs
  rw [Vals.ref1 r]
  refine call_any_walk (iter_any hl.isList fun s₂ e2 st hne => ?_)
  subst e2
  refine ⟨_, _, _, _, _, _, _, rfl, Walks.list (A := X.A.in1) (I.ok.hd hc) _ a hne its.toArray, st, truth_ints rv, fun h' tk hk => ?_⟩
  refine ⟨.bl _, H, I.kept fun b o eo => hk b o (fun hmem => ?_) (Heap.get?_push_of_some _ eo), ?_, q⟩
  · rcases List.mem_cons.mp hmem with e1 | hmem
    · exact absurd (e1 ▸ Heap.lt_size eo) (Nat.lt_irrefl _)
    · cases hmem
  · show Value.bool _ = Value.bool _
    have l : its.length = bs.length := by
      have := rv.length
      rw [List.length_map] at this
      exact this.symm
    have h2 := any_range (bs.map fun n => decide (n ≠ 0))
    rw [List.length_map] at h2
    rw [List.size_toArray, l, h2, List.any_map]
    rfl
end
end Cot
namespace Cot
open PySem L2 Evl
section
variable {K : PySem.W.Frag} {P : Program} {w : World} {H H1 H2 Hn Hd : Hp} {σ : L2.St} {td te : TE} {tr : TA} {L : List (NestedKey × V)}
/-- any(list(d.values())), d new -/
theorem ev_anyVals {ns : List Int} (h : EvCH K P w te σ Hd H L) (hL : L.map (·.2) = ns.map V.int) : Ev (tCB (rAnyI K) (tCons (tCB (rMVList K P w) (tCons (tMVals K P w te) tNil)) tNil)) σ H (.bl (ns.any fun n => decide (n ≠ 0))) := fun H1 e1 Q q =>
  h H1 e1 _ fun a m H2 Hn g ha hn h2 hk e => ⟨a, m, rfl, ⟨.inl h2, hk.mono g.sub⟩, fun p hp => ⟨p, a, m, rfl, upd_same, ⟨.inl (by rw [upd_ne (ne_of_none h2 hp)]; exact h2), (hk.mono g.sub).mono (Ex.new hp)⟩, fun p2 hp2 => ⟨p2, ns, rfl, sq_of (by rw [upd_same, ← hL, ← e, List.map_map]; rfl), q _ ((g.ex.trans (Ex.new hp)).trans (Ex.new hp2))⟩⟩⟩
end
end Cot

set_option Elab.async false
set_option linter.all false
set_option maxRecDepth 100000
set_option maxHeartbeats 4000000
/-! Data that is evaluated where things stand that are no data. -/
namespace Cot
open PySem L2 Evl
def EvDH (K : PySem.W.Frag) (te : TE) (σ : L2.St) (Hd H : Hp) (d : PyData) : Prop := ∀ H1, Ex H H1 → ∀ Q : VK, (∀ v H2 Hn, Gr Hd H1 Hn H2 → Dp K Hn v d → Q v H2) → te σ H1 Q
def EvNH (K : PySem.W.Frag) (te : TE) (σ : L2.St) (Hd H : Hp) (ds : List PyData) : Prop := ∀ H1, Ex H H1 → ∀ Q : VK, (∀ p xs H2 Hn, Gr Hd H1 Hn H2 → H1 p = none → Hn p = none → H2 p = some (.lst xs) → DpAll K Hn xs ds → Q (.ref p) H2) → te σ H1 Q
section
variable {K : PySem.W.Frag} {P : Program} {w : World} {H H' Hd Hd' Hn H1 H2 : Hp} {σ : L2.St} {te tk tv : TE} {tt : TT} {tr : TA} {n : Nat} {wi : TI} {g : TG} {d : PyData} {ds es : List PyData} {v : V} {D : Ends} {tz : TS} {i : Nat}
theorem edh_ed (s : Ex Hd H) (h : EvD K te σ Hd d) : EvDH K te σ Hd H d := fun H1 e1 Q q => h H1 (s.trans e1) Q q
theorem edh_ev (s : Ex Hd H) (h : Ev te σ H v) (hd : Dp K Hd v d) : EvDH K te σ Hd H d := fun H1 e1 Q q => h H1 e1 Q fun H2 e2 => q v H2 Hd (Gr.ext (s.trans e1) e2) hd
theorem enh_en (s : Ex Hd H) (h : EvN K te σ Hd ds) : EvNH K te σ Hd H ds := fun H1 e1 Q q => h H1 (s.trans e1) Q q
theorem edh_new (h : EvNH K te σ Hd H ds) : EvDH K te σ Hd H (.list ds) := fun H1 e1 _ q =>
  h H1 e1 _ fun p xs H2 Hn g hp hn h2 hd => q (.ref p) H2 (upd Hn p (.lst xs)) ⟨g.ex, g.dx.trans (Ex.new hn), fun a o ha => by
    by_cases e : a = p
    · subst e
      rw [upd_same] at ha
      exact h2.trans ha
    · rw [upd_ne e] at ha
      exact g.sub a o ha, fun a o ha hda => by
    rw [upd_ne (ne_of_none ha hp)]
    exact g.fr a o ha hda⟩ (.lst (sq_of upd_same) (dpa_mono (Ex.new hn) ds hd))
theorem go_retNH (h : EvNH K te σ Hd H ds) (k : ∀ p xs H' Hn, Gr Hd H Hn H' → H p = none → Hn p = none → H' p = some (.lst xs) → DpAll K Hn xs ds → D.rt (.ref p) H') : Go (tSeq (tRet te) tz) D σ H := fun H1 e1 =>
  h H1 e1 _ fun p xs H2 Hn g hp hn h2 hd => k p xs H2 Hn (g.pre e1) (fresh_back e1 hp) hn h2 hd
theorem go_asgNH (h : EvNH K te σ Hd H ds) (k : ∀ p xs H' Hn, Gr Hd H Hn H' → H p = none → Hn p = none → H' p = some (.lst xs) → DpAll K Hn xs ds → Go tz D (σ.set i (some (.ref p))) H') : Go (tSeq (tAsg te (gName i)) tz) D σ H := fun H1 e1 =>
  h H1 e1 _ fun p xs H2 Hn g hp hn h2 hd => k p xs H2 Hn (g.pre e1) (fresh_back e1 hp) hn h2 hd H2 (Ex.refl _)
theorem go_asgDH (h : EvDH K te σ Hd H d) (k : ∀ v H' Hn, Gr Hd H Hn H' → Dp K Hn v d → Go tz D (σ.set i (some v)) H') : Go (tSeq (tAsg te (gName i)) tz) D σ H := fun H1 e1 =>
  h H1 e1 _ fun v H2 Hn g hd => k v H2 Hn (g.pre e1) hd H2 (Ex.refl _)
theorem en_lcH {S : Nat → L2.St → L2.St → Hp → Prop} {vs : List Nat} (h : EvJ K wi g σ Hd H n S) (hn : n ≤ 40000) (f : Nat → Bool) (v : Nat → PyData)
    (ht : ∀ (i : Nat) (σ2 : L2.St) (Hn H' : Hp), i < n → Ex Hd Hn → Ex Hn H' → Ex H H' → S i (wipe σ vs) σ2 Hn → wipe σ2 vs = wipe σ vs ∧ EvT tt σ2 H' (f i) ∧ (f i = true → EvDH K te σ2 Hn H' (v i))) : EvNH K (tLc wi g tt te vs) σ Hd H (givenD n f v) := fun H0 e0 Q q =>
  h H0 e0 _ fun J H1 Hn G Y gr w hG hY Dl hD => by
    refine lc_it w (fun i H' => i ≤ n ∧ ∃ Hm acc, Gr Hn H1 Hm H' ∧ Hm Dl = none ∧ H' Dl = some (.lst acc) ∧ DpAll K Hm acc (givenD i f v)) ⟨Nat.zero_le _, Hn, [], Gr.alloc gr.sub hD, fresh_back gr.sub hD, upd_same, .nil⟩ (fun i H' _ p => ?_) (fun i x H' H'' hi p y => ?_) (fun H' p => ?_)
    · obtain ⟨_, Hm, acc, g1, _⟩ := p
      exact hG H' (g1.dx.trans g1.sub) g1.ex
    · obtain ⟨_, Hm, acc, g1, hm, h2, hac⟩ := p
      refine hY i x H' H'' _ _ hi (g1.dx.trans g1.sub) g1.ex y fun σ2 H3 e3 hS => ?_
      obtain ⟨hw, hT, hE⟩ := ht i σ2 Hn H3 hi gr.dx ((g1.dx.trans g1.sub).trans e3) ((e0.trans gr.ex).trans (g1.ex.trans e3)) hS
      refine ⟨hw, hT H3 (Ex.refl _) _ fun H4 e4 => ?_⟩
      have al : acc.length < sizeLine := sz_lt (by have := givenD_len i f v; rw [dpa_len hac]; omega)
      cases hf : f i with
      | false =>
        show (i + 1 ≤ n ∧ _)
        refine ⟨hi, Hm, acc, g1.post (e3.trans e4), hm, (e3.trans e4) _ _ h2, ?_⟩
        rw [givenD_no hf]
        exact hac
      | true =>
        show te σ2 H4 _
        refine hE hf H4 e4 _ fun y H5 Ho g5' hy' => ?_
        have sm : Ex Hm H4 := (g1.sub.trans e3).trans e4
        have g5 := g5'.up g1.dx sm
        have hy := dp_mono (g5'.upr g1.dx sm) _ hy'
        generalize un Hm Ho = Ho at g5 hy
        have h4 : H4 Dl = some (.lst acc) := (e3.trans e4) _ _ h2
        have ho : Ho Dl = none := g5.fr _ _ h4 hm
        have hD1 : H1 Dl = none := hD
        refine ⟨acc, g5.ex _ _ h4, al, hi, Ho, acc ++ [y], ⟨Ex.mut ((g1.ex.trans (e3.trans e4)).trans g5.ex) hD1, g1.dx.trans g5.dx, Ex.mut g5.sub ho, fun a o ha hd => g5.fr a o ((e3.trans e4) a o (g1.ex a o ha)) (g1.fr a o ha hd)⟩, ho, upd_same, ?_⟩
        rw [givenD_yes hf]
        exact dpa_app (dpa_mono g5.dx _ hac) (.cons hy .nil)
    · obtain ⟨_, Hm, acc, g1, hm, h2, hac⟩ := p
      exact q Dl acc H' Hm (gr.trans g1) (fresh_back gr.ex hD) hm h2 hac
end
end Cot

set_option Elab.async false
set_option linter.all false
set_option maxRecDepth 100000
set_option maxHeartbeats 4000000
/-! zip of a list and a tuple; pop of a place; lists of lists of numbers and None that are changed. -/
namespace Cot
open PySem PySem.Spec PyProof.Rows L2 Evl RZ
abbrev lstItO (t : Addr) : Obj := { cls := .type "list_iterator", data := .fields #[.ref t, .int 0 0] }
abbrev twoO (a b : Value) : Obj := { cls := .type "tuple", data := .seq #[a, b] }
abbrev zipO (a b : Addr) : Obj := { cls := .type "zip", data := .fields #[.none, .bool false, .bool false, .ref a, .ref b] }
abbrev zb (h : Heap) (a b : Addr) : Heap := (h.push (lstItO a)).push (tupItO b)
abbrev zd (h : Heap) (a b : Addr) : Heap := ((zb h a b).push (twoO (.ref h.objs.size) (.ref (h.push (lstItO a)).objs.size))).push (twoO .none .none)
abbrev zc (h : Heap) (a b : Addr) : Heap := (zb h a b).push (twoO (.ref h.objs.size) (.ref (h.push (lstItO a)).objs.size))
abbrev ze (h : Heap) (a b : Addr) : Heap := (zd h a b).push (zipO (zb h a b).objs.size (zc h a b).objs.size)
set_option maxHeartbeats 1000000 in
theorem zipLT_new (a b : Addr) (xs ys : Array Value) :
    Meets (Builtin.«zip.__new__» ⟨[.type "zip", .ref a, .ref b], []⟩) (fun _ R s => s.heap.IsList a xs ∧ s.heap.IsTuple b ys ∧ R (.ok (.ret (.ref (zd s.heap a b).objs.size))) { s with heap := ze s.heap a b }) :=
  .of_wp fun prog w A R s hh => by
    obtain ⟨hp, gs, dr, tk, os⟩ := s
    obtain ⟨hL, hT, hh⟩ := hh
    have sb := sub_zip
    have hT2 : Heap.IsTuple (Shared.heap ⟨hp.push (lstItO a), gs, dr, tk, os⟩) b ys := Heap.IsTuple.push hT _
    have hL2 : Heap.IsList (Shared.heap ⟨hp, gs, dr, tk, os⟩) a xs := hL
    wp_walk using wpAny_pyIter_list hL2, wpAny_pyIter_tuple hT2
    exact ⟨_, rfl, hh⟩
section
variable {prog : Program} {w : World} {A : Around} {E : Value → Shared → Prop} {s : Shared}
theorem call_zipLT {a b : Addr} {xs ys : Array Value} {Q : Value → Shared → Prop} (hL : s.heap.IsList a xs) (hT : s.heap.IsTuple b ys)
    (hq : ∀ h', IsZip h' (s.heap.objs.size + 4) (s.heap.objs.size + 2) (s.heap.objs.size + 3) .none → IsTupOf2 h' (s.heap.objs.size + 2) (.ref s.heap.objs.size) (.ref (s.heap.objs.size + 1)) → IsTupOf2 h' (s.heap.objs.size + 3) .none .none →
      h'.IsListIter s.heap.objs.size a 0 → h'.IsTupleIter (s.heap.objs.size + 1) b 0 → (∀ c o, s.heap.get? c = some o → h'.get? c = some o) → Q (.ref (s.heap.objs.size + 4)) { s with heap := h' }) :
    wpAny (model prog w) A (call (.type "zip") [.ref a, .ref b]) Q E s := by
  refine callType_new F.called_zip (by decide) (F.typeCall_zip_2 _ _) (F.newCall_zip_2 _ _) (fun ob => F.args_object_init_3 ob _ _) F.entry_zip_new (zipLT_new a b xs ys) ⟨hL, hT, ?_⟩
  have s1 : (s.heap.push (lstItO a)).objs.size = s.heap.objs.size + 1 := Heap.size_push ..
  have s2 : (zb s.heap a b).objs.size = s.heap.objs.size + 2 := by rw [Heap.size_push, s1]
  have s3 : (zc s.heap a b).objs.size = s.heap.objs.size + 3 := by rw [Heap.size_push, s2]
  have s4 : (zd s.heap a b).objs.size = s.heap.objs.size + 4 := by rw [Heap.size_push, s3]
  have p0 : (ze s.heap a b).get? s.heap.objs.size = some (lstItO a) := Heap.get?_push_of_some _ (Heap.get?_push_of_some _ (Heap.get?_push_of_some _ (Heap.get?_push_of_some _ (Heap.get?_push_size _ rfl))))
  have p1 : (ze s.heap a b).get? (s.heap.push (lstItO a)).objs.size = some (tupItO b) := Heap.get?_push_of_some _ (Heap.get?_push_of_some _ (Heap.get?_push_of_some _ (Heap.get?_push_size _ rfl)))
  have p2 : (ze s.heap a b).get? (zb s.heap a b).objs.size = some (twoO (.ref s.heap.objs.size) (.ref (s.heap.push (lstItO a)).objs.size)) := Heap.get?_push_of_some _ (Heap.get?_push_of_some _ (Heap.get?_push_size _ rfl))
  have p3 : (ze s.heap a b).get? (zc s.heap a b).objs.size = some (twoO .none .none) := Heap.get?_push_of_some _ (Heap.get?_push_size _ rfl)
  have p4 : (ze s.heap a b).get? (zd s.heap a b).objs.size = some (zipO (zb s.heap a b).objs.size (zc s.heap a b).objs.size) := Heap.get?_push_size _ rfl
  rw [s1, s2] at p2
  rw [s1] at p1
  rw [s3] at p3
  rw [s2, s3, s4] at p4
  show _ ∧ _
  rw [s4]
  exact ⟨⟨_, p4, rfl⟩, hq _ p4 p2 p3 ⟨_, p0, rfl, rfl⟩ ⟨_, p1, rfl, rfl⟩ fun c o x => Heap.get?_push_of_some _ (Heap.get?_push_of_some _ (Heap.get?_push_of_some _ (Heap.get?_push_of_some _ (Heap.get?_push_of_some _ x))))⟩
end
/-- the list at a and the tuple at b, item by item in new pairs -/
def ItzLT (K : PySem.W.Frag) (a b : Addr) : It :=
  ⟨fun i H => ∃ (xs ys : List V) (x y : V), SqL K H a xs ∧ SqT K H b ys ∧ xs[i]? = some x ∧ ys[i]? = some y, fun i H v H' => ∃ T x y, v = .ref T ∧ H T = none ∧ H' = upd H T (.tup [x, y]) ∧ (∀ xs, SqL K H a xs → xs[i]? = some x) ∧ ∀ ys, SqT K H b ys → ys[i]? = some y,
    fun i H => ∃ xs ys : List V, SqL K H a xs ∧ SqT K H b ys ∧ i ≤ xs.length ∧ i ≤ ys.length ∧ (i = xs.length ∨ i = ys.length)⟩
theorem sep_of {z TI TO i1 i2 a b : Addr} (D : ZipApart z TI TO i1 i2 a b) : ZipSep2 z TI TO i1 i2 [i1, a] [i2, b] :=
  ⟨D.TIz, D.TOz, D.TITO, D.TIi1, by simp, by simp [D.i1z.symm, D.l1z.symm], by simp [D.TOi1, D.l1TO.symm], D.TIi2, by simp, by simp [D.i2z.symm, D.l2z.symm], by simp [D.TOi2, D.l2TO.symm], by simp [D.i12, D.l2i1.symm], by simp [D.i12.symm, D.l1i2.symm]⟩
theorem turn_zipLT {P : Program} {w : World} {K : PySem.W.Frag} {elts : List Expr} {kk : Nat} {tpos : Pos} {a b z TI TO i1 i2 : Addr} (D : ZipApart z TI TO i1 i2 a b) :
    Turn P w K (.Tuple elts kk tpos) (ItzLT K a b) [z, TI, TO, i1, i2] z (fun i h => IsZip h z TI TO .none ∧ IsTupOf2 h TI (.ref i1) (.ref i2) ∧ (∃ x y, IsTupOf2 h TO x y) ∧ h.IsListIter i1 a i ∧ h.IsTupleIter i2 b i) where
  mem := by simp
  obj := fun i h st c hc => by
    obtain ⟨hz, hTI, ⟨x, y, hTO⟩, ⟨o1, e1, _, d1⟩, ⟨o2, e2, _, d2⟩⟩ := st
    simp only [List.mem_cons, List.not_mem_nil, or_false] at hc
    rcases hc with rfl | rfl | rfl | rfl | rfl
    · exact ⟨_, hz, fun _ q => nomatch q⟩
    · exact ⟨_, hTI, fun _ q => nomatch q⟩
    · exact ⟨_, hTO, fun _ q => nomatch q⟩
    · exact ⟨o1, e1, fun _ q => by rw [d1] at q; cases q⟩
    · exact ⟨o2, e2, fun _ q => by rw [d2] at q; cases q⟩
  keep := fun i h h' st k => by
    obtain ⟨hz, hTI, ⟨x, y, hTO⟩, ⟨o1, e1, r1⟩, ⟨o2, e2, r2⟩⟩ := st
    exact ⟨k z (by simp) _ hz, k TI (by simp) _ hTI, ⟨x, y, k TO (by simp) _ hTO⟩, ⟨o1, k i1 (by simp) _ e1, r1⟩, ⟨o2, k i2 (by simp) _ e2, r2⟩⟩
  item := by
    intro X hP hw hK hc i pins s σ H E I hf st hg
    subst hP hw hK
    obtain ⟨hz, hTI, ⟨x0, y0, hTO⟩, j1, j2⟩ := st
    obtain ⟨xs, ys, x, y, qx, qy, hx, hy⟩ := hg
    obtain ⟨its, rv, p, _⟩ := I.list qx
    obtain ⟨its2, rv2, p2, _⟩ := I.tuple qy
    obtain ⟨u, hu, ru⟩ := rv.get hx
    obtain ⟨u2, hu2, ru2⟩ := rv2.get hy
    have lt1 : i < its.toArray.size := by simpa using (List.getElem?_eq_some_iff.mp hu).1
    have lt2 : i < its2.toArray.size := by simpa using (List.getElem?_eq_some_iff.mp hu2).1
    have zl : z < s.heap.objs.size := Heap.lt_size hz
    have D1 := Draws.list (prog := X.prog) (w := X.w) (show X.A.in1.handled = none from I.ok.hd hc) i1 a D.l1i1 its.toArray
    have D2 := Draws.tuple (prog := X.prog) (w := X.w) (show X.A.in1.handled = none from I.ok.hd hc) i2 b D.l2i2 its2.toArray
    refine wpAny_pyNext_zipD2_item (sep_of D) D1 D2 hz hTI hTO ⟨j1, p.isList⟩ ⟨j2, p2⟩ lt1 lt2 fun v1 v2 h' tk e1 e2 z' TO' st1 st2 hT hsz hk => ?_
    have g1 : v1 = u := by
      have h2 : its.toArray[i]? = some u := by simpa using hu
      rw [h2] at e1
      cases e1
      rfl
    have g2 : v2 = u2 := by
      have h2 : its2.toArray[i]? = some u2 := by simpa using hu2
      rw [h2] at e2
      cases e2
      rfl
    subst g1 g2
    refine ⟨_, rfl, wpAny_letOwnedTupleGo_zip (s := { s with heap := h', toks := tk }) z' fun h2 z2 sb => ?_⟩
    have hT2 : h2.get? s.heap.objs.size = some (twoO v1 v2) := (sb.2 _ (Nat.ne_of_gt zl)).trans hT
    have new : ObjOk X.prog X.w (upd H s.heap.objs.size (.tup [x, y])) h2 s.heap.objs.size (.tup [x, y]) :=
      ⟨by show 2 ≤ sizeLine; decide, [v1, v2], .cons ru (.cons ru2 .nil), ⟨_, hT2, rfl, _, rfl⟩⟩
    have I1 : Inv X pins σ (upd H s.heap.objs.size (.tup [x, y])) { s with heap := h2, toks := tk } :=
      I.turnedNew (ch := [z, TI, TO, i1, i2]) (fun c o hb q => (sb.2 c (fun e => hb (by simp [e]))).trans (hk c o (fun e => hb (by simp [e])) (fun e => hb (by simp [e])) (fun e => hb (by simp [e])) (fun e => hb (by simp [e])) q)) hf (Nat.le_refl _) new
    refine ⟨.ref s.heap.objs.size, _, I1, rfl, ⟨_, x, y, rfl, I.hok.fresh (Nat.le_refl _), rfl, fun l hl => by rw [I.list_inj hl qx]; exact hx, fun l hl => by rw [I.tuple_inj hl qy]; exact hy⟩, ⟨z2, ?_, ⟨v1, v2, ?_⟩, ?_, ?_⟩, fun c hcm => ?_⟩
    · exact (sb.2 _ D.TIz).trans (hk _ _ D.TIz D.TITO D.TIi1 D.TIi2 hTI)
    · exact (sb.2 _ D.TOz).trans TO'
    · obtain ⟨o3, h3, r3⟩ := st1.1
      exact ⟨o3, (sb.2 _ D.i1z).trans h3, r3⟩
    · obtain ⟨o3, h3, r3⟩ := st2.1
      exact ⟨o3, (sb.2 _ D.i2z).trans h3, r3⟩
    · have hlt : c < s.heap.objs.size := by
        obtain ⟨_, e1, _⟩ := j1
        obtain ⟨_, e2, _⟩ := j2
        simp only [List.mem_cons, List.not_mem_nil, or_false] at hcm
        rcases hcm with rfl | rfl | rfl | rfl | rfl
        · exact zl
        · exact Heap.lt_size hTI
        · exact Heap.lt_size hTO
        · exact Heap.lt_size e1
        · exact Heap.lt_size e2
      rw [upd_ne (Nat.ne_of_lt hlt)]
      exact (hf c hcm).1
  done := by
    intro X hP hw hK hc i pins s σ H E I hf st hg
    subst hP hw hK
    obtain ⟨hz, hTI, ⟨x0, y0, hTO⟩, j1, j2⟩ := st
    obtain ⟨xs, ys, qx, qy, le1, le2, hend⟩ := hg
    obtain ⟨its, rv, p, _⟩ := I.list qx
    obtain ⟨its2, rv2, p2, _⟩ := I.tuple qy
    have l1 : its.toArray.size = xs.length := by rw [List.size_toArray]; exact rv.length.symm
    have l2 : its2.toArray.size = ys.length := by rw [List.size_toArray]; exact rv2.length.symm
    have D1 := Draws.list (prog := X.prog) (w := X.w) (show X.A.in1.handled = none from I.ok.hd hc) i1 a D.l1i1 its.toArray
    have D2 := Draws.tuple (prog := X.prog) (w := X.w) (show X.A.in1.handled = none from I.ok.hd hc) i2 b D.l2i2 its2.toArray
    refine wpAny_pyNext_zipD2_end (sep_of D) D1 D2 hz hTI hTO ⟨j1, p.isList⟩ ⟨j2, p2⟩ (by omega) (by omega) (by omega) fun h' tk hk => ⟨rfl, I.turnedL (t' := tk) (ch := [z, TI, TO, i1, i2]) (fun c o hb q => hk c o (fun e => hb (by simp [e])) (fun e => hb (by simp [e])) (fun e => hb (by simp [e])) (fun e => hb (by simp [e])) q) hf⟩
  self := fun A i s Q E st h => wpAny_pyIter_zip st.1 h
def iZipLT (K : PySem.W.Frag) (ta : TA) : TI := fun σ H R => ta σ H fun vs H1 => ∃ a b xs ys, vs = [.ref a, .ref b] ∧ SqL K H1 a xs ∧ SqT K H1 b ys ∧ R (ItzLT K a b) H1
theorem pi_zipLT {X : Cx} {e e2 : Expr} {ta : TA} {p pos tpos : Pos} {elts : List Expr} {kk : Nat} (hg : Gl X "zip") (hm : X.mg "zip" = none) (ha : PA X [e, e2] ta) (hs : starEach [e, e2] X.env = (false, eval e X.env) :: starEach [e2] X.env := by rfl) (hpl : (backTo pos (starEach [e2] X.env)).any (·.1) = false := by rfl) :
    PI X (.Tuple elts kk tpos) (.Call (.Name "zip" p) [e, e2] [] pos) (iZipLT X.K ta) := by
  refine ⟨fun pins s σ H R I hw => ?_⟩
  refine Call_ (ld_blt I hg hm boot_zip (PyProof.Rows.callWith_type1 (thn (ha.run pos pins s σ H _ I hw) fun us s1 hh => ?_) hs hpl))
  obtain ⟨vs, H1, I1, r1, a, b, xs, ys, rfl, qx, qy, q⟩ := hh
  cases r1 with
  | cons ra rr =>
    cases rr with
    | cons rb rr =>
      cases rr
      cases ra
      cases rb
      obtain ⟨its, rv, p1, _⟩ := I1.list qx
      obtain ⟨its2, rv2, p2, _⟩ := I1.tuple qy
      obtain ⟨o2, ho2, _⟩ := id p2
      refine call_zipLT p1.isList (show s1.heap.IsTuple b its2.toArray from p2) fun h' hz hTI hTO h1 h2 hk => wpAny_pyIter_zip hz ?_
      have I2 : Inv X pins σ H1 { s1 with heap := h' } := I1.kept (t' := s1.toks) hk
      refine ⟨s1.heap.objs.size + 4, [s1.heap.objs.size + 4, s1.heap.objs.size + 2, s1.heap.objs.size + 3, s1.heap.objs.size, s1.heap.objs.size + 1], _, _, H1, rfl, I2, turn_zipLT (PySem.W.ktu_apart s1.heap.objs.size a b p1.lt (Heap.lt_size ho2)), ⟨hz, hTI, ⟨_, _, hTO⟩, h1, h2⟩, fun c hcm => ?_, q⟩
      have hle : s1.heap.objs.size ≤ c := by
        simp only [List.mem_cons, List.not_mem_nil, or_false] at hcm
        rcases hcm with rfl | rfl | rfl | rfl | rfl <;> first | exact Nat.le_refl _ | exact Nat.le_add_right _ _
      exact I1.fpOk hle (I1.hok.fresh hle)
section
variable {K : PySem.W.Frag} {H H' Hd Hd' Hn H1 H2 Hm : Hp} {σ : L2.St} {ta tb te : TE} {tr : TA} {n i j j2 : Nat} {ds es : List PyData} {a b l : Addr} {xs ys : List V} {y v : V} {D : Ends} {tz : TS}
theorem walk_zipLT {n : Nat} (hn : n = min xs.length ys.length) : Walk (ItzLT K a b) n (fun H => SqL K H a xs ∧ SqT K H b ys) (YPair (fun i => xs[i]?) (fun i => ys[i]?)) := by
  subst hn
  refine ⟨fun i _ hi q => ?_, fun _ q => ⟨xs, ys, q.1, q.2, by omega, by omega, by omega⟩, fun i H v H' _ q y => ?_⟩
  · have h1 : i < xs.length := by omega
    have h2 : i < ys.length := by omega
    exact ⟨xs, ys, xs[i], ys[i], q.1, q.2, by simp [h1], by simp [h2]⟩
  · obtain ⟨T, x, z, h1, h2, h3, h4, h5⟩ := y
    exact ⟨T, x, z, h1, h2, h3, h4 xs q.1, h5 ys q.2⟩
theorem ei_zipLT (h : EvDA K tr σ Hd [.list ds, .tuple es]) (hl : ds.length = es.length) : EvI K (iZipLT K tr) (g2 K j j2) σ Hd ds.length (SPair K j j2 (fun i => ds[i]?) (fun i => es[i]?)) := fun H s R r =>
  h H s _ fun vs H2 Hn g hd => by
    cases hd with
    | cons h1 h2 =>
      cases h2 with
      | cons h2 h3 =>
        cases h3
        cases h1 with
        | @lst a xs ds hs hall =>
          cases h2 with
          | @tup b ys es hs2 hall2 =>
            refine ⟨a, b, xs, ys, rfl, ex_l g.sub hs, ex_t g.sub hs2, r _ H2 Hn _ _ g (walk_zipLT (xs := xs) (ys := ys) (by rw [dpa_len hall, dpa_len hall2]; omega)) (fun H' e => ⟨ex_l e hs, ex_t e hs2⟩) fun i x H' H'' σ' k hi e y q => ?_⟩
            exact pair_turn (fun v e => dpa_get2 hall e) (fun v e => dpa_get2 hall2 e) y q
/-- l.pop(i) -/
theorem go_popAt {k : Nat} (hl : H l = some (.lst xs)) (ha : Ev ta σ H (.ref l)) (hi : Ev tb σ H (.int (k : Int))) (hk : k < xs.length) (hz : xs.length ≤ 100000) (kk : Go tz D σ (upd H l (.lst (xs.eraseIdx k)))) : Go (tSeq (tDrop (tBM K "list" rPopAt ta (tCons tb tNil))) tz) D σ H := fun H1 e1 =>
  ha H1 e1 _ fun H2 e2 => ⟨Or.inl ⟨rfl, xs, sq_of ((e1.trans e2) _ _ hl)⟩, hi H2 (e1.trans e2) _ fun H3 e3 => ⟨l, xs, (k : Int), k, xs[k], rfl, rfl, ((e1.trans e2).trans e3) _ _ hl, by omega, by omega, by
    unfold seqIndex?
    simp
    omega, by simp [hk], kk _ (ex_upd2 ((e1.trans e2).trans e3))⟩⟩
end
end Cot

set_option Elab.async false
set_option linter.all false
set_option maxRecDepth 100000
set_option maxHeartbeats 4000000
/-! Lists of lists of numbers and None: as data, and where they are changed. -/
namespace Cot
open PySem L2 Evl
abbrev Ages := List (List (Option Int))
def oD : Option Int → PyData
  | none => .none
  | some n => .int n
def oV : Option Int → V
  | none => .non
  | some n => .int n
def lineD (l : List (Option Int)) : PyData := .list (l.map oD)
def agesD (A : Ages) : PyData := .list (A.map lineD)
section
variable {K : PySem.W.Frag} {a p : Addr} {ps : List Addr} {A : Ages} {r : List (Option Int)} {H H' Hd Hn H1 H2 : Hp} {σ : L2.St} {ta tb tc te tl : TE} {D : Ends} {tz : TS} {d d1 d2 : PyData} {i j : Nat} {b : Bid} {v : V}
theorem ov_dp (o : Option Int) : Dp K H (oV o) (oD o) := by
  cases o with
  | none => exact .non
  | some n => exact .int n
theorem ov_inv {o : Option Int} (h : Dp K H v (oD o)) : v = oV o := by
  cases o with
  | none => cases h; rfl
  | some n => cases h; rfl
theorem ovs_dp : ∀ r : List (Option Int), DpAll K H (r.map oV) (r.map oD)
  | [] => .nil
  | o :: r => .cons (ov_dp o) (ovs_dp r)
theorem ovs_inv : ∀ {r : List (Option Int)} {vs : List V}, DpAll K H vs (r.map oD) → vs = r.map oV
  | [], _, h => by cases h; rfl
  | o :: r, _, h => by
    cases h with
    | cons h1 h2 => rw [ov_inv h1, ovs_inv h2]; rfl
/-- a list of lists of numbers and None, each its own -/
structure LO (H : Hp) (a : Addr) (ps : List Addr) (A : Ages) : Prop where
  top : H a = some (.lst (ps.map .ref))
  len : ps.length = A.length
  nd : ps.Nodup
  out : a ∉ ps
  row : ∀ (i : Nat) (p : Addr) (r : List (Option Int)), ps[i]? = some p → A[i]? = some r → H p = some (.lst (r.map oV))
theorem LO.keep (h : LO H a ps A) (ka : ∀ o, H a = some o → H2 a = some o) (kp : ∀ q ∈ ps, ∀ o, H q = some o → H2 q = some o) : LO H2 a ps A := ⟨ka _ h.top, h.len, h.nd, h.out, fun i p r h1 h2 => kp p (List.mem_of_getElem? h1) _ (h.row i p r h1 h2)⟩
theorem LO.ext (h : LO H a ps A) (e : Ex H H2) : LO H2 a ps A := h.keep (fun o => e a o) fun q _ o => e q o
theorem LO.box (h : LO H a ps A) (g : GrB b Hd H Hn H2) (na : a ≠ b.b) (np : b.b ∉ ps) : LO H2 a ps A := h.keep (fun o => g.exb a o na) fun q hq o => g.exb q o (fun e => np (by rw [← e]; exact hq))
theorem LO.oth {q : Addr} {o : HO} (h : LO H a ps A) (n : q ≠ a) (m : q ∉ ps) : LO (upd H q o) a ps A := h.keep (fun o' => by rw [upd_ne n.symm]; exact id) fun x hx o' => by
  rw [upd_ne (show x ≠ q from fun e => m (by rw [← e]; exact hx))]
  exact id
theorem LO.put (h : LO H a ps A) (hp : ps[i]? = some p) (r' : List (Option Int)) : LO (upd H p (.lst (r'.map oV))) a ps (A.set i r') := by
  have hm := List.mem_of_getElem? hp
  refine ⟨by rw [upd_ne (show a ≠ p from fun e => h.out (by rw [e]; exact hm))]; exact h.top, by rw [List.length_set]; exact h.len, h.nd, h.out, fun k q r h1 h2 => ?_⟩
  have a1 := List.getElem?_eq_some_iff.mp h1
  have a2 := List.getElem?_eq_some_iff.mp hp
  by_cases e : k = i
  · subst e
    rw [h1] at hp
    cases hp
    rw [List.getElem?_set_self (by have := a1.1; have := h.len; omega)] at h2
    cases h2
    exact upd_same
  · rw [List.getElem?_set_ne (fun e2 => e e2.symm)] at h2
    have hne : q ≠ p := fun e2 => by
      subst e2
      exact e ((List.getElem_inj h.nd).mp (a1.2.trans a2.2.symm))
    rw [upd_ne hne]
    exact h.row k q r h1 h2
theorem LO.drop (h : LO H a ps A) (k : Nat) : LO (upd H a (.lst ((ps.eraseIdx k).map .ref))) a (ps.eraseIdx k) (A.eraseIdx k) := by
  have hsub : ∀ x, x ∈ ps.eraseIdx k → x ∈ ps := fun x hx => List.mem_of_mem_eraseIdx hx
  refine ⟨upd_same, by rw [List.length_eraseIdx, List.length_eraseIdx, h.len], h.nd.sublist (List.eraseIdx_sublist ps k), fun hm => h.out (hsub _ hm), fun i p r h1 h2 => ?_⟩
  have hm := hsub _ (List.mem_of_getElem? h1)
  rw [upd_ne (show p ≠ a from fun e => h.out (by rw [← e]; exact hm))]
  rw [List.getElem?_eraseIdx] at h1 h2
  split at h1
  · rename_i hlt
    rw [if_pos hlt] at h2
    exact h.row i p r h1 h2
  · rename_i hlt
    rw [if_neg hlt] at h2
    exact h.row (i + 1) p r h1 h2
theorem lo_data : ∀ {ps : List Addr} {A : Ages}, ps.length = A.length → (∀ (i : Nat) (p : Addr) (r : List (Option Int)), ps[i]? = some p → A[i]? = some r → H p = some (.lst (r.map oV))) → DpAll K H (ps.map .ref) (A.map lineD)
  | [], [], _, _ => .nil
  | [], _ :: _, h, _ => by cases h
  | _ :: _, [], h, _ => by cases h
  | p :: ps, r :: rs, h, k => .cons (.lst (sq_of (k 0 p r rfl rfl)) (ovs_dp r)) (lo_data (by simpa using h) fun i p r h1 h2 => k (i + 1) p r h1 h2)
theorem LO.data (h : LO H a ps A) (s : Ex Hd H) (na : Hd a = none) (np : ∀ p ∈ ps, Hd p = none) : ∃ Hn, Ex Hd Hn ∧ Ex Hn H ∧ Dp K Hn (.ref a) (agesD A) ∧ ∀ q, q ≠ a → q ∉ ps → Hn q = Hd q := by
  refine ⟨fun x => if x = a ∨ x ∈ ps then H x else Hd x, fun x o hx => ?_, fun x o hx => ?_, .lst (xs := ps.map .ref) (sq_of ?_) (lo_data h.len fun i p r h1 h2 => ?_), fun q n m => if_neg (fun h => h.elim n m)⟩
  · show (if x = a ∨ x ∈ ps then H x else Hd x) = some o
    split
    · exact s x o hx
    · exact hx
  · have hx' : (if x = a ∨ x ∈ ps then H x else Hd x) = some o := hx
    split at hx'
    · exact hx'
    · exact s x o hx'
  · show (if a = a ∨ a ∈ ps then H a else Hd a) = _
    rw [if_pos (.inl rfl)]
    exact h.top
  · show (if p = a ∨ p ∈ ps then H p else Hd p) = _
    rw [if_pos (.inr (List.mem_of_getElem? h1))]
    exact h.row i p r h1 h2
/-- it ends as data, in a heap that grew but for a box -/
theorem LO.endB {H0 Hb : Hp} (h : LO H a ps A) (g : GrB b Hd H0 Hb H) (na : Hb a = none) (np : ∀ p ∈ ps, Hb p = none) (n0 : H0 a = none) (m0 : ∀ p ∈ ps, H0 p = none) : ∃ Hn, GrB b Hd H0 Hn H ∧ Dp K Hn (.ref a) (agesD A) := by
  obtain ⟨Hn, e1, e2, e3, e4⟩ := h.data (K := K) g.sub na np
  refine ⟨Hn, ⟨g.exb, g.dx.trans e1, e2, fun x o hx hd => ?_, g.bx⟩, e3⟩
  rw [e4 x (ne_of_none hx n0) fun hm => by rw [m0 x hm] at hx; cases hx]
  exact g.fr x o hx hd
def EvLO (te : TE) (σ : L2.St) (Hd : Hp) (A : Ages) : Prop := ∀ H, Ex Hd H → ∀ Q : VK, (∀ a ps H2, Ex H H2 → H a = none → (∀ p ∈ ps, H p = none) → LO H2 a ps A → Q (.ref a) H2) → te σ H Q
theorem go_asgLO (s : Ex Hd H) (h : EvLO te σ Hd A) (k : ∀ a ps H', Ex H H' → H a = none → (∀ p ∈ ps, H p = none) → LO H' a ps A → Go tz D (σ.set i (some (.ref a))) H') : Go (tSeq (tAsg te (gName i)) tz) D σ H := fun H1 e1 =>
  h H1 (s.trans e1) _ fun a ps H2 e2 n m l => k a ps H2 (e1.trans e2) (fresh_back e1 n) (fun p hp => fresh_back e1 (m p hp)) l _ (Ex.refl _)
theorem LO.more (L : LO H a ps A) (hl : H p = none) : LO (upd (upd H p (.lst (r.map oV))) a (.lst ((ps ++ [p]).map .ref))) a (ps ++ [p]) (A ++ [r]) := by
  have nl : p ≠ a := (ne_of_none L.top hl).symm
  have hlen := L.len
  have nps : p ∉ ps := fun hm => by
    obtain ⟨k, hk, ek⟩ := List.getElem_of_mem hm
    have := L.row k p (A[k]'(by omega)) (List.getElem?_eq_some_iff.mpr ⟨hk, ek⟩) (List.getElem?_eq_getElem _)
    rw [hl] at this
    cases this
  refine ⟨upd_same, by simp [hlen], ?_, fun hm => ?_, fun k q s h1 h2 => ?_⟩
  · rw [List.nodup_append]
    refine ⟨L.nd, by simp, fun x hx y hy e => ?_⟩
    rw [List.mem_singleton.mp hy] at e
    subst e
    exact nps hx
  · rcases List.mem_append.mp hm with hm | hm
    · exact L.out hm
    · exact nl (List.mem_singleton.mp hm).symm
  · by_cases hk : k < ps.length
    · rw [List.getElem?_append_left hk] at h1
      rw [List.getElem?_append_left (by omega)] at h2
      have hm := List.mem_of_getElem? h1
      rw [upd_ne (show q ≠ a from fun e => L.out (by rw [← e]; exact hm)), upd_ne (show q ≠ p from fun e => nps (by rw [← e]; exact hm))]
      exact L.row k q s h1 h2
    · have hk2 : k = ps.length := by
        have := (List.getElem?_eq_some_iff.mp h1).1
        rw [List.length_append, List.length_singleton] at this
        omega
      rw [List.getElem?_append_right (by omega), hk2, Nat.sub_self] at h1
      rw [List.getElem?_append_right (by omega), hk2, hlen, Nat.sub_self] at h2
      cases h1
      cases h2
      rw [upd_ne nl, upd_same]
theorem lo_lc {vs : List Nat} (h : EvD K tl σ Hd (agesD A)) (hn : A.length ≤ 1000) (hw : ∀ u, wipe ((wipe σ vs).set j (some u)) vs = wipe σ vs) (hj : ∀ u, ((wipe σ vs).set j (some u))[j]? = some (some u)) :
    EvLO (tLc (iList K tl) (gName j) tYes (tCB (rListS K) (tCons (tVar j) tNil)) vs) σ Hd A := fun H s Q q =>
  (ei_list (j := j) h) H s _ fun J H1 Hn G Y gr w hG hY Dl hD => by
    rw [List.length_map] at w hY
    refine lc_it w (fun i H' => i ≤ A.length ∧ ∃ ps, Ex H1 H' ∧ (∀ p ∈ ps, H1 p = none) ∧ LO H' Dl ps (A.take i)) ⟨Nat.zero_le _, [], Ex.new hD, (fun _ h => by cases h), ⟨upd_same, rfl, List.nodup_nil, (fun h => by cases h), fun i p r h1 _ => by simp at h1⟩⟩ (fun i H' _ p => ?_) (fun i x H' H'' hi p y => ?_) (fun H' p => ?_)
    · obtain ⟨_, ps, e, _⟩ := p
      exact hG H' (gr.sub.trans e)
    · obtain ⟨_, ps, e, hf, L⟩ := p
      refine hY i x H' H'' _ _ hi (gr.sub.trans e) y fun σ2 H3 e3 hS => ?_
      obtain ⟨u, d, h3, h4, rfl⟩ := hS
      refine ⟨hw u, et_yes (H := Hn) H3 ((gr.sub.trans e).trans e3) _ fun H4 e4 => ?_⟩
      show (tCB (rListS K) (tCons (tVar j) tNil)) _ H4 _
      rw [List.getElem?_map, List.getElem?_eq_getElem hi] at h3
      cases h3
      refine (ed_var (hj u) h4) H4 (((gr.sub.trans e).trans e3).trans e4) _ fun v H5 Hm g5 hd5 => ?_
      cases hd5 with
      | @lst c xs ds hs hall =>
        have ex := ovs_inv hall
        subst ex
        refine ⟨c, _, rfl, Or.inl (ex_l g5.sub hs), fun l hl => ?_⟩
        have L5 : LO H5 Dl ps (A.take i) := L.ext ((e3.trans e4).trans g5.ex)
        have e15 : Ex H1 H5 := (e.trans (e3.trans e4)).trans g5.ex
        have nl : l ≠ Dl := (ne_of_none L5.top hl).symm
        have lps : ps.length = i := by
          have := L5.len
          rw [List.length_take] at this
          omega
        have et : A.take (i + 1) = A.take i ++ [A[i]] := by rw [List.take_append_getElem]
        refine ⟨ps.map .ref, by rw [upd_ne nl.symm]; exact L5.top, sz_lt (by rw [List.length_map]; omega), hi, ps ++ [l], Ex.mut (e15.trans (Ex.new hl)) hD, fun p hp => ?_, ?_⟩
        · rcases List.mem_append.mp hp with hp | hp
          · exact hf p hp
          · rw [List.mem_singleton.mp hp]
            exact fresh_back e15 hl
        · rw [et]
          have := L5.more (r := A[i]) hl
          rw [List.map_append] at this
          exact this
    · obtain ⟨_, ps, e, hf, L⟩ := p
      rw [List.take_length] at L
      exact q Dl ps H' (gr.ex.trans e) (fresh_back gr.ex hD) (fun p hp => fresh_back gr.ex (hf p hp)) L
/-- a[i][j] read -/
theorem ev_rowLO {k : Nat} (L : LO H a ps A) (ha : Ev ta σ H (.ref a)) (hk : Ev tb σ H (.int (k : Int))) (hp : ps[k]? = some p) : Ev (tOp (rIxL K) ta tb) σ H (.ref p) := by
  refine ev_op ha hk (rv_ixL (K := K) (sq_of L.top) (atI_nat ?_))
  rw [List.getElem?_map, hp]
  rfl
theorem ev_lenLO (L : LO H a ps A) (ha : Ev ta σ H (.ref a)) : Ev (tCB (rLenS K) (tCons ta tNil)) σ H (.int (A.length : Int)) := fun H1 e Q q =>
  ha H1 e _ fun H2 e2 => ⟨a, ps.map .ref, rfl, Or.inl (sq_of ((e.trans e2) _ _ L.top)), by rw [List.length_map, L.len]; exact q H2 e2⟩
theorem ev_lenRow (hr : H p = some (.lst (r.map oV))) (ha : Ev ta σ H (.ref p)) : Ev (tCB (rLenS K) (tCons ta tNil)) σ H (.int (r.length : Int)) := fun H1 e Q q =>
  ha H1 e _ fun H2 e2 => ⟨p, r.map oV, rfl, Or.inl (sq_of ((e.trans e2) _ _ hr)), by rw [List.length_map]; exact q H2 e2⟩
/-- a call of a def that draws, its last argument made where things stand that are no data -/
theorem go_asgBH {Pre : List PyData → Prop} {R : List PyData → PyData → Prop} {E : XK} (hb : Hd b.b = none) (s : Ex Hd H) (B : Bx H b) (ha : Ev ta σ Hd (.ref b.b)) (h1 : EvD K tc σ Hd d1) (h2 : EvDH K te σ Hd H d2) (hp : Pre [d1, d2]) (k : ∀ v H' Hn d, GrB b Hd H Hn H' → Dp K Hn v d → R [d1, d2] d → Go tz D (σ.set i (some v)) H') :
    Go (tSeq (tAsg (tCall (spB K Pre R) [] E (tCons ta (tCons tc (tCons te tNil)))) (gName i)) tz) D σ H := fun H1 e1 =>
  ha H1 (s.trans e1) _ fun H2 e2 => h1 H2 ((s.trans e1).trans e2) _ fun v1 H3 D3 g3 hd3 => h2 H3 ((e1.trans e2).trans g3.ex) _ fun v2 H4 D4 g4 hd4 => by
    have g5 := g4.up g3.dx g3.sub
    have gx := (g3.trans g5).pre (e1.trans e2)
    have gb := GrB.of gx B
    have hx := g4.upr g3.dx g3.sub
    generalize un D3 D4 = D5 at g5 gx gb hx
    refine ⟨b, [v1, v2], D5, [d1, d2], rfl, gb.bn hb B, gb.sub, gb.bx, .cons (dp_mono g5.dx _ hd3) (.cons (dp_mono hx _ hd4) .nil), hp, fun v H6 D6 d g6 hd hR => ?_⟩
    exact k v H6 D6 d (gb.trans g6 hb B) hd hR H6 (Ex.refl _)
/-- an if that comes together again -/
theorem go_join {t : TT} {tu : TS} {c : Bool} (J : L2.St → Hp → Prop) (h : EvT t σ H c) (h1 : c = true → ∀ nx : L2.St → Hp → Prop, (∀ σ' H', J σ' H' → nx σ' H') → Go tu { D with nx := nx } σ H) (h2 : c = false → ∀ H', Ex H H' → J σ H') (k : ∀ σ' H', J σ' H' → Go tz D σ' H') : Go (tSeq (tIfS t tu tNext) tz) D σ H :=
  go_when h (fun e => h1 e (tz D) fun σ' H' j => k σ' H' j H' (Ex.refl _)) fun e H' e' => k σ H' (h2 e H' e') H' (Ex.refl _)
/-- l[j] = e, e drawn -/
theorem go_setB {l : Addr} {xs : List V} {Pd : PyData → Prop} (hb : Hd b.b = none) (s : Ex Hd H) (B : Bx H b) (hl : H l = some (.lst xs)) (nl : l ≠ b.b) (h : EvB K b te σ Hd Pd) (ho : ∀ H' Hn, GrB b Hd H Hn H' → Ev ta σ H' (.ref l)) (hi : ∀ H', Ev tb σ H' (.int (j : Int))) (hj : j < xs.length)
    (k : ∀ v H' Hn d, GrB b Hd H Hn H' → Dp K Hn v d → Pd d → Go tz D σ (upd H' l (.lst (xs.set j v)))) : Go (tSeq (tAsg te (gSub ta tb L2.rSetL)) tz) D σ H := fun H1 e1 =>
  h hb H1 (s.trans e1) (B.mono e1) _ fun v H2 Hn d g hd hp => by
    have g' := g.pre e1
    exact go_setL (te := fun _ H Q => Q v H) (g'.exb _ _ nl hl) (fun H3 _ Q q => q H3 (Ex.refl _)) (ho H2 Hn g') (hi H2) hj (k v H2 Hn d g' hd hp) H2 (Ex.refl _)
theorem eb_ifT {t : TT} {Pd : PyData → Prop} (h : EvT t σ Hd true) (h1 : EvB K b ta σ Hd Pd) : EvB K b (tIf t ta te) σ Hd Pd := fun hb H s B Q q => h H s _ fun H2 e2 => h1 hb H2 (s.trans e2) (B.mono e2) Q fun v H3 Hn d g hd hp => q v H3 Hn d (g.pre e2) hd hp
theorem eb_ifF {t : TT} {Pd : PyData → Prop} (h : EvT t σ Hd false) (h1 : EvB K b te σ Hd Pd) : EvB K b (tIf t ta te) σ Hd Pd := fun hb H s B Q q => h H s _ fun H2 e2 => h1 hb H2 (s.trans e2) (B.mono e2) Q fun v H3 Hn d g hd hp => q v H3 Hn d (g.pre e2) hd hp
end
end Cot

set_option Elab.async false
set_option linter.all false
set_option maxRecDepth 100000
set_option maxHeartbeats 4000000
/-! New lists of new lists of numbers and None, made where things stand that are no data. -/
namespace Cot
open PySem L2 Evl
def EvLOH (te : TE) (σ : L2.St) (H : Hp) (A : Ages) : Prop := ∀ H1, Ex H H1 → ∀ Q : VK, (∀ a ps H2, Ex H1 H2 → H1 a = none → (∀ p ∈ ps, H1 p = none) → LO H2 a ps A → Q (.ref a) H2) → te σ H1 Q
section
variable {K : PySem.W.Frag} {a p : Addr} {ps : List Addr} {A : Ages} {r : List (Option Int)} {H H' Hd Hn H1 H2 : Hp} {σ : L2.St} {te : TE} {D : Ends} {tz : TS} {i n : Nat} {wi : TI} {g : TG}
theorem LO.plus (L : LO H a ps A) (nl : p ≠ a) (nps : p ∉ ps) (hp : H p = some (.lst (r.map oV))) : LO (upd H a (.lst ((ps ++ [p]).map .ref))) a (ps ++ [p]) (A ++ [r]) := by
  have hlen := L.len
  refine ⟨upd_same, by simp [hlen], ?_, fun hm => ?_, fun k q s h1 h2 => ?_⟩
  · rw [List.nodup_append]
    refine ⟨L.nd, by simp, fun x hx y hy e => ?_⟩
    rw [List.mem_singleton.mp hy] at e
    subst e
    exact nps hx
  · rcases List.mem_append.mp hm with hm | hm
    · exact L.out hm
    · exact nl (List.mem_singleton.mp hm).symm
  · by_cases hk : k < ps.length
    · rw [List.getElem?_append_left hk] at h1
      rw [List.getElem?_append_left (by omega)] at h2
      have hm := List.mem_of_getElem? h1
      rw [upd_ne (show q ≠ a from fun e => L.out (by rw [← e]; exact hm))]
      exact L.row k q s h1 h2
    · have hk2 : k = ps.length := by
        have := (List.getElem?_eq_some_iff.mp h1).1
        rw [List.length_append, List.length_singleton] at this
        omega
      rw [List.getElem?_append_right (by omega), hk2, Nat.sub_self] at h1
      rw [List.getElem?_append_right (by omega), hk2, hlen, Nat.sub_self] at h2
      cases h1
      cases h2
      rw [upd_ne nl]
      exact hp
theorem lo_nest {S : Nat → L2.St → L2.St → Hp → Prop} {vs : List Nat} (h : EvJ K wi g σ Hd H n S) (hn : n ≤ 1000) (f : Nat → List (Option Int))
    (ht : ∀ (i : Nat) (σ2 : L2.St) (Hn H' : Hp), i < n → Ex Hd Hn → Ex Hn H' → Ex H H' → S i (wipe σ vs) σ2 Hn → wipe σ2 vs = wipe σ vs ∧ EvNH K te σ2 Hn H' ((f i).map oD)) : EvLOH (tLc wi g tYes te vs) σ H ((List.range n).map f) := fun H0 e0 Q q =>
  h H0 e0 _ fun J H1 Hn G Y gr w hG hY Dl hD => by
    refine lc_it w (fun i H' => i ≤ n ∧ ∃ ps, Ex H1 H' ∧ (∀ p ∈ ps, H1 p = none) ∧ LO H' Dl ps ((List.range i).map f)) ⟨Nat.zero_le _, [], Ex.new hD, (fun _ h => by cases h), ⟨upd_same, rfl, List.nodup_nil, (fun h => by cases h), fun i p r h1 _ => by simp at h1⟩⟩ (fun i H' _ p => ?_) (fun i x H' H'' hi p y => ?_) (fun H' p => ?_)
    · obtain ⟨_, ps, e, _⟩ := p
      exact hG H' (gr.sub.trans e) e
    · obtain ⟨_, ps, e, hf, L⟩ := p
      refine hY i x H' H'' _ _ hi (gr.sub.trans e) e y fun σ2 H3 e3 hS => ?_
      obtain ⟨hw, hE⟩ := ht i σ2 Hn H3 hi gr.dx ((gr.sub.trans e).trans e3) ((e0.trans gr.ex).trans (e.trans e3)) hS
      refine ⟨hw, et_yes (H := Hn) H3 ((gr.sub.trans e).trans e3) _ fun H4 e4 => ?_⟩
      show te σ2 H4 _
      refine hE H4 e4 _ fun p xs H5 Ho g5 hp ho h5 hx => ?_
      have ex := ovs_inv hx
      subst ex
      have L4 : LO H4 Dl ps ((List.range i).map f) := L.ext (e3.trans e4)
      have L5 := L4.ext g5.ex
      have nl : p ≠ Dl := (ne_of_none L4.top hp).symm
      have hlen := L4.len
      have nps : p ∉ ps := fun hm => by
        obtain ⟨k, hk, ek⟩ := List.getElem_of_mem hm
        have := L4.row k p (((List.range i).map f)[k]'(by omega)) (List.getElem?_eq_some_iff.mpr ⟨hk, ek⟩) (List.getElem?_eq_getElem _)
        rw [hp] at this
        cases this
      have e15 : Ex H1 H4 := e.trans (e3.trans e4)
      rw [List.length_map, List.length_range] at hlen
      refine ⟨ps.map .ref, L5.top, sz_lt (by rw [List.length_map]; omega), hi, ps ++ [p], Ex.mut (e15.trans g5.ex) hD, fun z hz => ?_, ?_⟩
      · rcases List.mem_append.mp hz with hz | hz
        · exact hf z hz
        · rw [List.mem_singleton.mp hz]
          exact fresh_back e15 hp
      · rw [List.range_succ, List.map_append]
        have := L5.plus (r := f i) nl nps h5
        rw [List.map_append] at this
        exact this
    · obtain ⟨_, ps, e, hf, L⟩ := p
      exact q Dl ps H' (gr.ex.trans e) (fresh_back gr.ex hD) (fun p hp => fresh_back gr.ex (hf p hp)) L
theorem go_retLOH (h : EvLOH te σ H A) (k : ∀ a ps H', Ex H H' → H a = none → (∀ p ∈ ps, H p = none) → LO H' a ps A → D.rt (.ref a) H') : Go (tSeq (tRet te) tz) D σ H := fun H1 e1 =>
  h H1 e1 _ fun a ps H2 e2 n m l => k a ps H2 (e1.trans e2) (fresh_back e1 n) (fun p hp => fresh_back e1 (m p hp)) l
theorem go_asgLOH (h : EvLOH te σ H A) (k : ∀ a ps H', Ex H H' → H a = none → (∀ p ∈ ps, H p = none) → LO H' a ps A → Go tz D (σ.set i (some (.ref a))) H') : Go (tSeq (tAsg te (gName i)) tz) D σ H := fun H1 e1 =>
  h H1 e1 _ fun a ps H2 e2 n m l => k a ps H2 (e1.trans e2) (fresh_back e1 n) (fun p hp => fresh_back e1 (m p hp)) l H2 (Ex.refl _)
/-- as data -/
theorem LO.asD (L : LO H2 a ps A) (s : Ex Hd H) (e : Ex H H2) (na : H a = none) (np : ∀ p ∈ ps, H p = none) : ∃ Hn, Gr Hd H Hn H2 ∧ Dp K Hn (.ref a) (agesD A) := by
  obtain ⟨Hn, e1, e2, e3, e4⟩ := L.data (K := K) (s.trans e) (fresh_back s na) fun p hp => fresh_back s (np p hp)
  refine ⟨Hn, ⟨e, e1, e2, fun x o hx hd => ?_⟩, e3⟩
  rw [e4 x (ne_of_none hx na) fun hm => by rw [np x hm] at hx; cases hx]
  exact hd
theorem ed_loh (s : Ex Hd H) (h : EvLOH te σ H A) : EvDH K te σ Hd H (agesD A) := fun H1 e1 Q q =>
  h H1 e1 _ fun a ps H2 e2 n m L => by
    obtain ⟨Hn, g, hd⟩ := L.asD (K := K) (s.trans e1) e2 n m
    exact q _ H2 Hn g hd
end
end Cot

set_option Elab.async false
set_option linter.all false
set_option maxRecDepth 100000
set_option maxHeartbeats 4000000
/-! d[k] += e of a dict with nested keys; triples of two squares and a number: walked, sorted; abs. -/
namespace Cot
open PySem PySem.Spec PyProof.Rows L2 Evl
section
variable {X : Cx} {K : PySem.W.Frag} {P : Program} {w : World}
def rMGetV (K : PySem.W.Frag) (P : Program) (w : World) : V → V → Hp → VK → Prop := fun o i H Q => ∃ a m b k v, o = .ref a ∧ i = .ref b ∧ MiR K P w H a m ∧ KeyM K H b k ∧ valM m k = some v ∧ Q v H
def rMSetV (K : PySem.W.Frag) (P : Program) (w : World) : TSet := fun o i z H Q => ∃ a m b k, o = .ref a ∧ i = .ref b ∧ MiAt K P w H a m ∧ KeyM K H b k ∧ m.length < sizeLine ∧ Q (upd H a (DicM P w a (putM m k b z)))
theorem pget_m (h1 : X.K = K) (h2 : X.prog = P) (h3 : X.w = w) (hu : X.A.units + 65 < cLine) : PGet X (rMGetV K P w) := by
  subst h1 h2 h3
  intro pins s σ H o i ov iv Q I r1 r2 h
  obtain ⟨a, m, b, k, v, rfl, rfl, d, hb, hv, q⟩ := h
  obtain rfl : ov = Value.ref a := r1
  obtain rfl : iv = Value.ref b := r2
  exact mdic_get hu I d hb hv fun w' s' I' rw' => ⟨v, H, I', rw', q⟩
theorem pset_m (h1 : X.K = K) (h2 : X.prog = P) (h3 : X.w = w) (hu : X.A.units + 65 < cLine) : PSet X (rMSetV K P w) := by
  subst h1 h2 h3
  intro pins s σ H o i v ov iv u Q I r1 r2 r3 h
  obtain ⟨a, m, b, k, rfl, rfl, d, hb, hl, q⟩ := h
  obtain rfl : ov = Value.ref a := r1
  obtain rfl : iv = Value.ref b := r2
  exact mdic_put hu I d hb hl r3 fun s' I' => ⟨_, I', q⟩
variable {a : Addr} {m : Mkv} {k : NestedKey} {H Hd : Hp} {σ : L2.St} {td ty tv : TE} {D : Ends} {tz : TS} {x y : Int}
/-- d[k] += e, of a key that is there -/
theorem go_maug (ko : KOk k) (s : Ex Hd H) (hd : Ev td σ H (.ref a)) (hk : EvD K ty σ Hd k.data) (hv : Ev tv σ H (.int y)) (d : MiAt K P w H a m) (hx : valM m k = some (.int x)) (hl : m.length < 100000)
    (kk : ∀ b H' Hn, Gr Hd H Hn H' → KeyM K Hn b k → Go tz D σ (upd H' a (DicM P w a (putM m k b (.int (x + y)))))) : Go (tSeq (tAugS td ty tv (rMGetV K P w) (ipI fun i j => i + j) (rMSetV K P w)) tz) D σ H := fun H1 e1 =>
  hd H1 e1 _ fun H2 e2 => hk H2 ((s.trans e1).trans e2) _ fun u H3 Hn g hu => by
    obtain ⟨b, rfl, hb⟩ := dp_keyM hu ko
    have e3 := (e1.trans e2).trans g.ex
    refine ⟨a, m, b, k, .int x, rfl, rfl, (d.mono e3).r, keyM_mono g.sub hb, hx, hv H3 e3 _ fun H4 e4 => ⟨x, y, rfl, rfl, a, m, b, k, rfl, rfl, d.mono (e3.trans e4), keyM_mono (g.sub.trans e4) hb, sz_lt hl, ?_⟩⟩
    exact kk b H4 Hn ((g.pre (e1.trans e2)).post e4) hb _ (Ex.refl _)
end
/-! ### triples -/
abbrev Key3 := Key2 × Int
def ltK3 (p q : Key3) : Bool := if p.1 = q.1 then decide (p.2 < q.2) else ltK p.1 q.1
theorem ltK3_tot (p q : Key3) : ltK3 p q = true ∨ p = q ∨ ltK3 q p = true := by
  unfold ltK3
  by_cases e : p.1 = q.1
  · rw [if_pos e, if_pos e.symm]
    rcases Int.lt_trichotomy p.2 q.2 with h | h | h
    · exact .inl (decide_eq_true h)
    · exact .inr (.inl (Prod.ext e h))
    · exact .inr (.inr (decide_eq_true h))
  · rw [if_neg e, if_neg fun z => e z.symm]
    rcases ltK_tot p.1 q.1 with h | h | h
    · exact .inl h
    · exact absurd h e
    · exact .inr (.inr h)
theorem ltK3_irr (p : Key3) : ltK3 p p = false := by
  unfold ltK3
  rw [if_pos rfl]
  simp
theorem ltK3_tr {p q r : Key3} (h1 : ltK3 p q = true) (h2 : ltK3 q r = true) : ltK3 p r = true := by
  unfold ltK3 at h1 h2 ⊢
  by_cases e1 : p.1 = q.1
  · by_cases e2 : q.1 = r.1
    · rw [if_pos e1, decide_eq_true_eq] at h1
      rw [if_pos e2, decide_eq_true_eq] at h2
      rw [if_pos (e1.trans e2), decide_eq_true_eq]
      omega
    · rw [if_neg e2] at h2
      rw [if_neg (by rw [e1]; exact e2), e1]
      exact h2
  · rw [if_neg e1] at h1
    by_cases e2 : q.1 = r.1
    · rw [if_neg (by rw [← e2]; exact e1), ← e2]
      exact h1
    · rw [if_neg e2] at h2
      have h3 := ltK_tr h1 h2
      rw [if_neg fun z => by rw [z, ltK_irr] at h3; cases h3]
      exact h3
theorem ltK3_as {p q : Key3} (h : ltK3 p q = true) : ltK3 q p = false := by
  cases e : ltK3 q p with
  | false => rfl
  | true =>
    have h2 := ltK3_tr h e
    rw [ltK3_irr] at h2
    cases h2
theorem ltK3_swo {α : Type} (k : α → Key3) : SrtO.Swo fun x y => ltK3 (k x) (k y) := by
  refine ⟨fun x y h => ltK3_as h, fun x y z h1 h2 => ?_⟩
  cases e : ltK3 (k z) (k x) with
  | false => rfl
  | true =>
    rcases ltK3_tot (k z) (k y) with h | h | h
    · rw [h2] at h; cases h
    · rw [h] at e; rw [e] at h1; cases h1
    · have := ltK3_tr h e
      rw [h1] at this
      cases this
def sortT (l : List Key3) : List Key3 := l.mergeSort fun p q => !ltK3 q p
def leT (p q : Key3) : Prop := ltK3 q p = false
theorem sortT_perm (l : List Key3) : (sortT l).Perm l := List.mergeSort_perm _ _
theorem leT_tr {a b c : Key3} (h1 : leT a b) (h2 : leT b c) : leT a c := by
  unfold leT at *
  cases e : ltK3 c a with
  | false => rfl
  | true =>
    rcases ltK3_tot a b with h | h | h
    · have := ltK3_tr e h
      rw [h2] at this
      cases this
    · rw [h] at e
      rw [e] at h2
      cases h2
    · rw [h1] at h
      cases h
theorem sortT_sorted (l : List Key3) : (sortT l).Pairwise leT := by
  have h := List.pairwise_mergeSort (le := fun (p q : Key3) => !ltK3 q p) (fun a b c h1 h2 => by
    have a1 : leT a b := by simpa [leT] using h1
    have a2 : leT b c := by simpa [leT] using h2
    have a3 : leT a c := leT_tr a1 a2
    simpa [leT] using a3) (fun a b => by
    rcases ltK3_tot a b with h | h | h
    · simp [ltK3_as h]
    · subst h
      simp [ltK3_irr]
    · simp [ltK3_as h]) l
  refine List.Pairwise.imp (fun {a b} h => ?_) h
  simpa [leT] using h
theorem leT_anti {a b : Key3} (h1 : leT a b) (h2 : leT b a) : a = b := by
  unfold leT at *
  rcases ltK3_tot a b with h | h | h
  · rw [h2] at h; cases h
  · exact h
  · rw [h1] at h; cases h
theorem sortT_uniq {l l' : List Key3} (hp : l'.Perm l) (hs : l'.Pairwise leT) : l' = sortT l :=
  List.Perm.eq_of_pairwise (le := leT) (fun a b _ _ h1 h2 => leT_anti h1 h2) hs (sortT_sorted l) (hp.trans (sortT_perm l).symm)
theorem sortT_id {l : List Key3} (hs : l.Pairwise leT) : sortT l = l := (sortT_uniq (List.Perm.refl l) hs).symm
def thirdOf (h : Heap) (v : Value) : Int := match v with
  | .ref a => match h.get? a with
    | some o => match o.data with
      | .seq xs _ => match xs.getD 2 .none with
        | .int i _ => i
        | _ => 0
      | _ => 0
    | none => 0
  | _ => 0
def keyT (h : Heap) (v : Value) : Key3 := (keyOf h v, thirdOf h v)
def IsP3 (P : Program) (w : World) (h : Heap) (v : Value) (k : Key3) : Prop := ∃ a o x y n t, v = .ref a ∧ h.get? a = some o ∧ o.cls = .type "tuple" ∧ o.data = .seq #[.ref x, .ref y, .int k.2 t] n ∧ IsT P w h k.1.1 x ∧ IsT P w h k.1.2 y
section
variable {P : Program} {w : World} {A : Around} {E : Value → Shared → Prop} {s : Shared} {h h' : Heap} {v u : Value} {k k' : Key3}
theorem IsP3.key (p : IsP3 P w h v k) : keyT h v = k := by
  obtain ⟨a, o, x, y, n, t, rfl, ho, hc, hd, hx, hy⟩ := p
  have e : firstOf h (.ref a) = (.ref x, .ref y) := by
    unfold firstOf
    simp only [ho, hd]
    rfl
  have e3 : thirdOf h (.ref a) = k.2 := by
    unfold thirdOf
    simp only [ho, hd]
    rfl
  unfold keyT keyOf
  rw [e, e3]
  exact Prod.ext (Prod.ext (tupInts_of hx).ints (tupInts_of hy).ints) rfl
theorem IsP3.keeps (p : IsP3 P w h v k) (kp : ∀ b o, h.get? b = some o → o.cls = .type "tuple" → h'.get? b = some o) : IsP3 P w h' v k := by
  obtain ⟨a, o, x, y, n, t, e, ho, hc, hd, hx, hy⟩ := p
  exact ⟨a, o, x, y, n, t, e, kp a o ho hc, hc, hd, isT_tups hx kp, isT_tups hy kp⟩
theorem p3_cmp {vs : List Value} (hu : A.units < cLine) (hp : ∀ v ∈ vs, ∃ k, IsP3 P w s.heap v k) (κ : Value → Key3) (hκ : ∀ v ∈ vs, ∀ k, IsP3 P w s.heap v k → κ v = k) : SrtO.Cmp P w A s (tuples' false) (fun p => p.1 ∈ vs) (SrtO.lt2 fun v u => ltK3 (κ v) (κ u)) := by
  intro p q hm hm'
  obtain ⟨k, h1⟩ := hp _ hm
  obtain ⟨k', h2⟩ := hp _ hm'
  show wpAny (model P w) A (keyLt' (tuples' false) p.1 q.1) (fun r s' => s' = s ∧ r = ltK3 (κ p.1) (κ q.1)) (fun _ _ => False) s
  rw [hκ _ hm k h1, hκ _ hm' k' h2]
  obtain ⟨a, o, x, y, n, t, e, ho, hc, hd, hx, hy⟩ := h1
  obtain ⟨a', o', x', y', n', t', e', ho', hc', hd', hx', hy'⟩ := h2
  rw [e, e']
  refine PySem.W.kat_lt ho hd ho' hd' ?_
  show PySem.W.KatLex P w A false (decide (3 < 3)) _ [(.ref x, .ref x'), (.ref y, .ref y'), (.int k.2 t, .int k'.2 t')] 0 s
  refine PySem.W.kat_cons (wpAny_eqBool_tuple hu hx hx' ?_)
  unfold ltK3 ltK
  refine PySem.W.kat_go (fun e1 => ?_) (fun e1 => ?_)
  · have ex := of_decide_eq_true e1
    refine PySem.W.kat_yes (PySem.W.kat_cons (wpAny_eqBool_tuple hu hy hy' ?_))
    refine PySem.W.kat_go (fun e2 => ?_) (fun e2 => ?_)
    · have ey := of_decide_eq_true e2
      rw [if_pos (Prod.ext ex ey)]
      refine PySem.W.kat_yes (PySem.W.kat_cons (wpAny_eqBool_int ?_))
      refine PySem.W.kat_go (fun e3 => ?_) (fun e3 => ?_)
      · have ez : k.2 = k'.2 := by simpa using e3
        refine PySem.W.kat_yes (PySem.W.kat_nil ⟨rfl, ?_⟩)
        rw [ez]
        simp
      · exact PySem.W.kat_no (PySem.W.kat_one _ _ (PyProof.Rows.lt_int (show s = s ∧ decide (k.2 < k'.2) = decide (k.2 < k'.2) from ⟨rfl, rfl⟩)))
    · have ey := of_decide_eq_false e2
      rw [if_neg fun z => ey (congrArg Prod.snd z), if_pos ex]
      exact PySem.W.kat_no (PySem.W.kat_one _ _ (lt_T hy hy' hu (show s = s ∧ HT.lexLt k.1.2 k'.1.2 = HT.lexLt k.1.2 k'.1.2 from ⟨rfl, rfl⟩)))
  · have ex := of_decide_eq_false e1
    rw [if_neg fun z => ex (congrArg Prod.fst z), if_neg ex]
    exact PySem.W.kat_no (PySem.W.kat_one _ _ (lt_T hx hx' hu (show s = s ∧ HT.lexLt k.1.1 k'.1.1 = HT.lexLt k.1.1 k'.1.1 from ⟨rfl, rfl⟩)))
theorem p3_firsts : ∀ {vs : List Value}, (∀ v ∈ vs, ∃ k, IsP3 P w h v k) → ∃ fs : List Value, PySem.W.KatTups h vs fs ∧ fs.length = vs.length ∧ ∀ f ∈ fs, ∃ x k, f = Value.ref x ∧ IsT P w h k x
  | [], _ => ⟨[], PySem.W.KatTups.nil, rfl, fun _ h => (by cases h)⟩
  | v :: vs, hp => by
    obtain ⟨fs, h1, h2, h3⟩ := p3_firsts fun v hv => hp v (List.mem_cons_of_mem _ hv)
    obtain ⟨k, a, o, x, y, n, t, rfl, ho, hc, hd, hx, hy⟩ := hp v List.mem_cons_self
    refine ⟨.ref x :: fs, PySem.W.KatTups.cons ho hc hd rfl h1, by rw [List.length_cons, h2, List.length_cons], fun f hf => ?_⟩
    rcases List.mem_cons.mp hf with rfl | hf
    · exact ⟨x, k.1.1, rfl, hx⟩
    · exact h3 f hf
theorem sorted_p3 {l : Addr} {vs : List Value} {Q : Value → Shared → Prop} (hu : A.units + 3 < cLine) (hl : s.heap.IsList l vs.toArray) (hz : vs.length ≤ sizeLine) (hp : ∀ v ∈ vs, ∃ k, IsP3 P w s.heap v k)
    (q : ∀ (h' : Heap) (d : Addr) (out : List Value), SrtO.Srtd (fun v u => ltK3 (keyT s.heap v) (keyT s.heap u)) out → SrtO.Stb (fun v u => ltK3 (keyT s.heap v) (keyT s.heap u)) out vs → (∀ b o, s.heap.get? b = some o → h'.get? b = some o) → s.heap.objs.size ≤ d → (∃ n, h'.get? d = some (seqObj "list" out.toArray n)) → Q (.ref d) { s with heap := h' }) :
    wpAny (model P w) A (call (.builtin "sorted") [.ref l]) Q E s := by
  refine SrtO.sorted_ord (ltK3_swo (keyT s.heap)) hl hz (fun h2 h₁ a ha kk => ?_) fun out hs hb => q _ _ out hs hb (fun b o e => sortedAll_old e) (Nat.le_succ _) (sortedAll_at s.heap vs out.toArray)
  intro h' keep
  have kp : ∀ b o, s.heap.get? b = some o → o.cls = .type "tuple" → h'.get? b = some o := fun b o e c => keep b o (kk b o e).1 (kk b o e).2
  have hp' : ∀ v ∈ vs, ∃ k, IsP3 P w h' v k := fun v hm => by
    obtain ⟨k, z⟩ := hp v hm
    exact ⟨k, z.keeps kp⟩
  obtain ⟨fs, f1, f2, f3⟩ := p3_firsts hp'
  refine ⟨tuples' false, fun Q E hq => ?_, p3_cmp (s := { s with heap := h' }) (by show A.units + 2 < cLine; omega) hp' (keyT s.heap) fun v hm k z => ?_⟩
  · refine PySem.W.kat_kind (T := .type "tuple") f1 (by omega) (fun f hm => ?_) (by rfl) ?_
    · obtain ⟨x, k, rfl, hx⟩ := f3 f hm
      obtain ⟨o, items, n, ho, hc, _⟩ := hx
      have z : PySem.W.Looks (model P w) h' (typeOf (.ref x)) o.cls := (PySem.W.Looks.ld ho).andThen .now
      rw [hc] at z
      exact z
    · have e : (Value.type "tuple" != Value.type "tuple") = false := by first | decide +kernel | rfl | decide
      rw [e]
      exact hq
  · obtain ⟨k2, z2⟩ := hp v hm
    rw [z2.key, ← z.key, (z2.keeps kp).key]
end
abbrev triK (k : Key3) : PyData := .tuple [keyD k.1.1, keyD k.1.2, .int k.2]
section
variable {X : Cx} {pins : List (Addr × Obj)} {σ : L2.St} {H Hd : Hp} {s : Shared}
theorem dp_tri {x : V} {u : Value} {k : Key3} (I : Inv X pins σ H s) (hd : Dp X.K H x (triK k)) (r : RelV x u) : ∃ t, u = .ref t ∧ x = .ref t ∧ IsP3 X.prog X.w s.heap u k := by
  cases hd with
  | @tup p ys ds hs hall =>
    cases hall with
    | cons g1 g2 =>
      cases g2 with
      | cons g2 g3 =>
        cases g3 with
        | cons g3 g4 =>
          cases g4
          cases g3
          obtain ⟨x1, rfl, q1⟩ := dp_key g1
          obtain ⟨x2, rfl, q2⟩ := dp_key g2
          obtain ⟨its, rv, ⟨o, ho, hc, n, hd⟩, _⟩ := I.tuple hs
          cases r
          cases rv with
          | cons ra rb =>
            cases rb with
            | cons rb rc =>
              cases rc with
              | cons rc rd =>
                cases rd
                cases ra
                cases rb
                obtain ⟨t, rfl⟩ := rc
                exact ⟨p, rfl, rfl, p, o, x1, x2, n, t, rfl, ho, hc, hd, I.isT q1, I.isT q2⟩
theorem vals_tris (I : Inv X pins σ H s) (sx : Ex Hd H) : ∀ {xs : List V} {its : List Value} {ks : List Key3}, Vals xs its → DpAll X.K Hd xs (ks.map triK) →
    its.map (keyT s.heap) = ks ∧ ∀ u ∈ its, ∃ t, u = .ref t ∧ Dp X.K Hd (.ref t) (triK (keyT s.heap u)) ∧ IsP3 X.prog X.w s.heap u (keyT s.heap u)
  | _, _, [], r, h => by
    cases h
    cases r
    exact ⟨rfl, fun _ h => by cases h⟩
  | _, _, k :: ks, r, h => by
    cases h with
    | cons h1 h2 =>
      cases r with
      | cons r1 r2 =>
        obtain ⟨e, ih⟩ := vals_tris I sx r2 h2
        obtain ⟨t, rfl, rfl, p3⟩ := dp_tri I (dp_mono sx _ h1) r1
        have ek := p3.key
        refine ⟨by rw [List.map_cons, ek, e], fun u hu => ?_⟩
        rcases List.mem_cons.mp hu with rfl | hu
        · exact ⟨t, rfl, by rw [ek]; exact h1, by rw [ek]; exact p3⟩
        · exact ih u hu
theorem back_tri {out : List Value} {h : Heap} (hx : ∀ u ∈ out, ∃ t, u = .ref t ∧ Dp X.K Hd (.ref t) (triK (keyT h u))) : DpAll X.K Hd (out.map backV) ((out.map (keyT h)).map triK) := by
  induction out with
  | nil => exact .nil
  | cons u out ih =>
    obtain ⟨t, rfl, hd⟩ := hx u List.mem_cons_self
    exact .cons hd (ih fun u hu => hx u (List.mem_cons_of_mem _ hu))
def rSortT (K : PySem.W.Frag) : List V → Hp → VK → Prop := fun vs H Q => ∃ Hd a xs ks, Ex Hd H ∧ vs = [V.ref a] ∧ SqL K H a xs ∧ DpAll K Hd xs (ks.map triK) ∧ ∀ ys p, DpAll K Hd ys ((sortT ks).map triK) → H p = none → Q (.ref p) (upd H p (.lst ys))
theorem call_sortT {K : PySem.W.Frag} (eK : X.K = K) (hu : X.A.units + 64 < cLine) : CallR X (.builtin "sorted") (rSortT K) := by
  subst eK
  intro pins s σ H vs us Q I r h
  obtain ⟨Hd, a, xs, ks, sx, rfl, hs, hx, q⟩ := h
  obtain ⟨its, rv, hl, hz⟩ := I.list hs
  obtain ⟨u, rfl, ru⟩ := vals1 r
  obtain rfl : u = Value.ref a := ru
  obtain ⟨e1, e2⟩ := vals_tris I sx rv hx
  refine sorted_p3 (by omega) hl.isList (by rw [← rv.length]; exact hz) (fun v hv => (e2 v hv).elim fun _ h => ⟨_, h.2.2⟩) fun h' d out h1 h2 kp hd hn => ?_
  have h3 : ∀ u ∈ out, ∃ a, u = Value.ref a := fun u hu => (e2 u (h2.perm.mem_iff.mp hu)).elim fun t h => ⟨t, h.1⟩
  obtain ⟨n, hn⟩ := hn
  have hp : (out.map (keyT s.heap)).Perm ks := by
    rw [← e1]
    exact h2.perm.map _
  have eq : out.map (keyT s.heap) = sortT ks := sortT_uniq hp (by
    rw [List.pairwise_map]
    exact h1)
  refine ⟨.ref d, upd H d (.lst (out.map backV)), I.laid (t' := s.toks) kp hd ⟨?_, out, n, vals_back h3, hn⟩, rfl, q _ d ?_ (I.hok.fresh hd)⟩
  · rw [List.length_map, h2.perm.length_eq, ← rv.length]
    exact hz
  · rw [← eq]
    exact back_tri fun u hu => (e2 u (h2.perm.mem_iff.mp hu)).elim fun t h => ⟨t, h.1, h.2.1⟩
end
section
variable {K : PySem.W.Frag} {H Hd : Hp} {σ : L2.St} {te ta : TE} {ks : List Key3} {i : Int}
theorem en_sortT (h : EvD K te σ Hd (.list (ks.map triK))) : EvN K (tCB (rSortT K) (tCons te tNil)) σ Hd ((sortT ks).map triK) := fun H s Q q =>
  h H s _ fun v H2 Hn g hv => by
    cases hv with
    | @lst a xs ds hs hall => exact ⟨Hn, a, xs, ks, g.sub, rfl, ex_l g.sub hs, hall, fun ys p hy hp => q p _ _ Hn (g.trans (Gr.alloc g.sub hp)) (fresh_back g.ex hp) (fresh_back g.sub hp) upd_same hy⟩
theorem ev_abs (h : Ev ta σ H (.int i)) : Ev (tCB (fun xs H Q => ∃ i, xs = [.int i] ∧ Q (.int (if i < 0 then -i else i)) H) (tCons ta tNil)) σ H (.int (if i < 0 then -i else i)) := fun H1 e Q q => h H1 e _ fun H2 e2 => ⟨i, rfl, q H2 e2⟩
/-- a triple of two data that stand and a number -/
theorem edh_tup3 {Hn : Hp} {t1 t2 t3 : TE} {v1 v2 : V} {d1 d2 : PyData} {n : Int} (s : Ex Hn H) (h1 : Ev t1 σ H v1) (a1 : Dp K Hn v1 d1) (h2 : Ev t2 σ H v2) (a2 : Dp K Hn v2 d2) (h3 : Ev t3 σ H (.int n)) : EvDH K (tTup (tCons t1 (tCons t2 (tCons t3 tNil)))) σ Hn H (.tuple [d1, d2, .int n]) := fun H1 e1 Q q =>
  h1 H1 e1 _ fun H2 e2 => h2 H2 (e1.trans e2) _ fun H3 e3 => h3 H3 ((e1.trans e2).trans e3) _ fun H4 e4 => ⟨sz_of (by simp), fun p hp => by
    have sx : Ex Hn H4 := s.trans (((e1.trans e2).trans e3).trans e4)
    refine q (.ref p) _ (upd Hn p (.tup [v1, v2, .int n])) (Gr.pre ((e2.trans e3).trans e4) (Gr.new sx hp)) (.tup (st_of upd_same) ?_)
    have en : Ex Hn (upd Hn p (.tup [v1, v2, .int n])) := Ex.new (fresh_back sx hp)
    exact .cons (dp_mono en _ a1) (.cons (dp_mono en _ a2) (.cons (.int n) .nil))⟩
end
end Cot

set_option Elab.async false
set_option linter.all false
set_option maxRecDepth 100000
set_option maxHeartbeats 4000000
/-! Lists of two unpacked; zip of a list of pairs and a list; a list's item set, the place drawn. -/
namespace Cot
open PySem PySem.Spec PyProof.Rows L2 Evl RZ
section
variable {K : PySem.W.Frag} {b : Bid} {l : Addr} {H H' Hd Hn H1 H2 : Hp} {σ : L2.St} {ta tb te tl : TE} {tr : TA} {j j2 j3 n : Nat} {ds es : List PyData} {xs : List V} {D : Ends} {tz : TS}
abbrev gl2 (K : PySem.W.Frag) (j j2 : Nat) : TG := gLst K 2 (gCons (gName j) (gCons (gName j2) gNil))
theorem ei_lists2 {f f2 : Nat → Option PyData} (h : EvD K tl σ Hd (.list ds)) (hp : ∀ i d, ds[i]? = some d → ∃ d1 d2, d = .list [d1, d2] ∧ f i = some d1 ∧ f2 i = some d2) : EvI K (iList K tl) (gl2 K j j2) σ Hd ds.length (SPair K j j2 f f2) := fun H s R r =>
  h H s _ fun v H2 Hn g hd => by
    cases hd with
    | @lst a xs ds hs hall =>
      refine ⟨a, rfl, ⟨xs, ex_l g.sub hs⟩, r _ H2 Hn _ _ g (by rw [← dpa_len hall]; exact walk_list) (fun H' e => ex_l e hs) fun i x H' H'' σ' k hi e y q => ?_⟩
      obtain ⟨rfl, hx⟩ := y
      obtain ⟨d, h1, h2⟩ := dpa_get2 hall hx
      obtain ⟨d1, d2, rfl, q1, q2⟩ := hp i d h1
      cases h2 with
      | @lst T ys es ht hal =>
        cases hal with
        | cons p1 p2 =>
          cases p2 with
          | cons p2 p3 =>
            cases p3
            exact ⟨T, _, rfl, ex_l e ht, rfl, _, _, rfl, _, [], rfl, rfl, q _ _ (Ex.refl _) ⟨_, _, d1, d2, q1, q2, p1, p2, rfl⟩⟩
def SNest (K : PySem.W.Frag) (j j2 j3 : Nat) (f f2 f3 : Nat → Option PyData) (i : Nat) (σ' σ2 : L2.St) (Hn : Hp) : Prop := ∃ v v2 v3 d d2 d3, f i = some d ∧ f2 i = some d2 ∧ f3 i = some d3 ∧ Dp K Hn v d ∧ Dp K Hn v2 d2 ∧ Dp K Hn v3 d3 ∧ σ2 = ((σ'.set j (some v)).set j2 (some v2)).set j3 (some v3)
/-- for (x, y), z in zip(pairs, things) -/
theorem ei_zipN {f f2 : Nat → Option PyData} (h : EvDA K tr σ Hd [.list ds, .list es]) (hl : ds.length = es.length) (hp : ∀ i d, ds[i]? = some d → ∃ d1 d2, d = .tuple [d1, d2] ∧ f i = some d1 ∧ f2 i = some d2) :
    EvI K (iZipA K tr) (gTup K 2 (gCons (gTup K 2 (gCons (gName j) (gCons (gName j2) gNil))) (gCons (gName j3) gNil))) σ Hd ds.length (SNest K j j2 j3 f f2 (fun i => es[i]?)) := fun H s R r =>
  h H s _ fun vs H2 Hn g hd => by
    cases hd with
    | cons h1 h2 =>
      cases h2 with
      | cons h2 h3 =>
        cases h3
        cases h1 with
        | @lst a xs ds hs hall =>
          cases h2 with
          | @lst b ys es hs2 hall2 =>
            refine ⟨a, b, xs, ys, rfl, Or.inl ⟨ex_l g.sub hs, ex_l g.sub hs2, r _ H2 Hn _ _ g (walk_zip (xs := xs) (ys := ys) (by rw [dpa_len hall, dpa_len hall2]; omega)) (fun H' e => ⟨ex_l e hs, ex_l e hs2⟩) fun i x H' H'' σ' k hi e y q => ?_⟩⟩
            obtain ⟨T, x1, x2, rfl, hT, rfl, z1, z2⟩ := y
            obtain ⟨d, w1, w2⟩ := dpa_get2 hall z1
            obtain ⟨d3, w3, w4⟩ := dpa_get2 hall2 z2
            obtain ⟨d1, d2, rfl, q1, q2⟩ := hp i d w1
            cases w2 with
            | @tup T2 us ds' ht hal =>
              cases hal with
              | cons p1 p2 =>
                cases p2 with
                | cons p2 p3 =>
                  cases p3
                  have eT : Ex H' (upd H' T (.tup [.ref T2, x2])) := Ex.new hT
                  exact ⟨T, [.ref T2, x2], rfl, st_of upd_same, rfl, .ref T2, [x2], rfl, T2, _, rfl, ex_t (e.trans eT) ht, rfl, _, _, rfl, _, [], rfl, rfl, x2, [], rfl, rfl, q _ _ eT ⟨_, _, x2, d1, d2, d3, q1, q2, w3, p1, p2, w4, rfl⟩⟩
/-- l[e] = e', both drawn -/
theorem go_setBB {Pd : PyData → Prop} (hb : Hd b.b = none) (s : Ex Hd H) (B : Bx H b) (hl : H l = some (.lst xs)) (nl : l ≠ b.b) (h : EvB K b te σ Hd Pd) (ho : ∀ H', Ev ta σ H' (.ref l)) (hi : ∀ Hm, Ex Hd Hm → EvB K b tb σ Hm (isI fun z => 0 ≤ z ∧ z < (xs.length : Int)))
    (k : ∀ v j H' Hn d, GrB b Hd H Hn H' → Dp K Hn v d → Pd d → j < xs.length → Go tz D σ (upd H' l (.lst (xs.set j v)))) : Go (tSeq (tAsg te (gSub ta tb L2.rSetL)) tz) D σ H := fun H1 e1 =>
  h hb H1 (s.trans e1) (B.mono e1) _ fun v H2 Hn d g hd hp => ho H2 H2 (Ex.refl _) _ fun H3 e3 => by
    have g' := (g.pre e1).post e3
    refine hi Hn g.dx (g'.bn hb B) H3 g'.sub g'.bx _ fun v4 H4 D4 d4 g4 hd4 hp4 => ?_
    obtain ⟨z, rfl, z0, z1⟩ := hp4
    cases hd4
    obtain ⟨j, rfl⟩ := Int.eq_ofNat_of_zero_le z0
    have hj : j < xs.length := by omega
    have G := g'.trans g4 hb B
    refine ⟨l, xs, (j : Int), j, rfl, rfl, G.exb _ _ nl hl, ?_, k v j H4 D4 d G (dp_mono g4.dx _ hd) hp hj _ (Ex.refl _)⟩
    unfold ixN
    simp
    omega
end
end Cot

set_option Elab.async false
set_option linter.all false
set_option maxRecDepth 100000
set_option maxHeartbeats 4000000
/-! A local name made a dict by a comprehension of two clauses. -/
namespace Cot
open PySem PySem.Spec PyProof.Rows L2 Evl
section
variable {X : Cx}
theorem nc2_core {pins : List (Addr × Obj)} {s : Shared} {σ : L2.St} {H : Hp} {Q : VK} {kx vx t0 i0 t1 i1 : Expr} {fs0 fs1 : List Expr} {sc : Scope} {own : List (Str × Nat)} {vs1 : List Nat} {pos pos' : Pos} {wi wi1 : TI} {g g1 : TG} {tt tt1 : TT} {tk tv : TE} {use : Option (Value → Sem Unit)} {Qf : Value → Shared → Prop} (hu : X.A.units < cLine) (hc : X.calm = true) (hN : X.N.Nodup) (I : Inv X pins σ H s)
    (hi : PI X t0 i0 wi) (ok : BlkOk X.N X.env.scope sc own) (hv : ∀ i ∈ vs1, i ∈ own.map (·.2)) (hg : Blk X sc fun Y => PG Y t0 g) (ht : Blk X sc fun Y => PTs Y fs0 tt) (hi1 : Blk X sc fun Y => PI Y t1 i1 wi1) (hg1 : Blk X sc fun Y => PG Y t1 g1) (ht1 : Blk X sc fun Y => PTs Y fs1 tt1)
    (hk : Blk X sc fun Y => PE Y kx tk) (he : Blk X sc fun Y => PE Y vx tv) (hs : ∀ x, foldedSetIterable i0 X.env x = pure x) (hs1 : ∀ env x, foldedSetIterable i1 env x = pure x) (h : tNc2 X.K X.prog X.w wi g tt wi1 g1 tt1 tk tv (own.map (·.2)) vs1 σ H Q)
    (hRR : ∀ D C s' m H', Inv X pins σ H' s' → Q (.ref D) H' → s'.heap.Ns C m → FpOk X pins H' C → compPost (model X.prog X.w) X.A X.xe use Qf (.ref D) C (.ok .next) s') :
    wpAny (model X.prog X.w) X.A (comprehension (dc2 kx vx t0 i0 fs0 t1 i1 fs1 sc pos) sc X.env pos' newDict false (eval i0 X.env) use) Qf X.xe s := by
  have cells : ∀ y ∈ sc.names, y.2 = .free → ∃ c, X.env.cells.lookup y.1 = some c := fun y hy e => (ok.free y hy e).elim (fun k => I.ok.has _ (.inl k)) fun k => I.ok.has _ (.inr k)
  refine wpAny_comprehension_free (use := use) rfl hs (closure_ok cells) ok.kind (fun y hy e => by rw [ok.uniq y hy, e]) (thn (hi.run pins s σ H _ I h) fun xv s1 hx => thn hx fun itv s2 h2 => ?_)
  obtain ⟨it, fp, tn, J, H2, e, I2, T, st2, f2, q⟩ := h2
  subst e
  refine wpAny_newObj_type (newEnv_comp ?_)
  generalize hD : s2.heap.objs.size = D
  obtain ⟨W, ⟨m0, w0⟩, turn⟩ := q D (I2.hok.fresh (Nat.le_of_eq hD))
  generalize hs3 : ({ s2 with heap := s2.heap.push { cls := .type "dict", data := .dict #[] } } : Shared) = s3
  have h3 : s3.heap = s2.heap.push { cls := .type "dict", data := .dict #[] } := by rw [← hs3]
  have I3 : Inv X pins σ (upd H2 D (DicO X.prog X.w D [])) s3 := by
    rw [← hs3]
    refine I2.laid (t' := s2.toks) (fun b o e => Heap.get?_push_of_some _ e) (Nat.le_of_eq hD) ?_
    rw [← hD]
    exact dicO_ok (dic_empty I2.big)
  have f3 : ∀ b ∈ fp, FpOk X pins (upd H2 D (DicO X.prog X.w D [])) b ∧ b < s3.heap.objs.size := fun b hb => by
    obtain ⟨o, eo, _⟩ := T.obj _ _ st2 b hb
    have lt : b < s2.heap.objs.size := Heap.lt_size eo
    refine ⟨⟨?_, (f2 b hb).2⟩, by rw [h3, Heap.size_push]; exact Nat.lt_succ_of_lt lt⟩
    rw [upd_ne (by rw [← hD]; exact Nat.ne_of_lt lt)]
    exact (f2 b hb).1
  have I4 := block_start I3 ok hN f3
  have pg := hg s3 (upd H2 D (DicO X.prog X.w D [])) s3.heap.objs.size (cellsFrom (s3.heap.objs.size + 1) sc.names (cloFrom X.env.cells sc.names [])) fp
  have pt := ht s3 (upd H2 D (DicO X.prog X.w D [])) s3.heap.objs.size (cellsFrom (s3.heap.objs.size + 1) sc.names (cloFrom X.env.cells sc.names [])) fp
  have pk := hk s3 (upd H2 D (DicO X.prog X.w D [])) s3.heap.objs.size (cellsFrom (s3.heap.objs.size + 1) sc.names (cloFrom X.env.cells sc.names [])) fp
  have pv := he s3 (upd H2 D (DicO X.prog X.w D [])) s3.heap.objs.size (cellsFrom (s3.heap.objs.size + 1) sc.names (cloFrom X.env.cells sc.names [])) fp
  have pi1 := hi1 s3 (upd H2 D (DicO X.prog X.w D [])) s3.heap.objs.size (cellsFrom (s3.heap.objs.size + 1) sc.names (cloFrom X.env.cells sc.names [])) fp
  have pg1 := hg1 s3 (upd H2 D (DicO X.prog X.w D [])) s3.heap.objs.size (cellsFrom (s3.heap.objs.size + 1) sc.names (cloFrom X.env.cells sc.names [])) fp
  have pt1 := ht1 s3 (upd H2 D (DicO X.prog X.w D [])) s3.heap.objs.size (cellsFrom (s3.heap.objs.size + 1) sc.names (cloFrom X.env.cells sc.names [])) fp
  have none3 : ∀ b ∈ fp, (upd H2 D (DicO X.prog X.w D [])) b = none := fun b hb => (f3 b hb).1.1
  show codeAny _ _ (.compStart (dc2 kx vx t0 i0 fs0 t1 i1 fs1 sc pos) 0 (.ref it) (.ref D) (compEnvC sc (cellsFrom (s3.heap.objs.size + 1) sc.names (cloFrom X.env.cells sc.names [])) s3.heap.objs.size X.env)) _ { s3 with heap := pushCells (s3.heap.push { cls := .type "dict", data := .dict #[] }) sc.names }
  generalize hce : compEnvC sc (cellsFrom (s3.heap.objs.size + 1) sc.names (cloFrom X.env.cells sc.names [])) s3.heap.objs.size X.env = ce at I4 pg pt pk pv pi1 pg1 pt1 ⊢
  have loc : ce.locals = s3.heap.objs.size := by subst hce; rfl
  generalize upd H2 D (DicO X.prog X.w D []) = H3 at I3 I4 pg pt pk pv pi1 pg1 pt1 w0 none3 f3
  generalize hs4 : ({ s3 with heap := pushCells (s3.heap.push { cls := .type "dict", data := .dict #[] }) sc.names } : Shared) = s4 at I4 ⊢
  have st4 : tn 0 s4.heap := T.keep _ _ _ st2 fun b _ o e => by
    rw [← hs4]
    refine pushCells_keeps _ _ _ _ (Heap.get?_push_of_some _ ?_)
    rw [h3]
    exact Heap.get?_push_of_some _ e
  have stat : ∀ {σ' : L2.St} {H' : Hp} {s' : Shared}, Inv (X.blk s3 H3 sc ce fp) [] σ' H' s' → (∀ b ∈ fp, H' b = none) → ∀ b ∈ fp, FpOk (X.blk s3 H3 sc ce fp) [] H' b := fun {σ' H' s'} I' hn b hb =>
    ⟨hn b hb, (I'.ok.exf b hb).1, I'.ok.exfs b hb, .inl hb, fun x c e => (I'.ok.exf b hb).2 x c e, fun p hp => (by simp at hp : False).elim⟩
  have loop : codeAny (model X.prog X.w) X.A (.compLoop (dc2 kx vx t0 i0 fs0 t1 i1 fs1 sc pos) 0 (.ref it) (.ref D) ce) (compPost (model X.prog X.w) X.A X.xe use Qf (.ref D) s3.heap.objs.size) s4 := by
    refine loop_d2o (hs1 ce) (fun n s' => ∃ i H', Inv (X.blk s3 H3 sc ce fp) [] (wipe σ (own.map (·.2))) H' s' ∧ tn i s'.heap ∧ (∀ b ∈ fp, H' b = none) ∧ W i n H') ?_ m0 ⟨0, H3, I4, st4, none3, w0⟩
    rintro n s5 ⟨i, H5, I5, st5, n5, w5⟩
    rcases turn i n H5 w5 with ⟨stop, qq⟩ | ⟨go, Nx, hNx, step⟩
    · refine thnF (T.done (X.blk s3 H3 sc ce fp) rfl rfl rfl hc i [] s5 _ H5 (fun _ _ => False) I5 (stat I5 n5) st5 stop) fun r s6 ⟨hr, I6⟩ => ?_
      subst hr
      have I7 : Inv X pins σ H5 s6 := I3.call' (ch := fp) I6.os I6.base I6.hok I6.bare fun b hb => ⟨(f3 b hb).1.2.2.2.1, (f3 b hb).1.2.1, (f3 b hb).1.2.2.2.2.1, (f3 b hb).1.2.2.2.2.2⟩
      have nC : H5 s3.heap.objs.size = none := by
        rw [← loc]
        exact I6.free
      obtain ⟨m, hn, _⟩ := I6.loc
      replace hn : s6.heap.Ns ce.locals m := hn
      rw [loc] at hn
      exact hRR D s3.heap.objs.size s6 m H5 I7 qq hn (I3.fpOk (Nat.le_refl _) nC)
    · refine thnF (T.item (X.blk s3 H3 sc ce fp) rfl rfl rfl hc i [] s5 _ H5 (fun _ _ => False) I5 (stat I5 n5) st5 go) fun r s6 ⟨u, hr, h6⟩ => ?_
      subst hr
      refine thnF h6 fun _ s7 ⟨x, H7, I7, r7, y7, st7, n7⟩ => ?_
      refine thnF (pg.run _ s7 _ H7 x u _ (I7.pinned (stat I7 n7) (T.obj _ _ st7)) r7 (step x H7 y7)) fun _ s8 ⟨σ8, H8, I8, hw8, q8⟩ => ?_
      refine thnF (pt.run _ s8 σ8 H8 _ I8 q8) fun b s9 ⟨H9, I9, q9⟩ => ?_
      have fin : ∀ {σ9 : L2.St} {s' : Shared} {H' : Hp}, Inv (X.blk s3 H3 sc ce fp) ([] ++ pinsAt fp s7.heap) σ9 H' s' → (wipe σ (own.map (·.2))).length = σ9.length → (∀ (j : Nat) v, (wipe σ (own.map (·.2)))[j]? = some (some v) → σ9[j]? = some (some v)) → Nx H' →
          ∃ m, m < n ∧ ∃ i H', Inv (X.blk s3 H3 sc ce fp) [] (wipe σ (own.map (·.2))) H' s' ∧ tn i s'.heap ∧ (∀ b ∈ fp, H' b = none) ∧ W i m H' := fun {σ9 s' H'} I' hl hkp nx => by
        obtain ⟨m', hm, w'⟩ := hNx H' nx
        have pin' : ∀ b ∈ fp, ∀ o, s7.heap.get? b = some o → s'.heap.get? b = some o ∧ H' b = none := fun b hb o e =>
          let z := I'.pin (b, o) (List.mem_append_right _ (List.mem_append_right _ (mem_pinsAt hb e)))
          ⟨z.1, z.2.1⟩
        refine ⟨m', hm, i + 1, H', (I'.unpinned (pins := [])).weak hl hkp, T.keep _ _ _ st7 fun b hb o e => (pin' b hb o e).1, fun b hb => ?_, w'⟩
        obtain ⟨o, e, _⟩ := T.obj _ _ st7 b hb
        exact (pin' b hb o e).2
      have l8 : (wipe σ (own.map (·.2))).length = σ8.length := by rw [← hw8, wipe_length]
      have k8 : ∀ (j : Nat) v, (wipe σ (own.map (·.2)))[j]? = some (some v) → σ8[j]? = some (some v) ∧ j ∉ own.map (·.2) := fun j v e => by
        rw [← hw8] at e
        exact wipe_some e
      cases b with
      | false =>
        simp only [Bool.false_eq_true, if_false] at q9 ⊢
        exact fin I9 l8 (fun j v e => (k8 j v e).1) q9
      | true =>
        simp only [if_true] at q9 ⊢
        refine thnF (pi1.run _ s9 σ8 H9 _ I9 q9) fun xv s10 hx => thnF hx fun itv s11 h11 => ?_
        obtain ⟨it1, fp1, tn1, J1, H11, e1, I11, T1, st11, f11, W1, ⟨m1, w1⟩, turn1⟩ := h11
        subst e1
        have stat1 : ∀ {H' : Hp}, (∀ b ∈ fp1, H' b = none) → ∀ b ∈ fp1, FpOk (X.blk s3 H3 sc ce fp) ([] ++ pinsAt fp s7.heap) H' b := fun hn b hb => ⟨hn b hb, (f11 b hb).2⟩
        have loop1 : codeAny (model X.prog X.w) X.A (.compLoop (dc2 kx vx t0 i0 fs0 t1 i1 fs1 sc pos) 1 (.ref it1) (.ref D) ce)
            (fun r s' => match r with
              | .ok _ => ∃ m, m < n ∧ ∃ i H', Inv (X.blk s3 H3 sc ce fp) [] (wipe σ (own.map (·.2))) H' s' ∧ tn i s'.heap ∧ (∀ b ∈ fp, H' b = none) ∧ W i m H'
              | .error _ => False) s11 := by
          refine loop_d2i (fun k s' => ∃ j H', Inv (X.blk s3 H3 sc ce fp) ([] ++ pinsAt fp s7.heap) (wipe σ8 vs1) H' s' ∧ tn1 j s'.heap ∧ (∀ b ∈ fp1, H' b = none) ∧ W1 j k H') ?_ m1 ⟨0, H11, I11.weak (wipe_length _ _) (fun j v e => (wipe_some e).1), st11, fun b hb => (f11 b hb).1, w1⟩
          rintro k s12 ⟨j, H12, I12, st12, n12, w12⟩
          rcases turn1 j k H12 w12 with ⟨stop1, nx1⟩ | ⟨go1, Nx1, hNx1, step1⟩
          · refine thnF (T1.done (X.blk s3 H3 sc ce fp) rfl rfl rfl hc j _ s12 (wipe σ8 vs1) H12 (fun _ _ => False) I12 (stat1 n12) st12 stop1) fun r s13 ⟨hr, I13⟩ => ?_
            subst hr
            refine fin I13 (l8.trans (wipe_length σ8 vs1).symm) (fun j v e => ?_) nx1
            obtain ⟨z1, z2⟩ := k8 j v e
            rw [wipe_out fun z => z2 (hv j z)]
            exact z1
          · refine thnF (T1.item (X.blk s3 H3 sc ce fp) rfl rfl rfl hc j _ s12 (wipe σ8 vs1) H12 (fun _ _ => False) I12 (stat1 n12) st12 go1) fun r s13 ⟨u1, hr, h13⟩ => ?_
            subst hr
            refine thnF h13 fun _ s14 ⟨x1, H14, I14, r14, y14, st14, n14⟩ => ?_
            refine thnF (pg1.run _ s14 (wipe σ8 vs1) H14 x1 u1 _ (I14.pinned (stat1 n14) (T1.obj _ _ st14)) r14 (step1 x1 H14 y14)) fun _ s15 ⟨σ15, H15, I15, hw15, q15⟩ => ?_
            refine thnF (pt1.run _ s15 σ15 H15 _ I15 q15) fun b1 s16 ⟨H16, I16, q16⟩ => ?_
            have fin1 : ∀ {s' : Shared} {H' : Hp}, Inv (X.blk s3 H3 sc ce fp) (([] ++ pinsAt fp s7.heap) ++ pinsAt fp1 s14.heap) σ15 H' s' → Nx1 H' → ∃ m, m < k ∧ ∃ j H', Inv (X.blk s3 H3 sc ce fp) ([] ++ pinsAt fp s7.heap) (wipe σ8 vs1) H' s' ∧ tn1 j s'.heap ∧ (∀ b ∈ fp1, H' b = none) ∧ W1 j m H' := fun {s' H'} I' nx => by
              obtain ⟨m', hm, w'⟩ := hNx1 H' nx
              have pin' : ∀ b ∈ fp1, ∀ o, s14.heap.get? b = some o → s'.heap.get? b = some o ∧ H' b = none := fun b hb o e =>
                let z := I'.pin (b, o) (List.mem_append_right _ (List.mem_append_right _ (mem_pinsAt hb e)))
                ⟨z.1, z.2.1⟩
              refine ⟨m', hm, j + 1, H', I'.unpinned.weak (by rw [← hw15, wipe_length]) (fun j v e => by rw [← hw15] at e; exact (wipe_some e).1), T1.keep _ _ _ st14 fun b hb o e => (pin' b hb o e).1, fun b hb => ?_, w'⟩
              obtain ⟨o, e, _⟩ := T1.obj _ _ st14 b hb
              exact (pin' b hb o e).2
            cases b1 with
            | false =>
              simp only [Bool.false_eq_true, if_false] at q16 ⊢
              exact fin1 I16 q16
            | true =>
              simp only [if_true] at q16 ⊢
              refine thnF (pk.run _ s16 σ15 H16 _ I16 q16) fun kv s17 ⟨yk, H17, I17, r17, q17⟩ => ?_
              refine thnF (pv.run _ s17 σ15 H17 _ I17 q17) fun vv s18 ⟨yv, H18, I18, r18, mm, bb, kk, ek, dA, hb18, hz, nx⟩ => ?_
              subst ek
              cases r17
              exact dic_set (X := X.blk s3 H3 sc ce fp) hu I18 dA hb18 hz r18 fun s19 I19 => fin1 I19 nx
        exact start_d2 loop1 (T1.self X.A 0 _ _ _ st11 loop1)
  exact codeAny_compStart_dict loop (T.self X.A 0 _ _ _ st4 loop)
/-- a local name made a dict by a comprehension of two clauses -/
theorem ps_setNc2 {i : Nat} {y : Str} {py : Pos} {kx vx t0 i0 t1 i1 : Expr} {fs0 fs1 : List Expr} {sc : Scope} {own : List (Str × Nat)} {vs1 : List Nat} {pos spos : Pos} {wi wi1 : TI} {g g1 : TG} {tt tt1 : TT} {tk tv : TE} {K : PySem.W.Frag} {P : Program} {w : World} (eK : X.K = K) (eP : X.prog = P) (ew : X.w = w) (hu : X.A.units < cLine) (hc : X.calm = true) (hN : X.N.Nodup) (hy : X.N[i]? = some y) (hyl : X.env.scope.names.lookup y = some .local)
    (hsw : swapsWith (dc2 kx vx t0 i0 fs0 t1 i1 fs1 sc pos) (some (.Name y py)) spos.line X.env = pure true) (hi : PI X t0 i0 wi) (ok : BlkOk X.N X.env.scope sc own) (hv : ∀ i ∈ vs1, i ∈ own.map (·.2)) (hg : Blk X sc fun Y => PG Y t0 g) (ht : Blk X sc fun Y => PTs Y fs0 tt) (hi1 : Blk X sc fun Y => PI Y t1 i1 wi1) (hg1 : Blk X sc fun Y => PG Y t1 g1) (ht1 : Blk X sc fun Y => PTs Y fs1 tt1)
    (hk : Blk X sc fun Y => PE Y kx tk) (he : Blk X sc fun Y => PE Y vx tv) (hs : ∀ x, foldedSetIterable i0 X.env x = pure x := by intro _; rfl) (hs1 : ∀ env x, foldedSetIterable i1 env x = pure x := by intro _ _; rfl) :
    PS X (.Assign [.Name y py] (dc2 kx vx t0 i0 fs0 t1 i1 fs1 sc pos) spos) (tAsg (tNc2 K P w wi g tt wi1 g1 tt1 tk tv (own.map (·.2)) vs1) (gName i)) := by
  subst eK eP ew
  refine ⟨fun pins s σ H D I h => ?_⟩
  rw [exec_Assign_Name_used _ _ _ _ hsw]
  refine wpAny_bind (wpAny_standAt (wpAny_bind ?_))
  show wpAny _ X.A (do let _ ← comprehension (dc2 kx vx t0 i0 fs0 t1 i1 fs1 sc pos) sc X.env (firstIterPos [⟨t0, i0, fs0, 0⟩, ⟨t1, i1, fs1, 0⟩] pos) newDict false (eval i0 X.env) (some (assign (.Name y py) X.env))) _ _ s
  have h0 : tNc2 X.K X.prog X.w wi g tt wi1 g1 tt1 tk tv (own.map (·.2)) vs1 σ H (fun x H1 => gName i x σ H1 D.nx) := h
  refine wpAny_bind (thn (nc2_core (Qf := fun _ s' => SP X pins D .next s') hu hc hN I hi ok hv hg ht hi1 hg1 ht1 hk he hs hs1 h0 fun L C s' m H' I' q hn f => ?_) fun _ s' hq => wpAny_pure (wpAny_pure hq))
  show wpAny _ _ (assign (.Name y py) X.env (.ref L)) _ _ _
  refine wpAny_assign_Name (store_ok2 (v := V.ref L) I' hN hy (.inl hyl) rfl (fun s2 I2 ⟨a, sb, ha⟩ => ?_) (.inr hyl))
  have apart : C ≠ a := ha.elim (fun z => by rw [z]; exact f.2.1) fun z e => f.2.2.2.2.1 y a z e.symm
  exact ⟨m, hn.sameBut sb apart, fun h3 sb3 => ⟨_, H', I2.turned (t' := s2.toks) (fun b o hb e => (sb3.2 b hb).trans e) f.1 f.2.1 f.2.2.2.1 f.2.2.2.2.1 f.2.2.2.2.2, q⟩⟩
end
section
variable {K : PySem.W.Frag} {b : Bid} {H H' Hd Hd' Hn H1 H2 Hm : Hp} {σ : L2.St} {ta tb te : TE} {tr : TA} {n i j : Nat} {D : Ends} {t : TT} {tu tz : TS} {wi : TI} {g : TG}
/-- a comprehension whose items draw, as a new list -/
theorem bn_lc {S : Nat → L2.St → L2.St → Hp → Prop} {vs : List Nat} {PP : PyData → Prop} (h : EvI K wi g σ Hd n S) (hn : n ≤ 40000)
    (ht : ∀ (i : Nat) (σ2 : L2.St) (Hn : Hp), i < n → Ex Hd Hn → S i (wipe σ vs) σ2 Hn → wipe σ2 vs = wipe σ vs ∧ EvB K b te σ2 Hn PP) : EvBN K b (tLc wi g tYes te vs) σ Hd (fun ds => ds.length = n ∧ ∀ e ∈ ds, PP e) := fun hb H s B Q q =>
  h H s _ fun J H1 Hn G Y gr w hG hY Dl hD => by
    have gb := GrB.of gr B
    have hbn := gb.bn hb B
    obtain ⟨nb, nca⟩ := gb.bx.apart hD
    refine lc_it w (fun i H' => i ≤ n ∧ ∃ Hm acc ds, GrB b Hn H1 Hm H' ∧ Hm Dl = none ∧ H' Dl = some (.lst acc) ∧ DpAll K Hm acc ds ∧ ds.length = i ∧ ∀ e ∈ ds, PP e) ⟨Nat.zero_le _, Hn, [], [], GrB.of (Gr.alloc gr.sub hD) gb.bx, fresh_back gr.sub hD, upd_same, .nil, rfl, fun _ h => by cases h⟩ (fun i H' _ p => ?_) (fun i x H' H'' hi p y => ?_) (fun H' p => ?_)
    · obtain ⟨_, Hm, acc, ds, g1, _⟩ := p
      exact hG H' (g1.dx.trans g1.sub)
    · obtain ⟨_, Hm, acc, ds, g1, hm, h2, hac, hln, hpp⟩ := p
      refine hY i x H' H'' _ _ hi (g1.dx.trans g1.sub) y fun σ2 H3 e3 hS => ?_
      obtain ⟨hw, hE⟩ := ht i σ2 Hn hi gr.dx hS
      refine ⟨hw, ?_⟩
      have al : acc.length < sizeLine := sz_lt (by rw [dpa_len hac]; omega)
      have hbm := g1.bn hbn gb.bx
      refine (hE.mono g1.dx) hbm H3 (g1.sub.trans e3) (g1.bx.mono e3) _ fun y H5 Ho d5 g5 hy hp5 => ?_
      have h3 : H3 Dl = some (.lst acc) := e3 _ _ h2
      have ho : Ho Dl = none := g5.fr _ _ h3 hm
      refine ⟨acc, g5.exb _ _ nb h3, al, hi, Ho, acc ++ [y], ds ++ [d5], ⟨fun a o na ha => ?_, g1.dx.trans g5.dx, Ex.mut g5.sub ho, fun a o ha hd => ?_, g5.bx.keep nb nca⟩, ho, upd_same, dpa_app (dpa_mono g5.dx _ hac) (.cons hy .nil), by rw [List.length_append, hln]; rfl, fun e he => ?_⟩
      · rw [upd_ne (ne_of_none ha hD)]
        exact g5.exb a o na (e3 a o (g1.exb a o na ha))
      · by_cases e : a = b.b
        · rw [e]
          exact g5.bn hbm (g1.bx.mono e3)
        · exact g5.fr a o (e3 a o (g1.exb a o e ha)) (g1.fr a o ha hd)
      · rcases List.mem_append.mp he with he | he
        · exact hpp e he
        · rcases List.mem_cons.mp he with rfl | he
          · exact hp5
          · cases he
    · obtain ⟨_, Hm, acc, ds, g1, hm, h2, hac, hln, hpp⟩ := p
      exact q Dl acc H' Hm ds ⟨fun a o na ha => g1.exb a o na (gr.ex a o ha), gr.dx.trans g1.dx, g1.sub, fun a o ha hd => g1.fr a o (gr.ex a o ha) (gr.fr a o ha hd), g1.bx⟩ (fresh_back gr.ex hD) hm h2 hac ⟨hln, hpp⟩
theorem go_asgBN {Ps : List PyData → Prop} (hb : Hd b.b = none) (s : Ex Hd H) (B : Bx H b) (h : EvBN K b te σ Hd Ps) (k : ∀ p xs H' Hn ds, GrB b Hd H Hn H' → H p = none → Hn p = none → H' p = some (.lst xs) → DpAll K Hn xs ds → Ps ds → Go tz D (σ.set i (some (.ref p))) H') : Go (tSeq (tAsg te (gName i)) tz) D σ H := fun H1 e1 =>
  h hb H1 (s.trans e1) (B.mono e1) _ fun p xs H2 Hn ds g h1 h2 h3 h4 h5 => k p xs H2 Hn ds (g.pre e1) (fresh_back e1 h1) h2 h3 h4 h5 H2 (Ex.refl _)
/-- a test, what is known after it, and what is known after the whole -/
theorem go_ifJ {A : Bool → Hp → Prop} (J : Hp → Prop) (h : ∀ H1, Ex H H1 → ∀ Q : Bool → Hp → Prop, (∀ c H2, A c H2 → Q c H2) → t σ H1 Q) (h1 : ∀ H2, A true H2 → ∀ D' : Ends, (∀ H3, J H3 → D'.nx σ H3) → Go tu D' σ H2) (h2 : ∀ H2, A false H2 → J H2) (k : ∀ H3, J H3 → Go tz D σ H3) : Go (tSeq (tIfS t tu tNext) tz) D σ H := fun H1 e1 =>
  h H1 e1 _ fun c H2 a => by
    cases c with
    | true => exact h1 H2 a { D with nx := tz D } (fun H3 j => k H3 j H3 (Ex.refl _)) H2 (Ex.refl _)
    | false => exact k H2 (h2 H2 a) H2 (Ex.refl _)
/-- a and b, where the first is told and the second draws -/
theorem tb_and {u : TT} {c : Bool} (hb : Hd b.b = none) (s : Ex Hd H) (B : Bx H b) (h : EvT t σ Hd c) (h2 : EvBT K b u σ Hd) : ∀ H1, Ex H H1 → ∀ Q : Bool → Hp → Prop, (∀ e H2, ((∃ Hn, GrB b Hd H Hn H2) ∧ (e = true → c = true)) → Q e H2) → (tAnd t u) σ H1 Q := fun H1 e1 Q q =>
  h H1 (s.trans e1) _ fun H2 e2 => by
    cases c with
    | false => exact q false H2 ⟨⟨Hd, GrB.of (Gr.ext s (e1.trans e2)) B⟩, fun h => by cases h⟩
    | true => exact h2 hb H2 ((s.trans e1).trans e2) ((B.mono e1).mono e2) Q fun e H3 Hn g => q e H3 ⟨⟨Hn, g.pre (e1.trans e2)⟩, fun _ => rfl⟩
end
end Cot

set_option Elab.async false
set_option linter.all false
set_option maxRecDepth 100000
set_option maxHeartbeats 4000000
/-! An own class of errors with an __init__ of its own that calls its base's and keeps one number. -/
namespace Cot
open PySem PySem.Spec PyProof.Rows L2 Evl
/-- the n-th def of a class -/
def clsDef (s : Stmt) (n : Nat) : Stmt := match s with
  | .ClassDef _ _ _ body _ _ _ _ _ _ _ => body.getD n (.Pass ⟨0, 0, 0, 0⟩)
  | _ => .Pass ⟨0, 0, 0, 0⟩
/-- a class whose own __init__ comes from ValueError, called by its name -/
structure BaseI (K : PySem.W.Frag) (D : Addr) : Prop where
  sp : PySem.W.specialIn K (.ref D) "__getattribute__" = some (some (.builtin "type.__getattribute__"))
  rd : PySem.W.readsIn K D (.type "type") = true
  fc : PySem.W.findCls K (.ref D) (.type "type") "__init__" = some (.val (.builtin "ValueError.__init__"))
section
variable {X : Cx} {x : Str} {D : Addr} {e : Expr} {es : List Expr} {ta : TA} {p1 p2 pos : Pos}
theorem pe_baseInit {pl : Sem Bool} (hg : Gl X x) (hm : X.mg x = some (.ref D)) (B : BaseI X.K D) (ha : PA X (e :: es) ta) (hdb : (x == ("__debug__" : Str)) = false := by decide)
    (hc : eval (.Call (.Attribute (.Name x p1) "__init__" p2) (e :: es) [] pos) X.env = (do
      let ov ← eval (.Name x p1) X.env
      standAt p2.atName
      let (f, first) ← holding [ov] (getMethod ov "__init__" pl)
      callWith pos f first (backTo pos (starEach (e :: es) X.env)) (backToKw pos (keywordEach [] X.env))) := by rfl)
    (he : starEach (e :: es) X.env = (false, eval e X.env) :: starEach es X.env := by rfl) (hpl : (backTo pos (starEach es X.env)).any (·.1) = false := by rfl) : PE X (.Call (.Attribute (.Name x p1) "__init__" p2) (e :: es) [] pos) (tVeI X.K ta) := by
  refine ⟨fun pins s σ H Q I h => PySem.W.methodCall_KW (ld_glob I hg hm ?_ hdb) hc⟩
  refine PySem.W.method_cls I.kIn B.sp (PySem.W.cls_value I.kIn B.rd B.fc (by decide) ?_)
  show wpAny _ _ (callWith pos (Value.builtin "ValueError.__init__") [] (backTo pos (starEach (e :: es) X.env)) []) _ _ _
  refine PyProof.Rows.callWith_method1 (thn (ha.run pos pins _ σ H _ (I.tok _) h) fun us s1 ⟨vs, H1, I1, r1, a, C, ws, ev, hl, T, ea, q⟩ => ?_) he hpl
  subst ev
  cases r1 with
  | @cons _ u0 _ ur ra rw' =>
    have e0 : u0 = Value.ref a := ra
    subst e0
    exact oinit_ok T I1 ea (by rw [← Paired.length rw', sizeLine_eq]; omega) fun s' J => ⟨.non, H1, J, rfl, q⟩
end
/-- what such an __init__ does: the number under the name f -/
def spInit (C : Addr) (f : Str) : Sp := fun vs H Q _ => ∃ (a : Addr) (n : Int), vs = [.ref a, .int n] ∧ 0 ≤ n ∧ n ≤ 1000000 ∧ H a = some (exo a C none) ∧ ∀ dx, H dx = none → dx ≠ a → Q .non (upd (upd H dx (exd dx [(f, .int n)])) a (exo a C (some dx)))
/-- the text f"{n} .." -/
def tFn (te : TE) (z : Str) : TE := fun σ H Q => tJs [tFmt te, tC (.str z)] Str.empty σ H fun out H1 => Q (.str out) H1
theorem pe_fn {X : Cx} {e : Expr} {te : TE} {p1 p2 pos : Pos} {z : Str} {j : Nat} (he : PE X e te) : PE X (.JoinedStr [.FormattedValue e (-1) none p1, .Constant (.str z) j p2] pos) (tFn te z) := pe_joined (.cons (pe_fmt he) (.cons pe_str .nil))
/-- the text f".. {n} .." -/
def tNfn (te : TE) (y z : Str) : TE := fun σ H Q => tJs [tC (.str y), tFmt te, tC (.str z)] Str.empty σ H fun out H1 => Q (.str out) H1
theorem pe_nfn {X : Cx} {e : Expr} {te : TE} {p1 p2 p3 pos : Pos} {y z : Str} {j k : Nat} (he : PE X e te) : PE X (.JoinedStr [.Constant (.str y) k p3, .FormattedValue e (-1) none p1, .Constant (.str z) j p2] pos) (tNfn te y z) := pe_joined (.cons pe_str (.cons (pe_fmt he) (.cons pe_str .nil)))
theorem log2_small {n : Int} (h0 : 0 ≤ n) (h : n ≤ 1000000) : n.natAbs.log2 < 1920 := by
  have h1 : n.natAbs ≤ 1000000 := by omega
  have h2 : n.natAbs.log2 < 20 := by
    by_cases z : n.natAbs = 0
    · rw [z]; decide
    · exact (Nat.log2_lt z).mpr (by omega)
  omega
theorem fn_run {i : Nat} {σ : L2.St} {H : Hp} {Q : VK} {n : Int} {z : Str} (h0 : 0 ≤ n) (h1 : n ≤ 1000000) (hz : z.length ≤ 1000) (h : σ[i]? = some (some (.int n))) (k : ∀ x, Q (.str x) H) : tFn (tVar i) z σ H Q := by
  have hl : (Str.ofString (toString n)).length ≤ 7 := toString_length_le h0 (k := 7) (by decide) (by omega)
  have e0 : (Str.empty ++ Str.ofString (toString n)).length = (Str.ofString (toString n)).length := by rw [Str.length_append]; show 0 + _ = _; omega
  refine ⟨.int n, h, .inr ⟨n, rfl, log2_small h0 h1, _, rfl, by rw [e0, sizeLine_eq]; omega, _, rfl, ?_, k _⟩⟩
  rw [Str.length_append, e0, sizeLine_eq]
  omega
theorem nfn_run {i : Nat} {σ : L2.St} {H : Hp} {Q : VK} {n : Int} {y z : Str} (h0 : 0 ≤ n) (h1 : n ≤ 1000000) (hy : y.length ≤ 1000) (hz : z.length ≤ 1000) (h : σ[i]? = some (some (.int n))) (k : ∀ x, Q (.str x) H) : tNfn (tVar i) y z σ H Q := by
  have hl : (Str.ofString (toString n)).length ≤ 7 := toString_length_le h0 (k := 7) (by decide) (by omega)
  have e0 : (Str.empty ++ y).length = y.length := by rw [Str.length_append]; show 0 + _ = _; omega
  have e1 : (Str.empty ++ y ++ Str.ofString (toString n)).length = y.length + (Str.ofString (toString n)).length := by rw [Str.length_append, e0]
  refine ⟨y, rfl, by rw [e0, sizeLine_eq]; omega, .int n, h, .inr ⟨n, rfl, log2_small h0 h1, _, rfl, by rw [e1, sizeLine_eq]; omega, _, rfl, ?_, k _⟩⟩
  rw [Str.length_append, e1, sizeLine_eq]
  omega
theorem mkO_run {C : Addr} {f : Str} {ta : TA} {σ : L2.St} {H : Hp} {Q : XK} {n : Int} (h0 : 0 ≤ n) (h1 : n ≤ 1000000) (h : EvA ta σ H [.int n]) (k : ∀ H2 d, Ex H H2 → H2 d = none → Q (.ref C) (some d) (upd H2 d (.xd [(f, .int n)]))) : tMkO C (spInit C f) [] ta σ H Q :=
  h H (Ex.refl _) _ fun H1 e1 => ⟨by simp, fun a ha => ⟨a, n, rfl, h0, h1, upd_same, fun dx hd nd => ⟨rfl, dx, [(f, .int n)], upd_same, by rw [upd_ne nd, upd_same], by rw [upd_ne nd] at hd; exact hd, by
    have hd1 : H1 dx = none := by rw [upd_ne nd] at hd; exact hd
    have e : upd (L2.del (upd (upd (upd H1 a (exo a C none)) dx (exd dx [(f, .int n)])) a (exo a C (some dx))) a) dx (.xd [(f, .int n)]) = upd H1 dx (.xd [(f, .int n)]) := by
      funext b
      by_cases hb : b = dx
      · subst hb
        rw [upd_same, upd_same]
      · rw [upd_ne hb, upd_ne hb]
        by_cases hba : b = a
        · subst hba
          rw [L2.del_same, ha]
        · rw [L2.del_ne hba, upd_ne hba, upd_ne hb, upd_ne hba]
    rw [e]
    exact k H1 dx e1 hd1⟩⟩⟩
end Cot

set_option Elab.async false
set_option linter.all false
set_option maxRecDepth 100000
set_option maxHeartbeats 4000000
/-! Texts as data; a try whose first clause, with a name, takes what is raised. -/
namespace Cot
open PySem PySem.Spec PyProof.Rows L2 Evl
/-- one sign -/
abbrev sg (c : Nat) : Str := ⟨#[c]⟩
def sigs (x : Str) : List PyData := x.cps.toList.map fun c => .str (sg c)
section
variable {K : PySem.W.Frag} {X : Cx} {H H' Hd Hd' Hn H1 H2 Hm : Hp} {σ : L2.St} {ta tb tc te tx tl to : TE} {d : PyData} {ds es : List PyData} {tr : TA} {i j j2 n : Nat}
theorem sigs_len (x : Str) : (sigs x).length = x.length := by unfold sigs; rw [List.length_map]; simp [Str.length]
/-- a text, walked sign by sign -/
theorem ei_str {x : Str} (h : Ev tl σ Hd (.str x)) : EvI K (iStr tl) (gName j) σ Hd x.length (SName K j (sigs x)) := fun H s R r =>
  h H s _ fun H2 e2 => ⟨x, rfl, r _ H2 Hd (fun _ => True) (fun i H v H' => H' = H ∧ ∃ c, x.cps[i]? = some c ∧ v = .str (sg c)) (Gr.ext s e2)
    ⟨fun i H hi _ => hi, fun H _ => Nat.le_refl _, fun i H v H' hi _ y => y⟩ (fun _ _ => trivial) fun i v H' H'' σ' k hi e y q => by
      obtain ⟨rfl, c, hc, rfl⟩ := y
      refine q _ _ (Ex.refl _) ⟨.str (sg c), .str (sg c), ?_, .str _, rfl⟩
      unfold sigs
      rw [List.getElem?_map, Array.getElem?_toList, hc]
      rfl⟩
theorem ev_ixS {z : Str} {k : Int} {c : Nat} (ha : Ev ta σ H (.str z)) (hb : Ev tb σ H (.int k)) (hz : z.length ≤ 100000) (h : atI z.cps.toList k = some c) : Ev (tOp rIxS ta tb) σ H (.str (sg c)) := ev_op ha hb (rv_ixS hz h)
def rFind : V → List V → Hp → VK → Prop := fun x xs H Q => ∃ a b, x = .str a ∧ xs = [.str b] ∧ Q (.int (Txt.find a b)) H
theorem ev_find {a b : Str} (ho : Ev to σ H (.str a)) (he : Ev te σ H (.str b)) : Ev (tM1 rFind to te) σ H (.int (Txt.find a b)) := fun H1 s Q q =>
  ho H1 s _ fun H2 e2 => ⟨⟨a, rfl⟩, he H2 (s.trans e2) _ fun H3 e3 => ⟨a, b, rfl, rfl, q H3 (e2.trans e3)⟩⟩
def rSpl : V → List V → Hp → VK → Prop := fun x xs H Q => ∃ a b, x = .str a ∧ xs = [.str b] ∧ (b.length == 0) = false ∧ a.length + 2 ≤ sizeLine ∧ rNewStrs (Txt.split a b) H Q
theorem en_split {a b : Str} (ho : Ev to σ Hd (.str a)) (he : Ev te σ Hd (.str b)) (hb : (b.length == 0) = false) (ha : a.length + 2 ≤ 1000000) : EvN K (tM1 rSpl to te) σ Hd ((Txt.split a b).map .str) := fun H s Q q =>
  ho H s _ fun H2 e2 => ⟨⟨a, rfl⟩, he H2 (s.trans e2) _ fun H3 e3 => ⟨a, b, rfl, rfl, hb, by rw [sizeLine_eq]; omega, fun p hp => q p ((Txt.split a b).map V.str) _ Hd ((Gr.ext s (e2.trans e3)).trans (Gr.alloc ((s.trans e2).trans e3) hp)) (fresh_back (e2.trans e3) hp) (fresh_back ((s.trans e2).trans e3) hp) upd_same (dpa_strs _)⟩⟩
where dpa_strs : ∀ (l : List Str), DpAll K Hd (l.map V.str) (l.map PyData.str)
  | [] => .nil
  | x :: l => .cons (.str x) (dpa_strs l)
def rInSg : R2 := fun x y H Q => ∃ (c : Nat) (z : Str), x = .str (sg c) ∧ y = .str z ∧ Q (.bl (decide (c ∈ z.cps.toList))) H
theorem ev_inSg {c : Nat} {z : Str} (ha : Ev ta σ H (.str (sg c))) (hb : Ev tb σ H (.str z)) : Ev (tOp rInSg ta tb) σ H (.bl (decide (c ∈ z.cps.toList))) := ev_op ha hb fun H1 _ _ q => ⟨c, z, rfl, rfl, q H1 (Ex.refl H1)⟩
def rLenX : List V → Hp → VK → Prop := fun xs H Q => ∃ a, xs = [.str a] ∧ a.length ≤ sizeLine ∧ Q (.int (a.length : Int)) H
theorem ev_lenX {a : Str} (h : Ev ta σ H (.str a)) (hz : a.length ≤ 1000000) : Ev (tCB rLenX (tCons ta tNil)) σ H (.int (a.length : Int)) := fun H1 s Q q => h H1 s _ fun H2 e => ⟨a, rfl, by rw [sizeLine_eq]; omega, q H2 e⟩
theorem pb_jo {o e : Expr} {apos pos : Pos} (hK : X.K = K) (ho : PE X o to) (he : PE X e te) (hs : starEach [e] X.env = [(false, eval e X.env)] := by rfl) (hbase : attributeBase o "join" X.env (eval o X.env) = eval o X.env := by rfl) (hline : (apos.endLine == pos.line) = true := by rfl) :
    PE X (.Call (.Attribute o "join" apos) [e] [] pos) (tM1 (rJo K) to te) := by
  subst hK
  exact pe_jo ho he hs hbase hline
end
/-- what is asked of an error that the first clause takes -/
def wYes (K : PySem.W.Frag) (c : Value) (i : Nat) (ts : Addr → Value → Option Addr → TS) (D : Ends) : WX := fun cls d σ H => PySem.W.exmOne K cls c = some true ∧ ∀ a, H a = none →
  ts a cls d { nx := fun σ' H' => D.nx (σ'.set i none) H', rt := D.rt, bk := fun σ' H' => D.bk (σ'.set i none) H', ct := fun σ' H' => D.ct (σ'.set i none) H' } (σ.set i (some (.ref a))) H
theorem ps_tryYes {X : Cx} {x n : Str} {c : Value} {i : Nat} {todo su : List Stmt} {f0 : Stmt} {np pos qos : Pos} {more : List ExceptHandler} {tb : WX → TS} {ts : Addr → Value → Option Addr → TS}
    (st : X.stack = X.env :: X.outer) (fr : X.env.frame = some X.env.locals) (nd : X.N.Nodup) (ni : X.N[i]? = some n) (kn : X.env.kindOf n = some .local) (hc : Names X x c)
    (go : ∀ (W : WX) (ps : List (Addr × Obj)) (xe : Value → Shared → Prop), L2.Takes (X.tr ps xe) W → PassesOwn (model X.prog X.w) X.A X.env xe → PSs (X.tr ps xe) todo (tb W))
    (su1 : ∀ (a : Addr) (oe : Obj) (cls : Value) (d : Option Addr) (ps : List (Addr × Obj)), Zc cls d oe → (∃ vs, oe.data = .fields vs) → PSs (X.suite a ((a, oe) :: ps)) (f0 :: su) (ts a cls d)) :
    PS X (.Try todo (.ExceptHandler (some (.Name x np)) (some n) (f0 :: su) qos :: more) [] [] pos) (fun D σ H => tb (wYes X.K c i ts D) D σ H) := by
  refine ⟨fun ps s σ H D I w => wpAny_Try_except ?_⟩
  have I0 := I.ok
  have F0 : X.A.frames = some (X.env :: X.outer) := by rw [I0.frames, st]
  let xe' : Value → Shared → Prop := fun e s1 => wpAny (model X.prog X.w) X.A (noteFrame e X.env) (fun _ s2 => wpAny (model X.prog X.w) X.A (setFlight e none) (fun _ s3 => wpAny (model X.prog X.w) X.A (handleBy e X.env (.ExceptHandler (some (.Name x np)) (some n) (f0 :: su) qos :: more)) (SP X ps D) X.xe s3) X.xe s2) X.xe s1
  have tk : L2.Takes (X.tr (X.pn ++ ps) xe') (wYes X.K c i ts D) := by
    rintro u s1 ⟨a, B, sJ, qs, τ, G, cls, d, rfl, Jt, nb, up, sky, na, eos, ag, yes, inn⟩
    have J : Inv X ps τ G sJ := Jt.ofTry I0
    have sk : Sky B (X.env :: X.outer) a (Zc cls d) X.env.locals s1.heap := by rw [← st]; exact sky
    show wpAny (model X.prog X.w) X.A (noteFrame (.ref a) X.env) _ _ _
    refine Sky.land Zc.steady F0 fr sk fun g1 l1 u1 => ?_
    obtain ⟨o1, v1, e1, z1, d1⟩ := l1.there
    have J1 : Inv X ps τ G { s1 with heap := g1 } := J.landed nb l1.1 (up.trans u1) eos ag
    have off : a ∉ frs (X.env :: X.outer) := fun hm => by
      obtain ⟨_, o2, e2, no⟩ := l1.2.2.1.mem hm
      rw [e1] at e2
      cases e2
      exact no _ d1
    have offL : a ≠ X.env.locals := fun z => off (List.mem_filterMap.mpr ⟨X.env, List.mem_cons_self, by rw [fr, z]⟩)
    have offF : a ∉ X.fs := fun hm => by
      obtain ⟨e, he, hq⟩ := List.mem_filterMap.mp hm
      exact off (List.mem_filterMap.mpr ⟨e, List.mem_cons_of_mem _ he, hq⟩)
    have S1 := J1.suite e1 d1 na offL offF
    refine wpAny_handleBy_cons (codeAny_handlers_test ?_) (by intro hq; cases hq)
    have ty : PySem.W.Looks (model X.prog X.w) g1 (typeOf (.ref a)) cls := fun A Q E s k hq => wpAny_typeOf_ref (k _ _ e1) (by rw [z1.1]; exact hq)
    have look : ∀ {Q : Value → Shared → Prop} {E : Value → Shared → Prop}, Q c { s1 with heap := g1 } → wpAny (model X.prog X.w) (X.A.mark (some (.ref a))) (eval (.Name x np) X.env) Q E { s1 with heap := g1 } := fun {Q E} hq => by
      rcases hc with ⟨h1, h2, h3 | ⟨h3, h4, h5⟩⟩
      · exact ld_glob (X := X.suite a ((a, o1) :: (X.pn ++ ps))) S1 h1 h3 hq h2
      · exact ld_blt (X := X.suite a ((a, o1) :: (X.pn ++ ps))) S1 h1 h3 h4 hq h5 h2
    refine look ((PySem.W.exm_one (M := model X.prog X.w) J1.kIn ty yes).here (codeAny_handlers_suite_as (HandSPX.lands_againZ l1 fun g2 l2 u2 => ?_)))
    obtain ⟨o2, v2, e2, z2, d2⟩ := l2.there
    have J2 : Inv X ps τ G { s1 with heap := g2 } := J.landed nb l2.1 ((up.trans u1).trans u2) eos ag
    refine store_ok (X := X.suite a ((a, o2) :: (X.pn ++ ps))) (v := .ref a) (J2.suite e2 d2 na offL offF) nd ni (.inl kn) rfl (fun s5 S5 => ?_) (.inr kn)
    refine wpAny_mono ((su1 a o2 cls d (X.pn ++ ps) z2 ⟨_, d2⟩).run [] s5 _ G _ S5 (inn a na)) (fun f s6 fin => ?_) (fun _ _ z => z.elim)
    have gone : ∀ {τ' : L2.St} {G' : Hp} {Q : Shared → Prop}, Inv (X.suite a ((a, o2) :: (X.pn ++ ps))) [] τ' G' s6 → (∀ s7, Inv X ps (τ'.set i none) G' s7 → Q s7) →
      wpAny (model X.prog X.w) X.A (do bindName X.env n .none; unbindBehindTheSuite X.env n qos) (fun _ s7 => Q s7) X.xe s6 := fun {τ' G' Q} S6 hq => gone_ok (S6.unsuite I0) nd ni kn hq
    cases f with
    | ret u =>
      obtain ⟨v6, τ6, G6, S6, r6, w6⟩ := fin
      exact gone S6 fun s7 J7 => ⟨_, _, _, J7, r6, w6⟩
    | next =>
      obtain ⟨τ6, G6, S6, w6⟩ := fin
      exact gone S6 fun s7 J7 => ⟨_, _, J7, w6⟩
    | brk =>
      obtain ⟨τ6, G6, S6, w6⟩ := fin
      exact gone S6 fun s7 J7 => ⟨_, _, J7, w6⟩
    | cont =>
      obtain ⟨τ6, G6, S6, w6⟩ := fin
      exact gone S6 fun s7 J7 => ⟨_, _, J7, w6⟩
  refine wpAny_mono ((go (wYes X.K c i ts D) (X.pn ++ ps) xe' tk PassesOwn.looking).run [] s σ H D (I.toTry _) w) (fun f s1 fin => ?_) (fun e s1 he => he)
  cases f with
  | ret u =>
    obtain ⟨v, τ, G, J, r, w1⟩ := fin
    exact ⟨v, τ, G, J.ofTry I0, r, w1⟩
  | next =>
    obtain ⟨τ, G, J, w1⟩ := fin
    exact wpAny_execs_nil ⟨τ, G, J.ofTry I0, w1⟩
  | brk =>
    obtain ⟨τ, G, J, w1⟩ := fin
    exact ⟨τ, G, J.ofTry I0, w1⟩
  | cont =>
    obtain ⟨τ, G, J, w1⟩ := fin
    exact ⟨τ, G, J.ofTry I0, w1⟩
end Cot

set_option Elab.async false
set_option linter.all false
set_option maxRecDepth 100000
set_option maxHeartbeats 4000000
/-! max of a tuple of ints. -/
namespace Cot
open PySem PySem.Spec PyProof.Rows L2 Evl
def rMaxT (K : PySem.W.Frag) : List V → Hp → VK → Prop := fun vs H Q => ∃ (a : Addr) (ns : List Int), vs = [V.ref a] ∧ SqT K H a (ns.map V.int) ∧ 0 < ns.length ∧ ∀ m, m ∈ ns → (∀ y, y ∈ ns → y ≤ m) → Q (.int m) H
theorem call_maxT {X : Cx} {K : PySem.W.Frag} (eK : X.K = K) (hc : X.calm = true) : CallR X (.builtin "max") (rMaxT K) := by
  subst eK
  intro pins s σ H vs us Q I r h
  obtain ⟨a, ns, rfl, hs, hne, q⟩ := h
  obtain ⟨its, rv, hl, hz⟩ := I.tuple hs
  rw [Vals.ref1 r]
  obtain ⟨xs, e⟩ := rv.ints.allInts.items
  have hn : numsOf (intItems xs).toList = ns := by rw [← e]; exact rv.ints.numsOf
  rw [nums_intItems] at hn
  subst hn
  have hl' : s.heap.IsTuple a (intItems xs) := by rw [← e]; exact hl
  have hlt : a < s.heap.objs.size := by obtain ⟨_, e, _⟩ := hl'; exact Heap.lt_size e
  have hsz : 0 < xs.size := by simpa using hne
  refine call_max_walk (wpAny_pyIter_tuple hl' ⟨_, _, _, _, _, _, _, rfl, Walks.tuple (A := X.A.in1) (I.ok.hd hc) _ a (Nat.ne_of_lt hlt) (intItems xs), ⟨⟨_, Heap.get?_push_size _ rfl, rfl, rfl⟩, hl'.push _⟩, fun b hb => ?_, by simpa [intItems] using hsz, CmpOf.ints_gt (numAt xs) (fun _ _ => intItems_at), fun v h' tk hP hk => ?_⟩)
  · show b < (s.heap.push _).objs.size
    rw [Heap.size_push]
    rcases List.mem_cons.mp hb with rfl | hb
    · exact Nat.lt_succ_self s.heap.objs.size
    · rw [List.mem_singleton.mp hb]
      exact Nat.lt_succ_of_lt hlt
  · have hv : (intItems xs)[argBest (fun i j => decide (numAt xs i > numAt xs j)) (xs.size - 1)]? = some v := by simpa [intItems] using hP
    obtain ⟨t, rfl⟩ := intItems_at hv
    obtain ⟨h1, h2⟩ := argBest_gt (numAt xs) (xs.size - 1)
    have kp : ∀ b o, s.heap.get? b = some o → h'.get? b = some o := fun b o eb => hk b o (fun hm => absurd (Heap.lt_size eb) ((List.mem_singleton.mp hm) ▸ Nat.lt_irrefl _)) (Heap.get?_push_of_some _ eb)
    refine ⟨.int _, H, I.kept kp, ⟨_, rfl⟩, q _ ?_ fun y hy => ?_⟩
    · rw [numAt_eq]
      exact PySem.getD_mem (by rw [List.length_map, Array.length_toList]; omega)
    · obtain ⟨j, hj, rfl⟩ := mem_getD hy
      rw [List.length_map, Array.length_toList] at hj
      rw [← numAt_eq]
      exact h2 j (by omega)
theorem ev_maxT {K : PySem.W.Frag} {σ : L2.St} {Hd : Hp} {ta : TE} {ns : List Int} {m : Int} (h : EvD K ta σ Hd (.tuple (ns.map .int))) (hm : m ∈ ns) (hx : ∀ y ∈ ns, y ≤ m) : Ev (tCB (rMaxT K) (tCons ta tNil)) σ Hd (.int m) := fun H s Q q =>
  h H s _ fun v H2 Hn g hd => by
    cases hd with
    | @tup p xs ds hs hall =>
      have e := dpa_ints_inv hall
      subst e
      refine ⟨p, ns, rfl, ex_t g.sub hs, List.length_pos_of_mem hm, fun m' h1 h2 => ?_⟩
      have : m' = m := Int.le_antisymm (hx m' h1) (h2 m hm)
      rw [this]
      exact q H2 g.ex
/-- the rules of texts with the names of this layer -/
theorem pe_fnd {X : Cx} {o e : Expr} {to te : TE} {apos pos : Pos} (ho : PE X o to) (he : PE X e te) (hs : starEach [e] X.env = [(false, eval e X.env)] := by rfl) (hbase : attributeBase o "find" X.env (eval o X.env) = eval o X.env := by rfl) (hline : (apos.endLine == pos.line) = true := by rfl) :
    PE X (.Call (.Attribute o "find" apos) [e] [] pos) (tM1 rFind to te) := pe_m1 PySem.F.slot_str_find PySem.F.type_str_find mt_find ho he hs hbase hline
theorem pe_spl {X : Cx} {o e : Expr} {to te : TE} {apos pos : Pos} (ho : PE X o to) (he : PE X e te) (hs : starEach [e] X.env = [(false, eval e X.env)] := by rfl) (hbase : attributeBase o "split" X.env (eval o X.env) = eval o X.env := by rfl) (hline : (apos.endLine == pos.line) = true := by rfl) :
    PE X (.Call (.Attribute o "split" apos) [e] [] pos) (tM1 rSpl to te) := pe_split ho he hs hbase hline
theorem call_lenX {X : Cx} : CallR X (.builtin "len") rLenX := call_len_str
end Cot

set_option Elab.async false
set_option linter.all false
set_option maxRecDepth 100000
set_option maxHeartbeats 4000000
/-! Texts: sums, slices, places found; drawn signs, lists of texts with drawn parts; small written dicts. -/
namespace Cot
open PySem PySem.Spec PyProof.Rows L2 Evl
section
variable {K : PySem.W.Frag} {b : Bid} {X : Cx} {H H' Hd Hd' Hn H1 H2 Hm : Hp} {σ : L2.St} {ta tb tc te tx tl to : TE} {tlo thi : TO} {d : PyData} {ds es : List PyData} {tr : TA} {i j j2 n : Nat} {p : Int → Prop} {Ps Ps' : List PyData → Prop} {D : Ends} {tz : TS}
def rAddS : R2 := fun x y H Q => ∃ i j, x = .str i ∧ y = .str j ∧ i.length + j.length ≤ sizeLine ∧ Q (.str (i ++ j)) H
theorem op_addS : OpR X (binaryOp .Add) rAddS := op_add_str
theorem ev_addS {a c : Str} (ha : Ev ta σ H (.str a)) (hb : Ev tb σ H (.str c)) (hl : a.length + c.length ≤ 1000000) : Ev (tOp rAddS ta tb) σ H (.str (a ++ c)) := ev_op ha hb fun H1 _ _ q => ⟨a, c, rfl, rfl, by rw [sizeLine_eq]; omega, q H1 (Ex.refl H1)⟩
theorem ev_slS {z : Str} {lo hi : Option Int} (ha : Ev te σ H (.str z)) (h1 : EvO tlo σ H lo) (h2 : EvO thi σ H hi) (hl : z.length ≤ 1000000) : Ev (tSl rSlS te tlo thi) σ H (.str (cutS z lo hi)) := fun H1 e1 Q q =>
  ha H1 e1 _ fun H2 e2 => h1 H2 (e1.trans e2) _ fun H3 e3 => h2 H3 ((e1.trans e2).trans e3) _ fun H4 e4 => ⟨z, rfl, by rw [sizeLine_eq]; omega, q H4 ((e2.trans e3).trans e4)⟩
def rIndexS : V → List V → Hp → VK → Prop := fun x xs H Q => ∃ a b i rest, x = .str a ∧ xs = [.str b] ∧ Builtin.Str.occurrences a b 0 a.length 1 = i :: rest ∧ Q (.int (i : Nat)) H
theorem mt_indexS : MtR X "str.index" rIndexS := mt_sindex
theorem ev_indexS {a c : Str} {i : Nat} {rest : List Nat} (ho : Ev to σ H (.str a)) (he : Ev te σ H (.str c)) (h : Builtin.Str.occurrences a c 0 a.length 1 = i :: rest) : Ev (tM1 rIndexS to te) σ H (.int (i : Nat)) := fun H1 s Q q =>
  ho H1 s _ fun H2 e2 => ⟨⟨a, rfl⟩, he H2 (s.trans e2) _ fun H3 e3 => ⟨a, c, i, rest, rfl, rfl, h, q H3 (e2.trans e3)⟩⟩
theorem pe_idxS {o e : Expr} {apos pos : Pos} (ho : PE X o to) (he : PE X e te) (hs : starEach [e] X.env = [(false, eval e X.env)] := by rfl) (hbase : attributeBase o "index" X.env (eval o X.env) = eval o X.env := by rfl) (hline : (apos.endLine == pos.line) = true := by rfl) :
    PE X (.Call (.Attribute o "index" apos) [e] [] pos) (tM1 rIndexS to te) := pe_m1 PySem.F.slot_str_index PySem.F.type_str_index mt_indexS ho he hs hbase hline
/-! ### drawn -/
def isS (p : Str → Prop) (d : PyData) : Prop := ∃ z, d = .str z ∧ p z
theorem eb_evS {z : Str} (h : Ev te σ Hd (.str z)) : EvB K b te σ Hd (isS fun y => y = z) := (eb_ed (ed_str h)).imp fun d e => ⟨z, e, rfl⟩
theorem eb_ixS {z : Str} (ha : Ev ta σ Hd (.str z)) (hi : EvB K b tb σ Hd (isI p)) (hz : z.length ≤ 100000) (he : ∀ i, p i → ∃ c, atI z.cps.toList i = some c) : EvB K b (tOp rIxS ta tb) σ Hd (isS fun y => ∃ i c, p i ∧ atI z.cps.toList i = some c ∧ y = sg c) := fun hb H s B Q q =>
  ha H s _ fun H1 e1 => hi hb H1 (s.trans e1) (B.mono e1) _ fun v2 H2 Hm d2 g2 hd2 hp2 => by
    obtain ⟨i, rfl, pi⟩ := hp2
    cases hd2
    obtain ⟨c, hc⟩ := he i pi
    exact ⟨z, i, c, rfl, rfl, by rw [sizeLine_eq]; omega, hc, q (.str (sg c)) H2 Hm (.str (sg c)) (g2.pre e1) (.str _) ⟨_, rfl, i, c, pi, hc, rfl⟩⟩
/-- a new list from a drawn place on -/
theorem bn_from (h : EvD K te σ Hd (.list ds)) (h2 : EvB K b tb σ Hd (isI p)) (hp : ∀ i, p i → 0 ≤ i) : EvBN K b (tSl (rSlL K) te (tPart tb) tNoPart) σ Hd (fun es => ∃ j : Nat, p (j : Int) ∧ es = ds.drop j) := fun hb H s B Q q =>
  h H s _ fun v H2 Hn g hd => (h2.mono g.dx) ((GrB.of g B).bn hb B) H2 g.sub (GrB.of g B).bx _ fun v2 H3 Hm d g3 hd3 hp3 => by
    obtain ⟨m, rfl, pm⟩ := hp3
    obtain ⟨k, rfl⟩ : ∃ k : Nat, m = (k : Int) := ⟨m.toNat, by have := hp m pm; omega⟩
    cases hd3
    cases hd with
    | @lst a xs ds hs hall =>
      have gg : GrB b Hd H Hm H3 := (GrB.of g B).trans g3 hb B
      refine ⟨k, rfl, a, xs, rfl, ex_l (g3.dx.trans g3.sub) hs, fun r hr => q r _ _ Hm (ds.drop k) (gg.trans (GrB.of (Gr.alloc g3.sub hr) g3.bx) hb B) (gg.fresh hr) (fresh_back g3.sub hr) upd_same ?_ ⟨k, pm, rfl⟩⟩
      unfold cutV
      rw [HT.sIx_none, HT.sIx_nat]
      have hc : (xs.drop (min k xs.length)).take (xs.length - min k xs.length) = xs.drop k := by
        rw [List.take_of_length_le (by rw [List.length_drop]; omega)]
        by_cases h : k ≤ xs.length
        · rw [Nat.min_eq_left h]
        · rw [Nat.min_eq_right (by omega), List.drop_of_length_le (Nat.le_refl _), List.drop_of_length_le (by omega)]
      rw [hc]
      exact dpa_drop _ (dpa_mono g3.dx _ hall)
/-- a drawn list of texts, joined -/
theorem eb_jo {a : Str} {Pq : List Str → Prop} (ho : Ev to σ Hd (.str a)) (h : EvBN K b te σ Hd (fun ds => ∃ ys : List Str, ds = ys.map .str ∧ Pq ys)) (hl : ∀ ys, Pq ys → (ys.map (·.length)).sum + ys.length * a.length ≤ 16777216) : EvB K b (tM1 (rJo K) to te) σ Hd (isS fun z => ∃ ys, Pq ys ∧ z = Txt.join a ys) := fun hb H s B Q q =>
  ho H s _ fun H1 e1 => ⟨⟨a, rfl⟩, h hb H1 (s.trans e1) (B.mono e1) _ fun p xs H2 Hn ds g h1 h2 h3 h4 h5 => by
    obtain ⟨ys, rfl, py⟩ := h5
    have e := dpa_strs_inv h4
    subst e
    exact ⟨a, p, ys, rfl, rfl, Or.inl (sq_of h3), hl ys py, q (.str (Txt.join a ys)) H2 Hn (.str (Txt.join a ys)) (g.pre e1) (.str _) ⟨_, rfl, ys, py, rfl⟩⟩⟩
/-! ### small written dicts with keys ints and texts -/
/-- a dict that stands -/
def EvK (te : TE) (σ : L2.St) (Hd : Hp) (kvs : List (Key × V)) : Prop := ∀ H, Ex Hd H → ∀ Q : VK, (∀ p H2, Ex H H2 → H2 p = some (.dK kvs) → Q (.ref p) H2) → te σ H Q
def EvPs (trs : List (TE × TE)) (σ : L2.St) (Hd : Hp) (kvs : List (Key × V)) : Prop := ∀ H, Ex Hd H → ∀ Q : List (V × V) → Hp → Prop, (∀ H2, Ex H H2 → Q (kvs.map fun kv => (kV kv.1, kv.2)) H2) → tPairs trs σ H Q
theorem eps_nil : EvPs [] σ Hd [] := fun H s Q q => q H (Ex.refl H)
theorem eps_cons {tk tv : TE} {trs : List (TE × TE)} {k : Key} {v : V} {kvs : List (Key × V)} (hk : Ev tk σ Hd (kV k)) (hv : Ev tv σ Hd v) (hr : EvPs trs σ Hd kvs) : EvPs ((tk, tv) :: trs) σ Hd ((k, v) :: kvs) := fun H s Q q =>
  hk H s _ fun H1 e1 => hv H1 (s.trans e1) _ fun H2 e2 => hr H2 ((s.trans e1).trans e2) _ fun H3 e3 => q H3 ((e1.trans e2).trans e3)
/-- a new dict -/
def EvKN (te : TE) (σ : L2.St) (Hd : Hp) (kvs : List (Key × V)) : Prop := ∀ H, Ex Hd H → ∀ Q : VK, (∀ p H2, Ex H H2 → H p = none → H2 p = some (.dK kvs) → Q (.ref p) H2) → te σ H Q
theorem ekn_disp {trs : List (TE × TE)} {kvs : List (Key × V)} (h : EvPs trs σ Hd kvs) (hl : kvs.length ≤ 15) : EvKN (tDisp trs) σ Hd (mergeK [] kvs) := fun H s Q q p hp =>
  h _ (s.trans (Ex.new hp)) _ fun H2 e2 => ⟨e2 _ _ upd_same, kvs, rfl, hl, q p _ (fun x o hx => by
    rw [upd_ne (ne_of_none hx hp)]
    exact e2 x o (by rw [upd_ne (ne_of_none hx hp)]; exact hx)) hp upd_same⟩
theorem ek_new {kvs : List (Key × V)} (h : EvKN te σ Hd kvs) : EvK te σ Hd kvs := fun H s Q q => h H s Q fun p H2 e _ hp => q p H2 e hp
theorem ek_var {kvs : List (Key × V)} {a : Addr} (h : σ[i]? = some (some (.ref a))) (ha : Hd a = some (.dK kvs)) : EvK (tVar i) σ Hd kvs := fun H s Q q => ev_var h H (Ex.refl H) Q fun H2 e => q a H2 e (e _ _ (s _ _ ha))
theorem ev_dgetK {kvs : List (Key × V)} {k : Key} {v : V} (h : EvK te σ Hd kvs) (hk : Ev tx σ Hd (kV k)) (hv : valV kvs k = some v) : Ev (tDGet te tx) σ Hd v := fun H s Q q =>
  h H s _ fun p H1 e1 h1 => hk H1 (s.trans e1) _ fun H2 e2 => ⟨p, v, rfl, by rw [← hv]; exact DGet.k (e2 _ _ h1), q H2 (e1.trans e2)⟩
/-! ### how long what is split is -/
theorem spl1_len (s : Nat) : ∀ (l acc : List Nat), ((TL.spl [s] 0 acc l).map (·.length)).sum + (TL.spl [s] 0 acc l).length = acc.length + l.length + 1
  | [], acc => by rw [TL.spl_nil]; simp
  | c :: r, acc => by
    cases hp : TL.pre [s] (c :: r) with
    | true =>
      rw [TL.spl_hit hp]
      have := spl1_len s r []
      simp only [List.map_cons, List.sum_cons, List.length_cons, List.length_nil] at this ⊢
      show _ + ((TL.spl [s] 0 [] r).map _).sum + ((TL.spl [s] 0 [] r).length + 1) = _
      omega
    | false =>
      rw [TL.spl_miss hp]
      have := spl1_len s r (acc ++ [c])
      simp only [List.length_append, List.length_cons, List.length_nil] at this ⊢
      omega
theorem tl_length (z : Str) : (TL.tl z).length = z.length := by simp [TL.tl, Str.length]
theorem split_len {y : Str} {s : Nat} (z : Str) (ey : TL.tl y = [s]) (hk : y.cps.all (· < 256) = true) : ((Txt.split z y).map (·.length)).sum + (Txt.split z y).length = z.length + 1 := by
  have e := TL.split_spl z y (by rw [ey]; simp) (TL.kind_ok hk)
  rw [ey] at e
  have h := spl1_len s (TL.tl z) []
  rw [← e, List.map_map, List.length_map, tl_length] at h
  have e2 : ((fun x : List Nat => x.length) ∘ TL.tl) = (fun x : Str => x.length) := by funext x; exact tl_length x
  rw [e2] at h
  simpa using h
theorem sum_mem {l : List Str} {x : Str} (h : x ∈ l) : x.length ≤ (l.map (·.length)).sum := by
  induction l with
  | nil => cases h
  | cons a l ih =>
    rw [List.map_cons, List.sum_cons]
    rcases List.mem_cons.mp h with rfl | h
    · omega
    · have := ih h
      omega
theorem join_len (s : Str) : ∀ (ys : List Str), (Txt.join s ys).length ≤ (ys.map (·.length)).sum + ys.length * s.length := fun ys => by
  rw [← tl_length, TL.join_eq, TL.tl_join]
  induction ys with
  | nil => simp [TL.joinL]
  | cons y ys ih =>
    cases ys with
    | nil => simp [TL.joinL, Str.length]
    | cons x xs =>
      have e : TL.joinL (TL.tl s) ((y :: x :: xs).map TL.tl) = TL.tl y ++ (TL.tl s ++ TL.joinL (TL.tl s) ((x :: xs).map TL.tl)) := by
        simp [TL.joinL]
      rw [e, List.length_append, List.length_append, tl_length, tl_length]
      have e2 : ((y :: x :: xs).map fun x : Str => x.length).sum = y.length + ((x :: xs).map fun x : Str => x.length).sum := rfl
      have e3 : (y :: x :: xs).length * s.length = (x :: xs).length * s.length + s.length := by rw [List.length_cons, Nat.add_mul, Nat.one_mul]
      rw [e2, e3]
      have ih' : (TL.joinL (TL.tl s) (TL.tl x :: List.map TL.tl xs)).length ≤ _ := ih
      omega
/-! ### an if that comes together again -/
theorem go_whenK {t : TT} {tu tz : TS} {σ : L2.St} {H : Hp} {D : Ends} {b : Bool} (J : L2.St → Hp → Prop) (h : EvT t σ H b) (h1 : b = true → ∀ nx : L2.St → Hp → Prop, (∀ σ' H', J σ' H' → nx σ' H') → Go tu { D with nx := nx } σ H) (h2 : b = false → ∀ H', Ex H H' → J σ H') (k : ∀ σ' H', J σ' H' → Go tz D σ' H') : Go (tSeq (tIfS t tu tNext) tz) D σ H :=
  go_when h (fun e => h1 e (tz D) fun σ' H' j => k σ' H' j H' (Ex.refl _)) fun e H' e' => k σ H' (h2 e H' e') H' (Ex.refl _)
theorem go_whenBK {t : TT} {tu tz : TS} {σ : L2.St} {H Hd : Hp} {D : Ends} (J : L2.St → Hp → Prop) (hb : Hd b.b = none) (s : Ex Hd H) (B : Bx H b) (h : EvBT K b t σ Hd) (h1 : ∀ H' Hn, GrB b Hd H Hn H' → ∀ nx : L2.St → Hp → Prop, (∀ σ' H'', J σ' H'' → nx σ' H'') → Go tu { D with nx := nx } σ H') (h2 : ∀ H' Hn, GrB b Hd H Hn H' → ∀ H'', Ex H' H'' → J σ H'') (k : ∀ σ' H', J σ' H' → Go tz D σ' H') : Go (tSeq (tIfS t tu tNext) tz) D σ H :=
  go_whenB hb s B h (fun H' Hn g => h1 H' Hn g (tz D) fun σ' H'' j => k σ' H'' j H'' (Ex.refl _)) fun H' Hn g H'' e => k σ H'' (h2 H' Hn g H'' e) H'' (Ex.refl _)
end
end Cot

set_option Elab.async false
set_option linter.all false
set_option maxRecDepth 100000
set_option maxHeartbeats 4000000
/-! zip of a tuple and a list. -/
namespace Cot
open PySem PySem.Spec PyProof.Rows L2 Evl RZ
abbrev zbT (h : Heap) (a b : Addr) : Heap := (h.push (tupItO a)).push (lstItO b)
abbrev zdT (h : Heap) (a b : Addr) : Heap := ((zbT h a b).push (twoO (.ref h.objs.size) (.ref (h.push (tupItO a)).objs.size))).push (twoO .none .none)
abbrev zcT (h : Heap) (a b : Addr) : Heap := (zbT h a b).push (twoO (.ref h.objs.size) (.ref (h.push (tupItO a)).objs.size))
abbrev zeT (h : Heap) (a b : Addr) : Heap := (zdT h a b).push (zipO (zbT h a b).objs.size (zcT h a b).objs.size)
set_option maxHeartbeats 1000000 in
theorem zipTL_new (a b : Addr) (xs ys : Array Value) :
    Meets (Builtin.«zip.__new__» ⟨[.type "zip", .ref a, .ref b], []⟩) (fun _ R s => s.heap.IsTuple a xs ∧ s.heap.IsList b ys ∧ R (.ok (.ret (.ref (zdT s.heap a b).objs.size))) { s with heap := zeT s.heap a b }) :=
  .of_wp fun prog w A R s hh => by
    obtain ⟨hp, gs, dr, tk, os⟩ := s
    obtain ⟨hL, hT, hh⟩ := hh
    have sb := sub_zip
    have hT2 : Heap.IsList (Shared.heap ⟨hp.push (tupItO a), gs, dr, tk, os⟩) b ys := Heap.IsList.push hT _
    have hL2 : Heap.IsTuple (Shared.heap ⟨hp, gs, dr, tk, os⟩) a xs := hL
    wp_walk using wpAny_pyIter_tuple hL2, wpAny_pyIter_list hT2
    exact ⟨_, rfl, hh⟩
section
variable {prog : Program} {w : World} {A : Around} {E : Value → Shared → Prop} {s : Shared}
theorem call_zipTL {a b : Addr} {xs ys : Array Value} {Q : Value → Shared → Prop} (hL : s.heap.IsTuple a xs) (hT : s.heap.IsList b ys)
    (hq : ∀ h', IsZip h' (s.heap.objs.size + 4) (s.heap.objs.size + 2) (s.heap.objs.size + 3) .none → IsTupOf2 h' (s.heap.objs.size + 2) (.ref s.heap.objs.size) (.ref (s.heap.objs.size + 1)) → IsTupOf2 h' (s.heap.objs.size + 3) .none .none →
      h'.IsTupleIter s.heap.objs.size a 0 → h'.IsListIter (s.heap.objs.size + 1) b 0 → (∀ c o, s.heap.get? c = some o → h'.get? c = some o) → Q (.ref (s.heap.objs.size + 4)) { s with heap := h' }) :
    wpAny (model prog w) A (call (.type "zip") [.ref a, .ref b]) Q E s := by
  refine callType_new F.called_zip (by decide) (F.typeCall_zip_2 _ _) (F.newCall_zip_2 _ _) (fun ob => F.args_object_init_3 ob _ _) F.entry_zip_new (zipTL_new a b xs ys) ⟨hL, hT, ?_⟩
  have s1 : (s.heap.push (tupItO a)).objs.size = s.heap.objs.size + 1 := Heap.size_push ..
  have s2 : (zbT s.heap a b).objs.size = s.heap.objs.size + 2 := by rw [Heap.size_push, s1]
  have s3 : (zcT s.heap a b).objs.size = s.heap.objs.size + 3 := by rw [Heap.size_push, s2]
  have s4 : (zdT s.heap a b).objs.size = s.heap.objs.size + 4 := by rw [Heap.size_push, s3]
  have p0 : (zeT s.heap a b).get? s.heap.objs.size = some (tupItO a) := Heap.get?_push_of_some _ (Heap.get?_push_of_some _ (Heap.get?_push_of_some _ (Heap.get?_push_of_some _ (Heap.get?_push_size _ rfl))))
  have p1 : (zeT s.heap a b).get? (s.heap.push (tupItO a)).objs.size = some (lstItO b) := Heap.get?_push_of_some _ (Heap.get?_push_of_some _ (Heap.get?_push_of_some _ (Heap.get?_push_size _ rfl)))
  have p2 : (zeT s.heap a b).get? (zbT s.heap a b).objs.size = some (twoO (.ref s.heap.objs.size) (.ref (s.heap.push (tupItO a)).objs.size)) := Heap.get?_push_of_some _ (Heap.get?_push_of_some _ (Heap.get?_push_size _ rfl))
  have p3 : (zeT s.heap a b).get? (zcT s.heap a b).objs.size = some (twoO .none .none) := Heap.get?_push_of_some _ (Heap.get?_push_size _ rfl)
  have p4 : (zeT s.heap a b).get? (zdT s.heap a b).objs.size = some (zipO (zbT s.heap a b).objs.size (zcT s.heap a b).objs.size) := Heap.get?_push_size _ rfl
  rw [s1, s2] at p2
  rw [s1] at p1
  rw [s3] at p3
  rw [s2, s3, s4] at p4
  show _ ∧ _
  rw [s4]
  exact ⟨⟨_, p4, rfl⟩, hq _ p4 p2 p3 ⟨_, p0, rfl, rfl⟩ ⟨_, p1, rfl, rfl⟩ fun c o x => Heap.get?_push_of_some _ (Heap.get?_push_of_some _ (Heap.get?_push_of_some _ (Heap.get?_push_of_some _ (Heap.get?_push_of_some _ x))))⟩
end
/-- the list at a and the tuple at b, item by item in new pairs -/
def ItzTL (K : PySem.W.Frag) (a b : Addr) : It :=
  ⟨fun i H => ∃ (xs ys : List V) (x y : V), SqT K H a xs ∧ SqL K H b ys ∧ xs[i]? = some x ∧ ys[i]? = some y, fun i H v H' => ∃ T x y, v = .ref T ∧ H T = none ∧ H' = upd H T (.tup [x, y]) ∧ (∀ xs, SqT K H a xs → xs[i]? = some x) ∧ ∀ ys, SqL K H b ys → ys[i]? = some y,
    fun i H => ∃ xs ys : List V, SqT K H a xs ∧ SqL K H b ys ∧ i ≤ xs.length ∧ i ≤ ys.length ∧ (i = xs.length ∨ i = ys.length)⟩
theorem turn_zipTL {P : Program} {w : World} {K : PySem.W.Frag} {elts : List Expr} {kk : Nat} {tpos : Pos} {a b z TI TO i1 i2 : Addr} (D : ZipApart z TI TO i1 i2 a b) :
    Turn P w K (.Tuple elts kk tpos) (ItzTL K a b) [z, TI, TO, i1, i2] z (fun i h => IsZip h z TI TO .none ∧ IsTupOf2 h TI (.ref i1) (.ref i2) ∧ (∃ x y, IsTupOf2 h TO x y) ∧ h.IsTupleIter i1 a i ∧ h.IsListIter i2 b i) where
  mem := by simp
  obj := fun i h st c hc => by
    obtain ⟨hz, hTI, ⟨x, y, hTO⟩, ⟨o1, e1, _, d1⟩, ⟨o2, e2, _, d2⟩⟩ := st
    simp only [List.mem_cons, List.not_mem_nil, or_false] at hc
    rcases hc with rfl | rfl | rfl | rfl | rfl
    · exact ⟨_, hz, fun _ q => nomatch q⟩
    · exact ⟨_, hTI, fun _ q => nomatch q⟩
    · exact ⟨_, hTO, fun _ q => nomatch q⟩
    · exact ⟨o1, e1, fun _ q => by rw [d1] at q; cases q⟩
    · exact ⟨o2, e2, fun _ q => by rw [d2] at q; cases q⟩
  keep := fun i h h' st k => by
    obtain ⟨hz, hTI, ⟨x, y, hTO⟩, ⟨o1, e1, r1⟩, ⟨o2, e2, r2⟩⟩ := st
    exact ⟨k z (by simp) _ hz, k TI (by simp) _ hTI, ⟨x, y, k TO (by simp) _ hTO⟩, ⟨o1, k i1 (by simp) _ e1, r1⟩, ⟨o2, k i2 (by simp) _ e2, r2⟩⟩
  item := by
    intro X hP hw hK hc i pins s σ H E I hf st hg
    subst hP hw hK
    obtain ⟨hz, hTI, ⟨x0, y0, hTO⟩, j1, j2⟩ := st
    obtain ⟨xs, ys, x, y, qx, qy, hx, hy⟩ := hg
    obtain ⟨its, rv, p, _⟩ := I.tuple qx
    obtain ⟨its2, rv2, p2, _⟩ := I.list qy
    obtain ⟨u, hu, ru⟩ := rv.get hx
    obtain ⟨u2, hu2, ru2⟩ := rv2.get hy
    have lt1 : i < its.toArray.size := by simpa using (List.getElem?_eq_some_iff.mp hu).1
    have lt2 : i < its2.toArray.size := by simpa using (List.getElem?_eq_some_iff.mp hu2).1
    have zl : z < s.heap.objs.size := Heap.lt_size hz
    have D1 := Draws.tuple (prog := X.prog) (w := X.w) (show X.A.in1.handled = none from I.ok.hd hc) i1 a D.l1i1 its.toArray
    have D2 := Draws.list (prog := X.prog) (w := X.w) (show X.A.in1.handled = none from I.ok.hd hc) i2 b D.l2i2 its2.toArray
    refine wpAny_pyNext_zipD2_item (sep_of D) D1 D2 hz hTI hTO ⟨j1, p⟩ ⟨j2, p2.isList⟩ lt1 lt2 fun v1 v2 h' tk e1 e2 z' TO' st1 st2 hT hsz hk => ?_
    have g1 : v1 = u := by
      have h2 : its.toArray[i]? = some u := by simpa using hu
      rw [h2] at e1
      cases e1
      rfl
    have g2 : v2 = u2 := by
      have h2 : its2.toArray[i]? = some u2 := by simpa using hu2
      rw [h2] at e2
      cases e2
      rfl
    subst g1 g2
    refine ⟨_, rfl, wpAny_letOwnedTupleGo_zip (s := { s with heap := h', toks := tk }) z' fun h2 z2 sb => ?_⟩
    have hT2 : h2.get? s.heap.objs.size = some (twoO v1 v2) := (sb.2 _ (Nat.ne_of_gt zl)).trans hT
    have new : ObjOk X.prog X.w (upd H s.heap.objs.size (.tup [x, y])) h2 s.heap.objs.size (.tup [x, y]) :=
      ⟨by show 2 ≤ sizeLine; decide, [v1, v2], .cons ru (.cons ru2 .nil), ⟨_, hT2, rfl, _, rfl⟩⟩
    have I1 : Inv X pins σ (upd H s.heap.objs.size (.tup [x, y])) { s with heap := h2, toks := tk } :=
      I.turnedNew (ch := [z, TI, TO, i1, i2]) (fun c o hb q => (sb.2 c (fun e => hb (by simp [e]))).trans (hk c o (fun e => hb (by simp [e])) (fun e => hb (by simp [e])) (fun e => hb (by simp [e])) (fun e => hb (by simp [e])) q)) hf (Nat.le_refl _) new
    refine ⟨.ref s.heap.objs.size, _, I1, rfl, ⟨_, x, y, rfl, I.hok.fresh (Nat.le_refl _), rfl, fun l hl => by rw [I.tuple_inj hl qx]; exact hx, fun l hl => by rw [I.list_inj hl qy]; exact hy⟩, ⟨z2, ?_, ⟨v1, v2, ?_⟩, ?_, ?_⟩, fun c hcm => ?_⟩
    · exact (sb.2 _ D.TIz).trans (hk _ _ D.TIz D.TITO D.TIi1 D.TIi2 hTI)
    · exact (sb.2 _ D.TOz).trans TO'
    · obtain ⟨o3, h3, r3⟩ := st1.1
      exact ⟨o3, (sb.2 _ D.i1z).trans h3, r3⟩
    · obtain ⟨o3, h3, r3⟩ := st2.1
      exact ⟨o3, (sb.2 _ D.i2z).trans h3, r3⟩
    · have hlt : c < s.heap.objs.size := by
        obtain ⟨_, e1, _⟩ := j1
        obtain ⟨_, e2, _⟩ := j2
        simp only [List.mem_cons, List.not_mem_nil, or_false] at hcm
        rcases hcm with rfl | rfl | rfl | rfl | rfl
        · exact zl
        · exact Heap.lt_size hTI
        · exact Heap.lt_size hTO
        · exact Heap.lt_size e1
        · exact Heap.lt_size e2
      rw [upd_ne (Nat.ne_of_lt hlt)]
      exact (hf c hcm).1
  done := by
    intro X hP hw hK hc i pins s σ H E I hf st hg
    subst hP hw hK
    obtain ⟨hz, hTI, ⟨x0, y0, hTO⟩, j1, j2⟩ := st
    obtain ⟨xs, ys, qx, qy, le1, le2, hend⟩ := hg
    obtain ⟨its, rv, p, _⟩ := I.tuple qx
    obtain ⟨its2, rv2, p2, _⟩ := I.list qy
    have l1 : its.toArray.size = xs.length := by rw [List.size_toArray]; exact rv.length.symm
    have l2 : its2.toArray.size = ys.length := by rw [List.size_toArray]; exact rv2.length.symm
    have D1 := Draws.tuple (prog := X.prog) (w := X.w) (show X.A.in1.handled = none from I.ok.hd hc) i1 a D.l1i1 its.toArray
    have D2 := Draws.list (prog := X.prog) (w := X.w) (show X.A.in1.handled = none from I.ok.hd hc) i2 b D.l2i2 its2.toArray
    refine wpAny_pyNext_zipD2_end (sep_of D) D1 D2 hz hTI hTO ⟨j1, p⟩ ⟨j2, p2.isList⟩ (by omega) (by omega) (by omega) fun h' tk hk => ⟨rfl, I.turnedL (t' := tk) (ch := [z, TI, TO, i1, i2]) (fun c o hb q => hk c o (fun e => hb (by simp [e])) (fun e => hb (by simp [e])) (fun e => hb (by simp [e])) (fun e => hb (by simp [e])) q) hf⟩
  self := fun A i s Q E st h => wpAny_pyIter_zip st.1 h
def iZipTL (K : PySem.W.Frag) (ta : TA) : TI := fun σ H R => ta σ H fun vs H1 => ∃ a b xs ys, vs = [.ref a, .ref b] ∧ SqT K H1 a xs ∧ SqL K H1 b ys ∧ R (ItzTL K a b) H1
theorem pi_zipTL {X : Cx} {e e2 : Expr} {ta : TA} {p pos tpos : Pos} {elts : List Expr} {kk : Nat} (hg : Gl X "zip") (hm : X.mg "zip" = none) (ha : PA X [e, e2] ta) (hs : starEach [e, e2] X.env = (false, eval e X.env) :: starEach [e2] X.env := by rfl) (hpl : (backTo pos (starEach [e2] X.env)).any (·.1) = false := by rfl) :
    PI X (.Tuple elts kk tpos) (.Call (.Name "zip" p) [e, e2] [] pos) (iZipTL X.K ta) := by
  refine ⟨fun pins s σ H R I hw => ?_⟩
  refine Call_ (ld_blt I hg hm boot_zip (PyProof.Rows.callWith_type1 (thn (ha.run pos pins s σ H _ I hw) fun us s1 hh => ?_) hs hpl))
  obtain ⟨vs, H1, I1, r1, a, b, xs, ys, rfl, qx, qy, q⟩ := hh
  cases r1 with
  | cons ra rr =>
    cases rr with
    | cons rb rr =>
      cases rr
      cases ra
      cases rb
      obtain ⟨its, rv, p1, _⟩ := I1.tuple qx
      obtain ⟨its2, rv2, p2, _⟩ := I1.list qy
      obtain ⟨o2, ho2, _⟩ := id p1
      refine call_zipTL (show s1.heap.IsTuple a its.toArray from p1) p2.isList fun h' hz hTI hTO h1 h2 hk => wpAny_pyIter_zip hz ?_
      have I2 : Inv X pins σ H1 { s1 with heap := h' } := I1.kept (t' := s1.toks) hk
      refine ⟨s1.heap.objs.size + 4, [s1.heap.objs.size + 4, s1.heap.objs.size + 2, s1.heap.objs.size + 3, s1.heap.objs.size, s1.heap.objs.size + 1], _, _, H1, rfl, I2, turn_zipTL (PySem.W.ktu_apart s1.heap.objs.size a b (Heap.lt_size ho2) p2.lt), ⟨hz, hTI, ⟨_, _, hTO⟩, h1, h2⟩, fun c hcm => ?_, q⟩
      have hle : s1.heap.objs.size ≤ c := by
        simp only [List.mem_cons, List.not_mem_nil, or_false] at hcm
        rcases hcm with rfl | rfl | rfl | rfl | rfl <;> first | exact Nat.le_refl _ | exact Nat.le_add_right _ _
      exact I1.fpOk hle (I1.hok.fresh hle)
section
variable {K : PySem.W.Frag} {H H' Hd Hd' Hn H1 H2 Hm : Hp} {σ : L2.St} {ta tb te : TE} {tr : TA} {n i j j2 : Nat} {ds es : List PyData} {a b l : Addr} {xs ys : List V} {y v : V} {D : Ends} {tz : TS}
theorem walk_zipTL {n : Nat} (hn : n = min xs.length ys.length) : Walk (ItzTL K a b) n (fun H => SqT K H a xs ∧ SqL K H b ys) (YPair (fun i => xs[i]?) (fun i => ys[i]?)) := by
  subst hn
  refine ⟨fun i _ hi q => ?_, fun _ q => ⟨xs, ys, q.1, q.2, by omega, by omega, by omega⟩, fun i H v H' _ q y => ?_⟩
  · have h1 : i < xs.length := by omega
    have h2 : i < ys.length := by omega
    exact ⟨xs, ys, xs[i], ys[i], q.1, q.2, by simp [h1], by simp [h2]⟩
  · obtain ⟨T, x, z, h1, h2, h3, h4, h5⟩ := y
    exact ⟨T, x, z, h1, h2, h3, h4 xs q.1, h5 ys q.2⟩
theorem ei_zipTL (h : EvDA K tr σ Hd [.tuple ds, .list es]) (hl : ds.length = es.length) : EvI K (iZipTL K tr) (g2 K j j2) σ Hd ds.length (SPair K j j2 (fun i => ds[i]?) (fun i => es[i]?)) := fun H s R r =>
  h H s _ fun vs H2 Hn g hd => by
    cases hd with
    | cons h1 h2 =>
      cases h2 with
      | cons h2 h3 =>
        cases h3
        cases h1 with
        | @tup a xs ds hs hall =>
          cases h2 with
          | @lst b ys es hs2 hall2 =>
            refine ⟨a, b, xs, ys, rfl, ex_t g.sub hs, ex_l g.sub hs2, r _ H2 Hn _ _ g (walk_zipTL (xs := xs) (ys := ys) (by rw [dpa_len hall, dpa_len hall2]; omega)) (fun H' e => ⟨ex_t e hs, ex_l e hs2⟩) fun i x H' H'' σ' k hi e y q => ?_⟩
            exact pair_turn (fun v e => dpa_get2 hall e) (fun v e => dpa_get2 hall2 e) y q
end
end Cot

set_option Elab.async false
set_option linter.all false
set_option maxRecDepth 100000
set_option maxHeartbeats 4000000
/-! Data in a tuple; str(..), int(text); written dicts with texts as keys; comprehensions over a drawn range. -/
namespace Cot
open PySem PySem.Spec PyProof.Rows L2 Evl
/-! ### x in a tuple of data -/
def rInDT (K : PySem.W.Frag) : R2 := fun x y H Q => ∃ d ds, Dp K H x d ∧ Dp K H y (.tuple ds) ∧ SeqAt.shaped d = true ∧ SeqAt.shaped (.tuple ds) = true ∧ Q (.bl (ds.any fun z => PyData.eqv z d)) H
def rNotInDT (K : PySem.W.Frag) : R2 := fun x y H Q => ∃ d ds, Dp K H x d ∧ Dp K H y (.tuple ds) ∧ SeqAt.shaped d = true ∧ SeqAt.shaped (.tuple ds) = true ∧ Q (.bl (!ds.any fun z => PyData.eqv z d)) H
section
variable {X : Cx}
theorem op_inDT (hu : X.A.units + 65 < cLine) : OpR X (compareOp .In) (rInDT X.K) := by
  intro pins s σ H x y v u Q I rx ry h
  obtain ⟨d, ds, hd, he, sd, se, q⟩ := h
  obtain ⟨as, r1⟩ := Dp.reads I d x v hd rx
  obtain ⟨bs, r2⟩ := Dp.reads I (.tuple ds) y u he ry
  exact SeqAt.in_tuple_reads r2 r1 (SeqAt.canLay_of_shaped se) (SeqAt.canLay_of_shaped sd) (room_in_shaped sd hu) ⟨.bl _, H, I, rfl, q⟩
theorem op_notInDT (hu : X.A.units + 65 < cLine) : OpR X (compareOp .NotIn) (rNotInDT X.K) := by
  intro pins s σ H x y v u Q I rx ry h
  obtain ⟨d, ds, hd, he, sd, se, q⟩ := h
  obtain ⟨as, r1⟩ := Dp.reads I d x v hd rx
  obtain ⟨bs, r2⟩ := Dp.reads I (.tuple ds) y u he ry
  exact SeqAt.notIn_tuple_reads r2 r1 (SeqAt.canLay_of_shaped se) (SeqAt.canLay_of_shaped sd) (room_in_shaped sd hu) ⟨.bl _, H, I, rfl, q⟩
/-! ### str(..), int(text) -/
def rStr : List V → Hp → VK → Prop := fun xs H Q => (∃ i, xs = [.int i] ∧ i.natAbs.log2 < 1920 ∧ Q (.str (Str.ofString (toString i))) H) ∨ ∃ a, xs = [.str a] ∧ Q (.str a) H
theorem call_strQ : CallR X (.type "str") rStr := fun pins s σ H xs us Q I r h => by
  rcases h with ⟨i, e, hz, q⟩ | ⟨a, e, q⟩
  · exact call_str_int pins s σ H xs us Q I r ⟨i, e, hz, q⟩
  · exact SkE.call_str_str pins s σ H xs us Q I r ⟨a, e, q⟩
def rIntS : List V → Hp → VK → Prop := fun xs H Q => ∃ a n, xs = [.str a] ∧ PySem.intText? a = some n ∧ a.length ≤ 640 ∧ Q (.int n) H
theorem call_intS : CallR X (.type "int") rIntS := call_int_str
end
section
variable {K : PySem.W.Frag} {w : World} {b : Bid} {X : Cx} {H H' Hd Hd' Hn H1 H2 Hm : Hp} {σ : L2.St} {ta tb tc te tx tl to : TE} {d : PyData} {ds es : List PyData} {tr : TA} {i j j2 n : Nat} {p : Int → Prop}
theorem ev_inDT (ha : EvD K ta σ Hd d) (hb : EvD K tb σ Hd (.tuple ds)) (s1 : SeqAt.shaped d = true) (s2 : SeqAt.shaped (.tuple ds) = true) : Ev (tOp (rInDT K) ta tb) σ Hd (.bl (ds.any fun z => PyData.eqv z d)) := fun H s Q q =>
  ha H s _ fun v H2 Hn g h1 => hb.mono g.dx H2 g.sub _ fun v2 H3 Hm g2 h2 => ⟨d, ds, dp_mono (g2.dx.trans g2.sub) _ h1, dp_mono g2.sub _ h2, s1, s2, q H3 (g.ex.trans g2.ex)⟩
theorem ev_strI {k : Int} (h : Ev ta σ H (.int k)) (hk : k.natAbs.log2 < 1920) : Ev (tCB rStr (tCons ta tNil)) σ H (.str (Str.ofString (toString k))) := fun H1 e Q q => h H1 e _ fun H2 e2 => .inl ⟨k, rfl, hk, q H2 e2⟩
theorem ev_strS {a : Str} (h : Ev ta σ H (.str a)) : Ev (tCB rStr (tCons ta tNil)) σ H (.str a) := fun H1 e Q q => h H1 e _ fun H2 e2 => .inr ⟨a, rfl, q H2 e2⟩
theorem ev_intS {a : Str} {k : Int} (h : Ev ta σ H (.str a)) (hk : PySem.intText? a = some k) (hl : a.length ≤ 640) : Ev (tCB rIntS (tCons ta tNil)) σ H (.int k) := fun H1 e Q q => h H1 e _ fun H2 e2 => ⟨a, k, rfl, hk, hl, q H2 e2⟩
/-! ### a written dict with texts as keys -/
def lookS (z : Str) (kvs : List (Str × V)) : Option V := (kvs.find? fun e => decide (e.1 = z)).map (·.2)
/-- at a: a written dict of these keys and values -/
structure DicK (K : PySem.W.Frag) (w : World) (a : Addr) (kvs : List (Str × V)) : Prop where
  some : ∃ es n, KDict K w a es n ∧ ∀ z, ∃ r, PySem.W.nsIn K a z = Option.some r ∧ RelO (lookS z kvs) r
def rInDK (K : PySem.W.Frag) (w : World) (neg : Bool) : R2 := fun x y H Q => ∃ z a kvs, x = .str z ∧ y = .ref a ∧ DicK K w a kvs ∧ Q (.bl (if neg then !(lookS z kvs).isSome else (lookS z kvs).isSome)) H
theorem relO_isSome {o : Option V} {r : Option Value} (h : RelO o r) : r.isSome = o.isSome := by
  cases o <;> cases r <;> first | rfl | exact h.elim
theorem op_inDK {w : World} (eK : X.K = K) (ew : X.w = w) : OpR X (compareOp .In) (rInDK K w false) := by
  subst eK ew
  intro pins s σ H x y v u Q I rx ry h
  obtain ⟨z, a, kvs, rfl, rfl, ⟨es, n, D, hd⟩, q⟩ := h
  obtain ⟨r, hr, ho⟩ := hd z
  exact op_in_kd D pins s σ H _ _ v u Q I rx ry ⟨z, r, rfl, rfl, hr, by rw [relO_isSome ho]; exact q⟩
theorem op_notInDK {w : World} (eK : X.K = K) (ew : X.w = w) : OpR X (compareOp .NotIn) (rInDK K w true) := by
  subst eK ew
  intro pins s σ H x y v u Q I rx ry h
  obtain ⟨z, a, kvs, rfl, rfl, ⟨es, n, D, hd⟩, q⟩ := h
  obtain ⟨r, hr, ho⟩ := hd z
  exact op_notIn_kd D pins s σ H _ _ v u Q I rx ry ⟨z, r, rfl, rfl, hr, by rw [relO_isSome ho]; exact q⟩
theorem ix_dk {w : World} (eK : X.K = K) (ew : X.w = w) : IxR X (rIxD K w) := by
  subst eK ew
  exact ix_kdict
theorem ev_inDK {neg : Bool} {z : Str} {a : Addr} {kvs : List (Str × V)} (hz : Ev ta σ H (.str z)) (ha : Ev tb σ H (.ref a)) (D : DicK K w a kvs) : Ev (tOp (rInDK K w neg) ta tb) σ H (.bl (if neg then !(lookS z kvs).isSome else (lookS z kvs).isSome)) := ev_op hz ha fun H1 _ _ q => ⟨z, a, kvs, rfl, rfl, D, q H1 (Ex.refl H1)⟩
theorem ev_ixDK {z : Str} {a : Addr} {kvs : List (Str × V)} {v : V} (ha : Ev ta σ H (.ref a)) (hz : Ev tb σ H (.str z)) (D : DicK K w a kvs) (hv : lookS z kvs = some v) : Ev (tOp (rIxD K w) ta tb) σ H v := ev_op ha hz fun H1 _ _ q => by
  obtain ⟨es, n, Dk, hd⟩ := D
  obtain ⟨r, hr, ho⟩ := hd z
  rw [hv] at ho
  cases r with
  | none => exact ho.elim
  | some u => exact ⟨a, z, v, rfl, rfl, ⟨es, n, u, Dk.at_, Dk.lit, hr, ho⟩, q H1 (Ex.refl H1)⟩
abbrev EntRel : (Str × V) → DictEntry → Prop := fun kv e => (∃ t, e.key = .str kv.1 t) ∧ RelV kv.2 e.val
theorem dicK_of {a : Addr} {n : Nat} {es : List DictEntry} {kvs : List (Str × V)} (hl : K.lookup a = some ⟨.type "dict", none, .dict es.toArray n, #[]⟩) (hk : PySem.W.KeysLit w.params es) (low : (a == sysModules) = false) (hp : Paired EntRel kvs es) : DicK K w a kvs := by
  refine ⟨es.toArray, n, ⟨hl, hk, low⟩, fun z => ?_⟩
  unfold PySem.W.nsIn
  rw [hl]
  dsimp only
  have hf : RelO (lookS z kvs) ((es.find? fun e => e.key.isStr z).map (·.val)) ∧ es.any (·.refKey) = false := by
    clear hl hk low
    induction hp with
    | nil => exact ⟨trivial, rfl⟩
    | @cons kv e kvs es h hr ih =>
      obtain ⟨⟨t, ht⟩, rv⟩ := h
      have he : e.key.isStr z = decide (kv.1 = z) := by rw [ht]; rfl
      have hr2 : e.refKey = false := by unfold DictEntry.refKey; rw [ht]
      refine ⟨?_, by rw [List.any_cons, hr2]; exact ih.2⟩
      unfold lookS
      rw [List.find?_cons, List.find?_cons, he]
      cases decide (kv.1 = z) with
      | true => exact rv
      | false => exact ih.1
  obtain ⟨h1, h2⟩ := hf
  cases hx : es.find? fun e => e.key.isStr z with
  | some e =>
    rw [hx] at h1
    exact ⟨some e.val, rfl, h1⟩
  | none =>
    rw [hx] at h1
    refine ⟨none, ?_, h1⟩
    dsimp only
    rw [if_neg (by rw [h2]; decide)]
/-! ### a comprehension over a drawn range -/
theorem bn_lcR {te tt : _} {g : TG} {vs : List Nat} {Ps : Int → List PyData → Prop} (h : EvB K b ta σ Hd (isI p)) (k : ∀ (m : Int) (Hn : Hp), p m → Ex Hd Hn → EvBN K b (tLc (iRng1 (tCons (tC (.int m)) tNil)) g tt te vs) σ Hn (Ps m)) :
    EvBN K b (tLc (iRng1 (tCons ta tNil)) g tt te vs) σ Hd (fun ds => ∃ m, p m ∧ Ps m ds) := fun hb H s B Q q =>
  h hb H s B _ fun v H2 Hn d gr hd hp => by
    obtain ⟨m, rfl, pm⟩ := hp
    cases hd
    exact k m Hn pm gr.dx (gr.bn hb B) H2 gr.sub gr.bx Q fun pp xs H3 Hm ds g3 h1 h2 h3 h4 h5 => q pp xs H3 Hm ds (gr.trans g3 hb B) (gr.fresh h1) h2 h3 h4 ⟨m, pm, h5⟩
/-! ### a star in a display -/
theorem eda_star (h : EvD K te σ Hd (.list ds)) (hr : EvDA K tr σ Hd es) : EvDA K (StX.tStar K te tr) σ Hd (ds ++ es) := fun H s Q q =>
  h H s _ fun v H1 Hn g hd => by
    cases hd with
    | @lst a xs ds hs hall => exact ⟨a, xs, rfl, Or.inr (ex_l g.sub hs), hr.mono g.dx H1 g.sub _ fun ys H2 Hm g2 h2 => q (xs ++ ys) H2 Hm (g.trans g2) (dpa_app (dpa_mono g2.dx _ hall) h2)⟩
/-- a test of each sign of a text -/
theorem en_signs {z : Str} {f : Nat → Bool} {vs : List Nat} (h : Ev tl σ Hd (.str z)) (hl : z.length ≤ 40000)
    (ht : ∀ (σ2 : L2.St) (Hn : Hp) (k : Nat), Ex Hd Hn → σ2 = (wipe σ vs).set j (some (.str (sg k))) → wipe σ2 vs = wipe σ vs ∧ Ev te σ2 Hn (.bl (f k))) :
    EvN K (tLc (iStr tl) (gName j) tYes te vs) σ Hd ((z.cps.toList.map f).map .bool) := by
  have e1 : (z.cps.toList.map f).map PyData.bool = givenD z.length (fun _ => true) (fun i => .bool (f ((z.cps.toList[i]?).getD 0))) := by
    rw [givenD_all]
    apply List.ext_getElem
    · simp [Str.length]
    · intro i h1 h2
      simp at h1
      simp [h1]
  rw [e1]
  refine en_lc (ei_str (K := K) h) hl _ _ ?_
  rintro i σ2 Hn hi ex ⟨v, d, hd, hv, rfl⟩
  unfold sigs at hd
  rw [List.getElem?_map] at hd
  obtain ⟨k, hk, rfl⟩ := Option.map_eq_some_iff.mp hd
  cases hv
  obtain ⟨a1, a2⟩ := ht _ Hn k ex rfl
  exact ⟨a1, et_yes, fun _ => by rw [hk]; exact ed_bool a2⟩
theorem dpa_strs : ∀ (l : List Str), DpAll K Hd (l.map V.str) (l.map PyData.str)
  | [] => .nil
  | x :: l => .cons (.str x) (dpa_strs l)
theorem cutD_from (x : PyData) (ds : List PyData) : cutD (x :: ds) (some 1) none = ds := by
  unfold cutD
  rw [HT.sIx_none, show (1 : Int) = ((1 : Nat) : Int) from rfl, HT.sIx_nat]
  have : min 1 (x :: ds).length = 1 := by simp
  rw [this]
  simp
theorem joinL_nil : ∀ (ps : List (List Nat)), TL.joinL [] ps = ps.flatten
  | [] => rfl
  | [p] => by simp [TL.joinL]
  | p :: q :: ps => by
    have ih := joinL_nil (q :: ps)
    simp only [TL.joinL, List.nil_append, List.append_nil, List.flatten_cons] at ih ⊢
    rw [ih]
theorem join_signs (ns : List Nat) : Txt.join "" (ns.map sg) = (⟨ns.toArray⟩ : Str) := by
  refine TL.ext_tl ?_
  rw [TL.join_eq, TL.tl_join, show TL.tl ("" : Str) = [] by decide +kernel, joinL_nil, List.map_map]
  show ((ns.map (TL.tl ∘ sg)).flatten) = ns
  induction ns with
  | nil => rfl
  | cons n ns ih => rw [List.map_cons, List.flatten_cons, ih]; rfl
/-- a drawn tuple and another one -/
theorem eb_catT {Ps Ps' : List PyData → Prop} (ha : EvB K b ta σ Hd (fun d => ∃ ds, d = .tuple ds ∧ Ps ds)) (hb' : EvB K b tb σ Hd (fun d => ∃ ds, d = .tuple ds ∧ Ps' ds)) (hl : ∀ ds es, Ps ds → Ps' es → ds.length + es.length ≤ 100000) : EvB K b (tOp (rCatA K) ta tb) σ Hd (fun d => ∃ ds, d = .tuple ds ∧ ∃ d1 d2, ds = d1 ++ d2 ∧ Ps d1 ∧ Ps' d2) := fun hb H s B Q q =>
  ha hb H s B _ fun v H2 Hn d g hd hp => hb'.mono g.dx (g.bn hb B) H2 g.sub g.bx _ fun v2 H3 Hm d2 g3 hd3 hp3 => by
    obtain ⟨ds, rfl, p1⟩ := hp
    obtain ⟨es, rfl, p2⟩ := hp3
    have hd' := dp_mono g3.dx _ hd
    have G := g.trans g3 hb B
    cases hd' with
    | @tup a xs ds hs hall =>
      have h3 := hd3
      cases hd3 with
      | @tup a2 ys es hs2 hall2 =>
        refine ⟨a, a2, xs, ys, rfl, rfl, ex_t g3.sub hs, ex_t g3.sub hs2, sz_of (by rw [dpa_len hall, dpa_len hall2]; exact hl ds es p1 p2), fun e => ?_, fun e e2 => ?_, fun e e2 r hr => ?_⟩
        · subst e
          cases hall
          exact q _ H3 Hm _ G h3 ⟨_, rfl, [], es, rfl, p1, p2⟩
        · subst e2
          cases hall2
          exact q _ H3 Hm _ G (.tup hs hall) ⟨_, rfl, ds, [], (List.append_nil _).symm, p1, p2⟩
        · exact q (.ref r) _ _ _ (G.trans (GrB.of (Gr.new g3.sub hr) g3.bx) hb B) (.tup (st_of upd_same) (dpa_mono (Ex.new (fresh_back g3.sub hr)) _ (dpa_app hall hall2))) ⟨_, rfl, ds, es, rfl, p1, p2⟩
end
end Cot

set_option Elab.async false
set_option linter.all false
set_option maxRecDepth 100000
set_option maxHeartbeats 4000000
/-! d.update(e) of dicts of ints and texts; x in d; x in a written tuple of flat things. -/
namespace Cot
open PySem PySem.Spec PyProof.Rows L2 Evl
def rUpd : V → List V → Hp → VK → Prop := fun x xs H Q => ∃ a c kvs more, x = .ref a ∧ xs = [.ref c] ∧ a ≠ c ∧ H a = some (.dK kvs) ∧ H c = some (.dK more) ∧ kvs.length + more.length ≤ sizeLine ∧ Q .non (upd H a (.dK (mergeK kvs more)))
section
variable {X : Cx}
theorem mt_dupd : MtR X "dict.update" rUpd := by
  intro pins s σ H x xs v us Q I rx rs h
  obtain ⟨a, c, kvs, more, rfl, rfl, ne, ha, hc, hz, q⟩ := h
  cases rx
  obtain ⟨u, rfl, ru⟩ := vals1 rs
  cases ru
  obtain ⟨z1, hd1, vs1, r1, d1⟩ := dk_of I.hok ha
  obtain ⟨z2, hd2, vs2, r2, d2⟩ := dk_of I.hok hc
  refine call_meetsIn PySem.F.slot_dict_update d1.typeIs PySem.F.entry_dict_update (PySem.F.args_dict_update_2 _ _) (meets_dict_update (mixKind X.prog X.w) a c ne hd2) ⟨vs1, vs2, d1, d2, by rw [← r1.length, ← r2.length]; exact hz, fun h' dd' do' hs => ?_⟩
  have he : ∃ q, h'.get? a = some q := let ⟨q, _, _, hq, _⟩ := dd'; ⟨q, hq⟩
  have hl : (mergeK kvs more).length ≤ sizeLine := by have := length_mergeK more kvs; omega
  exact ⟨.non, _, d_write I (by rw [ha]; exact True.intro) hs he (dk_new hl hd1 (KV.merge r2 r1) dd'), rfl, q⟩
end
section
variable {K : PySem.W.Frag} {w : World} {b : Bid} {X : Cx} {H H' Hd Hd' Hn H1 H2 Hm : Hp} {σ : L2.St} {ta tb tc te tx tl to : TE} {d : PyData} {ds es : List PyData} {tr : TA} {i j j2 n : Nat} {p : Int → Prop} {D : Ends} {tz : TS}
/-- x = {..} -/
theorem go_asgK {kvs : List (Key × V)} (h : EvKN te σ H kvs) (k : ∀ p H', Ex H H' → H p = none → H' p = some (.dK kvs) → Go tz D (σ.set i (some (.ref p))) H') : Go (tSeq (tAsg te (gName i)) tz) D σ H := fun H1 e1 =>
  h H1 e1 _ fun p H2 e2 n2 hp => k p H2 (e1.trans e2) (fresh_back e1 n2) hp H2 (Ex.refl _)
/-- d.update({..}) -/
theorem go_dupd {a : Addr} {kvs more : List (Key × V)} (ha : Ev ta σ H (.ref a)) (hk : H a = some (.dK kvs)) (h : EvKN te σ H more) (hl : kvs.length + more.length ≤ 1000) (k : Go tz D σ (upd H a (.dK (mergeK kvs more)))) : Go (tSeq (tDrop (tBM K "dict" rUpd ta (tCons te tNil))) tz) D σ H := fun H1 e1 =>
  ha H1 e1 _ fun H2 e2 => ⟨Or.inr (Or.inr (Or.inl ⟨rfl, .inl ⟨kvs, (e1.trans e2) _ _ hk⟩⟩)), h H2 (e1.trans e2) _ fun p H3 e3 n3 hp => ⟨a, p, kvs, more, rfl, rfl, ne_of_none ((e1.trans e2) _ _ hk) n3, e3 _ _ ((e1.trans e2) _ _ hk), hp, by rw [sizeLine_eq]; omega, k _ (ex_upd2 ((e1.trans e2).trans e3))⟩⟩
theorem ev_dnotinK {kvs : List (Key × V)} {k : Key} (hk : Ev tx σ Hd (kV k)) (h : EvK te σ Hd kvs) : Ev (tDNotIn tx te) σ Hd (.bl (!(valV kvs k).isSome)) := fun H s Q q =>
  hk H s _ fun H1 e1 => h H1 (s.trans e1) _ fun p H2 e2 hp => ⟨p, _, rfl, DGet.k hp, q H2 (e1.trans e2)⟩
theorem ev_dinK {kvs : List (Key × V)} {k : Key} (hk : Ev tx σ Hd (kV k)) (h : EvK te σ Hd kvs) : Ev (tDIn tx te) σ Hd (.bl (valV kvs k).isSome) := fun H s Q q =>
  hk H s _ fun H1 e1 => h H1 (s.trans e1) _ fun p H2 e2 hp => ⟨p, _, rfl, DGet.k hp, q H2 (e1.trans e2)⟩
theorem ev_dget2K {kvs : List (Key × V)} {k : Key} {z : V} (h : EvK te σ Hd kvs) (hk : Ev tx σ Hd (kV k)) (hz : Ev ta σ Hd z) : Ev (tDGet2 te tx ta) σ Hd ((valV kvs k).getD z) := fun H s Q q =>
  h H s _ fun p H1 e1 h1 => ⟨p, rfl, .inl ⟨kvs, .inl h1⟩, hk H1 (s.trans e1) _ fun H2 e2 => hz H2 ((s.trans e1).trans e2) _ fun H3 e3 => ⟨_, DGet.k ((e2.trans e3) _ _ h1), q H3 ((e1.trans e2).trans e3)⟩⟩
/-- x in (..), of flat things -/
theorem ev_inFlat {neg : Bool} {v : V} {vs : List V} (h : Ev ta σ H v) (hr : EvA tr σ H vs) (hl : vs.length ≤ 1000) (f1 : flatV v = true) (f2 : vs.all flatV = true) : Ev (tOp (rIn K neg) ta (tTup tr)) σ H (.bl (if neg then !inV v vs else inV v vs)) := fun H1 e1 Q q =>
  h H1 e1 _ fun H2 e2 => hr H2 (e1.trans e2) _ fun H3 e3 => ⟨sz_of (by omega), fun p hp => ⟨p, _, rfl, .inr (.inl (.inl upd_same)), f1, f2, q _ ((e2.trans e3).trans (Ex.new hp))⟩⟩
end
end Cot

set_option Elab.async false
set_option linter.all false
set_option maxRecDepth 100000
set_option maxHeartbeats 4000000
/-! sorted(xs, key=lambda a: (a[i], a[j])) where xs holds tuples of ints. -/
namespace Cot
open PySem PySem.Spec PyProof.Rows L2 LamX PySem.W Evl
section
variable {prog : Program} {w : World} {A : Around} {E : Value → Shared → Prop} {s : Shared}
/-- a[k], a local that holds a tuple -/
theorem loc_item {env : Env} {a : Str} {t : Addr} {its : Array Value} {k : Nat} {x : Value} {j : Nat} {p1 p2 p3 : Pos} {m : Str → Option Value} {Q : Value → Shared → Prop} (hk : env.scope.kind = .function) (hl : env.kindOf a = some .local) (hn : s.heap.Ns env.locals m) (hm : m a = some (.ref t)) (ht : IsTup s.heap t its) (hsz : its.size ≤ 1000) (hx : its[k]? = some x) (hd : (a == ("__debug__" : Str)) = false) (h : Q x { s with toks := s.toks + 1 }) :
    wpAny (model prog w) A (eval (.Subscript (.Name a p1) (.Constant (.int (k : Int)) j p2) p3) env) Q E s := by
  have hlt : k < its.size := (Array.getElem?_eq_some_iff.mp hx).1
  refine Subscript_ (wpAny_Name (wpAny_loadName_local hk hl hn hm (wpAny_Constant_int ?_)) hd)
  have pl : IsTup ({ s with toks := s.toks + 1 } : Shared).heap t its := ht
  refine subscriptTail_builtinR (x := x) pl.typeIs slot_tuple_getitem.lookup (getItem_tuple (j := k) (Q := fun r s' => r = x ∧ Q r s') pl (by omega) (by omega) ?_ hx ⟨rfl, h⟩) rfl
  exact (by unfold seqIndex?; simp; omega)
/-- (a[k], a[k2]) -/
theorem loc_pair {env : Env} {a : Str} {t : Addr} {its : Array Value} {k k2 : Nat} {x y : Value} {j j2 j3 : Nat} {p1 p2 p3 p4 p5 p6 p7 : Pos} {m : Str → Option Value} {Q : Value → Shared → Prop} (hk : env.scope.kind = .function) (hl : env.kindOf a = some .local) (hn : s.heap.Ns env.locals m) (hm : m a = some (.ref t)) (ht : IsTup s.heap t its) (hsz : its.size ≤ 1000) (hx : its[k]? = some x) (hy : its[k2]? = some y) (hd : (a == ("__debug__" : Str)) = false)
    (h : Q (.ref s.heap.objs.size) { s with toks := s.toks + 1 + 1, heap := s.heap.push { cls := .type "tuple", data := .seq [x, y].toArray } }) :
    wpAny (model prog w) A (eval (.Tuple [.Subscript (.Name a p1) (.Constant (.int (k : Int)) j p2) p3, .Subscript (.Name a p4) (.Constant (.int (k2 : Int)) j2 p5) p6] j3 p7) env) Q E s := by
  refine wpAny_Tuple_spliced ?_
  show wpAny _ _ (spliced [(false, eval _ env), (false, eval _ env)]) _ _ s
  refine Calls.spliced_cons (loc_item hk hl hn hm ht hsz hx hd ?_)
  refine Calls.spliced_cons (loc_item (s := { s with toks := s.toks + 1 }) hk hl hn hm ht hsz hy hd ?_)
  exact Calls.spliced_nil ⟨by show 2 ≤ sizeLine; decide, h⟩
/-- a lambda's scope: one parameter, nothing else -/
structure LamP (a : Str) (scope : Scope) : Prop where
  kind : scope.kind = .function
  co : scope.isCoroutine = false
  gen : scope.isGenerator = false
  cell : ∀ x ∈ scope.names, x.2 ≠ .cell
  loc : scope.names.lookup a = some .local
def lamPB (a : Str) (scope : Scope) : Bool := decide (scope.kind = .function) && !scope.isCoroutine && !scope.isGenerator && scope.names.all (fun x => !decide (x.2 = .cell)) && decide (scope.names.lookup a = some .local)
theorem lamP_by {a : Str} {scope : Scope} (h : lamPB a scope = true) : LamP a scope := by
  unfold lamPB at h
  simp only [Bool.and_eq_true, Bool.not_eq_true', decide_eq_true_eq, List.all_eq_true, decide_eq_false_iff_not] at h
  obtain ⟨⟨⟨⟨h1, h2⟩, h3⟩, h4⟩, h5⟩ := h
  exact ⟨h1, h2, h3, h4, h5⟩
theorem lam_pair {f c' t : Addr} {q a : Str} {params : Arguments} {scope : Scope} {cl : List (Str × Addr)} {pm ctv : Value} {its : Array Value} {k k2 : Nat} {i i2 : Int} {u u2 : Tok} {j j2 j3 : Nat} {p1 p2 p3 p4 p5 p6 p7 : Pos}
    (of0 : s.heap.get? f = some (PySem.W.kla_obj "<lambda>" q params (.Tuple [.Subscript (.Name a p1) (.Constant (.int (k : Int)) j p2) p3, .Subscript (.Name a p4) (.Constant (.int (k2 : Int)) j2 p5) p6] j3 p7) scope cl pm c' ctv)) (L : LamP a scope) (hcd : s.heap.CodeRec (.ref c') q) (lim : s.heap.NoLimit) (hroom : A.depth < recursionLimit)
    (bnd : ∀ (v : Value) (body : Expr) (q : Str) (cl : List (Str × Addr)) (pm cv ctv : Value), bindArgs (PySem.W.kla_fn "<lambda>" q params body scope cl pm cv ctv) ⟨[v], []⟩ = pure [(a, v)])
    (ht : IsTup s.heap t its) (hsz : its.size ≤ 1000) (hx : its[k]? = some (.int i u)) (hy : its[k2]? = some (.int i2 u2)) (hd : (a == ("__debug__" : Str)) = false) :
    wpAny (model prog w) A (call (.ref f) [.ref t]) (PySem.W.KeyPure (.tuple [.int i, .int i2]) s) E s := by
  refine wpAny_call (PySem.W.kla_callFunE hroom of0 rfl L.co L.gen rfl hcd ?_)
  rw [bnd]
  apply wpAny_pure
  refine wpAny_newFunctionEnv L.cell (fun x hx => ?_) (fun hn ns sb => ⟨?_, PySem.W.kla_codeExpr ?_⟩) L.kind
  · rw [List.mem_singleton.mp hx]
    exact L.loc
  · exact lim.keeps fun b o e => sb.extBut b o (Nat.ne_of_lt (Heap.lt_size e)) (Heap.get?_push_of_some _ e)
  have keep : ∀ b o, s.heap.get? b = some o → hn.get? b = some o := fun b o e => sb.extBut b o (Nat.ne_of_lt (Heap.lt_size e)) (Heap.get?_push_of_some _ e)
  have htn : IsTup hn t its := by
    obtain ⟨ob, ho, hc⟩ := ht
    exact ⟨ob, keep _ _ ho, hc⟩
  refine loc_pair (m := fun x => [(a, Value.ref t)].reverse.lookup x) L.kind L.loc ns (by simp) htn hsz hx hy hd ?_
  exact ⟨_, _, rfl, fun b o e => Heap.get?_push_of_some _ (keep b o e), .tuple (Heap.get?_push_size _ rfl) rfl rfl (.cons (.int i u) (.cons (.int i2 u2) .nil))⟩
end
/-! ### as a rule -/
abbrev entE (e : List Int) : PyData := .tuple (e.map .int)
def keyLe (k k2 : Nat) (p q : List Int) : Bool := decide (p.getD k 0 < q.getD k 0 ∨ (p.getD k 0 = q.getD k 0 ∧ p.getD k2 0 ≤ q.getD k2 0))
def sortE (k k2 : Nat) (es : List (List Int)) : List (List Int) := es.mergeSort (keyLe k k2)
def tSortL (K : PySem.W.Frag) (Tt : List (Addr × Str)) (k k2 : Nat) (te : TE) : TE := fun σ H Q => te σ H fun x H1 => ∃ (Hd : Hp) (es : List (List Int)), Ex Hd H1 ∧ Dp K H1 x (.list (es.map entE)) ∧ (∃ a xs, x = .ref a ∧ SqL K H1 a xs ∧ DpAll K Hd xs (es.map entE)) ∧ (∀ e ∈ es, k < e.length ∧ k2 < e.length ∧ e.length ≤ 1000) ∧ Tabs Tt H1 ∧
  ∀ H2 p ys, ExtN H1 H2 → Tabs Tt H2 → H2 p = none → DpAll K Hd ys ((sortE k k2 es).map entE) → Q (.ref p) (upd H2 p (.lst ys))
theorem eachIs_of {α γ : Type} {R : α → γ → Prop} : ∀ {vs : List α} {bs : List γ}, vs.length = bs.length → (∀ (i : Nat) (v : α) (b : γ), vs[i]? = some v → bs[i]? = some b → R v b) → EachIs R vs bs
  | [], [], _, _ => .nil
  | v :: vs, b :: bs, hl, h => .cons (h 0 v b rfl rfl) (eachIs_of (by simpa using hl) fun i v b h1 h2 => h (i + 1) v b (by simpa using h1) (by simpa using h2))
  | [], _ :: _, hl, _ => by simp at hl
  | _ :: _, [], hl, _ => by simp at hl
section
variable {X : Cx} {K : PySem.W.Frag}
theorem each_back {Hd : Hp} : ∀ {out : List Value} {es : List (List Int)}, EachIs (fun v e => ∃ t, v = Value.ref t ∧ Dp K Hd (.ref t) (entE e)) out es → ∃ ys, Vals ys out ∧ DpAll K Hd ys (es.map entE)
  | [], [], .nil => ⟨[], .nil, .nil⟩
  | v :: vs, e :: es, .cons ⟨t, hv, hd⟩ h => by
    obtain ⟨ys, h1, h2⟩ := each_back h
    subst hv
    exact ⟨.ref t :: ys, .cons rfl h1, .cons hd h2⟩
theorem pe_sortLam {e : Expr} {te : TE} {c Pt : Addr} {Tt : List (Addr × Str)} {a : Str} {params : Arguments} {scope : Scope} {n k k2 j j2 j3 : Nat} {p lpos kpos pos p1 p2 p3 p4 p5 p6 p7 : Pos}
    (eK : X.K = K) (hc : X.calm = true) (hg : Gl X "sorted") (hm : X.mg "sorted" = none) (he : PE X e te) (TB : TabB X.base X.mg c Pt) (hcode : X.env.code = .ref c) (hmT : (Pt, X.env.qual ++ "<lambda>") ∈ Tt) (hu : ∀ q ∈ Tt, q.1 = Pt → q.2 = X.env.qual ++ "<lambda>") (hr : Room (n + 3) X.A)
    (L : LamP a scope) (hfree : ∀ y ∈ scope.names, y.2 = .free → ∃ c, X.env.cells.lookup y.1 = some c) (hdef : defaultsOf params X.env = ([], []))
    (bnd : ∀ (v : Value) (body : Expr) (q : Str) (cl : List (Str × Addr)) (pm cv ctv : Value), bindArgs (PySem.W.kla_fn "<lambda>" q params body scope cl pm cv ctv) ⟨[v], []⟩ = pure [(a, v)])
    (hd : (a == ("__debug__" : Str)) = false := by decide) (hs : backTo pos (starEach [e] X.env) = (false, eval e X.env) :: backTo pos (starEach [] X.env) := by rfl) :
    PE X (.Call (.Name "sorted" p) [e] [⟨some "key", .Lambda params (.Tuple [.Subscript (.Name a p1) (.Constant (.int (k : Int)) j p2) p3, .Subscript (.Name a p4) (.Constant (.int (k2 : Int)) j2 p5) p6] j3 p7) scope lpos, kpos⟩] pos) (tSortL K Tt k k2 te) := by
  subst eK
  refine ⟨fun pins s σ H Q I h => ?_⟩
  refine wpAny_Call_Name_kw (ld_blt I hg hm boot_sorted ?_ (by decide) (by decide))
  refine PyProof.Rows.callWith_kw (rest := []) ?_ hs (by rw [hs]; rfl) (by rfl) (by rfl)
  rw [hs]
  refine Calls.spliced_cons (thn (he.run pins s σ H _ I h) fun u s1 ⟨x, H1, I1, rx, hq⟩ => ?_)
  refine Calls.spliced_nil ?_
  obtain ⟨Hd, es, sx, hdx, ⟨l, xs, rfl, hsl, hall⟩, hes, hT, q⟩ := hq
  cases rx
  show wpAny _ _ (evalAll [do let v ← eval (.Lambda params _ scope lpos) X.env; standAt pos; pure v]) _ _ s1
  refine wpAny_evalAll_cons (wpAny_bind (lam_make2 I1 TB hcode hmT hu hT hdef hfree fun f c' pm ctv H2 s2 I2 eN T2 of0 nf ff hco => ?_))
  refine wpAny_bind (wpAny_standAt (wpAny_pure (wpAny_evalAll_nil ?_)))
  show wpAny _ _ (call (.builtin "sorted") [.ref l] [(Str.ofString "key", .ref f)]) _ _ s2
  have hsl2 : SqL X.K H2 l xs := by
    rcases hsl with (h | ⟨o, h⟩) | ⟨o, its, n, h1, h2, h3, h4⟩
    · exact .inl (.inl (eN _ _ h fun ps z => by cases z))
    · exact .inl (.inr ⟨o, eN _ _ h fun ps z => by cases z⟩)
    · exact .inr ⟨o, its, n, h1, h2, h3, h4⟩
  have hst : ∀ {t : Addr} {ys : List V}, SqT X.K Hd t ys → SqT X.K H2 t ys := fun {t ys} h => by
    rcases h with (h | ⟨o, h⟩) | ⟨o, its, n, h1, h2, h3, h4⟩
    · exact .inl (.inl (eN _ _ (sx _ _ h) fun ps z => by cases z))
    · exact .inl (.inr ⟨o, eN _ _ (sx _ _ h) fun ps z => by cases z⟩)
    · exact .inr ⟨o, its, n, h1, h2, h3, h4⟩
  obtain ⟨its, rv, hl, hz⟩ := I2.list hsl2
  have hlen : its.length = es.length := by
    have h1 := rv.length
    have h2 := dpa_len hall
    rw [List.length_map] at h2
    omega
  have each : EachIs (fun v e => ∃ t, v = Value.ref t ∧ Dp X.K Hd (.ref t) (entE e)) its es := eachIs_of hlen fun i v e hv he => by
    obtain ⟨v', hv', hd'⟩ := dpa_get hall (by rw [List.getElem?_map, he]; rfl : (es.map entE)[i]? = some (entE e))
    obtain ⟨u', hu', ru'⟩ := rv.get hv'
    rw [hv] at hu'
    cases hu'
    have h3 := hd'
    cases hd' with
    | @tup t ys ds hs2 hall2 =>
      cases ru'
      exact ⟨t, rfl, h3⟩
  obtain ⟨⟨oc, vs, tk0, hoc, hdc, hvc⟩, _, _⟩ := I2.hok c' _ hco
  refine sorted_key_data (b := false) (fun e : List Int => .tuple [.int (e.getD k 0), .int (e.getD k2 0)]) hl.isList each (AllAlike.of fun _ _ => by simp [alike, alikeAll]) (Sortable.tuples fun _ => ⟨_, _, rfl⟩) (by rw [← hlen]; have := rv.length; omega) (fun e _ => ?_) (ksk_s1 _ _) (fun _ => ksk_l1 _ _) (fun _ => ksk_t1 _ _)
    (fun v e ⟨t, hv, hdt⟩ hem h tk kp => ?_) fun out c h' tk kp fr hD hol eo => ?_
  · have hd : (PyData.tuple [.int (e.getD k 0), .int (e.getD k2 0)]).depth = 1 := by simp [PyData.depth, PyData.depthAll]
    have := hr.un
    omega
  · subst hv
    obtain ⟨hk1, hk2, hk3⟩ := hes e hem
    cases hdt with
    | @tup t ys ds hs2 hall2 =>
      have ey := dpa_ints_inv hall2
      subst ey
      obtain ⟨tits, rvt, htt, _⟩ := I2.tuple (hst hs2)
      have htl : tits.length = e.length := by rw [← rvt.length, List.length_map]
      obtain ⟨x1, hx1, rx1⟩ := rvt.get (i := k) (x := .int (e.getD k 0)) (by rw [List.getElem?_map, List.getElem?_eq_getElem hk1]; simp [List.getD, List.getElem?_eq_getElem hk1])
      obtain ⟨x2, hx2, rx2⟩ := rvt.get (i := k2) (x := .int (e.getD k2 0)) (by rw [List.getElem?_map, List.getElem?_eq_getElem hk2]; simp [List.getD, List.getElem?_eq_getElem hk2])
      obtain ⟨u1, rfl⟩ := rx1
      obtain ⟨u2, rfl⟩ := rx2
      have htn : IsTup h t tits.toArray := by
        obtain ⟨ob, ho, hcc⟩ := htt
        exact ⟨ob, kp _ _ ho, hcc⟩
      exact lam_pair (s := { s2 with heap := h, toks := tk }) (kp _ _ of0) L ⟨c', oc, vs, tk0, rfl, kp _ _ hoc, hdc, hvc⟩ (I2.nolimit.keeps kp) hr.in1.in1.depth bnd htn (by simp; omega) (by simpa using hx1) (by simpa using hx2) hd
  · rw [dataLe_ii (β := List Int) (fun e => e.getD k 0) (fun e => e.getD k2 0)] at eo
    obtain ⟨ys, hv, hdy⟩ := each_back eo
    have hn : H2 (s2.heap.objs.size + 1) = none := I2.hok.fresh (Nat.le_succ _)
    exact ⟨.ref (s2.heap.objs.size + 1), upd H2 (s2.heap.objs.size + 1) (.lst ys), I2.laid (t' := tk) kp (Nat.le_succ _) ⟨by rw [hv.length, hol, ← hlen]; have := rv.length; omega, out, c, hv, hD⟩, rfl, q H2 _ ys eN T2 hn hdy⟩
end
end Cot

set_option Elab.async false
set_option linter.all false
set_option maxRecDepth 100000
set_option maxHeartbeats 4000000
/-! Objects that change beside data that stays: what a step leaves, evaluations of any kind, their binding. -/
namespace Cot
open PySem PySem.Spec PyProof.Rows L2 Evl LamX RZ
/-- a value that is there already -/
def tVal (v : V) : TE := fun _ H Q => Q v H
/-- no table -/
def NoTb (o : HO) : Prop := ∀ ps, o ≠ .tbl ps
theorem noTb_ins {C dx : Addr} {fs : List (Str × V)} : NoTb (.ins C dx fs) := fun ps z => by cases z
theorem noTb_dK {kvs : List (Key × V)} : NoTb (.dK kvs) := fun ps z => by cases z
theorem noTb_lst {xs : List V} : NoTb (.lst xs) := fun ps z => by cases z
theorem noTb_tup {xs : List V} : NoTb (.tup xs) := fun ps z => by cases z
/-- a step: the places of M may change, tables grow; Hn tells the data -/
structure GrW (T : List (Addr × Str)) (M : List Addr) (Hd H Hn H2 : Hp) : Prop where
  ex : ∀ a o, H a = some o → a ∉ M → NoTb o → H2 a = some o
  dx : Ex Hd Hn
  sub : Ex Hn H2
  fr : ∀ a o, H a = some o → NoTb o → Hd a = none → Hn a = none
  nt : ∀ a ps, Hn a ≠ some (.tbl ps)
  tb : Tabs T H2
  al : ∀ a o, H a = some o → NoTb o → ∃ o', H2 a = some o' ∧ NoTb o'
/-- how things stand: the data Hd, the tables of T, the places of M that are no data -/
structure Wld (T : List (Addr × Str)) (M : List Addr) (Hd H : Hp) : Prop where
  sub : Ex Hd H
  nt : ∀ a ps, Hd a ≠ some (.tbl ps)
  tb : Tabs T H
  mn : ∀ a ∈ M, Hd a = none ∧ ∃ o, H a = some o ∧ NoTb o
section
variable {K : PySem.W.Frag} {T : List (Addr × Str)} {M M' : List Addr} {b : Bid} {σ : L2.St} {H H' Hd Hd' Hn H1 H2 Hm : Hp} {ta tb tc te tx : TE} {t u tt : TT} {x y z v v' : V} {d : PyData} {ds es : List PyData} {tr : TA} {D : Ends} {tu tw tz : TS} {i j : Nat}
theorem Wld.step (W : Wld T M Hd H) (g : GrW T M' Hd H Hn H2) : Wld T M Hn H2 := ⟨g.sub, g.nt, g.tb, fun a ha => by
  obtain ⟨h1, o, h2, h3⟩ := W.mn a ha
  exact ⟨g.fr a o h2 h3 h1, g.al a o h2 h3⟩⟩
theorem Wld.ext (W : Wld T M Hd H) (e : Ex H H2) : Wld T M Hd H2 := ⟨W.sub.trans e, W.nt, W.tb.ext e, fun a ha => by
  obtain ⟨h1, o, h2, h3⟩ := W.mn a ha
  exact ⟨h1, o, e _ _ h2, h3⟩⟩
theorem Wld.sup (W : Wld T M Hd H) (h : ∀ a ∈ M', a ∈ M) : Wld T M' Hd H := ⟨W.sub, W.nt, W.tb, fun a ha => W.mn a (h a ha)⟩
theorem Wld.nil (W : Wld T M Hd H) : Wld T [] Hd H := W.sup fun a ha => by cases ha
theorem Wld.add {p : Addr} {o : HO} (W : Wld T M Hd H) (h1 : Hd p = none) (h2 : H p = some o) (h3 : NoTb o) : Wld T (p :: M) Hd H := ⟨W.sub, W.nt, W.tb, fun a ha => by
  rcases List.mem_cons.mp ha with rfl | ha
  · exact ⟨h1, o, h2, h3⟩
  · exact W.mn a ha⟩
theorem GrW.refl (W : Wld T M' Hd H) : GrW T M Hd H Hd H := ⟨fun _ _ h _ _ => h, Ex.refl _, W.sub, fun _ _ _ _ h => h, W.nt, W.tb, fun a o h n => ⟨o, h, n⟩⟩
theorem GrW.pre (e : Ex H H1) (g : GrW T M Hd H1 Hn H2) : GrW T M Hd H Hn H2 := ⟨fun a o h => g.ex a o (e a o h), g.dx, g.sub, fun a o h => g.fr a o (e a o h), g.nt, g.tb, fun a o h => g.al a o (e a o h)⟩
theorem GrW.post (g : GrW T M Hd H Hn H1) (e : Ex H1 H2) : GrW T M Hd H Hn H2 := ⟨fun a o h n z => e _ _ (g.ex a o h n z), g.dx, g.sub.trans e, g.fr, g.nt, g.tb.ext e, fun a o h n => by
  obtain ⟨o', h', n'⟩ := g.al a o h n
  exact ⟨o', e _ _ h', n'⟩⟩
theorem GrW.trans (g1 : GrW T M Hd H Hn H1) (g2 : GrW T M Hn H1 Hm H2) : GrW T M Hd H Hm H2 := ⟨fun a o h n z => g2.ex a o (g1.ex a o h n z) n z, g1.dx.trans g2.dx, g2.sub, fun a o h n hd => by
    obtain ⟨o', h', n'⟩ := g1.al a o h n
    exact g2.fr a o' h' n' (g1.fr a o h n hd), g2.nt, g2.tb, fun a o h n => by
    obtain ⟨o', h', n'⟩ := g1.al a o h n
    exact g2.al a o' h' n'⟩
theorem GrW.sup (g : GrW T M Hd H Hn H2) (h : ∀ a ∈ M, a ∈ M') : GrW T M' Hd H Hn H2 := ⟨fun a o ha n => g.ex a o ha fun z => n (h a z), g.dx, g.sub, g.fr, g.nt, g.tb, g.al⟩
theorem GrW.ext (W : Wld T M' Hd H) (e : Ex H H2) : GrW T M Hd H Hd H2 := (GrW.refl W).post e
theorem noT_nt : ∀ a ps, noT H a ≠ some (.tbl ps) := fun a ps h => (noT_some h).2 ps rfl
theorem GrW.of (W : Wld T M' Hd H) (g : Gr Hd H Hn H2) : GrW T M Hd H (noT Hn) H2 := ⟨fun a o h _ _ => g.ex a o h, fun a o h => noT_of (g.dx a o h) fun ps z => W.nt a ps (by rw [h, z]), noT_ex.trans g.sub, fun a o h _ hd => noT_none (g.fr a o h hd), noT_nt, W.tb.ext g.ex, fun a o h n => ⟨o, g.ex a o h, n⟩⟩
theorem GrW.ofB (W : Wld T M' Hd H) (B : Bx H b) (g : GrB b Hd H Hn H2) : GrW T [b.b] Hd H (noT Hn) H2 := ⟨fun a o h n _ => g.exb a o (fun z => n (by rw [z]; exact List.mem_cons_self)) h, fun a o h => noT_of (g.dx a o h) fun ps z => W.nt a ps (by rw [h, z]), noT_ex.trans g.sub, fun a o h _ hd => noT_none (g.fr a o h hd), noT_nt, tabs_box W.tb B g, fun a o h n => by
  by_cases e : a = b.b
  · obtain ⟨cells, xs, h', _⟩ := g.bx
    exact ⟨_, by rw [e]; exact h', noTb_lst⟩
  · exact ⟨o, g.exb a o e h, n⟩⟩
/-- neither a table nor a code object stands there -/
def NTb (H : Hp) (a : Addr) : Prop := (∀ ps, H a ≠ some (.tbl ps)) ∧ ∀ q, H a ≠ some (CodeO a q)
theorem ntb_ins {a C dx : Addr} {fs : List (Str × V)} (h : H a = some (.ins C dx fs)) : NTb H a := ⟨fun ps z => (by rw [h] at z; cases z), fun q z => (by rw [h] at z; unfold CodeO at z; cases z)⟩
theorem ntb_dK {a : Addr} {kvs : List (Key × V)} (h : H a = some (.dK kvs)) : NTb H a := ⟨fun ps z => (by rw [h] at z; cases z), fun q z => (by rw [h] at z; unfold CodeO at z; cases z)⟩
theorem ntb_lst {a : Addr} {xs : List V} (h : H a = some (.lst xs)) : NTb H a := ⟨fun ps z => (by rw [h] at z; cases z), fun q z => (by rw [h] at z; unfold CodeO at z; cases z)⟩
/-- nothing of the data changes, the places of M stand on, no table is among them -/
theorem GrW.chg (W : Wld T M' Hd H) (hm : ∀ a ∈ M, a ∈ M') (k : ∀ a o, H a = some o → a ∉ M → H2 a = some o) (al : ∀ a ∈ M, ∃ o, H2 a = some o ∧ NoTb o) (nt : ∀ a ∈ M, NTb H a) : GrW T M Hd H Hd H2 := by
  refine ⟨fun a o h n _ => k a o h n, Ex.refl _, fun a o h => k a o (W.sub a o h) fun z => ?_, fun _ _ _ _ h => h, W.nt, fun p hp => ?_, fun a o h n => ?_⟩
  · have := (W.mn a (hm a z)).1
    rw [h] at this
    cases this
  · obtain ⟨ps, h1, h2, h3⟩ := W.tb p hp
    refine ⟨ps, k _ _ h1 fun z => (nt _ z).1 ps h1, h2, fun pos cv hc => ?_⟩
    obtain ⟨c, e, hcd⟩ := h3 pos cv hc
    exact ⟨c, e, k _ _ hcd fun z => (nt _ z).2 _ hcd⟩
  · by_cases z : a ∈ M
    · exact al a z
    · exact ⟨o, k a o h z, n⟩
/-- tables alone have grown -/
theorem GrW.tabs (W : Wld T M' Hd H) (e : ExtN H H2) (t : Tabs T H2) : GrW T M Hd H Hd H2 := ⟨fun a o h _ n => e a o h n, Ex.refl _, fun a o h => e a o (W.sub a o h) fun ps z => W.nt a ps (by rw [h, z]), fun _ _ _ _ h => h, W.nt, t, fun a o h n => ⟨o, e a o h n, n⟩⟩
/-- nothing but perhaps a table stood there -/
def NewAt (H : Hp) (p : Addr) : Prop := ∀ o, H p = some o → ¬ NoTb o
theorem newAt_none {p : Addr} (h : H p = none) : NewAt H p := fun o z => by rw [h] at z; cases z
theorem NewAt.ext {p : Addr} (n : NewAt H2 p) (e : Ex H H2) : NewAt H p := fun o z => n o (e _ _ z)
theorem NewAt.ne {a p : Addr} {o : HO} (n : NewAt H p) (h : H a = some o) (z : NoTb o) : a ≠ p := fun e => n o (by rw [← e]; exact h) z
theorem NewAt.back {p : Addr} (n : NewAt H2 p) (g : GrW T M Hd H Hn H2) : NewAt H p := fun o h z => by
  obtain ⟨o', h', z'⟩ := g.al p o h z
  exact n o' h' z'
theorem NewAt.data {p : Addr} (n : NewAt H p) (s : Ex Hd H) (nt : ∀ a ps, Hd a ≠ some (.tbl ps)) : Hd p = none := by
  cases q : Hd p with
  | none => rfl
  | some o => exact absurd (fun ps z => nt p ps (by rw [q, z])) (n o (s _ _ q))
/-- a new thing counted to the data -/
theorem GrW.keep {p : Addr} {o : HO} (g : GrW T M Hd H Hn H2) (h : NewAt H p) (hn : Hn p = none) (h2 : H2 p = some o) (no : NoTb o) : GrW T M Hd H (upd Hn p o) H2 := ⟨g.ex, g.dx.trans (Ex.new hn), fun a u ha => by
    by_cases e : a = p
    · subst e
      rw [upd_same] at ha
      rw [h2, ha]
    · rw [upd_ne e] at ha
      exact g.sub a u ha, fun a u ha n hd => by
    rw [upd_ne (h.ne ha n)]
    exact g.fr a u ha n hd, fun a ps z => by
    by_cases e : a = p
    · subst e
      rw [upd_same] at z
      cases z
      exact no _ rfl
    · rw [upd_ne e] at z
      exact g.nt a ps z, g.tb, g.al⟩
/-- what an evaluation leaves, in any world -/
def EvW (T : List (Addr × Str)) (M : List Addr) (te : TE) (σ : L2.St) (Hd H : Hp) (P : V → Hp → Hp → Prop) : Prop := ∀ H1, Ex H H1 → ∀ Q : VK, (∀ v H2 Hn, GrW T M Hd H1 Hn H2 → P v Hn H2 → Q v H2) → te σ H1 Q
variable {P P2 : V → Hp → Hp → Prop}
theorem EvW.imp (h : EvW T M te σ Hd H P) (k : ∀ v Hn H2, GrW T M Hd H Hn H2 → P v Hn H2 → P2 v Hn H2) : EvW T M te σ Hd H P2 := fun H1 e1 Q q => h H1 e1 Q fun v H2 Hn g p => q v H2 Hn g (k v Hn H2 (g.pre e1) p)
theorem ew_ev (W : Wld T M' Hd H) (h : Ev te σ H v) : EvW T M te σ Hd H (fun u Hn H2 => u = v ∧ Hn = Hd ∧ Ex H H2) := fun H1 e1 Q q => h H1 e1 Q fun H2 e2 => q v H2 Hd (GrW.ext (W.ext e1) e2) ⟨rfl, rfl, e1.trans e2⟩
theorem ew_ed (W : Wld T M' Hd H) (h : EvD K te σ Hd d) : EvW T M te σ Hd H (fun u Hn H2 => Dp K Hn u d ∧ Ex H H2) := fun H1 e1 Q q => h H1 (W.sub.trans e1) Q fun v H2 Hn g hd => q v H2 _ (GrW.of (W.ext e1) g) ⟨dp_noT _ hd, e1.trans g.ex⟩
theorem ew_en (W : Wld T M' Hd H) (h : EvN K te σ Hd ds) : EvW T M te σ Hd H (fun u Hn H2 => ∃ p xs, u = .ref p ∧ H p = none ∧ Hn p = none ∧ H2 p = some (.lst xs) ∧ DpAll K Hn xs ds ∧ Ex H H2) := fun H1 e1 Q q => h H1 (W.sub.trans e1) Q fun p xs H2 Hn g f1 f2 h2 hd => q _ H2 _ (GrW.of (W.ext e1) g) ⟨p, xs, rfl, fresh_back e1 f1, noT_none f2, h2, dpa_noT _ hd, e1.trans g.ex⟩
theorem ew_eb {p : PyData → Prop} (W : Wld T M' Hd H) (hb : b.b ∈ M') (B : Bx H b) (h : EvB K b te σ Hd p) : EvW T [b.b] te σ Hd H (fun u Hn H2 => Bx H2 b ∧ ∃ d, Dp K Hn u d ∧ p d) := fun H1 e1 Q q => h (W.mn _ hb).1 H1 (W.sub.trans e1) (B.mono e1) Q fun v H2 Hn d g hd hp => q v H2 _ (GrW.ofB (W.ext e1) (B.mono e1) g) ⟨g.bx, d, dp_noT _ hd, hp⟩
theorem EvW.sup (h : EvW T M te σ Hd H P) (k : ∀ a ∈ M, a ∈ M') : EvW T M' te σ Hd H P := fun H1 e1 Q q => h H1 e1 Q fun v H2 Hn g p => q v H2 Hn (g.sup k) p
/-- what a context evaluates first -/
theorem ew_bind {C : TE → TE} (h : EvW T M te σ Hd H P) (k : ∀ v H2 Hn, GrW T M Hd H Hn H2 → P v Hn H2 → EvW T M (C (tVal v)) σ Hn H2 P2) (hC : ∀ te σ H Q, C te σ H Q = te σ H fun v H1 => C (tVal v) σ H1 Q := by intros; rfl) : EvW T M (C te) σ Hd H P2 := fun H1 e1 Q q => by
  rw [hC]
  exact h H1 e1 _ fun v H2 Hn g p => k v H2 Hn (g.pre e1) p H2 (Ex.refl _) Q fun v2 H3 Hm g2 p2 => q v2 H3 Hm (g.trans g2) p2
theorem go_bind {C : TE → TS} (h : EvW T M te σ Hd H P) (k : ∀ v H2 Hn, GrW T M Hd H Hn H2 → P v Hn H2 → Go (C (tVal v)) D σ H2) (hC : ∀ te D σ H, C te D σ H = te σ H fun v H1 => C (tVal v) D σ H1 := by intros; rfl) : Go (C te) D σ H := fun H1 e1 => by
  rw [hC]
  exact h H1 e1 _ fun v H2 Hn g p => k v H2 Hn (g.pre e1) p H2 (Ex.refl _)
theorem ev_val : Ev (tVal v) σ H v := fun H1 _ _ q => q H1 (Ex.refl H1)
theorem ed_val (h : Dp K Hd v d) : EvD K (tVal v) σ Hd d := ed_ev ev_val h
/-! ### fields of instances -/
section
variable {X : Cx} {e : Expr} {f : Str} {pos : Pos} {p C dx : Addr} {fs : List (Str × V)}
theorem pb_fld (eK : X.K = K) (he : PE X e ta) (hb : attributeBase e f X.env (eval e X.env) = eval e X.env := by rfl) : PE X (.Attribute e f pos) (tFld K ta f) := by
  subst eK
  exact pe_fld he hb
theorem ev_fld (ha : Ev ta σ H (.ref p)) (hi : H p = some (.ins C dx fs)) (c : Cls K C) (n : NoAttr K C f) (l : fs.lookup f = some v) : Ev (tFld K ta f) σ H v := fun H1 e1 Q q =>
  ha H1 e1 _ fun H2 e2 => ⟨p, C, dx, fs, v, rfl, e2 _ _ (e1 _ _ hi), c, n, l, q H2 e2⟩
end
end
/-! ### targets of several names -/
def gNs : List Nat → TGs
  | [] => gNil
  | j :: js => gCons (gName j) (gNs js)
def setAll : L2.St → List Nat → List V → L2.St
  | σ, j :: js, v :: vs => setAll (σ.set j (some v)) js vs
  | σ, _, _ => σ
section
variable {K : PySem.W.Frag} {H H' Hd Hd' Hn H1 H2 Hm : Hp} {σ : L2.St} {tl : TE} {js : List Nat} {n : Nat}
theorem gNs_run : ∀ {js : List Nat} {vs : List V} {σ : L2.St} {H : Hp} {Q : L2.St → Hp → Prop}, vs.length = js.length → Q (setAll σ js vs) H → gNs js vs σ H Q
  | [], [], _, _, _, _, q => ⟨rfl, q⟩
  | j :: js, v :: vs, _, _, _, h, q => ⟨v, vs, rfl, gNs_run (by simpa using h) q⟩
def SInts (js : List Nat) (es : List (List Int)) (i : Nat) (σ' σ2 : L2.St) (_ : Hp) : Prop := ∃ e, es[i]? = some e ∧ σ2 = setAll σ' js (e.map V.int)
theorem ints_of {e : List Int} {v : V} (h : Dp K H v (entE e)) : ∃ t, v = .ref t ∧ SqT K H t (e.map V.int) := by
  cases h with
  | @tup t ys ds hs hall =>
    have e2 := dpa_ints_inv hall
    subst e2
    exact ⟨t, rfl, hs⟩
/-- a list of tuples of ints, walked -/
theorem ei_ints {es : List (List Int)} {gs : TGs} (h : EvD K tl σ Hd (.list (es.map entE))) (hn : ∀ e ∈ es, e.length = n) (hj : js.length = n) (hg : gNs js = gs) : EvI K (iList K tl) (gTup K n gs) σ Hd es.length (SInts js es) := fun H s R r =>
  h H s _ fun v H2 Hn g hd => by
    subst hg
    cases hd with
    | @lst a xs ds hs hall =>
      refine ⟨a, rfl, ⟨xs, ex_l g.sub hs⟩, r _ H2 Hn _ _ g (by rw [← es.length_map (f := entE), ← dpa_len hall]; exact walk_list) (fun H' e => ex_l e hs) fun i x H' H'' σ' k hi e y q => ?_⟩
      obtain ⟨rfl, hx⟩ := y
      obtain ⟨d, h1, h2⟩ := dpa_get2 hall hx
      rw [List.getElem?_map] at h1
      cases he : es[i]? with
      | none =>
        rw [he] at h1
        cases h1
      | some e1 =>
        rw [he] at h1
        cases h1
        obtain ⟨t, rfl, ht⟩ := ints_of h2
        have hl := hn e1 (List.mem_of_getElem? he)
        exact ⟨t, _, rfl, ex_t e ht, by rw [List.length_map, hl], gNs_run (by rw [List.length_map, hl, hj]) (q _ _ (Ex.refl _) ⟨e1, he, rfl⟩)⟩
/-- d.items() of a locked dict whose keys are ints and whose values are tuples of ints: n, (a, .. ) -/
theorem ei_items {td : TE} {dd : Addr} {o : Obj} {kvs : List (Key × V)} {es : List (Int × List Int)} {j : Nat} {gs : TGs} (h : Ev td σ Hd (.ref dd)) (hf : Hd dd = some (.frz o (.dK kvs))) (hl : kvs.length = es.length)
    (hk : ∀ (i : Nat) (k : Key) (v : V), kvs[i]? = some (k, v) → ∃ (n : Int) (e : List Int) (t : Addr), es[i]? = some (n, e) ∧ kV k = .int n ∧ v = .ref t ∧ SqT K Hd t (e.map V.int)) (hn : ∀ e ∈ es, e.2.length = n) (hj : js.length = n) (hg : gNs js = gs) :
    EvI K (iItems td) (gTup K 2 (gCons (gName j) (gCons (gTup K n gs) gNil))) σ Hd es.length (fun i σ' σ2 _ => ∃ e, es[i]? = some e ∧ σ2 = setAll σ' (j :: js) (.int e.1 :: e.2.map V.int)) := fun H s R r =>
  h H s _ fun H2 e2 => by
    subst hg
    refine ⟨dd, o, kvs, rfl, (s.trans e2) _ _ hf, r _ H2 Hd _ _ (Gr.ext s e2) (by rw [← hl]; exact walk_items) (fun H' e => e _ _ hf) fun i x H' H'' σ' k hi e y q => ?_⟩
    obtain ⟨T, a, c, rfl, hT, rfl, h1, h2⟩ := y
    have hil : i < kvs.length := by omega
    obtain ⟨n1, e1, t, h3, h4, h5, h6⟩ := hk i kvs[i].1 kvs[i].2 (by rw [List.getElem?_eq_getElem hil])
    dsimp only at h1 h2
    rw [List.getElem?_eq_getElem hil] at h1 h2
    rw [Option.map_some, h4] at h1
    rw [Option.map_some, h5] at h2
    cases h1
    cases h2
    have hl1 := hn _ (List.mem_of_getElem? h3)
    have eN : Ex H' (upd H' T (.tup [.int n1, .ref t])) := Ex.new hT
    exact ⟨T, [.int n1, .ref t], rfl, st_of upd_same, rfl, .int n1, [.ref t], rfl, .ref t, [], rfl, t, _, rfl, ex_t (e.trans eN) h6, by rw [List.length_map]; exact hl1, gNs_run (by rw [List.length_map, hj]; exact hl1) ⟨rfl, q _ _ eN ⟨(n1, e1), h3, rfl⟩⟩⟩
end
end Cot

set_option Elab.async false
set_option linter.all false
set_option maxRecDepth 100000
set_option maxHeartbeats 4000000
/-! Defs that hold lambdas: their code is told, and with it their table; calls that can't raise of defs that could. -/
namespace Cot
open PySem PySem.Spec PyProof.Rows L2 Evl LamX
/-- a def whose code object is told -/
structure FunC (K : PySem.W.Frag) (x ql : Str) (st : Stmt) (f : Addr) (fd : FuncData) (c : Addr) : Prop where
  ex : ∃ (oc kV doc pm ct : Value) (od an : Option Addr) (osl : Array (Option Value)), fd = PySem.W.fnOf x ql (defArgs st) (defBody st) (defScope st) .none kV doc pm an (.ref c) ct ∧ K.lookup f = some ⟨oc, od, .func fd, osl⟩ ∧ PySem.W.codeIn K (.ref c) ql = true
  kp : PySem.W.keepIn K (.ref f) = true
/-- the name of what a def's lambda is -/
def lamQ (ql : Str) : Str := (ql ++ ".<locals>.") ++ "<lambda>"
theorem okC {P : Program} {w : World} {K : PySem.W.Frag} {mg : Str → Option Value} {base : Heap} {CX : CXT} {x ql : Str} {st : Stmt} {f c : Addr} {fd : FuncData} {N ps : List Str} {k : Nat} {sp : Sp} (F : FunC K x ql st f fd c) (S : FnScope N ps (defScope st)) (ln : ∀ vs H Q E, sp vs H Q E → vs.length = ps.length)
    (hb : ∀ (A : Around) (st2 : List Env) (s : Shared) (H : Hp) (vs : List V) (Q : VK) (E : XK), Room k (A.deeper (envOfC ql (defScope st) s.heap.objs.size f (.ref c))) → sp vs H Q E →
      ∃ t, PSs (cxOf CX P w K mg base N ql (defScope st) f (.ref c) A st2 s H E) (defBody st) t ∧ t { nx := fun _ H1 => Q .non H1, rt := Q } (L2.start N vs) H) : FnOk P w K mg base CX (k + 1) f fd ps sp := by
  obtain ⟨_, _, _, _, _, _, _, _, rfl, lk, hcd⟩ := F.ex
  exact fn_of lk hcd S ln fun A st2 s H vs Q E hr h => hb A st2 s H vs Q E hr h
theorem passN {X : Cx} : Passes (L2N.CX X.prog X.w) X (fun _ _ _ => False) := fun _ _ _ _ _ _ _ c => by
  obtain ⟨_, _, _, _, _, _, _, _, _, _, _, _, z⟩ := c
  exact z.elim
/-- okN for a def with defaults -/
theorem okND {P : Program} {w : World} {K : PySem.W.Frag} {mg : Str → Option Value} {base : Heap} {x ql : Str} {st : Stmt} {dvs : List V} {kws : List (Str × V)} {f : Addr} {fd : FuncData} {N ps : List Str} {k : Nat} {sp : Sp} (F : FunD K x ql (defArgs st) (defBody st) (defScope st) dvs kws f fd) (S : FnScope N ps (defScope st)) (ln : ∀ vs H Q E, sp vs H Q E → vs.length = ps.length)
    (hb : ∀ (cdv : Value) (A : Around) (st2 : List Env) (s : Shared) (H : Hp) (vs : List V) (Q : VK) (E : XK), Room k (A.deeper (envOfC ql (defScope st) s.heap.objs.size f cdv)) → sp vs H Q E →
      ∃ t, PSs (cxOf (L2N.CX P w) P w K mg base N ql (defScope st) f cdv A st2 s H E) (defBody st) t ∧ t { nx := fun _ H1 => Q .non H1, rt := Q } (L2.start N vs) H) : FnOk P w K mg base (L2N.CX P w) (k + 1) f fd ps sp := by
  obtain ⟨_, _, _, _, _, _, _, cdv, _, _, rfl, lk, hcd, _⟩ := F.ex
  exact fn_of lk hcd S ln fun A st2 s H vs Q E hr h => hb cdv A st2 s H vs Q E hr h
/-- a law's promise, with the tables that it and its methods keep -/
def spLawT (K : PySem.W.Frag) (ps : List Addr) : Sp := fun vs H Q _ => ∃ (a : Addr) (ns : List Int), vs = [.ref a] ∧ SqL K H a (ns.map V.int) ∧ ns.length ≤ 63 ∧ (∀ p ∈ ps, H p = some (.tbl #[])) ∧ ∀ H', Q (.bl true) H'
theorem tabs_start {H : Hp} {T : List (Addr × Str)} (h : ∀ p ∈ T.map (·.1), H p = some (.tbl #[])) : Tabs T H := fun p hp => TabS.nil (h p.1 (List.mem_map.mpr ⟨p, hp, rfl⟩))
theorem tabs_uniq {T : List (Addr × Str)} (nd : (T.map (·.1)).Nodup) {P : Addr} {q : Str} (h : (P, q) ∈ T) : ∀ r ∈ T, r.1 = P → r.2 = q := by
  induction T with
  | nil => cases h
  | cons a T ih =>
    rw [List.map_cons, List.nodup_cons] at nd
    intro r hr e
    rcases List.mem_cons.mp h with e1 | h
    · rcases List.mem_cons.mp hr with e2 | hr
      · rw [e2, ← e1]
      · exact absurd (List.mem_map.mpr ⟨r, hr, by rw [e, ← e1]⟩) nd.1
    · rcases List.mem_cons.mp hr with e2 | hr
      · exact absurd (List.mem_map.mpr ⟨(P, q), h, by rw [← e2, e]⟩) nd.1
      · exact ih nd.2 h r hr e
end Cot
namespace Cot
open PySem L2
theorem noFree {names : List (Str × NameKind)} {cells : List (Str × Addr)} (h : names.all (fun x => !decide (x.2 = .free)) = true) : ∀ y ∈ names, y.2 = .free → ∃ c, cells.lookup y.1 = some c := fun y hy hf => by
  have h1 := List.all_eq_true.mp h y hy
  rw [hf] at h1
  simp at h1
end Cot

set_option Elab.async false
set_option linter.all false
set_option maxRecDepth 100000
set_option maxHeartbeats 4000000
/-! Special methods of own classes; dicts by ints: their length, their copies. -/
namespace Cot
open PySem PySem.Spec PyProof.Rows L2 Evl LamX PySem.Calls
section
variable {X : Cx} {CX : CXT} {k : Nat} {f C : Addr} {fd : FuncData} {ps : List Str} {sp : Sp} {E : XK}
/-- a def called in another surrounding -/
theorem run_fnA {A : Around} {pins : List (Addr × Obj)} {σ : L2.St} {H : Hp} {s : Shared} {Q : VK} {us : List Value} {vs : List V} (F : FnOk X.prog X.w X.K X.mg X.base CX k f fd ps sp) (hr : Room k A) (e0 : Env0 X.prog X.w X.K X.mg X.base A X.stack s H) (hb : Binds X.K fd ps []) (hx : Passes CX X E)
    (I : Inv X pins σ H s) (r : Vals vs us) (h : sp vs H Q E) : wpAny (model X.prog X.w) A (call (.ref f) us) (EP X pins σ Q) X.xe s := by
  have hl : us.length = ps.length := by rw [← r.length]; exact F.len _ _ _ _ h
  have b := hb s us I.kIn (by rw [List.append_nil]; exact hl)
  rw [List.append_nil] at b
  refine wpAny_call (codeAny_mono (F.run A X.stack s H ⟨us, []⟩ us vs Q E hr e0 b r h) fun r s' hq => ?_)
  cases r with
  | error e => exact hx pins σ H s e s' I hq
  | ok fl =>
    cases fl with
    | ret u => exact I.after hq
    | next => exact False.elim hq
    | brk => exact False.elim hq
    | cont => exact False.elim hq
/-- len(x), x an instance with its own __len__ -/
def rLenO (C : Addr) (sp : Sp) (E : XK) : List V → Hp → VK → Prop := fun vs H Q => ∃ a dx fs, vs = [.ref a] ∧ H a = some (.ins C dx fs) ∧ sp [.ref a] H (fun v H2 => ∃ n : Nat, v = .int (n : Int) ∧ n ≤ 1000000 ∧ Q (.int (n : Int)) H2) E
theorem call_lenO (m : Meth X.K C "__len__" f) (F : FnOk X.prog X.w X.K X.mg X.base CX k f fd ps sp) (hr : Room (k + 1) X.A) (hb : Binds X.K fd ps []) (hx : Passes CX X E) : CallR X (.builtin "len") (rLenO C sp E) := by
  intro pins s σ H xs us Q I r h
  obtain ⟨a, dx, fs, rfl, ha, q⟩ := h
  obtain ⟨u, rfl, ru⟩ := vals1 r
  obtain rfl : u = Value.ref a := ru
  obtain ⟨mA, O, _⟩ := ins_get I.hok ha
  obtain ⟨od, J, _⟩ := O.look
  refine call_function_entry kind_len plain_len entry_len (args_len1 _) ?_
  unfold Builtin.«len»
  refine wpAny_bind (m := oneArg "len" _) (wpAny_pure ?_)
  refine wpAny_bind (m := callSpecial? (.ref a) (Str.ofString "__len__")) (PySem.W.special_fn I.kIn J m.at_ (beq_iff_eq.mp m.fn) (wpAny_mono (run_fnA (us := [.ref a]) (vs := [.ref a]) F hr.in1 I.env0.in1 hb hx I (.cons rfl .nil) q) (fun r s' hr => ?_) fun _ _ y => y))
  obtain ⟨v, H', I', rv, n, rfl, hn, hq⟩ := hr
  obtain ⟨t, rfl⟩ := rv
  refine wpAny_bind (wpAny_holding (wpAny_pure ?_))
  refine wpAny_bind (wpAny_letGo ?_)
  show wpAny _ _ (if (n : Int) < 0 then _ else _) _ _ _
  rw [if_neg (by omega)]
  show wpAny _ _ (if (n : Int) ≥ 2 ^ 63 then _ else _) _ _ _
  rw [if_neg (by omega)]
  exact wpAny_bind (wpAny_mkInt (wpAny_pure ⟨_, rfl, .int (n : Int), H', I'.tok _, ⟨_, rfl⟩, hq⟩))
end
/-! ### dicts by ints and texts -/
def rLenK : List V → Hp → VK → Prop := fun xs H Q => ∃ a kvs, xs = [V.ref a] ∧ H a = some (.dK kvs) ∧ Q (.int kvs.length) H
theorem call_lenK {X : Cx} : CallR X (.builtin "len") rLenK := call_lenD
def rDictK : List V → Hp → VK → Prop := fun xs H Q => ∃ (a : Addr) (kvs : List (Key × V)), xs = [.ref a] ∧ Rd H a (.dK kvs) ∧ ∀ p, H p = none → Q (.ref p) (upd H p (.dK kvs))
theorem call_dictK {X : Cx} : CallR X (.type "dict") rDictK := call_dictD
section
variable {K : PySem.W.Frag} {σ : L2.St} {H : Hp} {ta tb te : TE} {a : Addr} {kvs : List (Key × V)} {k : Key} {v : V} {D : Ends} {tz : TS}
theorem ev_lenK (h : Ev ta σ H (.ref a)) (hd : H a = some (.dK kvs)) : Ev (tCB rLenK (tCons ta tNil)) σ H (.int (kvs.length : Int)) := fun H1 e Q q => h H1 e _ fun H2 e2 => ⟨a, kvs, rfl, e2 _ _ (e _ _ hd), q H2 e2⟩
/-- d[k] = v -/
theorem go_dput (ho : Ev ta σ H (.ref a)) (hk : Ev tb σ H (kV k)) (hv : Ev te σ H v) (hd : H a = some (.dK kvs)) (hl : kvs.length < 1000000) (q : Go tz D σ (upd H a (.dK (putK kvs k v)))) : Go (tSeq (sDPut ta tb te) tz) D σ H := fun H1 e1 =>
  hv H1 e1 _ fun H2 e2 => ho H2 (e1.trans e2) _ fun H3 e3 => hk H3 ((e1.trans e2).trans e3) _ fun H4 e4 => ⟨a, _, rfl, DPut.k ((((e1.trans e2).trans e3).trans e4) _ _ hd) (by rw [sizeLine_eq]; omega), q _ (ex_upd2 (((e1.trans e2).trans e3).trans e4))⟩
/-- del d[k] -/
theorem go_ddel (ho : Ev ta σ H (.ref a)) (hk : Ev tb σ H (kV k)) (hd : H a = some (.dK kvs)) (hi : (valV kvs k).isSome = true) (q : Go tz D σ (upd H a (.dK (dropK kvs k)))) : Go (tSeq (sDDel ta tb) tz) D σ H := fun H1 e1 =>
  ho H1 e1 _ fun H2 e2 => hk H2 (e1.trans e2) _ fun H3 e3 => ⟨a, kvs, k, rfl, ((e1.trans e2).trans e3) _ _ hd, rfl, hi, q _ (ex_upd2 ((e1.trans e2).trans e3))⟩
theorem ev_dnotin (hk : Ev ta σ H (kV k)) (ho : Ev tb σ H (.ref a)) (hd : H a = some (.dK kvs)) : Ev (tDNotIn ta tb) σ H (.bl (!(valV kvs k).isSome)) := fun H1 e1 Q q =>
  hk H1 e1 _ fun H2 e2 => ho H2 (e1.trans e2) _ fun H3 e3 => ⟨a, _, rfl, DGet.k (((e1.trans e2).trans e3) _ _ hd), q H3 (e2.trans e3)⟩
theorem ev_dgetI (ho : Ev ta σ H (.ref a)) (hk : Ev tb σ H (kV k)) (hd : H a = some (.dK kvs)) (hv : valV kvs k = some v) : Ev (tDGet ta tb) σ H v := fun H1 e1 Q q =>
  ho H1 e1 _ fun H2 e2 => hk H2 (e1.trans e2) _ fun H3 e3 => ⟨a, v, rfl, by rw [← hv]; exact DGet.k (((e1.trans e2).trans e3) _ _ hd), q H3 (e2.trans e3)⟩
/-- o.f = v -/
theorem go_fld {p C dx : Addr} {fs : List (Str × V)} {f : Str} (hv : Ev te σ H v) (ho : Ev ta σ H (.ref p)) (hi : H p = some (.ins C dx fs)) (c : Cls K C) (n : NoAttr K C f) (hl : fs.length < 1000) (q : Go tz D σ (upd H p (.ins C dx (putF f v fs)))) : Go (tSeq (sFld K ta te f) tz) D σ H := fun H1 e1 =>
  hv H1 e1 _ fun H2 e2 => ho H2 (e1.trans e2) _ fun H3 e3 => ⟨p, C, dx, fs, rfl, ((e1.trans e2).trans e3) _ _ hi, c, n, hl, q _ (ex_upd2 ((e1.trans e2).trans e3))⟩
/-- o.f = {} -/
theorem go_fldNew {p C dx : Addr} {fs : List (Str × V)} {f : Str} (ho : ∀ H, Ev ta σ H (.ref p)) (hi : H p = some (.ins C dx fs)) (c : Cls K C) (n : NoAttr K C f) (hl : fs.length < 1000) (q : ∀ d H', Ex H H' → H d = none → H' d = some (.dK []) → Go tz D σ (upd H' p (.ins C dx (putF f (.ref d) fs)))) : Go (tSeq (sFld K ta tDNewK f) tz) D σ H := fun H1 e1 d hd =>
  ho _ _ (Ex.refl _) _ fun H2 e2 => ⟨p, C, dx, fs, rfl, e2 _ _ ((Ex.new hd) _ _ (e1 _ _ hi)), c, n, hl, q d H2 (e1.trans ((Ex.new hd).trans e2)) (fresh_back e1 hd) (e2 _ _ upd_same) _ (Ex.refl _)⟩
/-- d[k] = (x, ..) -/
theorem go_dputT {dd : Addr} {tr : TA} {xs : List V} (ho : Ev ta σ H (.ref dd)) (hk : Ev tb σ H (kV k)) (hv : EvA tr σ H xs) (hd : H dd = some (.dK kvs)) (hl : kvs.length < 1000000) (hx : xs.length ≤ 1000) (q : ∀ t H', Ex H H' → H t = none → H' t = some (.tup xs) → Go tz D σ (upd H' dd (.dK (putK kvs k (.ref t))))) : Go (tSeq (sDPut ta tb (tTup tr)) tz) D σ H := fun H1 e1 =>
  hv H1 e1 _ fun H2 e2 => ⟨by rw [sizeLine_eq]; omega, fun t ht => by
    have f2 : Ex H2 (upd H2 t (.tup xs)) := Ex.new ht
    have e3 : Ex H (upd H2 t (.tup xs)) := (e1.trans e2).trans f2
    exact ho _ e3 _ fun H4 e4 => hk H4 (e3.trans e4) _ fun H5 e5 => ⟨dd, _, rfl, DPut.k (((e3.trans e4).trans e5) _ _ hd) (by rw [sizeLine_eq]; omega), q t H5 ((e3.trans e4).trans e5) (fresh_back (e1.trans e2) ht) ((e4.trans e5) _ _ upd_same) _ (Ex.refl _)⟩⟩
end
end Cot

set_option Elab.async false
set_option linter.all false
set_option maxRecDepth 100000
set_option maxHeartbeats 4000000
/-! A list made while a dict is locked; what is sorted by a lambda, as a step. -/
namespace Cot
open PySem PySem.Spec PyProof.Rows L2 Evl LamX
/-- neither a list nor a tuple -/
def NoSeq (o : HO) : Prop := (∀ xs, o ≠ .tup xs) ∧ (∀ xs, o ≠ .lst xs) ∧ (∀ q xs, o ≠ .frz q (.tup xs)) ∧ ∀ q xs, o ≠ .frz q (.lst xs)
theorem noSeq_ins {C dx : Addr} {fs : List (Str × V)} : NoSeq (.ins C dx fs) := ⟨fun xs z => (by cases z), fun xs z => (by cases z), fun q xs z => (by cases z), fun q xs z => (by cases z)⟩
theorem noSeq_dK {kvs : List (Key × V)} : NoSeq (.dK kvs) := ⟨fun xs z => (by cases z), fun xs z => (by cases z), fun q xs z => (by cases z), fun q xs z => (by cases z)⟩
theorem noSeq_fdK {o : Obj} {kvs : List (Key × V)} : NoSeq (.frz o (.dK kvs)) := ⟨fun xs z => (by cases z), fun xs z => (by cases z), fun q xs z => (by cases z), fun q xs z => (by cases z)⟩
section
variable {K : PySem.W.Frag} {H H' H1 H2 Hd Hdx Hn : Hp}
theorem seq_l {a : Addr} {xs : List V} (k : ∀ a o, H a = some o → ¬ NoSeq o → H' a = some o) (h : SqL K H a xs) : SqL K H' a xs := by
  rcases h with (h | ⟨o, h⟩) | h
  · exact .inl (.inl (k _ _ h fun n => n.2.1 _ rfl))
  · exact .inl (.inr ⟨o, k _ _ h fun n => n.2.2.2 _ _ rfl⟩)
  · exact .inr h
theorem seq_t {a : Addr} {xs : List V} (k : ∀ a o, H a = some o → ¬ NoSeq o → H' a = some o) (h : SqT K H a xs) : SqT K H' a xs := by
  rcases h with (h | ⟨o, h⟩) | h
  · exact .inl (.inl (k _ _ h fun n => n.1 _ rfl))
  · exact .inl (.inr ⟨o, k _ _ h fun n => n.2.2.1 _ _ rfl⟩)
  · exact .inr h
mutual
theorem dp_seq (k : ∀ a o, H a = some o → ¬ NoSeq o → H' a = some o) : ∀ (d : PyData) {v : V}, Dp K H v d → Dp K H' v d
  | .none, _, h => by cases h; exact .non
  | .bool b, _, h => by cases h; exact .bl b
  | .int i, _, h => by cases h; exact .int i
  | .str x, _, h => by cases h; exact .str x
  | .list ds, _, h => by
    cases h with
    | lst hs ha => exact .lst (seq_l k hs) (dpa_seq k ds ha)
  | .tuple ds, _, h => by
    cases h with
    | tup hs ha => exact .tup (seq_t k hs) (dpa_seq k ds ha)
  | .dict _, _, h => by cases h
theorem dpa_seq (k : ∀ a o, H a = some o → ¬ NoSeq o → H' a = some o) : ∀ (ds : List PyData) {vs : List V}, DpAll K H vs ds → DpAll K H' vs ds
  | [], _, h => by cases h; exact .nil
  | d :: ds, _, h => by
    cases h with
    | cons h1 h2 => exact .cons (dp_seq k d h1) (dpa_seq k ds h2)
end
open Classical in
/-- y = [.. for .. in d.items()], d locked meanwhile; Hdx: the data and what else is read -/
theorem go_lockN {σ : L2.St} {te : TE} {D : Ends} {tz : TS} {i : Nat} {d : Addr} {kvs : List (Key × V)} {ds : List PyData} (hd : H d = some (.dK kvs)) (s0 : Ex Hd Hdx) (s : Ex Hdx H) (hx : ∀ a o, Hdx a = some o → Hd a = some o ∨ NoSeq o) (h : ∀ od, EvN K te σ (upd Hdx d (.frz od (.dK kvs))) ds)
    (k : ∀ p xs H' Hn, Gr Hd H Hn H' → H p = none → Hn p = none → H' p = some (.lst xs) → DpAll K Hn xs ds → Go tz D (σ.set i (some (.ref p))) H') : Go (tSeq (tLock (tAsg te (gName i))) tz) D σ H := fun H1 e1 => by
  have hd1 := e1 _ _ hd
  refine ⟨d, .dK kvs, hd1, trivial, fun od => ?_⟩
  have sx : Ex Hdx H1 := s.trans e1
  refine h od (upd H1 d (.frz od (.dK kvs))) (ex_upd2 sx) _ fun p xs H2 Hn g hp hn h2 hda => ?_
  have hf : (upd H1 d (.frz od (.dK kvs))) d = some (.frz od (.dK kvs)) := upd_same
  have hnd : Hn d = some (.frz od (.dK kvs)) := g.dx _ _ upd_same
  have pd : p ≠ d := fun z => by rw [z, hf] at hp; cases hp
  have hp1 : H1 p = none := by rw [upd_ne pd] at hp; exact hp
  refine ⟨g.ex _ _ hf, ?_⟩
  let H3 : Hp := upd H2 d (.dK kvs)
  let N3 : Hp := fun a => if a = d ∨ Hdx a ≠ none then Hd a else Hn a
  have n3 : ∀ a, ¬ (a = d ∨ Hdx a ≠ none) → N3 a = Hn a := fun a z => if_neg z
  have y3 : ∀ a, (a = d ∨ Hdx a ≠ none) → N3 a = Hd a := fun a z => if_pos z
  have G3 : Gr Hd H1 N3 H3 := by
    refine ⟨fun a o ha => ?_, fun a o ha => ?_, fun a o ha => ?_, fun a o ha hda => ?_⟩
    · by_cases e : a = d
      · subst e
        show upd H2 a _ a = _
        rw [upd_same, ← hd1, ha]
      · show upd H2 d _ a = _
        rw [upd_ne e]
        exact g.ex _ _ (by rw [upd_ne e]; exact ha)
    · rw [y3 a (.inr (by rw [s0 _ _ ha]; simp))]
      exact ha
    · by_cases z : a = d ∨ Hdx a ≠ none
      · rw [y3 a z] at ha
        have h1 := sx _ _ (s0 _ _ ha)
        by_cases e : a = d
        · subst e
          show upd H2 a _ a = _
          rw [upd_same, ← hd1, h1]
        · show upd H2 d _ a = _
          rw [upd_ne e]
          exact g.ex _ _ (by rw [upd_ne e]; exact h1)
      · rw [n3 a z] at ha
        show upd H2 d _ a = _
        rw [upd_ne fun e => z (.inl e)]
        exact g.sub _ _ ha
    · by_cases z : a = d ∨ Hdx a ≠ none
      · rw [y3 a z]
        exact hda
      · rw [n3 a z]
        have e : a ≠ d := fun e => z (.inl e)
        refine g.fr a o (by rw [upd_ne e]; exact ha) ?_
        rw [upd_ne e]
        cases q : Hdx a with
        | none => rfl
        | some u => exact absurd (.inr (by rw [q]; simp)) z
  have hp3 : N3 p = none := by
    by_cases z : p = d ∨ Hdx p ≠ none
    · rw [y3 p z]
      exact fresh_back (s0.trans sx) hp1
    · rw [n3 p z]
      exact hn
  refine k p xs H3 N3 (G3.pre e1) (fresh_back e1 hp1) hp3 ?_ (dpa_seq (fun a o ha nq => ?_) _ hda) H3 (Ex.refl _)
  · show upd H2 d _ p = _
    rw [upd_ne pd]
    exact h2
  · by_cases e : a = d
    · subst e
      rw [hnd] at ha
      cases ha
      exact absurd noSeq_fdK nq
    · by_cases z : a = d ∨ Hdx a ≠ none
      · rw [y3 a z]
        rcases z with z | z
        · exact absurd z e
        · cases q : Hdx a with
          | none => exact absurd q z
          | some u =>
            have : Hn a = some u := g.dx _ _ (by rw [upd_ne e]; exact q)
            rw [ha] at this
            cases this
            rcases hx a o q with r | r
            · exact r
            · exact absurd r nq
      · rw [n3 a z]
        exact ha
/-- sorted(xs, key=lambda a: (a[i], a[j])), as a step -/
theorem go_retSort {T : List (Addr × Str)} {M : List Addr} {σ : L2.St} {te : TE} {D : Ends} {tz : TS} {a : Addr} {xs : List V} {es : List (List Int)} {i j : Nat} (W : Wld T M Hd H) (h : Ev te σ H (.ref a)) (ha : H a = some (.lst xs)) (hd : DpAll K Hd xs (es.map entE)) (hes : ∀ e ∈ es, i < e.length ∧ j < e.length ∧ e.length ≤ 1000)
    (k : ∀ p ys H2, GrW T [] Hd H Hd H2 → NewAt H p → Hd p = none → H2 p = some (.lst ys) → DpAll K Hd ys ((sortE i j es).map entE) → D.rt (.ref p) H2) : Go (tSeq (tRet (tSortL K T i j te)) tz) D σ H := fun H1 e1 =>
  h H1 e1 _ fun H2 e2 => by
    have e12 := e1.trans e2
    have W2 := W.ext e12
    refine ⟨Hd, es, W2.sub, .lst (sq_of (e12 _ _ ha)) (dpa_mono W2.sub _ hd), ⟨a, xs, rfl, sq_of (e12 _ _ ha), hd⟩, hes, W2.tb, fun H3 p ys eN tN hp hy => ?_⟩
    have g3 : GrW T [] Hd H2 Hd H3 := GrW.tabs W2 eN tN
    have hp2 : NewAt H2 p := (newAt_none hp).back g3
    exact k p ys _ ((g3.pre e12).post (Ex.new hp)) (hp2.ext e12) (fresh_back g3.sub hp) upd_same hy
/-- one row more -/
theorem LL.more {a p : Addr} {ps : List Addr} {rs : List (List Int)} {r : List Int} (L : LL H a ps rs) (hp : H p = some (.lst (r.map .int))) (na : p ≠ a) (nps : p ∉ ps) : LL (upd H a (.lst ((ps ++ [p]).map .ref))) a (ps ++ [p]) (rs ++ [r]) := by
  have hlen := L.len
  refine ⟨upd_same, by simp [hlen], ?_, fun hm => ?_, fun k q s h1 h2 => ?_⟩
  · rw [List.nodup_append]
    refine ⟨L.nd, by simp, fun x hx y hy e => ?_⟩
    rw [List.mem_singleton.mp hy] at e
    subst e
    exact nps hx
  · rcases List.mem_append.mp hm with hm | hm
    · exact L.out hm
    · exact na (List.mem_singleton.mp hm).symm
  · by_cases hk : k < ps.length
    · rw [List.getElem?_append_left hk] at h1
      rw [List.getElem?_append_left (by omega)] at h2
      have hm := List.mem_of_getElem? h1
      rw [upd_ne (show q ≠ a from fun e => L.out (by rw [← e]; exact hm))]
      exact L.row k q s h1 h2
    · have hk2 : k = ps.length := by
        have := (List.getElem?_eq_some_iff.mp h1).1
        rw [List.length_append, List.length_singleton] at this
        omega
      rw [List.getElem?_append_right (by omega), hk2, Nat.sub_self] at h1
      rw [List.getElem?_append_right (by omega), hk2, hlen, Nat.sub_self] at h2
      cases h1
      cases h2
      rw [upd_ne na]
      exact hp
/-- [[.. for ..] for ..], a list of new lists of ints -/
theorem ll_new {wi : TI} {g : TG} {te : TE} {vs : List Nat} {σ : L2.St} {n : Nat} {S : Nat → L2.St → L2.St → Hp → Prop} (h : EvI K wi g σ Hd n S) (hn : n ≤ 1000) (rw' : Nat → List Int)
    (ht : ∀ (i : Nat) (σ2 : L2.St) (Hn : Hp), i < n → Ex Hd Hn → S i (wipe σ vs) σ2 Hn → wipe σ2 vs = wipe σ vs ∧ EvN K te σ2 Hn ((rw' i).map .int)) : EvLL (tLc wi g tYes te vs) σ Hd ((List.range n).map rw') := fun H s Q q =>
  h H s _ fun J H1 Hn G Y gr w hG hY Dl hD => by
    refine lc_it w (fun i H' => i ≤ n ∧ ∃ ps, Ex H1 H' ∧ (∀ p ∈ ps, H1 p = none) ∧ LL H' Dl ps ((List.range i).map rw')) ⟨Nat.zero_le _, [], Ex.new hD, (fun _ h => by cases h), ⟨upd_same, rfl, List.nodup_nil, (fun h => by cases h), fun i p r h1 _ => by simp at h1⟩⟩ (fun i H' _ p => ?_) (fun i x H' H'' hi p y => ?_) (fun H' p => ?_)
    · obtain ⟨_, ps, e, _⟩ := p
      exact hG H' (gr.sub.trans e)
    · obtain ⟨_, ps, e, hf, L⟩ := p
      refine hY i x H' H'' _ _ hi (gr.sub.trans e) y fun σ2 H3 e3 hS => ?_
      obtain ⟨hw, hE⟩ := ht i σ2 Hn hi gr.dx hS
      refine ⟨hw, et_yes (H := Hn) H3 ((gr.sub.trans e).trans e3) _ fun H4 e4 => ?_⟩
      show te σ2 H4 _
      refine hE H4 (((gr.sub.trans e).trans e3).trans e4) _ fun p xs H5 Hm g5 hp4 _ h5 hx => ?_
      have ex := dpa_ints_inv hx
      subst ex
      have L4 := L.ext (e3.trans e4)
      have L5 : LL H5 Dl ps _ := L4.ext g5.ex
      have e14 : Ex H1 H4 := e.trans (e3.trans e4)
      have na : p ≠ Dl := (ne_of_none L4.top hp4).symm
      have nps : p ∉ ps := fun hm => by
        obtain ⟨k, hk, ek⟩ := List.getElem_of_mem hm
        have hl := L4.len
        have := L4.row k p (((List.range i).map rw')[k]'(by omega)) (List.getElem?_eq_some_iff.mpr ⟨hk, ek⟩) (List.getElem?_eq_getElem _)
        rw [hp4] at this
        cases this
      have lps : ps.length = i := by
        have := L5.len
        rw [List.length_map, List.length_range] at this
        exact this
      refine ⟨ps.map .ref, L5.top, sz_lt (by rw [List.length_map]; omega), hi, ps ++ [p], ?_, ?_, ?_⟩
      · exact Ex.mut (e14.trans g5.ex) hD
      · intro q hq
        rcases List.mem_append.mp hq with hq | hq
        · exact hf q hq
        · rw [List.mem_singleton.mp hq]
          exact fresh_back e14 hp4
      · have et : (List.range (i + 1)).map rw' = (List.range i).map rw' ++ [rw' i] := by rw [List.range_succ, List.map_append]; rfl
        rw [et]
        have := L5.more h5 na nps
        rw [List.map_append] at this
        exact this
    · obtain ⟨_, ps, e, hf, L⟩ := p
      exact q Dl ps H' (gr.ex.trans e) (fresh_back gr.ex hD) (fun p hp => fresh_back gr.ex (hf p hp)) L
/-- lists of the heap change that were not there -/
theorem GrW.put {Tt : List (Addr × Str)} {Hd H Hn H2 : Hp} {p : Addr} {xs ys : List V} (g : GrW Tt [] Hd H Hn H2) (hp : H2 p = some (.lst xs)) (n1 : NewAt H p) (n2 : Hn p = none) : GrW Tt [] Hd H Hn (upd H2 p (.lst ys)) := ⟨fun a o h n z => by
    rw [upd_ne (n1.ne h z)]
    exact g.ex a o h n z, g.dx, Ex.mut g.sub n2, g.fr, g.nt, tabs_but hp (fun a o z h => by rw [upd_ne z]; exact h) g.tb, fun a o h z => by
    rw [upd_ne (n1.ne h z)]
    exact g.al a o h z⟩
/-- more of what is new counted to the data -/
theorem GrW.more {Tt : List (Addr × Str)} {M : List Addr} {Hd H Hn H2 N : Hp} (g : GrW Tt M Hd H Hn H2) (y1 : Ex Hn N) (y2 : Ex N H2) (y3 : ∀ x o, H x = some o → NoTb o → Hn x = none → N x = none) (nt : ∀ a ps, N a ≠ some (.tbl ps)) : GrW Tt M Hd H N H2 := ⟨g.ex, g.dx.trans y1, y2, fun a o h z hd => y3 a o h z (g.fr a o h z hd), nt, g.tb, g.al⟩
theorem LL.step {Tt : List (Addr × Str)} {Hd H Hn H2 : Hp} {a : Addr} {ps : List Addr} {rs : List (List Int)} (L : LL H a ps rs) (g : GrW Tt [] Hd H Hn H2) : LL H2 a ps rs := ⟨g.ex _ _ L.top (by simp) noTb_lst, L.len, L.nd, L.out, fun i p r h1 h2 => g.ex _ _ (L.row i p r h1 h2) (by simp) noTb_lst⟩
theorem LL.at {H : Hp} {a : Addr} {ps : List Addr} {rs : List (List Int)} (L : LL H a ps rs) {p : Addr} (hp : p ∈ ps) : ∃ xs, H p = some (.lst xs) := by
  obtain ⟨i, hi, rfl⟩ := List.getElem_of_mem hp
  have := L.len
  exact ⟨_, L.row i _ (rs[i]'(by omega)) (List.getElem?_eq_getElem hi) (List.getElem?_eq_getElem _)⟩
end
section
variable {K : PySem.W.Frag} {T : List (Addr × Str)} {M M' : List Addr} {b : Bid} {σ : L2.St} {H H' Hd Hn H1 H2 : Hp} {ta tb te : TE} {t u : TT} {tr : TA} {D : Ends} {tu tw tz : TS} {i j : Nat} {v : V} {P : V → Hp → Hp → Prop}
theorem go_asgE (h : EvW T M te σ Hd H P) (k : ∀ v H2 Hn, GrW T M Hd H Hn H2 → P v Hn H2 → Go tz D (σ.set i (some v)) H2) : Go (tSeq (tAsg te (gName i)) tz) D σ H :=
  go_bind (C := fun te => tSeq (tAsg te (gName i)) tz) h fun v H2 Hn g p => go_asg ev_val (k v H2 Hn g p)
theorem go_dropE (h : EvW T M te σ Hd H P) (k : ∀ v H2 Hn, GrW T M Hd H Hn H2 → P v Hn H2 → Go tz D σ H2) : Go (tSeq (tDrop te) tz) D σ H :=
  go_bind (C := fun te => tSeq (tDrop te) tz) h fun v H2 Hn g p => go_drop ev_val (k v H2 Hn g p)
theorem go_retE' (h : EvW T M te σ Hd H P) (k : ∀ v H2 Hn, GrW T M Hd H Hn H2 → P v Hn H2 → ∀ H3, Ex H2 H3 → D.rt v H3) : Go (tSeq (tRet te) tz) D σ H :=
  go_bind (C := fun te => tSeq (tRet te) tz) h fun v H2 Hn g p => go_retV ev_val (k v H2 Hn g p)
/-- xs.append(e) -/
theorem go_appE {l : Addr} {xs : List V} (hl : H l = some (.lst xs)) (nl : l ∉ M) (ha : Ev ta σ H (.ref l)) (h : EvW T M te σ Hd H P) (hz : xs.length < 100000) (k : ∀ v H2 Hn, GrW T M Hd H Hn H2 → P v Hn H2 → Go tz D σ (upd H2 l (.lst (xs ++ [v])))) : Go (tSeq (tDrop (tBM K "list" rAppend ta (tCons te tNil))) tz) D σ H := fun H0 e0 =>
  ha H0 e0 _ fun H2 e2 => ⟨Or.inl ⟨rfl, xs, sq_of ((e0.trans e2) _ _ hl)⟩, h H2 (e0.trans e2) _ fun v H3 Hn g p => ⟨l, xs, v, rfl, rfl, g.ex _ _ ((e0.trans e2) _ _ hl) nl noTb_lst, sz_lt hz, k v H3 Hn (g.pre (e0.trans e2)) p _ (Ex.refl _)⟩⟩
theorem go_retAnd (h : Ev ta σ H (.bl true)) (k : Go (tSeq (tRet tb) tz) D σ H) : Go (tSeq (tRet (tAndV ta tb)) tz) D σ H := fun H1 e1 => h H1 e1 _ fun H2 e2 => ⟨true, rfl, k H2 (e1.trans e2)⟩
/-- an or of tests whose first one is a plain one -/
theorem go_whenOr {D : Ends} (h : EvT t σ H false) (k : Go (tSeq (tIfS u tu tw) tz) D σ H) : Go (tSeq (tIfS (tOr t u) tu tw) tz) D σ H := fun H1 e1 => h H1 e1 _ fun H2 e2 => by
  show (if false = true then _ else _)
  rw [if_neg (by decide)]
  exact k H2 (e1.trans e2)
end
end Cot
namespace Cot
open PySem PySem.Spec PyProof.Rows L2 Evl LamX
section
variable {K : PySem.W.Frag} {T : List (Addr × Str)} {M M' : List Addr} {σ : L2.St} {H H' Hd Hn H1 H2 H0 Hd0 : Hp} {ta te : TE} {t : TT} {D : Ends} {tu tz : TS}
/-- an if that comes together again -/
theorem go_whenM {b : Bool} (J : L2.St → Hp → Prop) (h : EvT t σ H b) (h1 : b = true → ∀ nx : L2.St → Hp → Prop, (∀ σ' H', J σ' H' → nx σ' H') → Go tu { D with nx := nx } σ H) (h2 : b = false → ∀ H', Ex H H' → J σ H') (k : ∀ σ' H', J σ' H' → Go tz D σ' H') : Go (tSeq (tIfS t tu tNext) tz) D σ H :=
  go_when h (fun e => h1 e (tz D) fun σ' H' j => k σ' H' j H' (Ex.refl _)) fun e H' e' => k σ H' (h2 e H' e') H' (Ex.refl _)
theorem Wld.extN (W : Wld T M Hd H) (e : ExtN H H1) (W1 : Wld T [] Hd H1) : Wld T M Hd H1 := ⟨W1.sub, W1.nt, W1.tb, fun a ha => by
  obtain ⟨h1, o, h2, h3⟩ := W.mn a ha
  exact ⟨h1, o, e a o h2 h3, h3⟩⟩
/-- xs.append(word) to a list that is new since the world W0 -/
theorem go_appN {l : Addr} {xs : List V} {wd : Str} (g : GrW T [] Hd0 H0 Hd H) (n1 : NewAt H0 l) (n2 : Hd l = none) (hl : H l = some (.lst xs)) (ha : Ev ta σ H (.ref l)) (h : EvW T [] te σ Hd H (fun v _ _ => v = .str wd)) (hz : xs.length < 100000)
    (k : ∀ H2 Hn, GrW T [] Hd0 H0 Hn H2 → Hn l = none → H2 l = some (.lst (xs ++ [.str wd])) → Go tz D σ H2) : Go (tSeq (tDrop (tBM K "list" rAppend ta (tCons te tNil))) tz) D σ H :=
  go_appE hl (by simp) ha h hz fun v H2 Hn g2 e => by
    subst e
    have hl2 := g2.ex _ _ hl (by simp) noTb_lst
    have n3 := g2.fr _ _ hl noTb_lst n2
    exact k _ Hn ((g.trans g2).put hl2 n1 n3) n3 upd_same
theorem bx_step {b : Bid} (B : Bx H b) (g : GrW T M Hd H Hn H2) (n1 : b.b ∉ M) (n2 : b.ca ∉ M) : Bx H2 b := by
  obtain ⟨c, x, h1, h2, h3, h4⟩ := B
  exact ⟨c, x, g.ex _ _ h1 n1 noTb_lst, h2, g.ex _ _ h3 n2 noTb_lst, h4⟩
end
end Cot

set_option Elab.async false
set_option linter.all false
set_option maxRecDepth 100000
set_option maxHeartbeats 4000000
/-! Own ==; isinstance of instances. -/
namespace Cot
open PySem PySem.Spec PyProof.Rows L2 Evl LamX PySem.Calls
/-- what isinstance asks of a class -/
structure InsO (K : PySem.W.Frag) (C : Addr) : Prop where
  ha : PySem.W.findIn K (.ref C) "__class__" = some (some (.builtin "object.__class__"))
  hn : PySem.W.specialIn K (.builtin "object.__class__") "__get__" = some (some (.builtin "getset_descriptor.__get__"))
  htk : PySem.W.takesIn K (.builtin "object.__class__") = some true
  hm : PySem.W.mroIn K C (.type "object") = some true
  me : PySem.W.kitOne K (.ref C) (.ref C) = some true
  ki : PySem.W.kitOne K (.type "int") (.ref C) = some false
  kl : PySem.W.kitOne K (.type "list") (.ref C) = some false
section
variable {X : Cx} {CX : CXT} {k : Nat} {f C : Addr} {fd : FuncData} {ps : List Str} {sp : Sp} {E : XK}
/-- x == y of instances whose class has its own == -/
def rEqO (C : Addr) (sp : Sp) (E : XK) : R2 := fun x y H Q => ∃ a dx fs b dy gs, x = .ref a ∧ y = .ref b ∧ H a = some (.ins C dx fs) ∧ H b = some (.ins C dy gs) ∧ sp [x, y] H Q E
theorem op_eqO (m : Meth X.K C "__eq__" f) (F : FnOk X.prog X.w X.K X.mg X.base CX k f fd ps sp) (hr : Room (k + 1) X.A) (hb : Binds X.K fd ps []) (hx : Passes CX X E) : OpR X (compareOp .Eq) (rEqO C sp E) := by
  intro pins s σ H x y v u Q I rx ry h
  obtain ⟨a, dx, fs, b, dy, gs, rfl, rfl, ha, hb', q⟩ := h
  cases (show v = Value.ref a from rx)
  cases (show u = Value.ref b from ry)
  obtain ⟨mA, J, _⟩ := ins_get I.hok ha
  obtain ⟨mB, J', _⟩ := ins_get I.hok hb'
  obtain ⟨od, J, _⟩ := J.look
  obtain ⟨od', J', _⟩ := J'.look
  obtain ⟨m', hF⟩ := I.fr
  refine PySem.W.cmp_K (op := .Eq) (tb := .ref C) hr.units0 hF I.ok.mod.kin J J'.type (by simp [PySem.W.notFirst]) m.at_ m.fn ?_
  refine wpAny_mono (run_fnA (us := [.ref a, .ref b]) (vs := [.ref a, .ref b]) F (hr.mono (by omega)) I.env0 hb hx I (.cons rfl (.cons rfl .nil)) q) (fun w s' z => ?_) fun _ _ x => x
  obtain ⟨z', H', I', rz, qz⟩ := z
  exact SlX.cmpback rz ⟨z', H', I', rz, qz⟩
end
section
variable {K : PySem.W.Frag} {σ : L2.St} {H H1 H2 Hd Hn H0 Hd0 : Hp} {T : List (Addr × Str)} {M M' : List Addr} {ta tb te : TE} {a C dx dd : Addr} {fs : List (Str × V)} {v : V} {P : V → Hp → Hp → Prop}
theorem ev_isiO (h : Ev ta σ H (.ref a)) (ha : H a = some (.ins C dx fs)) (c : Cls K C) (o : InsO K C) : Ev (tCB (rIsi K) (tCons ta (tCons (tC (.ref C)) tNil))) σ H (.bl true) := fun H1 e1 Q q =>
  h H1 e1 _ fun H2 e2 => ⟨.ref a, .ref C, .ref C, .ref C, true, rfl, .own C, .base (.ins ((e1.trans e2) _ _ ha) c o.ha o.hn o.htk o.hm), o.me, q H2 e2⟩
end
section
variable {K : PySem.W.Frag} {σ : L2.St} {H H1 H2 Hd Hn H0 Hd0 : Hp} {T : List (Addr × Str)} {M M' : List Addr} {ta tb te ti : TE} {tr : TA} {a l f p : Addr} {xs ys vs : List V} {v : V} {b : Bid} {D : Ends} {tz : TS} {i : Nat}
/-- f.append(l.pop(i)), i drawn -/
theorem go_popApp (hb : Hd b.b = none) (s : Ex Hd H) (B : Bx H b) (hl : H l = some (.lst xs)) (hf : H f = some (.lst ys)) (nl : Hd l = none) (lb : l ≠ b.b) (fb : f ≠ b.b) (lf : l ≠ f) (ha : Ev ta σ H (.ref f)) (hp : Ev tb σ H (.ref l)) (hi : EvB K b ti σ (upd Hd l (.lst xs)) (isI fun i => 0 ≤ i ∧ i < (xs.length : Int))) (hx : xs.length ≤ 100000) (hy : ys.length < 100000)
    (k : ∀ (j : Nat) (x : V) (H2 : Hp), xs[j]? = some x → (∀ a o, a ≠ b.b → H a = some o → H2 a = some o) → Ex Hd H2 → Bx H2 b → Go tz D σ (upd (upd H2 l (.lst (xs.eraseIdx j))) f (.lst (ys ++ [x])))) : Go (tSeq (tDrop (tBM K "list" rAppend ta (tCons (tBM K "list" rPopAt tb (tCons ti tNil)) tNil))) tz) D σ H := fun H1 e1 =>
  ha H1 e1 _ fun H2 e2 => ⟨Or.inl ⟨rfl, ys, sq_of ((e1.trans e2) _ _ hf)⟩, hp H2 (e1.trans e2) _ fun H3 e3 => ⟨Or.inl ⟨rfl, xs, sq_of (((e1.trans e2).trans e3) _ _ hl)⟩, by
    have e13 := (e1.trans e2).trans e3
    refine hi (by rw [upd_ne (Ne.symm lb)]; exact hb) H3 (ex_add (s.trans e13) (e13 _ _ hl)) (B.mono e13) _ fun v H4 Hn d g hd ⟨n, en, h0, h1⟩ => ?_
    subst en
    cases hd
    obtain ⟨j, rfl⟩ := Int.eq_ofNat_of_zero_le h0
    have hj : j < xs.length := by omega
    have kp : ∀ a o, a ≠ b.b → H a = some o → H4 a = some o := fun a o n h => g.exb a o n (e13 _ _ h)
    have s4 : Ex Hd H4 := fun a o h => g.sub a o (g.dx a o (Ex.new nl a o h))
    refine ⟨l, xs, (j : Int), j, xs[j], rfl, rfl, kp _ _ lb hl, by omega, by omega, by
      unfold seqIndex?
      simp
      omega, by simp [hj], ?_⟩
    refine ⟨f, ys, xs[j], rfl, rfl, by rw [upd_ne (Ne.symm lf)]; exact kp _ _ fb hf, sz_lt hy, ?_⟩
    exact k j xs[j] H4 (List.getElem?_eq_getElem hj) kp s4 g.bx _ (Ex.refl _)⟩⟩
/-- a list of things that need be no data -/
theorem go_asgLst (h : EvA tr σ H vs) (hl : vs.length ≤ 100000) (k : ∀ a H2, Ex H H2 → H2 a = none → Go tz D (σ.set i (some (.ref a))) (upd H2 a (.lst vs))) : Go (tSeq (tAsg (tLst tr) (gName i)) tz) D σ H := fun H1 e1 =>
  h H1 e1 _ fun H2 e2 => ⟨sz_of hl, fun a ha => k a H2 (e1.trans e2) ha _ (Ex.refl _)⟩
/-- a list beside the data changes -/
theorem Wld.put (W : Wld T M Hd H) (hp : H p = some (.lst xs)) (n : Hd p = none) : Wld T M Hd (upd H p (.lst ys)) := ⟨Ex.mut W.sub n, W.nt, tabs_but hp (fun a o z h => by rw [upd_ne z]; exact h) W.tb, fun a ha => by
  obtain ⟨h1, o, h2, h3⟩ := W.mn a ha
  by_cases e : a = p
  · exact ⟨h1, .lst ys, by rw [e]; exact upd_same, noTb_lst⟩
  · exact ⟨h1, o, by rw [upd_ne e]; exact h2, h3⟩⟩
theorem bx_put (B : Bx H b) (n1 : p ≠ b.b) (n2 : p ≠ b.ca) {o : HO} : Bx (upd H p o) b := by
  obtain ⟨c, x, h1, h2, h3, h4⟩ := B
  exact ⟨c, x, by rw [upd_ne (Ne.symm n1)]; exact h1, h2, by rw [upd_ne (Ne.symm n2)]; exact h3, h4⟩
/-- more of what stands counted to the data -/
theorem Wld.more {o : HO} (W : Wld T M Hd H) (h : H p = some o) (no : NoTb o) (n : Hd p = none) (hm : p ∉ M) : Wld T M (upd Hd p o) H := ⟨ex_add W.sub h, fun a ps z => by
  by_cases e : a = p
  · rw [e, upd_same] at z
    cases z
    exact no _ rfl
  · rw [upd_ne e] at z
    exact W.nt a ps z, W.tb, fun a ha => by
    obtain ⟨h1, o2, h2, h3⟩ := W.mn a ha
    exact ⟨by rw [upd_ne (fun e => hm (by rw [← e]; exact ha))]; exact h1, o2, h2, h3⟩⟩
/-- a list of tuples of ints that is data already, walked, whatever changes beside it -/
theorem go_forW {es : List (List Int)} {gs : TGs} {js : List Nat} {n : Nat} {tu : TS} (s : Ex Hd H) (hd : Dp K Hd v (.list (es.map entE))) (hn : ∀ e ∈ es, e.length = n) (hj : js.length = n) (hg : gNs js = gs) (Pv : Nat → L2.St → Hp → Prop) (h0 : ∀ H', Ex H H' → Pv 0 σ H') (hE : ∀ i σ' H', Pv i σ' H' → Ex Hd H')
    (hs : ∀ i e σ' H', es[i]? = some e → Pv i σ' H' → Go tu { D with nx := Pv (i + 1), ct := Pv (i + 1), bk := tz D } (setAll σ' js (e.map V.int)) H')
    (hz : ∀ σ' H', Pv es.length σ' H' → Go tz D σ' H') : Go (tSeq (tFor (iList K (tVal v)) (gTup K n gs) tu) tz) D σ H := fun H1 e1 => by
  subst hg
  cases hd with
  | @lst a xs ds hs' hall =>
    have hl : xs.length = es.length := by rw [dpa_len hall, List.length_map]
    refine ⟨a, rfl, ⟨xs, ex_l (s.trans e1) hs'⟩, for_it (by rw [← hl]; exact walk_list (xs := xs)) Pv (h0 H1 e1) (fun i σ' H' _ p => ex_l (hE i σ' H' p) hs') (fun i x σ' H' H'' hi p y => ?_) (fun σ' H' p => hz σ' H' p H' (Ex.refl _))⟩
    obtain ⟨rfl, hx⟩ := y
    obtain ⟨d, h1, h2⟩ := dpa_get2 hall hx
    rw [List.getElem?_map] at h1
    cases he : es[i]? with
    | none =>
      rw [he] at h1
      cases h1
    | some e1 =>
      rw [he] at h1
      cases h1
      obtain ⟨t, rfl, ht⟩ := ints_of h2
      have hl := hn e1 (List.mem_of_getElem? he)
      exact ⟨t, _, rfl, ex_t (hE i σ' _ p) ht, by rw [List.length_map, hl], gNs_run (by rw [List.length_map, hl, hj]) (hs i e1 σ' _ he p _ (Ex.refl _))⟩
/-- a dict with tuples of ints as keys is no code object -/
theorem code_ne_dic {P : Program} {w : World} {m : Dkv} {q : Str} : DicO P w a m ≠ CodeO a q := fun h => by
  have h1 := HO.ext.inj h
  let o : Obj := { cls := .none, data := .fields #[.none, .str q 0] }
  let hp : Heap := ⟨Array.replicate (a + 1) o, {}⟩
  have g : hp.get? a = some o := by
    unfold Heap.get?
    have e : hp.objs[a]? = some o := by simp [hp, Array.getElem?_replicate]
    rw [e]
  have c : ∃ (oc : Obj) (vs : Array Value) (t : Tok), hp.get? a = some oc ∧ oc.data = .fields vs ∧ vs[1]? = some (.str q t) := ⟨o, _, 0, g, rfl, rfl⟩
  have d : DicP P w hp a m := by
    have := congrFun h1 hp
    rw [this]
    exact c
  obtain ⟨_, _, xs, _, _, o2, es, ep, ho, _, hd, _⟩ := d
  rw [g] at ho
  cases ho
  cases hd
theorem noTb_dic {P : Program} {w : World} {m : Dkv} : NoTb (DicO P w a m) := fun ps z => by cases z
theorem ntb_dic {P : Program} {w : World} {m : Dkv} (h : H a = some (DicO P w a m)) : NTb H a := ⟨fun ps z => (by rw [h] at z; cases z), fun q z => by
  rw [h] at z
  exact code_ne_dic (Option.some.inj z)⟩
/-- a thing beside the data changes, no table and no code object -/
theorem Wld.putO {o o' : HO} (W : Wld T M Hd H) (hp : H p = some o) (nt : NTb H p) (n : Hd p = none) (no : NoTb o') : Wld T M Hd (upd H p o') := ⟨Ex.mut W.sub n, W.nt, fun x hx => by
  obtain ⟨ps, h1, h2, h3⟩ := W.tb x hx
  refine ⟨ps, by rw [upd_ne (fun z => nt.1 ps (by rw [← z]; exact h1))]; exact h1, h2, fun pos cv hc => ?_⟩
  obtain ⟨c, e, hcd⟩ := h3 pos cv hc
  exact ⟨c, e, by rw [upd_ne (fun z => nt.2 _ (by rw [← z]; exact hcd))]; exact hcd⟩, fun a ha => by
  obtain ⟨h1, o2, h2, h3⟩ := W.mn a ha
  by_cases e : a = p
  · exact ⟨h1, o', by rw [e]; exact upd_same, no⟩
  · exact ⟨h1, o2, by rw [upd_ne e]; exact h2, h3⟩⟩
theorem go_nnewW {P : Program} {w : World} (k : ∀ a H', Ex H H' → H a = none → H' a = some (DicO P w a []) → Go tz D (σ.set i (some (.ref a))) H') : Go (tSeq (tAsg (tNNew P w) (gName i)) tz) D σ H := fun H1 e1 a ha =>
  k a _ (e1.trans (Ex.new ha)) (fresh_back e1 ha) upd_same _ (Ex.refl _)
/-- data walked by one name, whatever changes beside it -/
theorem go_forWT {ds : List PyData} {tu : TS} {j : Nat} (s : Ex Hd H) (hd : Dp K Hd v (.tuple ds)) (Pv : Nat → L2.St → Hp → Prop) (h0 : ∀ H', Ex H H' → Pv 0 σ H') (hE : ∀ i σ' H', Pv i σ' H' → Ex Hd H')
    (hs : ∀ i d x σ' H', ds[i]? = some d → Dp K Hd x d → Pv i σ' H' → Go tu { D with nx := Pv (i + 1), ct := Pv (i + 1), bk := tz D } (σ'.set j (some x)) H')
    (hz : ∀ σ' H', Pv ds.length σ' H' → Go tz D σ' H') : Go (tSeq (tFor (iTup K (tVal v)) (gName j) tu) tz) D σ H := fun H1 e1 => by
  cases hd with
  | @tup a xs ds hs' hall =>
    have hl : xs.length = ds.length := dpa_len hall
    refine ⟨a, rfl, ⟨xs, ex_t (s.trans e1) hs'⟩, for_it (by rw [← hl]; exact walk_tup (xs := xs)) Pv (h0 H1 e1) (fun i σ' H' _ p => ex_t (hE i σ' H' p) hs') (fun i x σ' H' H'' hi p y => ?_) (fun σ' H' p => hz σ' H' p H' (Ex.refl _))⟩
    obtain ⟨rfl, hx⟩ := y
    obtain ⟨d, h1, h2⟩ := dpa_get2 hall hx
    exact hs i d x σ' _ h1 h2 p _ (Ex.refl _)
theorem go_forWL {ds : List PyData} {tu : TS} {j : Nat} (s : Ex Hd H) (hd : Dp K Hd v (.list ds)) (Pv : Nat → L2.St → Hp → Prop) (h0 : ∀ H', Ex H H' → Pv 0 σ H') (hE : ∀ i σ' H', Pv i σ' H' → Ex Hd H')
    (hs : ∀ i d x σ' H', ds[i]? = some d → Dp K Hd x d → Pv i σ' H' → Go tu { D with nx := Pv (i + 1), ct := Pv (i + 1), bk := tz D } (σ'.set j (some x)) H')
    (hz : ∀ σ' H', Pv ds.length σ' H' → Go tz D σ' H') : Go (tSeq (tFor (iList K (tVal v)) (gName j) tu) tz) D σ H := fun H1 e1 => by
  cases hd with
  | @lst a xs ds hs' hall =>
    have hl : xs.length = ds.length := dpa_len hall
    refine ⟨a, rfl, ⟨xs, ex_l (s.trans e1) hs'⟩, for_it (by rw [← hl]; exact walk_list (xs := xs)) Pv (h0 H1 e1) (fun i σ' H' _ p => ex_l (hE i σ' H' p) hs') (fun i x σ' H' H'' hi p y => ?_) (fun σ' H' p => hz σ' H' p H' (Ex.refl _))⟩
    obtain ⟨rfl, hx⟩ := y
    obtain ⟨d, h1, h2⟩ := dpa_get2 hall hx
    exact hs i d x σ' _ h1 h2 p _ (Ex.refl _)
end
end Cot

set_option Elab.async false
set_option linter.all false
set_option maxRecDepth 100000
set_option maxHeartbeats 4000000
/-! Dicts by ints that are data: known for good from where they were told; tuples of any values. -/
namespace Cot
open PySem PySem.Spec PyProof.Rows L2 Evl LamX PySem.Calls
def rLenF : List V → Hp → VK → Prop := fun xs H Q => ∃ a kvs, xs = [V.ref a] ∧ Rd H a (.dK kvs) ∧ Q (.int kvs.length) H
theorem call_lenF {X : Cx} : CallR X (.builtin "len") rLenF := by
  intro pins s σ H xs us Q I r h
  obtain ⟨a, kvs, rfl, ha, q⟩ := h
  obtain ⟨u, rfl, ru⟩ := vals1 r
  cases ru
  exact d_len I ha fun t s' I' => ⟨.int kvs.length, H, I', ⟨t, rfl⟩, q⟩
def rDictP (K : PySem.W.Frag) : List V → Hp → VK → Prop := fun xs H Q => ∃ (a : Addr) (ps : List Addr) (kvs : List (Key × V)), xs = [.ref a] ∧ SqL K H a (ps.map V.ref) ∧ Paired (fun p kv => SqT K H p [kV kv.1, kv.2]) ps kvs ∧ ∀ p, H p = none → Q (.ref p) (upd H p (.dK (mergeK [] kvs)))
theorem call_dictPQ {X : Cx} (hcalm : X.calm = true) : CallR X (.type "dict") (rDictP X.K) := call_dictP hcalm
/-- a new dict that is told is read from then on, never written -/
def tFrzE (t : TE) : TE := fun σ H Q => t σ H fun v H' => ∃ d kvs, H' d = some (.dK kvs) ∧ ∀ o, Q v (upd H' d (.frz o (.dK kvs)))
theorem pe_frz {X : Cx} {e : Expr} {t : TE} (h : PE X e t) : PE X e (tFrzE t) := by
  refine ⟨fun pins s σ H Q I hw => ?_⟩
  refine thn (h.run pins s σ H _ I hw) fun v s1 ⟨x, H1, I1, r1, d, kvs, hd, q⟩ => ?_
  obtain ⟨od, I2⟩ := I1.lock hd trivial
  exact ⟨x, _, I2, r1, q od⟩
/-- a new tuple of these values -/
def EvTN (te : TE) (σ : L2.St) (H : Hp) (xs : List V) : Prop := ∀ H1, Ex H H1 → ∀ Q : VK, (∀ p H2, Ex H1 H2 → H1 p = none → H2 p = some (.tup xs) → Q (.ref p) H2) → te σ H1 Q
section
variable {K : PySem.W.Frag} {σ : L2.St} {H H0 H1 H2 Hd Hm Hn : Hp} {ta tb te tx : TE} {tr : TA} {a d p t : Addr} {xs ys vs : List V} {x v : V} {D : Ends} {tz : TS} {i n : Nat} {js : List Nat} {gs : TGs} {kvs : List (Key × V)} {k : Key} {dd : PyData}
theorem sIx_to {m n d : Nat} (h : n < m) : HT.sIx m d (some (n : Int)) = n := by
  rw [HT.sIx_nat]
  omega
theorem sIx_from {m : Nat} : HT.sIx m 0 none = 0 := rfl
theorem etn_tup (h : EvA tr σ H xs) (hl : xs.length ≤ 100000) : EvTN (tTup tr) σ H xs := fun H1 e1 Q q =>
  h H1 e1 _ fun H2 e2 => ⟨sz_of hl, fun p hp => q p _ (e2.trans (Ex.new hp)) (fresh_back e2 hp) upd_same⟩
theorem etn_cat (ha : EvTN ta σ H xs) (hb : EvTN tb σ H ys) (nx : xs ≠ []) (ny : ys ≠ []) (hl : xs.length + ys.length ≤ 100000) : EvTN (tOp (rCatA K) ta tb) σ H (xs ++ ys) := fun H1 e1 Q q =>
  ha H1 e1 _ fun p H2 e2 n2 h2 => hb H2 (e1.trans e2) _ fun r H3 e3 n3 h3 => ⟨p, r, xs, ys, rfl, rfl, st_of (e3 _ _ h2), st_of h3, sz_of hl, fun z => absurd z nx, fun _ z => absurd z ny, fun _ _ s hs => q s _ ((e2.trans e3).trans (Ex.new hs)) (fresh_back (e2.trans e3) hs) upd_same⟩
/-- xs[:n], not all of them -/
theorem etn_to (ha : Ev ta σ H (.ref a)) (hx : SqT K H a xs) (hn : n < xs.length) : EvTN (tSl (rSlA K) ta tNoPart (tPart (tC (.int (n : Int))))) σ H (xs.take n) := fun H1 e1 Q q =>
  ha H1 e1 _ fun H2 e2 => by
    refine ⟨_, rfl, a, xs, rfl, ex_t (e1.trans e2) hx, fun z => ?_, fun _ p hp => ?_⟩
    · exfalso
      have := z.2
      rw [sIx_to hn] at this
      omega
    · have : cutV xs none (some (n : Int)) = xs.take n := by
        unfold cutV
        rw [sIx_to hn, sIx_from, List.drop_zero, Nat.sub_zero]
      rw [this]
      exact q p _ (e2.trans (Ex.new hp)) (fresh_back e2 hp) upd_same
theorem go_retFrz (G : Gr Hd H0 Hm H) (hd : H d = some (.dK kvs)) (n0 : H0 d = none) (nd : Hm d = none) (h : EvTN te σ H xs) (k : ∀ p o H2 Hn, Gr Hd H0 Hn H2 → Ex Hm Hn → Hn p = some (.tup xs) → Hn d = some (.frz o (.dK kvs)) → D.rt (.ref p) H2) : Go (tSeq (tRet (tFrzE te)) tz) D σ H := fun H1 e1 =>
  h H1 e1 _ fun p H2 e2 n2 h2 => by
    have e12 := e1.trans e2
    have hd2 := e12 _ _ hd
    have pd : p ≠ d := fun z => by rw [z, e1 _ _ hd] at n2; cases n2
    have p0 : H0 p = none := fresh_back (G.ex.trans e1) n2
    have pm : Hm p = none := fresh_back (G.sub.trans e1) n2
    refine ⟨d, kvs, hd2, fun o => ?_⟩
    refine k p o _ (upd (upd Hm d (.frz o (.dK kvs))) p (.tup xs)) ⟨fun b u hb => ?_, fun b u hb => ?_, fun b u hb => ?_, fun b u hb hn => ?_⟩ (fun b u hb => ?_) upd_same (by rw [upd_ne pd.symm, upd_same])
    · have nb : b ≠ d := fun z => by rw [z, n0] at hb; cases hb
      rw [upd_ne nb]
      exact e12 _ _ (G.ex _ _ hb)
    · have hb2 := G.dx _ _ hb
      rw [upd_ne (fun z => by rw [z, pm] at hb2; cases hb2), upd_ne (fun z => by rw [z, nd] at hb2; cases hb2)]
      exact hb2
    · by_cases ep : b = p
      · rw [ep, upd_same] at hb
        rw [ep, upd_ne pd, h2, hb]
      · rw [upd_ne ep] at hb
        by_cases ed : b = d
        · rw [ed, upd_same] at hb
          rw [ed, upd_same, hb]
        · rw [upd_ne ed] at hb
          rw [upd_ne ed]
          exact e12 _ _ (G.sub _ _ hb)
    · rw [upd_ne (fun z => by rw [z, p0] at hb; cases hb), upd_ne (fun z => by rw [z, n0] at hb; cases hb)]
      exact G.fr _ _ hb hn
    · rw [upd_ne (fun z => by rw [z, pm] at hb; cases hb), upd_ne (fun z => by rw [z, nd] at hb; cases hb)]
      exact hb
/-- a, b, .. = t -/
theorem go_unpV (h : Ev te σ H (.ref t)) (hs : SqT K H t vs) (hl : vs.length = n) (hj : js.length = n) (hg : gNs js = gs) (k : Go tz D (setAll σ js vs) H) : Go (tSeq (tAsg te (gTup K n gs)) tz) D σ H := fun H1 e1 => by
  subst hg
  exact h H1 e1 _ fun H2 e2 => ⟨t, vs, rfl, ex_t (e1.trans e2) hs, hl, gNs_run (by rw [hl, hj]) (k H2 (e1.trans e2))⟩
/-- x = dict(d) -/
theorem go_asgCopy (h : Ev ta σ H (.ref a)) (hd : Rd H a (.dK kvs)) (k : ∀ p H', Ex H H' → H' p = none → Go tz D (σ.set i (some (.ref p))) (upd H' p (.dK kvs))) : Go (tSeq (tAsg (tCB rDictK (tCons ta tNil)) (gName i)) tz) D σ H := fun H1 e1 =>
  h H1 e1 _ fun H2 e2 => ⟨a, kvs, rfl, by
    rcases hd with hd | ⟨o, hd⟩
    · exact .inl ((e1.trans e2) _ _ hd)
    · exact .inr ⟨o, (e1.trans e2) _ _ hd⟩, fun p hp => k p H2 (e1.trans e2) hp _ (Ex.refl _)⟩
/-- d[k] = a new tuple of these values -/
theorem go_dputN (ho : Ev ta σ H (.ref a)) (hk : Ev tb σ H (kV k)) (hv : EvTN te σ H xs) (hd : H a = some (.dK kvs)) (hl : kvs.length < 1000000) (q : ∀ p H', Ex H H' → H p = none → H' p = some (.tup xs) → Go tz D σ (upd H' a (.dK (putK kvs k (.ref p))))) : Go (tSeq (sDPut ta tb te) tz) D σ H := fun H1 e1 =>
  hv H1 e1 _ fun p H2 e2 n2 h2 => ho H2 (e1.trans e2) _ fun H3 e3 => hk H3 ((e1.trans e2).trans e3) _ fun H4 e4 => by
    have e14 := ((e1.trans e2).trans e3).trans e4
    refine ⟨a, _, rfl, DPut.k (e14 _ _ hd) (by show kvs.length < sizeLine; unfold sizeLine; omega), ?_⟩
    exact q p H4 e14 (fresh_back e1 n2) ((e3.trans e4) _ _ h2) _ (Ex.refl _)
theorem go_bindEv {C : TE → TS} (h : Ev te σ H v) (k : Go (C (tVal v)) D σ H) (hC : ∀ te D σ H, C te D σ H = te σ H fun v H1 => C (tVal v) D σ H1 := by intros; rfl) : Go (C te) D σ H := fun H1 e1 => by
  rw [hC]
  exact h H1 e1 _ fun H2 e2 => k H2 (e1.trans e2)
theorem ev_dgetF {o : Obj} (ho : Ev ta σ H (.ref a)) (hk : Ev tb σ H (kV k)) (hd : H a = some (.frz o (.dK kvs))) (hv : valV kvs k = some v) : Ev (tDGet ta tb) σ H v := fun H1 e1 Q q =>
  ho H1 e1 _ fun H2 e2 => hk H2 (e1.trans e2) _ fun H3 e3 => ⟨a, v, rfl, .inl ⟨kvs, k, .inr ⟨o, ((e1.trans e2).trans e3) _ _ hd⟩, rfl, hv.symm⟩, q H3 (e2.trans e3)⟩
theorem ev_dnotinF {o : Obj} (hk : Ev ta σ H (kV k)) (ho : Ev tb σ H (.ref a)) (hd : H a = some (.frz o (.dK kvs))) : Ev (tDNotIn ta tb) σ H (.bl (!(valV kvs k).isSome)) := fun H1 e1 Q q =>
  hk H1 e1 _ fun H2 e2 => ho H2 (e1.trans e2) _ fun H3 e3 => ⟨a, _, rfl, .inl ⟨kvs, k, .inr ⟨o, ((e1.trans e2).trans e3) _ _ hd⟩, rfl, rfl⟩, q H3 (e2.trans e3)⟩
/-- for k in d, d known for good -/
theorem ei_keysF {td : TE} {o : Obj} {j : Nat} (h : Ev td σ Hd (.ref d)) (hf : Hd d = some (.frz o (.dK kvs))) : EvI K (iKeys td) (gName j) σ Hd kvs.length (fun i σ' σ2 _ => ∃ k v, kvs[i]? = some (k, v) ∧ σ2 = σ'.set j (some (kV k))) := fun H s R r =>
  h H s _ fun H2 e2 => ⟨d, o, rfl, .inl ⟨kvs, (s.trans e2) _ _ hf, r _ H2 Hd _ _ (Gr.ext s e2) walk_keys (fun H' e => e _ _ hf) fun i x H' H'' σ' k hi e y q => by
    obtain ⟨rfl, key, v, hk, rfl⟩ := y
    exact q _ _ (Ex.refl _) ⟨key, v, hk, rfl⟩⟩⟩
theorem ev_lenF {o : Obj} (h : Ev ta σ H (.ref a)) (hd : H a = some (.frz o (.dK kvs))) : Ev (tCB rLenF (tCons ta tNil)) σ H (.int (kvs.length : Int)) := fun H1 e Q q => h H1 e _ fun H2 e2 => ⟨a, kvs, rfl, .inr ⟨o, e2 _ _ (e _ _ hd)⟩, q H2 e2⟩
theorem valV_appK : ∀ (kvs more : List (Key × V)) (k : Key), valV (kvs ++ more) k = (valV kvs k).or (valV more k)
  | [], _, _ => rfl
  | e :: kvs, more, k => by
    by_cases h : e.1 = k
    · rw [List.cons_append, valV_pos h, valV_pos h]
      rfl
    · rw [List.cons_append, valV_neg h, valV_neg h, valV_appK kvs more k]
/-- dict(pairs) -/
theorem mergeK_new : ∀ {more kvs : List (Key × V)}, (∀ e ∈ more, valV kvs e.1 = none) → more.Pairwise (fun a b => a.1 ≠ b.1) → mergeK kvs more = kvs ++ more
  | [], kvs, _, _ => by simp [mergeK]
  | e :: more, kvs, h, hp => by
    rw [List.pairwise_cons] at hp
    have h0 := h e List.mem_cons_self
    have : mergeK kvs (e :: more) = mergeK (putK kvs e.1 e.2) more := rfl
    rw [this, putK_new _ h0, mergeK_new (fun f hf => ?_) hp.2, List.append_assoc]
    · rfl
    · rw [valV_appK, h f (List.mem_cons_of_mem _ hf), Option.none_or]
      exact valV_neg (fun z => hp.1 f hf z)
end
end Cot

namespace C_k35
open PySem PySem.Spec PyProof.Rows L2 Evl Cot RZ L2H
local macro_rules | `(tactic| walk_at "side") => `(tactic| first | decide | omega | (show (0 : Int) < _; omega) | (show (0 : Int) < _ ∧ _ < (1073741824 : Int); omega) | (exact Or.inr (by omega)) | (exact Or.inl (by omega)) | (show (0 : Int) ≤ _ ∧ _ ≤ (1000000 : Int) ∧ _; refine ⟨by decide, by decide, by decide⟩))
local macro_rules | `(tactic| walk_at "rv") => `(tactic| first
  | with_reducible exact rv_I0
  | ((with_reducible apply rv_I); walk_at "side")
  | ((with_reducible apply rv_eq); rfl)
  | ((with_reducible apply rv_ne); rfl)
  | ((with_reducible apply rv_ixL); (first | exact sq_of (by assumption) | exact sq_of upd_same); rfl)
  | with_reducible exact rv_isN)
local macro_rules | `(tactic| walk_at "ev") => `(tactic| first
  | ((with_reducible apply ev_var); rfl)
  | with_reducible exact ev_c
  | ((with_reducible apply ev_op); walk_at "ev"; walk_at "ev"; walk_at "rv")
  | ((with_reducible apply ev_un); walk_at "ev"; exact ru_neg)
  | ((with_reducible apply ev_chainB); walk_at "ev"; walk_at "ev"; walk_at "rv"; walk_at "ev"; walk_at "rv")
  | ((with_reducible apply ev_andB); walk_at "ev"; walk_at "ev")
  | ((with_reducible apply ev_orB); walk_at "ev"; walk_at "ev")
  | ((with_reducible apply ev_notV); walk_at "ev")
  | ((with_reducible apply ev_ifB); walk_at "et"; walk_at "ev"; walk_at "ev"))
local macro_rules | `(tactic| walk_at "ea") => `(tactic| first
  | with_reducible exact ea_nil
  | ((with_reducible apply ea_cons); walk_at "ev"; walk_at "ea"))
local macro_rules | `(tactic| walk_at "et") => `(tactic| first
  | ((with_reducible apply et_test); walk_at "ev")
  | ((with_reducible apply et_B); walk_at "ev")
  | ((with_reducible apply et_not); walk_at "et")
  | ((with_reducible apply et_andB); walk_at "et"; walk_at "et")
  | ((with_reducible apply et_orB); walk_at "et"; walk_at "et"))
local macro_rules | `(tactic| walk_at "kb") => `(tactic| first | exact kb_NoneType_bool | exact kb_NoneType_int | exact kb_NoneType_str | exact kb_NoneType_list | exact kb_NoneType_tuple | exact kb_bool_bool | exact kb_bool_int | exact kb_bool_str | exact kb_bool_list | exact kb_bool_tuple | exact kb_int_bool | exact kb_int_int | exact kb_int_str | exact kb_int_list | exact kb_int_tuple | exact kb_str_bool | exact kb_str_int | exact kb_str_str | exact kb_str_list | exact kb_str_tuple | exact kb_list_bool | exact kb_list_int | exact kb_list_str | exact kb_list_list | exact kb_list_tuple | exact kb_tuple_bool | exact kb_tuple_int | exact kb_tuple_str | exact kb_tuple_list | exact kb_tuple_tuple)
local macro_rules | `(tactic| walk_at "ed") => `(tactic| first
  | ((with_reducible apply ed_var); rfl; first | assumption | exact Dp.int _ | exact Dp.bl _ | exact Dp.str _ | exact Dp.non)
  | ((with_reducible apply ed_tup); walk_at "eda"; (simp only [List.length_cons, List.length_nil]; decide))
  | ((with_reducible apply ed_new); walk_at "en")
  | ((with_reducible apply ed_int); walk_at "ev")
  | ((with_reducible apply ed_bool); walk_at "ev")
  | ((with_reducible apply ed_str); walk_at "ev")
  | ((with_reducible apply ed_non); walk_at "ev"))
local macro_rules | `(tactic| walk_at "en") => `(tactic| first
  | ((with_reducible apply en_lst); walk_at "eda"; (simp only [List.length_cons, List.length_nil]; decide)))
local macro_rules | `(tactic| walk_at "eda") => `(tactic| first
  | with_reducible exact eda_nil
  | ((with_reducible apply eda_cons); walk_at "ed"; walk_at "eda"))
local macro_rules | `(tactic| walk_at "ev") => `(tactic| first
  | ((with_reducible apply ev_isi); walk_at "ed"; walk_at "kb")
  | ((with_reducible apply ev_isiT2); walk_at "ed"; walk_at "kb"; walk_at "kb")
  | ((with_reducible apply ev_eqD); walk_at "ed"; walk_at "ed"; rfl; rfl)
  | ((with_reducible apply ev_neD); walk_at "ed"; walk_at "ed"; rfl; rfl)
  | ((with_reducible apply ev_lenL); walk_at "ed")
  | ((with_reducible apply ev_lenT); walk_at "ed"))

def topS (i : Nat) : Stmt := PySem.Challenge.pw_cotide_k35_whole_entries_in_any_order.main.body.getD i (.Pass ⟨0, 0, 0, 0⟩)
abbrev s_wall : Stmt := topS 0
abbrev N_wall : List Str := ["k"]
theorem sc_wall : FnScope N_wall ["k"] (defScope s_wall) := ⟨rfl, rfl, rfl, by decide +kernel, rfl, by decide +kernel, by decide +kernel⟩
abbrev s_is_clock : Stmt := topS 11
abbrev N_is_clock : List Str := ["clock"]
theorem sc_is_clock : FnScope N_is_clock ["clock"] (defScope s_is_clock) := ⟨rfl, rfl, rfl, by decide +kernel, rfl, by decide +kernel, by decide +kernel⟩
abbrev s_need_clock : Stmt := topS 12
abbrev N_need_clock : List Str := ["clock"]
theorem sc_need_clock : FnScope N_need_clock ["clock"] (defScope s_need_clock) := ⟨rfl, rfl, rfl, by decide +kernel, rfl, by decide +kernel, by decide +kernel⟩
abbrev s_is_what : Stmt := topS 17
abbrev N_is_what : List Str := ["clock", "one"]
theorem sc_is_what : FnScope N_is_what ["clock", "one"] (defScope s_is_what) := ⟨rfl, rfl, rfl, by decide +kernel, rfl, by decide +kernel, by decide +kernel⟩
abbrev s_what_text : Stmt := topS 19
abbrev N_what_text : List Str := ["one"]
theorem sc_what_text : FnScope N_what_text ["one"] (defScope s_what_text) := ⟨rfl, rfl, rfl, by decide +kernel, rfl, by decide +kernel, by decide +kernel⟩
abbrev s_need_day : Stmt := topS 23
abbrev N_need_day : List Str := ["day"]
theorem sc_need_day : FnScope N_need_day ["day"] (defScope s_need_day) := ⟨rfl, rfl, rfl, by decide +kernel, rfl, by decide +kernel, by decide +kernel⟩
abbrev s_need_what : Stmt := topS 24
abbrev N_need_what : List Str := ["clock", "one"]
theorem sc_need_what : FnScope N_need_what ["clock", "one"] (defScope s_need_what) := ⟨rfl, rfl, rfl, by decide +kernel, rfl, by decide +kernel, by decide +kernel⟩
abbrev s_law_box : Stmt := topS 27
abbrev N_law_box : List Str := ["_law_script", "_law_seed", "_law_cell"]
theorem sc_law_box : FnScope N_law_box ["_law_script"] (defScope s_law_box) := ⟨rfl, rfl, rfl, by decide +kernel, rfl, by decide +kernel, by decide +kernel⟩
abbrev s_law_mixed : Stmt := topS 28
abbrev N_law_mixed : List Str := ["_law_number", "_law_turn", "_law_base", "_law_more"]
theorem sc_law_mixed : FnScope N_law_mixed ["_law_number", "_law_turn"] (defScope s_law_mixed) := ⟨rfl, rfl, rfl, by decide +kernel, rfl, by decide +kernel, by decide +kernel⟩
abbrev s_law_take : Stmt := topS 29
abbrev N_law_take : List Str := ["_law_box_here", "_law_many", "_law_rest", "_law_cell"]
theorem sc_law_take : FnScope N_law_take ["_law_box_here", "_law_many"] (defScope s_law_take) := ⟨rfl, rfl, rfl, by decide +kernel, rfl, by decide +kernel, by decide +kernel⟩
abbrev s_law_clock : Stmt := topS 30
abbrev N_law_clock : List Str := ["_law_box_here"]
theorem sc_law_clock : FnScope N_law_clock ["_law_box_here"] (defScope s_law_clock) := ⟨rfl, rfl, rfl, by decide +kernel, rfl, by decide +kernel, by decide +kernel⟩
abbrev s_law_what : Stmt := topS 31
abbrev N_law_what : List Str := ["_law_chart", "_law_square", "_law_row", "_law_column"]
theorem sc_law_what : FnScope N_law_what ["_law_chart", "_law_square"] (defScope s_law_what) := ⟨rfl, rfl, rfl, by decide +kernel, rfl, by decide +kernel, by decide +kernel⟩
abbrev s_law_day : Stmt := topS 32
abbrev N_law_day : List Str := ["_law_box_here"]
theorem sc_law_day : FnScope N_law_day ["_law_box_here"] (defScope s_law_day) := ⟨rfl, rfl, rfl, by decide +kernel, rfl, by decide +kernel, by decide +kernel⟩
abbrev s_law_one : Stmt := topS 33
abbrev N_law_one : List Str := ["_law_box_here", "_law_clock_here"]
theorem sc_law_one : FnScope N_law_one ["_law_box_here", "_law_clock_here"] (defScope s_law_one) := ⟨rfl, rfl, rfl, by decide +kernel, rfl, by decide +kernel, by decide +kernel⟩
abbrev s_law_shuffled : Stmt := topS 34
abbrev N_law_shuffled : List Str := ["_law_box_here", "_law_rows", "_law_left", "_law_found", "_law_k"]
theorem sc_law_shuffled : FnScope N_law_shuffled ["_law_box_here", "_law_rows"] (defScope s_law_shuffled) := ⟨rfl, rfl, rfl, by decide +kernel, rfl, by decide +kernel, by decide +kernel⟩
abbrev s_law : Stmt := topS 35
abbrev N_law : List Str := ["_law_script", "_law_box_here", "_law_clock_here", "_law_rows", "_law_day_here", "_law_k", "_law_logs", "_law_at", "_law_row", "_law_column", "_law_one_here", "_law_when", "_law_due", "_law_square"]
theorem sc_law : FnScope N_law ["_law_script"] (defScope s_law) := ⟨rfl, rfl, rfl, by decide +kernel, rfl, by decide +kernel, by decide +kernel⟩
abbrev s_Log_init : Stmt := clsDef (topS 25) 0
abbrev N_Log_init : List Str := ["self", "clock", "high", "wide"]
theorem sc_Log_init : FnScope N_Log_init ["self", "clock", "high", "wide"] (defScope s_Log_init) := ⟨rfl, rfl, rfl, by decide +kernel, rfl, by decide +kernel, by decide +kernel⟩
abbrev s_Log_len : Stmt := clsDef (topS 25) 1
abbrev N_Log_len : List Str := ["self"]
theorem sc_Log_len : FnScope N_Log_len ["self"] (defScope s_Log_len) := ⟨rfl, rfl, rfl, by decide +kernel, rfl, by decide +kernel, by decide +kernel⟩
abbrev s_Log_eq : Stmt := clsDef (topS 25) 2
abbrev N_Log_eq : List Str := ["self", "other"]
theorem sc_Log_eq : FnScope N_Log_eq ["self", "other"] (defScope s_Log_eq) := ⟨rfl, rfl, rfl, by decide +kernel, rfl, by decide +kernel, by decide +kernel⟩
abbrev s_Log_str : Stmt := clsDef (topS 25) 3
abbrev N_Log_str : List Str := ["self"]
theorem sc_Log_str : FnScope N_Log_str ["self"] (defScope s_Log_str) := ⟨rfl, rfl, rfl, by decide +kernel, rfl, by decide +kernel, by decide +kernel⟩
abbrev s_Log_repr : Stmt := clsDef (topS 25) 4
abbrev N_Log_repr : List Str := ["self"]
theorem sc_Log_repr : FnScope N_Log_repr ["self"] (defScope s_Log_repr) := ⟨rfl, rfl, rfl, by decide +kernel, rfl, by decide +kernel, by decide +kernel⟩
abbrev s_Log_likeness : Stmt := clsDef (topS 25) 5
abbrev N_Log_likeness : List Str := ["self", "told", "number", "day", "row", "column", "one"]
theorem sc_Log_likeness : FnScope N_Log_likeness ["self"] (defScope s_Log_likeness) := ⟨rfl, rfl, rfl, by decide +kernel, rfl, by decide +kernel, by decide +kernel⟩
abbrev s_Log_entry_texts : Stmt := clsDef (topS 25) 6
abbrev N_Log_entry_texts : List Str := ["self", "number", "day", "row", "column", "one"]
theorem sc_Log_entry_texts : FnScope N_Log_entry_texts ["self"] (defScope s_Log_entry_texts) := ⟨rfl, rfl, rfl, by decide +kernel, rfl, by decide +kernel, by decide +kernel⟩
abbrev s_Log_add : Stmt := clsDef (topS 25) 8
abbrev N_Log_add : List Str := ["self", "row", "column", "one", "day", "number"]
theorem sc_Log_add : FnScope N_Log_add ["self", "row", "column", "one", "day"] (defScope s_Log_add) := ⟨rfl, rfl, rfl, by decide +kernel, rfl, by decide +kernel, by decide +kernel⟩
abbrev s_Log_entries : Stmt := clsDef (topS 25) 11
abbrev N_Log_entries : List Str := ["self", "found", "number", "day", "row", "column", "one"]
theorem sc_Log_entries : FnScope N_Log_entries ["self"] (defScope s_Log_entries) := ⟨rfl, rfl, rfl, by decide +kernel, rfl, by decide +kernel, by decide +kernel⟩
abbrev s_Log_chart : Stmt := clsDef (topS 25) 13
abbrev N_Log_chart : List Str := ["self", "day", "rows", "number", "told_on", "row", "column", "one"]
theorem sc_Log_chart : FnScope N_Log_chart ["self", "day"] (defScope s_Log_chart) := ⟨rfl, rfl, rfl, by decide +kernel, rfl, by decide +kernel, by decide +kernel⟩
structure Tx (K : PySem.W.Frag) (mg : Str → Option Value) (base : Heap) where
  a_Log : Addr
  Q_Log : Cls K a_Log
  na_Log_clock : NoAttr K a_Log "clock"
  na_Log_high : NoAttr K a_Log "high"
  na_Log_wide : NoAttr K a_Log "wide"
  na_Log_kept : NoAttr K a_Log "kept"
  na_Log_next_number : NoAttr K a_Log "next_number"
  I_Log : InsO K a_Log
  a_wall : Addr
  d_wall : FuncData
  F_wall : Fun K "_wall" "_wall" s_wall a_wall d_wall
  g_wall : mg "_wall" = some (.ref a_wall)
  b_wall : Binds K d_wall ["k"] []
  a_is_clock : Addr
  d_is_clock : FuncData
  F_is_clock : Fun K "is_clock" "is_clock" s_is_clock a_is_clock d_is_clock
  g_is_clock : mg "is_clock" = some (.ref a_is_clock)
  b_is_clock : Binds K d_is_clock ["clock"] []
  a_need_clock : Addr
  d_need_clock : FuncData
  F_need_clock : Fun K "need_clock" "need_clock" s_need_clock a_need_clock d_need_clock
  g_need_clock : mg "need_clock" = some (.ref a_need_clock)
  b_need_clock : Binds K d_need_clock ["clock"] []
  a_is_what : Addr
  d_is_what : FuncData
  F_is_what : Fun K "is_what" "is_what" s_is_what a_is_what d_is_what
  g_is_what : mg "is_what" = some (.ref a_is_what)
  b_is_what : Binds K d_is_what ["clock", "one"] []
  a_what_text : Addr
  d_what_text : FuncData
  F_what_text : Fun K "what_text" "what_text" s_what_text a_what_text d_what_text
  g_what_text : mg "what_text" = some (.ref a_what_text)
  b_what_text : Binds K d_what_text ["one"] []
  a_need_day : Addr
  d_need_day : FuncData
  F_need_day : Fun K "need_day" "need_day" s_need_day a_need_day d_need_day
  g_need_day : mg "need_day" = some (.ref a_need_day)
  b_need_day : Binds K d_need_day ["day"] []
  a_need_what : Addr
  d_need_what : FuncData
  F_need_what : Fun K "need_what" "need_what" s_need_what a_need_what d_need_what
  g_need_what : mg "need_what" = some (.ref a_need_what)
  b_need_what : Binds K d_need_what ["clock", "one"] []
  a_law_box : Addr
  d_law_box : FuncData
  F_law_box : Fun K "_law_box" "_law_box" s_law_box a_law_box d_law_box
  g_law_box : mg "_law_box" = some (.ref a_law_box)
  b_law_box : Binds K d_law_box ["_law_script"] []
  a_law_mixed : Addr
  d_law_mixed : FuncData
  F_law_mixed : Fun K "_law_mixed" "_law_mixed" s_law_mixed a_law_mixed d_law_mixed
  g_law_mixed : mg "_law_mixed" = some (.ref a_law_mixed)
  b_law_mixed : Binds K d_law_mixed ["_law_number", "_law_turn"] []
  a_law_take : Addr
  d_law_take : FuncData
  F_law_take : Fun K "_law_take" "_law_take" s_law_take a_law_take d_law_take
  g_law_take : mg "_law_take" = some (.ref a_law_take)
  b_law_take : Binds K d_law_take ["_law_box_here", "_law_many"] []
  a_law_clock : Addr
  d_law_clock : FuncData
  F_law_clock : Fun K "_law_clock" "_law_clock" s_law_clock a_law_clock d_law_clock
  g_law_clock : mg "_law_clock" = some (.ref a_law_clock)
  b_law_clock : Binds K d_law_clock ["_law_box_here"] []
  a_law_what : Addr
  d_law_what : FuncData
  F_law_what : Fun K "_law_what" "_law_what" s_law_what a_law_what d_law_what
  g_law_what : mg "_law_what" = some (.ref a_law_what)
  b_law_what : Binds K d_law_what ["_law_chart", "_law_square"] []
  a_law_day : Addr
  d_law_day : FuncData
  F_law_day : Fun K "_law_day" "_law_day" s_law_day a_law_day d_law_day
  g_law_day : mg "_law_day" = some (.ref a_law_day)
  b_law_day : Binds K d_law_day ["_law_box_here"] []
  a_law_one : Addr
  d_law_one : FuncData
  F_law_one : Fun K "_law_one" "_law_one" s_law_one a_law_one d_law_one
  g_law_one : mg "_law_one" = some (.ref a_law_one)
  b_law_one : Binds K d_law_one ["_law_box_here", "_law_clock_here"] []
  a_law_shuffled : Addr
  d_law_shuffled : FuncData
  F_law_shuffled : Fun K "_law_shuffled" "_law_shuffled" s_law_shuffled a_law_shuffled d_law_shuffled
  g_law_shuffled : mg "_law_shuffled" = some (.ref a_law_shuffled)
  b_law_shuffled : Binds K d_law_shuffled ["_law_box_here", "_law_rows"] []
  a_law : Addr
  d_law : FuncData
  F_law : Fun K "law" "law" s_law a_law d_law
  g_law : mg "law" = some (.ref a_law)
  b_law : Binds K d_law ["_law_script"] []
  a_Log_init : Addr
  d_Log_init : FuncData
  F_Log_init : Fun K "__init__" "Log.__init__" s_Log_init a_Log_init d_Log_init
  m_Log_init : Meth K a_Log "__init__" a_Log_init
  M_Log : Mk K a_Log a_Log_init
  b_Log_init : Binds K d_Log_init ["self", "clock", "high", "wide"] []
  a_Log_len : Addr
  d_Log_len : FuncData
  F_Log_len : Fun K "__len__" "Log.__len__" s_Log_len a_Log_len d_Log_len
  m_Log_len : Meth K a_Log "__len__" a_Log_len
  b_Log_len : Binds K d_Log_len ["self"] []
  a_Log_eq : Addr
  d_Log_eq : FuncData
  F_Log_eq : Fun K "__eq__" "Log.__eq__" s_Log_eq a_Log_eq d_Log_eq
  m_Log_eq : Meth K a_Log "__eq__" a_Log_eq
  b_Log_eq : Binds K d_Log_eq ["self", "other"] []
  a_Log_str : Addr
  d_Log_str : FuncData
  F_Log_str : Fun K "__str__" "Log.__str__" s_Log_str a_Log_str d_Log_str
  m_Log_str : Meth K a_Log "__str__" a_Log_str
  b_Log_str : Binds K d_Log_str ["self"] []
  a_Log_repr : Addr
  d_Log_repr : FuncData
  F_Log_repr : Fun K "__repr__" "Log.__repr__" s_Log_repr a_Log_repr d_Log_repr
  m_Log_repr : Meth K a_Log "__repr__" a_Log_repr
  b_Log_repr : Binds K d_Log_repr ["self"] []
  a_Log_likeness : Addr
  d_Log_likeness : FuncData
  F_Log_likeness : Fun K "likeness" "Log.likeness" s_Log_likeness a_Log_likeness d_Log_likeness
  m_Log_likeness : Meth K a_Log "likeness" a_Log_likeness
  b_Log_likeness : Binds K d_Log_likeness ["self"] []
  a_Log_entry_texts : Addr
  d_Log_entry_texts : FuncData
  F_Log_entry_texts : Fun K "entry_texts" "Log.entry_texts" s_Log_entry_texts a_Log_entry_texts d_Log_entry_texts
  m_Log_entry_texts : Meth K a_Log "entry_texts" a_Log_entry_texts
  b_Log_entry_texts : Binds K d_Log_entry_texts ["self"] []
  a_Log_add : Addr
  d_Log_add : FuncData
  F_Log_add : FunD K "add" "Log.add" (defArgs s_Log_add) (defBody s_Log_add) (defScope s_Log_add) [.int (0)] [] a_Log_add d_Log_add
  m_Log_add : Meth K a_Log "add" a_Log_add
  b_Log_add : Binds K d_Log_add ["self", "row", "column", "one", "day"] []
  a_Log_entries : Addr
  d_Log_entries : FuncData
  c_Log_entries : Addr
  P_Log_entries : Addr
  F_Log_entries : FunC K "entries" "Log.entries" s_Log_entries a_Log_entries d_Log_entries c_Log_entries
  TB_Log_entries : LamX.TabB base mg c_Log_entries P_Log_entries
  m_Log_entries : Meth K a_Log "entries" a_Log_entries
  b_Log_entries : Binds K d_Log_entries ["self"] []
  a_Log_chart : Addr
  d_Log_chart : FuncData
  F_Log_chart : FunD K "chart" "Log.chart" (defArgs s_Log_chart) (defBody s_Log_chart) (defScope s_Log_chart) [.int (999)] [] a_Log_chart d_Log_chart
  m_Log_chart : Meth K a_Log "chart" a_Log_chart
  b_Log_chart : Binds K d_Log_chart ["self", "day"] []
  ds_Log_chart_1 : List Value
  vd_Log_chart_1 : Vals [.int (999)] ds_Log_chart_1
  bd_Log_chart_1 : Binds K d_Log_chart ["self", "day"] ds_Log_chart_1
  t_LEAST_HOURS : Tok
  c_LEAST_HOURS : mg "LEAST_HOURS" = some (.int (3) t_LEAST_HOURS)
  t_MOST_HOURS : Tok
  c_MOST_HOURS : mg "MOST_HOURS" = some (.int (15) t_MOST_HOURS)
  t_MOST_SQUARES : Tok
  c_MOST_SQUARES : mg "MOST_SQUARES" = some (.int (9) t_MOST_SQUARES)
  t_LAND : Tok
  c_LAND : mg "LAND" = some (.int (-1) t_LAND)
  t_UNTOLD : Tok
  c_UNTOLD : mg "UNTOLD" = some (.int (-2) t_UNTOLD)
  t_LAST_DAY : Tok
  c_LAST_DAY : mg "LAST_DAY" = some (.int (999) t_LAST_DAY)
  t_MOST_ENTRIES : Tok
  c_MOST_ENTRIES : mg "MOST_ENTRIES" = some (.int (200) t_MOST_ENTRIES)
  n_isinstance : mg "isinstance" = none
  n_len : mg "len" = none
  n_list : mg "list" = none
  n_range : mg "range" = none
  n_sorted : mg "sorted" = none
  n_str : mg "str" = none
  n_tuple : mg "tuple" = none
  a_TideError : Addr
  a_BadClock : Addr
  a_BadHour : Addr
  a_BadSquare : Addr
  a_Full : Addr
  a_BadDay : Addr
  x_TideError : ExB K mg "TideError" a_TideError
  x_BadClock : ExB K mg "BadClock" a_BadClock
  x_BadHour : ExB K mg "BadHour" a_BadHour
  x_BadSquare : ExB K mg "BadSquare" a_BadSquare
  x_Full : ExB K mg "Full" a_Full
  x_BadDay : ExB K mg "BadDay" a_BadDay
  x_Log : ExB K mg "Log" a_Log
  X_BadClock : Exn K mg "BadClock" a_BadClock
  m_BadClock : PySem.W.exmOne K (.ref a_BadClock) (.ref a_TideError) = some true
  X_BadHour : Exn K mg "BadHour" a_BadHour
  m_BadHour : PySem.W.exmOne K (.ref a_BadHour) (.ref a_TideError) = some true
  X_BadSquare : Exn K mg "BadSquare" a_BadSquare
  m_BadSquare : PySem.W.exmOne K (.ref a_BadSquare) (.ref a_TideError) = some true
  X_Full : Exn K mg "Full" a_Full
  m_Full : PySem.W.exmOne K (.ref a_Full) (.ref a_TideError) = some true
  X_BadDay : Exn K mg "BadDay" a_BadDay
  m_BadDay : PySem.W.exmOne K (.ref a_BadDay) (.ref a_TideError) = some true
  tnd : ([P_Log_entries] : List Addr).Nodup
def tabsOf {K : PySem.W.Frag} {mg : Str → Option Value} {base : Heap} (T : Tx K mg base) : List (Addr × Str) := [(T.P_Log_entries, lamQ "Log.entries")]
theorem tabs_nd {K : PySem.W.Frag} {mg : Str → Option Value} {base : Heap} (T : Tx K mg base) : ((tabsOf T).map (·.1)).Nodup := T.tnd
section
variable {P : Program} {w : World} {K : PySem.W.Frag} {mg : Str → Option Value} {base : Heap}
/-! ### cotide.hours -/
def isClock (c : Int) : Bool := decide (3 ≤ c) && decide (c ≤ 15) && decide (c % 2 = 1)
theorem isClock_iff {c : Int} : isClock c = true ↔ 3 ≤ c ∧ c ≤ 15 ∧ c % 2 = 1 := by
  unfold isClock
  simp only [Bool.and_eq_true, decide_eq_true_eq, and_assoc]
def R_is_clock (vs : List V) (v : V) : Prop := ∃ c, vs = [.int c] ∧ v = .bl (isClock c)
theorem ok_is_clock (T : Tx K mg base) : FnOk P w K mg base CX0 11 T.a_is_clock T.d_is_clock ["clock"] (spS R_is_clock) := by
  refine T.F_is_clock.ok sc_is_clock (fun vs H Q E h => ?_) (fun cdv A outer s H vs Q E hr h => ?_)
  · obtain ⟨v, ⟨c, rfl, rfl⟩, q⟩ := h
    rfl
  · obtain ⟨v, ⟨c, rfl, rfl⟩, q⟩ := h
    refine ⟨_, (pss_cons (ps_ret (pe_and (pe_chain op_le op_le (pe_glob (v := .int (3)) rfl T.c_LEAST_HOURS ⟨_, rfl⟩) (pv 0) (pe_glob (v := .int (15)) rfl T.c_MOST_HOURS ⟨_, rfl⟩)) (pe_one (pe_cmpR op_eq (pe_op op_mod (pv 0) pe_int) pe_int (nomark _)))))
      pss_nil), Go.go ?_⟩
    apply go_retE (k := q)
    · walk_at "ev"
    · unfold isClock
      simp only [V.int.injEq]
theorem ev_is_clock {σ : L2.St} {H : Hp} {E : XK} {tr : TA} {c : Int} (h : EvA tr σ H [.int c]) : Ev (tCall (spS R_is_clock) [] E tr) σ H (.bl (isClock c)) := ev_callS h ⟨c, rfl, rfl⟩
local macro_rules | `(tactic| walk_at "ev") => `(tactic| ((with_reducible apply ev_is_clock); walk_at "ea"))

def R_need_clock (vs : List V) (v : V) : Prop := ∃ c, vs = [.int c] ∧ v = .non ∧ isClock c = true
theorem ok_need_clock (T : Tx K mg base) : FnOk P w K mg base CX0 12 T.a_need_clock T.d_need_clock ["clock"] (spS R_need_clock) := by
  refine T.F_need_clock.ok sc_need_clock (fun vs H Q E h => ?_) (fun cdv A outer s H vs Q E hr h => ?_)
  · obtain ⟨v, ⟨c, rfl, rfl, hc⟩, q⟩ := h
    rfl
  · obtain ⟨v, ⟨c, rfl, rfl, hc⟩, q⟩ := h
    refine ⟨_, (pss_cons (ps_if (pt_not (pt_val (pe_call (ok_is_clock (P := P) (w := w) T) (hr.mono (by omega)) (by rfl) T.g_is_clock T.F_is_clock.kp T.b_is_clock .nil pass0 (pa_cons (pv 0) pa_nil)))) (pss_cons ps_never
      pss_nil) pss_nil)
      pss_nil), Go.go ?_⟩
    apply go_when
    · walk_at "et"
    · intro e
      rw [hc] at e
      cases e
    · intro _
      exact go_next q
theorem ev_need_clock {σ : L2.St} {H : Hp} {E : XK} {tr : TA} {c : Int} (h : EvA tr σ H [.int c]) (hc : isClock c = true) : Ev (tCall (spS R_need_clock) [] E tr) σ H .non := ev_callS h ⟨c, rfl, rfl, hc⟩
def nstep (c a b : Int) : Int := (b - a + c / 2) % c - c / 2
theorem nstep_spec {c a b : Int} (hc : isClock c = true) : -c < 2 * nstep c a b ∧ 2 * nstep c a b < c ∧ (a + nstep c a b - b) % c = 0 := by
  have h := isClock_iff.mp hc
  unfold nstep
  have h1 := Int.emod_nonneg (b - a + c / 2) (show c ≠ 0 by omega)
  have h2 := Int.emod_lt_of_pos (b - a + c / 2) (show 0 < c by omega)
  have h3 := Int.mul_ediv_add_emod (b - a + c / 2) c
  refine ⟨by omega, by omega, ?_⟩
  have e : a + ((b - a + c / 2) % c - c / 2) - b = -(c * ((b - a + c / 2) / c)) := by omega
  rw [e, Int.neg_emod_eq_sub_emod]
  simp
theorem dvd_small {c x : Int} (h : x % c = 0) (h1 : -c < x) (h2 : x < c) : x = 0 := Int.eq_zero_of_dvd_of_natAbs_lt_natAbs (Int.dvd_of_emod_eq_zero h) (by omega)
theorem nstep_neg {c a b : Int} (hc : isClock c = true) : nstep c b a = -nstep c a b := by
  have h1 := nstep_spec (a := a) (b := b) hc
  have h2 := nstep_spec (a := b) (b := a) hc
  have e : (nstep c a b + nstep c b a) % c = 0 := by
    have e2 : nstep c a b + nstep c b a = (a + nstep c a b - b) + (b + nstep c b a - a) := by omega
    rw [e2, Int.add_emod, h1.2.2, h2.2.2]
    simp
  have := dvd_small e (by omega) (by omega)
  omega
theorem nstep_zero {c a b : Int} (hc : isClock c = true) (ha : 0 ≤ a ∧ a < c) (hb : 0 ≤ b ∧ b < c) : decide (nstep c a b = 0) = decide (a = b) := by
  have h1 := nstep_spec (a := a) (b := b) hc
  have h0 := isClock_iff.mp hc
  by_cases e : a = b
  · subst e
    have : nstep c a a = 0 := by
      refine dvd_small (c := c) ?_ (by omega) (by omega)
      have e2 : a + nstep c a a - a = nstep c a a := by omega
      rw [← e2]
      exact h1.2.2
    rw [this]
    simp
  · have : nstep c a b ≠ 0 := by
      intro z
      rw [z] at h1
      have := dvd_small h1.2.2 (by omega) (by omega)
      omega
    rw [decide_eq_false this, decide_eq_false e]

def RX_clock (ds : List PyData) (d : PyData) : Prop := ∃ c, ds = [.int c] ∧ d = .none ∧ isClock c = true
def XX_clock (T : Tx K mg base) (ds : List PyData) (C : Addr) : Prop := ∃ c, ds = [.int c] ∧ C = T.a_BadClock ∧ isClock c = false
theorem okX_need_clock (T : Tx K mg base) : FnOk P w K mg base (L2N.CX P w) 12 T.a_need_clock T.d_need_clock ["clock"] (spX K RX_clock (XX_clock T)) := by
  refine okN T.F_need_clock sc_need_clock (fun vs H Q E h => ?_) (fun cdv A outer s H vs Q E hr h => ?_)
  · obtain ⟨Hd, ds, e, hd, ⟨d, ⟨c, rfl, _⟩, _⟩ | ⟨C, ⟨c, rfl, _⟩, _⟩⟩ := h <;> exact dpa_len hd
  · obtain ⟨Hd, ds, e, hd, h⟩ := h
    rcases h with ⟨d, ⟨c, rfl, rfl, hc⟩, q⟩ | ⟨C, ⟨c, rfl, rfl, hc⟩, q⟩
    · cases hd with
      | cons h1 h2 =>
        cases h2
        cases h1
        refine ⟨_, (pss_cons (ps_if (pt_not (pt_val (pe_call (ok_is_clock (P := P) (w := w) T) (hr.mono (by omega)) (by rfl) T.g_is_clock T.F_is_clock.kp T.b_is_clock .nil pass0 (pa_cons (pv 0) pa_nil)))) (pss_cons (L2N.ps_raise rfl (L2N.takes_of rfl rfl rfl rfl) (T.X_BadClock.pmk (by rfl)))
      pss_nil) pss_nil)
      pss_nil), Go.go ?_⟩
        apply go_when
        · walk_at "et"
        · intro z
          rw [hc] at z
          cases z
        · intro _
          exact go_next fun H2 e2 => q .non H2 Hd (Gr.ext e e2) .non
    · cases hd with
      | cons h1 h2 =>
        cases h2
        cases h1
        refine ⟨_, (pss_cons (ps_if (pt_not (pt_val (pe_call (ok_is_clock (P := P) (w := w) T) (hr.mono (by omega)) (by rfl) T.g_is_clock T.F_is_clock.kp T.b_is_clock .nil pass0 (pa_cons (pv 0) pa_nil)))) (pss_cons (L2N.ps_raise rfl (L2N.takes_of rfl rfl rfl rfl) (T.X_BadClock.pmk (by rfl)))
      pss_nil) pss_nil)
      pss_nil), Go.go ?_⟩
        apply go_when
        · walk_at "et"
        · intro _
          exact go_raise q
        · intro z
          rw [hc] at z
          cases z
/-! ### the law's draws -/
def R_mixed (vs : List V) (v : V) : Prop := ∃ a b, vs = [.int a, .int b] ∧ ∃ r, v = .int r
def spMixed : Sp := fun vs H Q _ => ∃ a b, vs = [.int a, .int b] ∧ ∀ r H2, Ex H H2 → Q (.int r) H2
theorem ok_law_mixed (T : Tx K mg base) : FnOk P w K mg base CX0 1 T.a_law_mixed T.d_law_mixed ["_law_number", "_law_turn"] spMixed := by
  refine T.F_law_mixed.ok sc_law_mixed (fun vs H Q E h => ?_) (fun cdv A outer s H vs Q E hr h => ?_)
  · obtain ⟨a, b, rfl, q⟩ := h
    rfl
  · obtain ⟨a, b, rfl, q⟩ := h
    refine ⟨_, (pss_cons (ps_set (i := 2) sc_law_mixed.nd rfl (.inl rfl) (pe_op op_mod (pe_op op_add (pe_op op_add (pe_op op_mul (pv 0) pe_int) (pe_op op_mul (pv 1) pe_int)) pe_int) pe_int))
      (pss_cons (ps_set (i := 3) sc_law_mixed.nd rfl (.inl rfl) (pe_op op_add (pe_op op_mul (pv 1) pe_int) (pe_op op_mod (pe_op op_fdiv (pv 0) pe_int) pe_int)))
      (pss_cons (ps_ret (pe_op op_fdiv (pe_op op_mod (pe_op op_add (pe_op op_mul (pv 2) (pe_op op_add (pe_op op_mod (pv 2) pe_int) pe_int)) (pv 3)) pe_int) pe_int))
      pss_nil))), Go.go ?_⟩
    have h1 : ∀ x y : Int, 0 ≤ x % y + y * 0 ∨ y = 0 := fun x y => by
      by_cases h : y = 0
      · exact .inr h
      · exact .inl (by have := Int.emod_nonneg x h; omega)
    apply go_asg
    · walk_at "ev"
    have h2 : ∀ x : Int, 0 ≤ x % 2147483647 ∧ x % 2147483647 < 2147483647 := fun x => ⟨by omega, by omega⟩
    generalize hz : (a * 7919 + b * 104729 + 17) % 2147483647 = z
    have hz2 := h2 (a * 7919 + b * 104729 + 17)
    rw [hz] at hz2
    apply go_asg
    · walk_at "ev"
    apply go_retV
    · walk_at "ev"
    exact fun H' e => q _ H' e
/-- a call that gives some int -/
theorem ev_mixed {σ : L2.St} {H : Hp} {E : XK} {tr : TA} {a b : Int} (h : EvA tr σ H [.int a, .int b]) {Q : VK} (k : ∀ r H2, Ex H H2 → Q (.int r) H2) : tCall spMixed [] E tr σ H Q :=
  h H (Ex.refl H) _ fun H2 e2 => ⟨a, b, rfl, fun r H3 e3 => k r H3 (e2.trans e3)⟩
def PreTake (ds : List PyData) : Prop := ∃ m : Int, ds = [.int m] ∧ 0 < m ∧ m < 2 ^ 80
def RTake (ds : List PyData) (d : PyData) : Prop := ∃ m r : Int, ds = [.int m] ∧ d = .int r ∧ 0 ≤ r ∧ r < m
theorem ok_law_take (T : Tx K mg base) : FnOk P w K mg base CX0 8 T.a_law_take T.d_law_take ["_law_box_here", "_law_many"] (spB K PreTake RTake) := by
  refine T.F_law_take.ok sc_law_take (fun vs H Q E h => ?_) (fun cdv A outer s H vs Q E hr h => ?_)
  · obtain ⟨b, ws, Hd, ds, rfl, hb, sx, B, hds, ⟨m, rfl, hm, hm2⟩, q⟩ := h
    cases hds with
    | cons h1 h2 => cases h2; rfl
  · obtain ⟨b, ws, Hd, ds, rfl, hb, sx, B, hds, ⟨m, rfl, hm, hm2⟩, q⟩ := h
    obtain ⟨m', rfl⟩ : ∃ m', ws = [m'] := by
      cases hds with
      | cons h1 h2 => cases h2; exact ⟨_, rfl⟩
    have em : m' = .int m := by
      cases hds with
      | cons h1 h2 => cases h1; rfl
    subst em
    obtain ⟨bb, ca⟩ := b
    obtain ⟨cells, xs, h1, ⟨pos, rest, turn, seed, rfl, hpos⟩, h3, h4⟩ := B
    have nca : ca ≠ bb := by
      intro e
      subst e
      rw [h1] at h3
      have h5 := HO.lst.inj (Option.some.inj h3)
      cases cells with
      | nil => cases h5
      | cons c cs => cases h5
    have fin : ∀ (pos' rest' turn' r : Int) (H2 : Hp), 0 ≤ pos' → 0 ≤ r → r < m → Ex (upd H bb (.lst [.ref ca, .int pos', .int rest', .int turn', .int seed])) H2 → Q (.int r) H2 := fun pos' rest' turn' r H2 hp h0 hr e2 => by
      refine q (.int r) H2 Hd (.int r) ⟨fun a o n h => e2 a o (by rw [upd_ne n]; exact h), Ex.refl _, fun a o h => e2 a o (by rw [upd_ne (ne_of_none h hb)]; exact sx a o h), fun a o _ h => h, ?_⟩ (.int r) ⟨m, r, rfl, rfl, h0, hr⟩
      exact Bx.mono e2 ⟨cells, _, upd_same, ⟨pos', rest', turn', seed, rfl, hp⟩, by rw [upd_ne nca]; exact h3, h4⟩
    have wd : ∀ z : Int, CDivW z m := fun z => wide_div (b := 80) hm (by omega) (by decide) (by decide)
    have mm : ∀ z : Int, 0 ≤ z % m ∧ z % m < m := fun z => ⟨Int.emod_nonneg z (by omega), Int.emod_lt_of_pos z hm⟩
    refine ⟨_, (pss_cons (ps_asg (pe_op op_add (pe_ix (r := rIxL K) ix_list (pv 0) pe_int (fun _ _ => rfl)) pe_int) (pg_sub (pv 0) pe_int set_list))
      (pss_cons (ps_if (pt_cmpR op_gt (pe_ix (r := rIxL K) ix_list (pv 0) pe_int (fun _ _ => rfl)) pe_int (nomark _)) (pss_cons (ps_set (i := 2) sc_law_take.nd rfl (.inl rfl) (pe_ix (r := rIxL K) ix_list (pv 0) pe_int (fun _ _ => rfl)))
      (pss_cons (ps_asg (pe_op op_fdivW (pv 2) (pv 1)) (pg_sub (pv 0) pe_int set_list))
      (pss_cons (ps_ret (pe_op op_mod (pv 2) (pv 1)))
      pss_nil))) pss_nil)
      (pss_cons (ps_if (pt_cmpR op_ge (pe_ix (r := rIxL K) ix_list (pv 0) pe_int (fun _ _ => rfl)) (pe_callB (r := rLenS K) call_lenQ (by rfl) T.n_len PySem.boot_len (pa_cons (pe_ix (r := rIxL K) ix_list (pv 0) pe_int (fun _ _ => rfl)) pa_nil)) (nomark _)) (pss_cons (ps_ret (pe_op op_mod (pe_call (ok_law_mixed (P := P) (w := w) T) (hr.mono (by omega)) (by rfl) T.g_law_mixed T.F_law_mixed.kp T.b_law_mixed .nil pass0 (pa_cons (pe_ix (r := rIxL K) ix_list (pv 0) pe_int (fun _ _ => rfl)) (pa_cons (pe_ix (r := rIxL K) ix_list (pv 0) pe_int (fun _ _ => rfl)) pa_nil))) (pv 1)))
      pss_nil) pss_nil)
      (pss_cons (ps_set (i := 3) sc_law_take.nd rfl (.inl rfl) (pe_ix (r := rIxL K) ix_list (pe_ix (r := rIxL K) ix_list (pv 0) pe_int (fun _ _ => rfl)) (pe_ix (r := rIxL K) ix_list (pv 0) pe_int (fun _ _ => rfl)) (fun _ _ => rfl)))
      (pss_cons (ps_asg (pe_op op_add (pe_ix (r := rIxL K) ix_list (pv 0) pe_int (fun _ _ => rfl)) pe_int) (pg_sub (pv 0) pe_int set_list))
      (pss_cons (ps_if (pt_cmpR op_lt (pv 3) (pe_op op_pow pe_int pe_int) (nomark _)) (pss_cons (ps_ret (pe_op op_mod (pe_call (ok_law_mixed (P := P) (w := w) T) (hr.mono (by omega)) (by rfl) T.g_law_mixed T.F_law_mixed.kp T.b_law_mixed .nil pass0 (pa_cons (pe_op op_add (pv 3) (pe_ix (r := rIxL K) ix_list (pv 0) pe_int (fun _ _ => rfl))) (pa_cons (pe_ix (r := rIxL K) ix_list (pv 0) pe_int (fun _ _ => rfl)) pa_nil))) (pv 1)))
      pss_nil) pss_nil)
      (pss_cons (ps_asg (pe_op op_fdivW (pv 3) (pv 1)) (pg_sub (pv 0) pe_int set_list))
      (pss_cons (ps_ret (pe_op op_mod (pv 3) (pv 1)))
      pss_nil)))))))), Go.go ?_⟩
    refine go_setL (j := 3) h1 (v := .int (turn + 1)) ?_ (ev_var rfl) ev_c (by simp) ?_
    · walk_at "ev"
    show Go _ _ _ (upd H bb (.lst [.ref ca, .int pos, .int rest, .int (turn + 1), .int seed]))
    apply go_when
    · walk_at "et"
    · intro _
      apply go_asg
      · walk_at "ev"
      refine go_setL (j := 2) upd_same (v := .int (rest / m)) ?_ (ev_var rfl) ev_c (by simp) ?_
      · refine ev_op (ev_var rfl) (ev_var rfl) (rv_I (wd _))
      apply go_retV
      · walk_at "ev"
      rw [upd_upd]
      exact fun H' e => fin pos (rest / m) (turn + 1) _ H' hpos (mm _).1 (mm _).2 e
    intro _
    have h3' : upd H bb (.lst [.ref ca, .int pos, .int rest, .int (turn + 1), .int seed]) ca = some (.lst (cells.map V.int)) := by
      rw [upd_ne nca]
      exact h3
    apply go_when
    · apply et_test
      apply ev_op
      · walk_at "ev"
      · refine ev_len (K := K) (p := ca) ?_ (sq_of h3')
        walk_at "ev"
      · exact rv_I0
    · intro _ H1 e1
      refine ev_mixed (a := seed) (b := turn + 1) (EvA.mono e1 (by walk_at "ea")) fun r H2 e2 => ?_
      exact ⟨_, rfl, _, _, rfl, rfl, hm, fin pos rest (turn + 1) _ H2 hpos (mm _).1 (mm _).2 (e1.trans e2)⟩
    intro hlt
    have hlt2 : pos < (cells.length : Int) := by
      have h5 := of_decide_eq_false hlt
      rw [List.length_map] at h5
      omega
    have hget : atI (cells.map V.int) pos = some (.int (cells[pos.toNat]'(by omega))) := by
      refine at_of (j := pos.toNat) (by omega) ?_
      rw [List.getElem?_map, List.getElem?_eq_getElem (by omega)]
      rfl
    generalize hcell : cells[pos.toNat]'(by omega) = cell at hget
    apply go_asg (v := .int cell)
    · refine ev_op (x := .ref ca) (y := .int pos) (by walk_at "ev") (by walk_at "ev") (rv_ixL (K := K) (sq_of h3') hget)
    refine go_setL (j := 1) upd_same (v := .int (pos + 1)) ?_ (ev_var rfl) ev_c (by simp) ?_
    · walk_at "ev"
    rw [upd_upd]
    show Go _ _ _ (upd H bb (.lst [.ref ca, .int (pos + 1), .int rest, .int (turn + 1), .int seed]))
    apply go_when
    · walk_at "et"
    · intro _ H1 e1
      refine ev_mixed (a := cell + seed) (b := turn + 1) (EvA.mono e1 (by walk_at "ea")) fun r H2 e2 => ?_
      exact ⟨_, rfl, _, _, rfl, rfl, hm, fin (pos + 1) rest (turn + 1) _ H2 (by omega) (mm _).1 (mm _).2 (e1.trans e2)⟩
    intro _
    refine go_setL (j := 2) upd_same (v := .int (cell / m)) ?_ (ev_var rfl) ev_c (by simp) ?_
    · refine ev_op (ev_var rfl) (ev_var rfl) (rv_I (wd _))
    apply go_retV
    · walk_at "ev"
    rw [upd_upd]
    exact fun H' e => fin (pos + 1) (cell / m) (turn + 1) _ H' (by omega) (mm _).1 (mm _).2 e
theorem eb_take {σ : L2.St} {Hd : Hp} {E : XK} {b : Bid} {ta tb : TE} {m : Int} (ha : Ev ta σ Hd (.ref b.b)) (hm : Ev tb σ Hd (.int m)) (h0 : 0 < m) (h1 : m < 2 ^ 80) : EvB K b (tCall (spB K PreTake RTake) [] E (tCons ta (tCons tb tNil))) σ Hd (isI fun r => 0 ≤ r ∧ r < m) := by
  refine EvB.imp (eb_call ha (eba_cons (eb_ev hm) eba_nil) ?_) ?_
  · rintro ds ⟨d, es, rfl, ⟨i, rfl, rfl⟩, rfl⟩
    exact ⟨_, rfl, h0, h1⟩
  · rintro d ⟨ds, ⟨d', es, rfl, ⟨i, rfl, rfl⟩, rfl⟩, m', r, e1, rfl, h2, h3⟩
    cases e1
    exact ⟨r, rfl, h2, h3⟩

def RClock (ds : List PyData) (d : PyData) : Prop := ∃ c : Int, d = .int c ∧ isClock c = true
theorem ok_law_clock (T : Tx K mg base) : FnOk P w K mg base CX0 9 T.a_law_clock T.d_law_clock ["_law_box_here"] (spB K (fun ds => ds = []) RClock) := by
  refine T.F_law_clock.ok sc_law_clock (fun vs H Q E h => ?_) (fun cdv A outer s H vs Q E hr h => ?_)
  · obtain ⟨b, ws, Hd, ds, rfl, hb, sx, B, hds, rfl, q⟩ := h
    cases hds
    rfl
  · obtain ⟨b, ws, Hd, ds, rfl, hb, sx, B, hds, rfl, q⟩ := h
    cases hds
    refine ⟨_, (pss_cons (ps_ret (pe_op op_add pe_int (pe_op op_mul pe_int (pe_call (ok_law_take (P := P) (w := w) T) (hr.mono (by omega)) (by rfl) T.g_law_take T.F_law_take.kp T.b_law_take .nil pass0 (pa_cons (pv 0) (pa_cons pe_int pa_nil))))))
      pss_nil), Go.go ?_⟩
    refine go_retB hb sx B (EvB.imp (eb_opI0 (K := K) (fun _ _ => rfl) (eb_ev ev_c) (eb_opI (fun _ _ => rfl) (eb_ev ev_c) (eb_take (ev_var rfl) ev_c (by decide) (by decide)) (fun i j hi hj => Or.inl (by omega)))) (P' := RClock []) ?_) q
    rintro d ⟨i, rfl, i1, j1, rfl, ⟨i2, j2, rfl, ⟨h1, h2⟩, rfl⟩, rfl⟩
    exact ⟨_, rfl, isClock_iff.mpr ⟨by omega, by omega, by omega⟩⟩
theorem eb_clock {σ : L2.St} {Hd : Hp} {E : XK} {b : Bid} {ta : TE} (ha : Ev ta σ Hd (.ref b.b)) : EvB K b (tCall (spB K (fun ds => ds = []) RClock) [] E (tCons ta tNil)) σ Hd (isI fun c => isClock c = true) := by
  refine EvB.imp (eb_call ha eba_nil fun ds e => e) ?_
  rintro d ⟨ds, rfl, c, rfl, h⟩
  exact ⟨c, rfl, h⟩
/-- the box is made -/
def spBox (K : PySem.W.Frag) : Sp := fun vs H Q _ => ∃ (a : Addr) (ns : List Int), vs = [.ref a] ∧ SqL K H a (ns.map V.int) ∧ ns.length ≤ 63 ∧ ∀ (b : Bid) H2, H b.b = none → H b.ca = none → Ex H H2 → Bx H2 b → Q (.ref b.b) H2
theorem cut_ints {ns : List Int} : cutV (ns.map V.int) none (some 63) = ((ns.take 63).map V.int) := by
  unfold cutV
  rw [HT.sIx_none, show HT.sIx (ns.map V.int).length (ns.map V.int).length (some 63) = min 63 (ns.map V.int).length from HT.sIx_nat _ _ 63]
  rw [List.drop_zero, Nat.sub_zero, List.length_map, List.map_take]
  by_cases h : 63 ≤ ns.length
  · rw [Nat.min_eq_left h]
  · rw [Nat.min_eq_right (by omega), List.take_of_length_le (by rw [List.length_map]; omega), List.take_of_length_le (by rw [List.length_map]; omega)]
theorem ok_law_box (T : Tx K mg base) : FnOk P w K mg base CX0 1 T.a_law_box T.d_law_box ["_law_script"] (spBox K) := by
  refine T.F_law_box.ok sc_law_box (fun vs H Q E h => ?_) (fun cdv A outer s H vs Q E hr h => ?_)
  · obtain ⟨a, ns, rfl, _⟩ := h
    rfl
  · obtain ⟨a, ns, rfl, hL, hn, q⟩ := h
    refine ⟨_, (pss_cons (ps_set (i := 1) sc_law_box.nd rfl (.inl rfl) pe_int)
      (pss_cons (ps_for PassesOwn.never rfl (pi_list (pe_slice (r := rSlL K) sl_list (pv 0) po_none (po_some pe_int))) (pg_name (i := 2) sc_law_box.nd rfl (.inl rfl)) (pss_cons (ps_set (i := 1) sc_law_box.nd rfl (.inl rfl) (pe_op op_mod (pe_op op_add (pe_op op_add (pe_op op_mul (pv 1) pe_int) (pe_op op_mod (pv 2) pe_int)) pe_int) pe_int))
      pss_nil))
      (pss_cons (ps_ret (pe_lst (pa_cons (pe_callTy (r := rListS K) call_listQ (by rfl) T.n_list (by decide +kernel) (pa_cons (pe_slice (r := rSlL K) sl_list (pv 0) po_none (po_some pe_int)) pa_nil)) (pa_cons pe_int (pa_cons pe_int (pa_cons pe_int (pa_cons (pv 1) pa_nil)))))))
      pss_nil))), ?_⟩
    refine q_asg ev_c fun H1 e1 => ?_
    refine q_forNLn (K := K) (xs := (ns.take 63).map V.int) ?_ (fun p i σ H' => Ex H H' ∧ H p = none ∧ H' p = some (.lst ((ns.take 63).map V.int)) ∧ ∃ (z : Int) (x : Option V), σ = [some (.ref a), some (.int z), x]) (fun p H2 hp e2 h2 => ⟨e1.trans e2, fresh_back e1 hp, h2, 7, none, rfl⟩) (fun p i σ' H' _ h => sq_of h.2.2.1) ?_ ?_
    · rw [← cut_ints]
      exact el_sl (ev_var rfl) eo_none (eo_some ev_c) (ex_l e1 hL)
    · rintro p i x σ' H' hx ⟨e2, hp, h2, z, x0, rfl⟩
      rw [List.getElem?_map] at hx
      cases hh : (ns.take 63)[i]? with
      | none => rw [hh] at hx; cases hx
      | some y =>
        rw [hh] at hx
        cases hx
        refine Go.go ?_
        apply go_asg
        · walk_at "ev"
        exact go_next fun H3 e3 => ⟨e2.trans e3, hp, e3 _ _ h2, _, _, rfl⟩
    · rintro p σ' H' ⟨e2, hp, h2, z, x0, rfl⟩
      have hE : Ex H H' := e2
      refine el_sl (K := K) (ev_var rfl) eo_none (eo_some ev_c) (ex_l hE hL) H' (Ex.refl _) _ fun c H4 hc e4 h4 => ?_
      rw [cut_ints] at h4
      refine ⟨c, _, rfl, Or.inl (sq_of h4), fun l hl => ?_⟩
      refine ⟨.int z, rfl, by show 5 ≤ sizeLine; decide, fun b hb => ?_⟩
      have nlb : l ≠ b := fun e => by
        subst e
        rw [upd_same] at hb
        cases hb
      have hb4 : H4 b = none := by
        rw [upd_ne nlb.symm] at hb
        exact hb
      refine q ⟨b, l⟩ _ (fresh_back (hE.trans e4) hb4) (fresh_back (hE.trans e4) hl) (((hE.trans e4).trans (Ex.new hl)).trans (Ex.new hb)) ⟨ns.take 63, _, upd_same, ⟨0, 0, 0, z, rfl, by decide⟩, ?_, ?_⟩
      · rw [upd_ne nlb, upd_same]
      · rw [List.length_take]
        omega
theorem go_box {σ : L2.St} {H : Hp} {E : XK} {ta : TE} {tz : TS} {D : Ends} {i : Nat} {a : Addr} {ns : List Int} (hL : SqL K H a (ns.map V.int)) (hn : ns.length ≤ 63) (h : Ev ta σ H (.ref a)) (k : ∀ (b : Bid) H', H b.b = none → H b.ca = none → Ex H H' → Bx H' b → Go tz D (σ.set i (some (.ref b.b))) H') : Go (tSeq (tAsg (tCall (spBox K) [] E (tCons ta tNil)) (gName i)) tz) D σ H := fun H1 e1 =>
  h H1 e1 _ fun H2 e2 => ⟨a, ns, rfl, ex_l (e1.trans e2) hL, hn, fun b H3 hb hc e3 B => k b H3 (fresh_back (e1.trans e2) hb) (fresh_back (e1.trans e2) hc) ((e1.trans e2).trans e3) B H3 (Ex.refl _)⟩
def sp_law (K : PySem.W.Frag) : Sp := fun vs H Q _ => ∃ (a : Addr) (ns : List Int), vs = [.ref a] ∧ SqL K H a (ns.map V.int) ∧ ns.length ≤ 63 ∧ ∀ H', Q (.bl true) H'

/-! ### charts as data -/
def dRow (r : List Int) : PyData := .tuple (r.map .int)
def dChart (c : Int) (rows : List (List Int)) : PyData := .tuple [.int c, .tuple (rows.map dRow)]
def isRow (c : Int) (w : Int) (r : List Int) : Bool := decide ((r.length : Int) = w) && r.all fun x => decide (-2 ≤ x) && decide (x < c)
def isChart (c : Int) (rows : List (List Int)) : Bool := isClock c && (decide (1 ≤ (rows.length : Int)) && decide ((rows.length : Int) ≤ 9)) && (decide (1 ≤ (((rows.headD []).length : Nat) : Int)) && decide (((rows.headD []).length : Int) ≤ 9) && rows.all (isRow c (rows.headD []).length))
theorem range_all (ns : List Int) (f : Int → Bool) : (List.range ns.length).map (fun i => PyData.bool (f ((ns[i]?).getD 0))) = (ns.map f).map PyData.bool := by
  apply List.ext_getElem
  · simp
  · intro i h1 h2
    simp at h1 h2
    simp [h1]
theorem range_rows (ns : List (List Int)) (f : List Int → Bool) : (List.range ns.length).map (fun i => PyData.bool (f ((ns[i]?).getD []))) = (ns.map f).map PyData.bool := by
  apply List.ext_getElem
  · simp
  · intro i h1 h2
    simp at h1 h2
    simp [h1]
def R_is_what (vs : List V) (v : V) : Prop := ∃ c x, vs = [.int c, .int x] ∧ v = .bl (decide (-2 ≤ x) && decide (x < c))
theorem ok_is_what (T : Tx K mg base) : FnOk P w K mg base CX0 1 T.a_is_what T.d_is_what ["clock", "one"] (spS R_is_what) := by
  refine T.F_is_what.ok sc_is_what (fun vs H Q E h => ?_) (fun cdv A outer s H vs Q E hr h => ?_)
  · obtain ⟨v, ⟨c, x, rfl, rfl⟩, q⟩ := h
    rfl
  · obtain ⟨v, ⟨c, x, rfl, rfl⟩, q⟩ := h
    refine ⟨_, (pss_cons (ps_ret (pe_chain op_le op_lt (pe_glob (v := .int (-2)) rfl T.c_UNTOLD ⟨_, rfl⟩) (pv 1) (pv 0)))
      pss_nil), Go.go ?_⟩
    apply go_retE (k := q)
    · walk_at "ev"
    · rfl
theorem ev_is_what {σ : L2.St} {H : Hp} {E : XK} {tr : TA} {c x : Int} (h : EvA tr σ H [.int c, .int x]) : Ev (tCall (spS R_is_what) [] E tr) σ H (.bl (decide (-2 ≤ x) && decide (x < c))) := ev_callS h ⟨c, x, rfl, rfl⟩
local macro_rules | `(tactic| walk_at "ev") => `(tactic| ((with_reducible apply ev_is_what); walk_at "ea"))

/-! ### charts as tables: rows and squares -/
def rowOf (w : Nat) (g : Nat → Int) : List Int := (List.range w).map g
def tab (h w : Nat) (f : Nat → Nat → Int) : List (List Int) := (List.range h).map fun i => rowOf w (f i)
theorem row_len {w : Nat} {g : Nat → Int} : (rowOf w g).length = w := by unfold rowOf; rw [List.length_map, List.length_range]
theorem tab_len {h w : Nat} {f : Nat → Nat → Int} : (tab h w f).length = h := by unfold tab; rw [List.length_map, List.length_range]
theorem row_get {w j : Nat} {g : Nat → Int} (hj : j < w) : (rowOf w g)[j]? = some (g j) := by
  unfold rowOf
  rw [List.getElem?_map, List.getElem?_range hj]
  rfl
theorem tab_get {h w i : Nat} {f : Nat → Nat → Int} (hi : i < h) : (tab h w f)[i]? = some (rowOf w (f i)) := by
  unfold tab
  rw [List.getElem?_map, List.getElem?_range hi]
  rfl
theorem row_congr {w : Nat} {f g : Nat → Int} (e : ∀ j, j < w → f j = g j) : rowOf w f = rowOf w g := by
  unfold rowOf
  exact List.map_congr_left fun j hj => e j (List.mem_range.mp hj)
theorem tab_congr {h w : Nat} {f g : Nat → Nat → Int} (e : ∀ i j, i < h → j < w → f i j = g i j) : tab h w f = tab h w g := by
  unfold tab
  exact List.map_congr_left fun i hi => row_congr fun j hj => e i j (List.mem_range.mp hi) hj
theorem row_rev {w : Nat} {g : Nat → Int} : (rowOf w g).reverse = rowOf w fun j => g (w - 1 - j) := by
  apply List.ext_getElem?
  intro i
  by_cases hi : i < w
  · rw [List.getElem?_reverse (by rw [row_len]; exact hi), row_len, row_get (by omega), row_get hi]
  · rw [List.getElem?_eq_none (by rw [List.length_reverse, row_len]; omega), List.getElem?_eq_none (by rw [row_len]; omega)]
theorem tab_rev {h w : Nat} {f : Nat → Nat → Int} : (tab h w f).reverse = tab h w fun i j => f (h - 1 - i) j := by
  apply List.ext_getElem?
  intro i
  by_cases hi : i < h
  · rw [List.getElem?_reverse (by rw [tab_len]; exact hi), tab_len, tab_get (by omega), tab_get hi]
  · rw [List.getElem?_eq_none (by rw [List.length_reverse, tab_len]; omega), List.getElem?_eq_none (by rw [tab_len]; omega)]
theorem row_given {w : Nat} {g : Nat → Int} : (rowOf w g).map PyData.int = givenD w (fun _ => true) (fun j => .int (g j)) := by
  rw [givenD_all]
  unfold rowOf
  rw [List.map_map]
  rfl
theorem tab_given {h w : Nat} {f : Nat → Nat → Int} : (tab h w f).map dRow = givenD h (fun _ => true) (fun i => dRow (rowOf w (f i))) := by
  rw [givenD_all]
  unfold tab
  rw [List.map_map]
  rfl
theorem tab_set {h w r : Nat} {f f' : Nat → Nat → Int} {row : List Int} (hr : r < h) (e1 : row = rowOf w (f' r)) (e2 : ∀ i j, i < h → j < w → i ≠ r → f' i j = f i j) : (tab h w f).set r row = tab h w f' := by
  apply List.ext_getElem?
  intro i
  by_cases hi : i < h
  · rw [tab_get hi]
    by_cases e : r = i
    · subst e
      rw [List.getElem?_set_self (by rw [tab_len]; exact hr), e1]
    · rw [List.getElem?_set_ne e, tab_get hi]
      congr 1
      exact row_congr fun j hj => (e2 i j hi hj fun x => e x.symm).symm
  · rw [List.getElem?_eq_none (by rw [List.length_set, tab_len]; omega), List.getElem?_eq_none (by rw [tab_len]; omega)]
theorem rows_back {σ : L2.St} {D : Hp} {tl : TE} {h w : Nat} {F : Nat → Nat → Int} {i0 : Nat} {vs : List Nat} (hd : EvD K tl σ D (.list ((tab h w F).map fun r => .list (r.map .int)))) (h9 : h ≤ 9) (hw : ∀ u, wipe ((wipe σ vs).set i0 (some u)) vs = wipe σ vs) (hj : ∀ u, ((wipe σ vs).set i0 (some u))[i0]? = some (some u)) :
    EvN K (tLc (iList K tl) (gName i0) tYes (tCB (rTupS K) (tCons (tVar i0) tNil)) vs) σ D ((tab h w F).map dRow) := by
  have e : ((tab h w F).map fun r => PyData.list (r.map .int)).length = h := by rw [List.length_map, tab_len]
  have key := en_lc (vs := vs) (tt := tYes) (te := tCB (rTupS K) (tCons (tVar i0) tNil)) (ei_list (K := K) (j := i0) hd) (by rw [e]; omega) (fun _ => true) (fun i => dRow (rowOf w (F i))) ?_
  · rw [e, ← tab_given] at key
    exact key
  · rintro i σ2 Hm hi ek ⟨u, d, h3, h4, rfl⟩
    rw [e] at hi
    rw [List.getElem?_map, tab_get hi] at h3
    cases h3
    exact ⟨hw u, et_yes, fun _ => ed_tupleL (ed_var (hj u) h4)⟩
def withF (r k : Nat) (v : Int) (f : Nat → Nat → Int) : Nat → Nat → Int := fun i j => if i = r ∧ j = k then v else f i j
theorem with_tab {h w r k : Nat} {v : Int} {f : Nat → Nat → Int} (hr : r < h) (hk : k < w) : (tab h w f).set r ((rowOf w (f r)).set k v) = tab h w (withF r k v f) := by
  refine tab_set hr ?_ fun i j _ _ hne => ?_
  · apply List.ext_getElem?
    intro j
    by_cases hj : j < w
    · rw [row_get hj]
      by_cases e : k = j
      · subst e
        rw [List.getElem?_set_self (by rw [row_len]; exact hj)]
        unfold withF
        rw [if_pos ⟨rfl, rfl⟩]
      · rw [List.getElem?_set_ne e, row_get hj]
        unfold withF
        rw [if_neg (fun x => e x.2.symm)]
    · rw [List.getElem?_eq_none (by rw [List.length_set, row_len]; omega), List.getElem?_eq_none (by rw [row_len]; omega)]
  · unfold withF
    rw [if_neg (fun x => hne x.1)]

/-! ### logs -/
/-- kinds of refusals -/
inductive Er
  | clock
  | square
  | hour
  | day
  | full
deriving DecidableEq
def Er.cls (T : Tx K mg base) : Er → Addr
  | .clock => T.a_BadClock
  | .square => T.a_BadSquare
  | .hour => T.a_BadHour
  | .day => T.a_BadDay
  | .full => T.a_Full
def Er.word : Er → Str
  | .clock => "clock"
  | .square => "square"
  | .hour => "hour"
  | .day => "day"
  | .full => "full"
structure LogM where
  clock : Int
  high : Int
  wide : Int
  kept : List (Int × List Int)
  next : Int
def okE4 (c h w : Int) (e : List Int) : Prop := ∃ d r k o, e = [d, r, k, o] ∧ (0 ≤ d ∧ d ≤ 999) ∧ (0 ≤ r ∧ r < h) ∧ (0 ≤ k ∧ k < w) ∧ -2 ≤ o ∧ o < c
structure LogOk (l : LogM) : Prop where
  clk : isClock l.clock = true
  h1 : 1 ≤ l.high
  h9 : l.high ≤ 9
  w1 : 1 ≤ l.wide
  w9 : l.wide ≤ 9
  n1 : 1 ≤ l.next
  num : ∀ e ∈ l.kept, 1 ≤ e.1 ∧ e.1 < l.next
  srt : l.kept.Pairwise fun a b => a.1 < b.1
  ent : ∀ e ∈ l.kept, okE4 l.clock l.high l.wide e.2
  few : l.kept.length ≤ 200
def logF (l : LogM) (d : Addr) : List (Str × V) := [("clock", .int l.clock), ("high", .int l.high), ("wide", .int l.wide), ("kept", .ref d), ("next_number", .int l.next)]
/-- the dict's pairs: numbers, and tuples of ints -/
inductive KvAt (K : PySem.W.Frag) (H : Hp) : List (Key × V) → List (Int × List Int) → Prop
  | nil : KvAt K H [] []
  | cons {t : Addr} {n : Int} {e : List Int} {kvs : List (Key × V)} {es : List (Int × List Int)} (hs : SqT K H t (e.map V.int)) (r : KvAt K H kvs es) : KvAt K H ((.inl n, .ref t) :: kvs) ((n, e) :: es)
structure LogAt (K : PySem.W.Frag) (C : Addr) (Hd H : Hp) (p d : Addr) (l : LogM) : Prop where
  ob : ∃ dx, H p = some (.ins C dx (logF l d))
  kp : ∃ kvs, H d = some (.dK kvs) ∧ KvAt K Hd kvs l.kept
  ok : LogOk l
theorem KvAt.mono {H H2 : Hp} (e : Ex H H2) : ∀ {kvs : List (Key × V)} {es : List (Int × List Int)}, KvAt K H kvs es → KvAt K H2 kvs es
  | _, _, .nil => .nil
  | _, _, .cons hs r => .cons (ex_t e hs) (r.mono e)
theorem KvAt.len {H : Hp} : ∀ {kvs : List (Key × V)} {es : List (Int × List Int)}, KvAt K H kvs es → kvs.length = es.length
  | _, _, .nil => rfl
  | _, _, .cons _ r => by rw [List.length_cons, List.length_cons, r.len]
theorem KvAt.get {H : Hp} : ∀ {kvs : List (Key × V)} {es : List (Int × List Int)} {i : Nat} {k : Key} {v : V}, KvAt K H kvs es → kvs[i]? = some (k, v) → ∃ (n : Int) (e : List Int) (t : Addr), es[i]? = some (n, e) ∧ k = .inl n ∧ v = .ref t ∧ SqT K H t (e.map V.int)
  | _, _, i, _, _, .nil, h => by simp at h
  | _, _, 0, k, v, .cons hs r, h => by
    cases h
    exact ⟨_, _, _, rfl, rfl, rfl, hs⟩
  | _, _, i + 1, k, v, .cons hs r, h => by
    obtain ⟨n, e, t, h1, h2⟩ := r.get (i := i) (by simpa using h)
    exact ⟨n, e, t, by simpa using h1, h2⟩
theorem KvAt.app {H : Hp} {t : Addr} {n : Int} {e : List Int} (hs : SqT K H t (e.map V.int)) : ∀ {kvs : List (Key × V)} {es : List (Int × List Int)}, KvAt K H kvs es → KvAt K H (kvs ++ [(.inl n, .ref t)]) (es ++ [(n, e)])
  | _, _, .nil => .cons hs .nil
  | _, _, .cons h r => .cons h (r.app hs)
theorem KvAt.val {H : Hp} {n : Int} : ∀ {kvs : List (Key × V)} {es : List (Int × List Int)}, KvAt K H kvs es → (valV kvs (.inl n)).isSome = es.any fun e => decide (e.1 = n)
  | _, _, .nil => rfl
  | _, _, .cons (n := m) h r => by
    rw [List.any_cons]
    by_cases e : m = n
    · rw [valV_pos (by rw [e]), decide_eq_true e, Bool.true_or]
      rfl
    · rw [valV_neg (fun z => e (Sum.inl.inj z)), decide_eq_false e, Bool.false_or, r.val]
theorem KvAt.drop {H : Hp} {n : Int} : ∀ {kvs : List (Key × V)} {es : List (Int × List Int)}, KvAt K H kvs es → KvAt K H (dropK kvs (.inl n)) (es.filter fun e => !decide (e.1 = n))
  | _, _, .nil => .nil
  | _, _, .cons (n := m) (e := e0) (kvs := kvs) (es := es) h r => by
    have ih := r.drop (n := n)
    unfold dropK at ih ⊢
    by_cases e : m = n
    · rw [List.filter_cons_of_neg (by simp [e]), List.filter_cons_of_neg (by simp [e])]
      exact ih
    · rw [List.filter_cons_of_pos (by simp [e]), List.filter_cons_of_pos (by simp [e])]
      exact .cons h ih
theorem LogAt.mono {C p d : Addr} {l : LogM} {Hd Hn H H2 : Hp} (dx : Ex Hd Hn) (e : Ex H H2) (L : LogAt K C Hd H p d l) : LogAt K C Hn H2 p d l := by
  obtain ⟨⟨dd, h1⟩, ⟨kvs, h2, h3⟩, ok⟩ := L
  exact ⟨⟨dd, e _ _ h1⟩, ⟨kvs, e _ _ h2, h3.mono dx⟩, ok⟩
/-- a log stays where others change -/
theorem LogAt.step {C p d : Addr} {l : LogM} {Tt : List (Addr × Str)} {M : List Addr} {Hd Hn H H2 : Hp} (L : LogAt K C Hd H p d l) (g : GrW Tt M Hd H Hn H2) (n1 : p ∉ M) (n2 : d ∉ M) : LogAt K C Hn H2 p d l := by
  obtain ⟨⟨dd, h1⟩, ⟨kvs, h2, h3⟩, ok⟩ := L
  exact ⟨⟨dd, g.ex _ _ h1 n1 noTb_ins⟩, ⟨kvs, g.ex _ _ h2 n2 noTb_dK, h3.mono g.dx⟩, ok⟩
theorem LogAt.extN {C p d : Addr} {l : LogM} {Hd H H2 : Hp} (L : LogAt K C Hd H p d l) (e : LamX.ExtN H H2) : LogAt K C Hd H2 p d l := by
  obtain ⟨⟨dd, h1⟩, ⟨kvs, h2, h3⟩, ok⟩ := L
  exact ⟨⟨dd, e _ _ h1 noTb_ins⟩, ⟨kvs, e _ _ h2 noTb_dK, h3⟩, ok⟩
theorem LogAt.ne {C p d : Addr} {l : LogM} {Hd H : Hp} (L : LogAt K C Hd H p d l) : p ≠ d := by
  obtain ⟨⟨dx, h1⟩, ⟨kvs, h2, h3⟩, ok⟩ := L
  exact ne_of h1 h2 (by intro z; cases z)
/-- no tables stand at a log's places -/
theorem LogAt.nt {C p d : Addr} {l : LogM} {Hd H : Hp} (L : LogAt K C Hd H p d l) : ∀ a ∈ [p, d], NTb H a := fun a ha => by
  obtain ⟨⟨dx, h1⟩, ⟨kvs, h2, h3⟩, ok⟩ := L
  rcases List.mem_cons.mp ha with rfl | ha
  · exact ntb_ins h1
  · rw [List.mem_singleton.mp ha]
    exact ntb_dK h2
theorem logF_clock (l : LogM) (d : Addr) : (logF l d).lookup ("clock" : Str) = some (.int l.clock) := rfl
theorem logF_high (l : LogM) (d : Addr) : (logF l d).lookup ("high" : Str) = some (.int l.high) := rfl
theorem logF_wide (l : LogM) (d : Addr) : (logF l d).lookup ("wide" : Str) = some (.int l.wide) := rfl
theorem logF_kept (l : LogM) (d : Addr) : (logF l d).lookup ("kept" : Str) = some (.ref d) := rfl
theorem logF_next (l : LogM) (d : Addr) : (logF l d).lookup ("next_number" : Str) = some (.int l.next) := rfl
theorem logF_put (l : LogM) (d : Addr) (i : Int) : putF "next_number" (.int i) (logF l d) = logF { l with next := i } d := rfl
theorem logF_new (c h w : Int) (d : Addr) : putF "next_number" (.int 1) (putF "kept" (.ref d) (putF "wide" (.int w) (putF "high" (.int h) (putF "clock" (.int c) [])))) = logF ⟨c, h, w, [], 1⟩ d := rfl
def newE (c h w : Int) : Option Er := if isClock c = true then (if (1 ≤ h ∧ h ≤ 9) ∧ 1 ≤ w ∧ w ≤ 9 then none else some .square) else some .clock
def addE (l : LogM) (r k o y : Int) : Option Er := if (0 ≤ r ∧ r < l.high) ∧ 0 ≤ k ∧ k < l.wide then (if -2 ≤ o ∧ o < l.clock then (if 0 ≤ y ∧ y ≤ 999 then (if l.kept.length < 200 then none else some .full) else some .day) else some .hour) else some .square
def newL (c h w : Int) : LogM := ⟨c, h, w, [], 1⟩
def addL (l : LogM) (r k o y : Int) : LogM := { l with kept := l.kept ++ [(l.next, [y, r, k, o])], next := l.next + 1 }
def strikeL (l : LogM) (n : Int) : LogM := { l with kept := l.kept.filter fun e => !decide (e.1 = n) }
theorem newL_ok {c h w : Int} (e : newE c h w = none) : LogOk (newL c h w) := by
  unfold newE at e
  split at e
  · rename_i hc
    split at e
    · rename_i h2
      exact ⟨hc, h2.1.1, h2.1.2, h2.2.1, h2.2.2, (show (1 : Int) ≤ 1 by decide), fun e he => (by cases he), .nil, fun e he => (by cases he), Nat.zero_le _⟩
    · cases e
  · cases e
theorem addL_ok {l : LogM} {r k o y : Int} (L : LogOk l) (e : addE l r k o y = none) : LogOk (addL l r k o y) := by
  unfold addE at e
  split at e
  · rename_i h1
    split at e
    · rename_i h2
      split at e
      · rename_i h3
        split at e
        · rename_i h4
          refine ⟨L.clk, L.h1, L.h9, L.w1, L.w9, by have := L.n1; show 1 ≤ l.next + 1; omega, fun e he => ?_, ?_, fun e he => ?_, ?_⟩
          · have n1 := L.n1
            show 1 ≤ e.1 ∧ e.1 < l.next + 1
            rcases List.mem_append.mp he with he | he
            · have := L.num e he
              omega
            · rw [List.mem_singleton.mp he]
              show 1 ≤ l.next ∧ l.next < l.next + 1
              omega
          · refine List.pairwise_append.mpr ⟨L.srt, List.pairwise_singleton _ _, fun a ha b hb => ?_⟩
            rw [List.mem_singleton.mp hb]
            exact (L.num a ha).2
          · rcases List.mem_append.mp he with he | he
            · exact L.ent e he
            · rw [List.mem_singleton.mp he]
              exact ⟨y, r, k, o, rfl, h3, h1.1, h1.2, h2⟩
          · show (l.kept ++ [_]).length ≤ 200
            rw [List.length_append, List.length_singleton]
            omega
        · cases e
      · cases e
    · cases e
  · cases e
theorem strikeL_ok {l : LogM} {n : Int} (L : LogOk l) : LogOk (strikeL l n) := by
  have sub : (strikeL l n).kept.Sublist l.kept := List.filter_sublist
  exact ⟨L.clk, L.h1, L.h9, L.w1, L.w9, L.n1, fun e he => L.num e (sub.subset he), L.srt.sublist sub, fun e he => L.ent e (sub.subset he), Nat.le_trans sub.length_le L.few⟩
theorem next_new {l : LogM} {H : Hp} {kvs : List (Key × V)} (L : LogOk l) (k : KvAt K H kvs l.kept) : valV kvs (.inl l.next) = none := by
  have h := k.val (n := l.next)
  have : (l.kept.any fun e => decide (e.1 = l.next)) = false := by
    rw [List.any_eq_false]
    intro e he
    have := (L.num e he).2
    simp only [decide_eq_true_eq]
    omega
  rw [this] at h
  cases e : valV kvs (.inl l.next) with
  | none => rfl
  | some v =>
    rw [e] at h
    cases h
section
variable {σ : L2.St} {H : Hp} {ta : TE} {p C dx d : Addr} {l : LogM}
theorem ev_clock (ha : Ev ta σ H (.ref p)) (h : H p = some (.ins C dx (logF l d))) (c : Cls K C) (n : NoAttr K C "clock") : Ev (tFld K ta "clock") σ H (.int l.clock) := ev_fld ha h c n (logF_clock l d)
theorem ev_high (ha : Ev ta σ H (.ref p)) (h : H p = some (.ins C dx (logF l d))) (c : Cls K C) (n : NoAttr K C "high") : Ev (tFld K ta "high") σ H (.int l.high) := ev_fld ha h c n (logF_high l d)
theorem ev_wide (ha : Ev ta σ H (.ref p)) (h : H p = some (.ins C dx (logF l d))) (c : Cls K C) (n : NoAttr K C "wide") : Ev (tFld K ta "wide") σ H (.int l.wide) := ev_fld ha h c n (logF_wide l d)
theorem ev_kept (ha : Ev ta σ H (.ref p)) (h : H p = some (.ins C dx (logF l d))) (c : Cls K C) (n : NoAttr K C "kept") : Ev (tFld K ta "kept") σ H (.ref d) := ev_fld ha h c n (logF_kept l d)
theorem ev_next (ha : Ev ta σ H (.ref p)) (h : H p = some (.ins C dx (logF l d))) (c : Cls K C) (n : NoAttr K C "next_number") : Ev (tFld K ta "next_number") σ H (.int l.next) := ev_fld ha h c n (logF_next l d)
end
local macro_rules | `(tactic| walk_at "ev") => `(tactic| first
  | ((with_reducible apply ev_clock) <;> first | exact ev_var rfl | assumption)
  | ((with_reducible apply ev_high) <;> first | exact ev_var rfl | assumption)
  | ((with_reducible apply ev_wide) <;> first | exact ev_var rfl | assumption)
  | ((with_reducible apply ev_kept) <;> first | exact ev_var rfl | assumption)
  | ((with_reducible apply ev_next) <;> first | exact ev_var rfl | assumption))
def RX_day (ds : List PyData) (d : PyData) : Prop := ∃ y : Int, ds = [.int y] ∧ d = .none ∧ (0 ≤ y ∧ y ≤ 999)
def XX_day (T : Tx K mg base) (ds : List PyData) (C : Addr) : Prop := ∃ y : Int, ds = [.int y] ∧ C = T.a_BadDay ∧ ¬ (0 ≤ y ∧ y ≤ 999)
theorem okX_need_day (T : Tx K mg base) : FnOk P w K mg base (L2N.CX P w) 1 T.a_need_day T.d_need_day ["day"] (spX K RX_day (XX_day T)) := by
  refine okN T.F_need_day sc_need_day (fun vs H Q E h => ?_) (fun cdv A outer s H vs Q E hr h => ?_)
  · obtain ⟨Hd, ds, e, hd, ⟨d, ⟨c, rfl, _⟩, _⟩ | ⟨C, ⟨c, rfl, _⟩, _⟩⟩ := h <;> exact dpa_len hd
  · obtain ⟨Hd, ds, e, hd, h⟩ := h
    have key : ∃ y : Int, ds = [.int y] ∧ (0 ≤ y ∧ y ≤ 999 → ∀ H2, Ex H H2 → Q .non H2) ∧ (¬ (0 ≤ y ∧ y ≤ 999) → ∀ H2, Ex H H2 → E (.ref T.a_BadDay) none H2) := by
      rcases h with ⟨d, ⟨y, rfl, rfl, hy⟩, q⟩ | ⟨C, ⟨y, rfl, rfl, hy⟩, q⟩
      · exact ⟨y, rfl, fun _ H2 e2 => q .non H2 Hd (Gr.ext e e2) .non, fun z => absurd hy z⟩
      · exact ⟨y, rfl, fun z => absurd z hy, fun _ => q⟩
    obtain ⟨y, rfl, good, bad⟩ := key
    cases hd with
    | cons h1 h2 =>
    cases h2
    cases h1
    refine ⟨_, (pss_cons (ps_if (pt_not (pt_chain op_le op_le pe_int (pv 0) (pe_glob (v := .int (999)) rfl T.c_LAST_DAY ⟨_, rfl⟩))) (pss_cons (L2N.ps_raise rfl (L2N.takes_of rfl rfl rfl rfl) (T.X_BadDay.pmk (by rfl)))
      pss_nil) pss_nil)
      pss_nil), Go.go ?_⟩
    refine go_when (et_not (et_B (ev_chainB ev_c (ev_var rfl) rv_I0 ev_c rv_I0))) (fun z => go_raise (bad ?_)) (fun z => go_next fun H2 e2 => good ?_ H2 e2)
    · rintro ⟨z1, z2⟩
      rw [decide_eq_true z1, decide_eq_true z2] at z
      cases z
    · rw [Bool.not_eq_false', Bool.and_eq_true, decide_eq_true_eq, decide_eq_true_eq] at z
      exact z

def RX_what (ds : List PyData) (d : PyData) : Prop := ∃ c o : Int, ds = [.int c, .int o] ∧ d = .none ∧ (-2 ≤ o ∧ o < c)
def XX_what (T : Tx K mg base) (ds : List PyData) (C : Addr) : Prop := ∃ c o : Int, ds = [.int c, .int o] ∧ C = T.a_BadHour ∧ ¬ (-2 ≤ o ∧ o < c)
theorem okX_need_what (T : Tx K mg base) : FnOk P w K mg base (L2N.CX P w) 2 T.a_need_what T.d_need_what ["clock", "one"] (spX K RX_what (XX_what T)) := by
  refine okN T.F_need_what sc_need_what (fun vs H Q E h => ?_) (fun cdv A outer s H vs Q E hr h => ?_)
  · obtain ⟨Hd, ds, e, hd, ⟨d, ⟨c, o, rfl, _⟩, _⟩ | ⟨C, ⟨c, o, rfl, _⟩, _⟩⟩ := h <;> exact dpa_len hd
  · obtain ⟨Hd, ds, e, hd, h⟩ := h
    have key : ∃ c o : Int, ds = [.int c, .int o] ∧ (-2 ≤ o ∧ o < c → ∀ H2, Ex H H2 → Q .non H2) ∧ (¬ (-2 ≤ o ∧ o < c) → ∀ H2, Ex H H2 → E (.ref T.a_BadHour) none H2) := by
      rcases h with ⟨d, ⟨c, o, rfl, rfl, hy⟩, q⟩ | ⟨C, ⟨c, o, rfl, rfl, hy⟩, q⟩
      · exact ⟨c, o, rfl, fun _ H2 e2 => q .non H2 Hd (Gr.ext e e2) .non, fun z => absurd hy z⟩
      · exact ⟨c, o, rfl, fun z => absurd z hy, fun _ => q⟩
    obtain ⟨c, o, rfl, good, bad⟩ := key
    cases hd with
    | cons h1 h2 =>
    cases h2 with
    | cons h2 h3 =>
    cases h3
    cases h1
    cases h2
    refine ⟨_, (pss_cons (ps_if (pt_not (pt_val (pe_call (ok_is_what (P := P) (w := w) T) (hr.mono (by omega)) (by rfl) T.g_is_what T.F_is_what.kp T.b_is_what .nil pass0 (pa_cons (pv 0) (pa_cons (pv 1) pa_nil))))) (pss_cons (L2N.ps_raise rfl (L2N.takes_of rfl rfl rfl rfl) (T.X_BadHour.pmk (by rfl)))
      pss_nil) pss_nil)
      pss_nil), Go.go ?_⟩
    refine go_when (et_not (et_B (ev_is_what (ea_cons (ev_var rfl) (ea_cons (ev_var rfl) ea_nil))))) (fun z => go_raise (bad ?_)) (fun z => go_next fun H2 e2 => good ?_ H2 e2)
    · rintro ⟨z1, z2⟩
      rw [decide_eq_true z1, decide_eq_true z2] at z
      cases z
    · rw [Bool.not_eq_false', Bool.and_eq_true, decide_eq_true_eq, decide_eq_true_eq] at z
      exact z
def sp_Log_len (T : Tx K mg base) : Sp := fun vs H Q _ => ∃ p d l Hd, vs = [.ref p] ∧ LogAt K T.a_Log Hd H p d l ∧ ∀ H2, Ex H H2 → Q (.int (l.kept.length : Int)) H2
theorem okX_Log_len (T : Tx K mg base) : FnOk P w K mg base (L2N.CX P w) 4 T.a_Log_len T.d_Log_len ["self"] (sp_Log_len T) := by
  refine okN T.F_Log_len sc_Log_len (fun vs H Q E h => ?_) (fun cdv A outer s H vs Q E hr h => ?_)
  · obtain ⟨p, d, l, Hd, rfl, _⟩ := h
    rfl
  · obtain ⟨p, d, l, Hd, rfl, L, q⟩ := h
    obtain ⟨⟨dx, h1⟩, ⟨kvs, h2, h3⟩, ok⟩ := L
    have cl := T.Q_Log
    have na := T.na_Log_kept
    rw [← h3.len] at q
    exact ⟨_, (pss_cons (ps_ret (pe_callB (r := rLenK) call_lenK (by rfl) T.n_len PySem.boot_len (pa_cons (pe_fld (pv 0) rfl) pa_nil)))
      pss_nil), Go.go (go_retV (ev_lenK (by walk_at "ev") h2) q)⟩
def sp_Log_init (T : Tx K mg base) : Sp := fun vs H Q E => ∃ (p dx : Addr) (c h w : Int) (Hd : Hp), vs = [.ref p, .int c, .int h, .int w] ∧ H p = some (.ins T.a_Log dx []) ∧ Wld (tabsOf T) [p] Hd H ∧
  (newE c h w = none → ∀ d H2, H d = none → GrW (tabsOf T) [p] Hd H Hd H2 → LogAt K T.a_Log Hd H2 p d (newL c h w) → Q .non H2) ∧ (∀ er, newE c h w = some er → ∀ H2, Ex H H2 → E (.ref (er.cls T)) none H2)
theorem okX_Log_init (T : Tx K mg base) : FnOk P w K mg base (L2N.CX P w) 13 T.a_Log_init T.d_Log_init ["self", "clock", "high", "wide"] (sp_Log_init T) := by
  refine okN T.F_Log_init sc_Log_init (fun vs H Q E h => ?_) (fun cdv A outer s H vs Q E hr h => ?_)
  · obtain ⟨p, dx, c, hh, w, Hd, rfl, _⟩ := h
    rfl
  · obtain ⟨p, dx, c, hh, w, Hd, rfl, hp, W, good, bad⟩ := h
    have cl := T.Q_Log
    refine ⟨_, (pss_cons (ps_expr (pe_call (okX_need_clock T) (hr.mono (by omega)) (by rfl) T.g_need_clock T.F_need_clock.kp T.b_need_clock .nil (L2N.passes_call (L2N.takes_of rfl rfl rfl rfl) (fun _ _ _ _ h => h)) (pa_cons (pv 1) pa_nil)))
      (pss_cons (ps_if (pt_not (PW.pt (pw_and (pt_chain op_le op_le pe_int (pv 2) (pe_glob (v := .int (9)) rfl T.c_MOST_SQUARES ⟨_, rfl⟩)) (pw_and1 (pt_chain op_le op_le pe_int (pv 3) (pe_glob (v := .int (9)) rfl T.c_MOST_SQUARES ⟨_, rfl⟩)))))) (pss_cons (L2N.ps_raise rfl (L2N.takes_of rfl rfl rfl rfl) (T.X_BadSquare.pmk (by rfl)))
      pss_nil) pss_nil)
      (pss_cons (ps_fld (pv 0) (pv 1) rfl)
      (pss_cons (ps_fld (pv 0) (pv 2) rfl)
      (pss_cons (ps_fld (pv 0) (pv 3) rfl)
      (pss_cons (ps_fld (pv 0) pe_dnewK rfl)
      (pss_cons (ps_fld (pv 0) pe_int rfl)
      pss_nil))))))), Go.go ?_⟩
    cases hc : isClock c with
    | false => exact go_dropNo (K := K) (Hd := H) (C := T.a_BadClock) (Ex.refl _) (eda_cons (ed_int (ev_var rfl)) eda_nil) ⟨c, rfl, rfl, hc⟩ (bad .clock (by unfold newE; rw [if_neg (by rw [hc]; decide)]))
    | true =>
      refine go_dropOk (K := K) (Hd := H) (d := .none) (Ex.refl _) (eda_cons (ed_int (ev_var rfl)) eda_nil) ⟨c, rfl, rfl, hc⟩ fun v H2 Hn g _ => ?_
      refine go_when (et_not (et_andB (et_B (ev_chainB ev_c (ev_var rfl) rv_I0 ev_c rv_I0)) (et_B (ev_chainB ev_c (ev_var rfl) rv_I0 ev_c rv_I0)))) (fun z => go_raise fun H3 e3 => bad .square ?_ H3 (g.ex.trans e3)) (fun z => ?_)
      · unfold newE
        rw [if_pos hc, if_neg]
        rintro ⟨⟨z1, z2⟩, z3, z4⟩
        rw [decide_eq_true z1, decide_eq_true z2, decide_eq_true z3, decide_eq_true z4] at z
        cases z
      · have e0 : newE c hh w = none := by
          simp only [Bool.not_eq_false', Bool.and_eq_true, decide_eq_true_eq] at z
          unfold newE
          rw [if_pos hc, if_pos z]
        have h2 := g.ex _ _ hp
        refine go_fld (K := K) (ev_var rfl) (ev_var rfl) h2 cl T.na_Log_clock (by decide) ?_
        refine go_fld (K := K) (ev_var rfl) (ev_var rfl) upd_same cl T.na_Log_high (by show 1 < 1000; decide) ?_
        refine go_fld (K := K) (ev_var rfl) (ev_var rfl) upd_same cl T.na_Log_wide (by show 2 < 1000; decide) ?_
        refine go_fldNew (K := K) (fun _ => ev_var rfl) upd_same cl T.na_Log_kept (by show 3 < 1000; decide) fun d H4 e4 hd h4 => ?_
        refine go_fld (K := K) ev_c (ev_var rfl) upd_same cl T.na_Log_next_number (by show 4 < 1000; decide) ?_
        have npd : d ≠ p := fun z => by rw [z, upd_same] at hd; cases hd
        have hd0 : H d = none := by
          rw [upd_ne npd, upd_ne npd, upd_ne npd] at hd
          exact fresh_back g.ex hd
        refine go_next fun H5 e5 => ?_
        have k5 := e5 _ _ (show (upd (upd H4 p _) p _) p = some (.ins T.a_Log dx (logF (newL c hh w) d)) from upd_same)
        refine good e0 d H5 hd0 (GrW.chg W (fun a ha => ha) (fun a o ha n => e5 _ _ ?_) (fun a ha => ?_) (fun a ha => ?_)) ⟨⟨dx, k5⟩, ⟨[], e5 _ _ (by rw [upd_ne npd, upd_ne npd]; exact h4), .nil⟩, newL_ok e0⟩
        · have n' : a ≠ p := fun z => n (by rw [z]; exact List.mem_cons_self)
          rw [upd_ne n', upd_ne n']
          refine e4 _ _ ?_
          rw [upd_ne n', upd_ne n', upd_ne n']
          exact g.ex _ _ ha
        · rw [List.mem_singleton.mp ha]
          exact ⟨_, k5, noTb_ins⟩
        · rw [List.mem_singleton.mp ha]
          exact ntb_ins hp
def sp_Log_add (T : Tx K mg base) : Sp := fun vs H Q E => ∃ (p d : Addr) (l : LogM) (r k o y : Int) (Hd : Hp), vs = [.ref p, .int r, .int k, .int o, .int y] ∧ LogAt K T.a_Log Hd H p d l ∧ Wld (tabsOf T) [p, d] Hd H ∧
  (addE l r k o y = none → ∀ H2 Hn, GrW (tabsOf T) [p, d] Hd H Hn H2 → LogAt K T.a_Log Hn H2 p d (addL l r k o y) → Q (.int l.next) H2) ∧ (∀ er, addE l r k o y = some er → ∀ H2, Ex H H2 → E (.ref (er.cls T)) none H2)
theorem okX_Log_add (T : Tx K mg base) : FnOk P w K mg base (L2N.CX P w) 8 T.a_Log_add T.d_Log_add ["self", "row", "column", "one", "day"] (sp_Log_add T) := by
  refine okND T.F_Log_add sc_Log_add (fun vs H Q E h => ?_) (fun cdv A outer s H vs Q E hr h => ?_)
  · obtain ⟨p, d, l, r, k, o, y, Hd, rfl, _⟩ := h
    rfl
  · obtain ⟨p, d, l, r, k, o, y, Hd, rfl, L, W, good, bad⟩ := h
    have cl := T.Q_Log
    have n1 := T.na_Log_clock
    have n2 := T.na_Log_high
    have n3 := T.na_Log_wide
    have n4 := T.na_Log_kept
    have n5 := T.na_Log_next_number
    have L0 := L
    obtain ⟨⟨dx, h1⟩, ⟨kvs, h2, h3⟩, ok⟩ := L
    refine ⟨_, (pss_cons (ps_if (pt_not (PW.pt (pw_and (pt_chain op_le op_lt pe_int (pv 1) (pe_fld (pv 0) rfl)) (pw_and1 (pt_chain op_le op_lt pe_int (pv 2) (pe_fld (pv 0) rfl)))))) (pss_cons (L2N.ps_raise rfl (L2N.takes_of rfl rfl rfl rfl) (T.X_BadSquare.pmk (by rfl)))
      pss_nil) pss_nil)
      (pss_cons (ps_expr (pe_call (okX_need_what T) (hr.mono (by omega)) (by rfl) T.g_need_what T.F_need_what.kp T.b_need_what .nil (L2N.passes_call (L2N.takes_of rfl rfl rfl rfl) (fun _ _ _ _ h => h)) (pa_cons (pe_fld (pv 0) rfl) (pa_cons (pv 3) pa_nil))))
      (pss_cons (ps_expr (pe_call (okX_need_day T) (hr.mono (by omega)) (by rfl) T.g_need_day T.F_need_day.kp T.b_need_day .nil (L2N.passes_call (L2N.takes_of rfl rfl rfl rfl) (fun _ _ _ _ h => h)) (pa_cons (pv 4) pa_nil)))
      (pss_cons (ps_if (pt_cmpR op_ge (pe_callB (r := rLenK) call_lenK (by rfl) T.n_len PySem.boot_len (pa_cons (pe_fld (pv 0) rfl) pa_nil)) (pe_glob (v := .int (200)) rfl T.c_MOST_ENTRIES ⟨_, rfl⟩) (nomark _)) (pss_cons (L2N.ps_raise rfl (L2N.takes_of rfl rfl rfl rfl) (T.X_Full.pmk (by rfl)))
      pss_nil) pss_nil)
      (pss_cons (ps_set (i := 5) sc_Log_add.nd rfl (.inl rfl) (pe_fld (pv 0) rfl))
      (pss_cons (ps_dput (hu_of hr) (pe_fld (pv 0) rfl) (pv 5) (pe_tup (pa_cons (pv 4) (pa_cons (pv 1) (pa_cons (pv 2) (pa_cons (pv 3) pa_nil))))) rfl)
      (pss_cons (ps_fld (pv 0) (pe_op op_add (pv 5) pe_int) rfl)
      (pss_cons (ps_ret (pv 5))
      pss_nil)))))))), Go.go ?_⟩
    refine go_when (et_not (et_andB (et_B (ev_chainB ev_c (ev_var rfl) rv_I0 (by walk_at "ev") rv_I0)) (et_B (ev_chainB ev_c (ev_var rfl) rv_I0 (by walk_at "ev") rv_I0)))) (fun z => go_raise (bad .square ?_)) (fun z => ?_)
    · unfold addE
      rw [if_neg]
      rintro ⟨⟨z1, z2⟩, z3, z4⟩
      rw [decide_eq_true z1, decide_eq_true z2, decide_eq_true z3, decide_eq_true z4] at z
      cases z
    · simp only [Bool.not_eq_false', Bool.and_eq_true, decide_eq_true_eq] at z
      unfold addE at good bad
      rw [if_pos z] at good bad
      by_cases ho : -2 ≤ o ∧ o < l.clock
      · rw [if_pos ho] at good bad
        refine go_dropOk (K := K) (Hd := H) (d := .none) (ds := [.int l.clock, .int o]) (Ex.refl _) (eda_cons (ed_int (by walk_at "ev")) (eda_cons (ed_int (ev_var rfl)) eda_nil)) ⟨l.clock, o, rfl, rfl, ho⟩ fun v H3 Hn3 g3 _ => ?_
        by_cases hy : 0 ≤ y ∧ y ≤ 999
        · rw [if_pos hy] at good bad
          refine go_dropOk (K := K) (Hd := H3) (d := .none) (ds := [.int y]) (Ex.refl _) (eda_cons (ed_int (ev_var rfl)) eda_nil) ⟨y, rfl, rfl, hy⟩ fun v H4 Hn4 g4 _ => ?_
          have e4 : Ex H H4 := g3.ex.trans g4.ex
          have k1 := e4 _ _ h1
          have k2 := e4 _ _ h2
          refine go_when (et_test (ev_op (ev_lenK (by walk_at "ev") k2) ev_c rv_I0)) (fun z2 => go_raise fun H5 e5 => bad .full ?_ H5 (e4.trans e5)) (fun z2 => ?_)
          · rw [if_neg]
            have := h3.len
            have z3 : (200 : Int) ≤ (kvs.length : Int) := of_decide_eq_true z2
            omega
          · have hl : l.kept.length < 200 := by
              have := h3.len
              have z3 : ¬ (200 : Int) ≤ (kvs.length : Int) := of_decide_eq_false z2
              omega
            rw [if_pos hl] at good
            refine go_asg (v := .int l.next) (by walk_at "ev") ?_
            have hv := next_new ok h3
            refine go_dputT (dd := d) (k := .inl l.next) (xs := [.int y, .int r, .int k, .int o]) (by walk_at "ev") (ev_var rfl) (ea_cons (ev_var rfl) (ea_cons (ev_var rfl) (ea_cons (ev_var rfl) (ea_cons (ev_var rfl) ea_nil)))) k2 (by have := h3.len; omega) (by simp) fun t H5 e5 ht h5 => ?_
            have npd : p ≠ d := L0.ne
            have e5' : Ex H H5 := e4.trans e5
            have ht0 : H t = none := fresh_back e4 ht
            have j1 : (upd H5 d (.dK (putK kvs (.inl l.next) (.ref t)))) p = some (.ins T.a_Log dx (logF l d)) := by
              rw [upd_ne npd]
              exact e5 _ _ k1
            refine go_fld (K := K) (v := .int (l.next + 1)) (ev_op (ev_var rfl) ev_c rv_I0) (ev_var rfl) j1 cl n5 (by show 5 < 1000; decide) ?_
            refine go_retV (ev_var rfl) fun H6 e6 => ?_
            have m1 : H6 p = some (.ins T.a_Log dx (logF (addL l r k o y) d)) := e6 _ _ (by rw [upd_same]; rfl)
            have m2 : H6 d = some (.dK (kvs ++ [(.inl l.next, .ref t)])) := e6 _ _ (by rw [upd_ne npd.symm, upd_same, putK_new _ hv])
            have mt : ∀ a ob, a ≠ p → a ≠ d → H5 a = some ob → H6 a = some ob := fun a ob q1 q2 hob => e6 _ _ (by rw [upd_ne q1, upd_ne q2]; exact hob)
            have td : t ≠ d := ne_of h5 (e5 _ _ k2) (by intro z; cases z)
            have tp : t ≠ p := ne_of h5 (e5 _ _ k1) (by intro z; cases z)
            have g6 : GrW (tabsOf T) [p, d] Hd H Hd H6 := by
              refine GrW.chg W (fun a ha => ha) (fun a ob ha n => mt a ob (fun q => n (by simp [q])) (fun q => n (by simp [q])) (e5' _ _ ha)) (fun a ha => ?_) L0.nt
              rcases List.mem_cons.mp ha with rfl | ha
              · exact ⟨_, m1, noTb_ins⟩
              · rw [List.mem_singleton.mp ha]
                exact ⟨_, m2, noTb_dK⟩
            have n0 : Hd t = none := fresh_back W.sub ht0
            refine good rfl H6 _ (g6.keep (newAt_none ht0) n0 (mt _ _ tp td h5) noTb_tup) ⟨⟨dx, m1⟩, ⟨_, m2, (h3.mono (Ex.new n0)).app (t := t) (n := l.next) (e := [y, r, k, o]) (st_of upd_same)⟩, addL_ok ok ?_⟩
            unfold addE
            rw [if_pos z, if_pos ho, if_pos hy, if_pos hl]
        · rw [if_neg hy] at bad
          exact go_dropNo (K := K) (Hd := H3) (C := T.a_BadDay) (ds := [.int y]) (Ex.refl _) (eda_cons (ed_int (ev_var rfl)) eda_nil) ⟨y, rfl, rfl, hy⟩ fun H4 e4 => bad .day rfl H4 (g3.ex.trans e4)
      · rw [if_neg ho] at bad
        exact go_dropNo (K := K) (Hd := H) (C := T.a_BadHour) (ds := [.int l.clock, .int o]) (Ex.refl _) (eda_cons (ed_int (by walk_at "ev")) (eda_cons (ed_int (ev_var rfl)) eda_nil)) ⟨l.clock, o, rfl, rfl, ho⟩ (bad .hour rfl)

/-- all entries by days, of one day by numbers -/
def entL (l : LogM) : List (List Int) := sortE 1 0 (l.kept.map fun e => e.1 :: e.2)
theorem okE4.len {c h w : Int} {e : List Int} (k : okE4 c h w e) : e.length = 4 := by
  obtain ⟨d, r, k, o, rfl, _⟩ := k
  rfl
def sp_Log_entries (T : Tx K mg base) : Sp := fun vs H Q _ => ∃ (p d : Addr) (l : LogM) (Hd : Hp), vs = [.ref p] ∧ LogAt K T.a_Log Hd H p d l ∧ Wld (tabsOf T) [] Hd H ∧
  ∀ q xs H2 Hn, GrW (tabsOf T) [] Hd H Hn H2 → NewAt H q → Hn q = none → H2 q = some (.lst xs) → DpAll K Hn xs ((entL l).map entE) → Q (.ref q) H2
theorem okX_Log_entries (T : Tx K mg base) : FnOk P w K mg base (L2N.CX P w) 5 T.a_Log_entries T.d_Log_entries ["self"] (sp_Log_entries T) := by
  refine okC T.F_Log_entries sc_Log_entries (fun vs H Q E h => ?_) (fun A outer s H vs Q E hr h => ?_)
  · obtain ⟨p, d, l, Hd, rfl, _⟩ := h
    rfl
  · obtain ⟨p, d, l, Hd, rfl, L, W, q⟩ := h
    have L0 := L
    obtain ⟨⟨dx, h1⟩, ⟨kvs, h2, h3⟩, ok⟩ := L
    have cl := T.Q_Log
    have na := T.na_Log_kept
    refine ⟨_, (pss_cons (ps_lock (ps_setLc (i := 1) (own := [("number", 2), ("day", 3), ("row", 4), ("column", 5), ("one", 6)]) (g := (gTup K 2 (gCons (gName 2) (gCons (gTup K 4 (gCons (gName 3) (gCons (gName 4) (gCons (gName 5) (gCons (gName 6) gNil))))) gNil)))) (by rfl) sc_Log_entries.nd rfl rfl (sw_true rfl rfl rfl (by decide +kernel)) (pi_items (pe_fld (pv 0) rfl)) (blkOk_by (own := [("number", 2), ("day", 3), ("row", 4), ("column", 5), ("one", 6)]) (N := N_Log_entries) (sc := defScope s_Log_entries) (by decide +kernel)) (fun _ _ _ _ _ => (pg_tup rfl (pgs_cons (pg_name (i := 2) sc_Log_entries.nd rfl (.inl rfl) (hf := .inr rfl)) (pgs_cons (pg_tup rfl (pgs_cons (pg_name (i := 3) sc_Log_entries.nd rfl (.inl rfl) (hf := .inr rfl)) (pgs_cons (pg_name (i := 4) sc_Log_entries.nd rfl (.inl rfl) (hf := .inr rfl)) (pgs_cons (pg_name (i := 5) sc_Log_entries.nd rfl (.inl rfl) (hf := .inr rfl)) (pgs_cons (pg_name (i := 6) sc_Log_entries.nd rfl (.inl rfl) (hf := .inr rfl)) pgs_nil))))) pgs_nil)))) (fun _ _ _ _ _ => pts_nil) (fun _ _ _ _ _ => (pe_tup (pa_cons (pv 2) (pa_cons (pv 3) (pa_cons (pv 4) (pa_cons (pv 5) (pa_cons (pv 6) pa_nil)))))))))
      (pss_cons (ps_ret (pe_sortLam (K := K) (n := 0) (k := 1) (k2 := 0) rfl rfl (by rfl) T.n_sorted (pv 1) T.TB_Log_entries rfl (List.Mem.head _) (tabs_uniq (tabs_nd T) (List.Mem.head _)) (hr.mono (by omega)) (lamP_by (by decide +kernel)) (noFree (by decide +kernel)) rfl (fun _ _ _ _ _ _ _ => rfl)))
      pss_nil)), Go.go ?_⟩
    show Go _ _ [some (V.ref p), none, none, none, none, none, none] H
    have s0 : Ex Hd (upd Hd p (.ins T.a_Log dx (logF l d))) := fun a o ha => by
      by_cases e : a = p
      · subst e
        rw [W.sub _ _ ha] at h1
        cases h1
        exact upd_same
      · rw [upd_ne e]
        exact ha
    have sx : Ex (upd Hd p (.ins T.a_Log dx (logF l d))) H := fun a o ha => by
      by_cases e : a = p
      · subst e
        rw [upd_same] at ha
        rw [h1, ha]
      · rw [upd_ne e] at ha
        exact W.sub _ _ ha
    refine go_lockN (K := K) (Hd := Hd) (Hdx := upd Hd p (.ins T.a_Log dx (logF l d))) (ds := l.kept.map fun e => entE (e.1 :: e.2)) h2 s0 sx (fun a o ha => ?_) (fun od => ?_) fun p1 xs1 H1 Hn1 g1 f1 n1 l1 d1 => ?_
    · by_cases e : a = p
      · subst e
        rw [upd_same] at ha
        cases ha
        exact .inr noSeq_ins
      · rw [upd_ne e] at ha
        exact .inl ha
    · have e0 : l.kept.map (fun e => entE (e.1 :: e.2)) = givenD l.kept.length (fun _ => true) (fun i => entE (((l.kept[i]?).getD (0, [])).1 :: ((l.kept[i]?).getD (0, [])).2)) := by
        rw [givenD_all]
        refine List.ext_getElem (by simp) fun i hi1 hi2 => ?_
        simp only [List.length_map] at hi1
        simp [List.getElem?_eq_getElem hi1]
      rw [e0]
      have hp : (upd (upd Hd p (.ins T.a_Log dx (logF l d))) d (.frz od (.dK kvs))) p = some (.ins T.a_Log dx (logF l d)) := by
        rw [upd_ne L0.ne, upd_same]
      refine en_lc (K := K) (ei_items (K := K) (dd := d) (o := od) (kvs := kvs) (es := l.kept) (j := 2) (js := [3, 4, 5, 6]) (n := 4) (ev_kept (ev_var rfl) hp cl na) upd_same h3.len (fun i k v hk => ?_) (fun e he => (ok.ent e he).len) rfl rfl) (by have := ok.few; omega) _ _ ?_
      · obtain ⟨n, e, t, q1, q2, q3, q4⟩ := h3.get hk
        refine ⟨n, e, t, q1, by rw [q2]; rfl, q3, ?_⟩
        refine seq_t (fun a o ha nq => ?_) q4
        have q5 := s0 _ _ ha
        by_cases ed : a = d
        · exfalso
          rw [ed] at q5
          rw [sx _ _ q5] at h2
          cases h2
          exact nq noSeq_dK
        · rw [upd_ne ed]
          exact q5
      · rintro i σ2 Hn hi ex ⟨⟨n, e⟩, he, rfl⟩
        obtain ⟨y, r, k, o, rfl, _⟩ := ok.ent _ (List.mem_of_getElem? he)
        rw [he]
        have e2 : setAll (wipe [some (V.ref p), none, none, none, none, none, none] [2, 3, 4, 5, 6]) [2, 3, 4, 5, 6] [.int n, .int y, .int r, .int k, .int o] = [some (V.ref p), none, some (.int n), some (.int y), some (.int r), some (.int k), some (.int o)] := rfl
        show wipe (setAll (wipe [some (V.ref p), none, none, none, none, none, none] [2, 3, 4, 5, 6]) [2, 3, 4, 5, 6] [.int n, .int y, .int r, .int k, .int o]) _ = _ ∧ EvT _ (setAll (wipe [some (V.ref p), none, none, none, none, none, none] [2, 3, 4, 5, 6]) [2, 3, 4, 5, 6] [.int n, .int y, .int r, .int k, .int o]) _ _ ∧ (_ → EvD K _ (setAll (wipe [some (V.ref p), none, none, none, none, none, none] [2, 3, 4, 5, 6]) [2, 3, 4, 5, 6] [.int n, .int y, .int r, .int k, .int o]) _ _)
        rw [e2]
        refine ⟨rfl, et_yes, fun _ => ?_⟩
        exact ed_tup (ds := [.int n, .int y, .int r, .int k, .int o]) (eda_cons (ed_int (ev_var rfl)) (eda_cons (ed_int (ev_var rfl)) (eda_cons (ed_int (ev_var rfl)) (eda_cons (ed_int (ev_var rfl)) (eda_cons (ed_int (ev_var rfl)) eda_nil))))) (by simp)
    · have g1' := GrW.of (M := []) W g1
      refine go_retSort (K := K) (es := l.kept.map fun e => e.1 :: e.2) (W.step g1') (ev_var rfl) l1 (by rw [List.map_map]; exact dpa_noT _ d1) (fun e he => ?_) fun q2 ys H2 g2 f2 n2 l2 d2 => ?_
      · obtain ⟨e1, he1, rfl⟩ := List.mem_map.mp he
        have := (ok.ent e1 he1).len
        simp only [List.length_cons]
        omega
      · exact q q2 ys H2 _ (g1'.trans g2) (f2.back g1') n2 l2 d2

theorem ew_entries (T : Tx K mg base) {σ : L2.St} {Hd H : Hp} {ta : TE} {E : XK} {M : List Addr} {p d : Addr} {l : LogM} (W : Wld (tabsOf T) M Hd H) (ha : Ev ta σ H (.ref p)) (L : LogAt K T.a_Log Hd H p d l) : EvW (tabsOf T) [] (tMeth T.a_Log "entries" (sp_Log_entries T) [] E ta tNil) σ Hd H (fun v Hn H2 => ∃ q xs, v = .ref q ∧ NewAt H q ∧ Hn q = none ∧ H2 q = some (.lst xs) ∧ DpAll K Hn xs ((entL l).map entE)) := fun H1 e1 Q q =>
  ha H1 e1 _ fun H2 e2 => by
    have e12 := e1.trans e2
    obtain ⟨dx, h1⟩ := L.ob
    exact ⟨p, dx, _, rfl, e12 _ _ h1, rfl, p, d, l, Hd, rfl, L.mono (Ex.refl _) e12, (W.ext e12).nil, fun r xs H3 Hn g f n hl hx => q _ _ _ (g.pre e2) ⟨r, xs, rfl, f.ext e12, n, hl, hx⟩⟩
theorem mem_sortE {e : List Int} {es : List (List Int)} {i j : Nat} : e ∈ sortE i j es ↔ e ∈ es := by
  unfold sortE
  exact (List.mergeSort_perm es _).mem_iff
theorem entL_ok {l : LogM} (L : LogOk l) {e : List Int} (h : e ∈ entL l) : ∃ n y r k o, e = [n, y, r, k, o] ∧ (1 ≤ n ∧ n < l.next) ∧ (0 ≤ y ∧ y ≤ 999) ∧ (0 ≤ r ∧ r < l.high) ∧ (0 ≤ k ∧ k < l.wide) ∧ -2 ≤ o ∧ o < l.clock := by
  unfold entL at h
  obtain ⟨⟨n, e0⟩, hx, rfl⟩ := List.mem_map.mp (mem_sortE.mp h)
  obtain ⟨y, r, k, o, rfl, h1, h2, h3, h4⟩ := L.ent _ hx
  exact ⟨n, y, r, k, o, rfl, L.num _ hx, h1, h2, h3, h4⟩
theorem entL_len (l : LogM) : (entL l).length = l.kept.length := by
  unfold entL sortE
  rw [List.length_mergeSort, List.length_map]
/-- what the entries tell up to a day, the later ones over the earlier -/
def lastF (y : Int) (es : List (List Int)) : Nat → Nat → Int := es.foldl (fun f e => if e.getD 1 0 ≤ y then withF (e.getD 2 0).toNat (e.getD 3 0).toNat (e.getD 4 0) f else f) (fun _ _ => -2)
theorem lastF_snoc (y : Int) (es : List (List Int)) (e : List Int) : lastF y (es ++ [e]) = if e.getD 1 0 ≤ y then withF (e.getD 2 0).toNat (e.getD 3 0).toNat (e.getD 4 0) (lastF y es) else lastF y es := by
  unfold lastF
  rw [List.foldl_append]
  rfl
def chartT (l : LogM) (y : Int) : List (List Int) := tab l.high.toNat l.wide.toNat (lastF y (entL l))
def sp_Log_chart (T : Tx K mg base) : Sp := fun vs H Q E => ∃ (p d : Addr) (l : LogM) (y : Int) (Hd : Hp), vs = [.ref p, .int y] ∧ LogAt K T.a_Log Hd H p d l ∧ Wld (tabsOf T) [] Hd H ∧
  (0 ≤ y ∧ y ≤ 999 → ∀ v H2 Hn, GrW (tabsOf T) [] Hd H Hn H2 → Dp K Hn v (dChart l.clock (chartT l y)) → Q v H2) ∧ (¬ (0 ≤ y ∧ y ≤ 999) → ∀ H2, Ex H H2 → E (.ref T.a_BadDay) none H2)
theorem okX_Log_chart (T : Tx K mg base) : FnOk P w K mg base (L2N.CX P w) 6 T.a_Log_chart T.d_Log_chart ["self", "day"] (sp_Log_chart T) := by
  refine okND T.F_Log_chart sc_Log_chart (fun vs H Q E h => ?_) (fun cdv A outer s H vs Q E hr h => ?_)
  · obtain ⟨p, d, l, y, Hd, rfl, _⟩ := h
    rfl
  · obtain ⟨p, d, l, y, Hd, rfl, L, W, good, bad⟩ := h
    have cl := T.Q_Log
    have nc := T.na_Log_clock
    have nh := T.na_Log_high
    have nw := T.na_Log_wide
    obtain ⟨dx, h1⟩ := L.ob
    have ok := L.ok
    refine ⟨_, (pss_cons (ps_expr (pe_call (okX_need_day T) (hr.mono (by omega)) (by rfl) T.g_need_day T.F_need_day.kp T.b_need_day .nil (L2N.passes_call (L2N.takes_of rfl rfl rfl rfl) (fun _ _ _ _ h => h)) (pa_cons (pv 1) pa_nil)))
      (pss_cons (ps_setLc (i := 2) (own := [("row", 5)]) (g := (gName 5)) (by rfl) sc_Log_chart.nd rfl rfl (sw_true rfl rfl rfl (by decide +kernel)) (pi_range1 (by rfl) T.n_range (pa_cons (pe_fld (pv 0) rfl) pa_nil)) (blkOk_by (own := [("row", 5)]) (N := N_Log_chart) (sc := defScope s_Log_chart) (by decide +kernel)) (fun _ _ _ _ _ => (pg_name (i := 5) sc_Log_chart.nd rfl (.inl rfl) (hf := .inr rfl))) (fun _ _ _ _ _ => pts_nil) (fun _ _ _ _ _ => (pe_lc (own := [("column", 6)]) (g := (gName 6)) (by rfl) sc_Log_chart.nd (pi_range1 (by rfl) T.n_range (pa_cons (pb_fld (K := K) (by rfl) (pv 0)) pa_nil)) (blkIn_by (own := [("column", 6)]) (N := N_Log_chart) (by decide +kernel)) (fun _ _ _ _ _ => (pg_name (i := 6) sc_Log_chart.nd rfl (.inl rfl) (hf := .inr rfl))) (fun _ _ _ _ _ => pts_nil) (fun _ _ _ _ _ => (pe_glob (v := .int (-2)) rfl T.c_UNTOLD ⟨_, rfl⟩)))))
      (pss_cons (ps_for PassesOwn.leaving rfl (pi_list (pe_meth0 (pv 0) T.Q_Log T.m_Log_entries (okX_Log_entries (P := P) (w := w) T) (hr.mono (by omega)) T.b_Log_entries .nil (L2N.passes_call (L2N.takes_of rfl rfl rfl rfl) (fun _ _ _ _ h => h)))) (pg_tup rfl (pgs_cons (pg_name (i := 3) sc_Log_chart.nd rfl (.inl rfl)) (pgs_cons (pg_name (i := 4) sc_Log_chart.nd rfl (.inl rfl)) (pgs_cons (pg_name (i := 5) sc_Log_chart.nd rfl (.inl rfl)) (pgs_cons (pg_name (i := 6) sc_Log_chart.nd rfl (.inl rfl)) (pgs_cons (pg_name (i := 7) sc_Log_chart.nd rfl (.inl rfl)) pgs_nil)))))) (pss_cons (ps_if (pt_cmpR op_le (pv 4) (pv 1) (nomark _)) (pss_cons (ps_asg (pv 7) (pg_sub (pe_ix (r := rIxL K) ix_list (pv 2) (pv 5) (fun _ _ => rfl)) (pv 6) set_list))
      pss_nil) pss_nil)
      pss_nil))
      (pss_cons (ps_ret (pe_tup (pa_cons (pe_fld (pv 0) rfl) (pa_cons (pe_callTy (r := rTupS K) call_tupleQ (by rfl) T.n_tuple (by decide +kernel) (pa_cons (pe_lc (own := [("row", 5)]) (g := (gName 5)) (by rfl) sc_Log_chart.nd (pi_list (pv 2)) (blkOk_by (own := [("row", 5)]) (N := N_Log_chart) (sc := defScope s_Log_chart) (by decide +kernel)) (fun _ _ _ _ _ => (pg_name (i := 5) sc_Log_chart.nd rfl (.inl rfl) (hf := .inr rfl))) (fun _ _ _ _ _ => pts_nil) (fun _ _ _ _ _ => (pe_callTy (r := rTupS K) call_tupleQ (by rfl) T.n_tuple (by decide +kernel) (pa_cons (pv 5) pa_nil)))) pa_nil)) pa_nil))))
      pss_nil)))), Go.go ?_⟩
    show Go _ _ [some (V.ref p), some (V.int y), none, none, none, none, none, none] H
    by_cases hy : 0 ≤ y ∧ y ≤ 999
    · replace good := good hy
      refine go_dropOk (K := K) (Hd := H) (d := .none) (ds := [.int y]) (Ex.refl _) (eda_cons (ed_int (ev_var rfl)) eda_nil) ⟨y, rfl, rfl, hy⟩ fun v H2 Hn2 g2 _ => ?_
      have k1 := g2.ex _ _ h1
      have W2 := W.ext g2.ex
      have L2' := L.mono (Ex.refl _) g2.ex
      obtain ⟨hh, eh⟩ : ∃ hh : Nat, l.high = (hh : Int) := ⟨l.high.toNat, by have := ok.h1; omega⟩
      obtain ⟨ww, ew⟩ : ∃ ww : Nat, l.wide = (ww : Int) := ⟨l.wide.toNat, by have := ok.w1; omega⟩
      have h9 : hh ≤ 9 := by have := ok.h9; omega
      have w9 : ww ≤ 9 := by have := ok.w9; omega
      have ct : chartT l y = tab hh ww (lastF y (entL l)) := by unfold chartT; rw [eh, ew]; rfl
      refine go_asgLL (rs := tab hh ww (lastF y [])) (Ex.refl _) ?_ fun a ps H3 e3 na np LL3 => ?_
      · have e0 : tab hh ww (lastF y []) = (List.range l.high.toNat).map fun i => rowOf ww (lastF y [] i) := by rw [eh]; rfl
        rw [e0]
        refine ll_new (K := K) (ei_range1 (K := K) (m := l.high) (ea_cons (by walk_at "ev") ea_nil) (by omega)) (by omega) _ ?_
        rintro i σ2 Hn hi ex rfl
        have k2 := ex _ _ k1
        refine ⟨rfl, ?_⟩
        have ew' : ww = l.wide.toNat := by omega
        rw [row_given, ew']
        refine en_lc (K := K) (ei_range1 (K := K) (m := l.wide) (ea_cons (ev_wide (ev_var rfl) k2 cl nw) ea_nil) (by omega)) (by omega) _ _ ?_
        rintro j σ3 Hm hj ex3 rfl
        exact ⟨rfl, et_yes, fun _ => ed_int ev_c⟩
      have k3 := e3 _ _ k1
      have W3 := W2.ext e3
      have L3 := L2'.mono (Ex.refl _) e3
      have nH : ∀ x, H2 x = none → H x = none := fun x h => fresh_back g2.ex h
      have LL3a := LL3.top
      refine go_bind (C := fun te => tSeq (tFor (iList K te) _ _) _) (ew_entries T W3 (ev_var rfl) L3) fun v H4 Hn4 g4 hv => ?_
      obtain ⟨q, xs, rfl, nq, nnq, hq, hx⟩ := hv
      have gA : GrW (tabsOf T) [] Hd H Hn4 H4 := (GrW.ext W (g2.ex.trans e3)).trans g4
      have k4 := g4.ex _ _ k3 (by simp) noTb_ins
      have LL4 := LL3.step g4
      have X4 : Ex (upd Hn4 q (.lst xs)) H4 := ex_add g4.sub hq
      have na4 : Hn4 a = none := g4.fr _ _ LL3a noTb_lst (fresh_back W.sub (nH a na))
      have np4 : ∀ x ∈ ps, Hn4 x = none := fun x hx => by
        obtain ⟨ys, hys⟩ := LL3.at hx
        exact g4.fr _ _ hys noTb_lst (fresh_back W.sub (nH x (np x hx)))
      have aq : a ≠ q := nq.ne LL3a noTb_lst
      have pq : ∀ x ∈ ps, x ≠ q := fun x hx => by
        obtain ⟨ys, hys⟩ := LL3.at hx
        exact nq.ne hys noTb_lst
      refine go_for (K := K) (Hd := upd Hn4 q (.lst xs)) X4 (ei_ints (K := K) (es := entL l) (n := 5) (js := [3, 4, 5, 6, 7]) (ed_val (.lst (sq_of upd_same) (dpa_mono (Ex.new nnq) _ hx))) (fun e he => by obtain ⟨n, y', r, k, o, rfl, _⟩ := entL_ok ok he; rfl) rfl rfl)
        (fun Hn i σ' H' => Ex Hn H' ∧ GrW (tabsOf T) [] Hd H Hn4 H' ∧ LL H' a ps (tab hh ww (lastF y ((entL l).take i))) ∧ H' p = some (.ins T.a_Log dx (logF l d)) ∧ Hn a = none ∧ (∀ x ∈ ps, Hn x = none) ∧ ∃ x3 x4 x5 x6 x7, σ' = [some (V.ref p), some (V.int y), some (V.ref a), x3, x4, x5, x6, x7]) ?_ ?_ ?_ ?_
      · intro H' Hn g
        exact ⟨g.sub, gA.post g.ex, LL4.ext g.ex, g.ex _ _ k4, g.fr _ _ LL4.top (by rw [upd_ne aq]; exact na4), fun x hx => by
          obtain ⟨ys, hys⟩ := LL4.at hx
          exact g.fr _ _ hys (by rw [upd_ne (pq x hx)]; exact np4 x hx), _, _, _, _, _, rfl⟩
      · rintro Hn i σ' H' h
        exact h.1
      · rintro Hn i σ' σ2 H' exn hi ⟨s5, g5, LL5, k5, na5, np5, x3, x4, x5, x6, x7, rfl⟩ ⟨e, he, rfl⟩
        obtain ⟨n, y', r, k, o, rfl, hn, hy', hr, hk, ho⟩ := entL_ok ok (List.mem_of_getElem? he)
        obtain ⟨rn, rfl⟩ : ∃ rn : Nat, r = (rn : Int) := ⟨r.toNat, by omega⟩
        obtain ⟨kn, rfl⟩ : ∃ kn : Nat, k = (kn : Int) := ⟨k.toNat, by omega⟩
        have et : (entL l).take (i + 1) = (entL l).take i ++ [[n, y', (rn : Int), (kn : Int), o]] := by
          rw [List.take_succ, he]
          rfl
        show Go _ _ [some (V.ref p), some (V.int y), some (V.ref a), some (V.int n), some (V.int y'), some (V.int (rn : Int)), some (V.int (kn : Int)), some (V.int o)] H'
        refine go_when (et_test (ev_op (ev_var rfl) (ev_var rfl) rv_I0)) (fun z => ?_) (fun z => ?_)
        · have hz : y' ≤ y := of_decide_eq_true z
          have hrl : rn < ps.length := by rw [LL5.len, tab_len]; omega
          have hpi : ps[rn]? = some ps[rn] := List.getElem?_eq_getElem hrl
          have hrow := LL5.row rn _ _ hpi (tab_get (by omega))
          refine go_setL (j := kn) (v := .int o) hrow (ev_var rfl) (ev_op (ev_var rfl) (ev_var rfl) (rv_ixL (K := K) (sq_of LL5.top) (atI_nat (j := rn) (by rw [List.getElem?_map, hpi]; rfl)))) (ev_var rfl) (by rw [List.length_map, row_len]; omega) ?_
          have em : ((rowOf ww (lastF y ((entL l).take i) rn)).map V.int).set kn (.int o) = ((rowOf ww (lastF y ((entL l).take i) rn)).set kn o).map V.int := by rw [List.map_set]
          rw [em]
          have hm := List.getElem_mem hrl
          have L6 := LL5.put hpi ((rowOf ww (lastF y ((entL l).take i) rn)).set kn o)
          rw [with_tab (by omega) (by omega)] at L6
          have nn : p ≠ ps[rn] := ne_of k5 hrow (by intro z; cases z)
          have g6 := g5.put (ys := ((rowOf ww (lastF y ((entL l).take i) rn)).set kn o).map V.int) hrow (newAt_none (nH _ (np _ hm))) (np4 _ hm)
          refine go_next fun H7 e7 => ⟨(Ex.mut s5 (np5 _ hm)).trans e7, g6.post e7, ?_, e7 _ _ (by rw [upd_ne nn]; exact k5), na5, np5, _, _, _, _, _, rfl⟩
          rw [et, lastF_snoc]
          refine LL.ext ?_ e7
          show LL _ _ _ (tab hh ww (if y' ≤ y then withF ((rn : Int)).toNat ((kn : Int)).toNat o _ else _))
          rw [if_pos hz]
          exact L6
        · have hz : ¬ y' ≤ y := of_decide_eq_false z
          refine go_next fun H7 e7 => ⟨s5.trans e7, g5.post e7, ?_, e7 _ _ k5, na5, np5, _, _, _, _, _, rfl⟩
          rw [et, lastF_snoc]
          refine LL.ext ?_ e7
          show LL _ _ _ (tab hh ww (if y' ≤ y then _ else _))
          rw [if_neg hz]
          exact LL5
      · rintro Hn σ' H' exn ⟨s5, g5, LL5, k5, na5, np5, x3, x4, x5, x6, x7, rfl⟩
        rw [List.take_length] at LL5
        refine go_bind (C := fun te => tSeq (tRet (tTup (tCons te _))) _) (M := []) (ew_ev (W.step g5) (ev_clock (ev_var rfl) k5 cl nc)) fun v H6 Hn6 g6 hv => ?_
        obtain ⟨rfl, rfl, e6⟩ := hv
        have LL6 := LL5.ext e6
        obtain ⟨D3, y1, y2, hda, y3⟩ := LL6.data (K := K) (g5.post e6).sub na4 np4
        have nt3 : ∀ x tb, D3 x ≠ some (.tbl tb) := fun x tb hx' => by
          by_cases z : x = a ∨ x ∈ ps
          · have h6 := y2 _ _ hx'
            rcases z with rfl | z
            · rw [LL6.top] at h6
              cases h6
            · obtain ⟨ys, hys⟩ := LL6.at z
              rw [hys] at h6
              cases h6
          · rw [y3 x (fun e => z (.inl e)) (fun e => z (.inr e))] at hx'
            exact g5.nt _ _ hx'
        have g7 : GrW (tabsOf T) [] Hd H D3 H6 := (g5.post e6).more y1 y2 (fun x o hx' z hn' => by
          rw [y3 x (fun e => by rw [e, nH a na] at hx'; cases hx') (fun hm => by rw [nH x (np x hm)] at hx'; cases hx')]
          exact hn') nt3
        rw [ct] at good
        refine go_ret (K := K) (d := dChart l.clock (tab hh ww (lastF y (entL l)))) y2 (ed_tup (eda_cons (ed_int ev_val) (eda_cons (ed_tupleL (ed_new (rows_back (ed_var rfl hda) h9 (fun u => rfl) (fun u => rfl)))) eda_nil)) (by simp)) fun v H8 D8 g8 hv => ?_
        exact good v H8 _ (g7.trans (GrW.of (W.step g7) g8)) (dp_noT _ hv)
    · exact go_dropNo (K := K) (Hd := H) (C := T.a_BadDay) (ds := [.int y]) (Ex.refl _) (eda_cons (ed_int (ev_var rfl)) eda_nil) ⟨y, rfl, rfl, hy⟩ (bad hy)

theorem Er.word_ne (e : Er) : e.word ≠ "" := by cases e <;> decide +kernel
/-- the word of what may be refused -/
def wordE : Option Er → Str
  | none => ""
  | some e => e.word
section
variable {σ : L2.St} {Hd H : Hp} {ta : TE} {tr : TA} {E : XK} {M : List Addr} {p d : Addr} {l : LogM}
/-- a new log -/
theorem tx_new (T : Tx K mg base) {c h w : Int} {Q : VK} (W : Wld (tabsOf T) M Hd H) (ha : EvA tr σ H [.int c, .int h, .int w]) (good : newE c h w = none → ∀ p d H2, H p = none → H d = none → GrW (tabsOf T) [] Hd H Hd H2 → LogAt K T.a_Log Hd H2 p d (newL c h w) → Q (.ref p) H2) (bad : ∀ er, newE c h w = some er → ∀ H2, Ex H H2 → E (.ref (er.cls T)) none H2) : tMake T.a_Log (sp_Log_init T) [] E tr σ H Q :=
  ha H (Ex.refl _) _ fun H1 e1 x dx hx hdx ne => by
    have eN : Ex H1 (upd (upd H1 dx (.own x)) x (.ins T.a_Log dx [])) := (Ex.new hdx).trans (Ex.new (by rw [upd_ne ne.symm]; exact hx))
    have eH := e1.trans eN
    have W1 := W.nil.ext eH
    have hx0 : Hd x = none := fresh_back W.sub (fresh_back e1 hx)
    refine ⟨x, dx, c, h, w, Hd, rfl, upd_same, W1.add hx0 upd_same noTb_ins, fun e0 d H2 hd g L => ⟨rfl, ?_⟩, fun er he H2 e2 => bad er he H2 (eH.trans e2)⟩
    refine good e0 x d H2 (fresh_back e1 hx) ?_ ?_ L
    · exact fresh_back eH hd
    · have xH : H x = none := fresh_back e1 hx
      exact ⟨fun a o ha n z => g.ex a o (eH _ _ ha) (fun hm => by rw [List.mem_singleton.mp hm, xH] at ha; cases ha) z, g.dx, g.sub, fun a o ha => g.fr a o (eH _ _ ha), g.nt, g.tb, fun a o ha => g.al a o (eH _ _ ha)⟩
theorem ew_new (T : Tx K mg base) {c h w : Int} (W : Wld (tabsOf T) M Hd H) (ha : EvA tr σ H [.int c, .int h, .int w]) (hn : newE c h w = none) : EvW (tabsOf T) [] (tMake T.a_Log (sp_Log_init T) [] E tr) σ Hd H (fun v Hn H2 => Hn = Hd ∧ ∃ p d, v = .ref p ∧ H p = none ∧ H d = none ∧ LogAt K T.a_Log Hd H2 p d (newL c h w)) := fun H1 e1 Q q =>
  tx_new T (W.ext e1) (ha.mono e1) (fun _ p d H2 hp hd g L => q _ H2 Hd g ⟨rfl, p, d, rfl, fresh_back e1 hp, fresh_back e1 hd, L⟩) fun er he => by rw [hn] at he; cases he
theorem tx_add (T : Tx K mg base) {r k o y : Int} {Q : VK} {dv : List V} {vs : List V} (W : Wld (tabsOf T) [p, d] Hd H) (hp : Ev ta σ H (.ref p)) (L : LogAt K T.a_Log Hd H p d l) (ha : EvA tr σ H vs) (hv : vs ++ dv = [.int r, .int k, .int o, .int y])
    (good : addE l r k o y = none → ∀ H2 Hn, GrW (tabsOf T) [p, d] Hd H Hn H2 → LogAt K T.a_Log Hn H2 p d (addL l r k o y) → Q (.int l.next) H2) (bad : ∀ er, addE l r k o y = some er → ∀ H2, Ex H H2 → E (.ref (er.cls T)) none H2) : tMeth T.a_Log "add" (sp_Log_add T) dv E ta tr σ H Q :=
  hp H (Ex.refl _) _ fun H1 e1 => by
    obtain ⟨dx, h1⟩ := L.ob
    refine ⟨p, dx, _, rfl, e1 _ _ h1, rfl, ha H1 e1 _ fun H2 e2 => ?_⟩
    rw [hv]
    have e12 := e1.trans e2
    exact ⟨p, d, l, r, k, o, y, Hd, rfl, L.mono (Ex.refl _) e12, W.ext e12, fun e0 H3 Hn g L3 => good e0 H3 Hn (g.pre e12) L3, fun er he H3 e3 => bad er he H3 (e12.trans e3)⟩
theorem ew_add (T : Tx K mg base) {r k o y : Int} {dv : List V} {vs : List V} (W : Wld (tabsOf T) [p, d] Hd H) (hp : Ev ta σ H (.ref p)) (L : LogAt K T.a_Log Hd H p d l) (ha : EvA tr σ H vs) (hv : vs ++ dv = [.int r, .int k, .int o, .int y]) (hn : addE l r k o y = none) :
    EvW (tabsOf T) [p, d] (tMeth T.a_Log "add" (sp_Log_add T) dv E ta tr) σ Hd H (fun v Hn H2 => v = .int l.next ∧ LogAt K T.a_Log Hn H2 p d (addL l r k o y)) := fun H1 e1 Q q =>
  tx_add T (W.ext e1) (hp.mono e1) (L.mono (Ex.refl _) e1) (ha.mono e1) hv (fun _ H2 Hn g L2 => q _ H2 Hn g ⟨rfl, L2⟩) fun er he => by rw [hn] at he; cases he
/-- told with what is drawn -/
theorem ew_addB (T : Tx K mg base) {b : Bid} {dv : List V} {Ps : List PyData → Prop} {X : Int → Int → Int → Int → Prop} (W : Wld (tabsOf T) M Hd H) (hm : ∀ a ∈ [b.b, p, d], a ∈ M) (B : Bx H b) (hp : Ev ta σ H (.ref p)) (L : LogAt K T.a_Log Hd H p d l) (ha : EvBA K b tr σ Hd Ps)
    (hx : ∀ ds, Ps ds → ∃ r k o y, (∀ H vs, DpAll K H vs ds → vs ++ dv = [.int r, .int k, .int o, .int y]) ∧ addE l r k o y = none ∧ X r k o y) :
    EvW (tabsOf T) [b.b, p, d] (tMeth T.a_Log "add" (sp_Log_add T) dv E ta tr) σ Hd H (fun v Hn H2 => v = .int l.next ∧ Bx H2 b ∧ ∃ r k o y, X r k o y ∧ LogAt K T.a_Log Hn H2 p d (addL l r k o y)) := fun H1 e1 Q q =>
  hp H1 e1 _ fun H2 e2 => by
    have e12 := e1.trans e2
    obtain ⟨dx, h1⟩ := L.ob
    have nb := (W.mn b.b (hm _ (by simp))).1
    have W2 := W.ext e12
    have B2 := B.mono e12
    refine ⟨p, dx, _, rfl, e12 _ _ h1, rfl, ha nb H2 W2.sub B2 _ fun vs H3 Hn ds g hds hps => ?_⟩
    obtain ⟨r, k, o, y, hv, hn, xx⟩ := hx ds hps
    have hvs := hv _ _ hds
    rw [hvs]
    have g3 := GrW.ofB W2 B2 g
    obtain ⟨cells, bl, hb, _⟩ := B2
    have np : p ∉ [b.b] := fun z => by
      have h2 := e12 _ _ h1
      rw [List.mem_singleton.mp z, hb] at h2
      cases h2
    have nd : d ∉ [b.b] := fun z => by
      obtain ⟨kvs, h2, _⟩ := (L.mono (Ex.refl _) e12).kp
      rw [List.mem_singleton.mp z, hb] at h2
      cases h2
    have L3 := (L.mono (Ex.refl _) e12).step g3 np nd
    have W3 := W2.step g3
    refine ⟨p, d, l, r, k, o, y, _, rfl, L3, W3.sup (fun a ha => hm a (List.mem_cons_of_mem _ ha)), fun _ H4 Hm g4 L4 => ?_, fun er he => by rw [hn] at he; cases he⟩
    refine q _ H4 Hm (((g3.sup fun a ha => ?_).trans (g4.sup fun a ha => List.mem_cons_of_mem _ ha)).pre e2) ⟨rfl, ?_, r, k, o, y, xx, L4⟩
    · rw [List.mem_singleton.mp ha]
      exact List.mem_cons_self
    · obtain ⟨c3, x3, hb3, hbl, hc3, hl3⟩ := g.bx
      have nbp : b.b ∉ [p, d] := fun z => by
        rcases List.mem_cons.mp z with z | z
        · exact np (by rw [z]; simp)
        · exact nd (by rw [List.mem_singleton.mp z]; simp)
      have ncp : b.ca ∉ [p, d] := fun z => by
        rcases List.mem_cons.mp z with z | z
        · obtain ⟨dx3, h3⟩ := L3.ob
          rw [z, h3] at hc3
          cases hc3
        · obtain ⟨kvs, h3, _⟩ := L3.kp
          rw [List.mem_singleton.mp z, h3] at hc3
          cases hc3
      exact ⟨c3, x3, g4.ex _ _ hb3 nbp noTb_lst, hbl, g4.ex _ _ hc3 ncp noTb_lst, hl3⟩
theorem ev_lenLog (T : Tx K mg base) (ha : Ev ta σ H (.ref p)) (L : LogAt K T.a_Log Hd H p d l) : Ev (tCB (rLenO T.a_Log (sp_Log_len T) E) (tCons ta tNil)) σ H (.int (l.kept.length : Int)) := fun H1 e1 Q q =>
  ha H1 e1 _ fun H2 e2 => by
    obtain ⟨dx, h1⟩ := L.ob
    have := L.ok.few
    exact ⟨p, dx, _, rfl, (e1.trans e2) _ _ h1, p, d, l, Hd, rfl, L.mono (Ex.refl _) (e1.trans e2), fun H3 e3 => ⟨_, rfl, by omega, q H3 (e2.trans e3)⟩⟩
theorem tx_chart (T : Tx K mg base) {y : Int} {Q : VK} {dv : List V} {vs : List V} (W : Wld (tabsOf T) M Hd H) (hp : Ev ta σ H (.ref p)) (L : LogAt K T.a_Log Hd H p d l) (ha : EvA tr σ H vs) (hv : vs ++ dv = [.int y])
    (good : 0 ≤ y ∧ y ≤ 999 → ∀ v H2 Hn, GrW (tabsOf T) [] Hd H Hn H2 → Dp K Hn v (dChart l.clock (chartT l y)) → Q v H2) (bad : ¬ (0 ≤ y ∧ y ≤ 999) → ∀ H2, Ex H H2 → E (.ref T.a_BadDay) none H2) : tMeth T.a_Log "chart" (sp_Log_chart T) dv E ta tr σ H Q :=
  hp H (Ex.refl _) _ fun H1 e1 => by
    obtain ⟨dx, h1⟩ := L.ob
    refine ⟨p, dx, _, rfl, e1 _ _ h1, rfl, ha H1 e1 _ fun H2 e2 => ?_⟩
    rw [hv]
    have e12 := e1.trans e2
    exact ⟨p, d, l, y, Hd, rfl, L.mono (Ex.refl _) e12, (W.ext e12).nil, fun e0 v H3 Hn g hx => good e0 v H3 Hn (g.pre e12) hx, fun he H3 e3 => bad he H3 (e12.trans e3)⟩
theorem ew_chart (T : Tx K mg base) {y : Int} {dv : List V} {vs : List V} (W : Wld (tabsOf T) M Hd H) (hp : Ev ta σ H (.ref p)) (L : LogAt K T.a_Log Hd H p d l) (ha : EvA tr σ H vs) (hv : vs ++ dv = [.int y]) (hy : 0 ≤ y ∧ y ≤ 999) :
    EvW (tabsOf T) [] (tMeth T.a_Log "chart" (sp_Log_chart T) dv E ta tr) σ Hd H (fun v Hn H2 => Dp K Hn v (dChart l.clock (chartT l y))) := fun H1 e1 Q q =>
  tx_chart T (W.ext e1) (hp.mono e1) (L.mono (Ex.refl _) e1) (ha.mono e1) hv (fun _ v H2 Hn g hx => q v H2 Hn g hx) fun he => absurd hy he
end

/-- what an entry tells, without its number -/
def toldL (l : LogM) : List (List Int) := (entL l).map List.tail
def likeD (l : LogM) : PyData := .tuple [.int l.clock, .int l.high, .int l.wide, .list ((toldL l).map entE)]
theorem okE_like (l : LogM) : okE 4 (likeD l) := fun e he => by
  simp only [List.mem_cons, List.not_mem_nil, or_false] at he
  rcases he with rfl | rfl | rfl | rfl
  · trivial
  · trivial
  · trivial
  · intro e he
    obtain ⟨x, _, rfl⟩ := List.mem_map.mp he
    intro e he
    obtain ⟨y, _, rfl⟩ := List.mem_map.mp he
    trivial
def sp_Log_likeness (T : Tx K mg base) : Sp := fun vs H Q _ => ∃ (p d : Addr) (l : LogM) (Hd : Hp), vs = [.ref p] ∧ LogAt K T.a_Log Hd H p d l ∧ Wld (tabsOf T) [] Hd H ∧
  ∀ v H2 Hn, GrW (tabsOf T) [] Hd H Hn H2 → Dp K Hn v (likeD l) → Q v H2
theorem okX_Log_likeness (T : Tx K mg base) : FnOk P w K mg base (L2N.CX P w) 6 T.a_Log_likeness T.d_Log_likeness ["self"] (sp_Log_likeness T) := by
  refine okN T.F_Log_likeness sc_Log_likeness (fun vs H Q E h => ?_) (fun cdv A outer s H vs Q E hr h => ?_)
  · obtain ⟨p, d, l, Hd, rfl, _⟩ := h
    rfl
  · obtain ⟨p, d, l, Hd, rfl, L, W, q⟩ := h
    have cl := T.Q_Log
    have nc := T.na_Log_clock
    have nh := T.na_Log_high
    have nw := T.na_Log_wide
    obtain ⟨dx, h1⟩ := L.ob
    have ok := L.ok
    refine ⟨_, (pss_cons (ps_setLc (i := 1) (own := [("number", 2), ("day", 3), ("row", 4), ("column", 5), ("one", 6)]) (g := (gTup K 5 (gCons (gName 2) (gCons (gName 3) (gCons (gName 4) (gCons (gName 5) (gCons (gName 6) gNil))))))) (by rfl) sc_Log_likeness.nd rfl rfl (sw_true rfl rfl rfl (by decide +kernel)) (pi_list (pe_meth0 (pv 0) T.Q_Log T.m_Log_entries (okX_Log_entries (P := P) (w := w) T) (hr.mono (by omega)) T.b_Log_entries .nil (L2N.passes_call (L2N.takes_of rfl rfl rfl rfl) (fun _ _ _ _ h => h)))) (blkOk_by (own := [("number", 2), ("day", 3), ("row", 4), ("column", 5), ("one", 6)]) (N := N_Log_likeness) (sc := defScope s_Log_likeness) (by decide +kernel)) (fun _ _ _ _ _ => (pg_tup rfl (pgs_cons (pg_name (i := 2) sc_Log_likeness.nd rfl (.inl rfl) (hf := .inr rfl)) (pgs_cons (pg_name (i := 3) sc_Log_likeness.nd rfl (.inl rfl) (hf := .inr rfl)) (pgs_cons (pg_name (i := 4) sc_Log_likeness.nd rfl (.inl rfl) (hf := .inr rfl)) (pgs_cons (pg_name (i := 5) sc_Log_likeness.nd rfl (.inl rfl) (hf := .inr rfl)) (pgs_cons (pg_name (i := 6) sc_Log_likeness.nd rfl (.inl rfl) (hf := .inr rfl)) pgs_nil))))))) (fun _ _ _ _ _ => pts_nil) (fun _ _ _ _ _ => (pe_tup (pa_cons (pv 3) (pa_cons (pv 4) (pa_cons (pv 5) (pa_cons (pv 6) pa_nil)))))))
      (pss_cons (ps_ret (pe_tup (pa_cons (pe_fld (pv 0) rfl) (pa_cons (pe_fld (pv 0) rfl) (pa_cons (pe_fld (pv 0) rfl) (pa_cons (pv 1) pa_nil))))))
      pss_nil)), Go.go ?_⟩
    show Go _ _ [some (V.ref p), none, none, none, none, none, none] H
    refine go_bind (C := fun te => tSeq (tAsg (tLc (iList K te) _ _ _ _) (gName 1)) _) (ew_entries T W (ev_var rfl) L) fun v H4 Hn4 g4 hv => ?_
    obtain ⟨q4, xs, rfl, nq, nnq, hq, hx⟩ := hv
    have g4' := g4.keep nq nnq hq noTb_lst
    have W4 := W.step g4'
    have k4 := g4.ex _ _ h1 (by simp) noTb_ins
    refine go_asgN (K := K) (ds := (toldL l).map entE) W4.sub ?_ fun p5 xs5 H5 Hn5 g5 f5 n5 l5 d5 => ?_
    · have e0 : (toldL l).map entE = givenD (entL l).length (fun _ => true) (fun i => entE (((entL l)[i]?).getD []).tail) := by
        rw [givenD_all]
        unfold toldL
        refine List.ext_getElem (by simp) fun i hi1 hi2 => ?_
        simp only [List.length_map] at hi1
        simp [List.getElem?_eq_getElem hi1]
      rw [e0]
      refine en_lc (K := K) (ei_ints (K := K) (es := entL l) (n := 5) (js := [2, 3, 4, 5, 6]) (ed_val (.lst (sq_of upd_same) (dpa_mono (Ex.new nnq) _ hx))) (fun e he => by obtain ⟨n, y', r, k, o, rfl, _⟩ := entL_ok ok he; rfl) rfl rfl) (by rw [entL_len]; have := ok.few; omega) _ _ ?_
      rintro i σ2 Hn hi ex ⟨e, he, rfl⟩
      obtain ⟨n, y, r, k, o, rfl, _⟩ := entL_ok ok (List.mem_of_getElem? he)
      rw [he]
      show wipe [some (V.ref p), none, some (.int n), some (.int y), some (.int r), some (.int k), some (.int o)] _ = _ ∧ EvT _ [some (V.ref p), none, some (.int n), some (.int y), some (.int r), some (.int k), some (.int o)] _ _ ∧ (_ → EvD K _ [some (V.ref p), none, some (.int n), some (.int y), some (.int r), some (.int k), some (.int o)] _ _)
      refine ⟨rfl, et_yes, fun _ => ?_⟩
      exact ed_tup (ds := [.int y, .int r, .int k, .int o]) (eda_cons (ed_int (ev_var rfl)) (eda_cons (ed_int (ev_var rfl)) (eda_cons (ed_int (ev_var rfl)) (eda_cons (ed_int (ev_var rfl)) eda_nil)))) (by simp)
    · have gA := GrW.of (M := []) W4 g5
      have k5 := g5.ex _ _ k4
      have g45 := g4'.trans gA
      have W5 := W4.step gA
      have g5' := g45.keep ((newAt_none f5).back g4) (noT_none n5) l5 noTb_lst
      have W6 := W.step g5'
      have hd5 : Dp K (upd (noT Hn5) p5 (.lst xs5)) (.ref p5) (.list ((toldL l).map entE)) := .lst (sq_of upd_same) (dpa_mono (Ex.new (noT_none n5)) _ (dpa_noT _ d5))
      refine go_bind (C := fun te => tSeq (tRet (tTup (tCons te _))) _) (ew_ev (M := []) W6 (ev_clock (ev_var rfl) k5 cl nc)) ?_
      rintro _ H6 Hn6 g6 ⟨rfl, rfl, e6⟩
      refine go_bind (C := fun te => tSeq (tRet (tTup (tCons (tVal _) (tCons te _)))) _) (ew_ev (M := []) (W6.step g6) (ev_high (ev_var rfl) (e6 _ _ k5) cl nh)) ?_
      rintro _ H7 Hn7 g7 ⟨rfl, rfl, e7⟩
      refine go_bind (C := fun te => tSeq (tRet (tTup (tCons (tVal _) (tCons (tVal _) (tCons te _))))) _) (ew_ev (M := []) ((W6.step g6).step g7) (ev_wide (ev_var rfl) (e7 _ _ (e6 _ _ k5)) cl nw)) ?_
      rintro _ H8 Hn8 g8 ⟨rfl, rfl, e8⟩
      refine go_retE' (ew_ed (K := K) (M := []) (d := likeD l) (((W6.step g6).step g7).step g8) (ed_tup (eda_cons (ed_int ev_val) (eda_cons (ed_int ev_val) (eda_cons (ed_int ev_val) (eda_cons (ed_var rfl hd5) eda_nil)))) (by simp))) ?_
      rintro v9 H9 Hn9 g9 ⟨hd9, e9⟩ Ha ea
      exact q v9 Ha Hn9 (((((g5'.trans g6).trans g7).trans g8).trans g9).post ea) hd9
theorem ew_likeness (T : Tx K mg base) {σ : L2.St} {Hd H : Hp} {ta : TE} {E : XK} {M : List Addr} {p d : Addr} {l : LogM} (W : Wld (tabsOf T) M Hd H) (ha : Ev ta σ H (.ref p)) (L : LogAt K T.a_Log Hd H p d l) : EvW (tabsOf T) [] (tMeth T.a_Log "likeness" (sp_Log_likeness T) [] E ta tNil) σ Hd H (fun v Hn H2 => Dp K Hn v (likeD l)) := fun H1 e1 Q q =>
  ha H1 e1 _ fun H2 e2 => by
    have e12 := e1.trans e2
    obtain ⟨dx, h1⟩ := L.ob
    exact ⟨p, dx, _, rfl, e12 _ _ h1, rfl, p, d, l, Hd, rfl, L.mono (Ex.refl _) e12, (W.ext e12).nil, fun v H3 Hn g hx => q v _ _ (g.pre e2) hx⟩
def sp_Log_eq (T : Tx K mg base) : Sp := fun vs H Q _ => ∃ (p d p2 d2 : Addr) (l l2 : LogM) (Hd : Hp), vs = [.ref p, .ref p2] ∧ LogAt K T.a_Log Hd H p d l ∧ LogAt K T.a_Log Hd H p2 d2 l2 ∧ Wld (tabsOf T) [] Hd H ∧
  ∀ H2 Hn, GrW (tabsOf T) [] Hd H Hn H2 → Q (.bl (PyData.eqv (likeD l) (likeD l2))) H2
theorem okX_Log_eq (T : Tx K mg base) : FnOk P w K mg base (L2N.CX P w) 7 T.a_Log_eq T.d_Log_eq ["self", "other"] (sp_Log_eq T) := by
  refine okN T.F_Log_eq sc_Log_eq (fun vs H Q E h => ?_) (fun cdv A outer s H vs Q E hr h => ?_)
  · obtain ⟨p, d, p2, d2, l, l2, Hd, rfl, _⟩ := h
    rfl
  · obtain ⟨p, d, p2, d2, l, l2, Hd, rfl, L, L2, W, q⟩ := h
    obtain ⟨dx2, h2⟩ := L2.ob
    refine ⟨_, (pss_cons (ps_ret (pe_and (pe_callB (r := rIsi K) call_isi (by rfl) T.n_isinstance (by decide +kernel) (pa_cons (pv 1) (pa_cons (pe_glob (v := .ref T.a_Log) rfl T.x_Log.g rfl) pa_nil))) (pe_one (pe_cmpR (r := rEqD K) (op_eqD hr.units) (pe_meth0 (pv 0) T.Q_Log T.m_Log_likeness (okX_Log_likeness (P := P) (w := w) T) (hr.mono (by omega)) T.b_Log_likeness .nil (L2N.passes_call (L2N.takes_of rfl rfl rfl rfl) (fun _ _ _ _ h => h))) (pe_meth0 (pv 1) T.Q_Log T.m_Log_likeness (okX_Log_likeness (P := P) (w := w) T) (hr.mono (by omega)) T.b_Log_likeness .nil (L2N.passes_call (L2N.takes_of rfl rfl rfl rfl) (fun _ _ _ _ h => h))) (nomark _)))))
      pss_nil), Go.go ?_⟩
    refine go_retAnd (ev_isiO (ev_var rfl) h2 T.Q_Log T.I_Log) ?_
    refine go_bind (C := fun te => tSeq (tRet (tOp _ te _)) _) (ew_likeness T W (ev_var rfl) L) fun v1 H1 Hn1 g1 hd1 => ?_
    refine go_bind (C := fun te => tSeq (tRet (tOp _ (tVal _) te)) _) (ew_likeness T (W.step g1) (ev_var rfl) (L2.step g1 (by simp) (by simp))) fun v2 H2 Hn2 g2 hd2 => ?_
    refine go_retE' (ew_ev (M := []) ((W.step g1).step g2) (Ev.mono g2.sub (ev_eqD (K := K) (ed_val (dp_mono g2.dx _ hd1)) (ed_val hd2) (okE_shaped (okE_like l) (by decide)) (okE_shaped (okE_like l2) (by decide))))) ?_
    rintro _ H3 Hn3 g3 ⟨rfl, rfl, e3⟩ H4 e4
    exact q H4 Hn3 (((g1.trans g2).trans g3).post e4)
theorem ew_eqLog (T : Tx K mg base) {σ : L2.St} {Hd H : Hp} {ta tb : TE} {E : XK} {M : List Addr} {p d p2 d2 : Addr} {l l2 : LogM} (W : Wld (tabsOf T) M Hd H) (ha : Ev ta σ H (.ref p)) (hb : Ev tb σ H (.ref p2)) (L : LogAt K T.a_Log Hd H p d l) (L2 : LogAt K T.a_Log Hd H p2 d2 l2) :
    EvW (tabsOf T) [] (tOp (rEqO T.a_Log (sp_Log_eq T) E) ta tb) σ Hd H (fun v _ _ => v = .bl (PyData.eqv (likeD l) (likeD l2))) := fun H1 e1 Q q =>
  ha H1 e1 _ fun H2 e2 => hb H2 (e1.trans e2) _ fun H3 e3 => by
    have e13 := (e1.trans e2).trans e3
    obtain ⟨dx, h1⟩ := L.ob
    obtain ⟨dx2, h2⟩ := L2.ob
    exact ⟨p, dx, _, p2, dx2, _, rfl, rfl, e13 _ _ h1, e13 _ _ h2, p, d, p2, d2, l, l2, Hd, rfl, L.mono (Ex.refl _) e13, L2.mono (Ex.refl _) e13, (W.ext e13).nil, fun H4 Hn g => q _ H4 Hn (g.pre (e2.trans e3)) rfl⟩

/-! ### squares of a chart -/
def sqD (q : Int × Int) : PyData := .tuple [.int q.1, .int q.2]
def wideOf (rows : List (List Int)) : Nat := (rows.headD []).length
def inB (rows : List (List Int)) (q : Int × Int) : Bool := (decide (0 ≤ q.1) && decide (q.1 < (rows.length : Int))) && (decide (0 ≤ q.2) && decide (q.2 < (wideOf rows : Int)))
def whatAt (rows : List (List Int)) (q : Int × Int) : Int := if inB rows q = true then ((rows[q.1.toNat]?.getD [])[q.2.toNat]?).getD (-1) else -1
theorem map_inj {α β : Type} {f : α → β} (hf : ∀ x y, f x = f y → x = y) : ∀ {l l' : List α}, l.map f = l'.map f → l = l'
  | [], [], _ => rfl
  | [], _ :: _, h => by simp at h
  | _ :: _, [], h => by simp at h
  | x :: l, y :: l', h => by
    rw [List.map_cons, List.map_cons, List.cons.injEq] at h
    rw [hf x y h.1, map_inj hf h.2]
theorem dChart_inj {c c' : Int} {rows rows' : List (List Int)} (h : dChart c rows = dChart c' rows') : c = c' ∧ rows = rows' := by
  unfold dChart at h
  simp only [PyData.tuple.injEq, List.cons.injEq, PyData.int.injEq, and_true] at h
  refine ⟨h.1, map_inj (fun x y hxy => ?_) h.2⟩
  unfold dRow at hxy
  simp only [PyData.tuple.injEq] at hxy
  exact map_inj (fun x y hxy => by cases hxy; rfl) hxy
structure Rect (rows : List (List Int)) : Prop where
  h1 : 1 ≤ rows.length
  h9 : rows.length ≤ 9
  w1 : 1 ≤ wideOf rows
  w9 : wideOf rows ≤ 9
  row : ∀ r ∈ rows, r.length = wideOf rows
theorem Rect.head {rows : List (List Int)} (R : Rect rows) : atI (rows.map dRow) 0 = some (dRow (rows.headD [])) := by
  have h := R.h1
  cases rows with
  | nil => simp at h
  | cons r rs => exact atI_nat (j := 0) rfl
theorem atI_pos {α : Type} {xs : List α} {i : Int} {d : α} (h0 : 0 ≤ i) (h : xs[i.toNat]? = some d) : atI xs i = some d := by
  obtain ⟨n, rfl⟩ := Int.eq_ofNat_of_zero_le h0
  exact atI_nat h
theorem inB_iff {rows : List (List Int)} {q : Int × Int} : inB rows q = true ↔ (0 ≤ q.1 ∧ q.1 < (rows.length : Int)) ∧ 0 ≤ q.2 ∧ q.2 < (wideOf rows : Int) := by
  unfold inB
  simp [Bool.and_eq_true]
theorem gr_mut {Hd H Hg H' : Hp} {l : Addr} {o : HO} (G : Gr Hd H Hg H') (h0 : H l = none) (hg : Hg l = none) : Gr Hd H Hg (upd H' l o) := ⟨Ex.mut G.ex h0, G.dx, Ex.mut G.sub hg, G.fr⟩
theorem nodup_le {α : Type} [DecidableEq α] : ∀ (l D : List α), l.Nodup → (∀ x ∈ l, x ∈ D) → l.length ≤ D.length
  | [], D, _, _ => Nat.zero_le _
  | x :: l, D, hn, h => by
    rw [List.nodup_cons] at hn
    have hx := h x List.mem_cons_self
    have h2 := nodup_le l (D.erase x) hn.2 fun y hy => (List.mem_erase_of_ne (fun e => hn.1 (by rw [← e]; exact hy))).mpr (h y (List.mem_cons_of_mem _ hy))
    have h3 := List.length_erase_of_mem hx
    have h4 := List.length_pos_of_mem hx
    rw [List.length_cons]
    omega
theorem sq_inj {p q : Int × Int} (h : sqD p = sqD q) : p = q := by
  unfold sqD at h
  simp at h
  exact Prod.ext h.1 h.2
theorem eqv_sq (p q : Int × Int) : PyData.eqv (sqD p) (sqD q) = decide (p = q) := by
  unfold sqD PyData.eqv
  simp [PyData.eqvAll, PyData.eqv, Prod.ext_iff]
  rfl
theorem okE_sq (n : Nat) (q : Int × Int) : okE (n + 1) (sqD q) := fun e he => by
  simp at he
  rcases he with rfl | rfl <;> cases n <;> trivial
theorem okE_sqs (n : Nat) (l : List (Int × Int)) : okE (n + 2) (.list (l.map sqD)) := fun e he => by
  obtain ⟨q, _, rfl⟩ := List.mem_map.mp he
  exact okE_sq n q
def k2 (q : Int × Int) : List Int := [q.1, q.2]
theorem k2_inj {p q : Int × Int} (h : k2 p = k2 q) : p = q := by
  unfold k2 at h
  simp at h
  exact Prod.ext h.1 h.2
def spWhat (K : PySem.W.Frag) : Sp := fun vs H Q _ => ∃ (v1 v2 : V) (c : Int) (rows : List (List Int)) (q : Int × Int), vs = [v1, v2] ∧ Dp K H v1 (dChart c rows) ∧ Dp K H v2 (sqD q) ∧ Rect rows ∧ ∀ H2, Ex H H2 → Q (.int (whatAt rows q)) H2
theorem ok_law_what (T : Tx K mg base) : FnOk P w K mg base CX0 8 T.a_law_what T.d_law_what ["_law_chart", "_law_square"] (spWhat K) := by
  refine T.F_law_what.ok sc_law_what (fun vs H Q E h => ?_) (fun cdv A outer s H vs Q E hr h => ?_)
  · obtain ⟨v1, v2, c, rows, q, rfl, _⟩ := h
    rfl
  · obtain ⟨v1, v2, c, rows, q, rfl, d1, d2, R, k⟩ := h
    refine ⟨_, (pss_cons (ps_asg (pv 1) (pg_tup rfl (pgs_cons (pg_name (i := 2) sc_law_what.nd rfl (.inl rfl)) (pgs_cons (pg_name (i := 3) sc_law_what.nd rfl (.inl rfl)) pgs_nil))))
      (pss_cons (ps_if (PW.pt (pw_and (pt_chain op_le op_lt pe_int (pv 2) (pe_callB (r := rLenS K) call_lenQ (by rfl) T.n_len PySem.boot_len (pa_cons (pe_ix (r := rIxT K) ix_tup (pv 0) pe_int (fun _ _ => rfl)) pa_nil))) (pw_and1 (pt_chain op_le op_lt pe_int (pv 3) (pe_callB (r := rLenS K) call_lenQ (by rfl) T.n_len PySem.boot_len (pa_cons (pe_ix (r := rIxT K) ix_tup (pe_ix (r := rIxT K) ix_tup (pv 0) pe_int (fun _ _ => rfl)) pe_int (fun _ _ => rfl)) pa_nil)))))) (pss_cons (ps_ret (pe_ix (r := rIxT K) ix_tup (pe_ix (r := rIxT K) ix_tup (pe_ix (r := rIxT K) ix_tup (pv 0) pe_int (fun _ _ => rfl)) (pv 2) (fun _ _ => rfl)) (pv 3) (fun _ _ => rfl)))
      pss_nil) pss_nil)
      (pss_cons (ps_ret (pe_un un_neg pe_int))
      pss_nil))), Go.go ?_⟩
    refine go_two (K := K) (Ex.refl _) (ed_var rfl d2) fun u1 u2 H1 D1 g1 h1 h2 => ?_
    cases h1
    cases h2
    have dc : Dp K H1 v1 (dChart c rows) := dp_mono g1.ex _ d1
    have dr : ∀ {σ : L2.St}, σ[0]? = some (some v1) → EvD K (tOp (rIxT K) (tVar 0) (tC (.int 1))) σ H1 (.tuple (rows.map dRow)) := fun e => ed_ixT (ed_var e dc) ev_c rfl
    apply go_when (b := inB rows q)
    · refine et_andB (et_test (ev_chainB ev_c (ev_var rfl) rv_I0 (ev_is (ev_lenT (dr rfl)) (by rw [List.length_map])) rv_I0)) (et_test (ev_chainB ev_c (ev_var rfl) rv_I0 (ev_is (ev_lenT (ed_ixT (dr rfl) ev_c R.head)) (by rw [List.length_map]; rfl)) rv_I0))
    · intro e
      obtain ⟨⟨a1, a2⟩, a3, a4⟩ := inB_iff.mp e
      have hlt : q.1.toNat < rows.length := by omega
      have hrow : (rows[q.1.toNat]).length = wideOf rows := R.row _ (List.getElem_mem hlt)
      have hlt2 : q.2.toNat < (rows[q.1.toNat]).length := by omega
      apply go_retE (v := .int (whatAt rows q)) (k := fun H2 e2 => k H2 (g1.ex.trans e2))
      · refine ev_int (K := K) (ed_ixT (ds := (rows[q.1.toNat]).map .int) (ed_ixT (dr rfl) (ev_var rfl) ?_) (ev_var rfl) (d := .int (rows[q.1.toNat][q.2.toNat])) ?_)
        · exact atI_pos a1 (by rw [List.getElem?_map, List.getElem?_eq_getElem hlt]; rfl)
        · exact atI_pos a3 (by rw [List.getElem?_map, List.getElem?_eq_getElem hlt2]; rfl)
      · unfold whatAt
        rw [if_pos e, List.getElem?_eq_getElem hlt]
        show V.int _ = V.int (((rows[q.1.toNat])[q.2.toNat]?).getD (-1))
        rw [List.getElem?_eq_getElem hlt2]
        rfl
    · intro e
      apply go_retE (v := .int (whatAt rows q)) (k := fun H2 e2 => k H2 (g1.ex.trans e2))
      · walk_at "ev"
      · unfold whatAt
        rw [if_neg (by rw [e]; decide)]
theorem ev_what {σ : L2.St} {Hd : Hp} {E : XK} {tr : TA} {c : Int} {rows : List (List Int)} {q : Int × Int} (h : EvDA K tr σ Hd [dChart c rows, sqD q]) (R : Rect rows) : Ev (tCall (spWhat K) [] E tr) σ Hd (.int (whatAt rows q)) := fun H s Q k =>
  h H s _ fun vs H2 Hn g hd => by
    cases hd with
    | cons h1 h2 =>
      cases h2 with
      | cons h2 h3 =>
        cases h3
        exact ⟨_, _, c, rows, q, rfl, dp_mono g.sub _ h1, dp_mono g.sub _ h2, R, fun H3 e3 => k H3 (g.ex.trans e3)⟩
def allSq (rows : List (List Int)) : List (Int × Int) := (List.range (wideOf rows * rows.length)).map fun (k : Nat) => ((k : Int) / (wideOf rows : Int), (k : Int) % (wideOf rows : Int))
def R1 (f : List (List Int) → List PyData) (ds es : List PyData) : Prop := ∃ c rows, ds = [dChart c rows] ∧ Rect rows ∧ es = f rows
def toldSq (rows : List (List Int)) : List (Int × Int) := (allSq rows).filter fun q => decide (0 ≤ whatAt rows q)
theorem allSq_len {rows : List (List Int)} (R : Rect rows) : (allSq rows).length ≤ 81 := by
  unfold allSq
  rw [List.length_map, List.length_range]
  exact Nat.mul_le_mul R.w9 R.h9
theorem mem_allSq {rows : List (List Int)} {q : Int × Int} (h : inB rows q = true) : q ∈ allSq rows := by
  obtain ⟨⟨a1, a2⟩, a3, a4⟩ := inB_iff.mp h
  obtain ⟨r, c⟩ := q
  simp only at a1 a2 a3 a4
  obtain ⟨r, rfl⟩ := Int.eq_ofNat_of_zero_le a1
  obtain ⟨c, rfl⟩ := Int.eq_ofNat_of_zero_le a3
  unfold allSq
  rw [List.mem_map]
  refine ⟨r * wideOf rows + c, List.mem_range.mpr ?_, ?_⟩
  · have h1 : r + 1 ≤ rows.length := by omega
    have h2 := Nat.mul_le_mul_left (wideOf rows) h1
    rw [Nat.mul_add, Nat.mul_one, Nat.mul_comm] at h2
    omega
  · have hw : (0 : Int) < (wideOf rows : Int) := by omega
    have e1 : (((r * wideOf rows + c : Nat) : Int)) = (c : Int) + (wideOf rows : Int) * (r : Int) := by
      rw [Int.natCast_add, Int.natCast_mul, Int.mul_comm, Int.add_comm]
    rw [e1, Int.add_mul_ediv_left _ _ (by omega), Int.add_mul_emod_self_left, Int.ediv_eq_zero_of_lt (by omega) a4, Int.emod_eq_of_lt (by omega) a4]
    simp
theorem what_in {rows : List (List Int)} {q : Int × Int} (h : whatAt rows q ≠ -1) : inB rows q = true := by
  unfold whatAt at h
  split at h
  · assumption
  · exact absurd rfl h
theorem told_iff {rows : List (List Int)} {q : Int × Int} : q ∈ toldSq rows ↔ 0 ≤ whatAt rows q := by
  unfold toldSq
  rw [List.mem_filter]
  constructor
  · exact fun h => of_decide_eq_true h.2
  · intro h
    exact ⟨mem_allSq (what_in (by omega)), decide_eq_true h⟩
theorem told_len {rows : List (List Int)} (R : Rect rows) : (toldSq rows).length ≤ 81 := Nat.le_trans (List.length_filter_le _ _) (allSq_len R)
theorem given_filter {α : Type} (l : List α) (F : α → PyData) (p : α → Bool) (d : α) : givenD l.length (fun i => p (l[i]?.getD d)) (fun i => F (l[i]?.getD d)) = (l.filter p).map F := by
  unfold givenD
  have e : l = (List.range l.length).map (fun i => l[i]?.getD d) := by
    apply List.ext_getElem
    · simp
    · intro i h1 h2
      simp [h1]
  conv => rhs; rw [e]
  rw [List.filter_map, List.map_map]
  rfl

theorem ok_law_day (T : Tx K mg base) : FnOk P w K mg base CX0 9 T.a_law_day T.d_law_day ["_law_box_here"] (spB K (fun ds => ds = []) (fun _ => isI fun n => 0 ≤ n ∧ n ≤ 999)) := by
  refine T.F_law_day.ok sc_law_day (fun vs H Q E h => ?_) (fun cdv A outer s H vs Q E hr h => ?_)
  · obtain ⟨b, ws, Hd, ds, rfl, hb, sx, B, hds, rfl, q⟩ := h
    cases hds
    rfl
  · obtain ⟨b, ws, Hd, ds, rfl, hb, sx, B, hds, rfl, q⟩ := h
    cases hds
    refine ⟨_, (pss_cons (ps_ret (pe_ix (r := rIxL K) ix_list (pe_lst (pa_cons pe_int (pa_cons pe_int (pa_cons (pe_call (ok_law_take (P := P) (w := w) T) (hr.mono (by omega)) (by rfl) T.g_law_take T.F_law_take.kp T.b_law_take .nil pass0 (pa_cons (pv 0) (pa_cons pe_int pa_nil))) (pa_cons (pe_call (ok_law_take (P := P) (w := w) T) (hr.mono (by omega)) (by rfl) T.g_law_take T.F_law_take.kp T.b_law_take .nil pass0 (pa_cons (pv 0) (pa_cons pe_int pa_nil))) (pa_cons pe_int pa_nil)))))) (pe_call (ok_law_take (P := P) (w := w) T) (hr.mono (by omega)) (by rfl) T.g_law_take T.F_law_take.kp T.b_law_take .nil pass0 (pa_cons (pv 0) (pa_cons pe_int pa_nil))) (fun _ _ => rfl)))
      pss_nil), Go.go ?_⟩
    refine go_retB hb sx B (eb_pick (K := K) (n := 5) (p := fun n => 0 ≤ n ∧ n ≤ 999) (ap_cons (eb_int ev_c (by decide)) (ap_cons (eb_int ev_c (by decide)) (ap_cons (EvB.impI (eb_take (ev_var rfl) ev_c (m := 9) (by decide) (by decide)) fun i h => by omega) (ap_cons (EvB.impI (eb_take (ev_var rfl) ev_c (m := 1000) (by decide) (by decide)) fun i h => by omega) (ap_cons (eb_int ev_c (by decide)) ap_nil))))) (eb_take (ev_var rfl) ev_c (m := 5) (by decide) (by decide)) (by decide)) q
theorem eb_day {σ : L2.St} {Hd : Hp} {E : XK} {b : Bid} {ta : TE} (ha : Ev ta σ Hd (.ref b.b)) : EvB K b (tCall (spB K (fun ds => ds = []) (fun _ => isI fun n => 0 ≤ n ∧ n ≤ 999)) [] E (tCons ta tNil)) σ Hd (isI fun n => 0 ≤ n ∧ n ≤ 999) := by
  refine EvB.imp (eb_call ha eba_nil fun ds e => e) ?_
  rintro d ⟨ds, rfl, h⟩
  exact h

def ROne (ds : List PyData) (d : PyData) : Prop := ∃ c o : Int, ds = [.int c] ∧ d = .int o ∧ -2 ≤ o ∧ o < c
theorem ok_law_one (T : Tx K mg base) : FnOk P w K mg base CX0 9 T.a_law_one T.d_law_one ["_law_box_here", "_law_clock_here"] (spB K (fun ds => ∃ c : Int, ds = [.int c] ∧ isClock c = true) ROne) := by
  refine T.F_law_one.ok sc_law_one (fun vs H Q E h => ?_) (fun cdv A outer s H vs Q E hr h => ?_)
  · obtain ⟨b, ws, Hd, ds, rfl, hb, sx, B, hds, ⟨c, rfl, _⟩, q⟩ := h
    cases hds with
    | cons h1 h2 => cases h2; rfl
  · obtain ⟨b, ws, Hd, ds, rfl, hb, sx, B, hds, ⟨c, rfl, hc⟩, q⟩ := h
    cases hds with
    | cons h1 h2 =>
    cases h2
    cases h1
    have hc := isClock_iff.mp hc
    refine ⟨_, (pss_cons (ps_ret (pe_ix (r := rIxL K) ix_list (pe_lst (pa_cons (pe_call (ok_law_take (P := P) (w := w) T) (hr.mono (by omega)) (by rfl) T.g_law_take T.F_law_take.kp T.b_law_take .nil pass0 (pa_cons (pv 0) (pa_cons (pv 1) pa_nil))) (pa_cons (pe_un un_neg pe_int) (pa_cons (pe_un un_neg pe_int) (pa_cons pe_int (pa_cons (pe_op op_sub (pv 1) pe_int) pa_nil)))))) (pe_op op_mod (pe_call (ok_law_take (P := P) (w := w) T) (hr.mono (by omega)) (by rfl) T.g_law_take T.F_law_take.kp T.b_law_take .nil pass0 (pa_cons (pv 0) (pa_cons pe_int pa_nil))) pe_int) (fun _ _ => rfl)))
      pss_nil), Go.go ?_⟩
    refine go_retB hb sx B (eb_pick (K := K) (n := 5) (p := fun n => -2 ≤ n ∧ n < c) (ap_cons (EvB.impI (eb_take (ev_var rfl) (ev_var rfl) (m := c) (by omega) (by omega)) fun i h => by omega) (ap_cons (eb_int (by walk_at "ev") (by omega)) (ap_cons (eb_int (by walk_at "ev") (by omega)) (ap_cons (eb_int ev_c (by omega)) (ap_cons (eb_int (by walk_at "ev") (by omega)) ap_nil))))) (EvB.impI (eb_opI (by intros; rfl) (eb_take (ev_var rfl) ev_c (m := 9) (by decide) (by decide)) (eb_ev (n := 5) ev_c) (by rintro i j _ rfl; decide)) ?_) (by decide)) ?_
    · rintro k ⟨i, j, _, rfl, rfl⟩
      show 0 ≤ i % 5 ∧ i % 5 < 5
      omega
    · rintro v H2 Hn d g hd ⟨o, rfl, ho⟩
      exact q v H2 Hn _ g hd ⟨c, o, rfl, rfl, ho⟩
theorem eb_one {σ : L2.St} {Hd : Hp} {E : XK} {b : Bid} {ta tb : TE} {c : Int} (ha : Ev ta σ Hd (.ref b.b)) (hc : Ev tb σ Hd (.int c)) (h : isClock c = true) : EvB K b (tCall (spB K (fun ds => ∃ c : Int, ds = [.int c] ∧ isClock c = true) ROne) [] E (tCons ta (tCons tb tNil))) σ Hd (isI fun n => -2 ≤ n ∧ n < c) := by
  refine EvB.imp (eb_call ha (eba_cons (eb_ev hc) eba_nil) ?_) ?_
  · rintro ds ⟨d, es, rfl, ⟨i, rfl, rfl⟩, rfl⟩
    exact ⟨_, rfl, h⟩
  · rintro d ⟨ds, ⟨d', es, rfl, ⟨i, rfl, rfl⟩, rfl⟩, c', o, e1, rfl, h2⟩
    cases e1
    exact ⟨o, rfl, h2⟩
def RShuf (ds : List PyData) (d : PyData) : Prop := ∃ es es' : List (List Int), ds = [.list (es.map entE)] ∧ d = .list (es'.map entE) ∧ es'.Perm es
theorem erase_perm {α : Type} : ∀ {xs : List α} {j : Nat} {x : α}, xs[j]? = some x → (x :: xs.eraseIdx j).Perm xs
  | [], j, x, h => by simp at h
  | y :: xs, 0, x, h => by
    simp at h
    subst h
    exact List.Perm.refl _
  | y :: xs, j + 1, x, h => by
    rw [List.getElem?_cons_succ] at h
    rw [List.eraseIdx_cons_succ]
    exact (List.Perm.swap y x _).trans ((erase_perm h).cons y)
theorem erase_map {α β : Type} (f : α → β) : ∀ (l : List α) (j : Nat), (l.map f).eraseIdx j = (l.eraseIdx j).map f
  | [], j => rfl
  | x :: l, 0 => rfl
  | x :: l, j + 1 => by rw [List.map_cons, List.eraseIdx_cons_succ, List.eraseIdx_cons_succ, List.map_cons, erase_map f l j]
theorem entE_inj {x y : List Int} (h : entE x = entE y) : x = y := by
  unfold entE at h
  simp only [PyData.tuple.injEq] at h
  exact map_inj (fun a b h => by cases h; rfl) h
theorem dpa_erase {H : Hp} : ∀ {xs : List V} {ds : List PyData} (j : Nat), DpAll K H xs ds → DpAll K H (xs.eraseIdx j) (ds.eraseIdx j)
  | _, _, _, .nil => .nil
  | _, _, 0, .cons _ r => r
  | _, _, j + 1, .cons h r => .cons h (dpa_erase j r)
theorem ok_law_shuffled (T : Tx K mg base) : FnOk P w K mg base CX0 9 T.a_law_shuffled T.d_law_shuffled ["_law_box_here", "_law_rows"] (spB K (fun ds => ∃ es : List (List Int), ds = [.list (es.map entE)] ∧ es.length ≤ 1000) RShuf) := by
  refine T.F_law_shuffled.ok sc_law_shuffled (fun vs H Q E h => ?_) (fun cdv A outer s H vs Q E hr h => ?_)
  · obtain ⟨b, ws, Hd, ds, rfl, hb, sx, B, hds, ⟨es, rfl, _⟩, q⟩ := h
    cases hds with
    | cons h1 h2 => cases h2; rfl
  · obtain ⟨b, ws, Hd, ds, rfl, hb, sx, B, hds, ⟨es, rfl, hlen⟩, q⟩ := h
    obtain ⟨v, rfl, hv⟩ : ∃ v, ws = [v] ∧ Dp K Hd v (.list (es.map entE)) := by
      cases hds with
      | cons h1 h2 => cases h2; exact ⟨_, rfl, h1⟩
    refine ⟨_, (pss_cons (ps_set (i := 2) sc_law_shuffled.nd rfl (.inl rfl) (pe_callTy (r := rListS K) call_listQ (by rfl) T.n_list (by decide +kernel) (pa_cons (pv 1) pa_nil)))
      (pss_cons (ps_set (i := 3) sc_law_shuffled.nd rfl (.inl rfl) (pe_lst pa_nil))
      (pss_cons (ps_for PassesOwn.never rfl (pi_range1 (by rfl) T.n_range (pa_cons (pe_callB (r := rLenS K) call_lenQ (by rfl) T.n_len PySem.boot_len (pa_cons (pv 1) pa_nil)) pa_nil)) (pg_name (i := 4) sc_law_shuffled.nd rfl (.inl rfl)) (pss_cons (ps_expr (pe_bm PySem.F.plainAttrs_list PySem.F.slot_list_append PySem.F.type_list_append mt_append (pv 3) (pa_cons (pe_bm PySem.F.plainAttrs_list PySem.F.slot_list_pop PySem.F.type_list_pop mt_popAt (pv 2) (pa_cons (pe_call (ok_law_take (P := P) (w := w) T) (hr.mono (by omega)) (by rfl) T.g_law_take T.F_law_take.kp T.b_law_take .nil pass0 (pa_cons (pv 0) (pa_cons (pe_callB (r := rLenS K) call_lenQ (by rfl) T.n_len PySem.boot_len (pa_cons (pv 2) pa_nil)) pa_nil))) pa_nil)) pa_nil)))
      pss_nil))
      (pss_cons (ps_ret (pv 3))
      pss_nil)))), Go.go ?_⟩
    show Go _ _ [some (V.ref b.b), some v, none, none, none] H
    refine go_asgN (K := K) (Hd := Hd) sx (en_list (ed_var rfl hv)) fun l xs H1 Hn1 g1 fl nl hl hx => ?_
    refine go_asgN (K := K) (Hd := Hn1) (ds := []) g1.sub (en_lst eda_nil (by simp)) fun f ys H2 Hn2 g2 ff nf hf hy => ?_
    cases hy
    have hb1 : Hn1 b.b = none := by
      obtain ⟨cells, bl, hbb, _⟩ := B
      exact g1.fr _ _ hbb hb
    have hb2 : Hn2 b.b = none := by
      obtain ⟨cells, bl, hbb, _⟩ := B
      exact g2.fr _ _ (g1.ex _ _ hbb) hb1
    have B2 : Bx H2 b := (B.mono g1.ex).mono g2.ex
    have hl2 := g2.ex _ _ hl
    have nl2 : Hn2 l = none := g2.fr _ _ hl nl
    obtain ⟨lb, lc⟩ := (B.mono (Ex.refl _)).apart fl
    have fH : H f = none := fresh_back g1.ex ff
    obtain ⟨fb, fc⟩ := B.apart fH
    have lf : l ≠ f := fun e => by rw [e, ff] at hl; cases hl
    have hv2 : Dp K Hn2 v (.list (es.map entE)) := dp_mono (g1.dx.trans g2.dx) _ hv
    have hx2 := dpa_mono g2.dx _ hx
    refine go_forN (m := (es.length : Int)) (ea_cons (Ev.mono g2.sub (ev_is (ev_lenL (K := K) (ed_var rfl hv2)) (by rw [List.length_map]))) ea_nil) (by omega) (fun i σ' H' => (∃ (ds' ds'' : List (List Int)) (xs ys : List V), Ex Hn2 H' ∧ Bx H' b ∧ (∀ a o, a ≠ b.b → H a = some o → H' a = some o) ∧ H' l = some (.lst xs) ∧ H' f = some (.lst ys) ∧ DpAll K Hn2 xs (ds'.map entE) ∧ DpAll K Hn2 ys (ds''.map entE) ∧ (ds'' ++ ds').Perm es ∧ ds''.length = i) ∧ ∃ x4, σ' = [some (V.ref b.b), some v, some (V.ref l), some (V.ref f), x4]) ?_ ?_ ?_
    · intro H' e
      exact ⟨⟨es, [], xs, [], g2.sub.trans e, B2.mono e, fun a o _ h => e _ _ (g2.ex _ _ (g1.ex _ _ h)), e _ _ hl2, e _ _ hf, hx2, .nil, List.Perm.refl _, rfl⟩, _, rfl⟩
    · rintro i σ' H3 hi ⟨⟨ds', ds'', xs3, ys3, s3, B3, k3, hl3, hf3, hx3, hy3, hp3, hi3⟩, x4, rfl⟩
      have hpl := hp3.length_eq
      rw [List.length_append] at hpl
      have hlx : xs3.length = ds'.length := by rw [dpa_len hx3, List.length_map]
      have hly : ys3.length = ds''.length := by rw [dpa_len hy3, List.length_map]
      have hi2 : i < es.length := hi
      refine go_popApp (K := K) (Hd := Hn2) hb2 s3 B3 hl3 hf3 nl2 lb fb lf (ev_var rfl) (ev_var rfl) ?_ (by omega) (by omega) fun j x H4 hj kp s4 B4 => ?_
      · exact eb_take (ev_var rfl) (ev_is (ev_lenL (K := K) (ds := ds'.map entE) (ed_var rfl (.lst (sq_of upd_same) (dpa_mono (Ex.new nl2) _ hx3)))) (by rw [List.length_map, hlx])) (by omega) (by omega)
      · obtain ⟨d, hd1, hd2⟩ := dpa_get2 hx3 hj
        rw [List.getElem?_map] at hd1
        obtain ⟨e, he, rfl⟩ := Option.map_eq_some_iff.mp hd1
        refine go_next fun H5 e5 => ⟨⟨ds'.eraseIdx j, ds'' ++ [e], xs3.eraseIdx j, ys3 ++ [x], (Ex.mut (Ex.mut s4 nl2) nf).trans e5, (bx_put (bx_put B4 lb lc) fb fc).mono e5, fun a o na ha => ?_, e5 _ _ (by rw [upd_ne lf, upd_same]), e5 _ _ upd_same, ?_, ?_, ?_, by rw [List.length_append, hi3]; rfl⟩, _, rfl⟩
        · refine e5 _ _ ?_
          rw [upd_ne (fun z => by rw [z, fH] at ha; cases ha), upd_ne (fun z => by rw [z, fl] at ha; cases ha)]
          exact kp _ _ na (k3 a o na ha)
        · have := dpa_erase j hx3
          rwa [erase_map] at this
        · rw [List.map_append]
          exact dpa_app hy3 (.cons hd2 .nil)
        · rw [List.append_assoc]
          exact (List.Perm.append_left ds'' (erase_perm he)).trans hp3
    · rintro σ' H3 ⟨⟨ds', ds'', xs3, ys3, s3, B3, k3, hl3, hf3, hx3, hy3, hp3, hi3⟩, x4, rfl⟩
      have hi3' : ds''.length = es.length := hi3
      have hpl := hp3.length_eq
      rw [List.length_append] at hpl
      have e0 : ds' = [] := List.length_eq_zero_iff.mp (by omega)
      subst e0
      rw [List.append_nil] at hp3
      refine go_retV (ev_var rfl) fun H4 e4 => q (.ref f) H4 (upd Hn2 f (.lst ys3)) (.list (ds''.map entE)) ⟨fun a o na ha => e4 _ _ (k3 a o na ha), (g1.dx.trans g2.dx).trans (Ex.new nf), (ex_add s3 hf3).trans e4, fun a o ha hd => ?_, B3.mono e4⟩ (.lst (sq_of upd_same) (dpa_mono (Ex.new nf) _ hy3)) ⟨es, ds'', rfl, rfl, hp3⟩
      rw [upd_ne (fun z => by rw [z, fH] at ha; cases ha)]
      exact g2.fr _ _ (g1.ex _ _ ha) (g1.fr _ _ ha hd)
theorem eb_shuffled {σ : L2.St} {Hd : Hp} {E : XK} {b : Bid} {ta tb : TE} {es : List (List Int)} (ha : Ev ta σ Hd (.ref b.b)) (hc : EvD K tb σ Hd (.list (es.map entE))) (h : es.length ≤ 1000) : EvB K b (tCall (spB K (fun ds => ∃ es : List (List Int), ds = [.list (es.map entE)] ∧ es.length ≤ 1000) RShuf) [] E (tCons ta (tCons tb tNil))) σ Hd (fun d => ∃ es' : List (List Int), d = .list (es'.map entE) ∧ es'.Perm es) := by
  refine EvB.imp (eb_call ha (eba_cons (eb_ed hc) eba_nil) ?_) ?_
  · rintro ds ⟨d, es', rfl, rfl, rfl⟩
    exact ⟨_, rfl, h⟩
  · rintro d ⟨ds, ⟨d', _, rfl, rfl, rfl⟩, es1, es', e1, rfl, hp⟩
    refine ⟨es', rfl, ?_⟩
    have e2 : es.map entE = es1.map entE := by simpa using e1
    have e3 : es = es1 := map_inj (fun x y h => entE_inj h) e2
    rw [e3]
    exact hp

/-! ### entries told in any order -/
/-- an entry to tell: row, column, what, day -/
def goodR (c : Int) (e : List Int) : Prop := ∃ r k o y, e = [r, k, o, y] ∧ (0 ≤ r ∧ r < 3) ∧ (0 ≤ k ∧ k < 3) ∧ (-2 ≤ o ∧ o < c) ∧ 0 ≤ y ∧ y ≤ 999
def fillG (g : List Int → Int) (l : LogM) (es : List (List Int)) : LogM := es.foldl (fun l e => addL l (e.getD 0 0) (e.getD 1 0) (e.getD 2 0) (g e)) l
def rotG (g : List Int → Int) (e : List Int) : List Int := [g e, e.getD 0 0, e.getD 1 0, e.getD 2 0]
theorem fillG_snoc (g : List Int → Int) (l : LogM) (es : List (List Int)) (e : List Int) : fillG g l (es ++ [e]) = addL (fillG g l es) (e.getD 0 0) (e.getD 1 0) (e.getD 2 0) (g e) := by
  unfold fillG
  rw [List.foldl_append]
  rfl
theorem fillG_facts (g : List Int → Int) : ∀ (es : List (List Int)) (l : LogM), (fillG g l es).clock = l.clock ∧ (fillG g l es).high = l.high ∧ (fillG g l es).wide = l.wide ∧ (fillG g l es).kept.map (·.2) = l.kept.map (·.2) ++ es.map (rotG g)
  | [], l => ⟨rfl, rfl, rfl, by show l.kept.map (·.2) = _; simp⟩
  | e :: es, l => by
    obtain ⟨h1, h2, h3, h4⟩ := fillG_facts g es (addL l (e.getD 0 0) (e.getD 1 0) (e.getD 2 0) (g e))
    refine ⟨h1, h2, h3, ?_⟩
    show (fillG g (addL l _ _ _ _) es).kept.map _ = _
    rw [h4]
    show (l.kept ++ [_]).map _ ++ _ = _
    rw [List.map_append, List.append_assoc, List.map_cons]
    rfl
theorem fillG_len (g : List Int → Int) (es : List (List Int)) (l : LogM) : (fillG g l es).kept.length = l.kept.length + es.length := by
  have := congrArg List.length (fillG_facts g es l).2.2.2
  rwa [List.length_map, List.length_append, List.length_map, List.length_map] at this
theorem keyLe_trans {a b c : List Int} (h1 : keyLe 1 0 a b = true) (h2 : keyLe 1 0 b c = true) : keyLe 1 0 a c = true := by
  unfold keyLe at *
  simp only [decide_eq_true_eq] at *
  omega
theorem keyLe_total (a b : List Int) : (keyLe 1 0 a b || keyLe 1 0 b a) = true := by
  unfold keyLe
  simp only [Bool.or_eq_true, decide_eq_true_eq]
  omega
theorem entL_perm (l : LogM) : (entL l).Perm (l.kept.map fun e => e.1 :: e.2) := List.mergeSort_perm _ _
theorem told_perm (l : LogM) : ((entL l).map List.tail).Perm (l.kept.map (·.2)) := by
  have := (entL_perm l).map List.tail
  rwa [List.map_map] at this
theorem told_days (l : LogM) : ((entL l).map List.tail).Pairwise fun a b => a.getD 0 0 ≤ b.getD 0 0 := by
  have h : (entL l).Pairwise fun a b => keyLe 1 0 a b = true := List.pairwise_mergeSort (le := keyLe 1 0) (fun _ _ _ h1 h2 => keyLe_trans h1 h2) keyLe_total _
  rw [List.pairwise_map]
  refine h.imp_of_mem fun {a b} _ _ hab => ?_
  unfold keyLe at hab
  simp only [decide_eq_true_eq] at hab
  have t : ∀ x : List Int, x.tail.getD 0 0 = x.getD 1 0 := fun x => by cases x <;> rfl
  rw [t, t]
  omega
/-- of unlike days: the order is told by the days -/
theorem told_same {l l2 : LogM} (hp : (l.kept.map (·.2)).Perm (l2.kept.map (·.2))) (hn : ((l.kept.map (·.2)).map fun e => e.getD 0 0).Nodup) : (entL l).map List.tail = (entL l2).map List.tail := by
  have p1 := told_perm l
  have p2 := told_perm l2
  refine List.Perm.eq_of_pairwise (le := fun a b => a.getD 0 0 ≤ b.getD 0 0) (fun a b ha hb h1 h2 => ?_) (told_days l) (told_days l2) (p1.trans (hp.trans p2.symm))
  have ma := p1.subset ha
  have mb := hp.symm.subset (p2.subset hb)
  have inj : ∀ {xs : List (List Int)} {a b : List Int}, (xs.map fun e => e.getD 0 0).Nodup → a ∈ xs → b ∈ xs → a.getD 0 0 = b.getD 0 0 → a = b := fun {xs} => by
    induction xs with
    | nil =>
      intro a b _ h
      cases h
    | cons x xs ih =>
      intro a b hn ha hb e
      rw [List.map_cons, List.nodup_cons] at hn
      rcases List.mem_cons.mp ha with ea | ha2
      · rcases List.mem_cons.mp hb with eb | hb2
        · rw [ea, eb]
        · exact (hn.1 (List.mem_map.mpr ⟨b, hb2, by rw [← e, ea]⟩)).elim
      · rcases List.mem_cons.mp hb with eb | hb2
        · exact (hn.1 (List.mem_map.mpr ⟨a, ha2, by rw [e, eb]⟩)).elim
        · exact ih hn.2 ha2 hb2 e
  exact inj hn ma mb (by omega)
/-- what entries without their numbers tell up to a day -/
def lastG (y : Int) (es : List (List Int)) : Nat → Nat → Int := es.foldl (fun f e => if e.getD 0 0 ≤ y then withF (e.getD 1 0).toNat (e.getD 2 0).toNat (e.getD 3 0) f else f) (fun _ _ => -2)
theorem lastF_tail (y : Int) (es : List (List Int)) : lastF y es = lastG y (es.map List.tail) := by
  unfold lastF lastG
  rw [List.foldl_map]
  congr 1
  funext f e
  have t : ∀ (i : Nat), e.tail.getD i 0 = e.getD (i + 1) 0 := fun i => by cases e <;> rfl
  rw [t, t, t, t]
theorem chart_same {l l2 : LogM} (h1 : l.high = l2.high) (h2 : l.wide = l2.wide) (h : (entL l).map List.tail = (entL l2).map List.tail) (y : Int) : chartT l y = chartT l2 y := by
  unfold chartT
  rw [h1, h2, lastF_tail, lastF_tail, h]
/-- of one day the order is told by the numbers -/
theorem told_one {l : LogM} (L : LogOk l) {y : Int} (h : ∀ e ∈ l.kept, e.2.getD 0 0 = y) : (entL l).map List.tail = l.kept.map (·.2) := by
  unfold entL sortE
  rw [List.mergeSort_of_pairwise]
  · rw [List.map_map]
    rfl
  · rw [List.pairwise_map]
    refine L.srt.imp_of_mem fun {a b} ha hb hab => ?_
    unfold keyLe
    simp only [decide_eq_true_eq]
    have h1 : (a.1 :: a.2).getD 1 0 = y := h a ha
    have h2 : (b.1 :: b.2).getD 1 0 = y := h b hb
    have h3 : (a.1 :: a.2).getD 0 0 = a.1 := rfl
    have h4 : (b.1 :: b.2).getD 0 0 = b.1 := rfl
    omega
/-- each square by the last entry about it -/
def lastS (es : List (List Int)) : Nat → Nat → Int := es.foldl (fun f e => withF (e.getD 0 0).toNat (e.getD 1 0).toNat (e.getD 2 0) f) (fun _ _ => -2)
theorem lastS_snoc (es : List (List Int)) (e : List Int) : lastS (es ++ [e]) = withF (e.getD 0 0).toNat (e.getD 1 0).toNat (e.getD 2 0) (lastS es) := by
  unfold lastS
  rw [List.foldl_append]
  rfl
theorem lastG_one (y0 y : Int) (hy : y0 ≤ y) (es : List (List Int)) : lastG y (es.map (rotG fun _ => y0)) = lastS es := by
  unfold lastG lastS
  rw [List.foldl_map]
  congr 1
  funext f e
  show (if y0 ≤ y then _ else _) = _
  rw [if_pos hy]
  rfl
theorem lastG_none (y0 y : Int) (hy : ¬ y0 ≤ y) (es : List (List Int)) : lastG y (es.map (rotG fun _ => y0)) = fun _ _ => -2 := by
  unfold lastG
  rw [List.foldl_map]
  have : ∀ (es : List (List Int)) (f0 : Nat → Nat → Int), es.foldl (fun f e => if (rotG (fun _ => y0) e).getD 0 0 ≤ y then withF ((rotG (fun _ => y0) e).getD 1 0).toNat ((rotG (fun _ => y0) e).getD 2 0).toNat ((rotG (fun _ => y0) e).getD 3 0) f else f) f0 = f0 := fun es => by
    induction es with
    | nil =>
      intro f0
      rfl
    | cons e es ih =>
      intro f0
      rw [List.foldl_cons, if_neg (show ¬ (rotG (fun _ => y0) e).getD 0 0 ≤ y from hy)]
      exact ih f0
  exact this es _
theorem tab_what {f : Nat → Nat → Int} {h w r k : Nat} (hr : r < h) (hk : k < w) (h9 : h ≤ 9) (w9 : w ≤ 9) : whatAt (tab h w f) ((r : Int), (k : Int)) = f r k := by
  have e1 := tab_get (f := f) (w := w) hr
  have hw : wideOf (tab h w f) = w := by
    unfold wideOf
    have h0 : (tab h w f)[0]? = some (rowOf w (f 0)) := tab_get (by omega)
    cases ht : tab h w f with
    | nil => rw [ht] at h0; cases h0
    | cons a l =>
      rw [ht] at h0
      cases h0
      exact row_len
  unfold whatAt
  rw [if_pos (inB_iff.mpr ⟨⟨by show (0 : Int) ≤ (r : Int); omega, by rw [tab_len]; show (r : Int) < h; omega⟩, by show (0 : Int) ≤ (k : Int); omega, by rw [hw]; show (k : Int) < w; omega⟩)]
  show (((tab h w f)[((r : Int)).toNat]?.getD [])[((k : Int)).toNat]?).getD (-1) = _
  rw [Int.toNat_natCast, Int.toNat_natCast, e1]
  show ((rowOf w (f r))[k]?).getD (-1) = _
  rw [row_get hk]
  rfl
theorem tab_rect {f : Nat → Nat → Int} {h w : Nat} (h1 : 1 ≤ h) (w1 : 1 ≤ w) (h9 : h ≤ 9) (w9 : w ≤ 9) : Rect (tab h w f) := by
  have hw : wideOf (tab h w f) = w := by
    unfold wideOf
    have h0 : (tab h w f)[0]? = some (rowOf w (f 0)) := tab_get (by omega)
    cases ht : tab h w f with
    | nil => rw [ht] at h0; cases h0
    | cons a l =>
      rw [ht] at h0
      cases h0
      exact row_len
  refine ⟨by rw [tab_len]; exact h1, by rw [tab_len]; exact h9, by rw [hw]; exact w1, by rw [hw]; exact w9, fun r hr => ?_⟩
  rw [hw]
  unfold tab at hr
  obtain ⟨i, _, rfl⟩ := List.mem_map.mp hr
  exact row_len

theorem eqv_okE {n : Nat} {d : PyData} (h : okE n d) : PyData.eqv d d = true := PySem.SeqAt.eqv_refl d (okE_lay n d h).1
theorem okE_chart (n : Nat) (c : Int) (rows : List (List Int)) : okE (n + 3) (dChart c rows) := fun e he => by
  simp only [List.mem_cons, List.not_mem_nil, or_false] at he
  rcases he with rfl | rfl
  · trivial
  · intro e he
    obtain ⟨x, _, rfl⟩ := List.mem_map.mp he
    intro e he
    obtain ⟨y, _, rfl⟩ := List.mem_map.mp he
    cases n <;> trivial
/-- entries of rising days, all ahead of y -/
def RowsOk (c : Int) (es : List (List Int)) (y : Int) : Prop := (∀ e ∈ es, goodR c e) ∧ (es.map fun e => e.getD 3 0).Pairwise (· < ·) ∧ ∀ e ∈ es, e.getD 3 0 < y
theorem ed_sqc {i j : Int} {σ : L2.St} {H : Hp} : EvD K (tTup (tCons (tC (.int i)) (tCons (tC (.int j)) tNil))) σ H (sqD (i, j)) := ed_tup (eda_cons (ed_int ev_c) (eda_cons (ed_int ev_c) eda_nil)) (by simp)
def sq9 : List (Int × Int) := [(0, 0), (0, 1), (0, 2), (1, 0), (1, 1), (1, 2), (2, 0), (2, 1), (2, 2)]
def day3 (e : List Int) : Int := e.getD 3 0
theorem goodR.add {c : Int} {e : List Int} (h : goodR c e) {l : LogM} (h1 : l.clock = c) (h2 : l.high = 3) (h3 : l.wide = 3) (h4 : l.kept.length < 200) {y : Int} (hy : 0 ≤ y ∧ y ≤ 999) : addE l (e.getD 0 0) (e.getD 1 0) (e.getD 2 0) y = none := by
  obtain ⟨r, k, o, y', rfl, hr, hk, ho, _⟩ := h
  show addE l r k o y = none
  unfold addE
  rw [h1, h2, h3]
  rw [if_pos ⟨hr, hk⟩, if_pos ho, if_pos hy, if_pos h4]
theorem goodR.len {c : Int} {e : List Int} (h : goodR c e) : e.length = 4 := by
  obtain ⟨r, k, o, y', rfl, _⟩ := h
  rfl
theorem newE_3 {c : Int} (hc : isClock c = true) : newE c 3 3 = none := by
  unfold newE
  rw [if_pos hc]
  rfl
theorem wld_addLog {Tt : List (Addr × Str)} {M : List Addr} {Hd H : Hp} {C p d : Addr} {l : LogM} (W : Wld Tt M Hd H) (L : LogAt K C Hd H p d l) (hp : Hd p = none) (hd : Hd d = none) : Wld Tt (p :: d :: M) Hd H := by
  obtain ⟨dx, k1⟩ := L.ob
  obtain ⟨kvs, k2, _⟩ := L.kp
  exact (W.add hd k2 noTb_dK).add hp k1 noTb_ins
/-- three logs -/
structure Three (T : Tx K mg base) (b : Bid) (HdA : Hp) (p0 d0 p1 d1 p2 d2 : Addr) (l0 l1 l2 : LogM) (Hk H : Hp) : Prop where
  W : Wld (tabsOf T) [p0, d0, p1, d1, p2, d2, b.b] Hk H
  da : Ex HdA Hk
  B : Bx H b
  L0 : LogAt K T.a_Log Hk H p0 d0 l0
  L1 : LogAt K T.a_Log Hk H p1 d1 l1
  L2 : LogAt K T.a_Log Hk H p2 d2 l2
  nd : [p0, d0, p1, d1, p2, d2, b.b, b.ca].Nodup
section
variable {T : Tx K mg base} {b : Bid} {HdA : Hp} {p0 d0 p1 d1 p2 d2 : Addr} {l0 l1 l2 l' : LogM} {Hk H Hn H2 : Hp}
local macro_rules | `(tactic| walk_at "apart") => `(tactic| (simp only [List.nodup_cons, List.mem_cons, List.not_mem_nil, or_false, not_or, not_false_eq_true, List.nodup_nil, and_true] at *; grind))
theorem Three.ext (t : Three T b HdA p0 d0 p1 d1 p2 d2 l0 l1 l2 Hk H) (e : Ex H H2) : Three T b HdA p0 d0 p1 d1 p2 d2 l0 l1 l2 Hk H2 := ⟨t.W.ext e, t.da, t.B.mono e, t.L0.mono (Ex.refl _) e, t.L1.mono (Ex.refl _) e, t.L2.mono (Ex.refl _) e, t.nd⟩
theorem Three.stepN (t : Three T b HdA p0 d0 p1 d1 p2 d2 l0 l1 l2 Hk H) (g : GrW (tabsOf T) [] Hk H Hn H2) : Three T b HdA p0 d0 p1 d1 p2 d2 l0 l1 l2 Hn H2 := ⟨t.W.step g, t.da.trans g.dx, bx_step t.B g (by simp) (by simp), t.L0.step g (by simp) (by simp), t.L1.step g (by simp) (by simp), t.L2.step g (by simp) (by simp), t.nd⟩
theorem Three.stepB (t : Three T b HdA p0 d0 p1 d1 p2 d2 l0 l1 l2 Hk H) (g : GrW (tabsOf T) [b.b] Hk H Hn H2) (B2 : Bx H2 b) : Three T b HdA p0 d0 p1 d1 p2 d2 l0 l1 l2 Hn H2 := ⟨t.W.step g, t.da.trans g.dx, B2, t.L0.step g (by have nd := t.nd; walk_at "apart") (by have nd := t.nd; walk_at "apart"), t.L1.step g (by have nd := t.nd; walk_at "apart") (by have nd := t.nd; walk_at "apart"), t.L2.step g (by have nd := t.nd; walk_at "apart") (by have nd := t.nd; walk_at "apart"), t.nd⟩
theorem Three.step0 (t : Three T b HdA p0 d0 p1 d1 p2 d2 l0 l1 l2 Hk H) (g : GrW (tabsOf T) [p0, d0] Hk H Hn H2) (L : LogAt K T.a_Log Hn H2 p0 d0 l') : Three T b HdA p0 d0 p1 d1 p2 d2 l' l1 l2 Hn H2 := ⟨t.W.step g, t.da.trans g.dx, bx_step t.B g (by have nd := t.nd; walk_at "apart") (by have nd := t.nd; walk_at "apart"), L, t.L1.step g (by have nd := t.nd; walk_at "apart") (by have nd := t.nd; walk_at "apart"), t.L2.step g (by have nd := t.nd; walk_at "apart") (by have nd := t.nd; walk_at "apart"), t.nd⟩
theorem Three.step1 (t : Three T b HdA p0 d0 p1 d1 p2 d2 l0 l1 l2 Hk H) (g : GrW (tabsOf T) [p1, d1] Hk H Hn H2) (L : LogAt K T.a_Log Hn H2 p1 d1 l') : Three T b HdA p0 d0 p1 d1 p2 d2 l0 l' l2 Hn H2 := ⟨t.W.step g, t.da.trans g.dx, bx_step t.B g (by have nd := t.nd; walk_at "apart") (by have nd := t.nd; walk_at "apart"), t.L0.step g (by have nd := t.nd; walk_at "apart") (by have nd := t.nd; walk_at "apart"), L, t.L2.step g (by have nd := t.nd; walk_at "apart") (by have nd := t.nd; walk_at "apart"), t.nd⟩
theorem Three.step2 (t : Three T b HdA p0 d0 p1 d1 p2 d2 l0 l1 l2 Hk H) (g : GrW (tabsOf T) [p2, d2] Hk H Hn H2) (L : LogAt K T.a_Log Hn H2 p2 d2 l') : Three T b HdA p0 d0 p1 d1 p2 d2 l0 l1 l' Hn H2 := ⟨t.W.step g, t.da.trans g.dx, bx_step t.B g (by have nd := t.nd; walk_at "apart") (by have nd := t.nd; walk_at "apart"), t.L0.step g (by have nd := t.nd; walk_at "apart") (by have nd := t.nd; walk_at "apart"), t.L1.step g (by have nd := t.nd; walk_at "apart") (by have nd := t.nd; walk_at "apart"), L, t.nd⟩
theorem Three.put (t : Three T b HdA p0 d0 p1 d1 p2 d2 l0 l1 l2 Hk H) {a : Addr} {o o' : HO} (h : H a = some o) (nt : NTb H a) (n : Hk a = none) (no : NoTb o') (na : a ∉ [p0, d0, p1, d1, p2, d2, b.b, b.ca]) : Three T b HdA p0 d0 p1 d1 p2 d2 l0 l1 l2 Hk (upd H a o') := by
  have nx : ∀ x ∈ [p0, d0, p1, d1, p2, d2, b.b, b.ca], x ≠ a := fun x hx e => na (by rw [← e]; exact hx)
  have la : ∀ {p d : Addr} {l : LogM}, p ∈ [p0, d0, p1, d1, p2, d2, b.b, b.ca] → d ∈ [p0, d0, p1, d1, p2, d2, b.b, b.ca] → LogAt K T.a_Log Hk H p d l → LogAt K T.a_Log Hk (upd H a o') p d l := fun hp hd L => by
    obtain ⟨⟨dx, h1⟩, ⟨kvs, h2, h3⟩, ok⟩ := L
    exact ⟨⟨dx, by rw [upd_ne (nx _ hp)]; exact h1⟩, ⟨kvs, by rw [upd_ne (nx _ hd)]; exact h2, h3⟩, ok⟩
  exact ⟨t.W.putO h nt n no, t.da, bx_put t.B (nx _ (by simp)).symm (nx _ (by simp)).symm, la (by simp) (by simp) t.L0, la (by simp) (by simp) t.L1, la (by simp) (by simp) t.L2, t.nd⟩
end
theorem valD_put35 (m : Dkv) (k : List Int) (b : Addr) (v : V) (k' : List Int) : valD (putD m k b v) k' = if k' = k then some v else valD m k' := by
  cases h : valD m k with
  | none =>
    rw [putD_new b v h, valD_app]
    by_cases e : k' = k
    · rw [if_pos e, e, h]
      exact valD_pos rfl
    · rw [if_neg e, valD_neg (fun z => e z.symm)]
      show (valD m k').or none = _
      cases valD m k' <;> rfl
  | some x =>
    have e0 : putD m k b v = m.map (fun e => if e.1 = k then (e.1, e.2.1, v) else e) := by
      unfold putD
      rw [if_pos (by rw [h]; rfl)]
    rw [e0]
    have key : ∀ m : Dkv, valD (m.map (fun e => if e.1 = k then (e.1, e.2.1, v) else e)) k' = if k' = k then (valD m k).map (fun _ => v) else valD m k' := by
      intro m
      induction m with
      | nil => by_cases e : k' = k <;> simp [e, valD]
      | cons e m ih =>
        rw [List.map_cons]
        by_cases h1 : e.1 = k
        · rw [if_pos h1]
          by_cases h2 : k' = k
          · rw [if_pos h2, valD_pos (e := (e.1, e.2.1, v)) (show e.1 = k' by rw [h1, h2]), valD_pos h1]
            rfl
          · rw [if_neg h2, valD_neg (e := (e.1, e.2.1, v)) (show ¬ e.1 = k' from fun z => h2 (by rw [← z, h1])), ih, if_neg h2, valD_neg (e := e) (show ¬ e.1 = k' from fun z => h2 (by rw [← z, h1]))]
        · rw [if_neg h1]
          by_cases h3 : e.1 = k'
          · have h2 : ¬ k' = k := fun z => h1 (by rw [h3, z])
            rw [if_neg h2, valD_pos h3, valD_pos h3]
          · rw [valD_neg h3, ih]
            by_cases h2 : k' = k
            · rw [if_pos h2, if_pos h2, valD_neg h1]
            · rw [if_neg h2, if_neg h2, valD_neg h3]
    rw [key m, h]
    rfl
theorem Three.notin {T : Tx K mg base} {b : Bid} {HdA : Hp} {p0 d0 p1 d1 p2 d2 : Addr} {l0 l1 l2 : LogM} {Hk H : Hp} (t : Three T b HdA p0 d0 p1 d1 p2 d2 l0 l1 l2 Hk H) {a : Addr} (n : H a = none) : a ∉ [p0, d0, p1, d1, p2, d2, b.b, b.ca] := fun hm => by
  have L : ∀ {p d : Addr} {l : LogM}, LogAt K T.a_Log Hk H p d l → a ≠ p ∧ a ≠ d := fun L => by
    obtain ⟨⟨dx, h1⟩, ⟨kvs, h2, h3⟩, ok⟩ := L
    exact ⟨fun e => (by rw [← e, n] at h1; cases h1), fun e => (by rw [← e, n] at h2; cases h2)⟩
  have q0 := L t.L0
  have q1 := L t.L1
  have q2 := L t.L2
  have q3 := t.B.apart n
  simp only [List.mem_cons, List.not_mem_nil, or_false] at hm
  grind
theorem ok_law (T : Tx K mg base) : FnOk P w K mg base CX0 15 T.a_law T.d_law ["_law_script"] (spLawT K ((tabsOf T).map (·.1))) := by
  refine T.F_law.ok sc_law (fun vs H Q E h => ?_) (fun cdv A outer s H vs Q E hr h => ?_)
  · obtain ⟨a, ns, rfl, _⟩ := h
    rfl
  · obtain ⟨a, ns, rfl, hL, hn, hP, q⟩ := h
    refine ⟨_, PSs.nox (pss_cons (ps_set (i := 1) sc_law.nd rfl (.inl rfl) (pe_call (ok_law_box (P := P) (w := w) T) (hr.mono (by omega)) (by rfl) T.g_law_box T.F_law_box.kp T.b_law_box .nil pass0 (pa_cons (pv 0) pa_nil)))
      (pss_cons (ps_set (i := 2) sc_law.nd rfl (.inl rfl) (pe_call (ok_law_clock (P := P) (w := w) T) (hr.mono (by omega)) (by rfl) T.g_law_clock T.F_law_clock.kp T.b_law_clock .nil pass0 (pa_cons (pv 1) pa_nil)))
      (pss_cons (ps_set (i := 3) sc_law.nd rfl (.inl rfl) (pe_lst pa_nil))
      (pss_cons (ps_set (i := 4) sc_law.nd rfl (.inl rfl) (pe_call (ok_law_take (P := P) (w := w) T) (hr.mono (by omega)) (by rfl) T.g_law_take T.F_law_take.kp T.b_law_take .nil pass0 (pa_cons (pv 1) (pa_cons pe_int pa_nil))))
      (pss_cons (ps_for PassesOwn.never rfl (pi_range1 (by rfl) T.n_range (pa_cons (pe_call (ok_law_take (P := P) (w := w) T) (hr.mono (by omega)) (by rfl) T.g_law_take T.F_law_take.kp T.b_law_take .nil pass0 (pa_cons (pv 1) (pa_cons pe_int pa_nil))) pa_nil)) (pg_name (i := 5) sc_law.nd rfl (.inl rfl)) (pss_cons (ps_expr (pe_bm PySem.F.plainAttrs_list PySem.F.slot_list_append PySem.F.type_list_append mt_append (pv 3) (pa_cons (pe_tup (pa_cons (pe_call (ok_law_take (P := P) (w := w) T) (hr.mono (by omega)) (by rfl) T.g_law_take T.F_law_take.kp T.b_law_take .nil pass0 (pa_cons (pv 1) (pa_cons pe_int pa_nil))) (pa_cons (pe_call (ok_law_take (P := P) (w := w) T) (hr.mono (by omega)) (by rfl) T.g_law_take T.F_law_take.kp T.b_law_take .nil pass0 (pa_cons (pv 1) (pa_cons pe_int pa_nil))) (pa_cons (pe_call (ok_law_one (P := P) (w := w) T) (hr.mono (by omega)) (by rfl) T.g_law_one T.F_law_one.kp T.b_law_one .nil pass0 (pa_cons (pv 1) (pa_cons (pv 2) pa_nil))) (pa_cons (pv 4) pa_nil))))) pa_nil)))
      (pss_cons (ps_set (i := 4) sc_law.nd rfl (.inl rfl) (pe_op op_add (pe_op op_add (pv 4) pe_int) (pe_call (ok_law_take (P := P) (w := w) T) (hr.mono (by omega)) (by rfl) T.g_law_take T.F_law_take.kp T.b_law_take .nil pass0 (pa_cons (pv 1) (pa_cons pe_int pa_nil)))))
      pss_nil)))
      (pss_cons (ps_set (i := 6) sc_law.nd rfl (.inl rfl) (pe_lst (pa_cons (pe_make T.M_Log (okX_Log_init (P := P) (w := w) T) (hr.mono (by omega)) (by rfl) T.x_Log.g T.b_Log_init .nil passN (pa_cons (pv 2) (pa_cons pe_int (pa_cons pe_int pa_nil)))) (pa_cons (pe_make T.M_Log (okX_Log_init (P := P) (w := w) T) (hr.mono (by omega)) (by rfl) T.x_Log.g T.b_Log_init .nil passN (pa_cons (pv 2) (pa_cons pe_int (pa_cons pe_int pa_nil)))) (pa_cons (pe_make T.M_Log (okX_Log_init (P := P) (w := w) T) (hr.mono (by omega)) (by rfl) T.x_Log.g T.b_Log_init .nil passN (pa_cons (pv 2) (pa_cons pe_int (pa_cons pe_int pa_nil)))) pa_nil)))))
      (pss_cons (ps_for PassesOwn.never rfl (pi_range1 (by rfl) T.n_range (pa_cons pe_int pa_nil)) (pg_name (i := 7) sc_law.nd rfl (.inl rfl)) (pss_cons (ps_for PassesOwn.never rfl (pi_list (pe_call (ok_law_shuffled (P := P) (w := w) T) (hr.mono (by omega)) (by rfl) T.g_law_shuffled T.F_law_shuffled.kp T.b_law_shuffled .nil pass0 (pa_cons (pv 1) (pa_cons (pv 3) pa_nil)))) (pg_tup rfl (pgs_cons (pg_name (i := 8) sc_law.nd rfl (.inl rfl)) (pgs_cons (pg_name (i := 9) sc_law.nd rfl (.inl rfl)) (pgs_cons (pg_name (i := 10) sc_law.nd rfl (.inl rfl)) (pgs_cons (pg_name (i := 11) sc_law.nd rfl (.inl rfl)) pgs_nil))))) (pss_cons (ps_expr (pe_meth (pe_ix (r := rIxL K) ix_list (pv 6) (pv 7) (fun _ _ => rfl)) T.Q_Log T.m_Log_add (okX_Log_add (P := P) (w := w) T) (hr.mono (by omega)) T.b_Log_add .nil passN (pa_cons (pv 8) (pa_cons (pv 9) (pa_cons (pv 10) (pa_cons (pv 11) pa_nil))))))
      pss_nil))
      pss_nil))
      (pss_cons (ps_set (i := 12) sc_law.nd rfl (.inl rfl) (pb_nnew (P := P) (w := w) (by rfl) (by rfl)))
      (pss_cons (ps_for PassesOwn.never rfl (pi_list (pe_call (ok_law_shuffled (P := P) (w := w) T) (hr.mono (by omega)) (by rfl) T.g_law_shuffled T.F_law_shuffled.kp T.b_law_shuffled .nil pass0 (pa_cons (pv 1) (pa_cons (pv 3) pa_nil)))) (pg_tup rfl (pgs_cons (pg_name (i := 8) sc_law.nd rfl (.inl rfl)) (pgs_cons (pg_name (i := 9) sc_law.nd rfl (.inl rfl)) (pgs_cons (pg_name (i := 10) sc_law.nd rfl (.inl rfl)) (pgs_cons (pg_name (i := 11) sc_law.nd rfl (.inl rfl)) pgs_nil))))) (pss_cons (ps_expr (pe_meth (pe_ix (r := rIxL K) ix_list (pv 6) pe_int (fun _ _ => rfl)) T.Q_Log T.m_Log_add (okX_Log_add (P := P) (w := w) T) (hr.mono (by omega)) T.b_Log_add .nil passN (pa_cons (pv 8) (pa_cons (pv 9) (pa_cons (pv 10) (pa_cons pe_int pa_nil))))))
      (pss_cons (pb_nput (K := K) (P := P) (w := w) (by rfl) (by rfl) (by rfl) (hu_of hr) (pv 12) (pe_tup (pa_cons (pv 8) (pa_cons (pv 9) pa_nil))) (pv 10) rfl)
      pss_nil)))
      (pss_cons (ps_if (pt_not (pt_cmpR (r := rEqO T.a_Log (sp_Log_eq T) (fun _ _ _ => False)) (op_eqO T.m_Log_eq (okX_Log_eq (P := P) (w := w) T) (hr.mono (by omega)) T.b_Log_eq passN) (pe_ix (r := rIxL K) ix_list (pv 6) pe_int (fun _ _ => rfl)) (pe_ix (r := rIxL K) ix_list (pv 6) pe_int (fun _ _ => rfl)) (nomark _))) (pss_cons (ps_ret pe_bl)
      pss_nil) pss_nil)
      (pss_cons (ps_for PassesOwn.never rfl (pi_tup (pe_tup (pa_cons pe_int (pa_cons (pe_call (ok_law_day (P := P) (w := w) T) (hr.mono (by omega)) (by rfl) T.g_law_day T.F_law_day.kp T.b_law_day .nil pass0 (pa_cons (pv 1) pa_nil)) (pa_cons pe_int pa_nil))))) (pg_name (i := 11) sc_law.nd rfl (.inl rfl)) (pss_cons (ps_if (pt_cmpR (r := rNeD K) (op_neD hr.units) (pe_meth (pe_ix (r := rIxL K) ix_list (pv 6) pe_int (fun _ _ => rfl)) T.Q_Log T.m_Log_chart (okX_Log_chart (P := P) (w := w) T) (hr.mono (by omega)) T.b_Log_chart .nil passN (pa_cons (pv 11) pa_nil)) (pe_meth (pe_ix (r := rIxL K) ix_list (pv 6) pe_int (fun _ _ => rfl)) T.Q_Log T.m_Log_chart (okX_Log_chart (P := P) (w := w) T) (hr.mono (by omega)) T.b_Log_chart .nil passN (pa_cons (pv 11) pa_nil)) (nomark _)) (pss_cons (ps_ret pe_bl)
      pss_nil) pss_nil)
      pss_nil))
      (pss_cons (ps_for PassesOwn.never rfl (pi_list (pe_lst (pa_cons (pe_tup (pa_cons pe_int (pa_cons pe_int pa_nil))) (pa_cons (pe_tup (pa_cons pe_int (pa_cons pe_int pa_nil))) (pa_cons (pe_tup (pa_cons pe_int (pa_cons pe_int pa_nil))) (pa_cons (pe_tup (pa_cons pe_int (pa_cons pe_int pa_nil))) (pa_cons (pe_tup (pa_cons pe_int (pa_cons pe_int pa_nil))) (pa_cons (pe_tup (pa_cons pe_int (pa_cons pe_int pa_nil))) (pa_cons (pe_tup (pa_cons pe_int (pa_cons pe_int pa_nil))) (pa_cons (pe_tup (pa_cons pe_int (pa_cons pe_int pa_nil))) (pa_cons (pe_tup (pa_cons pe_int (pa_cons pe_int pa_nil))) pa_nil))))))))))) (pg_name (i := 13) sc_law.nd rfl (.inl rfl)) (pss_cons (ps_if (pt_cmpR op_ne (pe_call (ok_law_what (P := P) (w := w) T) (hr.mono (by omega)) (by rfl) T.g_law_what T.F_law_what.kp T.b_law_what .nil pass0 (pa_cons (pe_meth (pe_ix (r := rIxL K) ix_list (pv 6) pe_int (fun _ _ => rfl)) T.Q_Log T.m_Log_chart (okX_Log_chart (P := P) (w := w) T) (hr.mono (by omega)) T.b_Log_chart .nil passN (pa_cons pe_int pa_nil)) (pa_cons (pv 13) pa_nil))) (pb_nget2 (K := K) (P := P) (w := w) (by rfl) (by rfl) (by rfl) (hu_of hr) (pv 12) (pv 13) (pe_un un_neg pe_int) ⟨by rfl, by rfl, by rfl, by rfl⟩) (nomark _)) (pss_cons (ps_ret pe_bl)
      pss_nil) pss_nil)
      pss_nil))
      (pss_cons (ps_ret (pe_cmpR (r := rEqD K) (op_eqD hr.units) (pe_meth (pe_ix (r := rIxL K) ix_list (pv 6) pe_int (fun _ _ => rfl)) T.Q_Log T.m_Log_chart (okX_Log_chart (P := P) (w := w) T) (hr.mono (by omega)) T.b_Log_chart .nil passN (pa_cons pe_int pa_nil)) (pe_meth0 (pe_make T.M_Log (okX_Log_init (P := P) (w := w) T) (hr.mono (by omega)) (by rfl) T.x_Log.g T.b_Log_init .nil passN (pa_cons (pv 2) (pa_cons pe_int (pa_cons pe_int pa_nil)))) T.Q_Log T.m_Log_chart (okX_Log_chart (P := P) (w := w) T) (hr.mono (by omega)) T.bd_Log_chart_1 T.vd_Log_chart_1 passN) (nomark _)))
      pss_nil))))))))))))), Go.go ?_⟩
    have t0 : LamX.Tabs (tabsOf T) H := tabs_start hP
    show Go _ _ [some (V.ref a), none, none, none, none, none, none, none, none, none, none, none, none, none] H
    refine go_box hL hn (ev_var rfl) fun b H1 hb hca e1 B => ?_
    have W1 : Wld (tabsOf T) [b.b] hp0 H1 := ⟨ex0, fun a ps z => (by cases z), t0.ext e1, fun a ha => by
      obtain ⟨cells, xs, hb1, _⟩ := B
      rw [List.mem_singleton.mp ha]
      exact ⟨rfl, _, hb1, noTb_lst⟩⟩
    refine go_asgE (ew_eb (K := K) W1 (by simp) B (eb_clock (ev_var rfl))) ?_
    rintro v2 H2 Hm2 g2 ⟨B2, d2, hd2, c, rfl, hc⟩
    cases hd2
    have W2 := W1.step g2
    have hcc := isClock_iff.mp hc
    refine go_asgLst (vs := []) ea_nil (by simp) fun lr H3 e3 n3 => ?_
    have W3 : Wld (tabsOf T) [b.b] Hm2 (upd H3 lr (.lst [])) := W2.ext (e3.trans (Ex.new n3))
    have B3 : Bx (upd H3 lr (.lst [])) b := (B2.mono e3).mono (Ex.new n3)
    obtain ⟨lb, lc⟩ := (B2.mono e3).apart n3
    have nlr : Hm2 lr = none := fresh_back (W2.sub.trans e3) n3
    have lrM : lr ∉ [b.b] := by simp [lb]
    refine go_asgE (ew_eb (K := K) W3 (by simp) B3 (eb_take (ev_var rfl) ev_c (m := 9) (by decide) (by decide))) ?_
    rintro v4 H4 Hm4 g4 ⟨B4, d4, hd4, y0, rfl, hy0⟩
    cases hd4
    have W4 := W3.step g4
    have n4 := g4.fr _ _ upd_same noTb_lst nlr
    have l4 := g4.ex _ _ upd_same lrM noTb_lst
    refine go_bind (C := fun te => tSeq (tFor (iRng1 (tCons te tNil)) (gName 5) _) _) (ew_eb (K := K) W4 (by simp) B4 (eb_take (ev_var rfl) ev_c (m := 21) (by decide) (by decide))) ?_
    rintro v5 H5 Hm5 g5 ⟨B5, d5, hd5, n5, rfl, hn5⟩
    cases hd5
    have W5 := W4.step g5
    have m5 := g5.fr _ _ l4 noTb_lst n4
    have l5 := g5.ex _ _ l4 lrM noTb_lst
    refine go_forN (m := n5) (ea_cons ev_val ea_nil) (by omega) (fun i σ' H' => ∃ (Hk : Hp) (xs : List V) (es : List (List Int)) (y : Int), Wld (tabsOf T) [b.b] Hk H' ∧ Bx H' b ∧ Hk lr = none ∧ H' lr = some (.lst xs) ∧ DpAll K Hk xs (es.map entE) ∧ RowsOk c es y ∧ es.length = i ∧ (0 ≤ y ∧ y ≤ 8 + 30 * (i : Int)) ∧ ∃ x5 x6 x7 x8 x9 x10 x11 x12 x13, σ' = [some (.ref a), some (.ref b.b), some (.int c), some (.ref lr), some (.int y), x5, x6, x7, x8, x9, x10, x11, x12, x13]) ?_ ?_ ?_
    · intro H' e
      exact ⟨Hm5, [], [], y0, W5.ext e, B5.mono e, m5, e _ _ l5, .nil, ⟨fun _ h => (by cases h), .nil, fun _ h => (by cases h)⟩, rfl, by omega, _, _, _, _, _, _, _, _, _, rfl⟩
    · rintro i σ' H6 hi ⟨Hk, xs, es, y, W6, B6, m6, l6, hx, ⟨ok1, ok2, ok3⟩, hl, hy, x5, x6, x7, x8, x9, x10, x11, x12, x13, rfl⟩
      have hi2 : i < 21 := by omega
      have hlx : xs.length = i := by rw [dpa_len hx, List.length_map, hl]
      refine go_appE (M := [b.b]) l6 lrM (ev_var rfl) (ew_eb (K := K) W6 (by simp) B6 (eb_tup (eba_cons (eb_take (ev_var rfl) ev_c (m := 3) (by decide) (by decide)) (eba_cons (eb_take (ev_var rfl) ev_c (m := 3) (by decide) (by decide)) (eba_cons (eb_one (ev_var rfl) (ev_var rfl) hc) (eba_cons (eb_ev (n := y) (ev_var rfl)) eba_nil)))) ?_)) (by omega) ?_
      · rintro ds ⟨_, _, rfl, _, _, _, rfl, _, _, _, rfl, _, _, _, rfl, _, rfl⟩
        simp
      rintro v7 H7 Hm7 g7 ⟨B7, d7, hd7, ds7, rfl, _, _, rfl, ⟨r, rfl, hr⟩, _, _, rfl, ⟨k, rfl, hk⟩, _, _, rfl, ⟨o, rfl, ho⟩, _, _, rfl, ⟨y', rfl, rfl⟩, rfl⟩
      have W7 := W6.step g7
      have m7 := g7.fr _ _ l6 noTb_lst m6
      have l7 := g7.ex _ _ l6 lrM noTb_lst
      have W7' : Wld (tabsOf T) [b.b] Hm7 (upd H7 lr (.lst (xs ++ [v7]))) := W7.put l7 m7
      have B7' : Bx (upd H7 lr (.lst (xs ++ [v7]))) b := bx_put B7 lb lc
      refine go_asgE (ew_eb (K := K) W7' (by simp) B7' (eb_opI0 (by intros; rfl) (eb_ev (n := y' + 1) (by walk_at "ev")) (eb_take (ev_var rfl) ev_c (m := 30) (by decide) (by decide)))) ?_
      rintro v8 H8 Hm8 g8 ⟨B8, d8, hd8, y2, rfl, i1, j1, rfl, hj1, rfl⟩
      cases hd8
      have W8 := W7'.step g8
      have m8 := g8.fr _ _ upd_same noTb_lst m7
      have l8 := g8.ex _ _ upd_same lrM noTb_lst
      refine go_next fun H9 e9 => ⟨Hm8, xs ++ [v7], es ++ [[r, k, o, y']], y' + 1 + j1, W8.ext e9, B8.mono e9, m8, e9 _ _ l8, ?_, ⟨fun e he => ?_, ?_, fun e he => ?_⟩, by rw [List.length_append, hl]; rfl, by omega, _, _, _, _, _, _, _, _, _, rfl⟩
      · rw [List.map_append]
        exact dpa_app (dpa_mono (g7.dx.trans g8.dx) _ hx) (.cons (dp_mono g8.dx _ hd7) .nil)
      · rcases List.mem_append.mp he with he | he
        · exact ok1 e he
        · rw [List.mem_singleton.mp he]
          exact ⟨r, k, o, y', rfl, hr, hk, ho, by omega⟩
      · rw [List.map_append, List.pairwise_append]
        refine ⟨ok2, List.pairwise_singleton _ _, fun a ha b hb => ?_⟩
        obtain ⟨e, he, rfl⟩ := List.mem_map.mp ha
        rw [List.mem_singleton.mp hb]
        exact ok3 e he
      · rcases List.mem_append.mp he with he | he
        · have := ok3 e he
          omega
        · rw [List.mem_singleton.mp he]
          show y' < _
          omega
    · rintro σ' H6 ⟨Hk, xs, es, y, W6, B6, m6, l6, hx, ⟨ok1, ok2, ok3⟩, hl, hy, x5, x6, x7, x8, x9, x10, x11, x12, x13, rfl⟩
      have hl20 : es.length ≤ 20 := by omega
      have Wr := W6.more l6 noTb_lst m6 lrM
      have hrows : Dp K (upd Hk lr (.lst xs)) (.ref lr) (.list (es.map entE)) := .lst (sq_of upd_same) (dpa_mono (Ex.new m6) _ hx)
      generalize upd Hk lr (.lst xs) = Hd6 at Wr hrows
      have hnew := newE_3 hc
      refine go_bind (C := fun te => tSeq (tAsg (tLst (tCons te _)) (gName 6)) _) (ew_new T Wr (c := c) (h := 3) (w := 3) (by walk_at "ea") hnew) ?_
      rintro _ H7 Hd7 g7 ⟨e7, p0, d0, rfl, hp0, hd0, L0⟩
      obtain rfl := e7.symm
      refine go_bind (C := fun te => tSeq (tAsg (tLst (tCons (tVal _) (tCons te _))) (gName 6)) _) (ew_new T (Wr.step g7) (c := c) (h := 3) (w := 3) (by walk_at "ea") hnew) ?_
      rintro _ H8 Hd8 g8 ⟨e8, p1, d1, rfl, hp1, hd1, L1⟩
      obtain rfl := e8.symm
      refine go_bind (C := fun te => tSeq (tAsg (tLst (tCons (tVal _) (tCons (tVal _) (tCons te _)))) (gName 6)) _) (ew_new T ((Wr.step g7).step g8) (c := c) (h := 3) (w := 3) (by walk_at "ea") hnew) ?_
      rintro _ H9 Hd9 g9 ⟨e9, p2, d2, rfl, hp2, hd2, L2⟩
      obtain rfl := e9.symm
      refine go_asgLst (vs := [.ref p0, .ref p1, .ref p2]) (ea_cons ev_val (ea_cons ev_val (ea_cons ev_val ea_nil))) (by simp) fun lg H10 e10 n10 => ?_
      have W9 := ((Wr.step g7).step g8).step g9
      have L1' := L1.step g9 (by simp) (by simp)
      have L0a := L0.step g8 (by simp) (by simp)
      have L0' := L0a.step g9 (by simp) (by simp)
      have f0 := fresh_back Wr.sub hp0
      have f0' := fresh_back Wr.sub hd0
      have f1 := fresh_back (Wr.step g7).sub hp1
      have f1' := fresh_back (Wr.step g7).sub hd1
      have f2 := fresh_back ((Wr.step g7).step g8).sub hp2
      have f2' := fresh_back ((Wr.step g7).step g8).sub hd2
      have B7 := bx_step B6 g7 (by simp) (by simp)
      have B8 := bx_step B7 g8 (by simp) (by simp)
      have B9 := bx_step B8 g9 (by simp) (by simp)
      have nd : [p0, d0, p1, d1, p2, d2, b.b, b.ca].Nodup := by
        obtain ⟨_, k0⟩ := L0.ob
        obtain ⟨_, c0, _⟩ := L0.kp
        obtain ⟨_, k0a⟩ := L0a.ob
        obtain ⟨_, c0a, _⟩ := L0a.kp
        obtain ⟨_, k1⟩ := L1.ob
        obtain ⟨_, c1, _⟩ := L1.kp
        have q01 := ne_of_none k0 hp1
        have q02 := ne_of_none k0 hd1
        have q03 := ne_of_none c0 hp1
        have q04 := ne_of_none c0 hd1
        have q05 := ne_of_none k0a hp2
        have q06 := ne_of_none k0a hd2
        have q07 := ne_of_none c0a hp2
        have q08 := ne_of_none c0a hd2
        have q09 := ne_of_none k1 hp2
        have q10 := ne_of_none k1 hd2
        have q11 := ne_of_none c1 hp2
        have q12 := ne_of_none c1 hd2
        have q13 := L0.ne
        have q14 := L1.ne
        have q15 := L2.ne
        have q16 := B6.apart hp0
        have q17 := B6.apart hd0
        have q18 := B7.apart hp1
        have q19 := B7.apart hd1
        have q20 := B8.apart hp2
        have q21 := B8.apart hd2
        have q22 : b.b ≠ b.ca := by
          obtain ⟨cl, xs, z1, ⟨_, _, _, _, hx, _⟩, z2, _⟩ := B6
          intro z
          rw [z, z2, hx] at z1
          cases cl <;> simp at z1
        simp only [List.nodup_cons, List.mem_cons, List.not_mem_nil, or_false, not_or, not_false_eq_true, List.nodup_nil, and_true]
        grind
      have W9' := wld_addLog (wld_addLog (wld_addLog W9 L2 f2 f2') L1' f1 f1') L0' f0 f0'
      have nlg : Hd6 lg = none := fresh_back (W9'.sub.trans e10) n10
      have lgM : lg ∉ [p0, d0, p1, d1, p2, d2, b.b] := fun hm => by
        obtain ⟨_, o, h, _⟩ := W9'.mn _ hm
        rw [e10 _ _ h] at n10
        cases n10
      have eA : Ex H9 (upd H10 lg (.lst [.ref p0, .ref p1, .ref p2])) := e10.trans (Ex.new n10)
      have TA : Three T b (upd Hd6 lg (.lst [.ref p0, .ref p1, .ref p2])) p0 d0 p1 d1 p2 d2 (newL c 3 3) (newL c 3 3) (newL c 3 3) (upd Hd6 lg (.lst [.ref p0, .ref p1, .ref p2])) (upd H10 lg (.lst [.ref p0, .ref p1, .ref p2])) :=
        ⟨(W9'.ext eA).more upd_same noTb_lst nlg lgM, Ex.refl _, B9.mono eA, L0'.mono (Ex.new nlg) eA, L1'.mono (Ex.new nlg) eA, L2.mono (Ex.new nlg) eA, nd⟩
      have hrA : Dp K (upd Hd6 lg (.lst [.ref p0, .ref p1, .ref p2])) (.ref lr) (.list (es.map entE)) := dp_mono (Ex.new nlg) _ hrows
      have hgA : SqL K (upd Hd6 lg (.lst [.ref p0, .ref p1, .ref p2])) lg [.ref p0, .ref p1, .ref p2] := sq_of upd_same
      generalize upd Hd6 lg (.lst [.ref p0, .ref p1, .ref p2]) = HdA at TA hrA hgA
      generalize upd H10 lg (.lst [.ref p0, .ref p1, .ref p2]) = HA at TA
      have goodP : ∀ {es' : List (List Int)}, es'.Perm es → ∀ e ∈ es', goodR c e := fun hp e he => ok1 e (hp.subset he)
      refine go_forN (m := 2) (by walk_at "ea") (by decide) (fun i σ' H' => ∃ (Hk : Hp) (l0 l1 : LogM), Three T b HdA p0 d0 p1 d1 p2 d2 l0 l1 (newL c 3 3) Hk H' ∧ (i = 0 → l0 = newL c 3 3) ∧ (i ≤ 1 → l1 = newL c 3 3) ∧ (1 ≤ i → ∃ es' : List (List Int), es'.Perm es ∧ l0 = fillG day3 (newL c 3 3) es') ∧ (2 ≤ i → ∃ es' : List (List Int), es'.Perm es ∧ l1 = fillG day3 (newL c 3 3) es') ∧
        ∃ x4 x5 x7 x8 x9 x10 x11 x12 x13, σ' = [some (.ref a), some (.ref b.b), some (.int c), some (.ref lr), x4, x5, some (.ref lg), x7, x8, x9, x10, x11, x12, x13]) ?_ ?_ ?_
      · intro H' e
        exact ⟨HdA, _, _, TA.ext e, fun _ => rfl, fun _ => rfl, fun h => absurd h (by omega), fun h => absurd h (by omega), _, _, _, _, _, _, _, _, _, rfl⟩
      · rintro i σ' H11 hi ⟨Hk1, l0, l1, T1, i0, i1, i2, i3, x4, x5, x7, x8, x9, x10, x11, x12, x13, rfl⟩
        have hi2 : i < 2 := hi
        obtain ⟨p, d, hget, hM, LL, kk⟩ : ∃ p d, ([V.ref p0, .ref p1, .ref p2])[i]? = some (.ref p) ∧ (∀ x ∈ [p, d], x ∈ [p0, d0, p1, d1, p2, d2, b.b] ∧ x ≠ b.b ∧ x ≠ b.ca) ∧ LogAt K T.a_Log Hk1 H11 p d (newL c 3 3) ∧
            ∀ H2 Hn es', GrW (tabsOf T) [b.b, p, d] Hk1 H11 Hn H2 → Bx H2 b → LogAt K T.a_Log Hn H2 p d (fillG day3 (newL c 3 3) es') → es'.Perm es → ∃ (l0 l1 : LogM), Three T b HdA p0 d0 p1 d1 p2 d2 l0 l1 (newL c 3 3) Hn H2 ∧ (i + 1 = 0 → l0 = newL c 3 3) ∧ (i + 1 ≤ 1 → l1 = newL c 3 3) ∧ (1 ≤ i + 1 → ∃ es' : List (List Int), es'.Perm es ∧ l0 = fillG day3 (newL c 3 3) es') ∧ (2 ≤ i + 1 → ∃ es' : List (List Int), es'.Perm es ∧ l1 = fillG day3 (newL c 3 3) es') := by
          have hnd := T1.nd
          simp only [List.nodup_cons, List.mem_cons, List.not_mem_nil, or_false, not_or, not_false_eq_true, List.nodup_nil, and_true] at hnd
          match i, hi2, i0, i1, i2, i3 with
          | 0, _, i0, i1, i2, i3 =>
            refine ⟨p0, d0, rfl, fun x hx => ?_, by rw [← i0 rfl]; exact T1.L0, fun H2 Hn es' g B2 L hp => ⟨_, l1, ⟨T1.W.step g, T1.da.trans g.dx, B2, L, T1.L1.step g ?_ ?_, T1.L2.step g ?_ ?_, T1.nd⟩, fun h => absurd h (by omega), fun _ => i1 (by omega), fun _ => ⟨es', hp, rfl⟩, fun h => absurd h (by omega)⟩⟩
            all_goals simp only [List.mem_cons, List.not_mem_nil, or_false, not_or] at *
            all_goals grind
          | 1, _, i0, i1, i2, i3 =>
            refine ⟨p1, d1, rfl, fun x hx => ?_, by rw [← i1 (by omega)]; exact T1.L1, fun H2 Hn es' g B2 L hp => ⟨l0, _, ⟨T1.W.step g, T1.da.trans g.dx, B2, T1.L0.step g ?_ ?_, L, T1.L2.step g ?_ ?_, T1.nd⟩, fun h => absurd h (by omega), fun h => absurd h (by omega), fun _ => i2 (by omega), fun _ => ⟨es', hp, rfl⟩⟩⟩
            all_goals simp only [List.mem_cons, List.not_mem_nil, or_false, not_or] at *
            all_goals grind
        show Go _ _ [some (.ref a), some (.ref b.b), some (.int c), some (.ref lr), x4, x5, some (.ref lg), some (.int (i : Int)), x8, x9, x10, x11, x12, x13] H11
        refine go_bind (C := fun te => tSeq (tFor (iList K te) _ _) _) (ew_eb (K := K) T1.W (by simp) T1.B (eb_shuffled (ev_var rfl) (ed_var rfl (dp_mono T1.da _ hrA)) (by omega))) ?_
        rintro v8 H12 Hm12 g12 ⟨B12, dd, hdd, es', rfl, hperm⟩
        have hMp := hM p (by simp)
        have hMd := hM d (by simp)
        have L12 := LL.step g12 (by simpa using hMp.2.1) (by simpa using hMd.2.1)
        have W12 := T1.W.step g12
        have hlen := hperm.length_eq
        refine go_forW (K := K) (es := es') (n := 4) (js := [8, 9, 10, 11]) W12.sub hdd (fun e he => (goodP hperm e he).len) rfl rfl (fun j σ' H' => ∃ Hn, GrW (tabsOf T) [b.b, p, d] Hk1 H11 Hn H' ∧ Ex Hm12 Hn ∧ Bx H' b ∧ LogAt K T.a_Log Hn H' p d (fillG day3 (newL c 3 3) (es'.take j)) ∧ ∃ y8 y9 y10 y11, σ' = [some (.ref a), some (.ref b.b), some (.int c), some (.ref lr), x4, x5, some (.ref lg), some (.int (i : Int)), y8, y9, y10, y11, x12, x13]) ?_ ?_ ?_ ?_
        · intro H' e
          exact ⟨Hm12, (g12.sup (by simp)).post e, Ex.refl _, B12.mono e, L12.mono (Ex.refl _) e, _, _, _, _, rfl⟩
        · rintro j σ' H' ⟨Hn, g, s, _⟩
          exact s.trans g.sub
        · rintro j e σ' H13 he ⟨Hn, g13, s13, B13, L13, y8, y9, y10, y11, rfl⟩
          have hgood := goodP hperm e (List.mem_of_getElem? he)
          obtain ⟨r, k, o, y', rfl, hr, hk, ho, hy'⟩ := id hgood
          show Go _ _ [some (.ref a), some (.ref b.b), some (.int c), some (.ref lr), x4, x5, some (.ref lg), some (.int (i : Int)), some (.int r), some (.int k), some (.int o), some (.int y'), x12, x13] H13
          have W13 : Wld (tabsOf T) [p, d] Hn H13 := (T1.W.step g13).sup fun x hx => (hM x hx).1
          have F := fillG_facts day3 (es'.take j) (newL c 3 3)
          have hadd : addE (fillG day3 (newL c 3 3) (es'.take j)) r k o y' = none := hgood.add F.1 F.2.1 F.2.2.1 (by
            rw [fillG_len, List.length_take]
            have hj : j < es'.length := (List.getElem?_eq_some_iff.mp he).1
            show 0 + _ < 200
            omega) hy'
          refine go_dropE (ew_add T W13 (ev_op (ev_var rfl) (ev_var rfl) (rv_ixL (K := K) (ex_l (T1.da.trans (g13.dx.trans g13.sub)) hgA) (atI_nat hget))) L13 (by walk_at "ea") rfl hadd) ?_
          rintro _ H14 Hn14 g14 ⟨rfl, L14⟩
          have et : es'.take (j + 1) = es'.take j ++ [[r, k, o, y']] := by
            rw [List.take_succ, he]
            rfl
          refine go_next fun H15 e15 => ⟨Hn14, (g13.trans (g14.sup fun x hx => List.mem_cons_of_mem _ hx)).post e15, s13.trans g14.dx, (bx_step B13 g14 (by simp; exact ⟨hMp.2.1.symm, hMd.2.1.symm⟩) (by simp; exact ⟨hMp.2.2.symm, hMd.2.2.symm⟩)).mono e15, ?_, _, _, _, _, rfl⟩
          rw [et, fillG_snoc]
          exact L14.mono (Ex.refl _) e15
        · rintro σ' H13 ⟨Hn, g13, s13, B13, L13, y8, y9, y10, y11, rfl⟩
          rw [List.take_length] at L13
          obtain ⟨l0', l1', t, h1, h2, h3, h4⟩ := kk H13 Hn es' g13 B13 L13 hperm
          exact go_next fun H14 e14 => ⟨Hn, l0', l1', t.ext e14, h1, h2, h3, h4, _, _, _, _, _, _, _, _, _, rfl⟩
      · rintro σ' H11 ⟨Hk1, l0, l1, T1, i0, i1, i2, i3, x4, x5, x7, x8, x9, x10, x11, x12, x13, rfl⟩
        obtain ⟨es0, hq0, rfl⟩ := i2 (by decide)
        obtain ⟨es1, hq1, rfl⟩ := i3 (by decide)
        clear i0 i1 i2 i3
        have F0 := fillG_facts day3 es0 (newL c 3 3)
        have F1 := fillG_facts day3 es1 (newL c 3 3)
        have K0 : (fillG day3 (newL c 3 3) es0).kept.map (·.2) = es0.map (rotG day3) := F0.2.2.2
        have K1 : (fillG day3 (newL c 3 3) es1).kept.map (·.2) = es1.map (rotG day3) := F1.2.2.2
        have hsame : (entL (fillG day3 (newL c 3 3) es0)).map List.tail = (entL (fillG day3 (newL c 3 3) es1)).map List.tail := by
          refine told_same ?_ ?_
          · rw [K0, K1]
            exact (hq0.trans hq1.symm).map _
          · rw [K0, List.map_map]
            have hnd : (es.map day3).Nodup := ok2.imp fun h e => by omega
            exact ((hq0.map day3).nodup_iff).mpr hnd
        show Go _ _ [some (.ref a), some (.ref b.b), some (.int c), some (.ref lr), x4, x5, some (.ref lg), x7, x8, x9, x10, x11, x12, x13] H11
        refine go_nnewW (P := P) (w := w) fun ad H12 e12 n12 h12 => ?_
        have T2 := T1.ext e12
        have nad := T1.notin n12
        have had : Hk1 ad = none := fresh_back T1.W.sub n12
        refine go_bind (C := fun te => tSeq (tFor (iList K te) _ _) _) (ew_eb (K := K) T2.W (by simp) T2.B (eb_shuffled (ev_var rfl) (ed_var rfl (dp_mono T2.da _ hrA)) (by omega))) ?_
        rintro v8 H13 Hm13 g13 ⟨B13, dd, hdd, es2, rfl, hperm⟩
        have T3 := T2.stepB g13 B13
        have h13 := g13.ex _ _ h12 (by simp at nad ⊢; exact nad.2.2.2.2.2.2.1) noTb_dic
        have a13 := g13.fr _ _ h12 noTb_dic had
        have hlen := hperm.length_eq
        refine go_forW (K := K) (es := es2) (n := 4) (js := [8, 9, 10, 11]) T3.W.sub hdd (fun e he => (goodP hperm e he).len) rfl rfl (fun j σ' H' => ∃ Hn m, Three T b HdA p0 d0 p1 d1 p2 d2 (fillG day3 (newL c 3 3) es0) (fillG day3 (newL c 3 3) es1) (fillG (fun _ => 4) (newL c 3 3) (es2.take j)) Hn H' ∧ Ex Hm13 Hn ∧ H' ad = some (DicO P w ad m) ∧ Hn ad = none ∧ KeysAt K Hn m ∧ m.length ≤ j ∧ (∀ r k : Nat, (valD m [(r : Int), (k : Int)]).getD (.int (-2)) = .int (lastS (es2.take j) r k)) ∧
          ∃ y8 y9 y10 y11, σ' = [some (.ref a), some (.ref b.b), some (.int c), some (.ref lr), x4, x5, some (.ref lg), x7, y8, y9, y10, y11, some (.ref ad), x13]) ?_ ?_ ?_ ?_
        · intro H' e
          exact ⟨Hm13, [], T3.ext e, Ex.refl _, e _ _ h13, a13, fun e he => (by cases he), Nat.le_refl _, fun r k => rfl, _, _, _, _, rfl⟩
        · rintro j σ' H' ⟨Hn, m, t, s, _⟩
          exact s.trans t.W.sub
        · rintro j e σ' H14 he ⟨Hn, m, T4, s14, h14, a14, k14, hm, hv, y8, y9, y10, y11, rfl⟩
          have hgood := goodP hperm e (List.mem_of_getElem? he)
          obtain ⟨r, k, o, y', rfl, hr, hk, ho, hy'⟩ := id hgood
          have hj : j < es2.length := (List.getElem?_eq_some_iff.mp he).1
          show Go _ _ [some (.ref a), some (.ref b.b), some (.int c), some (.ref lr), x4, x5, some (.ref lg), x7, some (.int r), some (.int k), some (.int o), some (.int y'), some (.ref ad), x13] H14
          have W14 : Wld (tabsOf T) [p2, d2] Hn H14 := T4.W.sup (by simp)
          have F := fillG_facts (fun _ => 4) (es2.take j) (newL c 3 3)
          have hadd : addE (fillG (fun _ => 4) (newL c 3 3) (es2.take j)) r k o 4 = none := hgood.add F.1 F.2.1 F.2.2.1 (by
            rw [fillG_len, List.length_take]
            show 0 + _ < 200
            omega) (by decide)
          refine go_dropE (ew_add T W14 (ev_op (ev_var rfl) ev_c (rv_ixL (K := K) (ex_l (T4.da.trans T4.W.sub) hgA) rfl)) T4.L2 (by walk_at "ea") rfl hadd) ?_
          rintro _ H15 Hn15 g15 ⟨rfl, L15⟩
          have T5 := T4.step2 g15 L15
          have h15 := g15.ex _ _ h14 (by simp at nad ⊢; grind) noTb_dic
          have a15 := g15.fr _ _ h14 noTb_dic a14
          have k15 := k14.mono g15.dx
          refine go_nput (K := K) (Hd := Hn15) (k := [r, k]) (m := m) (v := .int o) T5.W.sub (ev_var rfl) (ev_var rfl) (ed_tup (ds := [.int r, .int k]) (eda_cons (ed_int (ev_var rfl)) (eda_cons (ed_int (ev_var rfl)) eda_nil)) (by simp)) ⟨h15, k15.mono T5.W.sub⟩ (by omega) fun p' H16 Hn16 g16 s16 => ?_
          have gW := GrW.of (M := []) T5.W g16
          have T6 := T5.stepN gW
          have h16 := g16.ex _ _ h15
          have a16 : noT Hn16 ad = none := noT_none (g16.fr _ _ h15 a15)
          have T7 := T6.put h16 (ntb_dic h16) a16 (noTb_dic (a := ad) (P := P) (w := w) (m := putD m [r, k] p' (.int o))) nad
          have et : es2.take (j + 1) = es2.take j ++ [[r, k, o, y']] := by
            rw [List.take_succ, he]
            rfl
          refine go_next fun H17 e17 => ⟨noT Hn16, putD m [r, k] p' (.int o), ?_, (s14.trans g15.dx).trans gW.dx, e17 _ _ upd_same, a16, (k15.mono gW.dx).put (noT_t s16), ?_, fun r2 k2 => ?_, _, _, _, _, rfl⟩
          · rw [et, fillG_snoc]
            exact T7.ext e17
          · have := putD_len m [r, k] p' (.int o)
            omega
          · rw [et, lastS_snoc, valD_put35]
            show _ = V.int (withF r.toNat k.toNat o _ r2 k2)
            unfold withF
            by_cases hz : r2 = r.toNat ∧ k2 = k.toNat
            · rw [if_pos hz, if_pos (by obtain ⟨z1, z2⟩ := hz; rw [z1, z2]; simp; omega)]
              rfl
            · rw [if_neg hz, if_neg (by simp; omega)]
              exact hv r2 k2
        · rintro σ' H14 ⟨Hn, m, T4, s14, h14, a14, k14, hm, hv, y8, y9, y10, y11, rfl⟩
          rw [List.take_length] at T4 hv
          have sL : ∀ {H : Hp}, Ex Hn H → SqL K H lg [.ref p0, .ref p1, .ref p2] := fun e => ex_l (T4.da.trans e) hgA
          have ktold : toldL (fillG day3 (newL c 3 3) es0) = toldL (fillG day3 (newL c 3 3) es1) := hsame
          have klike : likeD (fillG day3 (newL c 3 3) es0) = likeD (fillG day3 (newL c 3 3) es1) := by
            unfold likeD
            rw [ktold, F0.1, F0.2.1, F0.2.2.1, F1.1, F1.2.1, F1.2.2.1]
          refine go_bind (C := fun te => tSeq (tIfS (tNot (tTest te)) _ _) _) (ew_eqLog T T4.W (ev_op (ev_var rfl) ev_c (rv_ixL (K := K) (sL T4.W.sub) rfl)) (ev_op (ev_var rfl) ev_c (rv_ixL (K := K) (sL T4.W.sub) rfl)) T4.L0 T4.L1) ?_
          rintro _ H15 Hn15 g15 rfl
          have T5 := T4.stepN g15
          refine go_whenF (et_is (et_not (et_test ev_val)) (by rw [klike, eqv_okE (okE_like _)]; rfl)) ?_
          have h15 := g15.ex _ _ h14 (by simp) noTb_dic
          have a15 := g15.fr _ _ h14 noTb_dic a14
          have k15 := k14.mono g15.dx
          refine go_bind (C := fun te => tSeq (tFor (iTup K te) _ _) _) (ew_eb (K := K) T5.W (by simp) T5.B (eb_tup (eba_cons (eb_ev (n := 0) ev_c) (eba_cons (eb_day (ev_var rfl)) (eba_cons (eb_ev (n := 999) ev_c) eba_nil))) ?_)) ?_
          · rintro ds ⟨_, _, rfl, _, _, _, rfl, _, _, _, rfl, _, rfl⟩
            simp
          rintro v16 H16 Hn16 g16 ⟨B16, d16, hd16, ds16, rfl, _, _, rfl, ⟨_, rfl, rfl⟩, _, _, rfl, ⟨yd, rfl, hyd⟩, _, _, rfl, ⟨_, rfl, rfl⟩, rfl⟩
          have T6 := T5.stepB g16 B16
          have h16 := g16.ex _ _ h15 (by simp at nad ⊢; grind) noTb_dic
          have a16 := g16.fr _ _ h15 noTb_dic a15
          have k16 := k15.mono g16.dx
          have s16 : Ex Hn Hn16 := g15.dx.trans g16.dx
          refine go_forWT (K := K) T6.W.sub hd16 (fun j σ' H' => ∃ Hk, Three T b HdA p0 d0 p1 d1 p2 d2 (fillG day3 (newL c 3 3) es0) (fillG day3 (newL c 3 3) es1) (fillG (fun _ => 4) (newL c 3 3) es2) Hk H' ∧ Ex Hn16 Hk ∧ H' ad = some (DicO P w ad m) ∧ Hk ad = none ∧
            ∃ y8 y9 y10 y11, σ' = [some (.ref a), some (.ref b.b), some (.int c), some (.ref lr), x4, x5, some (.ref lg), x7, y8, y9, y10, y11, some (.ref ad), x13]) ?_ ?_ ?_ ?_
          · intro H' e
            exact ⟨Hn16, T6.ext e, Ex.refl _, e _ _ h16, a16, _, _, _, _, rfl⟩
          · rintro j σ' H' ⟨Hk, t, s, _⟩
            exact s.trans t.W.sub
          · rintro j dj x σ' H17 hdj hx ⟨Hk, T7, s17, h17, a17, z8, z9, z10, z11, rfl⟩
            obtain ⟨yy, rfl, hyy⟩ : ∃ yy : Int, dj = .int yy ∧ (0 ≤ yy ∧ yy ≤ 999) := by
              have := List.mem_of_getElem? hdj
              simp only [List.mem_cons, List.not_mem_nil, or_false] at this
              rcases this with rfl | rfl | rfl
              · exact ⟨_, rfl, by decide⟩
              · exact ⟨_, rfl, hyd⟩
              · exact ⟨_, rfl, by decide⟩
            cases hx
            show Go _ _ [some (.ref a), some (.ref b.b), some (.int c), some (.ref lr), x4, x5, some (.ref lg), x7, z8, z9, z10, some (.int yy), some (.ref ad), x13] H17
            refine go_bind (C := fun te => tSeq (tIfS (tTest (tOp _ te _)) _ _) _) (ew_chart T T7.W (ev_op (ev_var rfl) ev_c (rv_ixL (K := K) (sL ((s16.trans s17).trans T7.W.sub)) rfl)) T7.L0 (by walk_at "ea") rfl hyy) ?_
            intro v18 H18 Hn18 g18 hd18
            have T8 := T7.stepN g18
            refine go_bind (C := fun te => tSeq (tIfS (tTest (tOp _ (tVal _) te)) _ _) _) (ew_chart T T8.W (ev_op (ev_var rfl) ev_c (rv_ixL (K := K) (sL (((s16.trans s17).trans g18.dx).trans T8.W.sub)) rfl)) T8.L1 (by walk_at "ea") rfl hyy) ?_
            intro v19 H19 Hn19 g19 hd19
            have T9 := T8.stepN g19
            have kc : dChart (fillG day3 (newL c 3 3) es0).clock (chartT (fillG day3 (newL c 3 3) es0) yy) = dChart (fillG day3 (newL c 3 3) es1).clock (chartT (fillG day3 (newL c 3 3) es1) yy) := by
              rw [F0.1, F1.1, chart_same (F0.2.1.trans F1.2.1.symm) (F0.2.2.1.trans F1.2.2.1.symm) hsame]
            refine go_whenF (EvT.mono T9.W.sub (et_is (et_test (ev_neD (K := K) (ed_val (dp_mono g19.dx _ hd18)) (ed_val hd19) (okE_shaped (okE_chart 0 _ _) (by decide)) (okE_shaped (okE_chart 0 _ _) (by decide)))) (by rw [kc, eqv_okE (okE_chart 0 _ _)]; rfl))) ?_
            have h19 := g19.ex _ _ (g18.ex _ _ h17 (by simp) noTb_dic) (by simp) noTb_dic
            have a19 := g19.fr _ _ (g18.ex _ _ h17 (by simp) noTb_dic) noTb_dic (g18.fr _ _ h17 noTb_dic a17)
            exact go_next fun H20 e20 => ⟨Hn19, T9.ext e20, (s17.trans g18.dx).trans g19.dx, e20 _ _ h19, a19, _, _, _, _, rfl⟩
          · rintro σ' H17 ⟨Hk, T7, s17, h17, a17, z8, z9, z10, z11, rfl⟩
            have k17 := k16.mono s17
            have L2ok := T7.L2.ok
            have F2 := fillG_facts (fun _ => 4) es2 (newL c 3 3)
            have K2 : (fillG (fun _ => 4) (newL c 3 3) es2).kept.map (·.2) = es2.map (rotG fun _ => 4) := F2.2.2.2
            have day4 : ∀ e ∈ (fillG (fun _ => 4) (newL c 3 3) es2).kept, e.2.getD 0 0 = 4 := fun e he => by
              have : e.2 ∈ es2.map (rotG fun _ => 4) := by
                rw [← K2]
                exact List.mem_map.mpr ⟨e, he, rfl⟩
              obtain ⟨x, _, hx⟩ := List.mem_map.mp this
              rw [← hx]
              rfl
            have ht2 := told_one L2ok day4
            have hc4 : chartT (fillG (fun _ => 4) (newL c 3 3) es2) 4 = tab 3 3 (lastS es2) := by
              unfold chartT
              rw [F2.2.1, F2.2.2.1, lastF_tail, ht2, K2, lastG_one 4 4 (by decide)]
              rfl
            have hnil : entL (newL c 3 3) = [] := by
              unfold entL newL sortE
              simp
            have hc3 : chartT (fillG (fun _ => 4) (newL c 3 3) es2) 3 = chartT (newL c 3 3) 999 := by
              unfold chartT
              rw [F2.2.1, F2.2.2.1, lastF_tail, ht2, K2, lastG_none 4 3 (by decide), hnil]
              rfl
            refine go_bind (C := fun te => tSeq (tFor (iList K te) _ _) _) (ew_ed (K := K) (M := []) (d := .list (sq9.map sqD)) T7.W (ed_new (en_lst ?_ (by decide)))) ?_
            · exact eda_cons ed_sqc (eda_cons ed_sqc (eda_cons ed_sqc (eda_cons ed_sqc (eda_cons ed_sqc (eda_cons ed_sqc (eda_cons ed_sqc (eda_cons ed_sqc (eda_cons ed_sqc eda_nil))))))))
            rintro v18 H18 Hn18 g18 ⟨hd18, e18⟩
            have T8 := T7.stepN g18
            have h18 := g18.ex _ _ h17 (by simp) noTb_dic
            have a18 := g18.fr _ _ h17 noTb_dic a17
            have k18 := k17.mono g18.dx
            have s18 : Ex Hn Hn18 := (s16.trans s17).trans g18.dx
            refine go_forWL (K := K) T8.W.sub hd18 (fun j σ' H' => ∃ Hk, Three T b HdA p0 d0 p1 d1 p2 d2 (fillG day3 (newL c 3 3) es0) (fillG day3 (newL c 3 3) es1) (fillG (fun _ => 4) (newL c 3 3) es2) Hk H' ∧ Ex Hn18 Hk ∧ H' ad = some (DicO P w ad m) ∧ Hk ad = none ∧
              ∃ z13, σ' = [some (.ref a), some (.ref b.b), some (.int c), some (.ref lr), x4, x5, some (.ref lg), x7, z8, z9, z10, z11, some (.ref ad), z13]) ?_ ?_ ?_ ?_
            · intro H' e
              exact ⟨Hn18, T8.ext e, Ex.refl _, e _ _ h18, a18, _, rfl⟩
            · rintro j σ' H' ⟨Hk, t, s, _⟩
              exact s.trans t.W.sub
            · rintro j dj x σ' H19 hdj hx ⟨Hk', T9, s19, h19, a19, z13, rfl⟩
              obtain ⟨r, k, hr3, hk3, rfl⟩ : ∃ r k : Nat, r < 3 ∧ k < 3 ∧ dj = sqD ((r : Int), (k : Int)) := by
                have := List.mem_of_getElem? hdj
                obtain ⟨sq, hsq, rfl⟩ := List.mem_map.mp this
                simp only [sq9, List.mem_cons, List.not_mem_nil, or_false] at hsq
                rcases hsq with rfl | rfl | rfl | rfl | rfl | rfl | rfl | rfl | rfl
                · exact ⟨0, 0, by decide, by decide, rfl⟩
                · exact ⟨0, 1, by decide, by decide, rfl⟩
                · exact ⟨0, 2, by decide, by decide, rfl⟩
                · exact ⟨1, 0, by decide, by decide, rfl⟩
                · exact ⟨1, 1, by decide, by decide, rfl⟩
                · exact ⟨1, 2, by decide, by decide, rfl⟩
                · exact ⟨2, 0, by decide, by decide, rfl⟩
                · exact ⟨2, 1, by decide, by decide, rfl⟩
                · exact ⟨2, 2, by decide, by decide, rfl⟩
              show Go _ _ [some (.ref a), some (.ref b.b), some (.int c), some (.ref lr), x4, x5, some (.ref lg), x7, z8, z9, z10, z11, some (.ref ad), some x] H19
              refine go_bind (C := fun te => tSeq (tIfS (tTest (tOp _ (tCall _ _ _ (tCons te _)) _)) _ _) _) (ew_chart T T9.W (ev_op (ev_var rfl) ev_c (rv_ixL (K := K) (sL ((s18.trans s19).trans T9.W.sub)) rfl)) T9.L2 (by walk_at "ea") rfl (by decide)) ?_
              intro v20 H20 Hn20 g20 hd20
              rw [hc4] at hd20
              have T10 := T9.stepN g20
              have h20 := g20.ex _ _ h19 (by simp) noTb_dic
              have a20 := g20.fr _ _ h19 noTb_dic a19
              have k20 := (k18.mono s19).mono g20.dx
              have hx20 := dp_mono (s19.trans g20.dx) _ hx
              refine go_whenF (et_is (et_test (ev_op (Ev.mono T10.W.sub (ev_what (K := K) (eda_cons (ed_val hd20) (eda_cons (ed_var rfl hx20) eda_nil)) (tab_rect (by decide) (by decide) (by decide) (by decide)))) (ev_is (ev_nget2 (K := K) (k := [(r : Int), (k : Int)]) T10.W.sub (ev_var rfl) (ed_var rfl hx20) (z := .int (-2)) (by walk_at "ev") ⟨h20, k20.mono T10.W.sub⟩) (hv r k)) (rv_ne rfl))) (by rw [tab_what hr3 hk3 (by decide) (by decide)]; simp)) ?_
              exact go_next fun H21 e21 => ⟨Hn20, T10.ext e21, s19.trans g20.dx, e21 _ _ h20, a20, _, rfl⟩
            · rintro σ' H19 ⟨Hk', T9, s19, h19, a19, z13, rfl⟩
              refine go_bind (C := fun te => tSeq (tRet (tOp _ te _)) _) (ew_chart T T9.W (ev_op (ev_var rfl) ev_c (rv_ixL (K := K) (sL ((s18.trans s19).trans T9.W.sub)) rfl)) T9.L2 (by walk_at "ea") rfl (by decide)) ?_
              intro v20 H20 Hn20 g20 hd20
              have T10 := T9.stepN g20
              refine go_bind (C := fun te => tSeq (tRet (tOp _ (tVal _) (tMeth _ _ _ _ _ te _))) _) (ew_new T T10.W (c := c) (h := 3) (w := 3) (by walk_at "ea") hnew) ?_
              rintro _ H21 Hn21 g21 ⟨e21, pn, dn, rfl, hpn, hdn, Ln⟩
              obtain rfl := e21.symm
              have T11 := T10.stepN g21
              refine go_bind (C := fun te => tSeq (tRet (tOp _ (tVal _) te)) _) (ew_chart T T11.W ev_val Ln ea_nil rfl (by decide)) ?_
              intro v22 H22 Hn22 g22 hd22
              have T12 := T11.stepN g22
              have kc : dChart (fillG (fun _ => 4) (newL c 3 3) es2).clock (chartT (fillG (fun _ => 4) (newL c 3 3) es2) 3) = dChart (newL c 3 3).clock (chartT (newL c 3 3) 999) := by
                rw [hc3, F2.1]
              exact go_retV (Ev.mono T12.W.sub (ev_is (ev_eqD (K := K) (ed_val (dp_mono g22.dx _ hd20)) (ed_val hd22) (okE_shaped (okE_chart 0 _ _) (by decide)) (okE_shaped (okE_chart 0 _ _) (by decide))) (by rw [kc, eqv_okE (okE_chart 0 _ _)]))) fun H9 _ => q H9

end
theorem all_mk {l : PySem.W.OpenLaw} {w : World} {K : PySem.W.Frag} {h : Heap} {mg : Str → Option Value} {fa : Addr} (X : K.In h) (G : h.Ns mainGlobals mg) (hfa : mg "law" = some (.ref fa))
    {f0 : Addr} {od0 an0 : Option Addr} {sl0 : Array (Option Value)} {oc0 kV0 dc0 pm0 cd0 ct0 : Value}
    {f1 : Addr} {od1 an1 : Option Addr} {sl1 : Array (Option Value)} {oc1 kV1 dc1 pm1 cd1 ct1 : Value}
    {f2 : Addr} {od2 an2 : Option Addr} {sl2 : Array (Option Value)} {oc2 kV2 dc2 pm2 cd2 ct2 : Value}
    {f3 : Addr} {od3 an3 : Option Addr} {sl3 : Array (Option Value)} {oc3 kV3 dc3 pm3 cd3 ct3 : Value}
    {f4 : Addr} {od4 an4 : Option Addr} {sl4 : Array (Option Value)} {oc4 kV4 dc4 pm4 cd4 ct4 : Value}
    {f5 : Addr} {od5 an5 : Option Addr} {sl5 : Array (Option Value)} {oc5 kV5 dc5 pm5 cd5 ct5 : Value}
    {f6 : Addr} {od6 an6 : Option Addr} {sl6 : Array (Option Value)} {oc6 kV6 dc6 pm6 cd6 ct6 : Value}
    {f7 : Addr} {od7 an7 : Option Addr} {sl7 : Array (Option Value)} {oc7 kV7 dc7 pm7 cd7 ct7 : Value}
    {f8 : Addr} {od8 an8 : Option Addr} {sl8 : Array (Option Value)} {oc8 kV8 dc8 pm8 cd8 ct8 : Value}
    {f9 : Addr} {od9 an9 : Option Addr} {sl9 : Array (Option Value)} {oc9 kV9 dc9 pm9 cd9 ct9 : Value}
    {f10 : Addr} {od10 an10 : Option Addr} {sl10 : Array (Option Value)} {oc10 kV10 dc10 pm10 cd10 ct10 : Value}
    {f11 : Addr} {od11 an11 : Option Addr} {sl11 : Array (Option Value)} {oc11 kV11 dc11 pm11 cd11 ct11 : Value}
    {f12 : Addr} {od12 an12 : Option Addr} {sl12 : Array (Option Value)} {oc12 kV12 dc12 pm12 cd12 ct12 : Value}
    {f13 : Addr} {od13 an13 : Option Addr} {sl13 : Array (Option Value)} {oc13 kV13 dc13 pm13 cd13 ct13 : Value}
    {f14 : Addr} {od14 an14 : Option Addr} {sl14 : Array (Option Value)} {oc14 kV14 dc14 pm14 cd14 ct14 : Value}
    {f15 : Addr} {od15 an15 : Option Addr} {sl15 : Array (Option Value)} {oc15 kV15 dc15 pm15 cd15 ct15 : Value}
    {f16 : Addr} {od16 an16 : Option Addr} {sl16 : Array (Option Value)} {oc16 kV16 dc16 pm16 cd16 ct16 : Value}
    {f17 : Addr} {od17 an17 : Option Addr} {sl17 : Array (Option Value)} {oc17 kV17 dc17 pm17 cd17 ct17 : Value}
    {f18 : Addr} {od18 an18 : Option Addr} {sl18 : Array (Option Value)} {oc18 kV18 dc18 pm18 cd18 ct18 : Value}
    {f19 : Addr} {od19 an19 : Option Addr} {sl19 : Array (Option Value)} {oc19 kV19 dc19 pm19 cd19 ct19 : Value}
    {f20 : Addr} {od20 an20 : Option Addr} {sl20 : Array (Option Value)} {oc20 kV20 dc20 pm20 cd20 ct20 : Value}
    {f21 : Addr} {od21 an21 : Option Addr} {sl21 : Array (Option Value)} {oc21 kV21 dc21 pm21 cd21 ct21 : Value}
    {f22 : Addr} {od22 an22 : Option Addr} {sl22 : Array (Option Value)} {oc22 kV22 dc22 pm22 cd22 ct22 : Value}
    {T23 : Addr} {oT23 : Value} {pT23 : Option Addr} {nT23 : Nat} {sT23 : Array (Option Value)} {u23_0 : Tok}
    {f23 : Addr} {od23 an23 : Option Addr} {sl23 : Array (Option Value)} {oc23 kV23 dc23 pm23 cd23 ct23 : Value}
    {f24 : Addr} {od24 an24 : Option Addr} {sl24 : Array (Option Value)} {oc24 kV24 dc24 pm24 ct24 : Value}
    {cO0 PO0 : Addr}
    {T25 : Addr} {oT25 : Value} {pT25 : Option Addr} {nT25 : Nat} {sT25 : Array (Option Value)} {u25_0 : Tok}
    {f25 : Addr} {od25 an25 : Option Addr} {sl25 : Array (Option Value)} {oc25 kV25 dc25 pm25 cd25 ct25 : Value}
    {t0 : Tok}
    {t1 : Tok}
    {t2 : Tok}
    {t3 : Tok}
    {t4 : Tok}
    {t5 : Tok}
    {t6 : Tok}
    {C0 : Addr}
    {C1 : Addr}
    {C2 : Addr}
    {C3 : Addr}
    {C4 : Addr}
    {C5 : Addr}
    {C6 : Addr}
    (a0 : PySem.W.nsIn K mainGlobals "_wall" = some (some (.ref f0))) (l0 : K.lookup f0 = some ⟨oc0, od0, .func (PySem.W.fnOf "_wall" "_wall" (defArgs s_wall) (defBody s_wall) (defScope s_wall) .none kV0 dc0 pm0 an0 cd0 ct0), sl0⟩) (c0 : PySem.W.codeIn K cd0 "_wall" = true) (k0 : PySem.W.keepIn K (.ref f0) = true)
    (a1 : PySem.W.nsIn K mainGlobals "is_clock" = some (some (.ref f1))) (l1 : K.lookup f1 = some ⟨oc1, od1, .func (PySem.W.fnOf "is_clock" "is_clock" (defArgs s_is_clock) (defBody s_is_clock) (defScope s_is_clock) .none kV1 dc1 pm1 an1 cd1 ct1), sl1⟩) (c1 : PySem.W.codeIn K cd1 "is_clock" = true) (k1 : PySem.W.keepIn K (.ref f1) = true)
    (a2 : PySem.W.nsIn K mainGlobals "need_clock" = some (some (.ref f2))) (l2 : K.lookup f2 = some ⟨oc2, od2, .func (PySem.W.fnOf "need_clock" "need_clock" (defArgs s_need_clock) (defBody s_need_clock) (defScope s_need_clock) .none kV2 dc2 pm2 an2 cd2 ct2), sl2⟩) (c2 : PySem.W.codeIn K cd2 "need_clock" = true) (k2 : PySem.W.keepIn K (.ref f2) = true)
    (a3 : PySem.W.nsIn K mainGlobals "is_what" = some (some (.ref f3))) (l3 : K.lookup f3 = some ⟨oc3, od3, .func (PySem.W.fnOf "is_what" "is_what" (defArgs s_is_what) (defBody s_is_what) (defScope s_is_what) .none kV3 dc3 pm3 an3 cd3 ct3), sl3⟩) (c3 : PySem.W.codeIn K cd3 "is_what" = true) (k3 : PySem.W.keepIn K (.ref f3) = true)
    (a4 : PySem.W.nsIn K mainGlobals "what_text" = some (some (.ref f4))) (l4 : K.lookup f4 = some ⟨oc4, od4, .func (PySem.W.fnOf "what_text" "what_text" (defArgs s_what_text) (defBody s_what_text) (defScope s_what_text) .none kV4 dc4 pm4 an4 cd4 ct4), sl4⟩) (c4 : PySem.W.codeIn K cd4 "what_text" = true) (k4 : PySem.W.keepIn K (.ref f4) = true)
    (a5 : PySem.W.nsIn K mainGlobals "need_day" = some (some (.ref f5))) (l5 : K.lookup f5 = some ⟨oc5, od5, .func (PySem.W.fnOf "need_day" "need_day" (defArgs s_need_day) (defBody s_need_day) (defScope s_need_day) .none kV5 dc5 pm5 an5 cd5 ct5), sl5⟩) (c5 : PySem.W.codeIn K cd5 "need_day" = true) (k5 : PySem.W.keepIn K (.ref f5) = true)
    (a6 : PySem.W.nsIn K mainGlobals "need_what" = some (some (.ref f6))) (l6 : K.lookup f6 = some ⟨oc6, od6, .func (PySem.W.fnOf "need_what" "need_what" (defArgs s_need_what) (defBody s_need_what) (defScope s_need_what) .none kV6 dc6 pm6 an6 cd6 ct6), sl6⟩) (c6 : PySem.W.codeIn K cd6 "need_what" = true) (k6 : PySem.W.keepIn K (.ref f6) = true)
    (a7 : PySem.W.nsIn K mainGlobals "_law_box" = some (some (.ref f7))) (l7 : K.lookup f7 = some ⟨oc7, od7, .func (PySem.W.fnOf "_law_box" "_law_box" (defArgs s_law_box) (defBody s_law_box) (defScope s_law_box) .none kV7 dc7 pm7 an7 cd7 ct7), sl7⟩) (c7 : PySem.W.codeIn K cd7 "_law_box" = true) (k7 : PySem.W.keepIn K (.ref f7) = true)
    (a8 : PySem.W.nsIn K mainGlobals "_law_mixed" = some (some (.ref f8))) (l8 : K.lookup f8 = some ⟨oc8, od8, .func (PySem.W.fnOf "_law_mixed" "_law_mixed" (defArgs s_law_mixed) (defBody s_law_mixed) (defScope s_law_mixed) .none kV8 dc8 pm8 an8 cd8 ct8), sl8⟩) (c8 : PySem.W.codeIn K cd8 "_law_mixed" = true) (k8 : PySem.W.keepIn K (.ref f8) = true)
    (a9 : PySem.W.nsIn K mainGlobals "_law_take" = some (some (.ref f9))) (l9 : K.lookup f9 = some ⟨oc9, od9, .func (PySem.W.fnOf "_law_take" "_law_take" (defArgs s_law_take) (defBody s_law_take) (defScope s_law_take) .none kV9 dc9 pm9 an9 cd9 ct9), sl9⟩) (c9 : PySem.W.codeIn K cd9 "_law_take" = true) (k9 : PySem.W.keepIn K (.ref f9) = true)
    (a10 : PySem.W.nsIn K mainGlobals "_law_clock" = some (some (.ref f10))) (l10 : K.lookup f10 = some ⟨oc10, od10, .func (PySem.W.fnOf "_law_clock" "_law_clock" (defArgs s_law_clock) (defBody s_law_clock) (defScope s_law_clock) .none kV10 dc10 pm10 an10 cd10 ct10), sl10⟩) (c10 : PySem.W.codeIn K cd10 "_law_clock" = true) (k10 : PySem.W.keepIn K (.ref f10) = true)
    (a11 : PySem.W.nsIn K mainGlobals "_law_what" = some (some (.ref f11))) (l11 : K.lookup f11 = some ⟨oc11, od11, .func (PySem.W.fnOf "_law_what" "_law_what" (defArgs s_law_what) (defBody s_law_what) (defScope s_law_what) .none kV11 dc11 pm11 an11 cd11 ct11), sl11⟩) (c11 : PySem.W.codeIn K cd11 "_law_what" = true) (k11 : PySem.W.keepIn K (.ref f11) = true)
    (a12 : PySem.W.nsIn K mainGlobals "_law_day" = some (some (.ref f12))) (l12 : K.lookup f12 = some ⟨oc12, od12, .func (PySem.W.fnOf "_law_day" "_law_day" (defArgs s_law_day) (defBody s_law_day) (defScope s_law_day) .none kV12 dc12 pm12 an12 cd12 ct12), sl12⟩) (c12 : PySem.W.codeIn K cd12 "_law_day" = true) (k12 : PySem.W.keepIn K (.ref f12) = true)
    (a13 : PySem.W.nsIn K mainGlobals "_law_one" = some (some (.ref f13))) (l13 : K.lookup f13 = some ⟨oc13, od13, .func (PySem.W.fnOf "_law_one" "_law_one" (defArgs s_law_one) (defBody s_law_one) (defScope s_law_one) .none kV13 dc13 pm13 an13 cd13 ct13), sl13⟩) (c13 : PySem.W.codeIn K cd13 "_law_one" = true) (k13 : PySem.W.keepIn K (.ref f13) = true)
    (a14 : PySem.W.nsIn K mainGlobals "_law_shuffled" = some (some (.ref f14))) (l14 : K.lookup f14 = some ⟨oc14, od14, .func (PySem.W.fnOf "_law_shuffled" "_law_shuffled" (defArgs s_law_shuffled) (defBody s_law_shuffled) (defScope s_law_shuffled) .none kV14 dc14 pm14 an14 cd14 ct14), sl14⟩) (c14 : PySem.W.codeIn K cd14 "_law_shuffled" = true) (k14 : PySem.W.keepIn K (.ref f14) = true)
    (a15 : PySem.W.nsIn K mainGlobals "law" = some (some (.ref f15))) (l15 : K.lookup f15 = some ⟨oc15, od15, .func (PySem.W.fnOf "law" "law" (defArgs s_law) (defBody s_law) (defScope s_law) .none kV15 dc15 pm15 an15 cd15 ct15), sl15⟩) (c15 : PySem.W.codeIn K cd15 "law" = true) (k15 : PySem.W.keepIn K (.ref f15) = true)
    (a16 : PySem.W.findIn K (.ref C6) "__init__" = some (some (.ref f16))) (i16 : PySem.W.isFn K (.ref f16) = true) (l16 : K.lookup f16 = some ⟨oc16, od16, .func (PySem.W.fnOf "__init__" "Log.__init__" (defArgs s_Log_init) (defBody s_Log_init) (defScope s_Log_init) .none kV16 dc16 pm16 an16 cd16 ct16), sl16⟩) (c16 : PySem.W.codeIn K cd16 "Log.__init__" = true) (k16 : PySem.W.keepIn K (.ref f16) = true)
    (a17 : PySem.W.findIn K (.ref C6) "__len__" = some (some (.ref f17))) (i17 : PySem.W.isFn K (.ref f17) = true) (l17 : K.lookup f17 = some ⟨oc17, od17, .func (PySem.W.fnOf "__len__" "Log.__len__" (defArgs s_Log_len) (defBody s_Log_len) (defScope s_Log_len) .none kV17 dc17 pm17 an17 cd17 ct17), sl17⟩) (c17 : PySem.W.codeIn K cd17 "Log.__len__" = true) (k17 : PySem.W.keepIn K (.ref f17) = true)
    (a18 : PySem.W.findIn K (.ref C6) "__eq__" = some (some (.ref f18))) (i18 : PySem.W.isFn K (.ref f18) = true) (l18 : K.lookup f18 = some ⟨oc18, od18, .func (PySem.W.fnOf "__eq__" "Log.__eq__" (defArgs s_Log_eq) (defBody s_Log_eq) (defScope s_Log_eq) .none kV18 dc18 pm18 an18 cd18 ct18), sl18⟩) (c18 : PySem.W.codeIn K cd18 "Log.__eq__" = true) (k18 : PySem.W.keepIn K (.ref f18) = true)
    (a19 : PySem.W.findIn K (.ref C6) "__str__" = some (some (.ref f19))) (i19 : PySem.W.isFn K (.ref f19) = true) (l19 : K.lookup f19 = some ⟨oc19, od19, .func (PySem.W.fnOf "__str__" "Log.__str__" (defArgs s_Log_str) (defBody s_Log_str) (defScope s_Log_str) .none kV19 dc19 pm19 an19 cd19 ct19), sl19⟩) (c19 : PySem.W.codeIn K cd19 "Log.__str__" = true) (k19 : PySem.W.keepIn K (.ref f19) = true)
    (a20 : PySem.W.findIn K (.ref C6) "__repr__" = some (some (.ref f20))) (i20 : PySem.W.isFn K (.ref f20) = true) (l20 : K.lookup f20 = some ⟨oc20, od20, .func (PySem.W.fnOf "__repr__" "Log.__repr__" (defArgs s_Log_repr) (defBody s_Log_repr) (defScope s_Log_repr) .none kV20 dc20 pm20 an20 cd20 ct20), sl20⟩) (c20 : PySem.W.codeIn K cd20 "Log.__repr__" = true) (k20 : PySem.W.keepIn K (.ref f20) = true)
    (a21 : PySem.W.findIn K (.ref C6) "likeness" = some (some (.ref f21))) (i21 : PySem.W.isFn K (.ref f21) = true) (l21 : K.lookup f21 = some ⟨oc21, od21, .func (PySem.W.fnOf "likeness" "Log.likeness" (defArgs s_Log_likeness) (defBody s_Log_likeness) (defScope s_Log_likeness) .none kV21 dc21 pm21 an21 cd21 ct21), sl21⟩) (c21 : PySem.W.codeIn K cd21 "Log.likeness" = true) (k21 : PySem.W.keepIn K (.ref f21) = true)
    (a22 : PySem.W.findIn K (.ref C6) "entry_texts" = some (some (.ref f22))) (i22 : PySem.W.isFn K (.ref f22) = true) (l22 : K.lookup f22 = some ⟨oc22, od22, .func (PySem.W.fnOf "entry_texts" "Log.entry_texts" (defArgs s_Log_entry_texts) (defBody s_Log_entry_texts) (defScope s_Log_entry_texts) .none kV22 dc22 pm22 an22 cd22 ct22), sl22⟩) (c22 : PySem.W.codeIn K cd22 "Log.entry_texts" = true) (k22 : PySem.W.keepIn K (.ref f22) = true)
    (a23 : PySem.W.findIn K (.ref C6) "add" = some (some (.ref f23))) (i23 : PySem.W.isFn K (.ref f23) = true) (l23 : K.lookup f23 = some ⟨oc23, od23, .func (PySem.W.fnOf "add" "Log.add" (defArgs s_Log_add) (defBody s_Log_add) (defScope s_Log_add) (.ref T23) kV23 dc23 pm23 an23 cd23 ct23), sl23⟩) (c23 : PySem.W.codeIn K cd23 "Log.add" = true) (k23 : PySem.W.keepIn K (.ref f23) = true)
    (dt23 : K.lookup T23 = some ⟨oT23, pT23, .seq #[.int (0) u23_0] nT23, sT23⟩)
    (a24 : PySem.W.findIn K (.ref C6) "entries" = some (some (.ref f24))) (i24 : PySem.W.isFn K (.ref f24) = true) (l24 : K.lookup f24 = some ⟨oc24, od24, .func (PySem.W.fnOf "entries" "Log.entries" (defArgs s_Log_entries) (defBody s_Log_entries) (defScope s_Log_entries) .none kV24 dc24 pm24 an24 (.ref cO0) ct24), sl24⟩) (c24 : PySem.W.codeIn K (.ref cO0) "Log.entries" = true) (k24 : PySem.W.keepIn K (.ref f24) = true)
    (a25 : PySem.W.findIn K (.ref C6) "chart" = some (some (.ref f25))) (i25 : PySem.W.isFn K (.ref f25) = true) (l25 : K.lookup f25 = some ⟨oc25, od25, .func (PySem.W.fnOf "chart" "Log.chart" (defArgs s_Log_chart) (defBody s_Log_chart) (defScope s_Log_chart) (.ref T25) kV25 dc25 pm25 an25 cd25 ct25), sl25⟩) (c25 : PySem.W.codeIn K cd25 "Log.chart" = true) (k25 : PySem.W.keepIn K (.ref f25) = true)
    (dt25 : K.lookup T25 = some ⟨oT25, pT25, .seq #[.int (999) u25_0] nT25, sT25⟩)
    (pg6 : PySem.W.plainGet K C6 Str.empty = true) (hd6 : PySem.W.hasDictIn K C6 = true) (po6 : PySem.W.plainOver K C6 = true) (sa6 : PySem.W.findIn K (.ref C6) "__setattr__" = some (some (.builtin "object.__setattr__"))) (mk6 : PySem.W.makesIn K C6 = true)
    (na6_0 : PySem.W.findIn K (.ref C6) "clock" = some none)
    (na6_1 : PySem.W.findIn K (.ref C6) "high" = some none)
    (na6_2 : PySem.W.findIn K (.ref C6) "wide" = some none)
    (na6_3 : PySem.W.findIn K (.ref C6) "kept" = some none)
    (na6_4 : PySem.W.findIn K (.ref C6) "next_number" = some none)
    (io6_0 : PySem.W.findIn K (.ref C6) "__class__" = some (some (.builtin "object.__class__")))
    (io6_1 : PySem.W.specialIn K (.builtin "object.__class__") "__get__" = some (some (.builtin "getset_descriptor.__get__")))
    (io6_2 : PySem.W.takesIn K (.builtin "object.__class__") = some true)
    (io6_3 : PySem.W.mroIn K C6 (.type "object") = some true)
    (io6_4 : PySem.W.kitOne K (.ref C6) (.ref C6) = some true)
    (io6_5 : PySem.W.kitOne K (.type "int") (.ref C6) = some false)
    (io6_6 : PySem.W.kitOne K (.type "list") (.ref C6) = some false)
    (q0 : PySem.W.nsIn K mainGlobals "LEAST_HOURS" = some (some (.int (3) t0)))
    (q1 : PySem.W.nsIn K mainGlobals "MOST_HOURS" = some (some (.int (15) t1)))
    (q2 : PySem.W.nsIn K mainGlobals "MOST_SQUARES" = some (some (.int (9) t2)))
    (q3 : PySem.W.nsIn K mainGlobals "LAND" = some (some (.int (-1) t3)))
    (q4 : PySem.W.nsIn K mainGlobals "UNTOLD" = some (some (.int (-2) t4)))
    (q5 : PySem.W.nsIn K mainGlobals "LAST_DAY" = some (some (.int (999) t5)))
    (q6 : PySem.W.nsIn K mainGlobals "MOST_ENTRIES" = some (some (.int (200) t6)))
    (z0 : PySem.W.nsIn K mainGlobals "isinstance" = some none)
    (z1 : PySem.W.nsIn K mainGlobals "len" = some none)
    (z2 : PySem.W.nsIn K mainGlobals "list" = some none)
    (z3 : PySem.W.nsIn K mainGlobals "range" = some none)
    (z4 : PySem.W.nsIn K mainGlobals "sorted" = some none)
    (z5 : PySem.W.nsIn K mainGlobals "str" = some none)
    (z6 : PySem.W.nsIn K mainGlobals "tuple" = some none)
    (ga0 : PySem.W.nsIn K mainGlobals "TideError" = some (some (.ref C0)))
    (gk0 : PySem.W.keepIn K (.ref C0) = true)
    (ga1 : PySem.W.nsIn K mainGlobals "BadClock" = some (some (.ref C1)))
    (gk1 : PySem.W.keepIn K (.ref C1) = true)
    (ga2 : PySem.W.nsIn K mainGlobals "BadHour" = some (some (.ref C2)))
    (gk2 : PySem.W.keepIn K (.ref C2) = true)
    (ga3 : PySem.W.nsIn K mainGlobals "BadSquare" = some (some (.ref C3)))
    (gk3 : PySem.W.keepIn K (.ref C3) = true)
    (ga4 : PySem.W.nsIn K mainGlobals "Full" = some (some (.ref C4)))
    (gk4 : PySem.W.keepIn K (.ref C4) = true)
    (ga5 : PySem.W.nsIn K mainGlobals "BadDay" = some (some (.ref C5)))
    (gk5 : PySem.W.keepIn K (.ref C5) = true)
    (ga6 : PySem.W.nsIn K mainGlobals "Log" = some (some (.ref C6)))
    (gk6 : PySem.W.keepIn K (.ref C6) = true)
    (te1 : PySem.W.subIn K (.ref C0) (.type "BaseException") = some true)
    (te2 : PySem.W.hasDictIn K C0 = true)
    (te3 : PySem.W.typeIn K (.ref C0) = some (.type "type"))
    (gx1 : PySem.W.excIn K C1 [.type "ValueError", .type "Exception", .type "BaseException", .type "object"] "ValueError.__new__" = true)
    (gs1 : PySem.W.subIn K (.ref C1) (.type "BaseException") = some true)
    (gt1 : PySem.W.typeIn K (.ref C1) = some (.type "type"))
    (gm1 : PySem.W.subIn K (.ref C1) (.ref C0) = some true)
    (gx2 : PySem.W.excIn K C2 [.type "ValueError", .type "Exception", .type "BaseException", .type "object"] "ValueError.__new__" = true)
    (gs2 : PySem.W.subIn K (.ref C2) (.type "BaseException") = some true)
    (gt2 : PySem.W.typeIn K (.ref C2) = some (.type "type"))
    (gm2 : PySem.W.subIn K (.ref C2) (.ref C0) = some true)
    (gx3 : PySem.W.excIn K C3 [.type "ValueError", .type "Exception", .type "BaseException", .type "object"] "ValueError.__new__" = true)
    (gs3 : PySem.W.subIn K (.ref C3) (.type "BaseException") = some true)
    (gt3 : PySem.W.typeIn K (.ref C3) = some (.type "type"))
    (gm3 : PySem.W.subIn K (.ref C3) (.ref C0) = some true)
    (gx4 : PySem.W.excIn K C4 [.type "ValueError", .type "Exception", .type "BaseException", .type "object"] "ValueError.__new__" = true)
    (gs4 : PySem.W.subIn K (.ref C4) (.type "BaseException") = some true)
    (gt4 : PySem.W.typeIn K (.ref C4) = some (.type "type"))
    (gm4 : PySem.W.subIn K (.ref C4) (.ref C0) = some true)
    (gx5 : PySem.W.excIn K C5 [.type "ValueError", .type "Exception", .type "BaseException", .type "object"] "ValueError.__new__" = true)
    (gs5 : PySem.W.subIn K (.ref C5) (.type "BaseException") = some true)
    (gt5 : PySem.W.typeIn K (.ref C5) = some (.type "type"))
    (gm5 : PySem.W.subIn K (.ref C5) (.ref C0) = some true)
    (hT0 : h.get? PO0 = some { cls := .none, data := .fields #[] }) (nT0 : K.lookup PO0 = none) (cH0 : PySem.W.codeHdIn K cO0 PO0 = true)
    (tnd : ([PO0] : List Addr).Nodup) :
    LamX.LawAtS l w K CX0 15 63 "_law_script" mg fa h := by
  have e := hfa.symm.trans (PySem.W.mg_of X G a15)
  cases e
  have F23 : FunD K "add" "Log.add" (defArgs s_Log_add) (defBody s_Log_add) (defScope s_Log_add) [.int (0)] [] f23 _ := ⟨⟨_, _, _, _, _, _, _, _, _, _, rfl, l23, c23, .inr ⟨(by simp), T23, _, [.int (0) u23_0], _, rfl, dt23, rfl, (.cons ⟨_, rfl⟩ .nil)⟩, .inl rfl⟩, k23⟩
  have B23 := bindsAll F23 (ps := ["self", "row", "column", "one", "day"]) 5 (by simp) (by rfl) fun _ _ _ _ _ _ _ us its hl hi => match us, its, hl, hi with | [_, _, _, _, _], [_], _, _ => ⟨_, rfl, rfl⟩
  have F25 : FunD K "chart" "Log.chart" (defArgs s_Log_chart) (defBody s_Log_chart) (defScope s_Log_chart) [.int (999)] [] f25 _ := ⟨⟨_, _, _, _, _, _, _, _, _, _, rfl, l25, c25, .inr ⟨(by simp), T25, _, [.int (999) u25_0], _, rfl, dt25, rfl, (.cons ⟨_, rfl⟩ .nil)⟩, .inl rfl⟩, k25⟩
  have B25 := bindsAll F25 (ps := ["self", "day"]) 2 (by simp) (by rfl) fun _ _ _ _ _ _ _ us its hl hi => match us, its, hl, hi with | [_, _], [_], _, _ => ⟨_, rfl, rfl⟩
  obtain ⟨ds25_1, vd25_1, bd25_1⟩ := F25.binds1 (ps := ["self", "day"]) 1 0 (by simp) (by rfl) (fun T kV doc pm an cdv ct us its hu hi => match us, its, hu, hi with | [_], [_], _, _ => ⟨_, rfl, rfl⟩)
  have all : ∀ (P : Addr × Addr → Prop), P (cO0, PO0) → ∀ p ∈ ([(cO0, PO0)] : List (Addr × Addr)), P p := fun P h0 p hp => by
    simp only [List.mem_cons, List.not_mem_nil, or_false] at hp
    rcases hp with rfl <;> assumption
  refine ⟨_, [(cO0, PO0)], spLawT K [PO0], all _ hT0, all _ nT0, all _ (PySem.W.codeHd_of_K X cH0), fun s v => ?_, fun H a ns hl _ hH hS => ⟨a, ns, rfl, hS, hl, fun p hp => ?_, fun _ => rfl⟩, fun base _ _ hB => ok_law (T := ⟨C6, ⟨pg6, hd6, po6, sa6⟩, na6_0, na6_1, na6_2, na6_3, na6_4, ⟨io6_0, io6_1, io6_2, io6_3, io6_4, io6_5, io6_6⟩,
    _, _, fun_mk (st := s_wall) l0 c0 k0, PySem.W.mg_of X G a0, (fun_mk (st := s_wall) l0 c0 k0).binds fun _ _ _ _ _ _ us hl => match us, hl with | [_], _ => rfl,
    _, _, fun_mk (st := s_is_clock) l1 c1 k1, PySem.W.mg_of X G a1, (fun_mk (st := s_is_clock) l1 c1 k1).binds fun _ _ _ _ _ _ us hl => match us, hl with | [_], _ => rfl,
    _, _, fun_mk (st := s_need_clock) l2 c2 k2, PySem.W.mg_of X G a2, (fun_mk (st := s_need_clock) l2 c2 k2).binds fun _ _ _ _ _ _ us hl => match us, hl with | [_], _ => rfl,
    _, _, fun_mk (st := s_is_what) l3 c3 k3, PySem.W.mg_of X G a3, (fun_mk (st := s_is_what) l3 c3 k3).binds fun _ _ _ _ _ _ us hl => match us, hl with | [_, _], _ => rfl,
    _, _, fun_mk (st := s_what_text) l4 c4 k4, PySem.W.mg_of X G a4, (fun_mk (st := s_what_text) l4 c4 k4).binds fun _ _ _ _ _ _ us hl => match us, hl with | [_], _ => rfl,
    _, _, fun_mk (st := s_need_day) l5 c5 k5, PySem.W.mg_of X G a5, (fun_mk (st := s_need_day) l5 c5 k5).binds fun _ _ _ _ _ _ us hl => match us, hl with | [_], _ => rfl,
    _, _, fun_mk (st := s_need_what) l6 c6 k6, PySem.W.mg_of X G a6, (fun_mk (st := s_need_what) l6 c6 k6).binds fun _ _ _ _ _ _ us hl => match us, hl with | [_, _], _ => rfl,
    _, _, fun_mk (st := s_law_box) l7 c7 k7, PySem.W.mg_of X G a7, (fun_mk (st := s_law_box) l7 c7 k7).binds fun _ _ _ _ _ _ us hl => match us, hl with | [_], _ => rfl,
    _, _, fun_mk (st := s_law_mixed) l8 c8 k8, PySem.W.mg_of X G a8, (fun_mk (st := s_law_mixed) l8 c8 k8).binds fun _ _ _ _ _ _ us hl => match us, hl with | [_, _], _ => rfl,
    _, _, fun_mk (st := s_law_take) l9 c9 k9, PySem.W.mg_of X G a9, (fun_mk (st := s_law_take) l9 c9 k9).binds fun _ _ _ _ _ _ us hl => match us, hl with | [_, _], _ => rfl,
    _, _, fun_mk (st := s_law_clock) l10 c10 k10, PySem.W.mg_of X G a10, (fun_mk (st := s_law_clock) l10 c10 k10).binds fun _ _ _ _ _ _ us hl => match us, hl with | [_], _ => rfl,
    _, _, fun_mk (st := s_law_what) l11 c11 k11, PySem.W.mg_of X G a11, (fun_mk (st := s_law_what) l11 c11 k11).binds fun _ _ _ _ _ _ us hl => match us, hl with | [_, _], _ => rfl,
    _, _, fun_mk (st := s_law_day) l12 c12 k12, PySem.W.mg_of X G a12, (fun_mk (st := s_law_day) l12 c12 k12).binds fun _ _ _ _ _ _ us hl => match us, hl with | [_], _ => rfl,
    _, _, fun_mk (st := s_law_one) l13 c13 k13, PySem.W.mg_of X G a13, (fun_mk (st := s_law_one) l13 c13 k13).binds fun _ _ _ _ _ _ us hl => match us, hl with | [_, _], _ => rfl,
    _, _, fun_mk (st := s_law_shuffled) l14 c14 k14, PySem.W.mg_of X G a14, (fun_mk (st := s_law_shuffled) l14 c14 k14).binds fun _ _ _ _ _ _ us hl => match us, hl with | [_, _], _ => rfl,
    _, _, fun_mk (st := s_law) l15 c15 k15, PySem.W.mg_of X G a15, (fun_mk (st := s_law) l15 c15 k15).binds fun _ _ _ _ _ _ us hl => match us, hl with | [_], _ => rfl,
    _, _, fun_mk (st := s_Log_init) l16 c16 k16, ⟨a16, i16, k16⟩, ⟨mk6, a16, i16, gk6⟩, (fun_mk (st := s_Log_init) l16 c16 k16).binds fun _ _ _ _ _ _ us hl => match us, hl with | [_, _, _, _], _ => rfl,
    _, _, fun_mk (st := s_Log_len) l17 c17 k17, ⟨a17, i17, k17⟩, (fun_mk (st := s_Log_len) l17 c17 k17).binds fun _ _ _ _ _ _ us hl => match us, hl with | [_], _ => rfl,
    _, _, fun_mk (st := s_Log_eq) l18 c18 k18, ⟨a18, i18, k18⟩, (fun_mk (st := s_Log_eq) l18 c18 k18).binds fun _ _ _ _ _ _ us hl => match us, hl with | [_, _], _ => rfl,
    _, _, fun_mk (st := s_Log_str) l19 c19 k19, ⟨a19, i19, k19⟩, (fun_mk (st := s_Log_str) l19 c19 k19).binds fun _ _ _ _ _ _ us hl => match us, hl with | [_], _ => rfl,
    _, _, fun_mk (st := s_Log_repr) l20 c20 k20, ⟨a20, i20, k20⟩, (fun_mk (st := s_Log_repr) l20 c20 k20).binds fun _ _ _ _ _ _ us hl => match us, hl with | [_], _ => rfl,
    _, _, fun_mk (st := s_Log_likeness) l21 c21 k21, ⟨a21, i21, k21⟩, (fun_mk (st := s_Log_likeness) l21 c21 k21).binds fun _ _ _ _ _ _ us hl => match us, hl with | [_], _ => rfl,
    _, _, fun_mk (st := s_Log_entry_texts) l22 c22 k22, ⟨a22, i22, k22⟩, (fun_mk (st := s_Log_entry_texts) l22 c22 k22).binds fun _ _ _ _ _ _ us hl => match us, hl with | [_], _ => rfl,
    _, _, F23, ⟨a23, i23, k23⟩, B23,
    _, _, cO0, PO0, ⟨⟨_, _, _, _, _, _, _, _, rfl, l24, c24⟩, k24⟩, hB (cO0, PO0) (List.Mem.head _), ⟨a24, i24, k24⟩, (fun_mk (st := s_Log_entries) l24 c24 k24).binds fun _ _ _ _ _ _ us hl => match us, hl with | [_], _ => rfl,
    _, _, F25, ⟨a25, i25, k25⟩, B25,
    _, vd25_1, bd25_1,
    t0, PySem.W.mg_of X G q0,
    t1, PySem.W.mg_of X G q1,
    t2, PySem.W.mg_of X G q2,
    t3, PySem.W.mg_of X G q3,
    t4, PySem.W.mg_of X G q4,
    t5, PySem.W.mg_of X G q5,
    t6, PySem.W.mg_of X G q6,
    PySem.W.mg_none_of X G z0,
    PySem.W.mg_none_of X G z1,
    PySem.W.mg_none_of X G z2,
    PySem.W.mg_none_of X G z3,
    PySem.W.mg_none_of X G z4,
    PySem.W.mg_none_of X G z5,
    PySem.W.mg_none_of X G z6,
    C0,
    C1,
    C2,
    C3,
    C4,
    C5,
    ⟨PySem.W.mg_of X G ga0, gk0⟩,
    ⟨PySem.W.mg_of X G ga1, gk1⟩,
    ⟨PySem.W.mg_of X G ga2, gk2⟩,
    ⟨PySem.W.mg_of X G ga3, gk3⟩,
    ⟨PySem.W.mg_of X G ga4, gk4⟩,
    ⟨PySem.W.mg_of X G ga5, gk5⟩,
    ⟨PySem.W.mg_of X G ga6, gk6⟩,
    ⟨⟨PySem.W.mg_of X G ga1, gk1⟩, gx1, gs1, gt1⟩,
    PySem.W.exm_ref te1 te2 te3 gm1,
    ⟨⟨PySem.W.mg_of X G ga2, gk2⟩, gx2, gs2, gt2⟩,
    PySem.W.exm_ref te1 te2 te3 gm2,
    ⟨⟨PySem.W.mg_of X G ga3, gk3⟩, gx3, gs3, gt3⟩,
    PySem.W.exm_ref te1 te2 te3 gm3,
    ⟨⟨PySem.W.mg_of X G ga4, gk4⟩, gx4, gs4, gt4⟩,
    PySem.W.exm_ref te1 te2 te3 gm4,
    ⟨⟨PySem.W.mg_of X G ga5, gk5⟩, gx5, gs5, gt5⟩,
    PySem.W.exm_ref te1 te2 te3 gm5,
    tnd⟩)⟩
  · exact .of_eq rfl
  · simp only [List.mem_cons, List.not_mem_nil, or_false] at hp
    have e := hp
    · rw [e]; exact hH (cO0, PO0) (List.Mem.head _)
end C_k35
open PySem PySem.W PyProof.Rows
set_option maxHeartbeats 0 in
theorem PySem.Challenge.cw_cotide_k35_whole_entries_in_any_order_holds : PySem.Challenge.rw_cotide_k35_whole_entries_in_any_order.Holds := by
  w_on; o_law; k_head; (case hw => w_witness2)
  k_fill
  refine LamX.walk_ofTs (l := PySem.Challenge.rw_cotide_k35_whole_entries_in_any_order) (n := 63) (k := 15) (x := "_law_script") (CX := fun _ => L2.CX0) rfl (by decide) rfl ⟨rfl, by decide, by decide⟩ (fun w h Y => PySem.W.km_in_of Y) ?F (fun _ _ _ _ _ h => h)
  case F =>
    intro w mg fa h Y KX G hmg
    have hT := PySem.W.km_tabs_of Y
    refine' C_k35.all_mk KX G hmg ?a0 ?l0 ?c0 ?k0 ?a1 ?l1 ?c1 ?k1 ?a2 ?l2 ?c2 ?k2 ?a3 ?l3 ?c3 ?k3 ?a4 ?l4 ?c4 ?k4 ?a5 ?l5 ?c5 ?k5 ?a6 ?l6 ?c6 ?k6 ?a7 ?l7 ?c7 ?k7 ?a8 ?l8 ?c8 ?k8 ?a9 ?l9 ?c9 ?k9 ?a10 ?l10 ?c10 ?k10 ?a11 ?l11 ?c11 ?k11 ?a12 ?l12 ?c12 ?k12 ?a13 ?l13 ?c13 ?k13 ?a14 ?l14 ?c14 ?k14 ?a15 ?l15 ?c15 ?k15 ?i16 ?a16 ?l16 ?c16 ?k16 ?i17 ?a17 ?l17 ?c17 ?k17 ?i18 ?a18 ?l18 ?c18 ?k18 ?i19 ?a19 ?l19 ?c19 ?k19 ?i20 ?a20 ?l20 ?c20 ?k20 ?i21 ?a21 ?l21 ?c21 ?k21 ?i22 ?a22 ?l22 ?c22 ?k22 ?i23 ?a23 ?l23 ?c23 ?k23 ?dt23 ?i24 ?a24 ?l24 ?c24 ?k24 ?i25 ?a25 ?l25 ?c25 ?k25 ?dt25 ?pg6 ?hd6 ?po6 ?sa6 ?mk6 ?na6_0 ?na6_1 ?na6_2 ?na6_3 ?na6_4 ?io6_0 ?io6_1 ?io6_2 ?io6_3 ?io6_4 ?io6_5 ?io6_6 ?q0 ?q1 ?q2 ?q3 ?q4 ?q5 ?q6 ?z0 ?z1 ?z2 ?z3 ?z4 ?z5 ?z6 ?ga0 ?gk0 ?ga1 ?gk1 ?ga2 ?gk2 ?ga3 ?gk3 ?ga4 ?gk4 ?ga5 ?gk5 ?ga6 ?gk6 ?te1 ?te2 ?te3 ?gx1 ?gs1 ?gt1 ?gm1 ?gx2 ?gs2 ?gt2 ?gm2 ?gx3 ?gs3 ?gt3 ?gm3 ?gx4 ?gs4 ?gt4 ?gm4 ?gx5 ?gs5 ?gt5 ?gm5 (hT _ List.mem_cons_self) ?nT0 ?cH0 ?tnd
    (case ga0 => k_is); (case ga1 => k_is); (case ga2 => k_is); (case ga3 => k_is); (case ga4 => k_is); (case ga5 => k_is); (case ga6 => k_is); (case a0 => k_is); (case l0 => k_is); (case c0 => k_is); (case k0 => k_is); (case a1 => k_is); (case l1 => k_is); (case c1 => k_is); (case k1 => k_is); (case a2 => k_is); (case l2 => k_is); (case c2 => k_is); (case k2 => k_is); (case a3 => k_is); (case l3 => k_is); (case c3 => k_is); (case k3 => k_is); (case a4 => k_is); (case l4 => k_is); (case c4 => k_is); (case k4 => k_is); (case a5 => k_is); (case l5 => k_is); (case c5 => k_is); (case k5 => k_is); (case a6 => k_is); (case l6 => k_is); (case c6 => k_is); (case k6 => k_is); (case a7 => k_is); (case l7 => k_is); (case c7 => k_is); (case k7 => k_is); (case a8 => k_is); (case l8 => k_is); (case c8 => k_is); (case k8 => k_is); (case a9 => k_is); (case l9 => k_is); (case c9 => k_is); (case k9 => k_is); (case a10 => k_is); (case l10 => k_is); (case c10 => k_is); (case k10 => k_is); (case a11 => k_is); (case l11 => k_is); (case c11 => k_is); (case k11 => k_is); (case a12 => k_is); (case l12 => k_is); (case c12 => k_is); (case k12 => k_is); (case a13 => k_is); (case l13 => k_is); (case c13 => k_is); (case k13 => k_is); (case a14 => k_is); (case l14 => k_is); (case c14 => k_is); (case k14 => k_is); (case a15 => k_is); (case l15 => k_is); (case c15 => k_is); (case k15 => k_is); (case i16 => k_is); (case a16 => k_is); (case l16 => k_is); (case c16 => k_is); (case k16 => k_is); (case i17 => k_is); (case a17 => k_is); (case l17 => k_is); (case c17 => k_is); (case k17 => k_is); (case i18 => k_is); (case a18 => k_is); (case l18 => k_is); (case c18 => k_is); (case k18 => k_is); (case i19 => k_is); (case a19 => k_is); (case l19 => k_is); (case c19 => k_is); (case k19 => k_is); (case i20 => k_is); (case a20 => k_is); (case l20 => k_is); (case c20 => k_is); (case k20 => k_is); (case i21 => k_is); (case a21 => k_is); (case l21 => k_is); (case c21 => k_is); (case k21 => k_is); (case i22 => k_is); (case a22 => k_is); (case l22 => k_is); (case c22 => k_is); (case k22 => k_is); (case i23 => k_is); (case a23 => k_is); (case l23 => k_is); (case c23 => k_is); (case k23 => k_is); (case dt23 => k_is); (case i24 => k_is); (case a24 => k_is); (case l24 => k_is); (case c24 => k_is); (case k24 => k_is); (case i25 => k_is); (case a25 => k_is); (case l25 => k_is); (case c25 => k_is); (case k25 => k_is); (case dt25 => k_is); (case pg6 => k_is); (case hd6 => k_is); (case po6 => k_is); (case sa6 => k_is); (case mk6 => k_is); (case na6_0 => k_is); (case na6_1 => k_is); (case na6_2 => k_is); (case na6_3 => k_is); (case na6_4 => k_is); (case io6_0 => k_is); (case io6_1 => k_is); (case io6_2 => k_is); (case io6_3 => k_is); (case io6_4 => kit_is); (case io6_5 => kit_is); (case io6_6 => kit_is); (case q0 => k_is); (case q1 => k_is); (case q2 => k_is); (case q3 => k_is); (case q4 => k_is); (case q5 => k_is); (case q6 => k_is); (case z0 => k_is); (case z1 => k_is); (case z2 => k_is); (case z3 => k_is); (case z4 => k_is); (case z5 => k_is); (case z6 => k_is); (case gk0 => k_is); (case gk1 => k_is); (case gk2 => k_is); (case gk3 => k_is); (case gk4 => k_is); (case gk5 => k_is); (case gk6 => k_is); (case te1 => k_is); (case te2 => k_is); (case te3 => k_is); (case gx1 => k_exc); (case gs1 => k_is); (case gt1 => k_is); (case gm1 => k_is); (case gx2 => k_exc); (case gs2 => k_is); (case gt2 => k_is); (case gm2 => k_is); (case gx3 => k_exc); (case gs3 => k_is); (case gt3 => k_is); (case gm3 => k_is); (case gx4 => k_exc); (case gs4 => k_is); (case gt4 => k_is); (case gm4 => k_is); (case gx5 => k_exc); (case gs5 => k_is); (case gt5 => k_is); (case gm5 => k_is); (case nT0 => kernel_rfl); (case cH0 => kernel_rfl); (case tnd => decide)
