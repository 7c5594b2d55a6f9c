import PyProof.Rows.All
import Wide.All
import OpenK.AllK
import Wide.FinOn
import HandS.Defaults
import KE.RegKIsAll
import KE.KLam
import KE.KNestM
import HandS.EndTab
import HandS.ForMost
import HandS.Evl
import HandS.IsInst
import HandS.Wide
import HandS.Zip
import HandS.Walk
import HandS.Style
import HandS.TupAny
import HandS.TupMul
import HandS.Sort
import KE.GoesMore
import HandS.HotCalls
import HandS.Lambda
import HandS.ExcCtx
import HandS.ExcIs
import HandS.Text
import HandS.TupSets
import HandS.TupLen
import KE.KDictDisplayH
import HandS.SortInts
import HandS.DictComp
import HandS.Conv
import HandS.SortOrd
import HandS.SortRule
import HandS.Deep
import KE.KDictSum
import KE.KeyNested
import KE.KDictWalk
import KE.KDictList
import KE.GoesZip
import HandS.TryOnly
import HandS.ExcInit
import HandS.ExcField
import HandS.FStr
import HandS.Iter
import KE.DataMinMax
import HandS.Replace
import HandS.RaiseMore
import HandS.More
import HandS.HeadHook3
import HandS.Star
import PyProof.DictUpdate
import KE.SortKeyHeap
import KE.SortLaws
import KE.SortData
import OpenK.KOps
import HandS.WordsDict
import HandS.SlotsOwn
import PyProof.CallStr
import PyProof.InstEq
import PyProof.ExcBaseAll.LookupError
import PyProof.InstStoreFacts
import PyProof.DictDisplay
import HandS.CallLocal
import HandS.SetFor
import HandS.Strs
import HandS.SetBool
import KE.KEqDict
import HandS.Set
import HandS.MakeKwOnly
import KE.GoesEnumKw
import HandS.RaiseFrom
import HandS.ExcInitHot
import HandS.SuiteRaise
import HandS.CallSlots
import PySem.Challenge.RW_cotide_k44_charts_refused_at_every_door
set_option Elab.async false
set_option linter.all false
set_option maxRecDepth 100000
set_option maxHeartbeats 4000000
set_option Elab.async false
set_option linter.all false
set_option maxRecDepth 100000
set_option maxHeartbeats 4000000
namespace Cot
open PySem L2 Evl
section
variable {K : PySem.W.Frag} {H H' Hd Hn H1 H2 Hm : Hp}
mutual
theorem dp_mono (e : Ex H H') : ∀ (d : PyData) {v : V}, Dp K H v d → Dp K H' v d
  | .none, _, h => by cases h; exact .non
  | .bool b, _, h => by cases h; exact .bl b
  | .int i, _, h => by cases h; exact .int i
  | .str x, _, h => by cases h; exact .str x
  | .list ds, _, h => by
    cases h with
    | lst hs ha => exact .lst (ex_l e hs) (dpa_mono e ds ha)
  | .tuple ds, _, h => by
    cases h with
    | tup hs ha => exact .tup (ex_t e hs) (dpa_mono e ds ha)
  | .dict _, _, h => by cases h
theorem dpa_mono (e : Ex H H') : ∀ (ds : List PyData) {vs : List V}, DpAll K H vs ds → DpAll K H' vs ds
  | [], _, h => by cases h; exact .nil
  | d :: ds, _, h => by
    cases h with
    | cons h1 h2 => exact .cons (dp_mono e d h1) (dpa_mono e ds h2)
end
theorem dpa_len : ∀ {vs : List V} {ds : List PyData}, DpAll K H vs ds → vs.length = ds.length
  | _, [], h => by cases h; rfl
  | _, d :: ds, h => by
    cases h with
    | cons h1 h2 => rw [List.length_cons, List.length_cons, dpa_len h2]
theorem dpa_get : ∀ {ds : List PyData} {vs : List V} {i : Nat} {d : PyData}, DpAll K H vs ds → ds[i]? = some d → ∃ v, vs[i]? = some v ∧ Dp K H v d
  | [], _, i, d, h, e => by simp at e
  | d0 :: ds, _, 0, d, h, e => by
    cases h with
    | cons h1 h2 =>
      have e' : d0 = d := Option.some.inj e
      subst e'
      exact ⟨_, rfl, h1⟩
  | d0 :: ds, _, i + 1, d, h, e => by
    cases h with
    | cons h1 h2 =>
      obtain ⟨v, q1, q2⟩ := dpa_get (i := i) h2 (by simpa using e)
      exact ⟨v, by simpa using q1, q2⟩
theorem dpa_get2 : ∀ {ds : List PyData} {vs : List V} {i : Nat} {v : V}, DpAll K H vs ds → vs[i]? = some v → ∃ d, ds[i]? = some d ∧ Dp K H v d
  | [], _, i, d, h, e => by cases h; simp at e
  | d0 :: ds, _, 0, v, h, e => by
    cases h with
    | cons h1 h2 =>
      have e' := Option.some.inj e
      subst e'
      exact ⟨_, rfl, h1⟩
  | d0 :: ds, _, i + 1, v, h, e => by
    cases h with
    | cons h1 h2 =>
      obtain ⟨v, q1, q2⟩ := dpa_get2 (i := i) h2 (by simpa using e)
      exact ⟨v, by simpa using q1, q2⟩
theorem dpa_at {ds : List PyData} {vs : List V} {i : Int} {d : PyData} (h : DpAll K H vs ds) (e : atI ds i = some d) : ∃ v, atI vs i = some v ∧ Dp K H v d := by
  unfold atI at e ⊢
  rw [dpa_len h]
  cases hx : ixN ds.length i with
  | none => rw [hx] at e; cases e
  | some j =>
    rw [hx] at e
    exact dpa_get h e
theorem dpa_app : ∀ {ds es : List PyData} {vs ws : List V}, DpAll K H vs ds → DpAll K H ws es → DpAll K H (vs ++ ws) (ds ++ es)
  | [], _, _, _, h, h2 => by cases h; exact h2
  | d :: ds, es, _, ws, h, h2 => by
    cases h with
    | cons a b => exact .cons a (dpa_app b h2)
theorem dpa_take : ∀ (n : Nat) {ds : List PyData} {vs : List V}, DpAll K H vs ds → DpAll K H (vs.take n) (ds.take n)
  | 0, _, _, _ => by rw [List.take_zero, List.take_zero]; exact .nil
  | n + 1, [], _, h => by cases h; exact .nil
  | n + 1, d :: ds, _, h => by
    cases h with
    | cons a b => exact .cons a (dpa_take n b)
theorem dpa_drop : ∀ (n : Nat) {ds : List PyData} {vs : List V}, DpAll K H vs ds → DpAll K H (vs.drop n) (ds.drop n)
  | 0, _, _, h => h
  | n + 1, [], _, h => by cases h; exact .nil
  | n + 1, d :: ds, _, h => by
    cases h with
    | cons a b => exact dpa_drop n b
theorem dpa_ints : ∀ (ns : List Int), DpAll K H (ns.map V.int) (ns.map PyData.int)
  | [] => .nil
  | n :: ns => .cons (.int n) (dpa_ints ns)
theorem dpa_ints_inv : ∀ {ns : List Int} {vs : List V}, DpAll K H vs (ns.map PyData.int) → vs = ns.map V.int
  | [], _, h => by cases h; rfl
  | n :: ns, _, h => by
    cases h with
    | cons a b =>
      cases a
      rw [dpa_ints_inv b]
      rfl
theorem dpa_bools_inv : ∀ {ns : List Bool} {vs : List V}, DpAll K H vs (ns.map PyData.bool) → vs = ns.map V.bl
  | [], _, h => by cases h; rfl
  | n :: ns, _, h => by
    cases h with
    | cons a b =>
      cases a
      rw [dpa_bools_inv b]
      rfl
/-- Hd grows to Hn by new places alone, H to H2 -/
structure Gr (Hd H Hn H2 : Hp) : Prop where
  ex : Ex H H2
  dx : Ex Hd Hn
  sub : Ex Hn H2
  fr : ∀ a o, H a = some o → Hd a = none → Hn a = none
theorem Gr.refl (s : Ex Hd H) : Gr Hd H Hd H := ⟨Ex.refl _, Ex.refl _, s, fun _ _ _ h => h⟩
theorem Gr.trans (g1 : Gr Hd H Hn H1) (g2 : Gr Hn H1 Hm H2) : Gr Hd H Hm H2 := ⟨g1.ex.trans g2.ex, g1.dx.trans g2.dx, g2.sub, fun a o ha hd => g2.fr a o (g1.ex a o ha) (g1.fr a o ha hd)⟩
theorem Gr.ext (s : Ex Hd H) (e : Ex H H2) : Gr Hd H Hd H2 := ⟨e, Ex.refl _, s.trans e, fun _ _ _ h => h⟩
theorem Gr.pre (e : Ex H H1) (g : Gr Hd H1 Hn H2) : Gr Hd H Hn H2 := ⟨e.trans g.ex, g.dx, g.sub, fun a o ha hd => g.fr a o (e a o ha) hd⟩
theorem Gr.post (g : Gr Hd H Hn H1) (e : Ex H1 H2) : Gr Hd H Hn H2 := ⟨g.ex.trans e, g.dx, g.sub.trans e, g.fr⟩
theorem ex_upd2 {p : Addr} {o : HO} (s : Ex Hd H) : Ex (upd Hd p o) (upd H p o) := fun a u h => by
  by_cases e : a = p
  · subst e
    rw [upd_same] at h ⊢
    exact h
  · rw [upd_ne e] at h ⊢
    exact s a u h
theorem Gr.new {p : Addr} {o : HO} (s : Ex Hd H) (h : H p = none) : Gr Hd H (upd Hd p o) (upd H p o) :=
  ⟨Ex.new h, Ex.new (fresh_back s h), ex_upd2 s, fun a u ha hd => by rw [upd_ne (ne_of_none ha h)]; exact hd⟩
/-- a new place that is no data -/
theorem Gr.alloc {p : Addr} {o : HO} (s : Ex Hd H) (h : H p = none) : Gr Hd H Hd (upd H p o) := Gr.ext s (Ex.new h)
def un (A B : Hp) : Hp := fun a => match A a with | some o => some o | none => B a
theorem un_l {A B : Hp} : Ex A (un A B) := fun a o h => by unfold un; rw [h]
theorem un_r {A B C : Hp} (a : Ex A C) (b : Ex B C) : Ex B (un A B) := fun x o h => by
  unfold un
  cases hA : A x with
  | none => exact h
  | some u =>
    have h1 := a x u hA
    rw [b x o h] at h1
    exact h1.symm
theorem un_sub {A B C : Hp} (a : Ex A C) (b : Ex B C) : Ex (un A B) C := fun x o h => by
  unfold un at h
  cases hA : A x with
  | none => rw [hA] at h; exact b x o h
  | some u => rw [hA] at h; exact a x o (hA.trans h)
theorem Gr.up {Hd' : Hp} (e : Ex Hd Hd') (s : Ex Hd' H) (g : Gr Hd H Hn H2) : Gr Hd' H (un Hd' Hn) H2 :=
  ⟨g.ex, un_l, un_sub (s.trans g.ex) g.sub, fun a o ha hd => by
    unfold un
    rw [hd]
    exact g.fr a o ha (fresh_back e hd)⟩
theorem Gr.upr {Hd' : Hp} (e : Ex Hd Hd') (s : Ex Hd' H) (g : Gr Hd H Hn H2) : Ex Hn (un Hd' Hn) := un_r (s.trans g.ex) g.sub
def EvD (K : PySem.W.Frag) (te : TE) (σ : L2.St) (Hd : Hp) (d : PyData) : Prop := ∀ H, Ex Hd H → ∀ Q : VK, (∀ v H2 Hn, Gr Hd H Hn H2 → Dp K Hn v d → Q v H2) → te σ H Q
def EvDA (K : PySem.W.Frag) (ta : TA) (σ : L2.St) (Hd : Hp) (ds : List PyData) : Prop := ∀ H, Ex Hd H → ∀ Q : List V → Hp → Prop, (∀ vs H2 Hn, Gr Hd H Hn H2 → DpAll K Hn vs ds → Q vs H2) → ta σ H Q
/-- a new list -/
def EvN (K : PySem.W.Frag) (te : TE) (σ : L2.St) (Hd : Hp) (ds : List PyData) : Prop := ∀ H, Ex Hd H → ∀ Q : VK, (∀ p xs H2 Hn, Gr Hd H Hn H2 → H p = none → Hn p = none → H2 p = some (.lst xs) → DpAll K Hn xs ds → Q (.ref p) H2) → te σ H Q
end
section
variable {K : PySem.W.Frag} {σ : L2.St} {H H' Hd Hd' Hn H1 H2 : Hp} {ta tb te tx : TE} {t u : TT} {x y z v : V} {r : R2} {d : PyData} {ds : List PyData} {tr : TA}
theorem EvD.mono (e : Ex Hd Hd') (h : EvD K te σ Hd d) : EvD K te σ Hd' d := fun H s Q q => h H (e.trans s) Q fun v H2 Hn g hd => q v H2 _ (g.up e s) (dp_mono (g.upr e s) d hd)
theorem EvDA.mono (e : Ex Hd Hd') (h : EvDA K tr σ Hd ds) : EvDA K tr σ Hd' ds := fun H s Q q => h H (e.trans s) Q fun v H2 Hn g hd => q v H2 _ (g.up e s) (dpa_mono (g.upr e s) ds hd)
theorem EvN.mono (e : Ex Hd Hd') (h : EvN K te σ Hd ds) : EvN K te σ Hd' ds := fun H s Q q => h H (e.trans s) Q fun p xs H2 Hn g hp hn h2 hd => q p xs H2 _ (g.up e s) hp (by
  unfold un
  rw [fresh_back s hp]
  exact hn) h2 (dpa_mono (g.upr e s) ds hd)
theorem ed_ev (h : Ev te σ Hd v) (hd : Dp K Hd v d) : EvD K te σ Hd d := fun H s Q q => h H s Q fun H2 e => q v H2 Hd (Gr.ext s e) hd
theorem ed_var {i : Nat} (h : σ[i]? = some (some v)) (hd : Dp K Hd v d) : EvD K (tVar i) σ Hd d := ed_ev (ev_var h) hd
theorem ev_int {i : Int} (h : EvD K te σ Hd (.int i)) : Ev te σ Hd (.int i) := fun H s Q q => h H s Q fun v H2 Hn g hd => by cases hd; exact q H2 g.ex
theorem ed_int {i : Int} (h : Ev te σ Hd (.int i)) : EvD K te σ Hd (.int i) := ed_ev h (.int i)
theorem ed_bool {i : Bool} (h : Ev te σ Hd (.bl i)) : EvD K te σ Hd (.bool i) := ed_ev h (.bl i)
theorem ed_str {i : Str} (h : Ev te σ Hd (.str i)) : EvD K te σ Hd (.str i) := ed_ev h (.str i)
theorem ed_non (h : Ev te σ Hd .non) : EvD K te σ Hd .none := ed_ev h .non
theorem eda_nil : EvDA K tNil σ Hd [] := fun H s _ q => q [] H Hd (Gr.refl s) .nil
theorem eda_cons (h : EvD K ta σ Hd d) (hr : EvDA K tr σ Hd ds) : EvDA K (tCons ta tr) σ Hd (d :: ds) := fun H s _ q =>
  h H s _ fun v H1 Hn g hd => hr.mono g.dx H1 g.sub _ fun vs H2 Hm g2 hds => q (v :: vs) H2 Hm (g.trans g2) (.cons (dp_mono g2.dx d hd) hds)
theorem ed_tup (h : EvDA K tr σ Hd ds) (hl : ds.length ≤ 100000) : EvD K (tTup tr) σ Hd (.tuple ds) := fun H s _ q =>
  h H s _ fun vs H1 Hn g hd => ⟨sz_of (by rw [dpa_len hd]; exact hl), fun p hp => q (.ref p) _ _ (g.trans (Gr.new g.sub hp)) (.tup (st_of upd_same) (dpa_mono (Ex.new (fresh_back g.sub hp)) ds hd))⟩
theorem en_lst (h : EvDA K tr σ Hd ds) (hl : ds.length ≤ 100000) : EvN K (tLst tr) σ Hd ds := fun H s _ q =>
  h H s _ fun vs H1 Hn g hd => ⟨sz_of (by rw [dpa_len hd]; exact hl), fun p hp => q p vs _ Hn (g.trans (Gr.alloc g.sub hp)) (fresh_back g.ex hp) (fresh_back g.sub hp) upd_same hd⟩
theorem ed_new (h : EvN K te σ Hd ds) : EvD K te σ Hd (.list ds) := fun H s _ q =>
  h H s _ fun p xs H2 Hn g hp hn h2 hd => q (.ref p) H2 (upd Hn p (.lst xs)) ⟨g.ex, g.dx.trans (Ex.new hn), fun a o ha => by
    by_cases e : a = p
    · subst e
      rw [upd_same] at ha
      exact h2.trans ha
    · rw [upd_ne e] at ha
      exact g.sub a o ha, fun a o ha hda => by
    rw [upd_ne (ne_of_none ha hp)]
    exact g.fr a o ha hda⟩ (.lst (sq_of upd_same) (dpa_mono (Ex.new hn) ds hd))
theorem ed_ixT {i : Int} (ha : EvD K ta σ Hd (.tuple ds)) (hi : Ev tb σ Hd (.int i)) (he : atI ds i = some d) : EvD K (tOp (rIxT K) ta tb) σ Hd d := fun H s Q q =>
  ha H s _ fun v H1 Hn g hd => hi.mono g.dx H1 g.sub _ fun H2 e2 => by
    cases hd with
    | @tup p xs ds hs hall =>
      obtain ⟨w, h1, h2⟩ := dpa_at hall he
      exact ⟨p, xs, i, w, rfl, rfl, ex_t (g.sub.trans e2) hs, h1, q w H2 Hn (g.post e2) h2⟩
theorem ed_ixL {i : Int} (ha : EvD K ta σ Hd (.list ds)) (hi : Ev tb σ Hd (.int i)) (he : atI ds i = some d) : EvD K (tOp (rIxL K) ta tb) σ Hd d := fun H s Q q =>
  ha H s _ fun v H1 Hn g hd => hi.mono g.dx H1 g.sub _ fun H2 e2 => by
    cases hd with
    | @lst p xs ds hs hall =>
      obtain ⟨w, h1, h2⟩ := dpa_at hall he
      exact ⟨p, xs, i, w, rfl, rfl, ex_l (g.sub.trans e2) hs, h1, q w H2 Hn (g.post e2) h2⟩
theorem ev_lenT (ha : EvD K ta σ Hd (.tuple ds)) : Ev (tCB (rLenS K) (tCons ta tNil)) σ Hd (.int (ds.length : Int)) := fun H s Q q =>
  ha H s _ fun v H1 Hn g hd => by
    cases hd with
    | @tup p xs ds hs hall => exact ⟨p, xs, rfl, Or.inr (ex_t g.sub hs), by rw [dpa_len hall]; exact q H1 g.ex⟩
theorem ev_lenL (ha : EvD K ta σ Hd (.list ds)) : Ev (tCB (rLenS K) (tCons ta tNil)) σ Hd (.int (ds.length : Int)) := fun H s Q q =>
  ha H s _ fun v H1 Hn g hd => by
    cases hd with
    | @lst p xs ds hs hall => exact ⟨p, xs, rfl, Or.inl (ex_l g.sub hs), by rw [dpa_len hall]; exact q H1 g.ex⟩
variable {D : Ends} {tu tw tz : TS} {g : TG} {i : Nat}
def Go (t : TS) (D : Ends) (σ : L2.St) (H : Hp) : Prop := ∀ H2, Ex H H2 → t D σ H2
theorem Go.go (h : Go tz D σ H) : tz D σ H := h H (Ex.refl H)
theorem go_asg (h : Ev te σ H v) (k : Go tz D (σ.set i (some v)) H) : Go (tSeq (tAsg te (gName i)) tz) D σ H := fun H1 e1 => h H1 e1 _ fun H2 e2 => k H2 (e1.trans e2)
theorem go_asgD (s : Ex Hd H) (h : EvD K te σ Hd d) (k : ∀ v H' Hn, Gr Hd H Hn H' → Dp K Hn v d → Go tz D (σ.set i (some v)) H') : Go (tSeq (tAsg te (gName i)) tz) D σ H := fun H1 e1 =>
  h H1 (s.trans e1) _ fun v H2 Hn g hd => k v H2 Hn (g.pre e1) hd H2 (Ex.refl _)
theorem go_asgN (s : Ex Hd H) (h : EvN K te σ Hd ds) (k : ∀ p xs H' Hn, Gr Hd H Hn H' → H p = none → Hn p = none → H' p = some (.lst xs) → DpAll K Hn xs ds → Go tz D (σ.set i (some (.ref p))) H') : Go (tSeq (tAsg te (gName i)) tz) D σ H := fun H1 e1 =>
  h H1 (s.trans e1) _ fun p xs H2 Hn g hp hn h2 hd => k p xs H2 Hn (g.pre e1) (fresh_back e1 hp) hn h2 hd H2 (Ex.refl _)
theorem go_if {b : Bool} (h : EvT t σ H b) (h1 : b = true → Go tu { D with nx := tz D } σ H) (h2 : b = false → Go tw { D with nx := tz D } σ H) : Go (tSeq (tIfS t tu tw) tz) D σ H := fun H1 e1 => h H1 e1 _ fun H2 e2 => by
  cases b with
  | true =>
    show tu { D with nx := tz D } σ H2
    exact h1 rfl H2 (e1.trans e2)
  | false =>
    show tw { D with nx := tz D } σ H2
    exact h2 rfl H2 (e1.trans e2)
theorem go_when {b : Bool} (h : EvT t σ H b) (h1 : b = true → Go tu { D with nx := tz D } σ H) (h2 : b = false → Go tz D σ H) : Go (tSeq (tIfS t tu tNext) tz) D σ H := go_if h h1 h2
theorem go_next (k : ∀ H', Ex H H' → D.nx σ H') : Go tNext D σ H := k
theorem go_ret (s : Ex Hd H) (h : EvD K te σ Hd d) (k : ∀ v H' Hn, Gr Hd H Hn H' → Dp K Hn v d → D.rt v H') : Go (tSeq (tRet te) tz) D σ H := fun H1 e1 => h H1 (s.trans e1) _ fun v H2 Hn g hd => k v H2 Hn (g.pre e1) hd
theorem go_retV (h : Ev te σ H v) (k : ∀ H', Ex H H' → D.rt v H') : Go (tSeq (tRet te) tz) D σ H := fun H1 e1 => h H1 e1 _ fun H2 e2 => k H2 (e1.trans e2)
theorem Go.mono (e : Ex H H') (h : Go tz D σ H) : Go tz D σ H' := fun H2 e2 => h H2 (e.trans e2)
/-- a chain of two comparisons of ints -/
theorem ev_chain {r' : R2} {tc : TE} {k : Bool} (ha : Ev ta σ H x) (hb : Ev tb σ H y) (hr : RV r x y H (.bl k)) (hc : k = true → Ev tc σ H z) (hr' : k = true → RV r' y z H v) (hv : k = false → v = .bl false) : Ev (tChain r r' ta tb tc) σ H v := fun H1 e1 Q q =>
  ha H1 e1 _ fun H2 e2 => hb H2 (e1.trans e2) _ fun H3 e3 => hr H3 ((e1.trans e2).trans e3) _ fun H4 e4 => ⟨k, rfl, by
    cases k with
    | true =>
      show tc σ H4 fun w' H5 => r' y w' H5 Q
      exact hc rfl H4 (((e1.trans e2).trans e3).trans e4) _ fun H5 e5 => hr' rfl H5 ((((e1.trans e2).trans e3).trans e4).trans e5) _ fun H6 e6 => q H6 ((((e2.trans e3).trans e4).trans e5).trans e6)
    | false =>
      show Q (.bl false) H4
      rw [← hv rfl]
      exact q H4 ((e2.trans e3).trans e4)⟩
end
end Cot
namespace Cot
open PySem L2 Evl
def spS (R : List V → V → Prop) : Sp := fun vs H Q _ => ∃ v, R vs v ∧ ∀ H2, Ex H H2 → Q v H2
section
variable {K : PySem.W.Frag} {σ : L2.St} {H H' Hd Hd' Hn H1 H2 : Hp} {ta tb tc te tx : TE} {t u : TT} {x y z v v' : V} {r r' : R2} {d : PyData} {ds : List PyData} {tr : TA} {D : Ends} {tu tw tz : TS} {g : TG} {i : Nat}
theorem ev_callS {R : List V → V → Prop} {vs : List V} {E : XK} (h : EvA tr σ H vs) (hr : R vs v) : Ev (tCall (spS R) [] E tr) σ H v := fun H1 e Q q =>
  h H1 e _ fun H2 e2 => ⟨v, by rw [List.append_nil]; exact hr, fun H3 e3 => q H3 (e2.trans e3)⟩
theorem go_retE (h : Ev te σ H v') (e : v' = v) (k : ∀ H', Ex H H' → D.rt v H') : Go (tSeq (tRet te) tz) D σ H := go_retV (by rw [← e]; exact h) k
theorem ev_chainB {k k' : Bool} (ha : Ev ta σ H x) (hb : Ev tb σ H y) (hr : RV r x y H (.bl k)) (hc : Ev tc σ H z) (hr' : RV r' y z H (.bl k')) : Ev (tChain r r' ta tb tc) σ H (.bl (k && k')) :=
  ev_chain ha hb hr (fun _ => hc) (fun e => by subst e; exact hr') (fun e => by subst e; rfl)
theorem ev_ifB {b : Bool} (h : EvT t σ H b) (h1 : Ev ta σ H x) (h2 : Ev tb σ H y) : Ev (tIf t ta tb) σ H (if b = true then x else y) := by
  refine ev_if h (fun e => ?_) (fun e => ?_)
  · rw [if_pos e]; exact h1
  · rw [if_neg (by rw [e]; decide)]; exact h2
theorem et_andB {a b : Bool} (h1 : EvT t σ H a) (h2 : EvT u σ H b) : EvT (tAnd t u) σ H (a && b) := et_and h1 fun _ => h2
theorem et_orB {a b : Bool} (h1 : EvT t σ H a) (h2 : EvT u σ H b) : EvT (tOr t u) σ H (a || b) := et_or h1 fun _ => h2
theorem ev_andB {a b : Bool} (h1 : Ev ta σ H (.bl a)) (h2 : Ev tb σ H (.bl b)) : Ev (tAndV ta tb) σ H (.bl (a && b)) := ev_andV h1 fun _ => h2
theorem ev_orB {a b : Bool} (h1 : Ev ta σ H (.bl a)) (h2 : Ev tb σ H (.bl b)) : Ev (tOrV ta tb) σ H (.bl (a || b)) := ev_orV h1 fun _ => h2
theorem rv_isN : RV (fun x y H Q => y = .non ∧ Q (.bl (decide (x = .non))) H) x .non H (.bl (decide (x = .non))) := fun H1 _ _ q => ⟨rfl, q H1 (Ex.refl H1)⟩
end
end Cot
set_option Elab.async false
set_option linter.all false
set_option maxRecDepth 100000
set_option maxHeartbeats 4000000
namespace Cot
open PySem L2 Evl
section
variable {K : PySem.W.Frag} {X : Cx}
theorem call_lenQ : CallR X (.builtin "len") (rLenS X.K) := call_len_seq
theorem call_listQ : CallR X (.type "list") (rListS X.K) := call_list_of
def BoxL (xs : List V) (ca : Addr) : Prop := ∃ pos rest turn seed : Int, xs = [.ref ca, .int pos, .int rest, .int turn, .int seed] ∧ 0 ≤ pos
/-- a box: its own place, and that of its cells -/
structure Bid where
  b : Addr
  ca : Addr
def Bx (H : Hp) (b : Bid) : Prop := ∃ (cells : List Int) (xs : List V), H b.b = some (.lst xs) ∧ BoxL xs b.ca ∧ H b.ca = some (.lst (cells.map V.int)) ∧ cells.length ≤ 63
theorem Bx.mono {H H' : Hp} {b : Bid} (e : Ex H H') (B : Bx H b) : Bx H' b := by
  obtain ⟨cells, xs, h1, h2, h3, h4⟩ := B
  exact ⟨cells, xs, e _ _ h1, h2, e _ _ h3, h4⟩
theorem Bx.some {H : Hp} {b : Bid} (B : Bx H b) : ∃ o, H b.b = Option.some o := by
  obtain ⟨cells, xs, h1, h2, h3, h4⟩ := B
  exact ⟨_, h1⟩
theorem Bx.keep {H : Hp} {b : Bid} {l : Addr} {o : HO} (B : Bx H b) (n1 : l ≠ b.b) (n2 : l ≠ b.ca) : Bx (upd H l o) b := by
  obtain ⟨cells, xs, h1, h2, h3, h4⟩ := B
  exact ⟨cells, xs, by rw [upd_ne n1.symm]; exact h1, h2, by rw [upd_ne n2.symm]; exact h3, h4⟩
theorem Bx.cell {H : Hp} {b : Bid} (B : Bx H b) : ∃ o, H b.ca = Option.some o := by
  obtain ⟨cells, xs, h1, h2, h3, h4⟩ := B
  exact ⟨_, h3⟩
theorem Bx.apart {H : Hp} {b : Bid} {l : Addr} (B : Bx H b) (h : H l = none) : l ≠ b.b ∧ l ≠ b.ca := by
  obtain ⟨o, h1⟩ := B.some
  obtain ⟨o2, h2⟩ := B.cell
  exact ⟨(ne_of_none h1 h).symm, (ne_of_none h2 h).symm⟩
structure GrB (b : Bid) (Hd H Hn H2 : Hp) : Prop where
  exb : ∀ a o, a ≠ b.b → H a = some o → H2 a = some o
  dx : Ex Hd Hn
  sub : Ex Hn H2
  fr : ∀ a o, H a = some o → Hd a = none → Hn a = none
  bx : Bx H2 b
variable {b : Bid} {H H' Hd Hd' Hn H1 H2 Hm : Hp}
theorem GrB.bn (g : GrB b Hd H Hn H2) (hb : Hd b.b = none) (B : Bx H b) : Hn b.b = none := by
  obtain ⟨o, h⟩ := B.some
  exact g.fr b.b o h hb
theorem GrB.of (g : Gr Hd H Hn H2) (B : Bx H b) : GrB b Hd H Hn H2 := ⟨fun a o _ h => g.ex a o h, g.dx, g.sub, g.fr, B.mono g.ex⟩
theorem GrB.trans (g1 : GrB b Hd H Hn H1) (g2 : GrB b Hn H1 Hm H2) (hb : Hd b.b = none) (B : Bx H b) : GrB b Hd H Hm H2 :=
  ⟨fun a o n h => g2.exb a o n (g1.exb a o n h), g1.dx.trans g2.dx, g2.sub, fun a o h hd => by
    by_cases e : a = b.b
    · rw [e]
      exact g2.bn (g1.bn hb B) g1.bx
    · exact g2.fr a o (g1.exb a o e h) (g1.fr a o h hd), g2.bx⟩
theorem GrB.pre (e : Ex H H1) (g : GrB b Hd H1 Hn H2) : GrB b Hd H Hn H2 := ⟨fun a o n h => g.exb a o n (e a o h), g.dx, g.sub, fun a o ha hd => g.fr a o (e a o ha) hd, g.bx⟩
theorem GrB.up (e : Ex Hd Hd') (s : Ex Hd' H) (hb : Hd' b.b = none) (g : GrB b Hd H Hn H2) : GrB b Hd' H (un Hd' Hn) H2 ∧ Ex Hn (un Hd' Hn) := by
  have s2 : Ex Hd' H2 := fun a o h => g.exb a o (ne_of_none h hb) (s a o h)
  exact ⟨⟨g.exb, un_l, un_sub s2 g.sub, fun a o ha hd => by
    unfold un
    rw [hd]
    exact g.fr a o ha (fresh_back e hd), g.bx⟩, un_r s2 g.sub⟩
def EvB (K : PySem.W.Frag) (b : Bid) (te : TE) (σ : L2.St) (Hd : Hp) (P : PyData → Prop) : Prop := Hd b.b = none → ∀ H, Ex Hd H → Bx H b → ∀ Q : VK, (∀ v H2 Hn d, GrB b Hd H Hn H2 → Dp K Hn v d → P d → Q v H2) → te σ H Q
def EvBA (K : PySem.W.Frag) (b : Bid) (ta : TA) (σ : L2.St) (Hd : Hp) (P : List PyData → Prop) : Prop := Hd b.b = none → ∀ H, Ex Hd H → Bx H b → ∀ Q : List V → Hp → Prop, (∀ vs H2 Hn ds, GrB b Hd H Hn H2 → DpAll K Hn vs ds → P ds → Q vs H2) → ta σ H Q
def isI (p : Int → Prop) (d : PyData) : Prop := ∃ i, d = .int i ∧ p i
/-- a def that draws: its first argument the box -/
def spB (K : PySem.W.Frag) (Pre : List PyData → Prop) (P : List PyData → PyData → Prop) : Sp := fun vs H Q _ => ∃ b ws Hd ds, vs = .ref b.b :: ws ∧ Hd b.b = none ∧ Ex Hd H ∧ Bx H b ∧ DpAll K Hd ws ds ∧ Pre ds ∧ ∀ v H2 Hn d, GrB b Hd H Hn H2 → Dp K Hn v d → P ds d → Q v H2
variable {σ : L2.St} {ta tb tc te tx : TE} {t u : TT} {x y z v v' : V} {r r' : R2} {d : PyData} {ds : List PyData} {tr : TA} {D : Ends} {tu tw tz : TS} {i : Nat} {P P' : PyData → Prop} {Ps : List PyData → Prop} {p p' : Int → Prop}
theorem EvB.mono (e : Ex Hd Hd') (h : EvB K b te σ Hd P) : EvB K b te σ Hd' P := fun hb H s B Q q => h (fresh_back e hb) H (e.trans s) B Q fun v H2 Hn d g hd hp =>
  q v H2 _ d (g.up e s hb).1 (dp_mono (g.up e s hb).2 d hd) hp
theorem EvBA.mono (e : Ex Hd Hd') (h : EvBA K b tr σ Hd Ps) : EvBA K b tr σ Hd' Ps := fun hb H s B Q q => h (fresh_back e hb) H (e.trans s) B Q fun v H2 Hn d g hd hp =>
  q v H2 _ d (g.up e s hb).1 (dpa_mono (g.up e s hb).2 d hd) hp
theorem EvB.imp (h : EvB K b te σ Hd P) (k : ∀ d, P d → P' d) : EvB K b te σ Hd P' := fun hb H s B Q q => h hb H s B Q fun v H2 Hn d g hd hp => q v H2 Hn d g hd (k d hp)
theorem eb_ed (h : EvD K te σ Hd d) : EvB K b te σ Hd (fun d' => d' = d) := fun hb H s B Q q => h H s Q fun v H2 Hn g hd => q v H2 Hn d (GrB.of g B) hd rfl
theorem eb_ev {n : Int} (h : Ev te σ Hd (.int n)) : EvB K b te σ Hd (isI fun m => m = n) := (eb_ed (ed_int h)).imp fun d e => ⟨n, e, rfl⟩
theorem eba_nil : EvBA K b tNil σ Hd (fun ds => ds = []) := fun hb H s B Q q => q [] H Hd [] (GrB.of (Gr.refl s) B) .nil rfl
theorem eba_cons (h : EvB K b ta σ Hd P) (hr : EvBA K b tr σ Hd Ps) : EvBA K b (tCons ta tr) σ Hd (fun ds => ∃ d es, ds = d :: es ∧ P d ∧ Ps es) := fun hb H s B Q q =>
  h hb H s B _ fun v H1 Hn d g hd hp => hr.mono g.dx (g.bn hb B) H1 g.sub g.bx _ fun vs H2 Hm es g2 hes hps => q (v :: vs) H2 Hm (d :: es) (g.trans g2 hb B) (.cons (dp_mono g2.dx d hd) hes) ⟨d, es, rfl, hp, hps⟩
theorem eb_call {Pre : List PyData → Prop} {R : List PyData → PyData → Prop} {E : XK} (ha : Ev ta σ Hd (.ref b.b)) (h : EvBA K b tr σ Hd Ps) (hp : ∀ ds, Ps ds → Pre ds) : EvB K b (tCall (spB K Pre R) [] E (tCons ta tr)) σ Hd (fun d => ∃ ds, Ps ds ∧ R ds d) := fun hb H s B Q q =>
  ha H s _ fun H1 e1 => h hb H1 (s.trans e1) (B.mono e1) _ fun vs H2 Hn ds g hds hps => ⟨b, vs, Hn, ds, by rw [List.append_nil], g.bn hb (B.mono e1), g.sub, g.bx, hds, hp ds hps, fun v H3 Hm d g2 hd hR =>
    q v H3 Hm d ((g.trans g2 hb (B.mono e1)).pre e1) hd ⟨ds, hps, hR⟩⟩
theorem eb_opI {gg : Int → Int → V} {f : Int → Int → Int} (hg : ∀ i j, gg i j = .int (f i j)) {C : Int → Int → Prop} (ha : EvB K b ta σ Hd (isI p)) (hb' : EvB K b tb σ Hd (isI p')) (hc : ∀ i j, p i → p' j → C i j) : EvB K b (tOp (rI C gg) ta tb) σ Hd (isI fun k => ∃ i j, p i ∧ p' j ∧ k = f i j) := fun hb H s B Q q =>
  ha hb H s B _ fun v H1 Hn d g hd hp => hb'.mono g.dx (g.bn hb B) H1 g.sub g.bx _ fun v2 H2 Hm d2 g2 hd2 hp2 => by
    obtain ⟨i, rfl, pi⟩ := hp
    obtain ⟨j, rfl, pj⟩ := hp2
    cases hd
    cases hd2
    refine ⟨i, j, rfl, rfl, hc i j pi pj, ?_⟩
    rw [hg]
    exact q _ H2 Hm (.int (f i j)) (g.trans g2 hb B) (.int _) ⟨_, rfl, i, j, pi, pj, rfl⟩
theorem eb_opI0 {gg : Int → Int → V} {f : Int → Int → Int} (hg : ∀ i j, gg i j = .int (f i j)) (ha : EvB K b ta σ Hd (isI p)) (hb' : EvB K b tb σ Hd (isI p')) : EvB K b (tOp (rI0 gg) ta tb) σ Hd (isI fun k => ∃ i j, p i ∧ p' j ∧ k = f i j) := fun hb H s B Q q =>
  ha hb H s B _ fun v H1 Hn d g hd hp => hb'.mono g.dx (g.bn hb B) H1 g.sub g.bx _ fun v2 H2 Hm d2 g2 hd2 hp2 => by
    obtain ⟨i, rfl, pi⟩ := hp
    obtain ⟨j, rfl, pj⟩ := hp2
    cases hd
    cases hd2
    refine ⟨i, j, rfl, rfl, ?_⟩
    rw [hg]
    exact q _ H2 Hm (.int (f i j)) (g.trans g2 hb B) (.int _) ⟨_, rfl, i, j, pi, pj, rfl⟩
theorem eb_lst (h : EvBA K b tr σ Hd Ps) (hl : ∀ ds, Ps ds → ds.length ≤ 100000) : EvB K b (tLst tr) σ Hd (fun d => ∃ ds, d = .list ds ∧ Ps ds) := fun hb H s B Q q =>
  h hb H s B _ fun vs H1 Hn ds g hd hp => ⟨sz_of (by rw [dpa_len hd]; exact hl ds hp), fun a ha => q (.ref a) _ _ (.list ds) (g.trans (GrB.of (Gr.new g.sub ha) g.bx) hb B) (.lst (sq_of upd_same) (dpa_mono (Ex.new (fresh_back g.sub ha)) ds hd)) ⟨ds, rfl, hp⟩⟩
theorem eb_tup (h : EvBA K b tr σ Hd Ps) (hl : ∀ ds, Ps ds → ds.length ≤ 100000) : EvB K b (tTup tr) σ Hd (fun d => ∃ ds, d = .tuple ds ∧ Ps ds) := fun hb H s B Q q =>
  h hb H s B _ fun vs H1 Hn ds g hd hp => ⟨sz_of (by rw [dpa_len hd]; exact hl ds hp), fun a ha => q (.ref a) _ _ (.tuple ds) (g.trans (GrB.of (Gr.new g.sub ha) g.bx) hb B) (.tup (st_of upd_same) (dpa_mono (Ex.new (fresh_back g.sub ha)) ds hd)) ⟨ds, rfl, hp⟩⟩
theorem eb_ixL (ha : EvB K b ta σ Hd (fun d => ∃ ds, d = .list ds ∧ Ps ds)) (hi : EvB K b tb σ Hd (isI p)) (he : ∀ ds i, Ps ds → p i → ∃ d, atI ds i = some d) : EvB K b (tOp (rIxL K) ta tb) σ Hd (fun d => ∃ ds i, Ps ds ∧ p i ∧ atI ds i = some d) := fun hb H s B Q q =>
  ha hb H s B _ fun v H1 Hn d g hd hp => hi.mono g.dx (g.bn hb B) H1 g.sub g.bx _ fun v2 H2 Hm d2 g2 hd2 hp2 => by
    obtain ⟨ds, rfl, ps⟩ := hp
    obtain ⟨i, rfl, pi⟩ := hp2
    cases hd2
    cases dp_mono g2.dx _ hd with
    | @lst pa xs ds hs hall =>
      obtain ⟨d, hd⟩ := he ds i ps pi
      obtain ⟨w, h1, h2⟩ := dpa_at hall hd
      exact ⟨pa, xs, i, w, rfl, rfl, ex_l g2.sub hs, h1, q w H2 Hm d (g.trans g2 hb B) h2 ⟨ds, i, ps, pi, hd⟩⟩
theorem go_asgB (hb : Hd b.b = none) (s : Ex Hd H) (B : Bx H b) (h : EvB K b te σ Hd P) (k : ∀ v H' Hn d, GrB b Hd H Hn H' → Dp K Hn v d → P d → Go tz D (σ.set i (some v)) H') : Go (tSeq (tAsg te (gName i)) tz) D σ H := fun H1 e1 =>
  h hb H1 (s.trans e1) (B.mono e1) _ fun v H2 Hn d g hd hp => k v H2 Hn d (g.pre e1) hd hp H2 (Ex.refl _)
theorem go_retB (hb : Hd b.b = none) (s : Ex Hd H) (B : Bx H b) (h : EvB K b te σ Hd P) (k : ∀ v H' Hn d, GrB b Hd H Hn H' → Dp K Hn v d → P d → D.rt v H') : Go (tSeq (tRet te) tz) D σ H := fun H1 e1 =>
  h hb H1 (s.trans e1) (B.mono e1) _ fun v H2 Hn d g hd hp => k v H2 Hn d (g.pre e1) hd hp
theorem go_setL {l : Addr} {xs : List V} {j : Nat} (hl : H l = some (.lst xs)) (h : Ev te σ H v) (ho : Ev ta σ H (.ref l)) (hi : Ev tb σ H (.int (j : Int))) (hj : j < xs.length) (k : Go tz D σ (upd H l (.lst (xs.set j v)))) :
    Go (tSeq (tAsg te (gSub ta tb rSetL)) tz) D σ H := fun H1 e1 => q_setL (e1 _ _ hl) (h.mono e1) (ho.mono e1) (hi.mono e1) hj fun H2 e2 => k _ (ex_upd2 (e1.trans e2))
end
end Cot
set_option Elab.async false
set_option linter.all false
set_option maxRecDepth 100000
set_option maxHeartbeats 4000000
namespace Cot
open PySem L2 Evl RZ
section
variable {K : PySem.W.Frag} {X : Cx} {H H' Hd Hd' Hn H1 H2 Hm : Hp} {σ : L2.St} {ta tb tc te tx tl : TE} {t u tt : TT} {x y z v v' : V} {d : PyData} {ds es : List PyData} {tr : TA} {D : Ends} {tu tw tz : TS} {i j j2 n : Nat} {wi : TI} {g : TG}
/-- what is walked: n turns; S tells the slots behind the target, by the turn and the slots ahead -/
def EvI (K : PySem.W.Frag) (wi : TI) (g : TG) (σ : L2.St) (Hd : Hp) (n : Nat) (S : Nat → L2.St → L2.St → Hp → Prop) : Prop := ∀ H, Ex Hd H → ∀ R : It → Hp → Prop,
  (∀ J H2 Hn (G : Hp → Prop) (Y : Nat → Hp → V → Hp → Prop), Gr Hd H Hn H2 → Walk J n G Y → (∀ H', Ex Hn H' → G H') →
    (∀ (i : Nat) (x : V) (H' H'' : Hp) (σ' : L2.St) (k : L2.St → Hp → Prop), i < n → Ex Hn H' → Y i H' x H'' → (∀ σ2 H3, Ex H' H3 → S i σ' σ2 Hn → k σ2 H3) → g x σ' H'' k) → R J H2) → wi σ H R
def SName (K : PySem.W.Frag) (j : Nat) (ds : List PyData) (i : Nat) (σ' σ2 : L2.St) (Hn : Hp) : Prop := ∃ v d, ds[i]? = some d ∧ Dp K Hn v d ∧ σ2 = σ'.set j (some v)
def SPair (K : PySem.W.Frag) (j j2 : Nat) (f f2 : Nat → Option PyData) (i : Nat) (σ' σ2 : L2.St) (Hn : Hp) : Prop := ∃ v v2 d d2, f i = some d ∧ f2 i = some d2 ∧ Dp K Hn v d ∧ Dp K Hn v2 d2 ∧ σ2 = (σ'.set j (some v)).set j2 (some v2)
def SInt (j : Nat) (lo : Int) (i : Nat) (σ' σ2 : L2.St) (_ : Hp) : Prop := σ2 = σ'.set j (some (.int (lo + (i : Int))))
theorem ei_tup (h : EvD K tl σ Hd (.tuple ds)) : EvI K (iTup K tl) (gName j) σ Hd ds.length (SName K j ds) := fun H s R r =>
  h H s _ fun v H2 Hn g hd => by
    cases hd with
    | @tup a xs ds hs hall =>
      refine ⟨a, rfl, ⟨xs, ex_t g.sub hs⟩, r _ H2 Hn _ _ g (by rw [← dpa_len hall]; exact walk_tup) (fun H' e => ex_t e hs) fun i x H' H'' σ' k hi e y q => ?_⟩
      obtain ⟨rfl, hx⟩ := y
      obtain ⟨d, h1, h2⟩ := dpa_get2 hall hx
      exact q _ _ (Ex.refl _) ⟨x, d, h1, h2, rfl⟩
theorem ei_range1 {m : Int} (h : EvA tr σ Hd [.int m]) (hm : -100000 ≤ m ∧ m ≤ 100000) : EvI K (iRng1 tr) (gName j) σ Hd m.toNat (SInt j 0) := fun H s R r =>
  h H s _ fun H2 e2 => ⟨m, rfl, by omega, by omega, r _ H2 Hd _ _ (Gr.ext s e2) walk_range (fun _ _ => trivial) fun i x H' H'' σ' k hi e y q => by
    obtain ⟨rfl, rfl⟩ := y
    exact q _ _ (Ex.refl _) rfl⟩
/-- the target of a pair: two names -/
abbrev g2 (K : PySem.W.Frag) (j j2 : Nat) : TG := gTup K 2 (gCons (gName j) (gCons (gName j2) gNil))
def givenD (n : Nat) (f : Nat → Bool) (v : Nat → PyData) : List PyData := ((List.range n).filter f).map v
theorem givenD_yes {f : Nat → Bool} {v : Nat → PyData} (h : f n = true) : givenD (n + 1) f v = givenD n f v ++ [v n] := by
  unfold givenD
  rw [List.range_succ, List.filter_append, List.map_append, List.filter_cons, if_pos h] <;> rfl
theorem givenD_no {f : Nat → Bool} {v : Nat → PyData} (h : f n = false) : givenD (n + 1) f v = givenD n f v := by
  unfold givenD
  rw [List.range_succ, List.filter_append, List.map_append, List.filter_cons, if_neg (by rw [h]; decide)]
  show _ ++ [] = _
  rw [List.append_nil]
theorem givenD_len (n : Nat) (f : Nat → Bool) (v : Nat → PyData) : (givenD n f v).length ≤ n := by
  unfold givenD
  rw [List.length_map]
  have h := List.length_filter_le f (List.range n)
  rw [List.length_range] at h
  exact h
theorem givenD_all (n : Nat) (v : Nat → PyData) : givenD n (fun _ => true) v = (List.range n).map v := by
  unfold givenD
  rw [List.filter_eq_self.mpr (fun _ _ => rfl)]
theorem et_yes : EvT tYes σ H true := fun H1 e Q q => q H1 (Ex.refl H1)
theorem en_lc {S : Nat → L2.St → L2.St → Hp → Prop} {vs : List Nat} (h : EvI K wi g σ Hd n S) (hn : n ≤ 40000) (f : Nat → Bool) (v : Nat → PyData)
    (ht : ∀ (i : Nat) (σ2 : L2.St) (Hn : Hp), i < n → Ex Hd Hn → S i (wipe σ vs) σ2 Hn → wipe σ2 vs = wipe σ vs ∧ EvT tt σ2 Hn (f i) ∧ (f i = true → EvD K te σ2 Hn (v i))) : EvN K (tLc wi g tt te vs) σ Hd (givenD n f v) := fun H s Q q =>
  h H s _ fun J H1 Hn G Y gr w hG hY Dl hD => by
    refine lc_it w (fun i H' => i ≤ n ∧ ∃ Hm acc, Gr Hn H1 Hm H' ∧ Hm Dl = none ∧ H' Dl = some (.lst acc) ∧ DpAll K Hm acc (givenD i f v)) ⟨Nat.zero_le _, Hn, [], Gr.alloc gr.sub hD, fresh_back gr.sub hD, upd_same, .nil⟩ (fun i H' _ p => ?_) (fun i x H' H'' hi p y => ?_) (fun H' p => ?_)
    · obtain ⟨_, Hm, acc, g1, _⟩ := p
      exact hG H' (g1.dx.trans g1.sub)
    · obtain ⟨_, Hm, acc, g1, hm, h2, hac⟩ := p
      refine hY i x H' H'' _ _ hi (g1.dx.trans g1.sub) y fun σ2 H3 e3 hS => ?_
      obtain ⟨hw, hT, hE⟩ := ht i σ2 Hn hi gr.dx hS
      refine ⟨hw, hT H3 ((g1.dx.trans g1.sub).trans e3) _ fun H4 e4 => ?_⟩
      have al : acc.length < sizeLine := sz_lt (by have := givenD_len i f v; rw [dpa_len hac]; omega)
      cases hf : f i with
      | false =>
        show (i + 1 ≤ n ∧ _)
        refine ⟨hi, Hm, acc, g1.post (e3.trans e4), hm, (e3.trans e4) _ _ h2, ?_⟩
        rw [givenD_no hf]
        exact hac
      | true =>
        show te σ2 H4 _
        refine ((hE hf).mono g1.dx) H4 ((g1.sub.trans e3).trans e4) _ fun y H5 Ho g5 hy => ?_
        have h4 : H4 Dl = some (.lst acc) := (e3.trans e4) _ _ h2
        have ho : Ho Dl = none := g5.fr _ _ h4 hm
        have hD1 : H1 Dl = none := hD
        refine ⟨acc, g5.ex _ _ h4, al, hi, Ho, acc ++ [y], ⟨Ex.mut ((g1.ex.trans (e3.trans e4)).trans g5.ex) hD1, g1.dx.trans g5.dx, Ex.mut g5.sub ho, fun a o ha hd => g5.fr a o ((e3.trans e4) a o (g1.ex a o ha)) (g1.fr a o ha hd)⟩, ho, upd_same, ?_⟩
        rw [givenD_yes hf]
        exact dpa_app (dpa_mono g5.dx _ hac) (.cons hy .nil)
    · obtain ⟨_, Hm, acc, g1, hm, h2, hac⟩ := p
      exact q Dl acc H' Hm (gr.trans g1) (fresh_back gr.ex hD) hm h2 hac
theorem ev_all {bs : List Bool} (h : EvD K ta σ Hd (.list (bs.map .bool))) : Ev (tCB (rAll K) (tCons ta tNil)) σ Hd (.bl (bs.all id)) := fun H s Q q =>
  h H s _ fun v H2 Hn g hd => by
    cases hd with
    | @lst a xs ds hs hall =>
      have e := dpa_bools_inv hall
      subst e
      exact ⟨a, bs, rfl, ex_l g.sub hs, q H2 g.ex⟩
def tyN : PyData → String
  | .none => "NoneType"
  | .bool _ => "bool"
  | .int _ => "int"
  | .str _ => "str"
  | .list _ => "list"
  | .tuple _ => "tuple"
  | .dict _ => "dict"
theorem dp_ty (h : Dp K H v d) : TyX K H v (.type (tyN d)) := by
  cases h with
  | non => exact .base .non
  | bl b => exact .base (.bl b)
  | int i => exact .base (.int i)
  | str z => exact .base (.str z)
  | lst hs _ =>
    rcases hs with (h | ⟨o, h⟩) | ⟨o, its, n, h1, h2, _⟩
    · exact .base (.lst h)
    · exact .base (.frz h)
    · exact .kList h1 h2
  | tup hs _ =>
    rcases hs with (h | ⟨o, h⟩) | ⟨o, its, n, h1, h2, _⟩
    · exact .base (.tup h)
    · exact .fTuple h
    · exact .kTuple h1 h2
theorem ev_isi {T : String} {b : Bool} (ha : EvD K ta σ Hd d) (k : kitB (tyN d) T = some b) : Ev (tCB (rIsi K) (tCons ta (tCons (tC (.ty T)) tNil))) σ Hd (.bl b) := fun H s Q q =>
  ha H s _ fun v H2 Hn g hd => ⟨v, .ty T, _, _, b, rfl, .ty T, dp_ty (dp_mono g.sub _ hd), kit_ty k, q H2 g.ex⟩
theorem ev_isiT2 {T T2 : String} {b b2 : Bool} (ha : EvD K ta σ Hd d) (k : kitB (tyN d) T = some b) (k2 : kitB (tyN d) T2 = some b2) : Ev (tCB (rIsiT K) (tCons ta (tCons (tTup (tCons (tC (.ty T)) (tCons (tC (.ty T2)) tNil))) tNil))) σ Hd (.bl (b || b2)) := fun H s Q q =>
  ha H s _ fun v H2 Hn g hd => ⟨by show 2 ≤ sizeLine; decide, fun p hp => ⟨v, p, [.ty T, .ty T2], _, [.type T, .type T2], b || b2, rfl, upd_same, .cons (.ty T) (.cons (.ty T2) .nil), dp_ty (dp_mono (g.sub.trans (Ex.new hp)) _ hd), by
    refine kitAny_cons (kit_ty k) (fun e => kitAny_cons (kit_ty k2) (fun e2 => ?_) (fun e2 => ?_)) (fun e => ?_)
    · rw [e, e2]; rfl
    · rw [e2, Bool.or_true]
    · rw [e]; rfl, q _ (g.ex.trans (Ex.new hp))⟩⟩
theorem ev_eqD {e : PyData} (ha : EvD K ta σ Hd d) (hb : EvD K tb σ Hd e) (hd : SeqAt.shaped d = true) (he : SeqAt.shaped e = true) : Ev (tOp (rEqD K) ta tb) σ Hd (.bl (PyData.eqv d e)) := fun H s Q q =>
  ha H s _ fun v H2 Hn g h1 => hb.mono g.dx H2 g.sub _ fun v2 H3 Hm g2 h2 => ⟨d, e, dp_mono (g2.dx.trans g2.sub) _ h1, dp_mono g2.sub _ h2, hd, he, q H3 (g.ex.trans g2.ex)⟩
theorem ev_neD {e : PyData} (ha : EvD K ta σ Hd d) (hb : EvD K tb σ Hd e) (hd : SeqAt.shaped d = true) (he : SeqAt.shaped e = true) : Ev (tOp (rNeD K) ta tb) σ Hd (.bl (!PyData.eqv d e)) := fun H s Q q =>
  ha H s _ fun v H2 Hn g h1 => hb.mono g.dx H2 g.sub _ fun v2 H3 Hm g2 h2 => ⟨d, e, dp_mono (g2.dx.trans g2.sub) _ h1, dp_mono g2.sub _ h2, hd, he, q H3 (g.ex.trans g2.ex)⟩
end
end Cot
namespace Cot
open PySem L2 Evl
theorem kb_NoneType_bool : kitB "NoneType" "bool" = some false := by decide +kernel
theorem kb_NoneType_int : kitB "NoneType" "int" = some false := by decide +kernel
theorem kb_NoneType_str : kitB "NoneType" "str" = some false := by decide +kernel
theorem kb_NoneType_list : kitB "NoneType" "list" = some false := by decide +kernel
theorem kb_NoneType_tuple : kitB "NoneType" "tuple" = some false := by decide +kernel
theorem kb_bool_bool : kitB "bool" "bool" = some true := by decide +kernel
theorem kb_bool_int : kitB "bool" "int" = some true := by decide +kernel
theorem kb_bool_str : kitB "bool" "str" = some false := by decide +kernel
theorem kb_bool_list : kitB "bool" "list" = some false := by decide +kernel
theorem kb_bool_tuple : kitB "bool" "tuple" = some false := by decide +kernel
theorem kb_int_bool : kitB "int" "bool" = some false := by decide +kernel
theorem kb_int_int : kitB "int" "int" = some true := by decide +kernel
theorem kb_int_str : kitB "int" "str" = some false := by decide +kernel
theorem kb_int_list : kitB "int" "list" = some false := by decide +kernel
theorem kb_int_tuple : kitB "int" "tuple" = some false := by decide +kernel
theorem kb_str_bool : kitB "str" "bool" = some false := by decide +kernel
theorem kb_str_int : kitB "str" "int" = some false := by decide +kernel
theorem kb_str_str : kitB "str" "str" = some true := by decide +kernel
theorem kb_str_list : kitB "str" "list" = some false := by decide +kernel
theorem kb_str_tuple : kitB "str" "tuple" = some false := by decide +kernel
theorem kb_list_bool : kitB "list" "bool" = some false := by decide +kernel
theorem kb_list_int : kitB "list" "int" = some false := by decide +kernel
theorem kb_list_str : kitB "list" "str" = some false := by decide +kernel
theorem kb_list_list : kitB "list" "list" = some true := by decide +kernel
theorem kb_list_tuple : kitB "list" "tuple" = some false := by decide +kernel
theorem kb_tuple_bool : kitB "tuple" "bool" = some false := by decide +kernel
theorem kb_tuple_int : kitB "tuple" "int" = some false := by decide +kernel
theorem kb_tuple_str : kitB "tuple" "str" = some false := by decide +kernel
theorem kb_tuple_list : kitB "tuple" "list" = some false := by decide +kernel
theorem kb_tuple_tuple : kitB "tuple" "tuple" = some true := by decide +kernel
section
variable {K : PySem.W.Frag} {X : Cx} {H H' Hd Hd' Hn H1 H2 Hm : Hp} {σ : L2.St} {ta tb tc te tx tl : TE} {t u tt : TT} {x y z v v' : V} {d : PyData} {ds es : List PyData} {tr : TA} {D : Ends} {tu tw tz : TS} {i j j2 n : Nat} {wi : TI} {g : TG}
theorem go_whenT (h : EvT t σ H true) (h1 : Go tu { D with nx := tz D } σ H) : Go (tSeq (tIfS t tu tNext) tz) D σ H := go_when h (fun _ => h1) (fun e => by cases e)
theorem go_whenF (h : EvT t σ H false) (h2 : Go tz D σ H) : Go (tSeq (tIfS t tu tNext) tz) D σ H := go_when h (fun e => by cases e) (fun _ => h2)
end
end Cot
namespace Cot
open PySem L2 Evl
section
variable {K : PySem.W.Frag} {X : Cx} {H H' Hd Hd' Hn H1 H2 Hm : Hp} {σ : L2.St} {ta tb tc te tx tl : TE} {t u tt : TT} {x y z v v' : V} {d : PyData} {ds es : List PyData} {tr : TA} {D : Ends} {tu tw tz : TS} {i j j2 n : Nat} {wi : TI} {g : TG}
theorem go_for {S : Nat → L2.St → L2.St → Hp → Prop} (s : Ex Hd H) (h : EvI K wi g σ Hd n S) (Pv : Hp → Nat → L2.St → Hp → Prop) (h0 : ∀ H' Hn, Gr Hd H Hn H' → Pv Hn 0 σ H') (hE : ∀ Hn i σ' H', Pv Hn i σ' H' → Ex Hn H')
    (hs : ∀ Hn i σ' σ2 H', Ex Hd Hn → i < n → Pv Hn i σ' H' → S i σ' σ2 Hn → Go tu { D with nx := Pv Hn (i + 1), ct := Pv Hn (i + 1), bk := tz D } σ2 H')
    (hd : ∀ Hn σ' H', Ex Hd Hn → Pv Hn n σ' H' → Go tz D σ' H') : Go (tSeq (tFor wi g tu) tz) D σ H := fun H1 e1 =>
  h H1 (s.trans e1) _ fun J H2 Hn G Y gr w hG hY => by
    refine for_it w (Pv Hn) (h0 H2 Hn (gr.pre e1)) (fun i σ' H' _ p => hG H' (hE Hn i σ' H' p)) (fun i x σ' H' H'' hi p y => ?_) (fun σ' H' p => hd Hn σ' H' gr.dx p H' (Ex.refl _))
    exact hY i x H' H'' σ' _ hi (hE Hn i σ' H' p) y fun σ2 H3 e3 hS => hs Hn i σ' σ2 H' gr.dx hi p hS H3 e3
end
end Cot
namespace Cot
open PySem L2 Evl
section
variable {K : PySem.W.Frag} {b : Bid} {H H' Hd Hd' Hn H1 H2 Hm : Hp} {σ : L2.St} {ta tb te : TE} {tr : TA} {n : Nat} {p : Int → Prop}
def AllP (p : Int → Prop) (n : Nat) (ds : List PyData) : Prop := ds.length = n ∧ ∀ d ∈ ds, isI p d
theorem ap_nil : EvBA K b tNil σ Hd (AllP p 0) := fun hb H s B Q q => eba_nil hb H s B Q fun vs H2 Hn ds g h e => q vs H2 Hn ds g h (by subst e; exact ⟨rfl, fun _ h => by cases h⟩)
theorem ap_cons (h : EvB K b ta σ Hd (isI p)) (hr : EvBA K b tr σ Hd (AllP p n)) : EvBA K b (tCons ta tr) σ Hd (AllP p (n + 1)) := fun hb H s B Q q => eba_cons h hr hb H s B Q fun vs H2 Hn ds g hd hp => q vs H2 Hn ds g hd (by
  obtain ⟨d, es, rfl, h1, h2, h3⟩ := hp
  refine ⟨by rw [List.length_cons, h2], fun e he => ?_⟩
  rcases List.mem_cons.mp he with rfl | he
  · exact h1
  · exact h3 e he)
theorem atI_get {α : Type} {ds : List α} {i : Int} (h0 : 0 ≤ i) (h1 : i < (ds.length : Int)) : ∃ d, atI ds i = some d ∧ d ∈ ds := by
  have h : i.toNat < ds.length := by omega
  refine ⟨ds[i.toNat], ?_, List.getElem_mem h⟩
  unfold atI ixN
  rw [if_pos h0, if_pos (by omega)]
  simp [h]
theorem eb_pick (h : EvBA K b tr σ Hd (AllP p n)) (hi : EvB K b tb σ Hd (isI fun i => 0 ≤ i ∧ i < (n : Int))) (hn : n ≤ 100000) : EvB K b (tOp (rIxL K) (tLst tr) tb) σ Hd (isI p) := by
  refine EvB.imp (eb_ixL (eb_lst h fun ds h => by rw [h.1]; exact hn) hi fun ds i h1 h2 => ?_) ?_
  · obtain ⟨d, h3, _⟩ := atI_get (ds := ds) h2.1 (by rw [h1.1]; exact h2.2)
    exact ⟨d, h3⟩
  · rintro d ⟨ds, i, h1, h2, h3⟩
    obtain ⟨d', h4, h5⟩ := atI_get (ds := ds) h2.1 (by rw [h1.1]; exact h2.2)
    rw [h3] at h4
    cases h4
    exact h1.2 d h5
theorem eb_int {q : Int → Prop} {m : Int} (h : Ev te σ Hd (.int m)) (hq : q m) : EvB K b te σ Hd (isI q) := (eb_ev h).imp fun d ⟨i, e, e2⟩ => ⟨i, e, by rw [e2]; exact hq⟩
theorem EvB.impI {p q : Int → Prop} (h : EvB K b te σ Hd (isI p)) (k : ∀ i, p i → q i) : EvB K b te σ Hd (isI q) := h.imp fun d ⟨i, e, e2⟩ => ⟨i, e, k i e2⟩
end
end Cot
namespace Cot
open PySem L2 Evl
section
variable {K : PySem.W.Frag} {b : Bid} {H H' Hd Hd' Hn H1 H2 Hm : Hp} {σ : L2.St} {ta tb te : TE} {tr : TA} {n i j : Nat} {p : Int → Prop} {Ps : List PyData → Prop} {D : Ends} {tu tz : TS} {ds : List PyData}
theorem dpa_rep {vs : List V} (h : DpAll K H vs ds) : ∀ k : Nat, DpAll K H (List.replicate k vs).flatten (List.replicate k ds).flatten
  | 0 => .nil
  | k + 1 => by
    rw [List.replicate_succ, List.replicate_succ, List.flatten_cons, List.flatten_cons]
    exact dpa_app h (dpa_rep h k)
theorem en_rep {k : Int} (h : EvN K ta σ Hd ds) (hk : Ev tb σ Hd (.int k)) (h0 : -1000 ≤ k ∧ k ≤ 1000) (hl : ds.length * k.toNat ≤ 100000) : EvN K (tOp rRep ta tb) σ Hd (List.replicate k.toNat ds).flatten := fun H s Q q =>
  h H s _ fun p xs H2 Hn g hp hn h2 hd => hk.mono g.dx H2 g.sub _ fun H3 e3 => ⟨p, k, xs, rfl, rfl, e3 _ _ h2, by omega, by omega, by rw [dpa_len hd]; exact sz_of hl, fun r hr => q r _ _ Hn ((g.post e3).trans (Gr.alloc (g.sub.trans e3) hr)) (fresh_back (g.ex.trans e3) hr) (fresh_back (g.sub.trans e3) hr) upd_same (dpa_rep hd _)⟩
end
end Cot
namespace Cot
open PySem L2 Evl
section
variable {K : PySem.W.Frag} {x qual : Str} {params : Arguments} {body : List Stmt} {scope : Scope} {dvs : List V} {kws : List (Str × V)} {f : Addr} {fd : FuncData} {ps : List Str}
theorem bindsAll (F : FunD K x qual params body scope dvs kws f fd) (n : Nat) (hd : dvs ≠ []) (hn : n = ps.length)
    (h : ∀ (T : Addr) (kV doc pm : Value) (an : Option Addr) (cdv ct : Value) (us its : List Value), us.length = n → its.length = dvs.length →
      ∃ k, bindArgs (PySem.W.fnOf x qual params body scope (.ref T) kV doc pm an cdv ct) ⟨us, []⟩ = seqItems? (.ref T) >>= k ∧ k (some its.toArray) = pure (ps.zip us)) : Binds K fd ps [] := by
  obtain ⟨ds, v, b⟩ := F.binds1 (ps := ps) n dvs.length hd (by omega) (fun T kV doc pm an cdv ct us its hu hi => by
    obtain ⟨k, h1, h2⟩ := h T kV doc pm an cdv ct us its hu hi
    refine ⟨k, h1, ?_⟩
    rw [List.drop_of_length_le (by omega), List.append_nil]
    exact h2)
  rw [List.drop_of_length_le (Nat.le_refl _)] at v
  cases v
  exact b
end
end Cot
set_option Elab.async false
set_option linter.all false
set_option maxRecDepth 100000
set_option maxHeartbeats 4000000
namespace Cot
open PySem L2 Evl
def okE : Nat → PyData → Prop
  | _, .none => True
  | _, .bool _ => True
  | _, .int _ => True
  | _, .str x => PyData.strOk x = true
  | _, .dict _ => False
  | 0, .list ds => ds = []
  | 0, .tuple ds => ds = []
  | n + 1, .list ds => ∀ e ∈ ds, okE n e
  | n + 1, .tuple ds => ∀ e ∈ ds, okE n e
theorem canAll : ∀ {ds : List PyData}, (∀ e ∈ ds, e.canLay0 = true) → PyData.canLayAll0 ds = true
  | [], _ => by unfold PyData.canLayAll0; rfl
  | d :: ds, h => by
    unfold PyData.canLayAll0
    rw [h d List.mem_cons_self, canAll fun e he => h e (List.mem_cons_of_mem _ he)]
    rfl
theorem depAll {n : Nat} : ∀ {ds : List PyData}, (∀ e ∈ ds, e.depth ≤ n) → PyData.depthAll ds ≤ n
  | [], _ => by unfold PyData.depthAll; omega
  | d :: ds, h => by
    unfold PyData.depthAll
    have h1 := h d List.mem_cons_self
    have h2 := depAll fun e he => h e (List.mem_cons_of_mem _ he)
    omega
theorem okE_lay : ∀ (n : Nat) (d : PyData), okE n d → d.canLay0 = true ∧ d.depth ≤ n + 1
  | n, .none, _ => ⟨by unfold PyData.canLay0; rfl, by unfold PyData.depth; omega⟩
  | n, .bool _, _ => ⟨by unfold PyData.canLay0; rfl, by unfold PyData.depth; omega⟩
  | n, .int _, _ => ⟨by unfold PyData.canLay0; rfl, by unfold PyData.depth; omega⟩
  | n, .str x, h => ⟨by unfold PyData.canLay0; cases n <;> exact h, by unfold PyData.depth; omega⟩
  | n, .dict _, h => by cases n <;> exact h.elim
  | 0, .list ds, h => by
    have e : ds = [] := h
    subst e
    exact ⟨by unfold PyData.canLay0; exact canAll (fun _ h => by cases h), by unfold PyData.depth PyData.depthAll; omega⟩
  | 0, .tuple ds, h => by
    have e : ds = [] := h
    subst e
    exact ⟨by unfold PyData.canLay0; exact canAll (fun _ h => by cases h), by unfold PyData.depth PyData.depthAll; omega⟩
  | n + 1, .list ds, h => ⟨by unfold PyData.canLay0; exact canAll fun e he => (okE_lay n e (h e he)).1, by
      unfold PyData.depth
      have := depAll (n := n + 1) (ds := ds) fun e he => (okE_lay n e (h e he)).2
      omega⟩
  | n + 1, .tuple ds, h => ⟨by unfold PyData.canLay0; exact canAll fun e he => (okE_lay n e (h e he)).1, by
      unfold PyData.depth
      have := depAll (n := n + 1) (ds := ds) fun e he => (okE_lay n e (h e he)).2
      omega⟩
theorem okE_shaped {n : Nat} {d : PyData} (h : okE n d) (hn : n ≤ 63) : SeqAt.shaped d = true := by
  have h1 := okE_lay n d h
  unfold SeqAt.shaped
  rw [h1.1, decide_eq_true (by omega)]
  rfl
theorem okE_ints (n : Nat) (ns : List Int) : okE (n + 1) (.list (ns.map .int)) := fun e he => by
  obtain ⟨i, _, rfl⟩ := List.mem_map.mp he
  cases n <;> trivial
theorem okE_nil : okE 0 (.list []) := rfl
section
variable {K : PySem.W.Frag} {X : Cx} {b : Bid} {l : Addr} {H H' Hd Hd' Hn H1 H2 Hm : Hp} {σ : L2.St} {ta tb te : TE} {tl th : TO} {tr : TA} {n i j : Nat} {p : Int → Prop} {P : PyData → Prop} {D : Ends} {tu tz : TS} {ds es : List PyData} {xs : List V} {lo hi : Option Int}
/-- a list that stands in the heap -/
def EvM (K : PySem.W.Frag) (te : TE) (σ : L2.St) (Hd : Hp) (ds : List PyData) : Prop := ∀ H, Ex Hd H → ∀ Q : VK, (∀ p xs H2 Hn, Gr Hd H Hn H2 → H2 p = some (.lst xs) → DpAll K Hn xs ds → Q (.ref p) H2) → te σ H Q
theorem EvM.mono (e : Ex Hd Hd') (h : EvM K te σ Hd ds) : EvM K te σ Hd' ds := fun H s Q q => h H (e.trans s) Q fun p xs H2 Hn g h2 hd => q p xs H2 _ (g.up e s) h2 (dpa_mono (g.upr e s) ds hd)
theorem em_new (h : EvN K te σ Hd ds) : EvM K te σ Hd ds := fun H s Q q => h H s Q fun p xs H2 Hn g _ _ h2 hd => q p xs H2 Hn g h2 hd
theorem em_ref (h : Ev te σ Hd (.ref l)) (hl : Hd l = some (.lst xs)) (hd : DpAll K Hd xs ds) : EvM K te σ Hd ds := fun H s Q q => h H s Q fun H2 e => q l xs H2 Hd (Gr.ext s e) (e _ _ (s _ _ hl)) hd
theorem en_cat (ha : EvM K ta σ Hd ds) (hb : EvM K tb σ Hd es) (hl : ds.length + es.length ≤ 100000) : EvN K (tOp rCat ta tb) σ Hd (ds ++ es) := fun H s Q q =>
  ha H s _ fun p xs H2 Hn g h2 hd => hb.mono g.dx H2 g.sub _ fun p' ys H3 Hm g3 h3 hd3 => ⟨p, p', xs, ys, rfl, rfl, g3.ex _ _ h2, h3, sz_of (by rw [dpa_len hd, dpa_len hd3]; exact hl), fun r hr =>
    q r _ _ Hm ((g.trans g3).trans (Gr.alloc g3.sub hr)) (fresh_back (g.ex.trans g3.ex) hr) (fresh_back g3.sub hr) upd_same (dpa_app (dpa_mono g3.dx _ hd) hd3)⟩
theorem go_appB (hb : Hd b.b = none) (s : Ex Hd H) (B : Bx H b) (hl : H l = some (.lst xs)) (nl : l ≠ b.b) (ha : Ev ta σ H (.ref l)) (h : EvB K b te σ Hd P) (hz : xs.length < 100000)
    (k : ∀ v H' Hn d, GrB b Hd H Hn H' → Dp K Hn v d → P d → Go tz D σ (upd H' l (.lst (xs ++ [v])))) : Go (tSeq (tDrop (tBM K "list" rAppend ta (tCons te tNil))) tz) D σ H := fun H1 e1 =>
  ha H1 e1 _ fun H2 e2 => ⟨Or.inl ⟨rfl, xs, sq_of ((e1.trans e2) _ _ hl)⟩, h hb H2 ((s.trans e1).trans e2) ((B.mono e1).mono e2) _ fun v H3 Hn d g hd hp => ⟨l, xs, v, rfl, rfl, g.exb _ _ nl ((e1.trans e2) _ _ hl), sz_lt hz, k v H3 Hn d (g.pre (e1.trans e2)) hd hp _ (Ex.refl _)⟩⟩
end
end Cot
namespace Cot
open PySem L2 Evl
section
variable {K : PySem.W.Frag} {b : Bid} {H H' Hd Hd' Hn H1 H2 Hm : Hp} {σ : L2.St} {ta tb te : TE} {tl th : TO} {tr : TA} {Ps Ps' : List PyData → Prop} {ds : List PyData}
theorem EvBA.imp (h : EvBA K b tr σ Hd Ps) (k : ∀ d, Ps d → Ps' d) : EvBA K b tr σ Hd Ps' := fun hb H s B Q q => h hb H s B Q fun v H2 Hn d g hd hp => q v H2 Hn d g hd (k d hp)
end
end Cot
set_option Elab.async false
set_option linter.all false
set_option maxRecDepth 100000
set_option maxHeartbeats 4000000
namespace Cot
open PySem L2 Evl PyProof.Rows
section
variable {X : Cx}
def rTupS (K : PySem.W.Frag) : List V → Hp → VK → Prop := fun xs H Q => ∃ p ys, xs = [.ref p] ∧ ((SqL K H p ys ∧ ∀ l, H l = none → Q (.ref l) (upd H l (.tup ys))) ∨ (SqT K H p ys ∧ Q (.ref p) H))
theorem call_tupleQ : CallR X (.type "tuple") (rTupS X.K) := call_tuple_of
def rRg2 : List V → Hp → VK → Prop := fun vs H Q => ∃ i j, vs = [V.int i, V.int j] ∧ ∀ p, H p = none → Q (.ref p) (upd H p (.rng i j))
theorem call_rangeQ : CallR X (.type "range") rRg2 := cr_range2
def rInR (neg : Bool) : R2 := fun x y H Q => ∃ i a lo hi, x = V.int i ∧ y = V.ref a ∧ H a = some (.rng lo hi) ∧ Q (.bl (if neg then !decide (lo ≤ i ∧ i < hi) else decide (lo ≤ i ∧ i < hi))) H
theorem op_notInR : OpR X (compareOp .NotIn) (rInR true) := by
  intro ps s0 σ0 H0 x y vx vy Q I rx ry hq
  obtain ⟨i, a, lo, hi, rfl, rfl, ha, q⟩ := hq
  obtain ⟨k, rfl⟩ := rx
  cases ry
  obtain ⟨ta, tb, tc, ho⟩ := I.hok a _ ha
  show wpAny _ _ (do return Value.bool (!(← contains (.ref a) (.int i k)))) _ _ s0
  refine wpAny_bind ?_
  refine wpAny_contains_slot (T := "range") ?t1 F.slot_range_contains ?t2
  case t1 => exact ⟨_, ho, rfl⟩
  case t2 =>
  refine call_meets F.slot_range_contains ?t3 F.entry_range_contains (F.args_range_contains_2 _ _) (q_contains a lo hi i ta tb tc k) ?t4
  case t3 => exact ⟨_, ho, rfl⟩
  case t4 =>
  refine ⟨ho, wpAny_truthy_bool (wpAny_pure ?_)⟩
  refine ⟨.bl _, H0, I, rfl, ?_⟩
  rw [place1]
  exact q
end
section
variable {K : PySem.W.Frag} {b : Bid} {l : Addr} {H H' Hd Hd' Hn H1 H2 Hm : Hp} {σ : L2.St} {ta tb te : TE} {t u : TT} {tl th : TO} {tr : TA} {n i j j2 : Nat} {p : Int → Prop} {P : PyData → Prop} {D : Ends} {tu tw tz : TS} {d d1 d2 : PyData} {ds es : List PyData} {xs : List V} {lo hi : Option Int} {wi : TI} {g : TG} {x : V}
theorem ed_tupleL (h : EvD K te σ Hd (.list ds)) : EvD K (tCB (rTupS K) (tCons te tNil)) σ Hd (.tuple ds) := fun H s Q q =>
  h H s _ fun v H2 Hn g hd => by
    cases hd with
    | @lst a xs ds hs hall => exact ⟨a, xs, rfl, Or.inl ⟨ex_l g.sub hs, fun r hr => q (.ref r) _ _ (g.trans (Gr.new g.sub hr)) (.tup (st_of upd_same) (dpa_mono (Ex.new (fresh_back g.sub hr)) _ hall))⟩⟩
theorem ed_catT (ha : EvD K ta σ Hd (.tuple ds)) (hb : EvD K tb σ Hd (.tuple es)) (hl : ds.length + es.length ≤ 100000) : EvD K (tOp (rCatA K) ta tb) σ Hd (.tuple (ds ++ es)) := fun H s Q q =>
  ha H s _ fun v H2 Hn g hd => hb.mono g.dx H2 g.sub _ fun v2 H3 Hm g3 hd3 => by
    have hd' := dp_mono g3.dx _ hd
    cases hd' with
    | @tup a xs ds hs hall =>
      have h3 := hd3
      cases hd3 with
      | @tup a2 ys es hs2 hall2 =>
        refine ⟨a, a2, xs, ys, rfl, rfl, ex_t g3.sub hs, ex_t g3.sub hs2, sz_of (by rw [dpa_len hall, dpa_len hall2]; exact hl), fun e => ?_, fun e e2 => ?_, fun e e2 r hr => ?_⟩
        · subst e
          cases hall
          exact q _ H3 Hm (g.trans g3) h3
        · subst e2
          cases hall2
          rw [List.append_nil] at q
          exact q _ H3 Hm (g.trans g3) (.tup hs hall)
        · exact q (.ref r) _ _ ((g.trans g3).trans (Gr.new g3.sub hr)) (.tup (st_of upd_same) (dpa_mono (Ex.new (fresh_back g3.sub hr)) _ (dpa_app hall hall2)))
def cutD (ds : List PyData) (lo hi : Option Int) : List PyData := (ds.drop (HT.sIx ds.length 0 lo)).take (HT.sIx ds.length ds.length hi - HT.sIx ds.length 0 lo)
theorem dpa_cut {vs : List V} (h : DpAll K H vs ds) : DpAll K H (cutV vs lo hi) (cutD ds lo hi) := by
  unfold cutV cutD
  rw [dpa_len h]
  exact dpa_take _ (dpa_drop _ h)
theorem cut_done {a : Addr} {Q : VK} {H4 : Hp} (hs : SqT K Hn a xs) (hall : DpAll K Hn xs ds) (s : Ex Hn H4) (q : ∀ v H5 Hm, Gr Hn H4 Hm H5 → Dp K Hm v (.tuple (cutD ds lo hi)) → Q v H5) : rSlA K (.ref a) lo hi H4 Q := by
  refine ⟨a, xs, rfl, ex_t s hs, fun hw => ?_, fun _ r hr => ?_⟩
  · have e : cutD ds lo hi = ds := by
      unfold cutD
      rw [dpa_len hall] at hw
      rw [hw.1, hw.2, List.drop_zero, Nat.sub_zero, List.take_length]
    refine q _ H4 Hn (Gr.refl s) ?_
    rw [e]
    exact .tup hs hall
  · exact q (.ref r) _ _ (Gr.new s hr) (.tup (st_of upd_same) (dpa_mono (Ex.new (fresh_back s hr)) _ (dpa_cut hall)))
theorem ed_slT (h : EvD K te σ Hd (.tuple ds)) (h1 : EvO tl σ Hd lo) (h2 : EvO th σ Hd hi) : EvD K (tSl (rSlA K) te tl th) σ Hd (.tuple (cutD ds lo hi)) := fun H s Q q =>
  h H s _ fun v H2 Hn g hd => by
    cases hd with
    | @tup a xs ds hs hall =>
      have e0 : ∀ {H3}, Ex H2 H3 → Ex Hd H3 := fun e => (g.dx.trans g.sub).trans e
      refine h1 H2 (g.dx.trans g.sub) _ fun H3 e3 => h2 H3 (e0 e3) _ fun H4 e4 => cut_done hs hall ((g.sub.trans e3).trans e4) fun v H5 Hm g5 hv => q v H5 Hm ((g.post (e3.trans e4)).trans g5) hv
/-- t[:e], e drawn -/
theorem eb_slT (h : EvD K te σ Hd (.tuple ds)) (h2 : EvB K b tb σ Hd (isI p)) : EvB K b (tSl (rSlA K) te tNoPart (tPart tb)) σ Hd (fun d => ∃ i, p i ∧ d = .tuple (cutD ds none (some i))) := fun hb H s B Q q =>
  h H s _ fun v H2 Hn g hd => by
    cases hd with
    | @tup a xs ds hs hall =>
      have gb := GrB.of g B
      refine h2.mono g.dx (gb.bn hb B) H2 g.sub gb.bx _ fun v3 H3 Hm d3 g3 hd3 hp3 => ?_
      obtain ⟨i, rfl, pi⟩ := hp3
      cases hd3
      refine ⟨i, rfl, cut_done (ex_t g3.dx hs) (dpa_mono g3.dx _ hall) g3.sub fun v H5 Hk g5 hv => q v H5 Hk _ ?_ hv ⟨i, pi, rfl⟩⟩
      exact (gb.trans g3 hb B).trans (GrB.of g5 g3.bx) hb B
theorem ed_repT {k : Int} (ha : EvD K ta σ Hd (.tuple ds)) (hk : Ev tb σ Hd (.int k)) (hne : ds ≠ []) (h0 : 2 ≤ k ∧ k ≤ 1000) (hl : ds.length ≤ 1000) : EvD K (tOp (rRepT K) ta tb) σ Hd (.tuple (List.replicate k.toNat ds).flatten) := fun H s Q q =>
  ha H s _ fun v H2 Hn g hd => hk.mono g.dx H2 g.sub _ fun H3 e3 => by
    cases hd with
    | @tup a xs ds hs hall =>
      refine ⟨a, k, xs, rfl, rfl, ex_t (g.sub.trans e3) hs, fun e => ?_, h0.1, h0.2, by rw [dpa_len hall]; exact hl, fun r hr => q (.ref r) _ _ ((g.post e3).trans (Gr.new (g.sub.trans e3) hr)) (.tup (st_of upd_same) (dpa_mono (Ex.new (fresh_back (g.sub.trans e3) hr)) _ (dpa_rep hall _)))⟩
      subst e
      cases hall
      exact hne rfl
theorem ev_inR {neg : Bool} {i lo hi : Int} (ha : Ev ta σ H (.int i)) (h1 : EvA tr σ H [.int lo, .int hi]) : Ev (tOp (rInR neg) ta (tCB rRg2 tr)) σ H (.bl (if neg then !decide (lo ≤ i ∧ i < hi) else decide (lo ≤ i ∧ i < hi))) := fun H1 e1 Q q =>
  ha H1 e1 _ fun H2 e2 => h1 H2 (e1.trans e2) _ fun H3 e3 => ⟨lo, hi, rfl, fun p hp => ⟨i, p, lo, hi, rfl, rfl, upd_same, q _ ((e2.trans e3).trans (Ex.new hp))⟩⟩
/-- a, b = e -/
theorem go_two (s : Ex Hd H) (h : EvD K te σ Hd (.tuple [d1, d2])) (k : ∀ v1 v2 H' Hn, Gr Hd H Hn H' → Dp K Hn v1 d1 → Dp K Hn v2 d2 → Go tz D ((σ.set i (some v1)).set j (some v2)) H') : Go (tSeq (tAsg te (gTup K 2 (gCons (gName i) (gCons (gName j) gNil)))) tz) D σ H := fun H1 e1 =>
  h H1 (s.trans e1) _ fun v H2 Hn g hd => by
    cases hd with
    | @tup a xs ds hs hall =>
      cases hall with
      | cons h1 h2 =>
        cases h2 with
        | cons h2 h3 =>
          cases h3
          exact ⟨a, _, rfl, ex_t g.sub hs, rfl, _, _, rfl, _, _, rfl, rfl, k _ _ H2 Hn (g.pre e1) h1 h2 H2 (Ex.refl _)⟩
theorem go_appD (s : Ex Hd H) (hl : H l = some (.lst xs)) (ha : Ev ta σ H (.ref l)) (h : EvD K te σ Hd d) (hz : xs.length < 100000) (k : ∀ v H' Hn, Gr Hd H Hn H' → Dp K Hn v d → Go tz D σ (upd H' l (.lst (xs ++ [v])))) :
    Go (tSeq (tDrop (tBM K "list" rAppend ta (tCons te tNil))) tz) D σ H := fun H1 e1 =>
  ha H1 e1 _ fun H2 e2 => ⟨Or.inl ⟨rfl, xs, sq_of ((e1.trans e2) _ _ hl)⟩, h H2 ((s.trans e1).trans e2) _ fun v H3 Hn g hd => ⟨l, xs, v, rfl, rfl, g.ex _ _ ((e1.trans e2) _ _ hl), sz_lt hz, k v H3 Hn (g.pre (e1.trans e2)) hd _ (Ex.refl _)⟩⟩
theorem ex_add {o : HO} (s : Ex Hd H) (h : H l = some o) : Ex (upd Hd l o) H := fun a u ha => by
  by_cases e : a = l
  · subst e
    rw [upd_same] at ha
    exact h.trans ha
  · rw [upd_ne e] at ha
    exact s a u ha
/-- a test that draws -/
def EvBT (K : PySem.W.Frag) (b : Bid) (t : TT) (σ : L2.St) (Hd : Hp) : Prop := Hd b.b = none → ∀ H, Ex Hd H → Bx H b → ∀ Q : Bool → Hp → Prop, (∀ c H2 Hn, GrB b Hd H Hn H2 → Q c H2) → t σ H Q
theorem ebt_of {c : Bool} (h : EvT t σ Hd c) : EvBT K b t σ Hd := fun hb H s B Q q => h H s _ fun H2 e => q c H2 Hd (GrB.of (Gr.ext s e) B)
theorem EvBT.mono (e : Ex Hd Hd') (h : EvBT K b t σ Hd) : EvBT K b t σ Hd' := fun hb H s B Q q => h (fresh_back e hb) H (e.trans s) B Q fun c H2 Hn g => q c H2 _ (g.up e s hb).1
theorem ebt_and (h : EvBT K b t σ Hd) (h2 : EvBT K b u σ Hd) : EvBT K b (tAnd t u) σ Hd := fun hb H s B Q q => h hb H s B _ fun c H2 Hn g => by
  cases c with
  | true =>
    show u σ H2 Q
    exact h2.mono g.dx (g.bn hb B) H2 g.sub g.bx Q fun c H3 Hm g3 => q c H3 Hm (g.trans g3 hb B)
  | false => exact q false H2 Hn g
theorem ebt_I0 {gg : Int → Int → V} {f : Int → Int → Bool} {p p' : Int → Prop} (hg : ∀ i j, gg i j = .bl (f i j)) (ha : EvB K b ta σ Hd (isI p)) (hb' : EvB K b tb σ Hd (isI p')) : EvBT K b (tTest (tOp (rI0 gg) ta tb)) σ Hd := fun hb H s B Q q =>
  ha hb H s B _ fun v H1 Hn d g hd hp => hb'.mono g.dx (g.bn hb B) H1 g.sub g.bx _ fun v2 H2 Hm d2 g2 hd2 hp2 => by
    obtain ⟨i, rfl, pi⟩ := hp
    obtain ⟨j, rfl, pj⟩ := hp2
    cases hd
    cases hd2
    exact ⟨i, j, rfl, rfl, f i j, hg i j, q _ H2 Hm (g.trans g2 hb B)⟩
theorem go_whenB (hb : Hd b.b = none) (s : Ex Hd H) (B : Bx H b) (h : EvBT K b t σ Hd) (h1 : ∀ H' Hn, GrB b Hd H Hn H' → Go tu { D with nx := tz D } σ H') (h2 : ∀ H' Hn, GrB b Hd H Hn H' → Go tz D σ H') : Go (tSeq (tIfS t tu tNext) tz) D σ H := fun H1 e1 =>
  h hb H1 (s.trans e1) (B.mono e1) _ fun c H2 Hn g => by
    cases c with
    | true => exact h1 H2 Hn (g.pre e1) H2 (Ex.refl _)
    | false => exact h2 H2 Hn (g.pre e1) H2 (Ex.refl _)
/-- a comprehension whose items draw -/
theorem eb_lc {S : Nat → L2.St → L2.St → Hp → Prop} {vs : List Nat} {PP : PyData → Prop} (h : EvI K wi g σ Hd n S) (hn : n ≤ 40000)
    (ht : ∀ (i : Nat) (σ2 : L2.St) (Hn : Hp), i < n → Ex Hd Hn → S i (wipe σ vs) σ2 Hn → wipe σ2 vs = wipe σ vs ∧ EvB K b te σ2 Hn PP) : EvB K b (tLc wi g tYes te vs) σ Hd (fun d => ∃ ds, d = .list ds ∧ ds.length = n ∧ ∀ e ∈ ds, PP e) := fun hb H s B Q q =>
  h H s _ fun J H1 Hn G Y gr w hG hY Dl hD => by
    have gb := GrB.of gr B
    have hbn := gb.bn hb B
    obtain ⟨nb, nca⟩ := gb.bx.apart hD
    refine lc_it w (fun i H' => i ≤ n ∧ ∃ Hm acc ds, GrB b Hn H1 Hm H' ∧ Hm Dl = none ∧ H' Dl = some (.lst acc) ∧ DpAll K Hm acc ds ∧ ds.length = i ∧ ∀ e ∈ ds, PP e) ⟨Nat.zero_le _, Hn, [], [], GrB.of (Gr.alloc gr.sub hD) gb.bx, fresh_back gr.sub hD, upd_same, .nil, rfl, fun _ h => by cases h⟩ (fun i H' _ p => ?_) (fun i x H' H'' hi p y => ?_) (fun H' p => ?_)
    · obtain ⟨_, Hm, acc, ds, g1, _⟩ := p
      exact hG H' (g1.dx.trans g1.sub)
    · obtain ⟨_, Hm, acc, ds, g1, hm, h2, hac, hln, hpp⟩ := p
      refine hY i x H' H'' _ _ hi (g1.dx.trans g1.sub) y fun σ2 H3 e3 hS => ?_
      obtain ⟨hw, hE⟩ := ht i σ2 Hn hi gr.dx hS
      refine ⟨hw, ?_⟩
      have al : acc.length < sizeLine := sz_lt (by rw [dpa_len hac]; omega)
      have hbm := g1.bn hbn gb.bx
      refine (hE.mono g1.dx) hbm H3 (g1.sub.trans e3) (g1.bx.mono e3) _ fun y H5 Ho d5 g5 hy hp5 => ?_
      have h3 : H3 Dl = some (.lst acc) := e3 _ _ h2
      have ho : Ho Dl = none := g5.fr _ _ h3 hm
      refine ⟨acc, g5.exb _ _ nb h3, al, hi, Ho, acc ++ [y], ds ++ [d5], ⟨fun a o na ha => ?_, g1.dx.trans g5.dx, Ex.mut g5.sub ho, fun a o ha hd => ?_, g5.bx.keep nb nca⟩, ho, upd_same, dpa_app (dpa_mono g5.dx _ hac) (.cons hy .nil), by rw [List.length_append, hln]; rfl, fun e he => ?_⟩
      · rw [upd_ne (ne_of_none ha hD)]
        exact g5.exb a o na (e3 a o (g1.exb a o na ha))
      · by_cases e : a = b.b
        · rw [e]
          exact g5.bn hbm (g1.bx.mono e3)
        · exact g5.fr a o (e3 a o (g1.exb a o e ha)) (g1.fr a o ha hd)
      · rcases List.mem_append.mp he with he | he
        · exact hpp e he
        · rcases List.mem_cons.mp he with rfl | he
          · exact hp5
          · cases he
    · obtain ⟨_, Hm, acc, ds, g1, hm, h2, hac, hln, hpp⟩ := p
      refine q (.ref Dl) H' (upd Hm Dl (.lst acc)) (.list ds) ⟨fun a o na ha => g1.exb a o na (gr.ex a o ha), (gr.dx.trans g1.dx).trans (Ex.new hm), ex_add g1.sub h2, fun a o ha hd => ?_, g1.bx⟩ (.lst (sq_of upd_same) (dpa_mono (Ex.new hm) _ hac)) ⟨ds, rfl, hln, hpp⟩
      have ha1 := gr.ex a o ha
      rw [upd_ne (ne_of_none ha1 hD)]
      exact g1.fr a o ha1 (gr.fr a o ha hd)
theorem eb_tupleL {Ps : List PyData → Prop} (h : EvB K b te σ Hd (fun d => ∃ ds, d = .list ds ∧ Ps ds)) : EvB K b (tCB (rTupS K) (tCons te tNil)) σ Hd (fun d => ∃ ds, d = .tuple ds ∧ Ps ds) := fun hb H s B Q q =>
  h hb H s B _ fun v H2 Hn d g hd hp => by
    obtain ⟨ds, rfl, ps⟩ := hp
    cases hd with
    | @lst a xs ds hs hall => exact ⟨a, xs, rfl, Or.inl ⟨ex_l g.sub hs, fun r hr => q (.ref r) _ _ (.tuple ds) (g.trans (GrB.of (Gr.new g.sub hr) g.bx) hb B) (.tup (st_of upd_same) (dpa_mono (Ex.new (fresh_back g.sub hr)) _ hall)) ⟨ds, rfl, ps⟩⟩⟩
end
end Cot
namespace Cot
open PySem L2 Evl
section
variable {K : PySem.W.Frag} {b : Bid} {l : Addr} {o : HO} {H H' Hd Hg Hd' Hn H1 H2 Hm : Hp}
theorem GrB.fresh (G : GrB b Hd H Hg H') (h : H' l = none) : H l = none := by
  obtain ⟨ob, hob⟩ := G.bx.some
  have n : l ≠ b.b := (ne_of_none hob h).symm
  cases e : H l with
  | none => rfl
  | some u =>
    rw [G.exb l u n e] at h
    cases h
theorem GrB.mut (G : GrB b Hd H Hg H') (h0 : H l = none) (hg : Hg l = none) (n1 : l ≠ b.b) (n2 : l ≠ b.ca) : GrB b Hd H Hg (upd H' l o) :=
  ⟨fun a u na ha => by rw [upd_ne (ne_of_none ha h0)]; exact G.exb a u na ha, G.dx, Ex.mut G.sub hg, G.fr, G.bx.keep n1 n2⟩
theorem GrB.add (G : GrB b Hd H Hg H') (h0 : H l = none) (hg : Hg l = none) (hl : H' l = some o) : GrB b Hd H (upd Hg l o) H' :=
  ⟨G.exb, G.dx.trans (Ex.new hg), ex_add G.sub hl, fun a u ha hd => by rw [upd_ne (ne_of_none ha h0)]; exact G.fr a u ha hd, G.bx⟩
theorem GrB.low (e : Ex Hg Hd') (g : GrB b Hd' H Hn H2) : GrB b Hg H Hg H2 := ⟨g.exb, Ex.refl _, (e.trans g.dx).trans g.sub, fun _ _ _ h => h, g.bx⟩
theorem GrB.post (g : GrB b Hd H Hn H1) (e : Ex H1 H2) : GrB b Hd H Hn H2 := ⟨fun a o n h => e a o (g.exb a o n h), g.dx, g.sub.trans e, g.fr, g.bx.mono e⟩
end
end Cot
set_option Elab.async false
set_option linter.all false
set_option maxRecDepth 100000
set_option maxHeartbeats 4000000
namespace Cot
open PySem PySem.Spec PyProof.Rows L2 Evl
abbrev tupItO (t : Addr) : Obj := { cls := .type "tuple_iterator", data := .fields #[.ref t, .int 0 0] }
end Cot
namespace Cot
open PySem PySem.Spec PyProof.Rows L2 Evl
end Cot
set_option Elab.async false
set_option linter.all false
set_option maxRecDepth 100000
set_option maxHeartbeats 4000000
namespace Cot
open PySem PySem.Spec PyProof.Rows L2 L2H HotX
section
variable {prog : Program} {w : World} {A : Around} {E : Value → Shared → Prop} {s : Shared}
/-- StopIteration() is made and raised -/
theorem stop_hot {α : Type} {x1 : Addr} {Q : α → Shared → Prop} (hot : HotAt A x1 s.heap)
    (hE : ∀ h' e, (∀ b o, s.heap.get? b = some o → h'.get? b = some o) → (∃ o, h'.get? e = some o ∧ o.cls = .type "StopIteration") → E (.ref e) { s with heap := h' }) :
    wpAny (model prog w) A (newExc (.type "StopIteration") [] >>= fun e => (raiseNew e : Sem α)) Q E s := by
  obtain ⟨hh, o1, vs1, h1, d1, c1⟩ := hot
  refine wpAny_bind ?_
  simp only [newExc, newTuple]
  refine wpAny_bind (wpAny_newObj_type ?a1 (by size_fits))
  case a1 =>
  refine wpAny_bind (m := firstArgMember _ _) (wpAny_of_eq (a := Value.none) ?a2 ?a3)
  case a2 => first | rfl | (simp only [firstArgMember]; rfl)
  case a3 =>
  refine wpAny_newObj_type ?a4 (by size_fits)
  case a4 =>
  have k1 := Heap.get?_push_of_some ({ cls := .type "tuple", data := .seq #[] } : Obj) h1
  refine raiseNew_hot ⟨hh, o1, vs1, Heap.get?_push_of_some _ (Heap.get?_push_of_some _ h1), d1, c1⟩ ?b1 (Heap.get?_push_size _ rfl) rfl ?b2 ?b3
  case b1 => exact Nat.ne_of_lt (Heap.lt_size (Heap.get?_push_of_some _ h1))
  case b2 => first | (simp; done) | (simp; omega) | (simp only [Array.size_append]; simp; omega)
  case b3 =>
  refine hE _ _ (fun b o e => ?_) ⟨_, Heap.get?_update_self _ (Heap.get?_push_size _ rfl) rfl, rfl⟩
  have e2 := Heap.get?_push_of_some ({ cls := .type "tuple", data := .seq #[] } : Obj) e
  rw [Heap.get?_update_other _ _ (Nat.ne_of_gt (Heap.lt_size (Heap.get?_push_of_some _ e)))]
  exact Heap.get?_push_of_some _ (Heap.get?_push_of_some _ e)
/-- a list's iterator at its end -/
theorem listEnd_hot {x1 it l : Addr} {i : Nat} {items : Array Value} {Q : Option Value → Shared → Prop} (hot : HotAt A x1 s.heap) (n1 : x1 ≠ it) (hit : s.heap.IsListIter it l i) (hl : s.heap.IsList l items) (hx : items[i]? = none)
    (hQ : ∀ h', Heap.ExtBut it s.heap h' → Q none { s with heap := h' }) : wpAny (model prog w) A (pyNext (.ref it)) Q E s := by
  obtain ⟨o, ho, hc, hd⟩ := id hit
  obtain ⟨ol, hol, _, nl, hdl⟩ := hl
  have hty := hit.typeIs
  unfold pyNext
  apply wpAny_bind
  apply wpAny_attempt
  refine wpAny_callSpecial?_slot (name := Str.ofString "__next__") hty slot_listiter_next (wpAny_call_entry slot_listiter_next hty entry_listiter_next ?_ (args_listiter_next _))
  show wpAny _ A.in1 (field (Value.ref it) 0 >>= _) _ _ _
  refine wpAny_bind (wpAny_field ho hd (x := .ref l) rfl ?f0)
  case f0 =>
  have nn : ¬ ((Value.ref l == Value.none) = true) := Bool.false_ne_true
  show wpAny _ _ (ite ((Value.ref l == Value.none) = true) _ _) _ _ s
  rw [if_neg nn]
  show wpAny _ A.in1 (field (Value.ref it) 1 >>= _) _ _ _
  refine wpAny_bind (wpAny_field ho hd (x := .int i 0) rfl ?f9)
  case f9 =>
  show wpAny _ A.in1 (seqItems? (Value.ref l) >>= _) _ _ _
  refine wpAny_bind (wpAny_seqItems hol hdl ?f1)
  case f1 =>
  simp only [Int.toNat_natCast, hx]
  refine wpAny_bind (wpAny_rule (wpAny_bind (wpAny_setField ho hd (by simp) ?f2)))
  case f2 =>
  obtain ⟨hh, o1, vs1, h1, d1, c1⟩ := hot
  refine stop_hot (A := A.in1) (x1 := x1) ⟨hh, o1, vs1, ?g1, d1, c1⟩ fun h' e k ke => ?g2
  case g1 =>
    show (Heap.update s.heap it _).get? x1 = some o1
    rw [Heap.get?_update_other _ _ n1.symm]
    exact h1
  case g2 =>
  obtain ⟨oe, q1, q2⟩ := ke
  refine wpAny_bind (wpAny_isInstance (T := "StopIteration") (b := true) ⟨oe, q1, q2⟩ isSubtype_stop (wpAny_pure (hQ h' fun b u hb hu => k b u ?g3)))
  case g3 =>
    show (Heap.update s.heap it _).get? b = some u
    rw [Heap.get?_update_other _ _ (Ne.symm hb)]
    exact hu
/-- a tuple's iterator at its end -/
theorem tupEnd_hot {x1 it l : Addr} {i : Nat} {items : Array Value} {Q : Option Value → Shared → Prop} (hot : HotAt A x1 s.heap) (n1 : x1 ≠ it) (hit : IsTupIter s.heap it l i) (hl : IsTup s.heap l items) (hx : items[i]? = none)
    (hQ : ∀ h', Heap.ExtBut it s.heap h' → Q none { s with heap := h' }) : wpAny (model prog w) A (pyNext (.ref it)) Q E s := by
  obtain ⟨o, ho, hc, hd⟩ := id hit
  obtain ⟨ol, hol, _, nl, hdl⟩ := hl
  have hty := hit.typeIs
  unfold pyNext
  apply wpAny_bind
  apply wpAny_attempt
  refine wpAny_callSpecial?_slot (name := Str.ofString "__next__") hty slot_tupleiter_next (wpAny_call_entry slot_tupleiter_next hty entry_tupleiter_next ?_ (args_tupleiter_next _))
  show wpAny _ A.in1 (field (Value.ref it) 0 >>= _) _ _ _
  refine wpAny_bind (wpAny_field ho hd (x := .ref l) rfl ?f0)
  case f0 =>
  have nn : ¬ ((Value.ref l == Value.none) = true) := Bool.false_ne_true
  show wpAny _ _ (ite ((Value.ref l == Value.none) = true) _ _) _ _ s
  rw [if_neg nn]
  show wpAny _ A.in1 (field (Value.ref it) 1 >>= _) _ _ _
  refine wpAny_bind (wpAny_field ho hd (x := .int i 0) rfl ?f9)
  case f9 =>
  show wpAny _ A.in1 (seqItems? (Value.ref l) >>= _) _ _ _
  refine wpAny_bind (wpAny_seqItems hol hdl ?f1)
  case f1 =>
  simp only [Int.toNat_natCast, hx]
  refine wpAny_bind (wpAny_rule (wpAny_bind (wpAny_setField ho hd (by simp) ?f2)))
  case f2 =>
  obtain ⟨hh, o1, vs1, h1, d1, c1⟩ := hot
  refine stop_hot (A := A.in1) (x1 := x1) ⟨hh, o1, vs1, ?g1, d1, c1⟩ fun h' e k ke => ?g2
  case g1 =>
    show (Heap.update s.heap it _).get? x1 = some o1
    rw [Heap.get?_update_other _ _ n1.symm]
    exact h1
  case g2 =>
  obtain ⟨oe, q1, q2⟩ := ke
  refine wpAny_bind (wpAny_isInstance (T := "StopIteration") (b := true) ⟨oe, q1, q2⟩ isSubtype_stop (wpAny_pure (hQ h' fun b u hb hu => k b u ?g3)))
  case g3 =>
    show (Heap.update s.heap it _).get? b = some u
    rw [Heap.get?_update_other _ _ (Ne.symm hb)]
    exact hu
/-- a, b, .. = a tuple -/
theorem unpack_hot {x1 t : Addr} {items : Array Value} {env : Env} {elts : List Expr} {k1} {pos : Pos} {Q : Unit → Shared → Prop} (hot : HotAt A x1 s.heap) (ht : IsTup s.heap t items) (hn : (assignEach elts env).length = items.size) (hstar : (assignEach elts env).findIdx? (·.1) = none)
    (hq : ∀ h', Heap.ExtBut s.heap.objs.size s.heap h' → wpAny (model prog w) A (assignInOrder ((assignEach elts env).map (·.2)) items.toList) Q E { s with heap := h' }) :
    wpAny (model prog w) A (assign (.Tuple elts k1 pos) env (.ref t)) Q E s := by
  have nt : t ≠ s.heap.objs.size := by
    obtain ⟨o, ho, _⟩ := ht
    exact Nat.ne_of_lt (Heap.lt_size ho)
  have n1 : x1 ≠ s.heap.objs.size := by
    obtain ⟨_, o1, _, h1, _⟩ := hot
    exact Nat.ne_of_lt (Heap.lt_size h1)
  rw [assign_Tuple]
  apply wpAny_bind
  apply wpAny_standAt
  unfold unpack
  rw [hn, hstar]
  apply wpAny_bind
  apply wpAny_holding
  unfold unpackItems notIterableAtAll
  refine wpAny_bind (wpAny_bind (wpAny_specialOf ht.typeIs slot_tuple_iter.lookup (wpAny_pure ?u1)))
  case u1 =>
  simp only [Bool.false_eq_true, if_false]
  refine wpAny_bind (wpAny_holding (iter_tuple ht ?u2))
  case u2 =>
  refine wpAny_bind (wpAny_holding (draw_tuple nt items.size 0 _ _ ⟨_, Heap.get?_push_size _ rfl, rfl, rfl⟩ (ht.push _) (by omega) fun ha ia sa => ?u3))
  case u3 =>
  have all : (items.toList.drop 0).take items.size = items.toList := by
    rw [List.drop_zero]
    exact List.take_of_length_le (by simp)
  rw [all, if_neg (by simp)]
  have ta : IsTup ha t items := (ht.push _).extBut sa.extBut nt
  have hota : HotAt A x1 ha := by
    obtain ⟨hh, o1, vs1, h1, d1, c1⟩ := hot
    exact ⟨hh, o1, vs1, sa.extBut _ _ n1 (Heap.get?_push_of_some _ h1), d1, c1⟩
  refine wpAny_bind (wpAny_holding (tupEnd_hot hota n1 ia ta (by simp) fun hb eb => ?u4))
  case u4 =>
  simp only [Option.isSome_none, Bool.false_eq_true, if_false]
  refine wpAny_pure (hq hb fun c o hc e => eb c o hc (sa.extBut c o hc (Heap.get?_push_of_some _ e)))
end
/-- a context in which an exception is handled, whatever was done -/
def HotI (X : Cx) : Prop := ∀ (pins : List (Addr × Obj)) (σ : L2.St) (H : Hp) (s : Shared), Inv X pins σ H s → ∃ x1, HotAt X.A x1 s.heap
theorem pg_tupH {X : Cx} {es : List Expr} {k n : Nat} {t : TGs} {pos : Pos} (hc : HotI X) (h : PGs X es t)
    (hn : (assignEach es X.env).length = n := by rfl) (hst : (assignEach es X.env).findIdx? (·.1) = none := by rfl) : PG X (.Tuple es k pos) (gTup X.K n t) := by
  refine ⟨fun pins s σ H v u Q I r hw => ?_⟩
  obtain ⟨a, xs, rfl, hq, hl, hw⟩ := hw
  cases r
  obtain ⟨its, rv, ht, _⟩ := I.tuple hq
  obtain ⟨x1, hot⟩ := hc pins σ H s I
  refine unpack_hot hot ht (by simp [hn, ← hl, rv.length]) hst fun h' hx => ?_
  have J : Inv X pins σ H { s with heap := h' } := I.kept (t' := s.toks) fun b o e => hx b o (Nat.ne_of_lt (Heap.lt_size e)) e
  exact h.run pins _ σ H xs _ Q J (by simpa using rv) hw
/-- what stands untracked where a block begins stands all along, so the handled exception too -/
theorem hot_blk {X : Cx} {s : Shared} {H : Hp} {scope : Scope} {ce : Env} {fp : List Addr} {p : Addr × Obj} (h1 : Hot1 X.A p) (g : s.heap.get? p.1 = some p.2) (n : H p.1 = none) (f : p.1 ∉ frs X.stack) (nf : p.1 ∉ fp) : HotI (X.blk s H scope ce fp) := fun pins σ H' s' I => by
  obtain ⟨hh, vs, d, c⟩ := h1
  refine ⟨p.1, hh, p.2, vs, I.base.keep p.1 p.2 g n ?_ nf, d, c⟩
  exact f
theorem pe_lcH {X : Cx} {elt tg l : Expr} {ifs : List Expr} {scope : Scope} {own : List (Str × Nat)} {pos : Pos} {tl te : TE} {g : TG} {tt : TT} (hot : HotC X) (hN : X.N.Nodup) (hl : PE X l tl) (ok : BlkOk X.N X.env.scope scope own)
    (hg : ∀ (s : Shared) (H : Hp) (C : Addr) (cl : List (Str × Addr)) (fp : List Addr), HotI (X.blk s H scope (compEnvC scope cl C X.env) fp) → PG (X.blk s H scope (compEnvC scope cl C X.env) fp) tg g)
    (ht : ∀ (s : Shared) (H : Hp) (C : Addr) (cl : List (Str × Addr)) (fp : List Addr), PTs (X.blk s H scope (compEnvC scope cl C X.env) fp) ifs tt)
    (he : ∀ (s : Shared) (H : Hp) (C : Addr) (cl : List (Str × Addr)) (fp : List Addr), PE (X.blk s H scope (compEnvC scope cl C X.env) fp) elt te) (hs : ∀ x, foldedSetIterable l X.env x = pure x := by intro _; rfl) :
    PE X (.ListComp elt [⟨tg, l, ifs, 0⟩] scope pos) (tLc (iList X.K tl) g tt te (own.map (·.2))) := by
  refine ⟨fun pins s σ H Q I hw => ?_⟩
  rw [eval_ListComp]
  have cells : ∀ y ∈ scope.names, y.2 = .free → ∃ c, X.env.cells.lookup y.1 = some c := fun y hy e => by
    rcases ok.free y hy e with k | k
    · exact I.ok.has _ (.inl k)
    · exact I.ok.has _ (.inr k)
  apply wpAny_comprehension_free rfl hs (closure_ok cells) ok.kind (fun y hy e => by rw [ok.uniq y hy, e])
  refine thn (hl.run pins s σ H _ I hw) fun xv sa hx => ?_
  obtain ⟨xv', Ha, Ia, ra, a, rfl, ⟨xs, hq⟩, q⟩ := hx
  cases ra
  obtain ⟨its, rv, pl, _⟩ := Ia.list hq
  apply wpAny_pyIter_list pl.isList
  -- the iterator, new
  obtain ⟨it, eit⟩ : ∃ it, it = sa.heap.objs.size := ⟨_, rfl⟩
  obtain ⟨sb, esb⟩ : ∃ sb : Shared, sb = { sa with heap := sa.heap.push { cls := .type "list_iterator", data := .fields #[.ref a, .int 0 0] } } := ⟨_, rfl⟩
  have Ib : Inv X pins σ Ha sb := by
    rw [esb]
    exact Ia.kept (t' := sa.toks) fun b o e => Heap.get?_push_of_some _ e
  have itb : sb.heap.IsListIter it a 0 := by
    rw [esb, eit]
    exact ⟨_, Heap.get?_push_size _ rfl, rfl, rfl⟩
  have fpb : FpOk X pins Ha it := by
    rw [eit]
    exact Ia.fpOk (Nat.le_refl _) (Ia.hok.fresh (Nat.le_refl _))
  rw [← eit, ← esb]
  refine wpAny_newObj_type (newEnv_comp ?_) (by show 0 ≤ sizeLine; decide)
  obtain ⟨D, eD⟩ : ∃ D, D = sb.heap.objs.size := ⟨_, rfl⟩
  have nD : Ha D = none := by
    rw [eD]
    exact Ib.hok.fresh (Nat.le_refl _)
  obtain ⟨W, ⟨m0, w0⟩, turn⟩ := q D nD
  obtain ⟨sc, esc⟩ : ∃ sc : Shared, sc = { sb with heap := sb.heap.push { cls := .type "list", data := .seq ([] : List Value).toArray } } := ⟨_, rfl⟩
  have hsc : sc.heap = sb.heap.push { cls := .type "list", data := .seq ([] : List Value).toArray } := by rw [esc]
  have Ic : Inv X pins σ (upd Ha D (.lst [])) sc := by
    rw [esc]
    refine Ib.laid (t' := sb.toks) (fun b o e => Heap.get?_push_of_some _ e) (Nat.le_of_eq eD.symm) ⟨Nat.zero_le _, [], 0, .nil, ?_⟩
    rw [eD]
    exact Heap.get?_push_size _ rfl
  have ltit : it < sb.heap.objs.size := by
    obtain ⟨o, e, _⟩ := itb
    exact Heap.lt_size e
  have nDit : it ≠ D := by
    rw [eD]
    exact Nat.ne_of_lt ltit
  have itc : sc.heap.IsListIter it a 0 := itb.at fun o e => by
    rw [hsc]
    exact Heap.get?_push_of_some _ e
  have fpc : ∀ b ∈ [it], FpOk X pins (upd Ha D (.lst [])) b ∧ b < sc.heap.objs.size := fun b hb => by
    rw [List.mem_singleton.mp hb]
    refine ⟨⟨?_, fpb.2⟩, ?_⟩
    · rw [upd_ne nDit]
      exact fpb.1
    · rw [hsc, Heap.size_push]
      exact Nat.lt_succ_of_lt ltit
  obtain ⟨p, hp1, hpn⟩ := hot
  have pc := Ic.pin p (List.mem_append_left _ hpn)
  have npit : p.1 ≠ it := fun z => fpb.2.2.2.2.2 p (List.mem_append_left _ hpn) z
  have Id := block_start Ic ok hN fpc
  rw [← esc]
  obtain ⟨Hc, eHc⟩ : ∃ Hc, Hc = upd Ha D (.lst []) := ⟨_, rfl⟩
  rw [← eHc] at Ic Id fpc w0 pc
  obtain ⟨cl, ecl⟩ : ∃ cl, cl = cellsFrom (sc.heap.objs.size + 1) scope.names (cloFrom X.env.cells scope.names []) := ⟨_, rfl⟩
  rw [← ecl] at Id ⊢
  obtain ⟨C, eC⟩ : ∃ C, C = sc.heap.objs.size := ⟨_, rfl⟩
  have hI : HotI (X.blk sc Hc scope (compEnvC scope cl C X.env) [it]) := hot_blk hp1 pc.1 pc.2.1 (fun z => (List.mem_cons.mp (Ic.stkSub p.1 z)).elim pc.2.2.1 pc.2.2.2.1) (by simp [npit])
  have pg := hg sc Hc C cl [it] hI
  have pt := ht sc Hc C cl [it]
  have pe := he sc Hc C cl [it]
  obtain ⟨sd, esd⟩ : ∃ sd : Shared, sd = { sc with heap := pushCells (sc.heap.push { cls := .type "dict", data := .dict #[] }) scope.names } := ⟨_, rfl⟩
  obtain ⟨ce, ece⟩ : ∃ ce, ce = compEnvC scope cl C X.env := ⟨_, rfl⟩
  rw [← eC] at Id
  rw [← ece] at Id pg pt pe hI
  have Id' : Inv (X.blk sc Hc scope ce [it]) [] (wipe σ (own.map (·.2))) Hc sd := by
    rw [esd]
    exact Id
  have locC : ce.locals = C := by rw [ece]; rfl
  have itd : sd.heap.IsListIter it a 0 := itc.at fun o e => by
    rw [esd]
    exact pushCells_keeps _ _ _ _ (Heap.get?_push_of_some _ e)
  show codeAny (model X.prog X.w) X.A (.compStart (.ListComp elt [⟨tg, l, ifs, 0⟩] scope pos) 0 (.ref it) (.ref sb.heap.objs.size) (compEnvC scope cl sc.heap.objs.size X.env)) (compPost (model X.prog X.w) X.A X.xe none (EP X pins σ Q) (.ref sb.heap.objs.size) sc.heap.objs.size) _
  rw [← esd, ← eC, ← ece, ← eD]
  -- the iterator's own place, at any state of the block
  have fpAt : ∀ {σ' : L2.St} {H' : Hp} {s' : Shared}, Inv (X.blk sc Hc scope ce [it]) [] σ' H' s' → H' it = none → FpOk (X.blk sc Hc scope ce [it]) [] H' it := fun {σ' H' s'} J hn =>
    ⟨hn, (J.ok.exf it (by simp)).1, J.ok.exfs it (by simp), .inl (by simp), fun x c e => (J.ok.exf it (by simp)).2 x c e, fun z hz => absurd (show z ∈ ([] : List (Addr × Obj)) ++ [] from hz) (by simp)⟩
  have loop : codeAny (model X.prog X.w) X.A (.compLoop (.ListComp elt [⟨tg, l, ifs, 0⟩] scope pos) 0 (.ref it) (.ref D) ce) (compPost (model X.prog X.w) X.A X.xe none (EP X pins σ Q) (.ref D) C) sd := by
    refine compLoop_any (fun n s' => ∃ i H', Inv (X.blk sc Hc scope ce [it]) [] (wipe σ (own.map (·.2))) H' s' ∧ s'.heap.IsListIter it a i ∧ H' it = none ∧ W i n H') ?_ m0 ⟨0, Hc, Id', itd, (fpc it (by simp)).1.1, w0⟩
    rintro n se ⟨i, He, Ie, ite, ne, we⟩
    obtain ⟨x1, hx1⟩ := hI _ _ _ _ Ie
    obtain ⟨f0, f1, f2, f3, f4, f5⟩ := fpAt Ie ne
    have nx1 : x1 ≠ it := fun z => by
      obtain ⟨_, o1, vs1, q1, q2, q3⟩ := hx1
      obtain ⟨o2, q4, q5, q6⟩ := ite
      rw [z, q4] at q1
      cases q1
      rw [q6] at q2
      cases q2
      simp at q3
    rcases turn i n He we with ⟨stop, qe⟩ | ⟨go, Nx, hNx, step⟩
    · obtain ⟨ys, hy, hly⟩ := stop
      obtain ⟨its2, rv2, pl2, _⟩ := Ie.list hy
      have l2 := rv2.length
      refine listEnd_hot hx1 nx1 ite pl2.isList (by simp; omega) fun h' eb => ?_
      have If : Inv (X.blk sc Hc scope ce [it]) [] (wipe σ (own.map (·.2))) He { se with heap := h' } := Ie.turned (t' := se.toks) (fun b o hb e => eb b o hb e) f0 f1 f3 f4 f5
      have Ig : Inv X pins σ He { se with heap := h' } := Ic.call' (ch := [it]) If.os If.base If.hok If.bare fun b hb => by
        have z := (fpc b hb).1
        exact ⟨z.2.2.2.1, z.2.1, z.2.2.2.2.1, z.2.2.2.2.2⟩
      have nC : He C = none := by
        have z : He ce.locals = none := If.free
        rw [locC] at z
        exact z
      obtain ⟨m, hm, _⟩ := If.loc
      have hm : ({ se with heap := h' } : Shared).heap.Ns ce.locals m := hm
      rw [locC] at hm
      have fC : FpOk X pins He C := by
        rw [eC] at nC ⊢
        exact Ic.fpOk (Nat.le_refl _) nC
      obtain ⟨c0, c1, c2, c3, c4, c5⟩ := fC
      exact ⟨m, hm, fun h2 sb2 => ⟨.ref D, He, Ig.turned (t' := se.toks) (fun b o hb e => (sb2.2 b hb).trans e) c0 c1 c3 c4 c5, rfl, qe⟩⟩
    · obtain ⟨ys, x, hy, hx⟩ := go
      obtain ⟨its2, rv2, pl2, _⟩ := Ie.list hy
      obtain ⟨u, hu, ru⟩ := rv2.get hx
      refine wpAny_pyNext_list_item ite pl2.isList (x := u) (by simpa using hu) fun hf itf sbf => ?_
      obtain ⟨sf, esf⟩ : ∃ sf : Shared, sf = { se with heap := hf } := ⟨_, rfl⟩
      have If : Inv (X.blk sc Hc scope ce [it]) [] (wipe σ (own.map (·.2))) He sf := by
        rw [esf]
        exact Ie.turned (t' := se.toks) (fun b o hb e => (sbf.2 b hb).trans e) f0 f1 f3 f4 f5
      have itf2 : sf.heap.IsListIter it a (i + 1) := by rw [esf]; exact itf
      rw [← esf]
      obtain ⟨oi, ei, ci, di⟩ := id itf2
      have ncell : ∀ v, oi.data ≠ .cell v := fun v z => by
        rw [di] at z
        cases z
      refine go_of (s := sf) ei ci di (by decide) ?_
      have Ip : Inv (X.blk sc Hc scope ce [it]) ([] ++ pinsAt [it] sf.heap) (wipe σ (own.map (·.2))) He sf := If.pinned (fun b hb => by rw [List.mem_singleton.mp hb]; exact fpAt If ne) (fun b hb => by rw [List.mem_singleton.mp hb]; exact ⟨oi, ei, ncell⟩)
      -- behind a turn
      have next : ∀ {σ' : L2.St} {s' : Shared} {H' : Hp}, Inv (X.blk sc Hc scope ce [it]) ([] ++ pinsAt [it] sf.heap) σ' H' s' → wipe σ' (own.map (·.2)) = wipe σ (own.map (·.2)) → Nx H' → ∃ m, m < n ∧ ∃ i H', Inv (X.blk sc Hc scope ce [it]) [] (wipe σ (own.map (·.2))) H' s' ∧ s'.heap.IsListIter it a i ∧ H' it = none ∧ W i m H' := fun {σ' s' H'} J hwp nx => by
        obtain ⟨m', lt', w'⟩ := hNx H' nx
        have pin := J.pin (it, oi) (List.mem_append_right _ (List.mem_append_right _ (mem_pinsAt (by simp) ei)))
        refine ⟨m', lt', i + 1, H', (J.unpinned (pins := [])).weak (by rw [← hwp, wipe_length]) (fun j v e => ?_), itf2.at fun o e => ?_, pin.2.1, w'⟩
        · rw [← hwp] at e
          exact (wipe_some e).1
        · rw [ei] at e
          cases e
          exact pin.1
      refine thnF (pg.run _ sf _ He x u _ Ip ru (step x He ⟨rfl, fun zs hz => by rw [Ie.list_inj hz hy]; exact hx⟩)) fun _ sg hgq => ?_
      obtain ⟨σg, Hg, Ig, hwg, qg⟩ := hgq
      refine thnF (pt.run _ sg σg Hg _ Ig qg) fun bb sh hhq => ?_
      obtain ⟨Hh, Ih, qh⟩ := hhq
      cases bb with
      | false =>
        rw [if_neg Bool.false_ne_true] at qh ⊢
        exact next Ih hwg qh
      | true =>
        rw [if_pos rfl] at qh ⊢
        refine thnF (pe.run _ sh σg Hh _ Ih qh) fun z si hiq => ?_
        obtain ⟨yv, Hi, Ii, ri, acc, hDi, hzi, nx⟩ := hiq
        exact app_ok (X := X.blk sc Hc scope ce [it]) Ii hDi hzi ri fun sj Ij => next Ij hwg nx
  exact codeAny_compStart_list loop (wpAny_pyIter_listiter itd loop)
end Cot
set_option Elab.async false
set_option linter.all false
set_option maxRecDepth 100000
set_option maxHeartbeats 4000000
namespace Cot
open PySem PySem.Spec PyProof.Rows L2 LamX
/-- the lambda's context, exceptions as L2N tells them -/
def lamN (X : Cx) (A : Around) (outer : List Env) (s : Shared) (H : Hp) (E : XK) (scope : Scope) (f c' : Addr) : Cx :=
  (lamCx X A outer s H E scope f c').wish fun e s1 => wpAny (model X.prog X.w) (A.deeper (lamEnv X scope s.heap.objs.size f c')) (leaving (lamEnv X scope s.heap.objs.size f c') e) (fun _ s2 => L2N.CX X.prog X.w outer H s E e s2) (fun e2 s2 => L2N.CX X.prog X.w outer H s E e2 s2) s1
/-- the def that calls what it got -/
def GivesN (X : Cx) (Ng : List Str) (x : Str) (sg : Scope) (g : Addr) (cdg : Value) (bg : List Stmt) (a : Str) (q : Str) (k : Nat) (TT : (XK → Hp → VK → Prop) → Hp → VK → Prop) : Prop :=
  ∀ (f c' : Addr) (s : Shared) (H : Hp) (Q : VK) (tl : XK → Hp → VK → Prop), Room (k + 1) (X.A.deeper (envOfC x sg s.heap.objs.size g cdg)) →
    (∀ (W : WX) (pn : List (Addr × Obj)) (xe : Value → Shared → Prop) (E : XK) (p1 p2 : Pos), L2N.Takes ((cxOf C8.CX0 X.prog X.w X.K X.mg X.base Ng x sg g cdg X.A X.stack s H C8.E0).tr pn xe) W → (∀ cls d σ1 H1, E cls d H1 → W cls d σ1 H1) →
      PE ((cxOf C8.CX0 X.prog X.w X.K X.mg X.base Ng x sg g cdg X.A X.stack s H C8.E0).tr pn xe) (.Call (.Name a p1) [] [] p2) (fun σz Hz Q => σz[0]? = some (some (.ref f)) ∧ Hz c' = some (CodeO c' q) ∧ tl E Hz Q)) →
    H c' = some (CodeO c' q) → TT tl H Q →
    ∃ t, PSs (cxOf C8.CX0 X.prog X.w X.K X.mg X.base Ng x sg g cdg X.A X.stack s H C8.E0).nox bg t ∧ t { nx := fun _ H1 => Q .non H1, rt := Q } (L2.start Ng [.ref f]) H
end Cot
set_option Elab.async false
set_option linter.all false
set_option maxRecDepth 100000
set_option maxHeartbeats 4000000
namespace Cot
open PySem PySem.Spec PyProof.Rows L2 L2H
/-- what such a def promises: told of the exception's place and object -/
structure FnP (P : Program) (w : World) (K : PySem.W.Frag) (mg : Str → Option Value) (base : Heap) (CX : CXT) (k : Nat) (f : Addr) (fd : FuncData) (ps : List Str) (sp : Addr × Obj → Sp) : Prop where
  ln : ∀ p vs H Q E, sp p vs H Q E → vs.length = ps.length
  go : ∀ (p : Addr × Obj) (A : Around) (st : List Env) (s : Shared) (H : Hp) (as : Args) (us : List Value) (vs : List V) (Q : VK) (E : XK), RoomH k A → Hot1 A p → PinOk st H s p →
    Env0 P w K mg base A st s H → BindsTo s fd as (ps.zip us) → Vals vs us → sp p vs H Q E → codeAny (model P w) A (.call (.ref f) as) (CR CX st P w H s Q E) s
theorem fn_ofP {P : Program} {w : World} {K : PySem.W.Frag} {mg : Str → Option Value} {base : Heap} {CX : CXT} {k : Nat} {f : Addr} {nm ql : Str} {par : Arguments} {bd : List Stmt} {sc : Scope} {dV kV doc pm cdv ct oc : Value} {an od : Option Addr} {osl : Array (Option Value)} {N ps : List Str} {sp : Addr × Obj → Sp}
    (hl : K.lookup f = some ⟨oc, od, .func (PySem.W.fnOf nm ql par bd sc dV kV doc pm an cdv ct), osl⟩) (hcd : PySem.W.codeIn K cdv ql = true) (S : FnScope N ps sc) (ln : ∀ p vs H Q E, sp p vs H Q E → vs.length = ps.length)
    (hb : ∀ (p : Addr × Obj) (A : Around) (st : List Env) (s : Shared) (H : Hp) (vs : List V) (Q : VK) (E : XK), Hot1 A p → RoomH k (A.deeper (envOfC ql sc s.heap.objs.size f cdv)) → sp p vs H Q E →
      ∃ t, PSs (cxH CX P w K mg base N ql sc f cdv A st s H E p) bd t ∧ t { nx := fun _ H1 => Q .non H1, rt := Q } (L2.start N vs) H) :
    FnP P w K mg base CX (k + 1) f (PySem.W.fnOf nm ql par bd sc dV kV doc pm an cdv ct) ps sp := by
  refine ⟨ln, ?_⟩
  intro p A st s H as us vs Q E room hot pin e0 bnd rel want
  have kin : K.In s.heap := e0.mod.kin.keeps fun b o e => (e0.bs b o e).1
  have nol : s.heap.NoLimit := e0.mod.nolimit.keeps fun b o e => (e0.bs b o e).1
  refine codeAny_call_function room.depth (kin _ _ hl) rfl S.co S.gen rfl (PySem.W.codeRec_of kin hcd) (bnd _ _ _ _ ?_)
  refine wpAny_newFunctionEnv_cells S.kind (fun y hy => ?kinds) fun env he s1 x => ?rest
  case kinds =>
    obtain ⟨n, v⟩ := y
    cases S.par n (List.of_mem_zip hy).1 with
    | inl q => exact .inl q
    | inr q => exact .inr ⟨q, PySem.W.cellsFrom_some _ _ _ (.inl q)⟩
  case rest =>
    subst he
    refine ⟨nol.keeps x.toInCall.keep, codeAny_func ?_⟩
    obtain ⟨t, ht, want2⟩ := hb p A st s H vs Q E hot (room.deeper _) want
    have I0 := inv_startH (CX := CX) (E := E) (qual := ql) (f := f) (cd := cdv) S pin e0 (ln _ _ _ _ _ want) rel x
    refine wpAny_mono (ht.run [] s1 _ H _ I0 want2) (fun fl s2 h2 => ?_) fun _ _ h2 => h2
    cases fl with
    | next =>
      obtain ⟨σ2, H2, J, q⟩ := h2
      exact ⟨V.non, H2, J.os, J.bare, J.base, J.hok, rfl, q⟩
    | ret u =>
      obtain ⟨v, σ2, H2, J, rv, q⟩ := h2
      exact ⟨v, H2, J.os, J.bare, J.base, J.hok, rv, q⟩
    | brk =>
      obtain ⟨_, _, _, q⟩ := h2
      cases q
    | cont =>
      obtain ⟨_, _, _, q⟩ := h2
      cases q
section
variable {X : Cx} {p : Addr × Obj}
theorem pe_callP {CX : CXT} {k : Nat} {f : Addr} {fd : FuncData} {ps : List Str} {sp : Addr × Obj → Sp} {E : L2.St → XK} {x : Str} {q pos : Pos} {e : Expr} {es : List Expr} {t : TA}
    (F : FnP X.prog X.w X.K X.mg X.base CX k f fd ps sp) (room : RoomH k X.A) (hot : Hot1 X.A p) (hp : p ∈ X.pn) (hg : Gl X x) (hm : X.mg x = some (.ref f)) (hk : PySem.W.keepIn X.K (.ref f) = true) (hb : L2.Binds X.K fd ps [])
    (hx : ∀ σ, PassesAt CX X σ (E σ)) (ha : PA X (e :: es) t) (hdb : (x == ("__debug__" : Str)) = false := by decide) (he : starEach (e :: es) X.env = (false, eval e X.env) :: starEach es X.env := by rfl)
    (hpl : (backTo pos (starEach es X.env)).any (·.1) = false := by rfl) : PE X (.Call (.Name x q) (e :: es) [] pos) (tCallS (sp p) E t) := by
  refine ⟨fun pins s σ H Q I want => wpAny_Call_Name_kw (ld_glob I hg hm ?_ hdb)⟩
  refine PySem.W.callWith_K (h₀ := X.base) I.ok.mod.kin hk (thn (ha.run pos pins s σ H _ I want) fun us s1 hh => ?_) he hpl
  obtain ⟨vs, H1, I1, rel, want1⟩ := hh
  refine ⟨I1.kIn, ?_⟩
  have pn := I1.pin p (List.mem_append_left _ hp)
  have bnd := hb s1 us I1.kIn (by rw [List.append_nil, ← rel.length]; exact F.ln _ _ _ _ _ want1)
  rw [List.append_nil] at bnd
  have out : PinOk X.stack H1 s1 p := ⟨pn.1, pn.2.1, fun z => (List.mem_cons.mp (I1.stkSub p.1 z)).elim pn.2.2.1 pn.2.2.2.1, pn.2.2.2.2⟩
  refine wpAny_call (codeAny_mono (F.go p X.A X.stack s1 H1 ⟨us, []⟩ us vs Q (E σ) room hot out I1.env0 bnd rel want1) fun r s2 hv => ?_)
  cases r with
  | error u => exact hx σ pins H1 s1 u s2 I1 hv
  | ok fl =>
    cases fl with
    | ret u => exact I1.after hv
    | next => cases hv
    | brk => cases hv
    | cont => cases hv
/-- isinstance of the exception that is handled -/
theorem call_isP {D : Addr} (C : ExcC X.K D) (hp : p ∈ X.pn) (hz : Zc (.ref D) none p.2) (hf : ∃ vs, p.2.data = .fields vs) : CallR X (.builtin "isinstance") (rIsE X.K D p.1) := by
  intro pins s σ H xs us Q I rel want
  obtain ⟨c, cv, b, rfl, only, ans, q⟩ := want
  obtain ⟨a, oe⟩ := p
  obtain ⟨oc, od, oda, osl⟩ := oe
  obtain ⟨h1, h2⟩ := hz
  obtain ⟨vs, h3⟩ := hf
  dsimp only at h1 h2 h3
  have got := (I.pin _ (List.mem_append_left _ hp)).1
  subst h1 h2 h3
  cases rel with
  | cons r1 r2 =>
    cases r2 with
    | cons r2 r3 =>
      cases r3
      cases r1
      obtain rfl := only _ r2
      have at' : PySem.W.InstAt s.heap a ⟨.ref D, none, .fields vs, osl⟩ D none := ⟨got, rfl, rfl, trivial⟩
      refine PySem.W.kia_one (PySem.W.handS_kitx_exc C.hg C.hk C.hs C.hd C.ha C.hn C.ht C.hm) I.kIn at' ans (fun z => nomatch z) fun tk => ?_
      exact ⟨.bl b, H, I.kept (t' := tk) fun _ _ z => z, rfl, q⟩
end
end Cot
set_option Elab.async false
set_option linter.all false
set_option maxRecDepth 100000
set_option maxHeartbeats 4000000
namespace Cot
open PySem PySem.Spec PyProof.Rows L2 L2H Evl RZ
section
variable {P : Program} {w : World} {K : PySem.W.Frag} {mg : Str → Option Value} {base : Heap}
theorem okN {x ql : Str} {st : Stmt} {f : Addr} {fd : FuncData} {N ps : List Str} {k : Nat} {sp : Sp} (F : Fun K x ql st f fd) (S : FnScope N ps (defScope st)) (ln : ∀ vs H Q E, sp vs H Q E → vs.length = ps.length)
    (hb : ∀ (cdv : Value) (A : Around) (st2 : List Env) (s : Shared) (H : Hp) (vs : List V) (Q : VK) (E : XK), Room k (A.deeper (envOfC ql (defScope st) s.heap.objs.size f cdv)) → sp vs H Q E →
      ∃ t, PSs (cxOf (L2N.CX P w) P w K mg base N ql (defScope st) f cdv A st2 s H E) (defBody st) t ∧ t { nx := fun _ H1 => Q .non H1, rt := Q } (L2.start N vs) H) : FnOk P w K mg base (L2N.CX P w) (k + 1) f fd ps sp := by
  obtain ⟨_, _, _, _, _, _, cdv, _, _, rfl, lk, hcd⟩ := F.ex
  exact fn_of lk hcd S ln fun A st2 s H vs Q E hr h => hb cdv A st2 s H vs Q E hr h
theorem okP {x ql : Str} {st : Stmt} {f : Addr} {fd : FuncData} {N ps : List Str} {k : Nat} {CX : CXT} {sp : Addr × Obj → Sp} (F : Fun K x ql st f fd) (S : FnScope N ps (defScope st)) (ln : ∀ p vs H Q E, sp p vs H Q E → vs.length = ps.length)
    (hb : ∀ (cdv : Value) (p : Addr × Obj) (A : Around) (st2 : List Env) (s : Shared) (H : Hp) (vs : List V) (Q : VK) (E : XK), Hot1 A p → RoomH k (A.deeper (envOfC ql (defScope st) s.heap.objs.size f cdv)) → sp p vs H Q E →
      ∃ t, PSs (cxH CX P w K mg base N ql (defScope st) f cdv A st2 s H E p) (defBody st) t ∧ t { nx := fun _ H1 => Q .non H1, rt := Q } (L2.start N vs) H) : FnP P w K mg base CX (k + 1) f fd ps sp := by
  obtain ⟨_, _, _, _, _, _, cdv, _, _, rfl, lk, hcd⟩ := F.ex
  exact fn_ofP lk hcd S ln fun p A st2 s H vs Q E hot hr h => hb cdv p A st2 s H vs Q E hot hr h
end
/-- a class of errors, by its name -/
structure ExB (K : PySem.W.Frag) (mg : Str → Option Value) (x : Str) (C : Addr) : Prop where
  g : mg x = some (.ref C)
  kp : PySem.W.keepIn K (.ref C) = true
/-- one under ValueError, without an own __init__ -/
structure Exn (K : PySem.W.Frag) (mg : Str → Option Value) (x : Str) (C : Addr) : Prop extends ExB K mg x C where
  xi : PySem.W.excIn K C [.type "ValueError", .type "Exception", .type "BaseException", .type "object"] "ValueError.__new__" = true
  sb : PySem.W.subIn K (.ref C) (.type "BaseException") = some true
  ty : PySem.W.typeIn K (.ref C) = some (.type "type")
/-- isinstance of an instance of D, class by class -/
inductive KRow (K : PySem.W.Frag) (D : Addr) : List Value → List Bool → Prop
  | nil : KRow K D [] []
  | cons {c : Value} {b : Bool} {cs : List Value} {bs : List Bool} (h : PySem.W.kitOne K (.ref D) c = some b) (r : KRow K D cs bs) : KRow K D (c :: cs) (b :: bs)
theorem KRow.get {K : PySem.W.Frag} {D : Addr} {cs : List Value} {bs : List Bool} (r : KRow K D cs bs) : ∀ (i : Nat) (c : Value), cs[i]? = some c → PySem.W.kitOne K (.ref D) c = some (bs.getD i false) := by
  induction r with
  | nil => intro i c e; simp at e
  | cons h _ ih =>
    intro i c e
    cases i with
    | zero =>
      cases e
      exact h
    | succ i => exact ih i c e
theorem Exn.pmk {X : Cx} {x m : Str} {C : Addr} {j : Nat} {p p2 pos : Pos} (e : Exn X.K X.mg x C) (hg : Gl X x) (hdb : (x == ("__debug__" : Str)) = false := by decide) : L2N.PMk X (.Call (.Name x p) [.Constant (.str m) j p2] [] pos) (fun _ H Q => Q (.ref C) none H) :=
  L2N.pmk_own PySem.F.excBase_ValueError e.xi e.g e.kp (raises_own e.sb e.ty) hg hdb
section
variable {K : PySem.W.Frag} {X : Cx} {H H' Hd Hd' Hn H1 H2 Hm : Hp} {σ : L2.St} {ta tb tc te tx tl to : TE} {d : PyData} {ds es : List PyData} {tr : TA} {i j j2 n : Nat}
/-- a list of pairs, walked -/
theorem ei_pairs {f f2 : Nat → Option PyData} (h : EvD K tl σ Hd (.list ds)) (hp : ∀ i d, ds[i]? = some d → ∃ d1 d2, d = .tuple [d1, d2] ∧ f i = some d1 ∧ f2 i = some d2) : EvI K (iList K tl) (g2 K j j2) σ Hd ds.length (SPair K j j2 f f2) := fun H s R r =>
  h H s _ fun v H2 Hn g hd => by
    cases hd with
    | @lst a xs ds hs hall =>
      refine ⟨a, rfl, ⟨xs, ex_l g.sub hs⟩, r _ H2 Hn _ _ g (by rw [← dpa_len hall]; exact walk_list) (fun H' e => ex_l e hs) fun i x H' H'' σ' k hi e y q => ?_⟩
      obtain ⟨rfl, hx⟩ := y
      obtain ⟨d, h1, h2⟩ := dpa_get2 hall hx
      obtain ⟨d1, d2, rfl, q1, q2⟩ := hp i d h1
      cases h2 with
      | @tup T ys es ht hal =>
        cases hal with
        | cons p1 p2 =>
          cases p2 with
          | cons p2 p3 =>
            cases p3
            exact ⟨T, _, rfl, ex_t e ht, rfl, _, _, rfl, _, [], rfl, rfl, q _ _ (Ex.refl _) ⟨_, _, d1, d2, q1, q2, p1, p2, rfl⟩⟩
def rJo (K : PySem.W.Frag) : V → List V → Hp → VK → Prop := fun x xs H Q => ∃ a p, ∃ ys : List Str, x = .str a ∧ xs = [.ref p] ∧ (SqL K H p (ys.map V.str) ∨ SqT K H p (ys.map V.str)) ∧ (ys.map (·.length)).sum + ys.length * a.length ≤ 16777216 ∧ Q (.str (Txt.join a ys)) H
theorem pe_jo {o e : Expr} {apos pos : Pos} (ho : PE X o to) (he : PE X e te) (hs : starEach [e] X.env = [(false, eval e X.env)] := by rfl) (hbase : attributeBase o "join" X.env (eval o X.env) = eval o X.env := by rfl) (hline : (apos.endLine == pos.line) = true := by rfl) :
    PE X (.Call (.Attribute o "join" apos) [e] [] pos) (tM1 (rJo X.K) to te) := pe_join ho he hs hbase hline
theorem dpa_strs_inv : ∀ {ns : List Str} {vs : List V}, DpAll K H vs (ns.map PyData.str) → vs = ns.map V.str
  | [], _, h => by cases h; rfl
  | n :: ns, _, h => by
    cases h with
    | cons a b =>
      cases a
      rw [dpa_strs_inv b]
      rfl
theorem ev_jo {a : Str} {ys : List Str} (ho : Ev to σ Hd (.str a)) (h : EvD K te σ Hd (.list (ys.map .str))) (hl : (ys.map (·.length)).sum + ys.length * a.length ≤ 16777216) : Ev (tM1 (rJo K) to te) σ Hd (.str (Txt.join a ys)) := fun H s Q q =>
  ho H s _ fun H1 e1 => ⟨⟨a, rfl⟩, h H1 (s.trans e1) _ fun v H2 Hn g hd => by
    cases hd with
    | @lst p xs ds hs hall =>
      have e := dpa_strs_inv hall
      subst e
      exact ⟨a, p, ys, rfl, rfl, .inl (ex_l g.sub hs), hl, q H2 (e1.trans g.ex)⟩⟩
theorem ev_isX {D a C : Addr} {b : Bool} (ha : Ev ta σ H (.ref a)) (k : PySem.W.kitOne K (.ref D) (.ref C) = some b) : Ev (tCB (rIsE K D a) (tCons ta (tCons (tC (.ref C)) tNil))) σ H (.bl b) := fun H1 s Q q =>
  ha H1 s _ fun H2 e => ⟨.ref C, .ref C, b, rfl, fun u r => r, k, q H2 e⟩
theorem ev_isXT {D a : Addr} {T : String} {b : Bool} (ha : Ev ta σ H (.ref a)) (k : PySem.W.kitOne K (.ref D) (.type T) = some b) : Ev (tCB (rIsE K D a) (tCons ta (tCons (tC (.ty T)) tNil))) σ H (.bl b) := fun H1 s Q q =>
  ha H1 s _ fun H2 e => ⟨.ty T, .type T, b, rfl, fun u r => r, k, q H2 e⟩
end
end Cot
set_option Elab.async false
set_option linter.all false
set_option maxRecDepth 100000
set_option maxHeartbeats 4000000
namespace Cot
open PySem PySem.Spec PyProof.Rows L2 Evl
/-- an answer by R, or an error of a class by Rx -/
def spX (K : PySem.W.Frag) (R : List PyData → PyData → Prop) (Rx : List PyData → Addr → Prop) : Sp := fun vs H Q E => ∃ Hd ds, Ex Hd H ∧ DpAll K Hd vs ds ∧
  ((∃ d, R ds d ∧ ∀ v H2 Hn, Gr Hd H Hn H2 → Dp K Hn v d → Q v H2) ∨ ∃ C, Rx ds C ∧ ∀ H2, Ex H H2 → E (.ref C) none H2)
section
variable {K : PySem.W.Frag} {H Hd : Hp} {σ : L2.St} {tr : TA} {D : Ends} {tz : TS} {ds : List PyData} {d : PyData} {C : Addr} {E : XK} {R : List PyData → PyData → Prop} {Rx : List PyData → Addr → Prop} {Q : VK} {dv : List V} {dd : List PyData}
theorem tx_ok (s : Ex Hd H) (h : EvDA K tr σ Hd ds) (hv : ∀ H, DpAll K H dv dd) (hr : R (ds ++ dd) d) (k : ∀ v H2 Hn, Gr Hd H Hn H2 → Dp K Hn v d → Q v H2) : tCall (spX K R Rx) dv E tr σ H Q :=
  h H s _ fun vs H2 Hn g hd => ⟨Hn, ds ++ dd, g.sub, dpa_app hd (hv Hn), .inl ⟨d, hr, fun v H3 Hm g3 hv => k v H3 Hm (g.trans g3) hv⟩⟩
theorem tx_no (s : Ex Hd H) (h : EvDA K tr σ Hd ds) (hv : ∀ H, DpAll K H dv dd) (hr : Rx (ds ++ dd) C) (k : ∀ H2, Ex H H2 → E (.ref C) none H2) : tCall (spX K R Rx) dv E tr σ H Q :=
  h H s _ fun vs H2 Hn g hd => ⟨Hn, ds ++ dd, g.sub, dpa_app hd (hv Hn), .inr ⟨C, hr, fun H3 e3 => k H3 (g.ex.trans e3)⟩⟩
theorem go_raise (k : ∀ H2, Ex H H2 → E (.ref C) none H2) : Go (tSeq (fun _ σ H => (fun _ H1 Q1 => Q1 (Value.ref C) none H1 : L2.St → Hp → XK → Prop) σ H fun cls d H1 => E cls d H1) tz) D σ H := fun H1 e1 => k H1 e1
end
end Cot
set_option Elab.async false
set_option linter.all false
set_option maxRecDepth 100000
set_option maxHeartbeats 4000000
namespace Cot
open PySem PySem.Spec PyProof.Rows L2 Evl LamX
def hp0 : Hp := fun _ => none
theorem ex0 {H : Hp} : Ex hp0 H := fun _ _ h => nomatch h
section
variable {K : PySem.W.Frag} {b : Bid} {l : Addr} {H H1 H2 Hd Hn : Hp} {Tt : List (Addr × Str)} {xs : List V} {o : HO}
theorem tabs_but (hl : H l = some (.lst xs)) (k : ∀ a o, a ≠ l → H a = some o → H2 a = some o) (t : Tabs Tt H) : Tabs Tt H2 := fun p hp => by
  obtain ⟨ps, h1, h2, h3⟩ := t p hp
  refine ⟨ps, k _ _ (fun z => ?_) h1, h2, fun pos cv hc => ?_⟩
  · rw [z, hl] at h1
    cases h1
  · obtain ⟨c, e, hcd⟩ := h3 pos cv hc
    refine ⟨c, e, k _ _ (fun z => ?_) hcd⟩
    rw [z, hl] at hcd
    unfold CodeO at hcd
    cases hcd
theorem tabs_box (t : Tabs Tt H) (B : Bx H b) (g : GrB b Hd H Hn H2) : Tabs Tt H2 := by
  obtain ⟨cells, xs, h1, _⟩ := B
  exact tabs_but h1 (fun a o n h => g.exb a o n h) t
end
end Cot
set_option Elab.async false
set_option linter.all false
set_option maxRecDepth 100000
set_option maxHeartbeats 4000000
namespace Cot
open PySem PySem.Spec PyProof.Rows L2 Evl LamX
def noT (H : Hp) : Hp := fun a => match H a with
  | some (.tbl _) => none
  | o => o
section
variable {K : PySem.W.Frag} {H H2 Hd : Hp} {a : Addr} {o : HO} {xs : List V}
theorem noT_some (h : noT H a = some o) : H a = some o ∧ ∀ ps, o ≠ .tbl ps := by
  unfold noT at h
  split at h
  · cases h
  · rename_i hn
    refine ⟨h, fun ps z => ?_⟩
    subst z
    exact hn _ h
theorem noT_of (h : H a = some o) (n : ∀ ps, o ≠ .tbl ps) : noT H a = some o := by
  unfold noT
  split
  · rename_i ps hp
    rw [h] at hp
    exact absurd (Option.some.inj hp) (n ps)
  · exact h
theorem noT_none (h : H a = none) : noT H a = none := by
  cases e : noT H a with
  | none => rfl
  | some o =>
    have := (noT_some e).1
    rw [h] at this
    cases this
theorem noT_ex : Ex (noT H) H := fun a o h => (noT_some h).1
theorem noT_l (h : SqL K H a xs) : SqL K (noT H) a xs := by
  rcases h with (h | ⟨o, h⟩) | h
  · exact .inl (.inl (noT_of h fun ps z => by cases z))
  · exact .inl (.inr ⟨o, noT_of h fun ps z => by cases z⟩)
  · exact .inr h
theorem noT_t (h : SqT K H a xs) : SqT K (noT H) a xs := by
  rcases h with (h | ⟨o, h⟩) | h
  · exact .inl (.inl (noT_of h fun ps z => by cases z))
  · exact .inl (.inr ⟨o, noT_of h fun ps z => by cases z⟩)
  · exact .inr h
mutual
theorem dp_noT : ∀ (d : PyData) {v : V}, Dp K H v d → Dp K (noT H) v d
  | .none, _, h => by cases h; exact .non
  | .bool b, _, h => by cases h; exact .bl b
  | .int i, _, h => by cases h; exact .int i
  | .str x, _, h => by cases h; exact .str x
  | .list ds, _, h => by
    cases h with
    | lst hs ha => exact .lst (noT_l hs) (dpa_noT ds ha)
  | .tuple ds, _, h => by
    cases h with
    | tup hs ha => exact .tup (noT_t hs) (dpa_noT ds ha)
  | .dict _, _, h => by cases h
theorem dpa_noT : ∀ (ds : List PyData) {vs : List V}, DpAll K H vs ds → DpAll K (noT H) vs ds
  | [], _, h => by cases h; exact .nil
  | d :: ds, _, h => by
    cases h with
    | cons h1 h2 => exact .cons (dp_noT d h1) (dpa_noT ds h2)
end
end
end Cot
set_option Elab.async false
set_option linter.all false
set_option maxRecDepth 100000
set_option maxHeartbeats 4000000
namespace Cot
open PySem PySem.Spec PyProof.Rows L2 Evl
/-- the key, the place of its tuple, the value -/
abbrev Dkv := List (List Int × Addr × V)
def valD (m : Dkv) (k : List Int) : Option V := (m.find? fun e => decide (e.1 = k)).map fun e => e.2.2
def putD (m : Dkv) (k : List Int) (b : Addr) (v : V) : Dkv := if (valD m k).isSome then m.map (fun e => if e.1 = k then (e.1, e.2.1, v) else e) else m ++ [(k, b, v)]
abbrev DRel : Dkv → List (List Int × Addr × Value) → Prop := Paired fun p q => p.1 = q.1 ∧ p.2.1 = q.2.1 ∧ RelV p.2.2 q.2.2
theorem valD_pos {e : List Int × Addr × V} {m : Dkv} {k : List Int} (h : e.1 = k) : valD (e :: m) k = some e.2.2 := by simp [valD, List.find?_cons, h]
theorem valD_neg {e : List Int × Addr × V} {m : Dkv} {k : List Int} (h : ¬ e.1 = k) : valD (e :: m) k = valD m k := by simp [valD, List.find?_cons, h]
theorem drel_val {m : Dkv} {xs : List (List Int × Addr × Value)} (r : DRel m xs) (k : List Int) : RelO (valD m k) ((atKey xs k).map (·.2)) := by
  induction r with
  | nil => exact True.intro
  | @cons p q ps qs h t ih =>
    by_cases e : p.1 = k
    · rw [valD_pos e]
      have e2 : (atKey (q :: qs) k) = some q.2 := by simp [atKey, List.find?_cons, ← h.1, e]
      rw [e2]
      exact h.2.2
    · rw [valD_neg e]
      have e2 : (atKey (q :: qs) k) = atKey qs k := by simp [atKey, List.find?_cons, ← h.1, e]
      rw [e2]
      exact ih
theorem drel_map {m : Dkv} {xs : List (List Int × Addr × Value)} (r : DRel m xs) (k : List Int) {v : V} {u : Value} (rv : RelV v u) : DRel (m.map (fun e => if e.1 = k then (e.1, e.2.1, v) else e)) (xs.map (putAt k u)) := by
  induction r with
  | nil => exact .nil
  | @cons p q ps qs h t ih =>
    refine Paired.cons ?_ ih
    unfold putAt
    dsimp only
    by_cases e : p.1 = k
    · rw [if_pos e, if_pos (by rw [← h.1]; exact e)]
      exact ⟨h.1, h.2.1, rv⟩
    · rw [if_neg e, if_neg (by rw [← h.1]; exact e)]
      exact h
theorem drel_app {m m2 : Dkv} {xs ys : List (List Int × Addr × Value)} (r : DRel m xs) (r2 : DRel m2 ys) : DRel (m ++ m2) (xs ++ ys) := by
  induction r with
  | nil => exact r2
  | cons h t ih => exact Paired.cons h ih
theorem drel_put {m : Dkv} {xs : List (List Int × Addr × Value)} (r : DRel m xs) (k : List Int) (b : Addr) {v : V} {u : Value} (rv : RelV v u) : DRel (putD m k b v) (storedH xs k b u) := by
  have h := (drel_val r k).isSome_eq
  rw [Option.isSome_map] at h
  unfold putD storedH
  rw [h]
  split
  · exact drel_map r k rv
  · exact drel_app r (.cons ⟨rfl, rfl, rv⟩ .nil)
theorem putD_len (m : Dkv) (k : List Int) (b : Addr) (v : V) : (putD m k b v).length ≤ m.length + 1 := by
  unfold putD
  split
  · rw [List.length_map]; omega
  · rw [List.length_append]; exact Nat.le_refl _
def DicP (P : Program) (w : World) (h : Heap) (a : Addr) (m : Dkv) : Prop := m.length ≤ sizeLine ∧ (a == sysModules) = false ∧ ∃ xs : List (List Int × Addr × Value), DRel m xs ∧ (xs.map (·.1)).Nodup ∧
  ∃ o es ep, h.get? a = some o ∧ o.ExactDict ∧ o.data = .dict es ep ∧ es.toList = xs.map (entryOfKey (TK P w))
/-- the dict at a -/
def DicO (P : Program) (w : World) (a : Addr) (m : Dkv) : HO := .ext fun h => DicP P w h a m
theorem dicO_ok {P : Program} {w : World} {H : Hp} {h : Heap} {a : Addr} {m : Dkv} (d : DicP P w h a m) : ObjOk P w H h a (DicO P w a m) := by
  refine ⟨d, ?_, ?_⟩
  · obtain ⟨_, _, _, _, _, o, _, _, ho, _⟩ := d
    exact ⟨o, ho⟩
  · rintro h1 h2 ⟨z, y, xs, r, n, o, es, ep, ho, rest⟩ k
    exact ⟨z, y, xs, r, n, o, es, ep, k o ho, rest⟩
def KeysAt (K : PySem.W.Frag) (H : Hp) (m : Dkv) : Prop := ∀ e ∈ m, SqT K H e.2.1 (e.1.map V.int)
theorem KeysAt.mono {K : PySem.W.Frag} {H H' : Hp} {m : Dkv} (e : Ex H H') (k : KeysAt K H m) : KeysAt K H' m := fun x hx => ex_t e (k x hx)
theorem KeysAt.put {K : PySem.W.Frag} {H : Hp} {m : Dkv} {k : List Int} {b : Addr} {v : V} (h : KeysAt K H m) (hb : SqT K H b (k.map V.int)) : KeysAt K H (putD m k b v) := by
  intro e he
  unfold putD at he
  split at he
  · obtain ⟨e0, h0, rfl⟩ := List.mem_map.mp he
    split
    · exact h e0 h0
    · exact h e0 h0
  · rcases List.mem_append.mp he with he | he
    · exact h e he
    · rcases List.mem_cons.mp he with rfl | he
      · exact hb
      · cases he
def DiAt (K : PySem.W.Frag) (P : Program) (w : World) (H : Hp) (a : Addr) (m : Dkv) : Prop := H a = some (DicO P w a m) ∧ KeysAt K H m
/-- the dict at a while a loop walks it: its object stays -/
def DicF (P : Program) (w : World) (a : Addr) (m : Dkv) (o : Obj) : HO := .ext fun h => h.get? a = some o ∧ DicP P w h a m
/-- a dict that can be read -/
def DiR (K : PySem.W.Frag) (P : Program) (w : World) (H : Hp) (a : Addr) (m : Dkv) : Prop := (H a = some (DicO P w a m) ∨ ∃ o, H a = some (DicF P w a m o)) ∧ KeysAt K H m
theorem DiR.mono {K : PySem.W.Frag} {P : Program} {w : World} {H H' : Hp} {a : Addr} {m : Dkv} (e : Ex H H') (d : DiR K P w H a m) : DiR K P w H' a m := ⟨d.1.elim (fun h => .inl (e _ _ h)) fun ⟨o, h⟩ => .inr ⟨o, e _ _ h⟩, d.2.mono e⟩
theorem DiAt.r {K : PySem.W.Frag} {P : Program} {w : World} {H : Hp} {a : Addr} {m : Dkv} (d : DiAt K P w H a m) : DiR K P w H a m := ⟨.inl d.1, d.2⟩
theorem DiAt.mono {K : PySem.W.Frag} {P : Program} {w : World} {H H' : Hp} {a : Addr} {m : Dkv} (e : Ex H H') (d : DiAt K P w H a m) : DiAt K P w H' a m := ⟨e _ _ d.1, d.2.mono e⟩
section
variable {X : Cx} {pins : List (Addr × Obj)} {σ : L2.St} {H : Hp} {s : Shared} {a b : Addr} {m : Dkv} {k : List Int} {v : V} {u : Value} {A : Around} {E : Value → Shared → Prop}
theorem dic_of (I : Inv X pins σ H s) (d : DiR X.K X.prog X.w H a m) : m.length ≤ sizeLine ∧ (a == sysModules) = false ∧ ∃ xs, DRel m xs ∧ s.heap.DictOfH (TK X.prog X.w) a xs := by
  have hp : DicP X.prog X.w s.heap a m := by
    rcases d.1 with h | ⟨o, h⟩
    · exact (show ObjOk X.prog X.w H s.heap a (DicO X.prog X.w a m) from I.hok a _ h).1
    · exact (show ObjOk X.prog X.w H s.heap a (DicF X.prog X.w a m o) from I.hok a _ h).1.2
  obtain ⟨z, y, xs, r, n, o, es, ep, ho, hx, hd, he⟩ := hp
  refine ⟨z, y, xs, r, o, es, ep, ho, hx, hd, he, ?_, n⟩
  have all : ∀ {l : Dkv} {ys : List (List Int × Addr × Value)}, DRel l ys → (∀ e ∈ l, SqT X.K H e.2.1 (e.1.map V.int)) → ∀ x ∈ ys, (TK X.prog X.w).is s.heap x.1 x.2.1 := by
    intro l ys q
    induction q with
    | nil => intro _ x hx; cases hx
    | @cons p q ps qs hq t ih =>
      intro hk x hx
      rcases List.mem_cons.mp hx with rfl | hx
      · have := I.isT (hk p List.mem_cons_self)
        rw [hq.1, hq.2.1] at this
        exact this
      · exact ih (fun e he => hk e (List.mem_cons_of_mem _ he)) x hx
  exact all r d.2
theorem dic_set {Q : Unit → Shared → Prop} (hu : A.units < cLine) (I : Inv X pins σ H s) (d : DiAt X.K X.prog X.w H a m) (hb : SqT X.K H b (k.map V.int)) (hl : m.length < sizeLine) (rv : RelV v u) (h : ∀ s', Inv X pins σ (upd H a (DicO X.prog X.w a (putD m k b v))) s' → Q () s') :
    wpAny (model X.prog X.w) A (dictSet a (.ref b) u) Q E s := by
  obtain ⟨z, y, xs, r, dd⟩ := dic_of I d.r
  have hz : xs.length ≤ sizeLine := by rw [← Paired.length r]; exact z
  refine wpAny_dictSet_heap (hsz := hz) (knd := TK X.prog X.w) hu (I.isT hb) dd fun h' dd' hs => h _ ?_
  obtain ⟨o, es, ep, ho, h2, h3, h4, _, h5⟩ := dd'
  refine d_write I (by rw [d.1]; exact True.intro) hs ⟨o, ho⟩ (dicO_ok ⟨?_, y, _, drel_put r k b rv, h5, o, es, ep, ho, h2, h3, h4⟩)
  have := putD_len m k b v
  omega
theorem dic_empty {P : Program} {w : World} {h : Heap} (hb : sysModules < h.objs.size) : DicP P w (h.push { cls := .type "dict", data := .dict #[] }) h.objs.size [] :=
  ⟨Nat.zero_le _, beq_eq_false_iff_ne.mpr (Ne.symm (Nat.ne_of_lt hb)), [], .nil, List.nodup_nil, _, #[], 0, Heap.get?_push_size _ rfl, ⟨rfl, rfl, rfl⟩, rfl, rfl⟩
end
end Cot
namespace Cot
open PySem L2 Evl
end Cot
namespace Cot
open PySem L2 Evl
end Cot
set_option Elab.async false
set_option linter.all false
set_option maxRecDepth 100000
set_option maxHeartbeats 4000000
namespace Cot
open PySem PySem.Spec PyProof.Rows L2 Evl
end Cot
namespace Cot
open PySem L2 Evl
end Cot
namespace Cot
open PySem L2 Evl
end Cot
set_option Elab.async false
set_option linter.all false
set_option maxRecDepth 100000
set_option maxHeartbeats 4000000
namespace Cot
open PySem PySem.Spec PyProof.Rows L2 Evl
section
variable {K : PySem.W.Frag} {l : Addr} {H H' Hd Hd' Hn H1 H2 Hm Hg : Hp} {σ : L2.St} {ta tb te : TE} {tr tk : TA} {D : Ends} {tz : TS} {d : PyData} {ds es : List PyData} {xs : List V}
/-- a list that grows: it is no data yet, its things are -/
def LsAt (K : PySem.W.Frag) (Hg H' : Hp) (p : Addr) (ds : List PyData) : Prop := Hg p = none ∧ ∃ vs, H' p = some (.lst vs) ∧ DpAll K Hg vs ds
theorem LsAt.ext (h : LsAt K Hg H' l ds) (e : Ex H' H2) : LsAt K Hg H2 l ds := by
  obtain ⟨h1, vs, h2, h3⟩ := h
  exact ⟨h1, vs, e _ _ h2, h3⟩
/-- a list of places that are no data yet -/
def RfAt (Hg H' : Hp) (p : Addr) (xs : List V) : Prop := Hg p = none ∧ H' p = some (.lst xs)
theorem RfAt.ext (h : RfAt Hg H' l xs) (e : Ex H' H2) : RfAt Hg H2 l xs := ⟨h.1, e _ _ h.2⟩
/-- it is data from here on -/
theorem LsAt.add (h : LsAt K Hg H' l ds) (s : Ex Hg H') : ∃ Hn, Ex Hg Hn ∧ Ex Hn H' ∧ Dp K Hn (.ref l) (.list ds) ∧ ∀ q, q ≠ l → Hg q = none → Hn q = none := by
  obtain ⟨h1, vs, h2, h3⟩ := h
  exact ⟨upd Hg l (.lst vs), Ex.new h1, ex_add s h2, .lst (sq_of upd_same) (dpa_mono (Ex.new h1) _ h3), fun q n hq => by rw [upd_ne n]; exact hq⟩
theorem RfAt.add (h : RfAt Hg H' l xs) (s : Ex Hg H') (hd : DpAll K Hg xs ds) : ∃ Hn, Ex Hg Hn ∧ Ex Hn H' ∧ Dp K Hn (.ref l) (.list ds) := ⟨upd Hg l (.lst xs), Ex.new h.1, ex_add s h.2, .lst (sq_of upd_same) (dpa_mono (Ex.new h.1) _ hd)⟩
end
theorem pb_list {X : Cx} {K : PySem.W.Frag} {tg l : Expr} {tl : TE} (hK : X.K = K) (hl : PE X l tl) : PI X tg l (iList K tl) := hK ▸ pi_list hl
end Cot
set_option Elab.async false
set_option linter.all false
set_option maxRecDepth 100000
set_option maxHeartbeats 4000000
namespace Cot
open PySem PySem.Spec PyProof.Rows L2 Evl
section
variable {K : PySem.W.Frag} {a p : Addr} {ps : List Addr} {rs : List (List Int)} {r ns : List Int} {H H' Hd Hn H1 H2 : Hp} {σ : L2.St} {ta tb te tl : TE} {tlo thi : TO} {tr tk : TA} {D : Ends} {tz : TS} {d : PyData} {ds es : List PyData} {i j : Nat} {lo hi : Int}
/-- a list of lists of ints, each its own -/
structure LL (H : Hp) (a : Addr) (ps : List Addr) (rs : List (List Int)) : Prop where
  top : H a = some (.lst (ps.map .ref))
  len : ps.length = rs.length
  nd : ps.Nodup
  out : a ∉ ps
  row : ∀ (i : Nat) (p : Addr) (r : List Int), ps[i]? = some p → rs[i]? = some r → H p = some (.lst (r.map .int))
theorem LL.ext (h : LL H a ps rs) (e : Ex H H2) : LL H2 a ps rs := ⟨e _ _ h.top, h.len, h.nd, h.out, fun i p r h1 h2 => e _ _ (h.row i p r h1 h2)⟩
theorem LL.put (h : LL H a ps rs) (hp : ps[i]? = some p) (r' : List Int) : LL (upd H p (.lst (r'.map .int))) a ps (rs.set i r') := by
  have hm := List.mem_of_getElem? hp
  refine ⟨by rw [upd_ne (show a ≠ p from fun e => h.out (by rw [e]; exact hm))]; exact h.top, by rw [List.length_set]; exact h.len, h.nd, h.out, fun k q r h1 h2 => ?_⟩
  by_cases e : k = i
  · subst e
    rw [h1] at hp
    cases hp
    have hk : k < rs.length := by
      have := List.getElem?_eq_some_iff.mp h1
      rw [← h.len]
      exact this.1
    rw [List.getElem?_set_self hk] at h2
    cases h2
    exact upd_same
  · rw [List.getElem?_set_ne (fun e2 => e e2.symm)] at h2
    have hne : q ≠ p := by
      intro e2
      subst e2
      have a1 := List.getElem?_eq_some_iff.mp h1
      have a2 := List.getElem?_eq_some_iff.mp hp
      exact e ((List.getElem_inj h.nd).mp (a1.2.trans a2.2.symm))
    rw [upd_ne hne]
    exact h.row k q r h1 h2
theorem ll_data : ∀ {ps : List Addr} {rs : List (List Int)}, ps.length = rs.length → (∀ (i : Nat) (p : Addr) (r : List Int), ps[i]? = some p → rs[i]? = some r → H p = some (.lst (r.map .int))) → DpAll K H (ps.map .ref) (rs.map fun r => .list (r.map .int))
  | [], [], _, _ => .nil
  | [], _ :: _, h, _ => by cases h
  | _ :: _, [], h, _ => by cases h
  | p :: ps, r :: rs, h, k => .cons (.lst (sq_of (k 0 p r rfl rfl)) (dpa_ints r)) (ll_data (by simpa using h) fun i p r h1 h2 => k (i + 1) p r h1 h2)
theorem LL.data (h : LL H a ps rs) (s : Ex Hd H) (na : Hd a = none) (np : ∀ p ∈ ps, Hd p = none) : ∃ Hn, Ex Hd Hn ∧ Ex Hn H ∧ Dp K Hn (.ref a) (.list (rs.map fun r => .list (r.map .int))) ∧ ∀ q, q ≠ a → q ∉ ps → Hn q = Hd q := by
  refine ⟨fun x => if x = a ∨ x ∈ ps then H x else Hd x, fun x o hx => ?_, fun x o hx => ?_, .lst (xs := ps.map .ref) (sq_of ?_) (ll_data h.len fun i p r h1 h2 => ?_), fun q n m => if_neg (fun h => h.elim n m)⟩
  · show (if x = a ∨ x ∈ ps then H x else Hd x) = some o
    split
    · exact s x o hx
    · exact hx
  · have hx' : (if x = a ∨ x ∈ ps then H x else Hd x) = some o := hx
    split at hx'
    · exact hx'
    · exact s x o hx'
  · show (if a = a ∨ a ∈ ps then H a else Hd a) = _
    rw [if_pos (.inl rfl)]
    exact h.top
  · show (if p = a ∨ p ∈ ps then H p else Hd p) = _
    rw [if_pos (.inr (List.mem_of_getElem? h1))]
    exact h.row i p r h1 h2
end
end Cot
set_option Elab.async false
set_option linter.all false
set_option maxRecDepth 100000
set_option maxHeartbeats 4000000
namespace Cot
open PySem PySem.Spec PyProof.Rows L2 Evl
/-- a mask whose runs come to every slot -/
structure Cov (m : Nat) : Prop where
  run : ∀ (h : Int) (j : Nat), j ≤ m → ∃ n, n < SetTable.turns m ∧ runI m (SetTable.bits h) n = j
  odd : m % 2 = 1
  low : m ≤ 511
theorem Cov.way {m : Nat} (c : Cov m) (h : Int) {j : Nat} (hj : j ≤ m) : ∃ k, k < 10 * SetTable.turns m ∧ L2.way m h k = j := by
  obtain ⟨n, hn, e⟩ := c.run h j hj
  obtain ⟨k, hk, e2⟩ := run_nth m (SetTable.bits h) n
  refine ⟨k, by omega, ?_⟩
  unfold L2.way
  rw [e2]
  exact e
/-- a table in which each hash is found again -/
structure Tb (t : SetTable) (hs : List Int) : Prop where
  cov : Cov t.mask
  up : Ris t.place.toList
  dum : t.dummies = #[]
  len : t.place.size = hs.length
  low : ∀ x ∈ t.place.toList, x ≤ t.mask
  met : ∀ (i : Nat) (h : Int) (j : Nat), hs[i]? = some h → t.place.toList[i]? = some j → ∃ k, L2.way t.mask h k = j ∧ ∀ n, n < k → L2.way t.mask h n ∈ t.place.toList
variable {t : SetTable} {hs : List Int}
/-- the first free slot for a hash -/
def Free (t : SetTable) (h : Int) (n : Nat) : Prop := L2.way t.mask h n ∉ t.place.toList ∧ ∀ k, k < n → L2.way t.mask h k ∈ t.place.toList
theorem Tb.free (T : Tb t hs) (hl : hs.length ≤ t.mask) (h : Int) : ∃ n, n < 10 * SetTable.turns t.mask ∧ Free t h n := by
  obtain ⟨j, hj, hno⟩ := st_missing t.place.toList (t.mask + 1) (by rw [Array.length_toList, T.len]; omega)
  obtain ⟨k, hk, e⟩ := T.cov.way h (j := j) (by omega)
  obtain ⟨n, n1, n2, n3⟩ := st_least (p := fun k => L2.way t.mask h k ∉ t.place.toList) k (by rw [e]; exact hno)
  exact ⟨n, by omega, n2, fun k' hk' => Classical.byContradiction fun z => n3 k' hk' z⟩
end Cot
set_option Elab.async false
set_option linter.all false
set_option maxRecDepth 100000
set_option maxHeartbeats 4000000
namespace Cot
open PySem PySem.Spec PyProof.Rows L2 Evl
/-- a set of tuples of ints, as its object tells it -/
structure Sets (P : Program) (w : World) (h : Heap) (a : Addr) (L : List (Addr × List Int)) (es : Array (Int × Value)) (ep : Nat) (t : SetTable) : Prop where
  ob : ∃ o, h.get? a = some o ∧ o.ExactSet ∧ o.data = .set es ep t
  row : es.toList = rowsOf P w L
  tb : Tb t (L.map fun p => thash P w p.2)
  nd : (L.map (·.2)).Nodup
  tp : ∀ p ∈ L, IsT P w h p.2 p.1
  pl : t.plain = true
  ld : w.params.followText "set-order" = true ∨ t.led = true
  rm : L.length * 5 < t.mask * 3
  msk : t.mask = 7 ∨ t.mask = 31 ∨ t.mask = 127 ∨ t.mask = 511
end Cot
set_option Elab.async false
set_option linter.all false
set_option maxRecDepth 100000
set_option maxHeartbeats 4000000
namespace Cot
open PySem PySem.Spec PyProof.Rows L2 Evl
section
variable {P : Program} {w : World} {A : Around} {E : Value → Shared → Prop} {s : Shared} {a : Addr} {L : List (Addr × List Int)} {es : Array (Int × Value)} {ep : Nat} {t : SetTable}
theorem Sets.keep {h h' : Heap} (S : Sets P w h a L es ep t) (ka : ∀ o, h.get? a = some o → h'.get? a = some o) (kt : ∀ p ∈ L, IsT P w h' p.2 p.1) : Sets P w h' a L es ep t := by
  obtain ⟨o, ho, r⟩ := S.ob
  exact ⟨⟨o, ka o ho, r⟩, S.row, S.tb, S.nd, kt, S.pl, S.ld, S.rm, S.msk⟩
end
end Cot
set_option Elab.async false
set_option linter.all false
set_option maxRecDepth 100000
set_option maxHeartbeats 4000000
namespace Cot
open PySem PySem.Spec PyProof.Rows L2 Evl
/-- the set at a, the places of its tuples told beside it -/
structure SetP (P : Program) (w : World) (h : Heap) (a : Addr) (L : List (Addr × List Int)) : Prop where
  big : ∃ es ep t, (∃ o, h.get? a = some o ∧ o.ExactSet ∧ o.data = .set es ep t) ∧ es.toList = rowsOf P w L ∧ Tb t (L.map fun p => thash P w p.2) ∧ t.plain = true ∧ (w.params.followText "set-order" = true ∨ t.led = true) ∧ L.length * 5 < t.mask * 3 ∧ (t.mask = 7 ∨ t.mask = 31 ∨ t.mask = 127 ∨ t.mask = 511)
  nd : (L.map (·.2)).Nodup
def SetO (P : Program) (w : World) (a : Addr) (L : List (Addr × List Int)) : HO := .ext fun h => SetP P w h a L
theorem Sets.p {P : Program} {w : World} {h : Heap} {a : Addr} {L : List (Addr × List Int)} {es : Array (Int × Value)} {ep : Nat} {t : SetTable} (S : Sets P w h a L es ep t) : SetP P w h a L :=
  ⟨⟨es, ep, t, S.ob, S.row, S.tb, S.pl, S.ld, S.rm, S.msk⟩, S.nd⟩
section
variable (K : PySem.W.Frag) (P : Program) (w : World)
def rSetL : List V → Hp → VK → Prop := fun xs H Q => ∃ (l : Addr) (ks : List (Addr × List Int)), xs = [V.ref l] ∧ SqL K H l (ks.map fun p => V.ref p.1) ∧ (∀ p ∈ ks, SqT K H p.1 (p.2.map V.int)) ∧ ks.length < 200 ∧
  ∀ a L, H a = none → (∀ p ∈ L, p ∈ ks) → (∀ p ∈ ks, p.2 ∈ L.map (·.2)) → Q (.ref a) (upd H a (SetO P w a L))
end
end Cot
set_option Elab.async false
set_option linter.all false
set_option maxRecDepth 100000
set_option maxHeartbeats 4000000
namespace Cot
open PySem PySem.Spec PyProof.Rows L2 Evl
abbrev dc1 (kx vx t0 i0 : Expr) (fs0 : List Expr) (sc : Scope) (pos : Pos) : Expr := .DictComp kx vx [⟨t0, i0, fs0, 0⟩] sc pos
abbrev dc2 (kx vx t0 i0 : Expr) (fs0 : List Expr) (t1 i1 : Expr) (fs1 : List Expr) (sc : Scope) (pos : Pos) : Expr := .DictComp kx vx [⟨t0, i0, fs0, 0⟩, ⟨t1, i1, fs1, 0⟩] sc pos
section
variable {prog : Program} {w : World} {A : Around} {R : Result → Shared → Prop} {s : Shared} {kx vx t0 i0 t1 i1 : Expr} {fs0 fs1 : List Expr} {sc : Scope} {pos : Pos} {it acc : Value} {env : Env} {D : Addr}
/-- all tests of a clause -/
abbrev asks (fs : List Expr) (env : Env) : Sem Bool := forIn fs true fun c r => if r = true then do let ok ← isTrue c env (eval c env); pure (ForInStep.yield ok) else pure (ForInStep.yield r)
theorem turn_d2o : compTurn (dc2 kx vx t0 i0 fs0 t1 i1 fs1 sc pos) 0 it acc env = (do
    standAt i0.pos
    match ← pyNext it with
    | none => pure (.done .next)
    | some v =>
      letOwnedTupleGo t0 it v
      assign t0 env v
      let ok ← asks fs0 env
      if ok then
        let x ← eval i1 env
        standAt i1.pos
        let x ← foldedSetIterable i1 env x
        let _ ← runOwn (.compStart (dc2 kx vx t0 i0 fs0 t1 i1 fs1 sc pos) 1 (← holding [x] (pyIter x)) acc env) env
      again (.compLoop (dc2 kx vx t0 i0 fs0 t1 i1 fs1 sc pos) 0 it acc env)) := by rfl
theorem turn_d2i : compTurn (dc2 kx vx t0 i0 fs0 t1 i1 fs1 sc pos) 1 it (.ref D) env = (do
    standAt i1.pos
    match ← pyNext it with
    | none => pure (.done .next)
    | some v =>
      letOwnedTupleGo t1 it v
      assign t1 env v
      let ok ← asks fs1 env
      if ok then
        (do
          let kv ← eval kx env
          let vv ← holding [kv] (eval vx env)
          standAt { kx.pos with endLine := vx.pos.endLine, endCol := vx.pos.endCol }
          holding [kv, vv] (dictSet D kv vv))
      again (.compLoop (dc2 kx vx t0 i0 fs0 t1 i1 fs1 sc pos) 1 it (.ref D) env)) := by rfl
abbrev bad (prog : Program) (w : World) (A : Around) (env : Env) (R : Result → Shared → Prop) : Value → Shared → Prop := notedBy (model prog w) A env fun e s' => R (.error e) s'
theorem loop_d2o (hs : ∀ x, foldedSetIterable i1 env x = pure x) (I : Nat → Shared → Prop)
    (turn : ∀ n s, I n s → wpAny (model prog w) A (pyNext it) (fun r s₁ => match r with
      | none => R (.ok .next) s₁
      | some v => wpAny (model prog w) A (letOwnedTupleGo t0 it v) (fun _ s₂ => wpAny (model prog w) A (assign t0 env v) (fun _ s₃ => wpAny (model prog w) A (asks fs0 env) (fun ok s₄ =>
          if ok = true then wpAny (model prog w) A (eval i1 env) (fun x s₅ => wpAny (model prog w) A (pyIter x) (fun it1 s₆ =>
            codeAny (model prog w) A (.compStart (dc2 kx vx t0 i0 fs0 t1 i1 fs1 sc pos) 1 it1 acc env) (fun r s' => match r with
              | .ok _ => ∃ m, m < n ∧ I m s'
              | .error _ => False) s₆) (bad prog w A env R) s₅) (bad prog w A env R) s₄
          else ∃ m, m < n ∧ I m s₄) (bad prog w A env R) s₃) (bad prog w A env R) s₂) (bad prog w A env R) s₁) (bad prog w A env R) s)
    (n : Nat) (h : I n s) : codeAny (model prog w) A (.compLoop (dc2 kx vx t0 i0 fs0 t1 i1 fs1 sc pos) 0 it acc env) R s := by
  refine codeAny_loop rfl I (fun n s hI => ?_) n h
  show wpAny _ A ((compTurn (dc2 kx vx t0 i0 fs0 t1 i1 fs1 sc pos) 0 it acc env).onRaise (fun x => do noteFrame x env; theTreesLotGoes x)) _ _ s
  refine wpAny_noted ?_
  rw [turn_d2o]
  refine wpAny_bind (wpAny_standAt (wpAny_bind (wpAny_mono (turn n s hI) (fun r s₁ k1 => ?_) fun _ _ z => z)))
  cases r with
  | none => exact wpAny_pure k1
  | some v =>
    refine wpAny_bind (wpAny_mono k1 (fun _ s₂ k2 => wpAny_bind (wpAny_mono k2 (fun _ s₃ k3 => wpAny_bind (wpAny_mono k3 (fun ok s₄ k4 => ?_) fun _ _ z => z)) fun _ _ z => z)) fun _ _ z => z)
    cases ok with
    | false => exact wpAny_pure ⟨rfl, k4⟩
    | true =>
      refine wpAny_bind (wpAny_mono k4 (fun x s₅ k5 => wpAny_bind (wpAny_standAt (wpAny_bind (wpAny_of_eq (hs x) (wpAny_bind (wpAny_holding (wpAny_mono k5 (fun it1 s₆ k6 => ?_) fun _ _ z => z))))))) fun _ _ z => z)
      refine wpAny_bind (wpAny_runOwn ?_)
      rw [Around.mark_none]
      refine codeAny_mono k6 fun r s' hr => ?_
      cases r with
      | ok f =>
        first
          | exact wpAny_pure ⟨rfl, hr⟩
          | exact wpAny_bind (wpAny_pure (wpAny_pure ⟨rfl, hr⟩))
      | error e => exact hr.elim
theorem loop_d2i (I : Nat → Shared → Prop)
    (turn : ∀ n s, I n s → wpAny (model prog w) A (pyNext it) (fun r s₁ => match r with
      | none => R (.ok .next) s₁
      | some v => wpAny (model prog w) A (letOwnedTupleGo t1 it v) (fun _ s₂ => wpAny (model prog w) A (assign t1 env v) (fun _ s₃ => wpAny (model prog w) A (asks fs1 env) (fun ok s₄ =>
          if ok = true then wpAny (model prog w) A (eval kx env) (fun kv s₅ => wpAny (model prog w) A (eval vx env) (fun vv s₆ => wpAny (model prog w) A (dictSet D kv vv) (fun _ s₇ => ∃ m, m < n ∧ I m s₇) (bad prog w A env R) s₆) (bad prog w A env R) s₅) (bad prog w A env R) s₄
          else ∃ m, m < n ∧ I m s₄) (bad prog w A env R) s₃) (bad prog w A env R) s₂) (bad prog w A env R) s₁) (bad prog w A env R) s)
    (n : Nat) (h : I n s) : codeAny (model prog w) A (.compLoop (dc2 kx vx t0 i0 fs0 t1 i1 fs1 sc pos) 1 it (.ref D) env) R s := by
  refine codeAny_loop rfl I (fun n s hI => ?_) n h
  show wpAny _ A ((compTurn (dc2 kx vx t0 i0 fs0 t1 i1 fs1 sc pos) 1 it (.ref D) env).onRaise (fun x => do noteFrame x env; theTreesLotGoes x)) _ _ s
  refine wpAny_noted ?_
  rw [turn_d2i]
  refine wpAny_bind (wpAny_standAt (wpAny_bind (wpAny_mono (turn n s hI) (fun r s₁ k1 => ?_) fun _ _ z => z)))
  cases r with
  | none => exact wpAny_pure k1
  | some v =>
    refine wpAny_bind (wpAny_mono k1 (fun _ s₂ k2 => wpAny_bind (wpAny_mono k2 (fun _ s₃ k3 => wpAny_bind (wpAny_mono k3 (fun ok s₄ k4 => ?_) fun _ _ z => z)) fun _ _ z => z)) fun _ _ z => z)
    cases ok with
    | false => exact wpAny_pure ⟨rfl, k4⟩
    | true => exact wpAny_bind (wpAny_bind (wpAny_mono k4 (fun kv s₅ k5 => wpAny_bind (wpAny_holding (wpAny_mono k5 (fun vv s₆ k6 => wpAny_bind (wpAny_standAt (wpAny_holding (wpAny_mono k6 (fun _ s₇ k7 => wpAny_pure ⟨rfl, k7⟩) fun _ _ z => z)))) fun _ _ z => z))) fun _ _ z => z))
theorem start_d2 (h0 : codeAny (model prog w) A (.compLoop (dc2 kx vx t0 i0 fs0 t1 i1 fs1 sc pos) 1 it acc env) R s)
    (h : wpAny (model prog w) A (pyIter it) (fun it' s' => codeAny (model prog w) A (.compLoop (dc2 kx vx t0 i0 fs0 t1 i1 fs1 sc pos) 1 it' acc env) R s') (bad prog w A env R) s) :
    codeAny (model prog w) A (.compStart (dc2 kx vx t0 i0 fs0 t1 i1 fs1 sc pos) 1 it acc env) R s := by
  refine codeAny_of_tree ?_
  show wpAny _ _ ((compStart (dc2 kx vx t0 i0 fs0 t1 i1 fs1 sc pos) 1 it acc env).onRaise (fun x => do noteFrame x env; standAt theWindowsPlace)) _ _ s
  refine wpAny_notedAt ?_
  unfold compStart
  show wpAny _ _ (ask >>= _) _ _ s
  refine wpAny_bind (wpAny_askSetting (wpAny_ite ?_))
  split
  · first
      | exact wpAny_bind (wpAny_pure (wpAny_pure (And.intro rfl h0)))
      | exact wpAny_pure (And.intro rfl h0)
  · first
      | exact wpAny_bind (wpAny_rule (wpAny_bind (wpAny_standAt (wpAny_bind (wpAny_mono h (fun it' s' z => wpAny_pure (And.intro rfl z)) fun _ _ x => x)))))
      | (refine wpAny_bind (wpAny_rule ?_); show wpAny _ _ (standAt i1.pos >>= _) _ _ s; exact wpAny_bind (wpAny_standAt (wpAny_bind (wpAny_mono h (fun it' s' z => wpAny_pure (And.intro rfl z)) fun _ _ x => x))))
end
end Cot
set_option Elab.async false
set_option linter.all false
set_option maxRecDepth 100000
set_option maxHeartbeats 4000000
namespace Cot
open PySem PySem.Spec PyProof.Rows L2 Evl
section
variable (K : PySem.W.Frag) (P : Program) (w : World)
/-- one more pair is laid in -/
def nPut (D : Addr) (tk tv : TE) (Nx : Hp → Prop) : L2.St → Hp → Prop := fun σ H => tk σ H fun y H1 => tv σ H1 fun z H2 => ∃ m b k, y = .ref b ∧ DiAt K P w H2 D m ∧ SqT K H2 b (k.map V.int) ∧ m.length < sizeLine ∧ Nx (upd H2 D (DicO P w D (putD m k b z)))
/-- a walk's turns, each ending in Nx -/
def turns (J : It) (W : Nat → Nat → Hp → Prop) (Q : Hp → Prop) (g : TG) (σ : L2.St) (vs : List Nat) (tt : TT) (body : (Hp → Prop) → L2.St → Hp → Prop) : Prop := ∀ i m H, W i m H →
  (J.stop i H ∧ Q H) ∨ (J.go i H ∧ ∃ Nx : Hp → Prop, (∀ H', Nx H' → ∃ m', m' < m ∧ W (i + 1) m' H') ∧ ∀ x H', J.yld i H x H' → g x (wipe σ vs) H' fun σ2 H2 => wipe σ2 vs = wipe σ vs ∧ tt σ2 H2 fun b H3 => if b = true then body Nx σ2 H3 else Nx H3)
def tNc1 (wi : TI) (g : TG) (tt : TT) (tk tv : TE) (vs : List Nat) : TE := fun σ H Q => wi σ H fun J H1 => ∀ D, H1 D = none → ∃ W : Nat → Nat → Hp → Prop, (∃ m, W 0 m (upd H1 D (DicO P w D []))) ∧ turns J W (Q (.ref D)) g σ vs tt fun Nx => nPut K P w D tk tv Nx
def tNc2 (wi : TI) (g : TG) (tt : TT) (wi1 : TI) (g1 : TG) (tt1 : TT) (tk tv : TE) (vs vs1 : List Nat) : TE := fun σ H Q => wi σ H fun J H1 => ∀ D, H1 D = none → ∃ W : Nat → Nat → Hp → Prop, (∃ m, W 0 m (upd H1 D (DicO P w D []))) ∧
  turns J W (Q (.ref D)) g σ vs tt fun Nx σ2 H3 => wi1 σ2 H3 fun J1 H4 => ∃ W1 : Nat → Nat → Hp → Prop, (∃ m, W1 0 m H4) ∧ turns J1 W1 Nx g1 σ2 vs1 tt1 fun Nx1 => nPut K P w D tk tv Nx1
end
section
variable {X : Cx}
/-- a block's context -/
abbrev Blk (X : Cx) (sc : Scope) (F : Cx → Prop) : Prop := ∀ (s : Shared) (H : Hp) (C : Addr) (cl : List (Str × Addr)) (fp : List Addr), F (X.blk s H sc (compEnvC sc cl C X.env) fp)
end
end Cot
set_option Elab.async false
set_option linter.all false
set_option maxRecDepth 100000
set_option maxHeartbeats 4000000
namespace Cot
open PySem PySem.Spec PyProof.Rows L2 Evl
def rNList (K : PySem.W.Frag) (P : Program) (w : World) : List V → Hp → VK → Prop := fun xs H Q => ∃ d m, xs = [V.ref d] ∧ DiAt K P w H d m ∧ ∀ p, H p = none → Q (.ref p) (upd H p (.lst (m.map fun e => V.ref e.2.1)))
theorem call_nlist {X : Cx} {K : PySem.W.Frag} {P : Program} {w : World} (e1 : X.K = K) (e2 : X.prog = P) (e3 : X.w = w) (hc : X.calm = true) : CallR X (.type "list") (rNList K P w) := by
  subst e1 e2 e3
  intro pins s σ H xs us Q I r h
  obtain ⟨d, m, rfl, dA, q⟩ := h
  obtain ⟨u, rfl, rx⟩ := vals1 r
  cases rx
  obtain ⟨z, y, ys, rel, o, es, ep, ho, hx, hdt, he, _, _⟩ := dic_of I dA.r
  have l1 : es.size = ys.length := size_of_entries he
  have l2 : m.length = ys.length := Paired.length rel
  refine PySem.W.kdl_call (kdl_raw y hx hdt) (I.ok.hd hc) ho (by omega) fun h' tk acc c kp eo it => ?_
  have lens : acc.toList.length = m.length := by
    rw [Array.length_toList, it.1]
    omega
  have keys : ∀ {ms : Dkv} {zs : List (List Int × Addr × Value)}, DRel ms zs → ∀ (j : Nat) (z : List Int × Addr × Value), zs[j]? = some z → ∃ e, ms[j]? = some e ∧ e.2.1 = z.2.1 := by
    intro ms zs q
    induction q with
    | nil => intro j z hz; simp at hz
    | @cons a b as bs hab t ih =>
      intro j z hz
      cases j with
      | zero =>
        cases hz
        exact ⟨a, rfl, hab.2.1⟩
      | succ j => exact ih j z hz
  refine ⟨.ref s.heap.objs.size, _, I.laid (t' := tk) (o := .lst (m.map fun e => V.ref e.2.1)) kp (Nat.le_refl _) ⟨by rw [List.length_map]; exact z, acc.toList, c, ?_, by rw [Array.toArray_toList]; exact eo⟩, rfl, q _ (I.hok.fresh (Nat.le_refl _))⟩
  refine vals_of_at (by rw [List.length_map, lens]) fun j x v h1 h2 => ?_
  obtain ⟨en, hen, rfl⟩ := it.2 j v (by rw [← Array.getElem?_toList]; exact h2)
  have qe := entry_at he j
  rw [hen] at qe
  cases hb : ys[j]? with
  | none => rw [hb] at qe; exact nomatch (show some en = none from qe)
  | some b =>
    rw [hb] at qe
    have e2 : en = entryOfKey (TK X.prog X.w) b := Option.some.inj qe
    obtain ⟨e, hm, hee⟩ := keys rel j b hb
    rw [List.getElem?_map, hm] at h1
    cases h1
    rw [e2]
    show Value.ref b.2.1 = Value.ref e.2.1
    rw [hee]
section
variable {K : PySem.W.Frag} {P : Program} {w : World} {H H' Hd Hd' Hn H1 H2 : Hp} {σ : L2.St} {te ty td : TE} {L : List (List Int × V)} {D : Ends} {tz : TS} {i : Nat} {a : Addr} {xs : List V} {qs : List (List Int)} {k : List Int}
/-- the set at a of these tuples -/
structure SiAt (K : PySem.W.Frag) (P : Program) (w : World) (Hn H : Hp) (a : Addr) (qs : List (List Int)) : Prop where
  ex : ∃ L, H a = some (SetO P w a L) ∧ (∀ p ∈ L, SqT K Hn p.1 (p.2.map V.int)) ∧ ∀ k, k ∈ L.map (·.2) ↔ k ∈ qs
theorem SiAt.mono {Hn' : Hp} (S : SiAt K P w Hn H a qs) (e1 : Ex Hn Hn') (e2 : ∀ o, H a = some o → H' a = some o) : SiAt K P w Hn' H' a qs := by
  obtain ⟨L, h1, h2, h3⟩ := S.ex
  exact ⟨L, e2 _ h1, fun p hp => ex_t e1 (h2 p hp), h3⟩
end
end Cot
set_option Elab.async false
set_option linter.all false
set_option maxRecDepth 100000
set_option maxHeartbeats 4000000
namespace Cot
open PySem PySem.Spec PyProof.Rows L2 Evl
abbrev Key2 := List Int × List Int
/-- v is a pair of tuples of ints -/
def IsPP (P : Program) (w : World) (h : Heap) (v : Value) (k : Key2) : Prop := ∃ a o x y n, v = .ref a ∧ h.get? a = some o ∧ o.cls = .type "tuple" ∧ o.data = .seq #[.ref x, .ref y] n ∧ IsT P w h k.1 x ∧ IsT P w h k.2 y
section
variable {P : Program} {w : World} {A : Around} {E : Value → Shared → Prop} {s : Shared} {h h' : Heap} {v u : Value} {k k' : Key2}
theorem isT_tups {k : List Int} {b : Addr} (x : IsT P w h k b) (kp : ∀ b o, h.get? b = some o → o.cls = .type "tuple" → h'.get? b = some o) : IsT P w h' k b := by
  obtain ⟨o, items, n, ho, hc, r⟩ := x
  exact ⟨o, items, n, kp b o ho hc, hc, r⟩
theorem IsPP.keeps (p : IsPP P w h v k) (kp : ∀ b o, h.get? b = some o → o.cls = .type "tuple" → h'.get? b = some o) : IsPP P w h' v k := by
  obtain ⟨a, o, x, y, n, e, ho, hc, hd, hx, hy⟩ := p
  exact ⟨a, o, x, y, n, e, kp a o ho hc, hc, hd, isT_tups hx kp, isT_tups hy kp⟩
end
end Cot
set_option Elab.async false
set_option linter.all false
set_option maxRecDepth 100000
set_option maxHeartbeats 4000000
namespace Cot
open PySem PySem.Spec PyProof.Rows L2 Evl
section
variable {prog : Program} {w : World} {A : Around} {R : Result → Shared → Prop} {s : Shared} {kx vx t0 i0 : Expr} {fs0 : List Expr} {sc : Scope} {pos : Pos} {it acc : Value} {env : Env} {D : Addr}
theorem turn_d1 : compTurn (dc1 kx vx t0 i0 fs0 sc pos) 0 it (.ref D) env = (do
    standAt i0.pos
    match ← pyNext it with
    | none => pure (.done .next)
    | some v =>
      letOwnedTupleGo t0 it v
      assign t0 env v
      let ok ← asks fs0 env
      if ok then
        (do
          let kv ← eval kx env
          let vv ← holding [kv] (eval vx env)
          standAt { kx.pos with endLine := vx.pos.endLine, endCol := vx.pos.endCol }
          holding [kv, vv] (dictSet D kv vv))
      again (.compLoop (dc1 kx vx t0 i0 fs0 sc pos) 0 it (.ref D) env)) := by rfl
theorem loop_d1 (I : Nat → Shared → Prop)
    (turn : ∀ n s, I n s → wpAny (model prog w) A (pyNext it) (fun r s₁ => match r with
      | none => R (.ok .next) s₁
      | some v => wpAny (model prog w) A (letOwnedTupleGo t0 it v) (fun _ s₂ => wpAny (model prog w) A (assign t0 env v) (fun _ s₃ => wpAny (model prog w) A (asks fs0 env) (fun ok s₄ =>
          if ok = true then wpAny (model prog w) A (eval kx env) (fun kv s₅ => wpAny (model prog w) A (eval vx env) (fun vv s₆ => wpAny (model prog w) A (dictSet D kv vv) (fun _ s₇ => ∃ m, m < n ∧ I m s₇) (bad prog w A env R) s₆) (bad prog w A env R) s₅) (bad prog w A env R) s₄
          else ∃ m, m < n ∧ I m s₄) (bad prog w A env R) s₃) (bad prog w A env R) s₂) (bad prog w A env R) s₁) (bad prog w A env R) s)
    (n : Nat) (h : I n s) : codeAny (model prog w) A (.compLoop (dc1 kx vx t0 i0 fs0 sc pos) 0 it (.ref D) env) R s := by
  refine codeAny_loop rfl I (fun n s hI => ?_) n h
  show wpAny _ A ((compTurn (dc1 kx vx t0 i0 fs0 sc pos) 0 it (.ref D) env).onRaise (fun x => do noteFrame x env; theTreesLotGoes x)) _ _ s
  refine wpAny_noted ?_
  rw [turn_d1]
  refine wpAny_bind (wpAny_standAt (wpAny_bind (wpAny_mono (turn n s hI) (fun r s₁ k1 => ?_) fun _ _ z => z)))
  cases r with
  | none => exact wpAny_pure k1
  | some v =>
    refine wpAny_bind (wpAny_mono k1 (fun _ s₂ k2 => wpAny_bind (wpAny_mono k2 (fun _ s₃ k3 => wpAny_bind (wpAny_mono k3 (fun ok s₄ k4 => ?_) fun _ _ z => z)) fun _ _ z => z)) fun _ _ z => z)
    cases ok with
    | false => exact wpAny_pure ⟨rfl, k4⟩
    | true => exact wpAny_bind (wpAny_bind (wpAny_mono k4 (fun kv s₅ k5 => wpAny_bind (wpAny_holding (wpAny_mono k5 (fun vv s₆ k6 => wpAny_bind (wpAny_standAt (wpAny_holding (wpAny_mono k6 (fun _ s₇ k7 => wpAny_pure ⟨rfl, k7⟩) fun _ _ z => z)))) fun _ _ z => z))) fun _ _ z => z))
end
section
variable {X : Cx}
theorem nc1_core {pins : List (Addr × Obj)} {s : Shared} {σ : L2.St} {H : Hp} {Q : VK} {kx vx t0 i0 : Expr} {fs0 : List Expr} {sc : Scope} {own : List (Str × Nat)} {pos pos' : Pos} {wi : TI} {g : TG} {tt : TT} {tk tv : TE} {use : Option (Value → Sem Unit)} {Qf : Value → Shared → Prop} (hu : X.A.units < cLine) (hc : X.calm = true) (hN : X.N.Nodup) (I : Inv X pins σ H s)
    (hi : PI X t0 i0 wi) (ok : BlkOk X.N X.env.scope sc own) (hg : Blk X sc fun Y => PG Y t0 g) (ht : Blk X sc fun Y => PTs Y fs0 tt)
    (hk : Blk X sc fun Y => PE Y kx tk) (he : Blk X sc fun Y => PE Y vx tv) (hs : ∀ x, foldedSetIterable i0 X.env x = pure x) (h : tNc1 X.K X.prog X.w wi g tt tk tv (own.map (·.2)) σ H Q)
    (hRR : ∀ D C s' m H', Inv X pins σ H' s' → Q (.ref D) H' → s'.heap.Ns C m → FpOk X pins H' C → compPost (model X.prog X.w) X.A X.xe use Qf (.ref D) C (.ok .next) s') :
    wpAny (model X.prog X.w) X.A (comprehension (dc1 kx vx t0 i0 fs0 sc pos) sc X.env pos' newDict false (eval i0 X.env) use) Qf X.xe s := by
  have cells : ∀ y ∈ sc.names, y.2 = .free → ∃ c, X.env.cells.lookup y.1 = some c := fun y hy e => (ok.free y hy e).elim (fun k => I.ok.has _ (.inl k)) fun k => I.ok.has _ (.inr k)
  refine wpAny_comprehension_free (use := use) rfl hs (closure_ok cells) ok.kind (fun y hy e => by rw [ok.uniq y hy, e]) (thn (hi.run pins s σ H _ I h) fun xv s1 hx => thn hx fun itv s2 h2 => ?_)
  obtain ⟨it, fp, tn, J, H2, e, I2, T, st2, f2, q⟩ := h2
  subst e
  refine wpAny_newObj_type (newEnv_comp ?_)
  generalize hD : s2.heap.objs.size = D
  obtain ⟨W, ⟨m0, w0⟩, turn⟩ := q D (I2.hok.fresh (Nat.le_of_eq hD))
  generalize hs3 : ({ s2 with heap := s2.heap.push { cls := .type "dict", data := .dict #[] } } : Shared) = s3
  have h3 : s3.heap = s2.heap.push { cls := .type "dict", data := .dict #[] } := by rw [← hs3]
  have I3 : Inv X pins σ (upd H2 D (DicO X.prog X.w D [])) s3 := by
    rw [← hs3]
    refine I2.laid (t' := s2.toks) (fun b o e => Heap.get?_push_of_some _ e) (Nat.le_of_eq hD) ?_
    rw [← hD]
    exact dicO_ok (dic_empty I2.big)
  have f3 : ∀ b ∈ fp, FpOk X pins (upd H2 D (DicO X.prog X.w D [])) b ∧ b < s3.heap.objs.size := fun b hb => by
    obtain ⟨o, eo, _⟩ := T.obj _ _ st2 b hb
    have lt : b < s2.heap.objs.size := Heap.lt_size eo
    refine ⟨⟨?_, (f2 b hb).2⟩, by rw [h3, Heap.size_push]; exact Nat.lt_succ_of_lt lt⟩
    rw [upd_ne (by rw [← hD]; exact Nat.ne_of_lt lt)]
    exact (f2 b hb).1
  have I4 := block_start I3 ok hN f3
  have pg := hg s3 (upd H2 D (DicO X.prog X.w D [])) s3.heap.objs.size (cellsFrom (s3.heap.objs.size + 1) sc.names (cloFrom X.env.cells sc.names [])) fp
  have pt := ht s3 (upd H2 D (DicO X.prog X.w D [])) s3.heap.objs.size (cellsFrom (s3.heap.objs.size + 1) sc.names (cloFrom X.env.cells sc.names [])) fp
  have pk := hk s3 (upd H2 D (DicO X.prog X.w D [])) s3.heap.objs.size (cellsFrom (s3.heap.objs.size + 1) sc.names (cloFrom X.env.cells sc.names [])) fp
  have pv := he s3 (upd H2 D (DicO X.prog X.w D [])) s3.heap.objs.size (cellsFrom (s3.heap.objs.size + 1) sc.names (cloFrom X.env.cells sc.names [])) fp
  have none3 : ∀ b ∈ fp, (upd H2 D (DicO X.prog X.w D [])) b = none := fun b hb => (f3 b hb).1.1
  show codeAny _ _ (.compStart (dc1 kx vx t0 i0 fs0 sc pos) 0 (.ref it) (.ref D) (compEnvC sc (cellsFrom (s3.heap.objs.size + 1) sc.names (cloFrom X.env.cells sc.names [])) s3.heap.objs.size X.env)) _ { s3 with heap := pushCells (s3.heap.push { cls := .type "dict", data := .dict #[] }) sc.names }
  generalize hce : compEnvC sc (cellsFrom (s3.heap.objs.size + 1) sc.names (cloFrom X.env.cells sc.names [])) s3.heap.objs.size X.env = ce at I4 pg pt pk pv ⊢
  have loc : ce.locals = s3.heap.objs.size := by subst hce; rfl
  generalize upd H2 D (DicO X.prog X.w D []) = H3 at I3 I4 pg pt pk pv w0 none3 f3
  generalize hs4 : ({ s3 with heap := pushCells (s3.heap.push { cls := .type "dict", data := .dict #[] }) sc.names } : Shared) = s4 at I4 ⊢
  have st4 : tn 0 s4.heap := T.keep _ _ _ st2 fun b _ o e => by
    rw [← hs4]
    refine pushCells_keeps _ _ _ _ (Heap.get?_push_of_some _ ?_)
    rw [h3]
    exact Heap.get?_push_of_some _ e
  have stat : ∀ {σ' : L2.St} {H' : Hp} {s' : Shared}, Inv (X.blk s3 H3 sc ce fp) [] σ' H' s' → (∀ b ∈ fp, H' b = none) → ∀ b ∈ fp, FpOk (X.blk s3 H3 sc ce fp) [] H' b := fun {σ' H' s'} I' hn b hb =>
    ⟨hn b hb, (I'.ok.exf b hb).1, I'.ok.exfs b hb, .inl hb, fun x c e => (I'.ok.exf b hb).2 x c e, fun p hp => (by simp at hp : False).elim⟩
  have loop : codeAny (model X.prog X.w) X.A (.compLoop (dc1 kx vx t0 i0 fs0 sc pos) 0 (.ref it) (.ref D) ce) (compPost (model X.prog X.w) X.A X.xe use Qf (.ref D) s3.heap.objs.size) s4 := by
    refine loop_d1 (fun n s' => ∃ i H', Inv (X.blk s3 H3 sc ce fp) [] (wipe σ (own.map (·.2))) H' s' ∧ tn i s'.heap ∧ (∀ b ∈ fp, H' b = none) ∧ W i n H') ?_ m0 ⟨0, H3, I4, st4, none3, w0⟩
    rintro n s5 ⟨i, H5, I5, st5, n5, w5⟩
    rcases turn i n H5 w5 with ⟨stop, qq⟩ | ⟨go, Nx, hNx, step⟩
    · refine thnF (T.done (X.blk s3 H3 sc ce fp) rfl rfl rfl hc i [] s5 _ H5 (fun _ _ => False) I5 (stat I5 n5) st5 stop) fun r s6 ⟨hr, I6⟩ => ?_
      subst hr
      have I7 : Inv X pins σ H5 s6 := I3.call' (ch := fp) I6.os I6.base I6.hok I6.bare fun b hb => ⟨(f3 b hb).1.2.2.2.1, (f3 b hb).1.2.1, (f3 b hb).1.2.2.2.2.1, (f3 b hb).1.2.2.2.2.2⟩
      have nC : H5 s3.heap.objs.size = none := by
        rw [← loc]
        exact I6.free
      obtain ⟨m, hn, _⟩ := I6.loc
      replace hn : s6.heap.Ns ce.locals m := hn
      rw [loc] at hn
      exact hRR D s3.heap.objs.size s6 m H5 I7 qq hn (I3.fpOk (Nat.le_refl _) nC)
    · refine thnF (T.item (X.blk s3 H3 sc ce fp) rfl rfl rfl hc i [] s5 _ H5 (fun _ _ => False) I5 (stat I5 n5) st5 go) fun r s6 ⟨u, hr, h6⟩ => ?_
      subst hr
      refine thnF h6 fun _ s7 ⟨x, H7, I7, r7, y7, st7, n7⟩ => ?_
      refine thnF (pg.run _ s7 _ H7 x u _ (I7.pinned (stat I7 n7) (T.obj _ _ st7)) r7 (step x H7 y7)) fun _ s8 ⟨σ8, H8, I8, hw8, q8⟩ => ?_
      refine thnF (pt.run _ s8 σ8 H8 _ I8 q8) fun b s9 ⟨H9, I9, q9⟩ => ?_
      have fin : ∀ {s' : Shared} {H' : Hp}, Inv (X.blk s3 H3 sc ce fp) ([] ++ pinsAt fp s7.heap) σ8 H' s' → Nx H' →
          ∃ m, m < n ∧ ∃ i H', Inv (X.blk s3 H3 sc ce fp) [] (wipe σ (own.map (·.2))) H' s' ∧ tn i s'.heap ∧ (∀ b ∈ fp, H' b = none) ∧ W i m H' := fun {s' H'} I' nx => by
        obtain ⟨m', hm, w'⟩ := hNx H' nx
        have pin' : ∀ b ∈ fp, ∀ o, s7.heap.get? b = some o → s'.heap.get? b = some o ∧ H' b = none := fun b hb o e =>
          let z := I'.pin (b, o) (List.mem_append_right _ (List.mem_append_right _ (mem_pinsAt hb e)))
          ⟨z.1, z.2.1⟩
        refine ⟨m', hm, i + 1, H', (I'.unpinned (pins := [])).weak (by rw [← hw8, wipe_length]) (fun j v e => by rw [← hw8] at e; exact (wipe_some e).1), T.keep _ _ _ st7 fun b hb o e => (pin' b hb o e).1, fun b hb => ?_, w'⟩
        obtain ⟨o, e, _⟩ := T.obj _ _ st7 b hb
        exact (pin' b hb o e).2
      cases b with
      | false =>
        simp only [Bool.false_eq_true, if_false] at q9 ⊢
        exact fin I9 q9
      | true =>
        simp only [if_true] at q9 ⊢
        refine thnF (pk.run _ s9 σ8 H9 _ I9 q9) fun kv s17 ⟨yk, H17, I17, r17, q17⟩ => ?_
        refine thnF (pv.run _ s17 σ8 H17 _ I17 q17) fun vv s18 ⟨yv, H18, I18, r18, mm, bb, kk, ek, dA, hb18, hz, nx⟩ => ?_
        subst ek
        cases r17
        exact dic_set (X := X.blk s3 H3 sc ce fp) hu I18 dA hb18 hz r18 fun s19 I19 => fin I19 nx
  exact codeAny_compStart_dict loop (T.self X.A 0 _ _ _ st4 loop)
/-- a local name made a dict by a comprehension -/
theorem ps_setNc1 {i : Nat} {y : Str} {py : Pos} {kx vx t0 i0 : Expr} {fs0 : List Expr} {sc : Scope} {own : List (Str × Nat)} {pos spos : Pos} {wi : TI} {g : TG} {tt : TT} {tk tv : TE} {K : PySem.W.Frag} {P : Program} {w : World} (eK : X.K = K) (eP : X.prog = P) (ew : X.w = w) (hu : X.A.units < cLine) (hc : X.calm = true) (hN : X.N.Nodup) (hy : X.N[i]? = some y) (hyl : X.env.scope.names.lookup y = some .local)
    (hsw : swapsWith (dc1 kx vx t0 i0 fs0 sc pos) (some (.Name y py)) spos.line X.env = pure true) (hi : PI X t0 i0 wi) (ok : BlkOk X.N X.env.scope sc own) (hg : Blk X sc fun Y => PG Y t0 g) (ht : Blk X sc fun Y => PTs Y fs0 tt)
    (hk : Blk X sc fun Y => PE Y kx tk) (he : Blk X sc fun Y => PE Y vx tv) (hs : ∀ x, foldedSetIterable i0 X.env x = pure x := by intro _; rfl) :
    PS X (.Assign [.Name y py] (dc1 kx vx t0 i0 fs0 sc pos) spos) (tAsg (tNc1 K P w wi g tt tk tv (own.map (·.2))) (gName i)) := by
  subst eK eP ew
  refine ⟨fun pins s σ H D I h => ?_⟩
  rw [exec_Assign_Name_used _ _ _ _ hsw]
  refine wpAny_bind (wpAny_standAt (wpAny_bind ?_))
  show wpAny _ X.A (do let _ ← comprehension (dc1 kx vx t0 i0 fs0 sc pos) sc X.env (firstIterPos [⟨t0, i0, fs0, 0⟩] pos) newDict false (eval i0 X.env) (some (assign (.Name y py) X.env))) _ _ s
  have h0 : tNc1 X.K X.prog X.w wi g tt tk tv (own.map (·.2)) σ H (fun x H1 => gName i x σ H1 D.nx) := h
  refine wpAny_bind (thn (nc1_core (Qf := fun _ s' => SP X pins D .next s') hu hc hN I hi ok hg ht hk he hs h0 fun L C s' m H' I' q hn f => ?_) fun _ s' hq => wpAny_pure (wpAny_pure hq))
  show wpAny _ _ (assign (.Name y py) X.env (.ref L)) _ _ _
  refine wpAny_assign_Name (store_ok2 (v := V.ref L) I' hN hy (.inl hyl) rfl (fun s2 I2 ⟨a, sb, ha⟩ => ?_) (.inr hyl))
  have apart : C ≠ a := ha.elim (fun z => by rw [z]; exact f.2.1) fun z e => f.2.2.2.2.1 y a z e.symm
  exact ⟨m, hn.sameBut sb apart, fun h3 sb3 => ⟨_, H', I2.turned (t' := s2.toks) (fun b o hb e => (sb3.2 b hb).trans e) f.1 f.2.1 f.2.2.2.1 f.2.2.2.2.1 f.2.2.2.2.2, q⟩⟩
theorem swD_true {kx vx : Expr} {gs : List Comprehension} {scope : Scope} {pos py : Pos} {y : Str} {l : Nat} {env : Env} (kd : env.scope.kind = .function) (own : env.scope.names.lookup y = some .local) (row : (py.line == pos.line) = true)
    (no : (scope.names.any fun (n, k) => n == y && (k == .local || k == .cell)) = false) : swapsWith (.DictComp kx vx gs scope pos) (some (.Name y py)) l env = pure true := by
  have k1 : env.kindOf y = some .local := own
  have k2 : env.blockKind = .function := by
    unfold Env.blockKind
    rw [kd]
    rfl
  unfold swapsWith
  simp only [k2, k1, no, Expr.pos, row]
  rfl
end
end Cot
set_option Elab.async false
set_option linter.all false
set_option maxRecDepth 100000
set_option maxHeartbeats 4000000
namespace Cot
open PySem PySem.Spec PyProof.Rows L2 Evl
def NbM (K : PySem.W.Frag) (P : Program) (w : World) (H0 Hd H : Hp) (a : Addr) (m : Dkv) (f : List Int → List PyData) : Prop := H a = some (DicO P w a m) ∧ H0 a = none ∧ Hd a = none ∧ KeysAt K Hd m ∧
  (∀ e ∈ m, ∃ p xs, e.2.2 = V.ref p ∧ p ≠ a ∧ H0 p = none ∧ Hd p = none ∧ H p = some (.lst xs) ∧ DpAll K Hd xs (f e.1)) ∧ ∀ e ∈ m, ∀ e' ∈ m, (e.2.2 = e'.2.2 ↔ e.1 = e'.1)
def NbAt (K : PySem.W.Frag) (P : Program) (w : World) (H0 Hd H : Hp) (a : Addr) (ks : List (List Int)) (f : List Int → List PyData) : Prop := ∃ m, NbM K P w H0 Hd H a m f ∧ m.map (·.1) = ks
section
variable {K : PySem.W.Frag} {P : Program} {w : World} {H H' Hd Hd' Hn H0 H1 H2 Hd0 : Hp} {σ : L2.St} {te tk tv td tx : TE} {tr : TA} {tt : TT} {n : Nat} {wi : TI} {g : TG} {ks : List (List Int)} {f : List Int → List PyData} {ds : List PyData} {D : Ends} {tz : TS} {i : Nat} {a : Addr} {m : Dkv}
theorem NbM.mono (N : NbM K P w H0 Hd H a m f) (h0 : Ex H1 H0) (g : Gr Hd H Hn H2) : NbM K P w H1 Hn H2 a m f := by
  obtain ⟨h1, h2, h3, h4, h5, h6⟩ := N
  refine ⟨g.ex _ _ h1, fresh_back h0 h2, g.fr _ _ h1 h3, h4.mono g.dx, fun e he => ?_, h6⟩
  obtain ⟨p, xs, e1, e2, e3, e4, e5, e6⟩ := h5 e he
  exact ⟨p, xs, e1, e2, fresh_back h0 e3, g.fr _ _ e5 e4, g.ex _ _ e5, dpa_mono g.dx _ e6⟩
theorem NbAt.mono (N : NbAt K P w H0 Hd H a ks f) (h0 : Ex H1 H0) (g : Gr Hd H Hn H2) : NbAt K P w H1 Hn H2 a ks f := by
  obtain ⟨m, h, e⟩ := N
  exact ⟨m, h.mono h0 g, e⟩
end
end Cot
set_option Elab.async false
set_option linter.all false
set_option maxRecDepth 100000
set_option maxHeartbeats 4000000
namespace Cot
open PySem PySem.Spec PyProof.Rows L2 Evl
theorem u65 {k : Nat} {A : Around} (r : Room k A) : A.units + 65 < cLine := by have := r.un; omega
section
variable {K : PySem.W.Frag} {P : Program} {w : World} {b : Bid} {H H' Hd Hd' Hn H0 H1 H2 : Hp} {σ : L2.St} {te ta tb tk td : TE} {tr : TA} {ks : List (List Int)} {f : List Int → List PyData} {ds es : List PyData} {d : PyData} {a : Addr} {k : List Int} {Ps Ps' : List PyData → Prop} {p : Int → Prop} {i : Nat} {D : Ends} {tz : TS}
/-- a new list, made while it is drawn -/
def EvBN (K : PySem.W.Frag) (b : Bid) (te : TE) (σ : L2.St) (Hd : Hp) (P : List PyData → Prop) : Prop := Hd b.b = none → ∀ H, Ex Hd H → Bx H b → ∀ Q : VK, (∀ p xs H2 Hn ds, GrB b Hd H Hn H2 → H p = none → Hn p = none → H2 p = some (.lst xs) → DpAll K Hn xs ds → P ds → Q (.ref p) H2) → te σ H Q
theorem EvBN.imp (h : EvBN K b te σ Hd Ps) (k : ∀ ds, Ps ds → Ps' ds) : EvBN K b te σ Hd Ps' := fun hb H s B Q q => h hb H s B Q fun p xs H2 Hn ds g h1 h2 h3 h4 h5 => q p xs H2 Hn ds g h1 h2 h3 h4 (k ds h5)
theorem EvBN.mono (e : Ex Hd Hd') (h : EvBN K b te σ Hd Ps) : EvBN K b te σ Hd' Ps := fun hb H s B Q q => h (fresh_back e hb) H (e.trans s) B Q fun p xs H2 Hn ds g h1 h2 h3 h4 h5 =>
  q p xs H2 _ ds (g.up e s hb).1 h1 (by
    unfold un
    rw [fresh_back s h1]
    exact h2) h3 (dpa_mono (g.up e s hb).2 _ h4) h5
end
end Cot
set_option Elab.async false
set_option linter.all false
set_option maxRecDepth 100000
set_option maxHeartbeats 4000000
namespace Cot
open PySem PySem.Spec PyProof.Rows L2 Evl
end Cot
set_option Elab.async false
set_option linter.all false
set_option maxRecDepth 100000
set_option maxHeartbeats 4000000
namespace Cot
open PySem PySem.Spec PyProof.Rows L2 Evl
end Cot
namespace Cot
open PySem L2 Evl RZ
end Cot
set_option Elab.async false
set_option linter.all false
set_option maxRecDepth 100000
set_option maxHeartbeats 4000000
namespace Cot
open PySem PySem.Spec PyProof.Rows L2 Evl
/-- the key k stands at b -/
def KeyM (K : PySem.W.Frag) (H : Hp) (b : Addr) (k : NestedKey) : Prop := Dp K H (.ref b) k.data ∧ k.depth ≤ 8
theorem keyM_mono {K : PySem.W.Frag} {H H' : Hp} {b : Addr} {k : NestedKey} (e : Ex H H') (h : KeyM K H b k) : KeyM K H' b k := ⟨dp_mono e _ h.1, h.2⟩
mutual
theorem nestedOf {X : Cx} {pins : List (Addr × Obj)} {σ : L2.St} {H : Hp} {s : Shared} (I : Inv X pins σ H s) : ∀ (k : NestedKey) {v : V} {u : Value}, Dp X.K H v k.data → RelV v u → NestedIs s.heap k u
  | .none, v, u, h, r => by
    unfold NestedKey.data at h
    cases h
    cases r
    exact .none
  | .num i, v, u, h, r => by
    unfold NestedKey.data at h
    cases h
    obtain ⟨t, rfl⟩ := r
    exact .int i t
  | .text x, v, u, h, r => by
    unfold NestedKey.data at h
    cases h
    obtain ⟨t, rfl⟩ := r
    exact .text x t
  | .tup ks, v, u, h, r => by
    unfold NestedKey.data at h
    cases h with
    | tup hs hall =>
      cases r
      obtain ⟨its, rv, ⟨o, ho, hc, n, hd⟩, _⟩ := I.tuple hs
      exact .tup ho hc hd (by simpa using nestedAll I ks hall rv)
theorem nestedAll {X : Cx} {pins : List (Addr × Obj)} {σ : L2.St} {H : Hp} {s : Shared} (I : Inv X pins σ H s) : ∀ (ks : List NestedKey) {vs : List V} {us : List Value}, DpAll X.K H vs (NestedKey.datas ks) → Vals vs us → NestedAll s.heap ks us
  | [], vs, us, h, r => by
    unfold NestedKey.datas at h
    cases h
    cases r
    exact .nil
  | k :: ks, vs, us, h, r => by
    unfold NestedKey.datas at h
    cases h with
    | cons h1 h2 =>
      cases r with
      | cons r1 r2 => exact .cons (nestedOf I k h1 r1) (nestedAll I ks h2 r2)
end
theorem isM {X : Cx} {pins : List (Addr × Obj)} {σ : L2.St} {H : Hp} {s : Shared} {b : Addr} {k : NestedKey} (I : Inv X pins σ H s) (h : KeyM X.K H b k) : (nestedKind X.prog X.w).is s.heap k b := ⟨nestedOf I k h.1 rfl, h.2⟩
/-- the key, the place of its tuple, the value -/
abbrev Mkv := List (NestedKey × Addr × V)
def valM (m : Mkv) (k : NestedKey) : Option V := (m.find? fun e => decide (e.1 = k)).map fun e => e.2.2
def putM (m : Mkv) (k : NestedKey) (b : Addr) (v : V) : Mkv := if (valM m k).isSome then m.map (fun e => if e.1 = k then (e.1, e.2.1, v) else e) else m ++ [(k, b, v)]
abbrev MRel : Mkv → List (NestedKey × Addr × Value) → Prop := Paired fun p q => p.1 = q.1 ∧ p.2.1 = q.2.1 ∧ RelV p.2.2 q.2.2
def DicPM (P : Program) (w : World) (h : Heap) (a : Addr) (m : Mkv) : Prop := m.length ≤ sizeLine ∧ (a == sysModules) = false ∧ ∃ xs : List (NestedKey × Addr × Value), MRel m xs ∧ (xs.map (·.1)).Nodup ∧
  ∃ o es ep, h.get? a = some o ∧ o.ExactDict ∧ o.data = .dict es ep ∧ es.toList = xs.map (entryOfKey (nestedKind P w))
/-- the dict at a -/
def DicM (P : Program) (w : World) (a : Addr) (m : Mkv) : HO := .ext fun h => DicPM P w h a m
def KeysM (K : PySem.W.Frag) (H : Hp) (m : Mkv) : Prop := ∀ e ∈ m, KeyM K H e.2.1 e.1
theorem KeysM.mono {K : PySem.W.Frag} {H H' : Hp} {m : Mkv} (e : Ex H H') (k : KeysM K H m) : KeysM K H' m := fun x hx => keyM_mono e (k x hx)
theorem KeysM.put {K : PySem.W.Frag} {H : Hp} {m : Mkv} {k : NestedKey} {b : Addr} {v : V} (h : KeysM K H m) (hb : KeyM K H b k) : KeysM K H (putM m k b v) := by
  intro e he
  unfold putM at he
  split at he
  · obtain ⟨e0, h0, rfl⟩ := List.mem_map.mp he
    split
    · exact h e0 h0
    · exact h e0 h0
  · rcases List.mem_append.mp he with he | he
    · exact h e he
    · rcases List.mem_cons.mp he with rfl | he
      · exact hb
      · cases he
def MiAt (K : PySem.W.Frag) (P : Program) (w : World) (H : Hp) (a : Addr) (m : Mkv) : Prop := H a = some (DicM P w a m) ∧ KeysM K H m
/-- the dict at a while a loop walks it: its object stays -/
def DicMF (P : Program) (w : World) (a : Addr) (m : Mkv) (o : Obj) : HO := .ext fun h => h.get? a = some o ∧ DicPM P w h a m
/-- a dict that can be read -/
def MiR (K : PySem.W.Frag) (P : Program) (w : World) (H : Hp) (a : Addr) (m : Mkv) : Prop := (H a = some (DicM P w a m) ∨ ∃ o, H a = some (DicMF P w a m o)) ∧ KeysM K H m
theorem MiR.mono {K : PySem.W.Frag} {P : Program} {w : World} {H H' : Hp} {a : Addr} {m : Mkv} (e : Ex H H') (d : MiR K P w H a m) : MiR K P w H' a m := ⟨d.1.elim (fun h => .inl (e _ _ h)) fun ⟨o, h⟩ => .inr ⟨o, e _ _ h⟩, d.2.mono e⟩
theorem MiAt.r {K : PySem.W.Frag} {P : Program} {w : World} {H : Hp} {a : Addr} {m : Mkv} (d : MiAt K P w H a m) : MiR K P w H a m := ⟨.inl d.1, d.2⟩
theorem MiAt.mono {K : PySem.W.Frag} {P : Program} {w : World} {H H' : Hp} {a : Addr} {m : Mkv} (e : Ex H H') (d : MiAt K P w H a m) : MiAt K P w H' a m := ⟨e _ _ d.1, d.2.mono e⟩
section
variable {X : Cx} {pins : List (Addr × Obj)} {σ : L2.St} {H : Hp} {s : Shared} {a b : Addr} {m : Mkv} {k : NestedKey} {v : V} {u : Value} {A : Around} {E : Value → Shared → Prop}
theorem mdic_of (I : Inv X pins σ H s) (d : MiR X.K X.prog X.w H a m) : m.length ≤ sizeLine ∧ (a == sysModules) = false ∧ ∃ xs, MRel m xs ∧ s.heap.DictOfH (nestedKind X.prog X.w) a xs := by
  have hp : DicPM X.prog X.w s.heap a m := by
    rcases d.1 with h | ⟨o, h⟩
    · exact (show ObjOk X.prog X.w H s.heap a (DicM X.prog X.w a m) from I.hok a _ h).1
    · exact (show ObjOk X.prog X.w H s.heap a (DicMF X.prog X.w a m o) from I.hok a _ h).1.2
  obtain ⟨z, y, xs, r, n, o, es, ep, ho, hx, hd, he⟩ := hp
  refine ⟨z, y, xs, r, o, es, ep, ho, hx, hd, he, ?_, n⟩
  have all : ∀ {l : Mkv} {ys : List (NestedKey × Addr × Value)}, MRel l ys → (∀ e ∈ l, KeyM X.K H e.2.1 e.1) → ∀ x ∈ ys, (nestedKind X.prog X.w).is s.heap x.1 x.2.1 := by
    intro l ys q
    induction q with
    | nil => intro _ x hx; cases hx
    | @cons p q ps qs hq t ih =>
      intro hk x hx
      rcases List.mem_cons.mp hx with rfl | hx
      · have := isM I (hk p List.mem_cons_self)
        rw [hq.1, hq.2.1] at this
        exact this
      · exact ih (fun e he => hk e (List.mem_cons_of_mem _ he)) x hx
  exact all r d.2
end
end Cot
namespace Cot
open PySem L2 Evl
end Cot
namespace Cot
open PySem L2 Evl
end Cot
set_option Elab.async false
set_option linter.all false
set_option maxRecDepth 100000
set_option maxHeartbeats 4000000
namespace Cot
open PySem PySem.Spec PyProof.Rows L2 Evl
end Cot
namespace Cot
open PySem L2 Evl
end Cot
set_option Elab.async false
set_option linter.all false
set_option maxRecDepth 100000
set_option maxHeartbeats 4000000
namespace Cot
open PySem PySem.Spec PyProof.Rows L2 Evl
end Cot
namespace Cot
open PySem L2 Evl
end Cot
set_option Elab.async false
set_option linter.all false
set_option maxRecDepth 100000
set_option maxHeartbeats 4000000
namespace Cot
open PySem PySem.Spec PyProof.Rows L2 Evl
def viewV (p a : Addr) : HO := .ext fun h => h.IsValuesView p a
theorem viewV_ok {P : Program} {w : World} {H : Hp} {h : Heap} {p a : Addr} (x : h.IsValuesView p a) : ObjOk P w H h p (viewV p a) := by
  refine ⟨x, ?_, ?_⟩
  · obtain ⟨o, ho, _⟩ := x
    exact ⟨o, ho⟩
  · rintro h1 h2 ⟨o, ho, r⟩ k
    exact ⟨o, k o ho, r⟩
def tMVals (K : PySem.W.Frag) (P : Program) (w : World) (td : TE) : TE := fun σ H Q => td σ H fun x H1 => ∃ a m, x = .ref a ∧ MiR K P w H1 a m ∧ ∀ p, H1 p = none → Q (.ref p) (upd H1 p (viewV p a))
def rMVList (K : PySem.W.Frag) (P : Program) (w : World) : List V → Hp → VK → Prop := fun xs H Q => ∃ q d m, xs = [V.ref q] ∧ H q = some (viewV q d) ∧ MiR K P w H d m ∧ ∀ p, H p = none → Q (.ref p) (upd H p (.lst (m.map fun e => e.2.2)))
section
variable {X : Cx} {o : Expr} {apos cpos : Pos} {td : TE}
theorem pe_mvals {K : PySem.W.Frag} {P : Program} {w : World} (e1 : X.K = K) (e2 : X.prog = P) (e3 : X.w = w) (ho : PE X o td) (hbase : attributeBase o "values" X.env (eval o X.env) = eval o X.env := by rfl) (hline : (apos.endLine == cpos.line) = true := by rfl) : PE X (.Call (.Attribute o "values" apos) [] [] cpos) (tMVals K P w td) := by
  subst e1 e2 e3
  refine ⟨fun pins s σ H Q I h => ?_⟩
  refine wpAny_Call_method0_late hbase hline (thn (ho.run pins s σ H _ I h) fun v s1 ⟨x, H1, I1, r1, a, m, ex, d, q⟩ => ?_)
  subst ex
  obtain rfl : v = Value.ref a := r1
  obtain ⟨_, y, xs, _, dd⟩ := mdic_of I1 d
  obtain ⟨es, ep, raw, _⟩ := dd.raw
  obtain ⟨ob, hob, ex, _⟩ := id raw
  refine ⟨"dict", "dict.values", PySem.F.plainAttrs_dict, PySem.F.slot_dict_values, PySem.F.type_dict_values, ⟨ob, hob, ex.1⟩, fun b e => ?_, Calls.callWith_builtin rfl (PySem.evalArgs_none ?_)⟩
  · cases e
    exact ⟨ob, hob, ex.2.1⟩
  refine call_meetsIn PySem.F.slot_dict_values ⟨ob, hob, ex.1⟩ PySem.F.entry_dict_values (PySem.F.args_dict_values_1 _) (PySem.meets_dict_values_raw a y) ⟨⟨es, ep, raw⟩, ?_⟩
  exact ⟨.ref s1.heap.objs.size, _, I1.laid (t' := s1.toks) (fun b o q => Heap.get?_push_of_some _ q) (Nat.le_refl _) (viewV_ok ⟨_, Heap.get?_push_size _ rfl, rfl, rfl⟩), rfl, q _ (I1.hok.fresh (Nat.le_refl _))⟩
theorem kdl_rawV {prog : Program} {w : World} {r d : Addr} {es : Array DictEntry} {ep : Nat} :
    PySem.W.KdlSrc prog w "dict_values" r d es.size (fun i v => ∃ hi : i < es.size, v = es[i].val) (fun h => h.IsValuesView r d ∧ h.DictRaw d es ep) where
  type := fun _ hm => hm.1.typeIs
  there := fun _ hm => ⟨let ⟨_, ho, _⟩ := hm.1; Heap.lt_size ho, let ⟨_, ho, _⟩ := hm.2; Heap.lt_size ho⟩
  keep := fun _ _ hm hk => ⟨let ⟨o, ho, x⟩ := hm.1; ⟨o, hk r (.inl rfl) o ho, x⟩, hm.2.at fun o e => hk d (.inr rfl) o e⟩
  notList := by decide
  notTuple := by decide
  hint := fun _ _ _ _ hm hq => PySem.W.kdl_hint_values hm.1.typeIs hq
  iter := fun _ s hh hm => ⟨_, _, (fun _ _ hq => wpAny_pyIter_values_raw hm.1 hm.2 hq), Walks.rawValues hh _ d (let ⟨_, ho, _⟩ := hm.2; Nat.ne_of_lt (Heap.lt_size ho)) es ep, ⟨⟨_, Heap.get?_push_size _ rfl, rfl, rfl⟩, hm.2.at fun o e => Heap.get?_push_of_some _ e⟩⟩
theorem call_mvlist {K : PySem.W.Frag} {P : Program} {w : World} (e1 : X.K = K) (e2 : X.prog = P) (e3 : X.w = w) (hc : X.calm = true) : CallR X (.type "list") (rMVList K P w) := by
  subst e1 e2 e3
  intro pins s σ H xs us Q I r h
  obtain ⟨q0, d, m, rfl, hq0, dA, q⟩ := h
  obtain ⟨u, rfl, rx⟩ := vals1 r
  cases rx
  have hv : s.heap.IsValuesView q0 d := (show ObjOk X.prog X.w H s.heap q0 (viewV q0 d) from I.hok q0 _ hq0).1
  obtain ⟨z, y, ys, rel, dd⟩ := mdic_of I dA
  obtain ⟨es, ep, raw, l1, hent⟩ := dd.raw
  have l2 : m.length = ys.length := Paired.length rel
  refine PySem.W.kdl_call kdl_rawV (I.ok.hd hc) ⟨hv, raw⟩ (by omega) fun h' tk acc c kp eo it => ?_
  have lens : acc.toList.length = m.length := by
    rw [Array.length_toList, it.1]
    omega
  have vals : ∀ {ms : Mkv} {zs : List (NestedKey × Addr × Value)}, MRel ms zs → ∀ (j : Nat) (z : NestedKey × Addr × Value), zs[j]? = some z → ∃ e, ms[j]? = some e ∧ RelV e.2.2 z.2.2 := by
    intro ms zs q
    induction q with
    | nil => intro j z hz; simp at hz
    | @cons a b as bs hab t ih =>
      intro j z hz
      cases j with
      | zero =>
        cases hz
        exact ⟨a, rfl, hab.2.2⟩
      | succ j => exact ih j z hz
  refine ⟨.ref s.heap.objs.size, _, I.laid (t' := tk) (o := .lst (m.map fun e => e.2.2)) kp (Nat.le_refl _) ⟨by rw [List.length_map]; exact z, acc.toList, c, ?_, by rw [Array.toArray_toList]; exact eo⟩, rfl, q _ (I.hok.fresh (Nat.le_refl _))⟩
  refine vals_of_at (by rw [List.length_map, lens]) fun j x v h1 h2 => ?_
  obtain ⟨hj, rfl⟩ := it.2 j v (by rw [← Array.getElem?_toList]; exact h2)
  obtain ⟨b, hb, _, hval, _⟩ := hent j hj
  obtain ⟨e, hm, hee⟩ := vals rel j b hb
  rw [List.getElem?_map, hm] at h1
  cases h1
  rw [hval]
  exact hee
end
section
theorem truth_ints {prog : Program} {w : World} {A : Around} {ns : List Int} {its : List Value} (e : Vals (ns.map V.int) its) :
    TruthOf prog w A (fun i v => its.toArray[i]? = some v) (fun i => (ns.map fun n => decide (n ≠ 0)).getD i false) := fun i v s Q E hv hq => by
  have hv' : its[i]? = some v := by simpa using hv
  have at' : ∀ {ms : List Int} {us : List Value}, Vals (ms.map V.int) us → ∀ (j : Nat) (u : Value), us[j]? = some u → ∃ n t, ms[j]? = some n ∧ u = Value.int n t := by
    intro ms
    induction ms with
    | nil => intro us h j u hu; cases h; simp at hu
    | cons m ms ih =>
      intro us h j u hu
      cases h with
      | cons r t =>
        cases j with
        | zero =>
          cases hu
          obtain ⟨k, rfl⟩ := r
          exact ⟨m, k, rfl, rfl⟩
        | succ j => exact ih t j u hu
  obtain ⟨n, t, hn, rfl⟩ := at' e i v hv'
  have hg : (ns.map fun n => decide (n ≠ 0)).getD i false = decide (n ≠ 0) := by rw [List.getD_eq_getElem?_getD, List.getElem?_map, hn] <;> rfl
  have hq' : Q ((ns.map fun n => decide (n ≠ 0)).getD i false) s := hq
  rw [hg] at hq'
  have e3 : (n != 0) = decide (n ≠ 0) := by by_cases h : n = 0 <;> simp [h]
  rw [← e3] at hq'
  exact PySem.P.truthy_int hq'
def rAnyI (K : PySem.W.Frag) : List V → Hp → VK → Prop := fun vs H Q => ∃ (a : Addr) (ns : List Int), vs = [V.ref a] ∧ SqL K H a (ns.map V.int) ∧ Q (.bl (ns.any fun n => decide (n ≠ 0))) H
theorem cr_anyI {X : Cx} (hc : X.calm = true) : CallR X (.builtin "any") (rAnyI X.K) := by
  intro pins s σ H vs us Q I r h
  obtain ⟨a, bs, rfl, hs, q⟩ := h
  obtain ⟨its, rv, hl, _⟩ := I.list hs
  rw [Vals.ref1 r]
  refine call_any_walk (iter_any hl.isList fun s₂ e2 st hne => ?_)
  subst e2
  refine ⟨_, _, _, _, _, _, _, rfl, Walks.list (A := X.A.in1) (I.ok.hd hc) _ a hne its.toArray, st, truth_ints rv, fun h' tk hk => ?_⟩
  refine ⟨.bl _, H, I.kept fun b o eo => hk b o (fun hmem => ?_) (Heap.get?_push_of_some _ eo), ?_, q⟩
  · rcases List.mem_cons.mp hmem with e1 | hmem
    · exact absurd (e1 ▸ Heap.lt_size eo) (Nat.lt_irrefl _)
    · cases hmem
  · show Value.bool _ = Value.bool _
    have l : its.length = bs.length := by
      have := rv.length
      rw [List.length_map] at this
      exact this.symm
    have h2 := any_range (bs.map fun n => decide (n ≠ 0))
    rw [List.length_map] at h2
    rw [List.size_toArray, l, h2, List.any_map]
    rfl
end
end Cot
namespace Cot
open PySem L2 Evl
end Cot
set_option Elab.async false
set_option linter.all false
set_option maxRecDepth 100000
set_option maxHeartbeats 4000000
namespace Cot
open PySem L2 Evl
end Cot
set_option Elab.async false
set_option linter.all false
set_option maxRecDepth 100000
set_option maxHeartbeats 4000000
namespace Cot
open PySem PySem.Spec PyProof.Rows L2 Evl RZ
abbrev lstItO (t : Addr) : Obj := { cls := .type "list_iterator", data := .fields #[.ref t, .int 0 0] }
abbrev twoO (a b : Value) : Obj := { cls := .type "tuple", data := .seq #[a, b] }
abbrev zb (h : Heap) (a b : Addr) : Heap := (h.push (lstItO a)).push (tupItO b)
abbrev zc (h : Heap) (a b : Addr) : Heap := (zb h a b).push (twoO (.ref h.objs.size) (.ref (h.push (lstItO a)).objs.size))
end Cot
set_option Elab.async false
set_option linter.all false
set_option maxRecDepth 100000
set_option maxHeartbeats 4000000
namespace Cot
open PySem L2 Evl
abbrev Ages := List (List (Option Int))
def oD : Option Int → PyData
  | none => .none
  | some n => .int n
def oV : Option Int → V
  | none => .non
  | some n => .int n
def lineD (l : List (Option Int)) : PyData := .list (l.map oD)
def agesD (A : Ages) : PyData := .list (A.map lineD)
section
variable {K : PySem.W.Frag} {a p : Addr} {ps : List Addr} {A : Ages} {r : List (Option Int)} {H H' Hd Hn H1 H2 : Hp} {σ : L2.St} {ta tb tc te tl : TE} {D : Ends} {tz : TS} {d d1 d2 : PyData} {i j : Nat} {b : Bid} {v : V}
theorem ov_dp (o : Option Int) : Dp K H (oV o) (oD o) := by
  cases o with
  | none => exact .non
  | some n => exact .int n
theorem ovs_dp : ∀ r : List (Option Int), DpAll K H (r.map oV) (r.map oD)
  | [] => .nil
  | o :: r => .cons (ov_dp o) (ovs_dp r)
/-- a list of lists of numbers and None, each its own -/
structure LO (H : Hp) (a : Addr) (ps : List Addr) (A : Ages) : Prop where
  top : H a = some (.lst (ps.map .ref))
  len : ps.length = A.length
  nd : ps.Nodup
  out : a ∉ ps
  row : ∀ (i : Nat) (p : Addr) (r : List (Option Int)), ps[i]? = some p → A[i]? = some r → H p = some (.lst (r.map oV))
theorem LO.keep (h : LO H a ps A) (ka : ∀ o, H a = some o → H2 a = some o) (kp : ∀ q ∈ ps, ∀ o, H q = some o → H2 q = some o) : LO H2 a ps A := ⟨ka _ h.top, h.len, h.nd, h.out, fun i p r h1 h2 => kp p (List.mem_of_getElem? h1) _ (h.row i p r h1 h2)⟩
theorem LO.ext (h : LO H a ps A) (e : Ex H H2) : LO H2 a ps A := h.keep (fun o => e a o) fun q _ o => e q o
theorem LO.put (h : LO H a ps A) (hp : ps[i]? = some p) (r' : List (Option Int)) : LO (upd H p (.lst (r'.map oV))) a ps (A.set i r') := by
  have hm := List.mem_of_getElem? hp
  refine ⟨by rw [upd_ne (show a ≠ p from fun e => h.out (by rw [e]; exact hm))]; exact h.top, by rw [List.length_set]; exact h.len, h.nd, h.out, fun k q r h1 h2 => ?_⟩
  have a1 := List.getElem?_eq_some_iff.mp h1
  have a2 := List.getElem?_eq_some_iff.mp hp
  by_cases e : k = i
  · subst e
    rw [h1] at hp
    cases hp
    rw [List.getElem?_set_self (by have := a1.1; have := h.len; omega)] at h2
    cases h2
    exact upd_same
  · rw [List.getElem?_set_ne (fun e2 => e e2.symm)] at h2
    have hne : q ≠ p := fun e2 => by
      subst e2
      exact e ((List.getElem_inj h.nd).mp (a1.2.trans a2.2.symm))
    rw [upd_ne hne]
    exact h.row k q r h1 h2
theorem LO.drop (h : LO H a ps A) (k : Nat) : LO (upd H a (.lst ((ps.eraseIdx k).map .ref))) a (ps.eraseIdx k) (A.eraseIdx k) := by
  have hsub : ∀ x, x ∈ ps.eraseIdx k → x ∈ ps := fun x hx => List.mem_of_mem_eraseIdx hx
  refine ⟨upd_same, by rw [List.length_eraseIdx, List.length_eraseIdx, h.len], h.nd.sublist (List.eraseIdx_sublist ps k), fun hm => h.out (hsub _ hm), fun i p r h1 h2 => ?_⟩
  have hm := hsub _ (List.mem_of_getElem? h1)
  rw [upd_ne (show p ≠ a from fun e => h.out (by rw [← e]; exact hm))]
  rw [List.getElem?_eraseIdx] at h1 h2
  split at h1
  · rename_i hlt
    rw [if_pos hlt] at h2
    exact h.row i p r h1 h2
  · rename_i hlt
    rw [if_neg hlt] at h2
    exact h.row (i + 1) p r h1 h2
theorem lo_data : ∀ {ps : List Addr} {A : Ages}, ps.length = A.length → (∀ (i : Nat) (p : Addr) (r : List (Option Int)), ps[i]? = some p → A[i]? = some r → H p = some (.lst (r.map oV))) → DpAll K H (ps.map .ref) (A.map lineD)
  | [], [], _, _ => .nil
  | [], _ :: _, h, _ => by cases h
  | _ :: _, [], h, _ => by cases h
  | p :: ps, r :: rs, h, k => .cons (.lst (sq_of (k 0 p r rfl rfl)) (ovs_dp r)) (lo_data (by simpa using h) fun i p r h1 h2 => k (i + 1) p r h1 h2)
theorem LO.data (h : LO H a ps A) (s : Ex Hd H) (na : Hd a = none) (np : ∀ p ∈ ps, Hd p = none) : ∃ Hn, Ex Hd Hn ∧ Ex Hn H ∧ Dp K Hn (.ref a) (agesD A) ∧ ∀ q, q ≠ a → q ∉ ps → Hn q = Hd q := by
  refine ⟨fun x => if x = a ∨ x ∈ ps then H x else Hd x, fun x o hx => ?_, fun x o hx => ?_, .lst (xs := ps.map .ref) (sq_of ?_) (lo_data h.len fun i p r h1 h2 => ?_), fun q n m => if_neg (fun h => h.elim n m)⟩
  · show (if x = a ∨ x ∈ ps then H x else Hd x) = some o
    split
    · exact s x o hx
    · exact hx
  · have hx' : (if x = a ∨ x ∈ ps then H x else Hd x) = some o := hx
    split at hx'
    · exact hx'
    · exact s x o hx'
  · show (if a = a ∨ a ∈ ps then H a else Hd a) = _
    rw [if_pos (.inl rfl)]
    exact h.top
  · show (if p = a ∨ p ∈ ps then H p else Hd p) = _
    rw [if_pos (.inr (List.mem_of_getElem? h1))]
    exact h.row i p r h1 h2
end
end Cot
set_option Elab.async false
set_option linter.all false
set_option maxRecDepth 100000
set_option maxHeartbeats 4000000
namespace Cot
open PySem L2 Evl
end Cot
set_option Elab.async false
set_option linter.all false
set_option maxRecDepth 100000
set_option maxHeartbeats 4000000
namespace Cot
open PySem PySem.Spec PyProof.Rows L2 Evl
abbrev Key3 := Key2 × Int
def IsP3 (P : Program) (w : World) (h : Heap) (v : Value) (k : Key3) : Prop := ∃ a o x y n t, v = .ref a ∧ h.get? a = some o ∧ o.cls = .type "tuple" ∧ o.data = .seq #[.ref x, .ref y, .int k.2 t] n ∧ IsT P w h k.1.1 x ∧ IsT P w h k.1.2 y
section
variable {P : Program} {w : World} {A : Around} {E : Value → Shared → Prop} {s : Shared} {h h' : Heap} {v u : Value} {k k' : Key3}
theorem IsP3.keeps (p : IsP3 P w h v k) (kp : ∀ b o, h.get? b = some o → o.cls = .type "tuple" → h'.get? b = some o) : IsP3 P w h' v k := by
  obtain ⟨a, o, x, y, n, t, e, ho, hc, hd, hx, hy⟩ := p
  exact ⟨a, o, x, y, n, t, e, kp a o ho hc, hc, hd, isT_tups hx kp, isT_tups hy kp⟩
end
end Cot
set_option Elab.async false
set_option linter.all false
set_option maxRecDepth 100000
set_option maxHeartbeats 4000000
namespace Cot
open PySem PySem.Spec PyProof.Rows L2 Evl RZ
end Cot
set_option Elab.async false
set_option linter.all false
set_option maxRecDepth 100000
set_option maxHeartbeats 4000000
namespace Cot
open PySem PySem.Spec PyProof.Rows L2 Evl
section
variable {X : Cx}
theorem nc2_core {pins : List (Addr × Obj)} {s : Shared} {σ : L2.St} {H : Hp} {Q : VK} {kx vx t0 i0 t1 i1 : Expr} {fs0 fs1 : List Expr} {sc : Scope} {own : List (Str × Nat)} {vs1 : List Nat} {pos pos' : Pos} {wi wi1 : TI} {g g1 : TG} {tt tt1 : TT} {tk tv : TE} {use : Option (Value → Sem Unit)} {Qf : Value → Shared → Prop} (hu : X.A.units < cLine) (hc : X.calm = true) (hN : X.N.Nodup) (I : Inv X pins σ H s)
    (hi : PI X t0 i0 wi) (ok : BlkOk X.N X.env.scope sc own) (hv : ∀ i ∈ vs1, i ∈ own.map (·.2)) (hg : Blk X sc fun Y => PG Y t0 g) (ht : Blk X sc fun Y => PTs Y fs0 tt) (hi1 : Blk X sc fun Y => PI Y t1 i1 wi1) (hg1 : Blk X sc fun Y => PG Y t1 g1) (ht1 : Blk X sc fun Y => PTs Y fs1 tt1)
    (hk : Blk X sc fun Y => PE Y kx tk) (he : Blk X sc fun Y => PE Y vx tv) (hs : ∀ x, foldedSetIterable i0 X.env x = pure x) (hs1 : ∀ env x, foldedSetIterable i1 env x = pure x) (h : tNc2 X.K X.prog X.w wi g tt wi1 g1 tt1 tk tv (own.map (·.2)) vs1 σ H Q)
    (hRR : ∀ D C s' m H', Inv X pins σ H' s' → Q (.ref D) H' → s'.heap.Ns C m → FpOk X pins H' C → compPost (model X.prog X.w) X.A X.xe use Qf (.ref D) C (.ok .next) s') :
    wpAny (model X.prog X.w) X.A (comprehension (dc2 kx vx t0 i0 fs0 t1 i1 fs1 sc pos) sc X.env pos' newDict false (eval i0 X.env) use) Qf X.xe s := by
  have cells : ∀ y ∈ sc.names, y.2 = .free → ∃ c, X.env.cells.lookup y.1 = some c := fun y hy e => (ok.free y hy e).elim (fun k => I.ok.has _ (.inl k)) fun k => I.ok.has _ (.inr k)
  refine wpAny_comprehension_free (use := use) rfl hs (closure_ok cells) ok.kind (fun y hy e => by rw [ok.uniq y hy, e]) (thn (hi.run pins s σ H _ I h) fun xv s1 hx => thn hx fun itv s2 h2 => ?_)
  obtain ⟨it, fp, tn, J, H2, e, I2, T, st2, f2, q⟩ := h2
  subst e
  refine wpAny_newObj_type (newEnv_comp ?_)
  generalize hD : s2.heap.objs.size = D
  obtain ⟨W, ⟨m0, w0⟩, turn⟩ := q D (I2.hok.fresh (Nat.le_of_eq hD))
  generalize hs3 : ({ s2 with heap := s2.heap.push { cls := .type "dict", data := .dict #[] } } : Shared) = s3
  have h3 : s3.heap = s2.heap.push { cls := .type "dict", data := .dict #[] } := by rw [← hs3]
  have I3 : Inv X pins σ (upd H2 D (DicO X.prog X.w D [])) s3 := by
    rw [← hs3]
    refine I2.laid (t' := s2.toks) (fun b o e => Heap.get?_push_of_some _ e) (Nat.le_of_eq hD) ?_
    rw [← hD]
    exact dicO_ok (dic_empty I2.big)
  have f3 : ∀ b ∈ fp, FpOk X pins (upd H2 D (DicO X.prog X.w D [])) b ∧ b < s3.heap.objs.size := fun b hb => by
    obtain ⟨o, eo, _⟩ := T.obj _ _ st2 b hb
    have lt : b < s2.heap.objs.size := Heap.lt_size eo
    refine ⟨⟨?_, (f2 b hb).2⟩, by rw [h3, Heap.size_push]; exact Nat.lt_succ_of_lt lt⟩
    rw [upd_ne (by rw [← hD]; exact Nat.ne_of_lt lt)]
    exact (f2 b hb).1
  have I4 := block_start I3 ok hN f3
  have pg := hg s3 (upd H2 D (DicO X.prog X.w D [])) s3.heap.objs.size (cellsFrom (s3.heap.objs.size + 1) sc.names (cloFrom X.env.cells sc.names [])) fp
  have pt := ht s3 (upd H2 D (DicO X.prog X.w D [])) s3.heap.objs.size (cellsFrom (s3.heap.objs.size + 1) sc.names (cloFrom X.env.cells sc.names [])) fp
  have pk := hk s3 (upd H2 D (DicO X.prog X.w D [])) s3.heap.objs.size (cellsFrom (s3.heap.objs.size + 1) sc.names (cloFrom X.env.cells sc.names [])) fp
  have pv := he s3 (upd H2 D (DicO X.prog X.w D [])) s3.heap.objs.size (cellsFrom (s3.heap.objs.size + 1) sc.names (cloFrom X.env.cells sc.names [])) fp
  have pi1 := hi1 s3 (upd H2 D (DicO X.prog X.w D [])) s3.heap.objs.size (cellsFrom (s3.heap.objs.size + 1) sc.names (cloFrom X.env.cells sc.names [])) fp
  have pg1 := hg1 s3 (upd H2 D (DicO X.prog X.w D [])) s3.heap.objs.size (cellsFrom (s3.heap.objs.size + 1) sc.names (cloFrom X.env.cells sc.names [])) fp
  have pt1 := ht1 s3 (upd H2 D (DicO X.prog X.w D [])) s3.heap.objs.size (cellsFrom (s3.heap.objs.size + 1) sc.names (cloFrom X.env.cells sc.names [])) fp
  have none3 : ∀ b ∈ fp, (upd H2 D (DicO X.prog X.w D [])) b = none := fun b hb => (f3 b hb).1.1
  show codeAny _ _ (.compStart (dc2 kx vx t0 i0 fs0 t1 i1 fs1 sc pos) 0 (.ref it) (.ref D) (compEnvC sc (cellsFrom (s3.heap.objs.size + 1) sc.names (cloFrom X.env.cells sc.names [])) s3.heap.objs.size X.env)) _ { s3 with heap := pushCells (s3.heap.push { cls := .type "dict", data := .dict #[] }) sc.names }
  generalize hce : compEnvC sc (cellsFrom (s3.heap.objs.size + 1) sc.names (cloFrom X.env.cells sc.names [])) s3.heap.objs.size X.env = ce at I4 pg pt pk pv pi1 pg1 pt1 ⊢
  have loc : ce.locals = s3.heap.objs.size := by subst hce; rfl
  generalize upd H2 D (DicO X.prog X.w D []) = H3 at I3 I4 pg pt pk pv pi1 pg1 pt1 w0 none3 f3
  generalize hs4 : ({ s3 with heap := pushCells (s3.heap.push { cls := .type "dict", data := .dict #[] }) sc.names } : Shared) = s4 at I4 ⊢
  have st4 : tn 0 s4.heap := T.keep _ _ _ st2 fun b _ o e => by
    rw [← hs4]
    refine pushCells_keeps _ _ _ _ (Heap.get?_push_of_some _ ?_)
    rw [h3]
    exact Heap.get?_push_of_some _ e
  have stat : ∀ {σ' : L2.St} {H' : Hp} {s' : Shared}, Inv (X.blk s3 H3 sc ce fp) [] σ' H' s' → (∀ b ∈ fp, H' b = none) → ∀ b ∈ fp, FpOk (X.blk s3 H3 sc ce fp) [] H' b := fun {σ' H' s'} I' hn b hb =>
    ⟨hn b hb, (I'.ok.exf b hb).1, I'.ok.exfs b hb, .inl hb, fun x c e => (I'.ok.exf b hb).2 x c e, fun p hp => (by simp at hp : False).elim⟩
  have loop : codeAny (model X.prog X.w) X.A (.compLoop (dc2 kx vx t0 i0 fs0 t1 i1 fs1 sc pos) 0 (.ref it) (.ref D) ce) (compPost (model X.prog X.w) X.A X.xe use Qf (.ref D) s3.heap.objs.size) s4 := by
    refine loop_d2o (hs1 ce) (fun n s' => ∃ i H', Inv (X.blk s3 H3 sc ce fp) [] (wipe σ (own.map (·.2))) H' s' ∧ tn i s'.heap ∧ (∀ b ∈ fp, H' b = none) ∧ W i n H') ?_ m0 ⟨0, H3, I4, st4, none3, w0⟩
    rintro n s5 ⟨i, H5, I5, st5, n5, w5⟩
    rcases turn i n H5 w5 with ⟨stop, qq⟩ | ⟨go, Nx, hNx, step⟩
    · refine thnF (T.done (X.blk s3 H3 sc ce fp) rfl rfl rfl hc i [] s5 _ H5 (fun _ _ => False) I5 (stat I5 n5) st5 stop) fun r s6 ⟨hr, I6⟩ => ?_
      subst hr
      have I7 : Inv X pins σ H5 s6 := I3.call' (ch := fp) I6.os I6.base I6.hok I6.bare fun b hb => ⟨(f3 b hb).1.2.2.2.1, (f3 b hb).1.2.1, (f3 b hb).1.2.2.2.2.1, (f3 b hb).1.2.2.2.2.2⟩
      have nC : H5 s3.heap.objs.size = none := by
        rw [← loc]
        exact I6.free
      obtain ⟨m, hn, _⟩ := I6.loc
      replace hn : s6.heap.Ns ce.locals m := hn
      rw [loc] at hn
      exact hRR D s3.heap.objs.size s6 m H5 I7 qq hn (I3.fpOk (Nat.le_refl _) nC)
    · refine thnF (T.item (X.blk s3 H3 sc ce fp) rfl rfl rfl hc i [] s5 _ H5 (fun _ _ => False) I5 (stat I5 n5) st5 go) fun r s6 ⟨u, hr, h6⟩ => ?_
      subst hr
      refine thnF h6 fun _ s7 ⟨x, H7, I7, r7, y7, st7, n7⟩ => ?_
      refine thnF (pg.run _ s7 _ H7 x u _ (I7.pinned (stat I7 n7) (T.obj _ _ st7)) r7 (step x H7 y7)) fun _ s8 ⟨σ8, H8, I8, hw8, q8⟩ => ?_
      refine thnF (pt.run _ s8 σ8 H8 _ I8 q8) fun b s9 ⟨H9, I9, q9⟩ => ?_
      have fin : ∀ {σ9 : L2.St} {s' : Shared} {H' : Hp}, Inv (X.blk s3 H3 sc ce fp) ([] ++ pinsAt fp s7.heap) σ9 H' s' → (wipe σ (own.map (·.2))).length = σ9.length → (∀ (j : Nat) v, (wipe σ (own.map (·.2)))[j]? = some (some v) → σ9[j]? = some (some v)) → Nx H' →
          ∃ m, m < n ∧ ∃ i H', Inv (X.blk s3 H3 sc ce fp) [] (wipe σ (own.map (·.2))) H' s' ∧ tn i s'.heap ∧ (∀ b ∈ fp, H' b = none) ∧ W i m H' := fun {σ9 s' H'} I' hl hkp nx => by
        obtain ⟨m', hm, w'⟩ := hNx H' nx
        have pin' : ∀ b ∈ fp, ∀ o, s7.heap.get? b = some o → s'.heap.get? b = some o ∧ H' b = none := fun b hb o e =>
          let z := I'.pin (b, o) (List.mem_append_right _ (List.mem_append_right _ (mem_pinsAt hb e)))
          ⟨z.1, z.2.1⟩
        refine ⟨m', hm, i + 1, H', (I'.unpinned (pins := [])).weak hl hkp, T.keep _ _ _ st7 fun b hb o e => (pin' b hb o e).1, fun b hb => ?_, w'⟩
        obtain ⟨o, e, _⟩ := T.obj _ _ st7 b hb
        exact (pin' b hb o e).2
      have l8 : (wipe σ (own.map (·.2))).length = σ8.length := by rw [← hw8, wipe_length]
      have k8 : ∀ (j : Nat) v, (wipe σ (own.map (·.2)))[j]? = some (some v) → σ8[j]? = some (some v) ∧ j ∉ own.map (·.2) := fun j v e => by
        rw [← hw8] at e
        exact wipe_some e
      cases b with
      | false =>
        simp only [Bool.false_eq_true, if_false] at q9 ⊢
        exact fin I9 l8 (fun j v e => (k8 j v e).1) q9
      | true =>
        simp only [if_true] at q9 ⊢
        refine thnF (pi1.run _ s9 σ8 H9 _ I9 q9) fun xv s10 hx => thnF hx fun itv s11 h11 => ?_
        obtain ⟨it1, fp1, tn1, J1, H11, e1, I11, T1, st11, f11, W1, ⟨m1, w1⟩, turn1⟩ := h11
        subst e1
        have stat1 : ∀ {H' : Hp}, (∀ b ∈ fp1, H' b = none) → ∀ b ∈ fp1, FpOk (X.blk s3 H3 sc ce fp) ([] ++ pinsAt fp s7.heap) H' b := fun hn b hb => ⟨hn b hb, (f11 b hb).2⟩
        have loop1 : codeAny (model X.prog X.w) X.A (.compLoop (dc2 kx vx t0 i0 fs0 t1 i1 fs1 sc pos) 1 (.ref it1) (.ref D) ce)
            (fun r s' => match r with
              | .ok _ => ∃ m, m < n ∧ ∃ i H', Inv (X.blk s3 H3 sc ce fp) [] (wipe σ (own.map (·.2))) H' s' ∧ tn i s'.heap ∧ (∀ b ∈ fp, H' b = none) ∧ W i m H'
              | .error _ => False) s11 := by
          refine loop_d2i (fun k s' => ∃ j H', Inv (X.blk s3 H3 sc ce fp) ([] ++ pinsAt fp s7.heap) (wipe σ8 vs1) H' s' ∧ tn1 j s'.heap ∧ (∀ b ∈ fp1, H' b = none) ∧ W1 j k H') ?_ m1 ⟨0, H11, I11.weak (wipe_length _ _) (fun j v e => (wipe_some e).1), st11, fun b hb => (f11 b hb).1, w1⟩
          rintro k s12 ⟨j, H12, I12, st12, n12, w12⟩
          rcases turn1 j k H12 w12 with ⟨stop1, nx1⟩ | ⟨go1, Nx1, hNx1, step1⟩
          · refine thnF (T1.done (X.blk s3 H3 sc ce fp) rfl rfl rfl hc j _ s12 (wipe σ8 vs1) H12 (fun _ _ => False) I12 (stat1 n12) st12 stop1) fun r s13 ⟨hr, I13⟩ => ?_
            subst hr
            refine fin I13 (l8.trans (wipe_length σ8 vs1).symm) (fun j v e => ?_) nx1
            obtain ⟨z1, z2⟩ := k8 j v e
            rw [wipe_out fun z => z2 (hv j z)]
            exact z1
          · refine thnF (T1.item (X.blk s3 H3 sc ce fp) rfl rfl rfl hc j _ s12 (wipe σ8 vs1) H12 (fun _ _ => False) I12 (stat1 n12) st12 go1) fun r s13 ⟨u1, hr, h13⟩ => ?_
            subst hr
            refine thnF h13 fun _ s14 ⟨x1, H14, I14, r14, y14, st14, n14⟩ => ?_
            refine thnF (pg1.run _ s14 (wipe σ8 vs1) H14 x1 u1 _ (I14.pinned (stat1 n14) (T1.obj _ _ st14)) r14 (step1 x1 H14 y14)) fun _ s15 ⟨σ15, H15, I15, hw15, q15⟩ => ?_
            refine thnF (pt1.run _ s15 σ15 H15 _ I15 q15) fun b1 s16 ⟨H16, I16, q16⟩ => ?_
            have fin1 : ∀ {s' : Shared} {H' : Hp}, Inv (X.blk s3 H3 sc ce fp) (([] ++ pinsAt fp s7.heap) ++ pinsAt fp1 s14.heap) σ15 H' s' → Nx1 H' → ∃ m, m < k ∧ ∃ j H', Inv (X.blk s3 H3 sc ce fp) ([] ++ pinsAt fp s7.heap) (wipe σ8 vs1) H' s' ∧ tn1 j s'.heap ∧ (∀ b ∈ fp1, H' b = none) ∧ W1 j m H' := fun {s' H'} I' nx => by
              obtain ⟨m', hm, w'⟩ := hNx1 H' nx
              have pin' : ∀ b ∈ fp1, ∀ o, s14.heap.get? b = some o → s'.heap.get? b = some o ∧ H' b = none := fun b hb o e =>
                let z := I'.pin (b, o) (List.mem_append_right _ (List.mem_append_right _ (mem_pinsAt hb e)))
                ⟨z.1, z.2.1⟩
              refine ⟨m', hm, j + 1, H', I'.unpinned.weak (by rw [← hw15, wipe_length]) (fun j v e => by rw [← hw15] at e; exact (wipe_some e).1), T1.keep _ _ _ st14 fun b hb o e => (pin' b hb o e).1, fun b hb => ?_, w'⟩
              obtain ⟨o, e, _⟩ := T1.obj _ _ st14 b hb
              exact (pin' b hb o e).2
            cases b1 with
            | false =>
              simp only [Bool.false_eq_true, if_false] at q16 ⊢
              exact fin1 I16 q16
            | true =>
              simp only [if_true] at q16 ⊢
              refine thnF (pk.run _ s16 σ15 H16 _ I16 q16) fun kv s17 ⟨yk, H17, I17, r17, q17⟩ => ?_
              refine thnF (pv.run _ s17 σ15 H17 _ I17 q17) fun vv s18 ⟨yv, H18, I18, r18, mm, bb, kk, ek, dA, hb18, hz, nx⟩ => ?_
              subst ek
              cases r17
              exact dic_set (X := X.blk s3 H3 sc ce fp) hu I18 dA hb18 hz r18 fun s19 I19 => fin1 I19 nx
        exact start_d2 loop1 (T1.self X.A 0 _ _ _ st11 loop1)
  exact codeAny_compStart_dict loop (T.self X.A 0 _ _ _ st4 loop)
/-- a local name made a dict by a comprehension of two clauses -/
theorem ps_setNc2 {i : Nat} {y : Str} {py : Pos} {kx vx t0 i0 t1 i1 : Expr} {fs0 fs1 : List Expr} {sc : Scope} {own : List (Str × Nat)} {vs1 : List Nat} {pos spos : Pos} {wi wi1 : TI} {g g1 : TG} {tt tt1 : TT} {tk tv : TE} {K : PySem.W.Frag} {P : Program} {w : World} (eK : X.K = K) (eP : X.prog = P) (ew : X.w = w) (hu : X.A.units < cLine) (hc : X.calm = true) (hN : X.N.Nodup) (hy : X.N[i]? = some y) (hyl : X.env.scope.names.lookup y = some .local)
    (hsw : swapsWith (dc2 kx vx t0 i0 fs0 t1 i1 fs1 sc pos) (some (.Name y py)) spos.line X.env = pure true) (hi : PI X t0 i0 wi) (ok : BlkOk X.N X.env.scope sc own) (hv : ∀ i ∈ vs1, i ∈ own.map (·.2)) (hg : Blk X sc fun Y => PG Y t0 g) (ht : Blk X sc fun Y => PTs Y fs0 tt) (hi1 : Blk X sc fun Y => PI Y t1 i1 wi1) (hg1 : Blk X sc fun Y => PG Y t1 g1) (ht1 : Blk X sc fun Y => PTs Y fs1 tt1)
    (hk : Blk X sc fun Y => PE Y kx tk) (he : Blk X sc fun Y => PE Y vx tv) (hs : ∀ x, foldedSetIterable i0 X.env x = pure x := by intro _; rfl) (hs1 : ∀ env x, foldedSetIterable i1 env x = pure x := by intro _ _; rfl) :
    PS X (.Assign [.Name y py] (dc2 kx vx t0 i0 fs0 t1 i1 fs1 sc pos) spos) (tAsg (tNc2 K P w wi g tt wi1 g1 tt1 tk tv (own.map (·.2)) vs1) (gName i)) := by
  subst eK eP ew
  refine ⟨fun pins s σ H D I h => ?_⟩
  rw [exec_Assign_Name_used _ _ _ _ hsw]
  refine wpAny_bind (wpAny_standAt (wpAny_bind ?_))
  show wpAny _ X.A (do let _ ← comprehension (dc2 kx vx t0 i0 fs0 t1 i1 fs1 sc pos) sc X.env (firstIterPos [⟨t0, i0, fs0, 0⟩, ⟨t1, i1, fs1, 0⟩] pos) newDict false (eval i0 X.env) (some (assign (.Name y py) X.env))) _ _ s
  have h0 : tNc2 X.K X.prog X.w wi g tt wi1 g1 tt1 tk tv (own.map (·.2)) vs1 σ H (fun x H1 => gName i x σ H1 D.nx) := h
  refine wpAny_bind (thn (nc2_core (Qf := fun _ s' => SP X pins D .next s') hu hc hN I hi ok hv hg ht hi1 hg1 ht1 hk he hs hs1 h0 fun L C s' m H' I' q hn f => ?_) fun _ s' hq => wpAny_pure (wpAny_pure hq))
  show wpAny _ _ (assign (.Name y py) X.env (.ref L)) _ _ _
  refine wpAny_assign_Name (store_ok2 (v := V.ref L) I' hN hy (.inl hyl) rfl (fun s2 I2 ⟨a, sb, ha⟩ => ?_) (.inr hyl))
  have apart : C ≠ a := ha.elim (fun z => by rw [z]; exact f.2.1) fun z e => f.2.2.2.2.1 y a z e.symm
  exact ⟨m, hn.sameBut sb apart, fun h3 sb3 => ⟨_, H', I2.turned (t' := s2.toks) (fun b o hb e => (sb3.2 b hb).trans e) f.1 f.2.1 f.2.2.2.1 f.2.2.2.2.1 f.2.2.2.2.2, q⟩⟩
end
end Cot
set_option Elab.async false
set_option linter.all false
set_option maxRecDepth 100000
set_option maxHeartbeats 4000000
namespace Cot
open PySem PySem.Spec PyProof.Rows L2 Evl
/-- the n-th def of a class -/
def clsDef (s : Stmt) (n : Nat) : Stmt := match s with
  | .ClassDef _ _ _ body _ _ _ _ _ _ _ => body.getD n (.Pass ⟨0, 0, 0, 0⟩)
  | _ => .Pass ⟨0, 0, 0, 0⟩
/-- a class whose own __init__ comes from ValueError, called by its name -/
structure BaseI (K : PySem.W.Frag) (D : Addr) : Prop where
  sp : PySem.W.specialIn K (.ref D) "__getattribute__" = some (some (.builtin "type.__getattribute__"))
  rd : PySem.W.readsIn K D (.type "type") = true
  fc : PySem.W.findCls K (.ref D) (.type "type") "__init__" = some (.val (.builtin "ValueError.__init__"))
end Cot
set_option Elab.async false
set_option linter.all false
set_option maxRecDepth 100000
set_option maxHeartbeats 4000000
namespace Cot
open PySem PySem.Spec PyProof.Rows L2 Evl
/-- one sign -/
abbrev sg (c : Nat) : Str := ⟨#[c]⟩
end Cot
set_option Elab.async false
set_option linter.all false
set_option maxRecDepth 100000
set_option maxHeartbeats 4000000
namespace Cot
open PySem PySem.Spec PyProof.Rows L2 Evl
end Cot
set_option Elab.async false
set_option linter.all false
set_option maxRecDepth 100000
set_option maxHeartbeats 4000000
namespace Cot
open PySem PySem.Spec PyProof.Rows L2 Evl
end Cot
set_option Elab.async false
set_option linter.all false
set_option maxRecDepth 100000
set_option maxHeartbeats 4000000
namespace Cot
open PySem PySem.Spec PyProof.Rows L2 Evl RZ
end Cot
set_option Elab.async false
set_option linter.all false
set_option maxRecDepth 100000
set_option maxHeartbeats 4000000
namespace Cot
open PySem PySem.Spec PyProof.Rows L2 Evl
end Cot
set_option Elab.async false
set_option linter.all false
set_option maxRecDepth 100000
set_option maxHeartbeats 4000000
namespace Cot
open PySem PySem.Spec PyProof.Rows L2 Evl
end Cot
set_option Elab.async false
set_option linter.all false
set_option maxRecDepth 100000
set_option maxHeartbeats 4000000
namespace Cot
open PySem PySem.Spec PyProof.Rows L2 LamX PySem.W Evl
end Cot
set_option Elab.async false
set_option linter.all false
set_option maxRecDepth 100000
set_option maxHeartbeats 4000000
namespace Cot
open PySem PySem.Spec PyProof.Rows L2 Evl LamX RZ
/-- a value that is there already -/
def tVal (v : V) : TE := fun _ H Q => Q v H
/-- no table -/
def NoTb (o : HO) : Prop := ∀ ps, o ≠ .tbl ps
theorem noTb_lst {xs : List V} : NoTb (.lst xs) := fun ps z => by cases z
/-- a step: the places of M may change, tables grow; Hn tells the data -/
structure GrW (T : List (Addr × Str)) (M : List Addr) (Hd H Hn H2 : Hp) : Prop where
  ex : ∀ a o, H a = some o → a ∉ M → NoTb o → H2 a = some o
  dx : Ex Hd Hn
  sub : Ex Hn H2
  fr : ∀ a o, H a = some o → NoTb o → Hd a = none → Hn a = none
  nt : ∀ a ps, Hn a ≠ some (.tbl ps)
  tb : Tabs T H2
  al : ∀ a o, H a = some o → NoTb o → ∃ o', H2 a = some o' ∧ NoTb o'
/-- how things stand: the data Hd, the tables of T, the places of M that are no data -/
structure Wld (T : List (Addr × Str)) (M : List Addr) (Hd H : Hp) : Prop where
  sub : Ex Hd H
  nt : ∀ a ps, Hd a ≠ some (.tbl ps)
  tb : Tabs T H
  mn : ∀ a ∈ M, Hd a = none ∧ ∃ o, H a = some o ∧ NoTb o
section
variable {K : PySem.W.Frag} {T : List (Addr × Str)} {M M' : List Addr} {b : Bid} {σ : L2.St} {H H' Hd Hd' Hn H1 H2 Hm : Hp} {ta tb tc te tx : TE} {t u tt : TT} {x y z v v' : V} {d : PyData} {ds es : List PyData} {tr : TA} {D : Ends} {tu tw tz : TS} {i j : Nat}
theorem Wld.step (W : Wld T M Hd H) (g : GrW T M' Hd H Hn H2) : Wld T M Hn H2 := ⟨g.sub, g.nt, g.tb, fun a ha => by
  obtain ⟨h1, o, h2, h3⟩ := W.mn a ha
  exact ⟨g.fr a o h2 h3 h1, g.al a o h2 h3⟩⟩
theorem Wld.ext (W : Wld T M Hd H) (e : Ex H H2) : Wld T M Hd H2 := ⟨W.sub.trans e, W.nt, W.tb.ext e, fun a ha => by
  obtain ⟨h1, o, h2, h3⟩ := W.mn a ha
  exact ⟨h1, o, e _ _ h2, h3⟩⟩
theorem Wld.sup (W : Wld T M Hd H) (h : ∀ a ∈ M', a ∈ M) : Wld T M' Hd H := ⟨W.sub, W.nt, W.tb, fun a ha => W.mn a (h a ha)⟩
theorem Wld.nil (W : Wld T M Hd H) : Wld T [] Hd H := W.sup fun a ha => by cases ha
theorem Wld.add {p : Addr} {o : HO} (W : Wld T M Hd H) (h1 : Hd p = none) (h2 : H p = some o) (h3 : NoTb o) : Wld T (p :: M) Hd H := ⟨W.sub, W.nt, W.tb, fun a ha => by
  rcases List.mem_cons.mp ha with rfl | ha
  · exact ⟨h1, o, h2, h3⟩
  · exact W.mn a ha⟩
theorem GrW.refl (W : Wld T M' Hd H) : GrW T M Hd H Hd H := ⟨fun _ _ h _ _ => h, Ex.refl _, W.sub, fun _ _ _ _ h => h, W.nt, W.tb, fun a o h n => ⟨o, h, n⟩⟩
theorem GrW.pre (e : Ex H H1) (g : GrW T M Hd H1 Hn H2) : GrW T M Hd H Hn H2 := ⟨fun a o h => g.ex a o (e a o h), g.dx, g.sub, fun a o h => g.fr a o (e a o h), g.nt, g.tb, fun a o h => g.al a o (e a o h)⟩
theorem GrW.post (g : GrW T M Hd H Hn H1) (e : Ex H1 H2) : GrW T M Hd H Hn H2 := ⟨fun a o h n z => e _ _ (g.ex a o h n z), g.dx, g.sub.trans e, g.fr, g.nt, g.tb.ext e, fun a o h n => by
  obtain ⟨o', h', n'⟩ := g.al a o h n
  exact ⟨o', e _ _ h', n'⟩⟩
theorem GrW.trans (g1 : GrW T M Hd H Hn H1) (g2 : GrW T M Hn H1 Hm H2) : GrW T M Hd H Hm H2 := ⟨fun a o h n z => g2.ex a o (g1.ex a o h n z) n z, g1.dx.trans g2.dx, g2.sub, fun a o h n hd => by
    obtain ⟨o', h', n'⟩ := g1.al a o h n
    exact g2.fr a o' h' n' (g1.fr a o h n hd), g2.nt, g2.tb, fun a o h n => by
    obtain ⟨o', h', n'⟩ := g1.al a o h n
    exact g2.al a o' h' n'⟩
theorem GrW.sup (g : GrW T M Hd H Hn H2) (h : ∀ a ∈ M, a ∈ M') : GrW T M' Hd H Hn H2 := ⟨fun a o ha n => g.ex a o ha fun z => n (h a z), g.dx, g.sub, g.fr, g.nt, g.tb, g.al⟩
theorem GrW.ext (W : Wld T M' Hd H) (e : Ex H H2) : GrW T M Hd H Hd H2 := (GrW.refl W).post e
theorem noT_nt : ∀ a ps, noT H a ≠ some (.tbl ps) := fun a ps h => (noT_some h).2 ps rfl
theorem GrW.of (W : Wld T M' Hd H) (g : Gr Hd H Hn H2) : GrW T M Hd H (noT Hn) H2 := ⟨fun a o h _ _ => g.ex a o h, fun a o h => noT_of (g.dx a o h) fun ps z => W.nt a ps (by rw [h, z]), noT_ex.trans g.sub, fun a o h _ hd => noT_none (g.fr a o h hd), noT_nt, W.tb.ext g.ex, fun a o h n => ⟨o, g.ex a o h, n⟩⟩
theorem GrW.ofB (W : Wld T M' Hd H) (B : Bx H b) (g : GrB b Hd H Hn H2) : GrW T [b.b] Hd H (noT Hn) H2 := ⟨fun a o h n _ => g.exb a o (fun z => n (by rw [z]; exact List.mem_cons_self)) h, fun a o h => noT_of (g.dx a o h) fun ps z => W.nt a ps (by rw [h, z]), noT_ex.trans g.sub, fun a o h _ hd => noT_none (g.fr a o h hd), noT_nt, tabs_box W.tb B g, fun a o h n => by
  by_cases e : a = b.b
  · obtain ⟨cells, xs, h', _⟩ := g.bx
    exact ⟨_, by rw [e]; exact h', noTb_lst⟩
  · exact ⟨o, g.exb a o e h, n⟩⟩
/-- tables alone have grown -/
theorem GrW.tabs (W : Wld T M' Hd H) (e : ExtN H H2) (t : Tabs T H2) : GrW T M Hd H Hd H2 := ⟨fun a o h _ n => e a o h n, Ex.refl _, fun a o h => e a o (W.sub a o h) fun ps z => W.nt a ps (by rw [h, z]), fun _ _ _ _ h => h, W.nt, t, fun a o h n => ⟨o, e a o h n, n⟩⟩
/-- nothing but perhaps a table stood there -/
def NewAt (H : Hp) (p : Addr) : Prop := ∀ o, H p = some o → ¬ NoTb o
theorem newAt_none {p : Addr} (h : H p = none) : NewAt H p := fun o z => by rw [h] at z; cases z
theorem NewAt.ext {p : Addr} (n : NewAt H2 p) (e : Ex H H2) : NewAt H p := fun o z => n o (e _ _ z)
theorem NewAt.ne {a p : Addr} {o : HO} (n : NewAt H p) (h : H a = some o) (z : NoTb o) : a ≠ p := fun e => n o (by rw [← e]; exact h) z
theorem NewAt.back {p : Addr} (n : NewAt H2 p) (g : GrW T M Hd H Hn H2) : NewAt H p := fun o h z => by
  obtain ⟨o', h', z'⟩ := g.al p o h z
  exact n o' h' z'
theorem NewAt.data {p : Addr} (n : NewAt H p) (s : Ex Hd H) (nt : ∀ a ps, Hd a ≠ some (.tbl ps)) : Hd p = none := by
  cases q : Hd p with
  | none => rfl
  | some o => exact absurd (fun ps z => nt p ps (by rw [q, z])) (n o (s _ _ q))
/-- a new thing counted to the data -/
theorem GrW.keep {p : Addr} {o : HO} (g : GrW T M Hd H Hn H2) (h : NewAt H p) (hn : Hn p = none) (h2 : H2 p = some o) (no : NoTb o) : GrW T M Hd H (upd Hn p o) H2 := ⟨g.ex, g.dx.trans (Ex.new hn), fun a u ha => by
    by_cases e : a = p
    · subst e
      rw [upd_same] at ha
      rw [h2, ha]
    · rw [upd_ne e] at ha
      exact g.sub a u ha, fun a u ha n hd => by
    rw [upd_ne (h.ne ha n)]
    exact g.fr a u ha n hd, fun a ps z => by
    by_cases e : a = p
    · subst e
      rw [upd_same] at z
      cases z
      exact no _ rfl
    · rw [upd_ne e] at z
      exact g.nt a ps z, g.tb, g.al⟩
/-- what an evaluation leaves, in any world -/
def EvW (T : List (Addr × Str)) (M : List Addr) (te : TE) (σ : L2.St) (Hd H : Hp) (P : V → Hp → Hp → Prop) : Prop := ∀ H1, Ex H H1 → ∀ Q : VK, (∀ v H2 Hn, GrW T M Hd H1 Hn H2 → P v Hn H2 → Q v H2) → te σ H1 Q
variable {P P2 : V → Hp → Hp → Prop}
theorem EvW.imp (h : EvW T M te σ Hd H P) (k : ∀ v Hn H2, GrW T M Hd H Hn H2 → P v Hn H2 → P2 v Hn H2) : EvW T M te σ Hd H P2 := fun H1 e1 Q q => h H1 e1 Q fun v H2 Hn g p => q v H2 Hn g (k v Hn H2 (g.pre e1) p)
theorem ew_eb {p : PyData → Prop} (W : Wld T M' Hd H) (hb : b.b ∈ M') (B : Bx H b) (h : EvB K b te σ Hd p) : EvW T [b.b] te σ Hd H (fun u Hn H2 => Bx H2 b ∧ ∃ d, Dp K Hn u d ∧ p d) := fun H1 e1 Q q => h (W.mn _ hb).1 H1 (W.sub.trans e1) (B.mono e1) Q fun v H2 Hn d g hd hp => q v H2 _ (GrW.ofB (W.ext e1) (B.mono e1) g) ⟨g.bx, d, dp_noT _ hd, hp⟩
theorem EvW.sup (h : EvW T M te σ Hd H P) (k : ∀ a ∈ M, a ∈ M') : EvW T M' te σ Hd H P := fun H1 e1 Q q => h H1 e1 Q fun v H2 Hn g p => q v H2 Hn (g.sup k) p
theorem go_bind {C : TE → TS} (h : EvW T M te σ Hd H P) (k : ∀ v H2 Hn, GrW T M Hd H Hn H2 → P v Hn H2 → Go (C (tVal v)) D σ H2) (hC : ∀ te D σ H, C te D σ H = te σ H fun v H1 => C (tVal v) D σ H1 := by intros; rfl) : Go (C te) D σ H := fun H1 e1 => by
  rw [hC]
  exact h H1 e1 _ fun v H2 Hn g p => k v H2 Hn (g.pre e1) p H2 (Ex.refl _)
theorem ev_val : Ev (tVal v) σ H v := fun H1 _ _ q => q H1 (Ex.refl H1)
end
end Cot
set_option Elab.async false
set_option linter.all false
set_option maxRecDepth 100000
set_option maxHeartbeats 4000000
namespace Cot
open PySem PySem.Spec PyProof.Rows L2 Evl LamX
/-- a def whose code object is told -/
structure FunC (K : PySem.W.Frag) (x ql : Str) (st : Stmt) (f : Addr) (fd : FuncData) (c : Addr) : Prop where
  ex : ∃ (oc kV doc pm ct : Value) (od an : Option Addr) (osl : Array (Option Value)), fd = PySem.W.fnOf x ql (defArgs st) (defBody st) (defScope st) .none kV doc pm an (.ref c) ct ∧ K.lookup f = some ⟨oc, od, .func fd, osl⟩ ∧ PySem.W.codeIn K (.ref c) ql = true
  kp : PySem.W.keepIn K (.ref f) = true
/-- the name of what a def's lambda is -/
def lamQ (ql : Str) : Str := (ql ++ ".<locals>.") ++ "<lambda>"
/-- okN for a def with defaults -/
theorem okND {P : Program} {w : World} {K : PySem.W.Frag} {mg : Str → Option Value} {base : Heap} {x ql : Str} {st : Stmt} {dvs : List V} {kws : List (Str × V)} {f : Addr} {fd : FuncData} {N ps : List Str} {k : Nat} {sp : Sp} (F : FunD K x ql (defArgs st) (defBody st) (defScope st) dvs kws f fd) (S : FnScope N ps (defScope st)) (ln : ∀ vs H Q E, sp vs H Q E → vs.length = ps.length)
    (hb : ∀ (cdv : Value) (A : Around) (st2 : List Env) (s : Shared) (H : Hp) (vs : List V) (Q : VK) (E : XK), Room k (A.deeper (envOfC ql (defScope st) s.heap.objs.size f cdv)) → sp vs H Q E →
      ∃ t, PSs (cxOf (L2N.CX P w) P w K mg base N ql (defScope st) f cdv A st2 s H E) (defBody st) t ∧ t { nx := fun _ H1 => Q .non H1, rt := Q } (L2.start N vs) H) : FnOk P w K mg base (L2N.CX P w) (k + 1) f fd ps sp := by
  obtain ⟨_, _, _, _, _, _, _, cdv, _, _, rfl, lk, hcd, _⟩ := F.ex
  exact fn_of lk hcd S ln fun A st2 s H vs Q E hr h => hb cdv A st2 s H vs Q E hr h
/-- a law's promise, with the tables that it and its methods keep -/
def spLawT (K : PySem.W.Frag) (ps : List Addr) : Sp := fun vs H Q _ => ∃ (a : Addr) (ns : List Int), vs = [.ref a] ∧ SqL K H a (ns.map V.int) ∧ ns.length ≤ 63 ∧ (∀ p ∈ ps, H p = some (.tbl #[])) ∧ ∀ H', Q (.bl true) H'
theorem tabs_start {H : Hp} {T : List (Addr × Str)} (h : ∀ p ∈ T.map (·.1), H p = some (.tbl #[])) : Tabs T H := fun p hp => TabS.nil (h p.1 (List.mem_map.mpr ⟨p, hp, rfl⟩))
theorem tabs_uniq {T : List (Addr × Str)} (nd : (T.map (·.1)).Nodup) {P : Addr} {q : Str} (h : (P, q) ∈ T) : ∀ r ∈ T, r.1 = P → r.2 = q := by
  induction T with
  | nil => cases h
  | cons a T ih =>
    rw [List.map_cons, List.nodup_cons] at nd
    intro r hr e
    rcases List.mem_cons.mp h with e1 | h
    · rcases List.mem_cons.mp hr with e2 | hr
      · rw [e2, ← e1]
      · exact absurd (List.mem_map.mpr ⟨r, hr, by rw [e, ← e1]⟩) nd.1
    · rcases List.mem_cons.mp hr with e2 | hr
      · exact absurd (List.mem_map.mpr ⟨(P, q), h, by rw [← e2, e]⟩) nd.1
      · exact ih nd.2 h r hr e
end Cot
namespace Cot
open PySem L2
end Cot
set_option Elab.async false
set_option linter.all false
set_option maxRecDepth 100000
set_option maxHeartbeats 4000000
namespace Cot
open PySem PySem.Spec PyProof.Rows L2 Evl LamX PySem.Calls
end Cot
set_option Elab.async false
set_option linter.all false
set_option maxRecDepth 100000
set_option maxHeartbeats 4000000
namespace Cot
open PySem PySem.Spec PyProof.Rows L2 Evl LamX
section
variable {K : PySem.W.Frag} {H H' H1 H2 Hd Hdx Hn : Hp}
/-- lists of the heap change that were not there -/
theorem GrW.put {Tt : List (Addr × Str)} {Hd H Hn H2 : Hp} {p : Addr} {xs ys : List V} (g : GrW Tt [] Hd H Hn H2) (hp : H2 p = some (.lst xs)) (n1 : NewAt H p) (n2 : Hn p = none) : GrW Tt [] Hd H Hn (upd H2 p (.lst ys)) := ⟨fun a o h n z => by
    rw [upd_ne (n1.ne h z)]
    exact g.ex a o h n z, g.dx, Ex.mut g.sub n2, g.fr, g.nt, tabs_but hp (fun a o z h => by rw [upd_ne z]; exact h) g.tb, fun a o h z => by
    rw [upd_ne (n1.ne h z)]
    exact g.al a o h z⟩
theorem LL.step {Tt : List (Addr × Str)} {Hd H Hn H2 : Hp} {a : Addr} {ps : List Addr} {rs : List (List Int)} (L : LL H a ps rs) (g : GrW Tt [] Hd H Hn H2) : LL H2 a ps rs := ⟨g.ex _ _ L.top (by simp) noTb_lst, L.len, L.nd, L.out, fun i p r h1 h2 => g.ex _ _ (L.row i p r h1 h2) (by simp) noTb_lst⟩
theorem LL.at {H : Hp} {a : Addr} {ps : List Addr} {rs : List (List Int)} (L : LL H a ps rs) {p : Addr} (hp : p ∈ ps) : ∃ xs, H p = some (.lst xs) := by
  obtain ⟨i, hi, rfl⟩ := List.getElem_of_mem hp
  have := L.len
  exact ⟨_, L.row i _ (rs[i]'(by omega)) (List.getElem?_eq_getElem hi) (List.getElem?_eq_getElem _)⟩
end
section
variable {K : PySem.W.Frag} {T : List (Addr × Str)} {M M' : List Addr} {b : Bid} {σ : L2.St} {H H' Hd Hn H1 H2 : Hp} {ta tb te : TE} {t u : TT} {tr : TA} {D : Ends} {tu tw tz : TS} {i j : Nat} {v : V} {P : V → Hp → Hp → Prop}
theorem go_asgE (h : EvW T M te σ Hd H P) (k : ∀ v H2 Hn, GrW T M Hd H Hn H2 → P v Hn H2 → Go tz D (σ.set i (some v)) H2) : Go (tSeq (tAsg te (gName i)) tz) D σ H :=
  go_bind (C := fun te => tSeq (tAsg te (gName i)) tz) h fun v H2 Hn g p => go_asg ev_val (k v H2 Hn g p)
/-- xs.append(e) -/
theorem go_appE {l : Addr} {xs : List V} (hl : H l = some (.lst xs)) (nl : l ∉ M) (ha : Ev ta σ H (.ref l)) (h : EvW T M te σ Hd H P) (hz : xs.length < 100000) (k : ∀ v H2 Hn, GrW T M Hd H Hn H2 → P v Hn H2 → Go tz D σ (upd H2 l (.lst (xs ++ [v])))) : Go (tSeq (tDrop (tBM K "list" rAppend ta (tCons te tNil))) tz) D σ H := fun H0 e0 =>
  ha H0 e0 _ fun H2 e2 => ⟨Or.inl ⟨rfl, xs, sq_of ((e0.trans e2) _ _ hl)⟩, h H2 (e0.trans e2) _ fun v H3 Hn g p => ⟨l, xs, v, rfl, rfl, g.ex _ _ ((e0.trans e2) _ _ hl) nl noTb_lst, sz_lt hz, k v H3 Hn (g.pre (e0.trans e2)) p _ (Ex.refl _)⟩⟩
end
end Cot
namespace Cot
open PySem PySem.Spec PyProof.Rows L2 Evl LamX
section
variable {K : PySem.W.Frag} {T : List (Addr × Str)} {M M' : List Addr} {σ : L2.St} {H H' Hd Hn H1 H2 H0 Hd0 : Hp} {ta te : TE} {t : TT} {D : Ends} {tu tz : TS}
theorem Wld.extN (W : Wld T M Hd H) (e : ExtN H H1) (W1 : Wld T [] Hd H1) : Wld T M Hd H1 := ⟨W1.sub, W1.nt, W1.tb, fun a ha => by
  obtain ⟨h1, o, h2, h3⟩ := W.mn a ha
  exact ⟨h1, o, e a o h2 h3, h3⟩⟩
end
end Cot
set_option Elab.async false
set_option linter.all false
set_option maxRecDepth 100000
set_option maxHeartbeats 4000000
namespace Cot
open PySem PySem.Spec PyProof.Rows L2 Evl LamX PySem.Calls
section
variable {K : PySem.W.Frag} {σ : L2.St} {H H1 H2 Hd Hn H0 Hd0 : Hp} {T : List (Addr × Str)} {M M' : List Addr} {ta tb te ti : TE} {tr : TA} {a l f p : Addr} {xs ys vs : List V} {v : V} {b : Bid} {D : Ends} {tz : TS} {i : Nat}
/-- a list beside the data changes -/
theorem Wld.put (W : Wld T M Hd H) (hp : H p = some (.lst xs)) (n : Hd p = none) : Wld T M Hd (upd H p (.lst ys)) := ⟨Ex.mut W.sub n, W.nt, tabs_but hp (fun a o z h => by rw [upd_ne z]; exact h) W.tb, fun a ha => by
  obtain ⟨h1, o, h2, h3⟩ := W.mn a ha
  by_cases e : a = p
  · exact ⟨h1, .lst ys, by rw [e]; exact upd_same, noTb_lst⟩
  · exact ⟨h1, o, by rw [upd_ne e]; exact h2, h3⟩⟩
end
end Cot
set_option Elab.async false
set_option linter.all false
set_option maxRecDepth 100000
set_option maxHeartbeats 4000000
namespace Cot
open PySem PySem.Spec PyProof.Rows L2 Evl LamX PySem.Calls
end Cot
set_option Elab.async false
set_option linter.all false
set_option maxRecDepth 100000
set_option maxHeartbeats 4000000
namespace Cot
open PySem PySem.Spec PyProof.Rows L2 Evl LamX PySem.Calls
end Cot
namespace Cot
open PySem PySem.Spec PyProof.Rows L2 Evl LamX
section
variable {K : PySem.W.Frag} {T : List (Addr × Str)} {M : List Addr} {σ : L2.St} {H H1 H2 Hd Hn Hm : Hp} {ta tb te : TE} {a p C dx : Addr} {fs : List (Str × V)} {kvs : List (Key × V)} {f : Str} {D : Ends} {tz : TS}
/-- what changes in a second step is new since the first -/
theorem GrW.drop (g1 : GrW T [] Hd H Hn H1) (g2 : GrW T M Hn H1 Hm H2) (hM : ∀ a ∈ M, NewAt H a) : GrW T [] Hd H Hm H2 := ⟨fun a o ha n z => g2.ex a o (g1.ex a o ha n z) (fun hm => hM a hm o ha z) z, g1.dx.trans g2.dx, g2.sub, fun a o ha n hd => g2.fr a o (g1.ex a o ha (by simp) n) n (g1.fr a o ha n hd), g2.nt, g2.tb, fun a o ha n => by
  obtain ⟨o', h', n'⟩ := g1.al a o ha n
  exact g2.al a o' h' n'⟩
end
end Cot
set_option Elab.async false
set_option linter.all false
set_option maxRecDepth 100000
set_option maxHeartbeats 4000000
namespace Cot
open PySem PySem.Spec PyProof.Rows L2 Evl LamX PySem.Calls
end Cot
namespace Cot
open PySem PySem.Spec PyProof.Rows L2 Evl LamX PySem.Calls
end Cot
namespace Cot
open PySem PySem.Spec PyProof.Rows L2 Evl LamX
end Cot
set_option Elab.async false
set_option linter.all false
set_option maxRecDepth 100000
set_option maxHeartbeats 4000000
namespace Cot
open PySem PySem.Spec PyProof.Rows L2 Evl LamX PySem.Calls
end Cot
namespace Cot
open PySem PySem.Spec PyProof.Rows L2 Evl LamX PySem.Calls
end Cot
namespace Cot
open PySem PySem.Spec PyProof.Rows L2 Evl LamX
end Cot
set_option Elab.async false
set_option linter.all false
set_option maxRecDepth 100000
set_option maxHeartbeats 4000000
namespace Cot
open PySem PySem.Spec PyProof.Rows L2
end Cot
set_option Elab.async false
set_option linter.all false
set_option maxRecDepth 100000
set_option maxHeartbeats 4000000
namespace Cot
open PySem PySem.Spec PyProof.Rows L2 L2N
end Cot
set_option Elab.async false
set_option linter.all false
set_option maxRecDepth 100000
set_option maxHeartbeats 4000000
namespace Cot
open PySem PySem.Spec PyProof.Rows L2
end Cot
set_option Elab.async false
set_option linter.all false
set_option maxRecDepth 100000
set_option maxHeartbeats 4000000
namespace Cot
open PySem PySem.Spec PyProof.Rows L2 LamX
/-- the def that calls what it got, where the slots at the call are told -/
def GivesS (X : Cx) (Ng : List Str) (x : Str) (sg : Scope) (g : Addr) (cdg : Value) (bg : List Stmt) (a : Str) (q : Str) (k : Nat) (TT : (XK → Hp → VK → Prop) → Hp → VK → Prop) : Prop :=
  ∀ (f c' : Addr) (s : Shared) (H : Hp) (Q : VK) (tl : XK → Hp → VK → Prop), Room (k + 1) (X.A.deeper (envOfC x sg s.heap.objs.size g cdg)) →
    (∀ (W : WX) (pn : List (Addr × Obj)) (xe : Value → Shared → Prop) (E : XK) (p1 p2 : Pos), L2N.Takes ((cxOf C8.CX0 X.prog X.w X.K X.mg X.base Ng x sg g cdg X.A X.stack s H C8.E0).tr pn xe) W →
      PE ((cxOf C8.CX0 X.prog X.w X.K X.mg X.base Ng x sg g cdg X.A X.stack s H C8.E0).tr pn xe) (.Call (.Name a p1) [] [] p2) (fun σz Hz Q => σz[0]? = some (some (.ref f)) ∧ Hz c' = some (CodeO c' q) ∧ (∀ cls d H1, E cls d H1 → W cls d σz H1) ∧ tl E Hz Q)) →
    H c' = some (CodeO c' q) → TT tl H Q →
    ∃ t, PSs (cxOf C8.CX0 X.prog X.w X.K X.mg X.base Ng x sg g cdg X.A X.stack s H C8.E0).nox bg t ∧ t { nx := fun _ H1 => Q .non H1, rt := Q } (L2.start Ng [.ref f]) H
end Cot
set_option Elab.async false
set_option linter.all false
set_option maxRecDepth 100000
set_option maxHeartbeats 4000000
namespace PySem
end PySem
set_option Elab.async false
set_option linter.all false
set_option maxRecDepth 100000
set_option maxHeartbeats 4000000
namespace Cot
open PySem PySem.Spec PyProof.Rows L2
end Cot
set_option Elab.async false
set_option linter.all false
set_option maxRecDepth 100000
set_option maxHeartbeats 4000000
namespace Cot
open PySem PySem.Spec PyProof.Rows L2 Evl LamX
end Cot
set_option Elab.async false
set_option linter.all false
set_option maxRecDepth 100000
set_option maxHeartbeats 4000000
namespace Cot
open PySem PySem.Spec PyProof.Rows L2 Evl
end Cot
set_option Elab.async false
set_option linter.all false
set_option maxRecDepth 100000
set_option maxHeartbeats 4000000
namespace Cot
open PySem PySem.Spec PyProof.Rows L2 Evl
end Cot
set_option Elab.async false
set_option linter.all false
set_option maxRecDepth 100000
set_option maxHeartbeats 4000000
namespace Cot
open PySem PySem.Spec PyProof.Rows L2 Evl
end Cot
set_option Elab.async false
set_option linter.all false
set_option maxRecDepth 100000
set_option maxHeartbeats 4000000
namespace Cot
open PySem PySem.Spec PyProof.Rows L2 Evl LamX
end Cot
set_option Elab.async false
set_option linter.all false
set_option maxRecDepth 100000
set_option maxHeartbeats 4000000
namespace Cot
open PySem PySem.Spec PyProof.Rows L2 Evl
end Cot
set_option Elab.async false
set_option linter.all false
set_option maxRecDepth 100000
set_option maxHeartbeats 4000000
namespace Cot
open PySem PySem.Spec PyProof.Rows L2 Evl LamX
end Cot
set_option Elab.async false
set_option linter.all false
set_option maxRecDepth 100000
set_option maxHeartbeats 4000000
namespace Cot
open PySem PySem.Spec PyProof.Rows L2 Evl LamX
/-- the object at f is this lambda -/
def FunO (q : Str) (pr : Arguments) (bd : Expr) (sc : Scope) (clo : List (Str × Addr)) (f c' : Addr) : HO := .ext fun h => ∃ pm ctv : Value, h.get? f = some (PySem.W.kla_obj "<lambda>" q pr bd sc clo pm c' ctv)
/-- a lambda of X, and what its reading asks -/
def LamAt (X : Cx) (k : Nat) (H : Hp) (f c' : Addr) (t : XK → TE) : Prop := ∃ (pr : Arguments) (bd : Expr) (sc : Scope), H f = some (FunO (X.env.qual ++ "<lambda>") pr bd sc (cloFrom X.env.cells sc.names []) f c') ∧ H c' = some (CodeO c' (X.env.qual ++ "<lambda>")) ∧ LamS X.env.scope sc ∧
  (∀ (q : Str) (cl : List (Str × Addr)) (pm cv ctv : Value), bindArgs (PySem.W.kla_fn "<lambda>" q pr bd sc cl pm cv ctv) ⟨[], []⟩ = pure []) ∧
  ∀ (A : Around) (outer : List Env) (s : Shared) (H : Hp) (E : XK) (f c' : Addr), Room k (A.deeper (lamEnv X sc s.heap.objs.size f c')) → PE (lamN X A outer s H E sc f c') bd (t E)
theorem noTb_fun {q : Str} {pr : Arguments} {bd : Expr} {sc : Scope} {clo : List (Str × Addr)} {f c' : Addr} : NoTb (FunO q pr bd sc clo f c') := fun ps z => by cases z
theorem noTb_code {c : Addr} {q : Str} : NoTb (CodeO c q) := fun ps z => by cases z
section
variable {X : Cx} {k : Nat} {H H2 : Hp} {f c' : Addr} {t : XK → TE}
theorem LamAt.keep (h : LamAt X k H f c' t) (e : ∀ a o, a = f ∨ a = c' → H a = some o → NoTb o → H2 a = some o) : LamAt X k H2 f c' t := by
  obtain ⟨pr, bd, sc, h1, h2, h3⟩ := h
  exact ⟨pr, bd, sc, e _ _ (.inl rfl) h1 noTb_fun, e _ _ (.inr rfl) h2 noTb_code, h3⟩
theorem LamAt.ext (h : LamAt X k H f c' t) (e : Ex H H2) : LamAt X k H2 f c' t := h.keep fun a o _ ha _ => e a o ha
theorem LamAt.extN (h : LamAt X k H f c' t) (e : ExtN H H2) : LamAt X k H2 f c' t := h.keep fun a o _ ha n => e a o ha n
theorem LamAt.step {T : List (Addr × Str)} {M : List Addr} {Hd Hn : Hp} (h : LamAt X k H f c' t) (g : GrW T M Hd H Hn H2) (n1 : f ∉ M) (n2 : c' ∉ M) : LamAt X k H2 f c' t := h.keep fun a o ha h1 n => g.ex a o h1 (by rcases ha with rfl | rfl <;> assumption) n
theorem LamAt.ne_lst (h : LamAt X k H f c' t) {p : Addr} {xs : List V} (hp : H p = some (.lst xs)) : f ≠ p ∧ c' ≠ p := by
  obtain ⟨pr, bd, sc, h1, h2, _⟩ := h
  exact ⟨fun z => (by rw [z, hp] at h1; cases h1), fun z => (by rw [z, hp] at h2; cases h2)⟩
theorem LamAt.put (h : LamAt X k H f c' t) {p : Addr} {xs ys : List V} (hp : H p = some (.lst xs)) : LamAt X k (upd H p (.lst ys)) f c' t := h.keep fun a o ha h1 n => by
  obtain ⟨n1, n2⟩ := h.ne_lst hp
  rw [upd_ne (by rcases ha with rfl | rfl <;> assumption)]
  exact h1
end
section
variable {X : Cx} {pins : List (Addr × Obj)} {σ : L2.St} {H : Hp} {s : Shared}
/-- a function object that was pushed is tracked -/
theorem fun_laid {h' : Heap} {gs : Array GenState} {dr : Drawn} {os : OsState} {tk t2 : Nat} {q : Str} {pr : Arguments} {bd : Expr} {sc : Scope} {clo : List (Str × Addr)} {c' : Addr} {pm ctv : Value} (I : Inv X pins σ H ⟨h', gs, dr, tk, os⟩) :
    Inv X pins σ (upd H h'.objs.size (FunO q pr bd sc clo h'.objs.size c')) ⟨h'.push (PySem.W.kla_obj "<lambda>" q pr bd sc clo pm c' ctv), gs, dr, t2, os⟩ :=
  I.laid (t' := t2) (fun b u e => Heap.get?_push_of_some _ e) (Nat.le_refl _) ⟨⟨pm, ctv, Heap.get?_push_size _ rfl⟩, ⟨_, Heap.get?_push_size _ rfl⟩, fun h1 h2 z st => by
    obtain ⟨pm, ctv, e⟩ := z
    exact ⟨pm, ctv, st _ e⟩⟩
/-- a lambda made; its object is known from now on -/
theorem lam_track {T : List (Addr × Str)} {c P : Addr} {pr : Arguments} {bd : Expr} {sc : Scope} {pos : Pos} {E : Value → Shared → Prop} {Q : Value → Shared → Prop} (I : Inv X pins σ H s) (TB : TabB X.base X.mg c P) (hcode : X.env.code = .ref c) (hm : (P, X.env.qual ++ "<lambda>") ∈ T)
    (hu : ∀ p ∈ T, p.1 = P → p.2 = X.env.qual ++ "<lambda>") (hT : Tabs T H) (hdef : defaultsOf pr X.env = ([], [])) (hfree : ∀ y ∈ sc.names, y.2 = .free → ∃ c, X.env.cells.lookup y.1 = some c)
    (k : ∀ (f c' : Addr) (Ha : Hp) (sa : Shared), Inv X pins σ (upd Ha f (FunO (X.env.qual ++ "<lambda>") pr bd sc (cloFrom X.env.cells sc.names []) f c')) sa → ExtN H Ha → Tabs T Ha → Ha f = none → Ha c' = some (CodeO c' (X.env.qual ++ "<lambda>")) → Q (.ref f) sa) :
    wpAny (model X.prog X.w) X.A (eval (.Lambda pr bd sc pos) X.env) Q E s := by
  obtain ⟨ps, tabP, tri, among⟩ := hT _ hm
  have bltP : s.heap.BuiltinsAt X.mg P := TB.bm.keeps I.bk
  have objP : s.heap.get? P = some { cls := .none, data := .fields ps } := I.hok P _ tabP
  refine PySem.W.kla_eval hdef ?_
  cases inTab : codeAmong pos ps.toList with
  | some cv =>
    obtain ⟨c', rfl, known⟩ := among pos cv inTab
    refine PySem.W.kla_makeFunctionHit (c := c) (mg := X.mg) (ps := ps) (P := P) (closure_ok hfree) I.ok.glob (I.mod.glob.keeps I.bk) hcode (TB.code.keeps I.bk) objP tri inTab bltP fun ctv h' tk old below => ?_
    have J : Inv X pins σ H { s with heap := h', toks := tk } := I.kept old
    exact k h'.objs.size c' H _ (fun_laid (t2 := tk) J) (ExtN.refl H) hT (J.hok.fresh (Nat.le_refl _)) known
  | none =>
    refine PySem.W.kla_makeFunction (P := P) (mg := X.mg) (ps := ps) (c := c) (closure_ok hfree) I.ok.glob (I.mod.glob.keeps I.bk) hcode (TB.code.keeps I.bk) objP tri inTab TB.gP bltP fun c' ctv h' tk old above below rec newTab => ?_
    obtain ⟨c1, oc, vs, tq, same, isObj, isFields, isName⟩ := rec
    obtain rfl : c' = c1 := Value.ref.inj same
    have noCode : H c' = none := I.hok.fresh above
    have J := inv_table (t' := tk) (h' := h') (q := X.env.qual ++ "<lambda>") (more := #[rawInt pos.line, rawInt pos.col, .ref c']) I tabP old newTab above ⟨oc, vs, tq, isObj, isFields, isName⟩
    have grown : ExtN H (upd (upd H P (.tbl (ps ++ #[rawInt pos.line, rawInt pos.col, .ref c']))) c' (CodeO c' (X.env.qual ++ "<lambda>"))) := fun b o at_ notTbl => by
      rw [upd_ne (ne_of_none at_ noCode), upd_ne fun z => notTbl ps (Option.some.inj (at_.symm.trans (by rw [z]; exact tabP)))]
      exact at_
    have asList : (ps ++ #[rawInt pos.line, rawInt pos.col, .ref c']).toList = ps.toList ++ [rawInt pos.line, rawInt pos.col, .ref c'] := by simp
    refine k h'.objs.size c' _ _ (fun_laid (t2 := tk) J) grown (fun p hp => ?_) (J.hok.fresh (Nat.le_refl _)) upd_same
    by_cases isP : p.1 = P
    · rw [hu p hp isP, isP]
      refine ⟨_, by rw [upd_ne (ne_of_none tabP noCode), upd_same], ?_, fun pos' cv' hcv => ?_⟩
      · rw [asList]
        exact PySem.TriplesOk_snoc _ _ _ _ tri
      · rw [asList] at hcv
        rcases among_app _ tri hcv with z | rfl
        · obtain ⟨c0, z1, z2⟩ := among pos' cv' z
          exact ⟨c0, z1, grown _ _ z2 codeO_ne⟩
        · exact ⟨c', rfl, upd_same⟩
    · obtain ⟨ps2, z1, z2, z3⟩ := hT p hp
      refine ⟨ps2, ?_, z2, fun pos' cv' hcv => ?_⟩
      · rw [upd_ne (ne_of_none z1 noCode), upd_ne isP]
        exact z1
      · obtain ⟨c0, y1, y2⟩ := z3 pos' cv' hcv
        exact ⟨c0, y1, grown _ _ y2 codeO_ne⟩
end
/-- lambda: .., its value -/
def tLamV (X : Cx) (T : List (Addr × Str)) (k : Nat) (t : XK → TE) : TE := fun σ H Q => Tabs T H ∧ ∀ (H1 : Hp) (f c' : Addr), ExtN H H1 → Tabs T H1 → LamAt X k H1 f c' t → Q (.ref f) H1
theorem pe_lamV {X : Cx} {T : List (Addr × Str)} {c P : Addr} {k : Nat} {pr : Arguments} {bd : Expr} {sc : Scope} {t : XK → TE} {pos : Pos} (TB : TabB X.base X.mg c P) (hcode : X.env.code = .ref c) (hm : (P, X.env.qual ++ "<lambda>") ∈ T) (hu : ∀ q ∈ T, q.1 = P → q.2 = X.env.qual ++ "<lambda>") (hr : Room (k + 2) X.A) (L : LamS X.env.scope sc) (hdef : defaultsOf pr X.env = ([], []))
    (bnd : ∀ (q : Str) (cl : List (Str × Addr)) (pm cv ctv : Value), bindArgs (PySem.W.kla_fn "<lambda>" q pr bd sc cl pm cv ctv) ⟨[], []⟩ = pure [])
    (hb : ∀ (A : Around) (outer : List Env) (s : Shared) (H : Hp) (E : XK) (f c' : Addr), Room k (A.deeper (lamEnv X sc s.heap.objs.size f c')) → PE (lamN X A outer s H E sc f c') bd (t E)) :
    PE X (.Lambda pr bd sc pos) (tLamV X T k t) := by
  refine ⟨fun pz sz σz Hz Q Iz hq => ?_⟩
  obtain ⟨hT, hq⟩ := hq
  refine lam_track Iz TB hcode hm hu hT hdef (L.has Iz.ok) fun f c' Ha sa Ia eN Ta nf hco => ?_
  have eF : Ex Ha (upd Ha f (FunO (X.env.qual ++ "<lambda>") pr bd sc (cloFrom X.env.cells sc.names []) f c')) := Ex.new nf
  exact ⟨.ref f, _, Ia, rfl, hq _ f c' (fun b o e n => eF b o (eN b o e n)) (Ta.ext eF) ⟨pr, bd, sc, upd_same, eF _ _ hco, L, bnd, hb⟩⟩
/-- GivesN's way of telling a lambda's errors, told with the slots -/
theorem GivesN.s {X : Cx} {Ng : List Str} {x : Str} {sg : Scope} {g : Addr} {cdg : Value} {bg : List Stmt} {a : Str} {q : Str} {k : Nat} {TT : (XK → Hp → VK → Prop) → Hp → VK → Prop} (h : GivesN X Ng x sg g cdg bg a q k TT) : GivesS X Ng x sg g cdg bg a q k TT := fun f c' s H Q tl hr act => h f c' s H Q tl hr fun W pn xe E p1 p2 tk hW =>
  ⟨fun pz sz σz Hz Q Iz w => (act W pn xe E p1 p2 tk).run pz sz σz Hz Q Iz ⟨w.1, w.2.1, fun cls d H1 h => hW cls d σz H1 h, w.2.2⟩⟩
section
variable {X : Cx} {k : Nat} {T : List (Addr × Str)} {M : List Addr} {σ : L2.St} {Hd H : Hp} {t : XK → TE} {te : TE} {v : V} {f c' : Addr}
theorem ew_lamV (W : Wld T M Hd H) : EvW T [] (tLamV X T k t) σ Hd H (fun v Hn H2 => Hn = Hd ∧ ∃ f c', v = .ref f ∧ LamAt X k H2 f c' t) := fun H1 e1 Q q => ⟨(W.ext e1).tb, fun H2 f c' e2 t2 L => q _ H2 Hd (GrW.tabs (W.ext e1) e2 t2) ⟨rfl, f, c', rfl, L⟩⟩
end
end Cot
namespace Cot
open PySem PySem.Spec PyProof.Rows L2 Evl LamX
/-- what is never reached -/
def tNev : TS := fun _ _ _ => False
theorem pss_nev {X : Cx} {ss : List Stmt} : PSs X ss tNev := ⟨fun _ _ _ _ _ _ h => h.elim⟩
/-- a promise that is never asked for -/
def spNev : Sp := fun _ _ _ _ => False
end Cot
set_option Elab.async false
set_option linter.all false
set_option maxRecDepth 100000
set_option maxHeartbeats 4000000
namespace Cot
open PySem PySem.Spec PyProof.Rows L2 Evl LamX
end Cot
set_option Elab.async false
set_option linter.all false
set_option maxRecDepth 100000
set_option maxHeartbeats 4000000
namespace Cot
open PySem PySem.Spec PyProof.Rows L2 Evl
end Cot
set_option Elab.async false
set_option linter.all false
set_option maxRecDepth 100000
set_option maxHeartbeats 4000000
namespace Cot
open PySem PySem.Spec PyProof.Rows L2 L2N
end Cot
set_option Elab.async false
set_option linter.all false
set_option maxRecDepth 100000
set_option maxHeartbeats 4000000
namespace Cot
open PySem PySem.Spec PyProof.Rows L2 Evl
end Cot
set_option Elab.async false
set_option linter.all false
set_option maxRecDepth 100000
set_option maxHeartbeats 4000000
namespace Cot
open PySem PySem.Spec PyProof.Rows L2 L2N
end Cot
set_option Elab.async false
set_option linter.all false
set_option maxRecDepth 100000
set_option maxHeartbeats 4000000
namespace Cot
open PySem PySem.Spec PyProof.Rows L2
end Cot
set_option Elab.async false
set_option linter.all false
set_option maxRecDepth 100000
set_option maxHeartbeats 4000000
namespace Cot
open PySem PySem.Spec PyProof.Rows L2 L2H HotX
end Cot
set_option Elab.async false
set_option linter.all false
set_option maxRecDepth 100000
set_option maxHeartbeats 4000000
namespace Cot
open PySem PySem.Spec PyProof.Rows L2 Evl
end Cot
set_option Elab.async false
set_option linter.all false
set_option maxRecDepth 100000
set_option maxHeartbeats 4000000
namespace Cot
open PySem PySem.Spec PyProof.Rows L2 Evl LamX
/-- a cell that a def left behind -/
def CellO (c : Addr) (v : V) : HO := .ext fun h => ∃ u, RelV v u ∧ h.IsCell c (some u)
def hide (H : Hp) (c : Addr) : Hp := fun b => if b = c then none else H b
theorem hide_same {H : Hp} {c : Addr} : hide H c c = none := if_pos rfl
theorem hide_ne {H : Hp} {c b : Addr} (h : b ≠ c) : hide H c b = H b := if_neg h
theorem hide_none {H : Hp} {c b : Addr} (h : H b = none) : hide H c b = none := by
  unfold hide
  split
  · rfl
  · exact h
theorem hide_some {H : Hp} {c b : Addr} {o : HO} (h : hide H c b = some o) : b ≠ c ∧ H b = some o := by
  unfold hide at h
  split at h
  · cases h
  · rename_i n
    exact ⟨n, h⟩
section
variable {P : Program} {w : World} {H H1 : Hp} {h : Heap} {c : Addr} {v : V}
theorem cell_ne {b : Addr} {o : HO} (hc : H c = some (CellO c v)) (hb : H b = some o) (n : o ≠ CellO c v) : b ≠ c := fun e => by
  rw [e, hc] at hb
  exact n (Option.some.inj hb).symm
theorem hok_hide (ok : HOk P w H h) (hc : H c = some (CellO c v)) : HOk P w (hide H c) h := fun b o e => by
  obtain ⟨_, e'⟩ := hide_some e
  refine (ok b o e').stay (fun _ _ _ q => q) (fun d q => ?_) fun d xs q => ?_
  · rw [hide_ne (cell_ne hc q (fun z => by cases z))]
    exact q
  · rw [hide_ne (cell_ne hc q (fun z => by cases z))]
    exact q
theorem cell_ok {u : Value} (r : RelV v u) (hc : h.IsCell c (some u)) : ObjOk P w H1 h c (CellO c v) := by
  obtain ⟨o, ho, hd⟩ := hc
  refine ⟨⟨u, r, o, ho, hd⟩, ⟨o, ho⟩, fun h1 h2 z st => ?_⟩
  obtain ⟨u, r, o, ho, hd⟩ := z
  exact ⟨u, r, o, st _ ho, hd⟩
theorem hok_show {u : Value} (ok : HOk P w H1 h) (n : H1 c = none) (r : RelV v u) (hc : h.IsCell c (some u)) : HOk P w (upd H1 c (CellO c v)) h := fun b o e => by
  by_cases hb : b = c
  · subst hb
    rw [upd_same] at e
    cases e
    exact cell_ok r hc
  · rw [upd_ne hb] at e
    refine (ok b o e).stay (fun _ _ _ q => q) (fun d q => ?_) fun d xs q => ?_
    · rw [upd_ne (ne_of_none q n)]
      exact q
    · rw [upd_ne (ne_of_none q n)]
      exact q
theorem env0_hide {K : PySem.W.Frag} {mg : Str → Option Value} {base : Heap} {A : Around} {outer : List Env} {s : Shared} (e : Env0 P w K mg base A outer s H) (hc : H c = some (CellO c v)) : Env0 P w K mg base A outer s (hide H c) :=
  ⟨e.frames, e.mod, fun b o q => ⟨(e.bs b o q).1, hide_none (e.bs b o q).2⟩, e.bsz, e.funs, fun b hb => hide_none (e.frf b hb), hok_hide e.hok hc, e.bare⟩
/-- an exception that left, the cell told again -/
theorem cx_show {K : PySem.W.Frag} {mg : Str → Option Value} {base : Heap} {A : Around} {outer : List Env} {s s' : Shared} {E : XK} {x : Value} (e : Env0 P w K mg base A outer s H) (hc : H c = some (CellO c v)) (cx : L2N.CX P w outer (hide H c) s (fun cls d H1 => E cls d (upd H1 c (CellO c v))) x s') : L2N.CX P w outer H s E x s' := by
  obtain ⟨a, B, H', cls, d, rfl, fl, hok, ub, na, os, ag, hE⟩ := cx
  obtain ⟨⟨u, r, o, ho, hd⟩, _, _⟩ := e.hok c _ hc
  have nf : c ∉ frs outer := fun z => by
    have := e.frf c z
    rw [hc] at this
    cases this
  have hB : B.get? c = some o := ub.keep c o ho hide_same nf
  have nH : H' c = none := ub.free c o ho hide_same
  have ne : ∀ {b : Addr} {q : HO}, H b = some q → q ≠ CellO c v → b ≠ c := fun hb n => cell_ne hc hb n
  refine ⟨a, B, upd H' c (CellO c v), cls, d, rfl, fl, hok_show hok nH r ⟨o, hB, hd⟩, ⟨fun b q hb n nb => ub.keep b q hb (hide_none n) nb, ub.slot, fun b q hb n => ?_, ub.there, fun b xs q => ?_, fun b ob xs q => ?_, fun b ps q => ?_⟩, ?_, os, ag, hE⟩
  · have hbc : b ≠ c := fun z => by
      rw [z, hc] at n
      cases n
    rw [upd_ne hbc]
    exact ub.free b q hb (hide_none n)
  · have hbc := ne q (fun z => by cases z)
    rw [upd_ne hbc]
    exact ub.tups b xs (by rw [hide_ne hbc]; exact q)
  · have hbc := ne q (fun z => by cases z)
    rw [upd_ne hbc]
    exact ub.frzs b ob xs (by rw [hide_ne hbc]; exact q)
  · have hbc := ne q (fun z => by cases z)
    rw [upd_ne hbc]
    exact ub.tbls b ps (by rw [hide_ne hbc]; exact q)
  · have hac : a ≠ c := fun z => by
      have := fl.2.1
      rw [z, hB] at this
      cases this
    rw [upd_ne hac]
    exact na
end
/-- the lambda's context, told of its cells alone -/
theorem lam_start3 {X : Cx} {σ : L2.St} {HZ : Hp} {s1 : Shared} {A : Around} {outer : List Env} {E : XK} {scope : Scope} {f c' : Addr} {h₁ : Heap} {tk : Nat} (L : LamS X.env.scope scope) (hinj : ∀ x y c, X.env.cells.lookup x = some c → X.env.cells.lookup y = some c → x = y)
    (hfree : ∀ y ∈ scope.names, y.2 = .free → ∃ c, X.env.cells.lookup y.1 = some c) (len : σ.length = X.N.length)
    (vals : ∀ (i : Nat) (y : Str) (v : V) (c : Addr), X.N[i]? = some y → σ[i]? = some (some v) → scope.names.lookup y = some .free → X.env.cells.lookup y = some c → ∃ u, RelV v u ∧ s1.heap.IsCell c (some u))
    (cells : ∀ y c, X.env.cells.lookup y = some c → (∃ v, s1.heap.IsCell c v) ∧ HZ c = none) (e0 : Env0 X.prog X.w X.K X.mg X.base A outer s1 HZ) (hd : A.handled = none)
    (hns : h₁.Ns s1.heap.objs.size fun y => ([] : List (Str × Value)).reverse.lookup y) (kp : ∀ b o, s1.heap.get? b = some o → h₁.get? b = some o) :
    Inv (lamCx X A outer s1 HZ E scope f c') [] σ HZ { s1 with heap := h₁, toks := tk } := by
  have cm : ∀ {y c}, (cloFrom X.env.cells scope.names []).lookup y = some c → X.env.cells.lookup y = some c := fun {y c} e => by
    rcases cloFrom_mem (PySem.mem_of_lookup e) with hm | ⟨h1, h2⟩
    · cases hm
    · obtain ⟨c1, hc⟩ := hfree _ h1 rfl
      have hc : X.env.cells.lookup y = some c1 := hc
      have e2 : c = c1 := by
        rw [h2, hc] <;> rfl
      rw [e2]
      exact hc
  have look : ∀ {y}, scope.names.lookup y = some .free → ∃ c, (cloFrom X.env.cells scope.names []).lookup y = some c := fun {y} hl => by
    have hy : (y, NameKind.free) ∈ scope.names := PySem.mem_of_lookup hl
    exact mem_lookup (cloFrom_has (cells := X.env.cells) (acc := []) hy)
  have cellK : ∀ {c : Addr} {v : Option Value}, s1.heap.IsCell c v → h₁.IsCell c v := fun {c v} ⟨o, ho, hd⟩ => ⟨o, kp _ _ ho, hd⟩
  have noA : ∀ b : Addr, b ∉ (lamCx X A outer s1 HZ E scope f c').ex := fun b z => absurd (show b ∈ ([] : List Addr) from z) (by simp)
  refine ⟨⟨e0.mod, L.kind, rfl, rfl, Nat.le_refl _, fun y z c e1 e2 => hinj y z c (cm e1) (cm e2), fun y hy => ?_, fun y c z _ => ?_, fun _ => hd, Around.frames_deeper e0.frames, .inr ⟨rfl, rfl⟩, fun b z => absurd z (noA b), e0.bs, e0.bsz, fun b _ _ => noA b,
      fun b z => absurd z (noA b), e0.funs, e0.frf⟩,
    rfl, e0.bare, Un.kept kp, ⟨_, hns, fun i y v e1 e2 e3 => ?_⟩, fun y c e => ?_, e0.hok.fresh (Nat.le_refl _), fun y c e => (cells y c (cm e)).2, fun q hq => absurd (show q ∈ ([] : List (Addr × Obj)) ++ [] from hq) (by simp), e0.hok.kept kp, len⟩
  · have hy : scope.names.lookup y = some .cell ∨ scope.names.lookup y = some .free := hy
    rcases hy with hy | hy
    · exact absurd rfl (L.own _ (PySem.mem_of_lookup hy)).2
    · exact look hy
  · have z : false = true := z
    cases z
  · have e3 : Vis scope y := e3
    rcases e3 with k | k | k
    · exact absurd rfl (L.own _ (PySem.mem_of_lookup k)).1
    · exact absurd rfl (L.own _ (PySem.mem_of_lookup k)).2
    · obtain ⟨c2, h2⟩ := look k
      obtain ⟨u, r, z⟩ := vals i y v c2 e1 e2 k (cm h2)
      exact ⟨u, r, .inr ⟨.inr k, c2, h2, cellK z⟩⟩
  · obtain ⟨w', z⟩ := (cells y c (cm e)).1
    exact ⟨w', cellK z⟩
/-- what is left of a def whose one captured name is its parameter: nothing but the cell at c -/
structure Left (X : Cx) (y : Str) (i : Nat) (c : Addr) : Prop where
  one : ∀ x d, X.env.cells.lookup x = some d → x = y ∧ d = c
  has : X.env.cells.lookup y = some c
  at_ : X.N[i]? = some y
  nd : ∀ j, X.N[j]? = some y → j = i
/-- x() in the def that got the lambda, where the def that made it has ended: only where it raises -/
theorem actD {CXg : CXT} {Eg : XK} {Ng : List Str} {qg : Str} {sg : Scope} {g f c' c : Addr} {cdg : Value} {pr : Arguments} {bd : Expr} {sc : Scope} {k i iy : Nat} {a y : Str} {pn : List (Addr × Obj)} {xe : Value → Shared → Prop} {W : WX} {E : XK} {tb : TE} {p1 p2 : Pos} {v : V} {σd : L2.St} {Y : Cx} {Nd : List Str} {qd : Str} {sd : Scope} {fd : Addr} {cdd : Value} {Ad : Around} {od : List Env} {s0 : Shared} {H0 : Hp} {CXd : CXT} {Ed : XK} {X : Cx} {s : Shared} {H : Hp}
    (hX : X = cxOf CXd Y.prog Y.w Y.K Y.mg Y.base Nd qd sd fd cdd Ad od s0 H0 Ed) (lf : Left X y iy c) (hlen : σd.length = X.N.length) (hσ : ∀ j u, σd[j]? = some (some u) → j = iy ∧ u = v) (L : LamS X.env.scope sc) (hfree : ∀ z ∈ sc.names, z.2 = .free → z.1 = y)
    (bnd : ∀ (q : Str) (cl : List (Str × Addr)) (pm cv ctv : Value), bindArgs (PySem.W.kla_fn "<lambda>" q pr bd sc cl pm cv ctv) ⟨[], []⟩ = pure []) (tk : L2N.Takes ((cxOf CXg Y.prog Y.w Y.K Y.mg Y.base Ng qg sg g cdg Y.A Y.stack s H Eg).tr pn xe) W) (hr : Room (k + 1) (Y.A.deeper (envOfC qg sg s.heap.objs.size g cdg)))
    (hb : ∀ (A : Around) (outer : List Env) (s : Shared) (H : Hp), Room k (A.deeper (lamEnv X sc s.heap.objs.size f c')) → PE (lamN X A outer s H (fun cls d H1 => E cls d (upd H1 c (CellO c v))) sc f c') bd tb) (hN : Ng[i]? = some a) (hv : Vis sg a) (hd : (a == ("__debug__" : Str)) = false) (hcd : (a == ("__classdict__" : Str)) = false) :
    PE ((cxOf CXg Y.prog Y.w Y.K Y.mg Y.base Ng qg sg g cdg Y.A Y.stack s H Eg).tr pn xe) (.Call (.Name a p1) [] [] p2)
      (fun σz Hz Q => σz[i]? = some (some (.ref f)) ∧ Hz c' = some (CodeO c' (X.env.qual ++ "<lambda>")) ∧ (∀ cls d H1, E cls d H1 → W cls d σz H1) ∧ Hz f = some (FunO (X.env.qual ++ "<lambda>") pr bd sc (cloFrom X.env.cells sc.names []) f c') ∧ Hz c = some (CellO c v) ∧ tb σd (hide Hz c) (fun _ _ => False)) := by
  subst hX
  refine ⟨fun pz sz σz Hz Q Iz want => ?_⟩
  obtain ⟨slot, isCode, errs, isFun, isCell, want⟩ := want
  have var := (pe_var (X := (cxOf CXg Y.prog Y.w Y.K Y.mg Y.base Ng qg sg g cdg Y.A Y.stack s H Eg).tr pn xe) (pos := p1) (i := i) hN hv hd hcd).run pz sz σz Hz (fun v H1 => v = .ref f ∧ H1 = Hz) Iz ⟨.ref f, slot, rfl, rfl⟩
  refine wpAny_Call_Name_kw (thn var fun u sa got => ?_)
  obtain ⟨v', Ha, Ia, ra, rfl, eHa⟩ := got
  rw [eHa] at Ia
  cases ra
  obtain ⟨⟨pm, ctv, objF⟩, _, _⟩ := Ia.hok f _ isFun
  obtain ⟨⟨uc, rc, isC⟩, _, _⟩ := Ia.hok c _ isCell
  refine PySem.W.callWith_F0 ⟨_, _, _, _, objF⟩ ?_
  obtain ⟨⟨oc, vs, t, hoc, hdc, hvc⟩, _, _⟩ := Ia.hok c' _ isCode
  have e0 : Env0 Y.prog Y.w Y.K Y.mg Y.base (Y.A.deeper (envOfC qg sg s.heap.objs.size g cdg)) (envOfC qg sg s.heap.objs.size g cdg :: Y.stack) sa Hz := Ia.env0
  have e1 := env0_hide e0 isCell
  have run : codeAny (model Y.prog Y.w) (Y.A.deeper (envOfC qg sg s.heap.objs.size g cdg)) (.call (.ref f) ⟨[], []⟩) (CR (L2N.CX Y.prog Y.w) (envOfC qg sg s.heap.objs.size g cdg :: Y.stack) Y.prog Y.w Hz sa Q E) sa := by
    refine PySem.W.kla_callFunE hr.depth objF rfl L.co L.gen rfl ⟨c', oc, vs, t, rfl, hoc, hdc, hvc⟩ ?_
    rw [bnd]
    refine wpAny_pure (wpAny_newFunctionEnv (fun y hy => (L.own y hy).2) (fun y hy => absurd hy (by simp)) (fun hn ns sb => ⟨Ia.nolimit.fresh _ sb, ?_⟩) L.kind)
    have still : ∀ b o, sa.heap.get? b = some o → hn.get? b = some o := fun b o e => sb.extBut b o (Nat.ne_of_lt (Heap.lt_size e)) (Heap.get?_push_of_some _ e)
    have J := (lam_start3 (X := cxOf CXd Y.prog Y.w Y.K Y.mg Y.base Nd qd sd fd cdd Ad od s0 H0 Ed) (σ := σd) (E := fun cls d H1 => E cls d (upd H1 c (CellO c v))) (f := f) (c' := c') (tk := sa.toks + ([] : List (Str × Value)).length) L (fun x z d h1 h2 => by rw [(lf.one x d h1).1, (lf.one z d h2).1]) (fun z hz e => ⟨c, by rw [hfree z hz e]; exact lf.has⟩) hlen
      (fun j z u d h1 h2 _ h4 => by
        obtain ⟨e1, e2⟩ := hσ j u h2
        obtain ⟨e3, e4⟩ := lf.one z d h4
        rw [e2, e4]
        exact ⟨uc, rc, isC⟩)
      (fun z d h => by
        rw [(lf.one z d h).2]
        exact ⟨⟨_, isC⟩, hide_same⟩) e1 hr.hd ns still).wish (fun e s1 => wpAny (model Y.prog Y.w) ((Y.A.deeper (envOfC qg sg s.heap.objs.size g cdg)).deeper (lamEnv (cxOf CXd Y.prog Y.w Y.K Y.mg Y.base Nd qd sd fd cdd Ad od s0 H0 Ed) sc sa.heap.objs.size f c')) (leaving (lamEnv (cxOf CXd Y.prog Y.w Y.K Y.mg Y.base Nd qd sd fd cdd Ad od s0 H0 Ed) sc sa.heap.objs.size f c') e) (fun _ s2 => L2N.CX Y.prog Y.w (envOfC qg sg s.heap.objs.size g cdg :: Y.stack) (hide Hz c) sa (fun cls d H1 => E cls d (upd H1 c (CellO c v))) e s2) (fun e2 s2 => L2N.CX Y.prog Y.w (envOfC qg sg s.heap.objs.size g cdg :: Y.stack) (hide Hz c) sa (fun cls d H1 => E cls d (upd H1 c (CellO c v))) e2 s2) s1)
    show codeAny _ _ (.expr bd (lamEnv (cxOf CXd Y.prog Y.w Y.K Y.mg Y.base Nd qd sd fd cdd Ad od s0 H0 Ed) sc sa.heap.objs.size f c')) _ _
    refine PySem.W.kla_codeExpr (wpAny_mono ((hb _ _ sa (hide Hz c) (hr.deeper _)).run [] _ _ (hide Hz c) (fun _ _ => False) J want) (fun u s1 fin => ?_) fun e s1 fin => ?_)
    · obtain ⟨v1, H1, J1, r1, q1⟩ := fin
      exact q1.elim
    · exact wpAny_mono fin (fun _ s2 h => cx_show e0 isCell h) fun e2 s2 h => cx_show e0 isCell h
  refine wpAny_call (codeAny_mono run fun r s1 fin => ?_)
  cases r with
  | ok fl =>
    cases fl with
    | ret u => exact Ia.after fin
    | next => exact fin.elim
    | brk => exact fin.elim
    | cont => exact fin.elim
  | error e => exact tk e s1 (L2N.XE.of_call Ia errs fin)
end Cot
set_option Elab.async false
set_option linter.all false
set_option maxRecDepth 100000
set_option maxHeartbeats 4000000
namespace Cot
open PySem PySem.Spec PyProof.Rows L2 Evl LamX
/-- a body's end told with the slots -/
def SR (X : Cx) (pins : List (Addr × Obj)) (R : V → L2.St → Hp → Prop) (f : Flow) (s' : Shared) : Prop :=
  match f with
  | .ret u => ∃ v σ' H', Inv X pins σ' H' s' ∧ RelV v u ∧ R v σ' H'
  | _ => False
abbrev TR := (V → L2.St → Hp → Prop) → L2.St → Hp → Prop
structure PSsR (X : Cx) (ss : List Stmt) (t : TR) : Prop where
  run : ∀ (pins : List (Addr × Obj)) (s : Shared) (σ : L2.St) (H : Hp) (R : V → L2.St → Hp → Prop), Inv X pins σ H s → t R σ H → wpAny (model X.prog X.w) X.A (execs ss X.env) (SR X pins R) X.xe s
def tSeqR (t : TS) (u : TR) : TR := fun R σ H => t { nx := fun σ' H' => u R σ' H', rt := fun _ _ => False } σ H
def tRetR (te : TE) : TR := fun R σ H => te σ H fun v H1 => R v σ H1
section
variable {X : Cx} {st : Stmt} {rest : List Stmt} {t : TS} {u : TR} {e : Expr} {te : TE} {pos : Pos}
theorem psr_cons (h1 : PS X st t) (h2 : PSsR X rest u) : PSsR X (st :: rest) (tSeqR t u) := by
  refine ⟨fun pins s σ H R I h => ?_⟩
  refine wpAny_execs_cons (thn (h1.run pins s σ H _ I h) fun f s1 q => ?_)
  cases f with
  | next =>
    obtain ⟨σ', H', I', q⟩ := q
    exact h2.run pins s1 σ' H' R I' q
  | ret v =>
    obtain ⟨_, _, _, _, _, z⟩ := q
    exact z.elim
  | brk =>
    obtain ⟨_, _, _, z⟩ := q
    exact z.elim
  | cont =>
    obtain ⟨_, _, _, z⟩ := q
    exact z.elim
theorem psr_last (he : PE X e te) : PSsR X [.Return (some e) pos] (tRetR te) := by
  refine ⟨fun pins s σ H R I h => ?_⟩
  refine wpAny_execs_cons (wpAny_Return_some (thn (he.run pins s σ H _ I h) fun v s1 q => ?_))
  obtain ⟨w, H', I', r, z⟩ := q
  exact ⟨w, σ, H', I', r, z⟩
end
/-- a def with lambdas that outlive it: the cell of its parameter y is told behind it -/
theorem okCR {P : Program} {w : World} {K : PySem.W.Frag} {mg : Str → Option Value} {base : Heap} {CX : CXT} {x ql y : Str} {st : Stmt} {f c : Addr} {fd : FuncData} {N ps : List Str} {k i : Nat} {sp : Sp} (F : FunC K x ql st f fd c) (S : FnScope N ps (defScope st)) (ln : ∀ vs H Q E, sp vs H Q E → vs.length = ps.length)
    (hN : N[i]? = some y) (hy : (defScope st).names.lookup y = some .cell)
    (hb : ∀ (A : Around) (st2 : List Env) (s : Shared) (H : Hp) (vs : List V) (Q : VK) (E : XK), Room k (A.deeper (envOfC ql (defScope st) s.heap.objs.size f (.ref c))) → sp vs H Q E →
      ∃ t, PSsR (cxOf CX P w K mg base N ql (defScope st) f (.ref c) A st2 s H E) (defBody st) t ∧
        t (fun v σ' H' => ∃ v0, σ'[i]? = some (some v0) ∧ ∀ cc, (envOfC ql (defScope st) s.heap.objs.size f (.ref c)).cells.lookup y = some cc → H' cc = none → Q v (upd H' cc (CellO cc v0))) (L2.start N vs) H) : FnOk P w K mg base CX (k + 1) f fd ps sp := by
  obtain ⟨_, kV, doc, pm, ct, od, an, osl, rfl, lk, hcd⟩ := F.ex
  refine ⟨ln, fun A outer s H args us vs Q E hr e0 hbi r hsp => ?_⟩
  have hl := ln _ _ _ _ hsp
  have KX : K.In s.heap := e0.mod.kin.keeps fun b o e => (e0.bs b o e).1
  have lim : s.heap.NoLimit := e0.mod.nolimit.keeps fun b o e => (e0.bs b o e).1
  have hkind : ∀ z ∈ ps.zip us, (defScope st).names.lookup z.1 = some .local ∨ ((defScope st).names.lookup z.1 = some .cell ∧ ((cellsFrom (s.heap.objs.size + 1) (defScope st).names []).lookup z.1).isSome = true) := fun ⟨n, v⟩ hz => by
    rcases S.par n (List.of_mem_zip hz).1 with q | q
    · exact .inl q
    · exact .inr ⟨q, PySem.W.cellsFrom_some _ _ _ (.inl q)⟩
  refine codeAny_call_function hr.depth (KX _ _ lk) rfl S.co S.gen rfl (PySem.W.codeRec_of KX hcd) (hbi _ _ _ _ ?_)
  refine wpAny_newFunctionEnv_cells S.kind hkind fun env he s1 x1 => ?_
  subst he
  refine ⟨lim.keeps x1.toInCall.keep, codeAny_func ?_⟩
  obtain ⟨t, ht, hq⟩ := hb A outer s H vs Q E (hr.deeper _) hsp
  have I : Inv (cxOf CX P w K mg base N ql (defScope st) f (.ref c) A outer s H E) [] (L2.start N vs) H s1 := inv_start S hr.hd e0 hl r x1
  refine wpAny_mono (ht.run [] s1 (L2.start N vs) H _ I hq) (fun fl s' hs => ?_) fun e s' hs => hs
  cases fl with
  | ret u =>
    obtain ⟨v, σ', H', J, rv, v0, hv0, q⟩ := hs
    obtain ⟨m, _, hl⟩ := J.loc
    obtain ⟨u0, r0, hk⟩ := hl i y v0 hN hv0 (.inr (.inl hy))
    rcases hk with ⟨kk, _⟩ | ⟨_, cc, hcc, isC⟩
    · have kk : (defScope st).names.lookup y = some .local := kk
      rw [hy] at kk
      cases kk
    · have nH := J.freeC y cc hcc
      have big : s.heap.objs.size ≤ cc := J.ok.cab y cc rfl hcc
      have un : Un (frs outer) [] H H' s.heap s'.heap := J.base
      have nup : ∀ {b : Addr} {o : HO}, H' b = some o → b ≠ cc := fun h z => by
        rw [z, nH] at h
        cases h
      show CE outer P w H s Q u s'
      refine ⟨v, upd H' cc (CellO cc v0), J.os, J.bare, ⟨un.keep, un.slot, fun b o e n nx => ?_, un.there, fun b xs e => ?_, fun b o xs e => ?_, fun b ps e => ?_⟩, hok_show J.hok nH r0 isC, rv, q cc hcc nH⟩
      · have hbc : b ≠ cc := fun z => by
          rw [z] at e
          exact absurd (Nat.lt_of_lt_of_le (Heap.lt_size e) big) (Nat.lt_irrefl _)
        rw [upd_ne hbc]
        exact un.free b o e n nx
      · have h := un.tups b xs e
        rw [upd_ne (nup h)]
        exact h
      · have h := un.frzs b o xs e
        rw [upd_ne (nup h)]
        exact h
      · obtain ⟨more, h⟩ := un.tbls b ps e
        exact ⟨more, by rw [upd_ne (nup h)]; exact h⟩
  | next => exact hs.elim
  | brk => exact hs.elim
  | cont => exact hs.elim
end Cot
set_option Elab.async false
set_option linter.all false
set_option maxRecDepth 100000
set_option maxHeartbeats 4000000
namespace Cot
open PySem PySem.Spec PyProof.Rows L2 Evl LamX
/-- a lambda whose maker has ended; where it runs it raises C -/
def DeadAt (P : Program) (w : World) (K : PySem.W.Frag) (mg : Str → Option Value) (base : Heap) (k : Nat) (H : Hp) (f C : Addr) : Prop :=
  ∃ (CXd : CXT) (Nd : List Str) (qd : Str) (sd : Scope) (fd : Addr) (cdd : Value) (Ad : Around) (od : List Env) (s0 : Shared) (H0 : Hp) (Ed : XK) (y : Str) (iy : Nat) (c c' : Addr) (v : V) (σd : L2.St) (pr : Arguments) (bd : Expr) (sc : Scope) (tb : XK → TE) (Hd : Hp),
    Ex Hd H ∧ (Hd c = none ∧ ∀ a ps, Hd a ≠ some (.tbl ps)) ∧ Left (cxOf CXd P w K mg base Nd qd sd fd cdd Ad od s0 H0 Ed) y iy c ∧ σd.length = Nd.length ∧ (∀ j u, σd[j]? = some (some u) → j = iy ∧ u = v) ∧ (∀ z ∈ sc.names, z.2 = .free → z.1 = y) ∧ LamS (cxOf CXd P w K mg base Nd qd sd fd cdd Ad od s0 H0 Ed).env.scope sc ∧
    (∀ (q : Str) (cl : List (Str × Addr)) (pm cv ctv : Value), bindArgs (PySem.W.kla_fn "<lambda>" q pr bd sc cl pm cv ctv) ⟨[], []⟩ = pure []) ∧
    (∀ (A : Around) (outer : List Env) (s : Shared) (H : Hp) (E : XK) (f c' : Addr), Room k (A.deeper (lamEnv (cxOf CXd P w K mg base Nd qd sd fd cdd Ad od s0 H0 Ed) sc s.heap.objs.size f c')) → PE (lamN (cxOf CXd P w K mg base Nd qd sd fd cdd Ad od s0 H0 Ed) A outer s H E sc f c') bd (tb E)) ∧
    H f = some (FunO ((cxOf CXd P w K mg base Nd qd sd fd cdd Ad od s0 H0 Ed).env.qual ++ "<lambda>") pr bd sc (cloFrom (cxOf CXd P w K mg base Nd qd sd fd cdd Ad od s0 H0 Ed).env.cells sc.names []) f c') ∧ H c' = some (CodeO c' ((cxOf CXd P w K mg base Nd qd sd fd cdd Ad od s0 H0 Ed).env.qual ++ "<lambda>")) ∧ H c = some (CellO c v) ∧
    ∀ (H1 : Hp) (E : XK), Ex Hd H1 → (∀ H2, Ex H1 H2 → E (.ref C) none H2) → tb E σd H1 (fun _ _ => False)
theorem DeadAt.extN {P : Program} {w : World} {K : PySem.W.Frag} {mg : Str → Option Value} {base : Heap} {k : Nat} {H H2 : Hp} {f C : Addr} (h : DeadAt P w K mg base k H f C) (e : ExtN H H2) : DeadAt P w K mg base k H2 f C := by
  obtain ⟨CXd, Nd, qd, sd, fd, cdd, Ad, od, s0, H0, Ed, y, iy, c, c', v, σd, pr, bd, sc, tb, Hd, h1, h2, h3, h4, h5, h6, h7, h8, h9, h10, h11, h12, h13⟩ := h
  exact ⟨CXd, Nd, qd, sd, fd, cdd, Ad, od, s0, H0, Ed, y, iy, c, c', v, σd, pr, bd, sc, tb, Hd, fun a o ho => e a o (h1 a o ho) fun ps z => h2.2 a ps (by rw [ho, z]), h2, h3, h4, h5, h6, h7, h8, h9, e _ _ h10 noTb_fun, e _ _ h11 noTb_code, e _ _ h12 (fun ps z => by cases z), h13⟩
theorem DeadAt.ext {P : Program} {w : World} {K : PySem.W.Frag} {mg : Str → Option Value} {base : Heap} {k : Nat} {H H2 : Hp} {f C : Addr} (h : DeadAt P w K mg base k H f C) (e : Ex H H2) : DeadAt P w K mg base k H2 f C := h.extN (ExtN.of e)
/-- g(e): e is a lambda whose maker has ended -/
def tLamD (P : Program) (w : World) (K : PySem.W.Frag) (mg : Str → Option Value) (base : Heap) (k : Nat) (TT : (XK → Hp → VK → Prop) → Hp → VK → Prop) (te : TE) : TE := fun σ H Q => te σ H fun v H1 => ∃ (f C : Addr), v = .ref f ∧ DeadAt P w K mg base k H1 f C ∧ TT (fun E H2 _ => Ex H1 H2 ∧ ∀ H3, Ex H2 H3 → E (.ref C) none H3) H1 Q
theorem pe_dead {Y : Cx} {TT : (XK → Hp → VK → Prop) → Hp → VK → Prop} {x a : Str} {g : Addr} {k : Nat} {pg : Arguments} {bg : List Stmt} {sg : Scope} {dV kV doc pm cdv ct oc : Value} {an od : Option Addr} {osl : Array (Option Value)} {Ng : List Str}
    {e : Expr} {te : TE} {p pos : Pos} (hg : Gl Y x) (hm : Y.mg x = some (.ref g)) (hk : PySem.W.keepIn Y.K (.ref g) = true)
    (lk : Y.K.lookup g = some ⟨oc, od, .func (PySem.W.fnOf x x pg bg sg dV kV doc pm an cdv ct), osl⟩) (hcg : PySem.W.codeIn Y.K cdv x = true) (hbi : L2.Binds Y.K (PySem.W.fnOf x x pg bg sg dV kV doc pm an cdv ct) [a] []) (Sg : FnScope Ng [a] sg) (hNg : Ng[0]? = some a) (hva : Vis sg a)
    (hG : ∀ q, GivesS Y Ng x sg g cdv bg a q k TT) (hr : Room (k + 2) Y.A) (he : PE Y e te)
    (hdb : (x == ("__debug__" : Str)) = false := by decide) (hd : (a == ("__debug__" : Str)) = false := by decide) (hcd : (a == ("__classdict__" : Str)) = false := by decide)
    (hse : starEach [e] Y.env = (false, eval e Y.env) :: starEach [] Y.env := by rfl) :
    PE Y (.Call (.Name x p) [e] [] pos) (tLamD Y.prog Y.w Y.K Y.mg Y.base k TT te) := by
  refine ⟨fun pz sz σz Hz Q Iz want => ?_⟩
  refine wpAny_Call_Name_kw (ld_glob Iz hg hm (PySem.W.callWith_K (h₀ := Y.base) Iz.ok.mod.kin hk ?_ hse (by rfl)) hdb)
  rw [hse]
  refine Calls.spliced_cons (thn (he.run pz sz σz Hz _ Iz want) fun u sa got => ?_)
  obtain ⟨v, Ha, Ia, ru, f, C, rfl, ⟨CXd, Nd, qd, sd, fd, cdd, Ad, od, s0, H0, Ed, y, iy, c, c', vc, σd, pr, bd, sc, tb, Hd, h1, h2, h3, h4, h5, h6, h7, h8, h9, h10, h11, h12, h13⟩, want⟩ := got
  cases ru
  refine Calls.spliced_nil ⟨Ia.kIn, ?_⟩
  have run : codeAny (model Y.prog Y.w) Y.A (.call (.ref g) ⟨[.ref f], []⟩) (CR C8.CX0 Y.stack Y.prog Y.w Ha sa Q C8.E0) sa := by
    refine run_ofS (N := Ng) (ps := [a]) (us := [.ref f]) (vs := [.ref f]) lk hcg Sg hr Ia.env0 (hbi sa [.ref f] Ia.kIn rfl) (.cons rfl .nil) rfl fun hr1 => ?_
    obtain ⟨t1, ht1, hq1⟩ := hG ((cxOf CXd Y.prog Y.w Y.K Y.mg Y.base Nd qd sd fd cdd Ad od s0 H0 Ed).env.qual ++ "<lambda>") f c' sa Ha Q (fun E H2 _ => Ex Ha H2 ∧ ∀ H3, Ex H2 H3 → E (.ref C) none H3) hr1 (fun W pn xe E p1 p2 tk => ⟨fun py sy σy Hy Qy Iy wy => by
        obtain ⟨w1, w2, w3, w4, w5⟩ := wy
        refine (actD (i := 0) (X := cxOf CXd Y.prog Y.w Y.K Y.mg Y.base Nd qd sd fd cdd Ad od s0 H0 Ed) (E := E) (tb := tb (fun cls d H1 => E cls d (upd H1 c (CellO c vc)))) rfl h3 h4 h5 h7 h6 h8 tk hr1 (fun A outer s H hr2 => h9 A outer s H _ f c' hr2) hNg hva hd hcd).run py sy σy Hy Qy Iy ⟨w1, w2, w3, w4 _ _ h10, w4 _ _ h12, h13 _ _ (fun b o hb => ?_) fun H2 e2 => w5 _ fun b o hb => ?_⟩
        · have hbc : b ≠ c := fun z => by
            rw [z, h2.1] at hb
            cases hb
          rw [hide_ne hbc]
          exact w4 _ _ (h1 _ _ hb)
        · by_cases hbc : b = c
          · subst hbc
            rw [w4 _ _ h12] at hb
            rw [upd_same, hb]
          · rw [upd_ne hbc]
            exact e2 _ _ (by rw [hide_ne hbc]; exact hb)⟩) h11 want
    exact ⟨t1, ht1.nox, hq1⟩
  refine wpAny_call (codeAny_mono run fun r s1 hv => ?_)
  cases r with
  | ok fl =>
    cases fl with
    | ret u => exact Ia.after hv
    | next => exact hv.elim
    | brk => exact hv.elim
    | cont => exact hv.elim
  | error e => exact (show False from hv).elim
/-- what a def with lambdas left behind, told of its one cell -/
theorem left_of {CXd : CXT} {P : Program} {w : World} {K : PySem.W.Frag} {mg : Str → Option Value} {base : Heap} {Nd : List Str} {qd : Str} {sd : Scope} {fd : Addr} {cdd : Value} {Ad : Around} {od : List Env} {s0 : Shared} {H0 : Hp} {Ed : XK} {y : Str} {iy : Nat} {cc : Addr}
    (hc : ∀ n : Nat, ∃ m, cellsFrom (n + 1) sd.names [] = [(y, m)]) (hcc : (envOfC qd sd s0.heap.objs.size fd cdd).cells.lookup y = some cc) (ha : Nd[iy]? = some y) (nd : Nd.Nodup) : Left (cxOf CXd P w K mg base Nd qd sd fd cdd Ad od s0 H0 Ed) y iy cc := by
  obtain ⟨m, hm⟩ := hc s0.heap.objs.size
  have hm : (cxOf CXd P w K mg base Nd qd sd fd cdd Ad od s0 H0 Ed).env.cells = [(y, m)] := hm
  have hcc : (cxOf CXd P w K mg base Nd qd sd fd cdd Ad od s0 H0 Ed).env.cells.lookup y = some cc := hcc
  refine ⟨fun x d h => ?_, hcc, ha, fun j hj => ?_⟩
  · rw [hm] at h hcc
    rw [List.lookup_cons] at h hcc
    rw [beq_self_eq_true] at hcc
    cases hcc
    cases e : x == y with
    | true =>
      rw [e] at h
      cases h
      exact ⟨eq_of_beq e, rfl⟩
    | false =>
      rw [e] at h
      cases h
  · have hj : Nd[j]? = some y := hj
    have l1 := (List.getElem?_eq_some_iff.mp hj).1
    exact (List.getElem?_inj l1 nd).mp (hj.trans ha.symm)
/-- a lambda in its maker's heap, when the maker ends -/
theorem LamAt.dead {CXd : CXT} {P : Program} {w : World} {K : PySem.W.Frag} {mg : Str → Option Value} {base : Heap} {Nd : List Str} {qd : Str} {sd : Scope} {fd : Addr} {cdd : Value} {Ad : Around} {od : List Env} {s0 : Shared} {H0 H H2 Hd : Hp} {Ed : XK} {y : Str} {iy k : Nat} {c f c' C : Addr} {t : XK → TE} {σd : L2.St} {v : V}
    (L : LamAt (cxOf CXd P w K mg base Nd qd sd fd cdd Ad od s0 H0 Ed) k H f c' t) (lf : Left (cxOf CXd P w K mg base Nd qd sd fd cdd Ad od s0 H0 Ed) y iy c) (e : Ex H H2) (s : Ex Hd H2) (n : Hd c = none) (nt : ∀ a ps, Hd a ≠ some (.tbl ps)) (hl : σd.length = Nd.length) (hσ : ∀ j u, σd[j]? = some (some u) → j = iy ∧ u = v) (hc : H2 c = some (CellO c v))
    (hs : ∀ z, sd.names.lookup z = some .cell ∨ sd.names.lookup z = some .free → z = y)
    (ht : ∀ (H1 : Hp) (E : XK), Ex Hd H1 → (∀ H2, Ex H1 H2 → E (.ref C) none H2) → t E σd H1 (fun _ _ => False)) : DeadAt P w K mg base k H2 f C := by
  obtain ⟨pr, bd, sc, h1, h2, L, bnd, hb⟩ := L
  exact ⟨CXd, Nd, qd, sd, fd, cdd, Ad, od, s0, H0, Ed, y, iy, c, c', v, σd, pr, bd, sc, t, Hd, s, ⟨n, nt⟩, lf, hl, hσ, fun z hz hf => hs _ (L.free z hz hf), L, bnd, hb, e _ _ h1, e _ _ h2, hc, ht⟩
end Cot
namespace C_k44
open PySem PySem.Spec PyProof.Rows L2 Evl Cot RZ L2H
local macro_rules | `(tactic| walk_at "side") => `(tactic| first | decide | omega | (show (0 : Int) < _; omega) | (show (0 : Int) < _ ∧ _ < (1073741824 : Int); omega) | (exact Or.inr (by omega)) | (exact Or.inl (by omega)) | (show (0 : Int) ≤ _ ∧ _ ≤ (1000000 : Int) ∧ _; refine ⟨by decide, by decide, by decide⟩))
local macro_rules | `(tactic| walk_at "rv") => `(tactic| first
  | with_reducible exact rv_I0
  | ((with_reducible apply rv_I); walk_at "side")
  | ((with_reducible apply rv_eq); rfl)
  | ((with_reducible apply rv_ne); rfl)
  | ((with_reducible apply rv_ixL); (first | exact sq_of (by assumption) | exact sq_of upd_same); rfl)
  | with_reducible exact rv_isN)
local macro_rules | `(tactic| walk_at "ev") => `(tactic| first
  | ((with_reducible apply ev_var); rfl)
  | with_reducible exact ev_c
  | ((with_reducible apply ev_op); walk_at "ev"; walk_at "ev"; walk_at "rv")
  | ((with_reducible apply ev_un); walk_at "ev"; exact ru_neg)
  | ((with_reducible apply ev_chainB); walk_at "ev"; walk_at "ev"; walk_at "rv"; walk_at "ev"; walk_at "rv")
  | ((with_reducible apply ev_andB); walk_at "ev"; walk_at "ev")
  | ((with_reducible apply ev_orB); walk_at "ev"; walk_at "ev")
  | ((with_reducible apply ev_notV); walk_at "ev")
  | ((with_reducible apply ev_ifB); walk_at "et"; walk_at "ev"; walk_at "ev"))
local macro_rules | `(tactic| walk_at "ea") => `(tactic| first
  | with_reducible exact ea_nil
  | ((with_reducible apply ea_cons); walk_at "ev"; walk_at "ea"))
local macro_rules | `(tactic| walk_at "et") => `(tactic| first
  | ((with_reducible apply et_test); walk_at "ev")
  | ((with_reducible apply et_B); walk_at "ev")
  | ((with_reducible apply et_not); walk_at "et")
  | ((with_reducible apply et_andB); walk_at "et"; walk_at "et")
  | ((with_reducible apply et_orB); walk_at "et"; walk_at "et"))
local macro_rules | `(tactic| walk_at "kb") => `(tactic| first | exact kb_NoneType_bool | exact kb_NoneType_int | exact kb_NoneType_str | exact kb_NoneType_list | exact kb_NoneType_tuple | exact kb_bool_bool | exact kb_bool_int | exact kb_bool_str | exact kb_bool_list | exact kb_bool_tuple | exact kb_int_bool | exact kb_int_int | exact kb_int_str | exact kb_int_list | exact kb_int_tuple | exact kb_str_bool | exact kb_str_int | exact kb_str_str | exact kb_str_list | exact kb_str_tuple | exact kb_list_bool | exact kb_list_int | exact kb_list_str | exact kb_list_list | exact kb_list_tuple | exact kb_tuple_bool | exact kb_tuple_int | exact kb_tuple_str | exact kb_tuple_list | exact kb_tuple_tuple)
local macro_rules | `(tactic| walk_at "ed") => `(tactic| first
  | ((with_reducible apply ed_var); rfl; first | assumption | exact Dp.int _ | exact Dp.bl _ | exact Dp.str _ | exact Dp.non)
  | ((with_reducible apply ed_tup); walk_at "eda"; (simp only [List.length_cons, List.length_nil]; decide))
  | ((with_reducible apply ed_new); walk_at "en")
  | ((with_reducible apply ed_int); walk_at "ev")
  | ((with_reducible apply ed_bool); walk_at "ev")
  | ((with_reducible apply ed_str); walk_at "ev")
  | ((with_reducible apply ed_non); walk_at "ev"))
local macro_rules | `(tactic| walk_at "en") => `(tactic| first
  | ((with_reducible apply en_lst); walk_at "eda"; (simp only [List.length_cons, List.length_nil]; decide)))
local macro_rules | `(tactic| walk_at "eda") => `(tactic| first
  | with_reducible exact eda_nil
  | ((with_reducible apply eda_cons); walk_at "ed"; walk_at "eda"))
local macro_rules | `(tactic| walk_at "ev") => `(tactic| first
  | ((with_reducible apply ev_isi); walk_at "ed"; walk_at "kb")
  | ((with_reducible apply ev_isiT2); walk_at "ed"; walk_at "kb"; walk_at "kb")
  | ((with_reducible apply ev_eqD); walk_at "ed"; walk_at "ed"; rfl; rfl)
  | ((with_reducible apply ev_neD); walk_at "ed"; walk_at "ed"; rfl; rfl)
  | ((with_reducible apply ev_lenL); walk_at "ed")
  | ((with_reducible apply ev_lenT); walk_at "ed"))
def topS (i : Nat) : Stmt := PySem.Challenge.pw_cotide_k44_charts_refused_at_every_door.main.body.getD i (.Pass ⟨0, 0, 0, 0⟩)
abbrev s_is_clock : Stmt := topS 23
abbrev N_is_clock : List Str := ["clock"]
theorem sc_is_clock : FnScope N_is_clock ["clock"] (defScope s_is_clock) := ⟨rfl, rfl, rfl, by decide +kernel, rfl, by decide +kernel, by decide +kernel⟩
abbrev s_is_what : Stmt := topS 31
abbrev N_is_what : List Str := ["clock", "one"]
theorem sc_is_what : FnScope N_is_what ["clock", "one"] (defScope s_is_what) := ⟨rfl, rfl, rfl, by decide +kernel, rfl, by decide +kernel, by decide +kernel⟩
abbrev s_is_row : Stmt := topS 32
abbrev N_is_row : List Str := ["clock", "row", "wide", "one"]
theorem sc_is_row : FnScope N_is_row ["clock", "row", "wide"] (defScope s_is_row) := ⟨rfl, rfl, rfl, by decide +kernel, rfl, by decide +kernel, by decide +kernel⟩
abbrev s_is_chart : Stmt := topS 33
abbrev N_is_chart : List Str := ["chart", "clock", "rows", "wide", "row"]
theorem sc_is_chart : FnScope N_is_chart ["chart"] (defScope s_is_chart) := ⟨rfl, rfl, rfl, by decide +kernel, rfl, by decide +kernel, by decide +kernel⟩
abbrev s_need_chart : Stmt := topS 34
abbrev N_need_chart : List Str := ["chart"]
theorem sc_need_chart : FnScope N_need_chart ["chart"] (defScope s_need_chart) := ⟨rfl, rfl, rfl, by decide +kernel, rfl, by decide +kernel, by decide +kernel⟩
abbrev s_size : Stmt := topS 35
abbrev N_size : List Str := ["chart", "rows"]
theorem sc_size : FnScope N_size ["chart"] (defScope s_size) := ⟨rfl, rfl, rfl, by decide +kernel, rfl, by decide +kernel, by decide +kernel⟩
abbrev s_hour_at : Stmt := topS 36
abbrev N_hour_at : List Str := ["chart", "square", "high", "wide", "row", "column"]
theorem sc_hour_at : FnScope N_hour_at ["chart", "square"] (defScope s_hour_at) := ⟨rfl, rfl, rfl, by decide +kernel, rfl, by decide +kernel, by decide +kernel⟩
abbrev s_told_hours : Stmt := topS 37
abbrev N_told_hours : List Str := ["chart", "at", "row", "column", "one"]
theorem sc_told_hours : FnScope N_told_hours ["chart"] (defScope s_told_hours) := ⟨rfl, rfl, rfl, by decide +kernel, rfl, by decide +kernel, by decide +kernel⟩
abbrev s_told : Stmt := topS 38
abbrev N_told : List Str := ["chart"]
theorem sc_told : FnScope N_told ["chart"] (defScope s_told) := ⟨rfl, rfl, rfl, by decide +kernel, rfl, by decide +kernel, by decide +kernel⟩
abbrev s_sides : Stmt := topS 39
abbrev N_sides : List Str := ["chart", "squares", "known", "found", "row", "column", "other"]
theorem sc_sides : FnScope N_sides ["chart"] (defScope s_sides) := ⟨rfl, rfl, rfl, by decide +kernel, rfl, by decide +kernel, by decide +kernel⟩
abbrev s_told_neighbours : Stmt := topS 40
abbrev N_told_neighbours : List Str := ["chart", "beside", "square", "other"]
theorem sc_told_neighbours : FnScope N_told_neighbours ["chart"] (defScope s_told_neighbours) := ⟨rfl, rfl, rfl, by decide +kernel, rfl, by decide +kernel, by decide +kernel⟩
abbrev s_together : Stmt := topS 42
abbrev N_together : List Str := ["beside", "seen", "found", "place", "lot", "one"]
theorem sc_together : FnScope N_together ["beside"] (defScope s_together) := ⟨rfl, rfl, rfl, by decide +kernel, rfl, by decide +kernel, by decide +kernel⟩
abbrev s_seas : Stmt := topS 43
abbrev N_seas : List Str := ["chart"]
theorem sc_seas : FnScope N_seas ["chart"] (defScope s_seas) := ⟨rfl, rfl, rfl, by decide +kernel, rfl, by decide +kernel, by decide +kernel⟩
abbrev s_corners : Stmt := topS 46
abbrev N_corners : List Str := ["chart", "high", "wide", "row", "column"]
theorem sc_corners : FnScope N_corners ["chart"] (defScope s_corners) := ⟨rfl, rfl, rfl, by decide +kernel, rfl, by decide +kernel, by decide +kernel⟩
abbrev s_ways : Stmt := topS 48
abbrev N_ways : List Str := ["chart", "hours", "every", "beside", "corner", "square", "other", "beyond", "place"]
theorem sc_ways : FnScope N_ways ["chart"] (defScope s_ways) := ⟨rfl, rfl, rfl, by decide +kernel, rfl, by decide +kernel, by decide +kernel⟩
abbrev s_eye_corners : Stmt := topS 49
abbrev N_eye_corners : List Str := ["chart"]
theorem sc_eye_corners : FnScope N_eye_corners ["chart"] (defScope s_eye_corners) := ⟨rfl, rfl, rfl, by decide +kernel, rfl, by decide +kernel, by decide +kernel⟩
abbrev s_eyes : Stmt := topS 51
abbrev N_eyes : List Str := ["chart", "hours", "clock", "found", "some", "total", "corner"]
theorem sc_eyes : FnScope N_eyes ["chart"] (defScope s_eyes) := ⟨rfl, rfl, rfl, by decide +kernel, rfl, by decide +kernel, by decide +kernel⟩
abbrev s_knots : Stmt := topS 52
abbrev N_knots : List Str := ["chart", "some", "count"]
theorem sc_knots : FnScope N_knots ["chart"] (defScope s_knots) := ⟨rfl, rfl, rfl, by decide +kernel, rfl, by decide +kernel, by decide +kernel⟩
abbrev s_eye_at : Stmt := topS 53
abbrev N_eye_at : List Str := ["chart", "corner", "at", "some"]
theorem sc_eye_at : FnScope N_eye_at ["chart", "corner"] (defScope s_eye_at) := ⟨rfl, rfl, rfl, by decide +kernel, rfl, by decide +kernel, by decide +kernel⟩
abbrev s_whole_count : Stmt := topS 54
abbrev N_whole_count : List Str := ["chart", "some", "count"]
theorem sc_whole_count : FnScope N_whole_count ["chart"] (defScope s_whole_count) := ⟨rfl, rfl, rfl, by decide +kernel, rfl, by decide +kernel, by decide +kernel⟩
abbrev s_even : Stmt := topS 56
abbrev N_even : List Str := ["chart"]
theorem sc_even : FnScope N_even ["chart"] (defScope s_even) := ⟨rfl, rfl, rfl, by decide +kernel, rfl, by decide +kernel, by decide +kernel⟩
abbrev s_side_steps : Stmt := topS 57
abbrev N_side_steps : List Str := ["chart", "hours", "square", "other"]
theorem sc_side_steps : FnScope N_side_steps ["chart"] (defScope s_side_steps) := ⟨rfl, rfl, rfl, by decide +kernel, rfl, by decide +kernel, by decide +kernel⟩
abbrev s_ages : Stmt := topS 61
abbrev N_ages : List Str := ["chart", "many"]
theorem sc_ages : FnScope N_ages ["chart"] (defScope s_ages) := ⟨rfl, rfl, rfl, by decide +kernel, rfl, by decide +kernel, by decide +kernel⟩
abbrev s_are_ages : Stmt := topS 63
abbrev N_are_ages : List Str := ["chart", "rows", "clock", "known", "row", "at", "column", "one"]
theorem sc_are_ages : FnScope N_are_ages ["chart", "rows"] (defScope s_are_ages) := ⟨rfl, rfl, rfl, by decide +kernel, rfl, by decide +kernel, by decide +kernel⟩
abbrev s_off_steps : Stmt := topS 64
abbrev N_off_steps : List Str := ["chart", "rows", "steps", "square", "other"]
theorem sc_off_steps : FnScope N_off_steps ["chart", "rows"] (defScope s_off_steps) := ⟨rfl, rfl, rfl, by decide +kernel, rfl, by decide +kernel, by decide +kernel⟩
abbrev s_is_laid : Stmt := topS 65
abbrev N_is_laid : List Str := ["chart", "rows"]
theorem sc_is_laid : FnScope N_is_laid ["chart", "rows"] (defScope s_is_laid) := ⟨rfl, rfl, rfl, by decide +kernel, rfl, by decide +kernel, by decide +kernel⟩
abbrev s_weight : Stmt := topS 68
abbrev N_weight : List Str := ["breaks", "square", "other", "tides"]
theorem sc_weight : FnScope N_weight ["breaks"] (defScope s_weight) := ⟨rfl, rfl, rfl, by decide +kernel, rfl, by decide +kernel, by decide +kernel⟩
abbrev s_breaks_of : Stmt := topS 69
abbrev N_breaks_of : List Str := ["chart", "rows", "off", "square", "other"]
theorem sc_breaks_of : FnScope N_breaks_of ["chart", "rows"] (defScope s_breaks_of) := ⟨rfl, rfl, rfl, by decide +kernel, rfl, by decide +kernel, by decide +kernel⟩
abbrev s_lays : Stmt := topS 70
abbrev N_lays : List Str := ["chart", "breaks", "by", "square", "other", "tides", "rows"]
theorem sc_lays : FnScope N_lays ["chart", "breaks"] (defScope s_lays) := ⟨rfl, rfl, rfl, by decide +kernel, rfl, by decide +kernel, by decide +kernel⟩
abbrev s_parted : Stmt := topS 71
abbrev N_parted : List Str := ["chart", "place", "found", "square", "other", "row", "column", "beyond", "one", "two", "at", "some", "corner"]
theorem sc_parted : FnScope N_parted ["chart"] (defScope s_parted) := ⟨rfl, rfl, rfl, by decide +kernel, rfl, by decide +kernel, by decide +kernel⟩
abbrev s_least_tides : Stmt := topS 74
abbrev N_least_tides : List Str := ["chart", "pairs", "tides", "at", "some", "count", "start", "end", "again", "pair"]
theorem sc_least_tides : FnScope N_least_tides ["chart", "pairs"] (defScope s_least_tides) := ⟨rfl, rfl, rfl, by decide +kernel, rfl, by decide +kernel, by decide +kernel⟩
abbrev s_least_breaks : Stmt := topS 75
abbrev N_least_breaks : List Str := ["chart", "tides", "square", "other", "many"]
theorem sc_least_breaks : FnScope N_least_breaks ["chart"] (defScope s_least_breaks) := ⟨rfl, rfl, rfl, by decide +kernel, rfl, by decide +kernel, by decide +kernel⟩
abbrev s_least_weight : Stmt := topS 76
abbrev N_least_weight : List Str := ["chart"]
theorem sc_least_weight : FnScope N_least_weight ["chart"] (defScope s_least_weight) := ⟨rfl, rfl, rfl, by decide +kernel, rfl, by decide +kernel, by decide +kernel⟩
abbrev s_prices : Stmt := topS 77
abbrev N_prices : List Str := ["chart", "pairs", "costs", "moves", "at"]
theorem sc_prices : FnScope N_prices ["chart"] (defScope s_prices) := ⟨rfl, rfl, rfl, by decide +kernel, rfl, by decide +kernel, by decide +kernel⟩
abbrev s_need_prices : Stmt := topS 78
abbrev N_need_prices : List Str := ["chart", "some"]
theorem sc_need_prices : FnScope N_need_prices ["chart", "some"] (defScope s_need_prices) := ⟨rfl, rfl, rfl, by decide +kernel, rfl, by decide +kernel, by decide +kernel⟩
abbrev s_hold : Stmt := topS 79
abbrev N_hold : List Str := ["chart", "some", "known", "one", "other"]
theorem sc_hold : FnScope N_hold ["chart", "some"] (defScope s_hold) := ⟨rfl, rfl, rfl, by decide +kernel, rfl, by decide +kernel, by decide +kernel⟩
abbrev s_worth : Stmt := topS 80
abbrev N_worth : List Str := ["chart", "some", "corners", "count", "price"]
theorem sc_worth : FnScope N_worth ["chart", "some"] (defScope s_worth) := ⟨rfl, rfl, rfl, by decide +kernel, rfl, by decide +kernel, by decide +kernel⟩
abbrev s_need_within : Stmt := topS 82
abbrev N_need_within : List Str := ["chart", "top", "left", "high", "wide", "rows", "columns"]
theorem sc_need_within : FnScope N_need_within ["chart", "top", "left", "high", "wide"] (defScope s_need_within) := ⟨rfl, rfl, rfl, by decide +kernel, rfl, by decide +kernel, by decide +kernel⟩
abbrev s_need_fit : Stmt := topS 83
abbrev N_need_fit : List Str := ["chart", "patch", "top", "left", "high", "wide"]
theorem sc_need_fit : FnScope N_need_fit ["chart", "patch", "top", "left"] (defScope s_need_fit) := ⟨rfl, rfl, rfl, by decide +kernel, rfl, by decide +kernel, by decide +kernel⟩
abbrev s_cut : Stmt := topS 84
abbrev N_cut : List Str := ["chart", "top", "left", "rows", "columns", "row"]
theorem sc_cut : FnScope N_cut ["chart", "top", "left", "rows", "columns"] (defScope s_cut) := ⟨rfl, rfl, rfl, by decide +kernel, rfl, by decide +kernel, by decide +kernel⟩
abbrev s_turned : Stmt := topS 85
abbrev N_turned : List Str := ["chart", "wide", "column", "row"]
theorem sc_turned : FnScope N_turned ["chart"] (defScope s_turned) := ⟨rfl, rfl, rfl, by decide +kernel, rfl, by decide +kernel, by decide +kernel⟩
abbrev s_mirrored : Stmt := topS 86
abbrev N_mirrored : List Str := ["chart", "row"]
theorem sc_mirrored : FnScope N_mirrored ["chart"] (defScope s_mirrored) := ⟨rfl, rfl, rfl, by decide +kernel, rfl, by decide +kernel, by decide +kernel⟩
abbrev s_later : Stmt := topS 87
abbrev N_later : List Str := ["chart", "by", "clock", "rows", "row", "one"]
theorem sc_later : FnScope N_later ["chart", "by"] (defScope s_later) := ⟨rfl, rfl, rfl, by decide +kernel, rfl, by decide +kernel, by decide +kernel⟩
abbrev s_laid_in : Stmt := topS 88
abbrev N_laid_in : List Str := ["chart", "patch", "top", "left", "rows", "at", "row"]
theorem sc_laid_in : FnScope N_laid_in ["chart", "patch", "top", "left"] (defScope s_laid_in) := ⟨rfl, rfl, rfl, by decide +kernel, rfl, by decide +kernel, by decide +kernel⟩
abbrev s_near_rooms : Stmt := topS 94
abbrev N_near_rooms : List Str := ["chart", "hours", "beside", "found", "square", "steps", "other"]
theorem sc_near_rooms : FnScope N_near_rooms ["chart"] (defScope s_near_rooms) := ⟨rfl, rfl, rfl, by decide +kernel, rfl, by decide +kernel, by decide +kernel⟩
abbrev s_settled : Stmt := topS 97
abbrev N_settled : List Str := ["chart", "rooms", "tides", "ahead", "last", "again", "square"]
theorem sc_settled : FnScope N_settled ["chart"] (defScope s_settled) := ⟨rfl, rfl, rfl, by decide +kernel, rfl, by decide +kernel, by decide +kernel⟩
abbrev s_bar : Stmt := topS 98
abbrev N_bar : List Str := ["chart", "tides", "found"]
theorem sc_bar : FnScope N_bar ["chart"] (defScope s_bar) := ⟨rfl, rfl, rfl, by decide +kernel, rfl, by decide +kernel, by decide +kernel⟩
abbrev s_can_fill : Stmt := topS 99
abbrev N_can_fill : List Str := ["chart"]
theorem sc_can_fill : FnScope N_can_fill ["chart"] (defScope s_can_fill) := ⟨rfl, rfl, rfl, by decide +kernel, rfl, by decide +kernel, by decide +kernel⟩
abbrev s_fill : Stmt := topS 101
abbrev N_fill : List Str := ["chart", "tides", "found", "clock", "rows", "known", "filled", "at", "row", "column", "one"]
theorem sc_fill : FnScope N_fill ["chart"] (defScope s_fill) := ⟨rfl, rfl, rfl, by decide +kernel, rfl, by decide +kernel, by decide +kernel⟩
abbrev s_is_bar : Stmt := topS 102
abbrev N_is_bar : List Str := ["chart", "ring", "hours", "beside", "total", "at", "square", "before", "steps"]
theorem sc_is_bar : FnScope N_is_bar ["chart", "ring"] (defScope s_is_bar) := ⟨rfl, rfl, rfl, by decide +kernel, rfl, by decide +kernel, by decide +kernel⟩
abbrev s_may_be : Stmt := topS 103
abbrev N_may_be : List Str := ["chart", "square", "one", "row", "column", "clock", "hour"]
theorem sc_may_be : FnScope N_may_be ["chart", "square"] (defScope s_may_be) := ⟨rfl, rfl, rfl, by decide +kernel, rfl, by decide +kernel, by decide +kernel⟩
abbrev s_is_ring : Stmt := topS 106
abbrev N_is_ring : List Str := ["chart", "ring", "beside", "at", "square"]
theorem sc_is_ring : FnScope N_is_ring ["chart", "ring"] (defScope s_is_ring) := ⟨rfl, rfl, rfl, by decide +kernel, rfl, by decide +kernel, by decide +kernel⟩
abbrev s_need_ring : Stmt := topS 107
abbrev N_need_ring : List Str := ["chart", "ring"]
theorem sc_need_ring : FnScope N_need_ring ["chart", "ring"] (defScope s_need_ring) := ⟨rfl, rfl, rfl, by decide +kernel, rfl, by decide +kernel, by decide +kernel⟩
abbrev s_ring_count : Stmt := topS 108
abbrev N_ring_count : List Str := ["chart", "ring", "hours", "square"]
theorem sc_ring_count : FnScope N_ring_count ["chart", "ring"] (defScope s_ring_count) := ⟨rfl, rfl, rfl, by decide +kernel, rfl, by decide +kernel, by decide +kernel⟩
abbrev s_joined : Stmt := topS 110
abbrev N_joined : List Str := ["chart", "ring", "other", "shared", "square"]
theorem sc_joined : FnScope N_joined ["chart", "ring", "other"] (defScope s_joined) := ⟨rfl, rfl, rfl, by decide +kernel, rfl, by decide +kernel, by decide +kernel⟩
abbrev s_law_box : Stmt := topS 112
abbrev N_law_box : List Str := ["_law_script", "_law_seed", "_law_cell"]
theorem sc_law_box : FnScope N_law_box ["_law_script"] (defScope s_law_box) := ⟨rfl, rfl, rfl, by decide +kernel, rfl, by decide +kernel, by decide +kernel⟩
abbrev s_law_mixed : Stmt := topS 113
abbrev N_law_mixed : List Str := ["_law_number_here", "_law_turn", "_law_base", "_law_more"]
theorem sc_law_mixed : FnScope N_law_mixed ["_law_number_here", "_law_turn"] (defScope s_law_mixed) := ⟨rfl, rfl, rfl, by decide +kernel, rfl, by decide +kernel, by decide +kernel⟩
abbrev s_law_take : Stmt := topS 114
abbrev N_law_take : List Str := ["_law_box_here", "_law_many", "_law_rest", "_law_cell"]
theorem sc_law_take : FnScope N_law_take ["_law_box_here", "_law_many"] (defScope s_law_take) := ⟨rfl, rfl, rfl, by decide +kernel, rfl, by decide +kernel, by decide +kernel⟩
abbrev s_law_clock : Stmt := topS 115
abbrev N_law_clock : List Str := ["_law_box_here"]
theorem sc_law_clock : FnScope N_law_clock ["_law_box_here"] (defScope s_law_clock) := ⟨rfl, rfl, rfl, by decide +kernel, rfl, by decide +kernel, by decide +kernel⟩
abbrev s_law_number : Stmt := topS 116
abbrev N_law_number : List Str := ["_law_box_here"]
theorem sc_law_number : FnScope N_law_number ["_law_box_here"] (defScope s_law_number) := ⟨rfl, rfl, rfl, by decide +kernel, rfl, by decide +kernel, by decide +kernel⟩
abbrev s_law_square : Stmt := topS 117
abbrev N_law_square : List Str := ["_law_box_here", "_law_clock_here", "_law_land", "_law_untold", "_law_calm", "_law_old", "_law_way"]
theorem sc_law_square : FnScope N_law_square ["_law_box_here", "_law_clock_here", "_law_land", "_law_untold", "_law_calm", "_law_old"] (defScope s_law_square) := ⟨rfl, rfl, rfl, by decide +kernel, rfl, by decide +kernel, by decide +kernel⟩
abbrev s_law_near_hour : Stmt := topS 118
abbrev N_law_near_hour : List Str := ["_law_rows", "_law_line"]
theorem sc_law_near_hour : FnScope N_law_near_hour ["_law_rows", "_law_line"] (defScope s_law_near_hour) := ⟨rfl, rfl, rfl, by decide +kernel, rfl, by decide +kernel, by decide +kernel⟩
abbrev s_law_chart : Stmt := topS 119
abbrev N_law_chart : List Str := ["_law_box_here", "_law_most", "_law_untold", "_law_clock_here", "_law_high", "_law_wide", "_law_land", "_law_calm", "_law_rows", "_law_row", "_law_line", "_law_column"]
theorem sc_law_chart : FnScope N_law_chart ["_law_box_here", "_law_most", "_law_untold"] (defScope s_law_chart) := ⟨rfl, rfl, rfl, by decide +kernel, rfl, by decide +kernel, by decide +kernel⟩
abbrev s_law_word : Stmt := topS 120
abbrev N_law_word : List Str := ["_law_ask", "_law_e"]
theorem sc_law_word : FnScope N_law_word ["_law_ask"] (defScope s_law_word) := ⟨rfl, rfl, rfl, by decide +kernel, rfl, by decide +kernel, by decide +kernel⟩
abbrev s_law_kind : Stmt := topS 121
abbrev N_law_kind : List Str := ["_law_e", "_law_rows", "_law_name", "_law_so"]
theorem sc_law_kind : FnScope N_law_kind ["_law_e"] (defScope s_law_kind) := ⟨rfl, rfl, rfl, by decide +kernel, rfl, by decide +kernel, by decide +kernel⟩
abbrev s_law_bent_chart : Stmt := topS 122
abbrev N_law_bent_chart : List Str := ["_law_box_here", "_law_chart_here", "_law_clock_here", "_law_rows", "_law_at", "_law_column", "_law_way", "_law_odd", "_law_line"]
theorem sc_law_bent_chart : FnScope N_law_bent_chart ["_law_box_here", "_law_chart_here"] (defScope s_law_bent_chart) := ⟨rfl, rfl, rfl, by decide +kernel, rfl, by decide +kernel, by decide +kernel⟩
abbrev s_law_is_chart : Stmt := topS 123
abbrev N_law_is_chart : List Str := ["_law_chart_here", "_law_clock_here", "_law_rows", "_law_line", "_law_one"]
theorem sc_law_is_chart : FnScope N_law_is_chart ["_law_chart_here"] (defScope s_law_is_chart) := ⟨rfl, rfl, rfl, by decide +kernel, rfl, by decide +kernel, by decide +kernel⟩
abbrev s_law_doors_one : Stmt := topS 124
abbrev N_law_doors_one : List Str := ["_law_chart_here", "_law_asks"]
theorem sc_law_doors_one : FnScope N_law_doors_one ["_law_chart_here"] (defScope s_law_doors_one) := ⟨rfl, rfl, rfl, by decide +kernel, rfl, by decide +kernel, by decide +kernel⟩
abbrev s_law_doors_two : Stmt := topS 125
abbrev N_law_doors_two : List Str := ["_law_chart_here", "_law_asks"]
theorem sc_law_doors_two : FnScope N_law_doors_two ["_law_chart_here"] (defScope s_law_doors_two) := ⟨rfl, rfl, rfl, by decide +kernel, rfl, by decide +kernel, by decide +kernel⟩
abbrev s_law : Stmt := topS 126
abbrev N_law : List Str := ["_law_script", "_law_box_here", "_law_chart_here", "_law_words", "_law_ask"]
theorem sc_law : FnScope N_law ["_law_script"] (defScope s_law) := ⟨rfl, rfl, rfl, by decide +kernel, rfl, by decide +kernel, by decide +kernel⟩
abbrev s_Knotted_init : Stmt := clsDef (topS 18) 0
structure Tx (K : PySem.W.Frag) (mg : Str → Option Value) (base : Heap) where
  a_is_clock : Addr
  d_is_clock : FuncData
  F_is_clock : Fun K "is_clock" "is_clock" s_is_clock a_is_clock d_is_clock
  g_is_clock : mg "is_clock" = some (.ref a_is_clock)
  b_is_clock : Binds K d_is_clock ["clock"] []
  a_is_what : Addr
  d_is_what : FuncData
  F_is_what : Fun K "is_what" "is_what" s_is_what a_is_what d_is_what
  g_is_what : mg "is_what" = some (.ref a_is_what)
  b_is_what : Binds K d_is_what ["clock", "one"] []
  a_is_row : Addr
  d_is_row : FuncData
  F_is_row : Fun K "is_row" "is_row" s_is_row a_is_row d_is_row
  g_is_row : mg "is_row" = some (.ref a_is_row)
  b_is_row : Binds K d_is_row ["clock", "row", "wide"] []
  a_is_chart : Addr
  d_is_chart : FuncData
  F_is_chart : Fun K "is_chart" "is_chart" s_is_chart a_is_chart d_is_chart
  g_is_chart : mg "is_chart" = some (.ref a_is_chart)
  b_is_chart : Binds K d_is_chart ["chart"] []
  a_need_chart : Addr
  d_need_chart : FuncData
  F_need_chart : Fun K "need_chart" "need_chart" s_need_chart a_need_chart d_need_chart
  g_need_chart : mg "need_chart" = some (.ref a_need_chart)
  b_need_chart : Binds K d_need_chart ["chart"] []
  a_size : Addr
  d_size : FuncData
  F_size : Fun K "size" "size" s_size a_size d_size
  g_size : mg "size" = some (.ref a_size)
  b_size : Binds K d_size ["chart"] []
  a_hour_at : Addr
  d_hour_at : FuncData
  F_hour_at : Fun K "hour_at" "hour_at" s_hour_at a_hour_at d_hour_at
  g_hour_at : mg "hour_at" = some (.ref a_hour_at)
  b_hour_at : Binds K d_hour_at ["chart", "square"] []
  a_told_hours : Addr
  d_told_hours : FuncData
  F_told_hours : Fun K "told_hours" "told_hours" s_told_hours a_told_hours d_told_hours
  g_told_hours : mg "told_hours" = some (.ref a_told_hours)
  b_told_hours : Binds K d_told_hours ["chart"] []
  a_told : Addr
  d_told : FuncData
  F_told : Fun K "told" "told" s_told a_told d_told
  g_told : mg "told" = some (.ref a_told)
  b_told : Binds K d_told ["chart"] []
  a_sides : Addr
  d_sides : FuncData
  F_sides : Fun K "sides" "sides" s_sides a_sides d_sides
  g_sides : mg "sides" = some (.ref a_sides)
  b_sides : Binds K d_sides ["chart"] []
  a_told_neighbours : Addr
  d_told_neighbours : FuncData
  F_told_neighbours : Fun K "told_neighbours" "told_neighbours" s_told_neighbours a_told_neighbours d_told_neighbours
  g_told_neighbours : mg "told_neighbours" = some (.ref a_told_neighbours)
  b_told_neighbours : Binds K d_told_neighbours ["chart"] []
  a_together : Addr
  d_together : FuncData
  F_together : Fun K "together" "together" s_together a_together d_together
  g_together : mg "together" = some (.ref a_together)
  b_together : Binds K d_together ["beside"] []
  a_seas : Addr
  d_seas : FuncData
  F_seas : Fun K "seas" "seas" s_seas a_seas d_seas
  g_seas : mg "seas" = some (.ref a_seas)
  b_seas : Binds K d_seas ["chart"] []
  a_corners : Addr
  d_corners : FuncData
  F_corners : Fun K "corners" "corners" s_corners a_corners d_corners
  g_corners : mg "corners" = some (.ref a_corners)
  b_corners : Binds K d_corners ["chart"] []
  a_ways : Addr
  d_ways : FuncData
  F_ways : Fun K "ways" "ways" s_ways a_ways d_ways
  g_ways : mg "ways" = some (.ref a_ways)
  b_ways : Binds K d_ways ["chart"] []
  a_eye_corners : Addr
  d_eye_corners : FuncData
  F_eye_corners : Fun K "eye_corners" "eye_corners" s_eye_corners a_eye_corners d_eye_corners
  g_eye_corners : mg "eye_corners" = some (.ref a_eye_corners)
  b_eye_corners : Binds K d_eye_corners ["chart"] []
  a_eyes : Addr
  d_eyes : FuncData
  F_eyes : Fun K "eyes" "eyes" s_eyes a_eyes d_eyes
  g_eyes : mg "eyes" = some (.ref a_eyes)
  b_eyes : Binds K d_eyes ["chart"] []
  a_knots : Addr
  d_knots : FuncData
  F_knots : Fun K "knots" "knots" s_knots a_knots d_knots
  g_knots : mg "knots" = some (.ref a_knots)
  b_knots : Binds K d_knots ["chart"] []
  a_eye_at : Addr
  d_eye_at : FuncData
  F_eye_at : Fun K "eye_at" "eye_at" s_eye_at a_eye_at d_eye_at
  g_eye_at : mg "eye_at" = some (.ref a_eye_at)
  b_eye_at : Binds K d_eye_at ["chart", "corner"] []
  a_whole_count : Addr
  d_whole_count : FuncData
  F_whole_count : Fun K "whole_count" "whole_count" s_whole_count a_whole_count d_whole_count
  g_whole_count : mg "whole_count" = some (.ref a_whole_count)
  b_whole_count : Binds K d_whole_count ["chart"] []
  a_even : Addr
  d_even : FuncData
  F_even : Fun K "even" "even" s_even a_even d_even
  g_even : mg "even" = some (.ref a_even)
  b_even : Binds K d_even ["chart"] []
  a_side_steps : Addr
  d_side_steps : FuncData
  F_side_steps : Fun K "side_steps" "side_steps" s_side_steps a_side_steps d_side_steps
  g_side_steps : mg "side_steps" = some (.ref a_side_steps)
  b_side_steps : Binds K d_side_steps ["chart"] []
  a_ages : Addr
  d_ages : FuncData
  F_ages : Fun K "ages" "ages" s_ages a_ages d_ages
  g_ages : mg "ages" = some (.ref a_ages)
  b_ages : Binds K d_ages ["chart"] []
  a_are_ages : Addr
  d_are_ages : FuncData
  F_are_ages : Fun K "are_ages" "are_ages" s_are_ages a_are_ages d_are_ages
  g_are_ages : mg "are_ages" = some (.ref a_are_ages)
  b_are_ages : Binds K d_are_ages ["chart", "rows"] []
  a_off_steps : Addr
  d_off_steps : FuncData
  F_off_steps : Fun K "off_steps" "off_steps" s_off_steps a_off_steps d_off_steps
  g_off_steps : mg "off_steps" = some (.ref a_off_steps)
  b_off_steps : Binds K d_off_steps ["chart", "rows"] []
  a_is_laid : Addr
  d_is_laid : FuncData
  F_is_laid : Fun K "is_laid" "is_laid" s_is_laid a_is_laid d_is_laid
  g_is_laid : mg "is_laid" = some (.ref a_is_laid)
  b_is_laid : Binds K d_is_laid ["chart", "rows"] []
  a_weight : Addr
  d_weight : FuncData
  F_weight : Fun K "weight" "weight" s_weight a_weight d_weight
  g_weight : mg "weight" = some (.ref a_weight)
  b_weight : Binds K d_weight ["breaks"] []
  a_breaks_of : Addr
  d_breaks_of : FuncData
  F_breaks_of : Fun K "breaks_of" "breaks_of" s_breaks_of a_breaks_of d_breaks_of
  g_breaks_of : mg "breaks_of" = some (.ref a_breaks_of)
  b_breaks_of : Binds K d_breaks_of ["chart", "rows"] []
  a_lays : Addr
  d_lays : FuncData
  F_lays : Fun K "lays" "lays" s_lays a_lays d_lays
  g_lays : mg "lays" = some (.ref a_lays)
  b_lays : Binds K d_lays ["chart", "breaks"] []
  a_parted : Addr
  d_parted : FuncData
  F_parted : Fun K "parted" "parted" s_parted a_parted d_parted
  g_parted : mg "parted" = some (.ref a_parted)
  b_parted : Binds K d_parted ["chart"] []
  a_least_tides : Addr
  d_least_tides : FuncData
  F_least_tides : Fun K "least_tides" "least_tides" s_least_tides a_least_tides d_least_tides
  g_least_tides : mg "least_tides" = some (.ref a_least_tides)
  b_least_tides : Binds K d_least_tides ["chart", "pairs"] []
  a_least_breaks : Addr
  d_least_breaks : FuncData
  F_least_breaks : Fun K "least_breaks" "least_breaks" s_least_breaks a_least_breaks d_least_breaks
  g_least_breaks : mg "least_breaks" = some (.ref a_least_breaks)
  b_least_breaks : Binds K d_least_breaks ["chart"] []
  a_least_weight : Addr
  d_least_weight : FuncData
  F_least_weight : Fun K "least_weight" "least_weight" s_least_weight a_least_weight d_least_weight
  g_least_weight : mg "least_weight" = some (.ref a_least_weight)
  b_least_weight : Binds K d_least_weight ["chart"] []
  a_prices : Addr
  d_prices : FuncData
  F_prices : Fun K "prices" "prices" s_prices a_prices d_prices
  g_prices : mg "prices" = some (.ref a_prices)
  b_prices : Binds K d_prices ["chart"] []
  a_need_prices : Addr
  d_need_prices : FuncData
  F_need_prices : Fun K "need_prices" "need_prices" s_need_prices a_need_prices d_need_prices
  g_need_prices : mg "need_prices" = some (.ref a_need_prices)
  b_need_prices : Binds K d_need_prices ["chart", "some"] []
  a_hold : Addr
  d_hold : FuncData
  F_hold : Fun K "hold" "hold" s_hold a_hold d_hold
  g_hold : mg "hold" = some (.ref a_hold)
  b_hold : Binds K d_hold ["chart", "some"] []
  a_worth : Addr
  d_worth : FuncData
  F_worth : Fun K "worth" "worth" s_worth a_worth d_worth
  g_worth : mg "worth" = some (.ref a_worth)
  b_worth : Binds K d_worth ["chart", "some"] []
  a_need_within : Addr
  d_need_within : FuncData
  F_need_within : Fun K "need_within" "need_within" s_need_within a_need_within d_need_within
  g_need_within : mg "need_within" = some (.ref a_need_within)
  b_need_within : Binds K d_need_within ["chart", "top", "left", "high", "wide"] []
  a_need_fit : Addr
  d_need_fit : FuncData
  F_need_fit : Fun K "need_fit" "need_fit" s_need_fit a_need_fit d_need_fit
  g_need_fit : mg "need_fit" = some (.ref a_need_fit)
  b_need_fit : Binds K d_need_fit ["chart", "patch", "top", "left"] []
  a_cut : Addr
  d_cut : FuncData
  F_cut : Fun K "cut" "cut" s_cut a_cut d_cut
  g_cut : mg "cut" = some (.ref a_cut)
  b_cut : Binds K d_cut ["chart", "top", "left", "rows", "columns"] []
  a_turned : Addr
  d_turned : FuncData
  F_turned : Fun K "turned" "turned" s_turned a_turned d_turned
  g_turned : mg "turned" = some (.ref a_turned)
  b_turned : Binds K d_turned ["chart"] []
  a_mirrored : Addr
  d_mirrored : FuncData
  F_mirrored : Fun K "mirrored" "mirrored" s_mirrored a_mirrored d_mirrored
  g_mirrored : mg "mirrored" = some (.ref a_mirrored)
  b_mirrored : Binds K d_mirrored ["chart"] []
  a_later : Addr
  d_later : FuncData
  F_later : FunD K "later" "later" (defArgs s_later) (defBody s_later) (defScope s_later) [.int (1)] [] a_later d_later
  g_later : mg "later" = some (.ref a_later)
  b_later : Binds K d_later ["chart", "by"] []
  ds_later_1 : List Value
  vd_later_1 : Vals [.int (1)] ds_later_1
  bd_later_1 : Binds K d_later ["chart", "by"] ds_later_1
  a_laid_in : Addr
  d_laid_in : FuncData
  F_laid_in : FunD K "laid_in" "laid_in" (defArgs s_laid_in) (defBody s_laid_in) (defScope s_laid_in) [.int (0), .int (0)] [] a_laid_in d_laid_in
  g_laid_in : mg "laid_in" = some (.ref a_laid_in)
  b_laid_in : Binds K d_laid_in ["chart", "patch", "top", "left"] []
  a_near_rooms : Addr
  d_near_rooms : FuncData
  F_near_rooms : Fun K "near_rooms" "near_rooms" s_near_rooms a_near_rooms d_near_rooms
  g_near_rooms : mg "near_rooms" = some (.ref a_near_rooms)
  b_near_rooms : Binds K d_near_rooms ["chart"] []
  a_settled : Addr
  d_settled : FuncData
  F_settled : Fun K "settled" "settled" s_settled a_settled d_settled
  g_settled : mg "settled" = some (.ref a_settled)
  b_settled : Binds K d_settled ["chart"] []
  a_bar : Addr
  d_bar : FuncData
  F_bar : Fun K "bar" "bar" s_bar a_bar d_bar
  g_bar : mg "bar" = some (.ref a_bar)
  b_bar : Binds K d_bar ["chart"] []
  a_can_fill : Addr
  d_can_fill : FuncData
  F_can_fill : Fun K "can_fill" "can_fill" s_can_fill a_can_fill d_can_fill
  g_can_fill : mg "can_fill" = some (.ref a_can_fill)
  b_can_fill : Binds K d_can_fill ["chart"] []
  a_fill : Addr
  d_fill : FuncData
  F_fill : Fun K "fill" "fill" s_fill a_fill d_fill
  g_fill : mg "fill" = some (.ref a_fill)
  b_fill : Binds K d_fill ["chart"] []
  a_is_bar : Addr
  d_is_bar : FuncData
  F_is_bar : Fun K "is_bar" "is_bar" s_is_bar a_is_bar d_is_bar
  g_is_bar : mg "is_bar" = some (.ref a_is_bar)
  b_is_bar : Binds K d_is_bar ["chart", "ring"] []
  a_may_be : Addr
  d_may_be : FuncData
  F_may_be : Fun K "may_be" "may_be" s_may_be a_may_be d_may_be
  g_may_be : mg "may_be" = some (.ref a_may_be)
  b_may_be : Binds K d_may_be ["chart", "square"] []
  a_is_ring : Addr
  d_is_ring : FuncData
  F_is_ring : Fun K "is_ring" "is_ring" s_is_ring a_is_ring d_is_ring
  g_is_ring : mg "is_ring" = some (.ref a_is_ring)
  b_is_ring : Binds K d_is_ring ["chart", "ring"] []
  a_need_ring : Addr
  d_need_ring : FuncData
  F_need_ring : Fun K "need_ring" "need_ring" s_need_ring a_need_ring d_need_ring
  g_need_ring : mg "need_ring" = some (.ref a_need_ring)
  b_need_ring : Binds K d_need_ring ["chart", "ring"] []
  a_ring_count : Addr
  d_ring_count : FuncData
  F_ring_count : Fun K "ring_count" "ring_count" s_ring_count a_ring_count d_ring_count
  g_ring_count : mg "ring_count" = some (.ref a_ring_count)
  b_ring_count : Binds K d_ring_count ["chart", "ring"] []
  a_joined : Addr
  d_joined : FuncData
  F_joined : Fun K "joined" "joined" s_joined a_joined d_joined
  g_joined : mg "joined" = some (.ref a_joined)
  b_joined : Binds K d_joined ["chart", "ring", "other"] []
  a_law_box : Addr
  d_law_box : FuncData
  F_law_box : Fun K "_law_box" "_law_box" s_law_box a_law_box d_law_box
  g_law_box : mg "_law_box" = some (.ref a_law_box)
  b_law_box : Binds K d_law_box ["_law_script"] []
  a_law_mixed : Addr
  d_law_mixed : FuncData
  F_law_mixed : Fun K "_law_mixed" "_law_mixed" s_law_mixed a_law_mixed d_law_mixed
  g_law_mixed : mg "_law_mixed" = some (.ref a_law_mixed)
  b_law_mixed : Binds K d_law_mixed ["_law_number_here", "_law_turn"] []
  a_law_take : Addr
  d_law_take : FuncData
  F_law_take : Fun K "_law_take" "_law_take" s_law_take a_law_take d_law_take
  g_law_take : mg "_law_take" = some (.ref a_law_take)
  b_law_take : Binds K d_law_take ["_law_box_here", "_law_many"] []
  a_law_clock : Addr
  d_law_clock : FuncData
  F_law_clock : Fun K "_law_clock" "_law_clock" s_law_clock a_law_clock d_law_clock
  g_law_clock : mg "_law_clock" = some (.ref a_law_clock)
  b_law_clock : Binds K d_law_clock ["_law_box_here"] []
  a_law_number : Addr
  d_law_number : FuncData
  F_law_number : Fun K "_law_number" "_law_number" s_law_number a_law_number d_law_number
  g_law_number : mg "_law_number" = some (.ref a_law_number)
  b_law_number : Binds K d_law_number ["_law_box_here"] []
  a_law_square : Addr
  d_law_square : FuncData
  F_law_square : Fun K "_law_square" "_law_square" s_law_square a_law_square d_law_square
  g_law_square : mg "_law_square" = some (.ref a_law_square)
  b_law_square : Binds K d_law_square ["_law_box_here", "_law_clock_here", "_law_land", "_law_untold", "_law_calm", "_law_old"] []
  a_law_near_hour : Addr
  d_law_near_hour : FuncData
  F_law_near_hour : Fun K "_law_near_hour" "_law_near_hour" s_law_near_hour a_law_near_hour d_law_near_hour
  g_law_near_hour : mg "_law_near_hour" = some (.ref a_law_near_hour)
  b_law_near_hour : Binds K d_law_near_hour ["_law_rows", "_law_line"] []
  a_law_chart : Addr
  d_law_chart : FuncData
  F_law_chart : Fun K "_law_chart" "_law_chart" s_law_chart a_law_chart d_law_chart
  g_law_chart : mg "_law_chart" = some (.ref a_law_chart)
  b_law_chart : Binds K d_law_chart ["_law_box_here", "_law_most", "_law_untold"] []
  a_law_word : Addr
  d_law_word : FuncData
  F_law_word : Fun K "_law_word" "_law_word" s_law_word a_law_word d_law_word
  g_law_word : mg "_law_word" = some (.ref a_law_word)
  b_law_word : Binds K d_law_word ["_law_ask"] []
  a_law_kind : Addr
  d_law_kind : FuncData
  F_law_kind : Fun K "_law_kind" "_law_kind" s_law_kind a_law_kind d_law_kind
  g_law_kind : mg "_law_kind" = some (.ref a_law_kind)
  b_law_kind : Binds K d_law_kind ["_law_e"] []
  a_law_bent_chart : Addr
  d_law_bent_chart : FuncData
  F_law_bent_chart : Fun K "_law_bent_chart" "_law_bent_chart" s_law_bent_chart a_law_bent_chart d_law_bent_chart
  g_law_bent_chart : mg "_law_bent_chart" = some (.ref a_law_bent_chart)
  b_law_bent_chart : Binds K d_law_bent_chart ["_law_box_here", "_law_chart_here"] []
  a_law_is_chart : Addr
  d_law_is_chart : FuncData
  F_law_is_chart : Fun K "_law_is_chart" "_law_is_chart" s_law_is_chart a_law_is_chart d_law_is_chart
  g_law_is_chart : mg "_law_is_chart" = some (.ref a_law_is_chart)
  b_law_is_chart : Binds K d_law_is_chart ["_law_chart_here"] []
  a_law_doors_one : Addr
  d_law_doors_one : FuncData
  c_law_doors_one : Addr
  P_law_doors_one : Addr
  F_law_doors_one : FunC K "_law_doors_one" "_law_doors_one" s_law_doors_one a_law_doors_one d_law_doors_one c_law_doors_one
  TB_law_doors_one : LamX.TabB base mg c_law_doors_one P_law_doors_one
  g_law_doors_one : mg "_law_doors_one" = some (.ref a_law_doors_one)
  b_law_doors_one : Binds K d_law_doors_one ["_law_chart_here"] []
  a_law_doors_two : Addr
  d_law_doors_two : FuncData
  c_law_doors_two : Addr
  P_law_doors_two : Addr
  F_law_doors_two : FunC K "_law_doors_two" "_law_doors_two" s_law_doors_two a_law_doors_two d_law_doors_two c_law_doors_two
  TB_law_doors_two : LamX.TabB base mg c_law_doors_two P_law_doors_two
  g_law_doors_two : mg "_law_doors_two" = some (.ref a_law_doors_two)
  b_law_doors_two : Binds K d_law_doors_two ["_law_chart_here"] []
  a_law : Addr
  d_law : FuncData
  F_law : Fun K "law" "law" s_law a_law d_law
  g_law : mg "law" = some (.ref a_law)
  b_law : Binds K d_law ["_law_script"] []
  t_LEAST_HOURS : Tok
  c_LEAST_HOURS : mg "LEAST_HOURS" = some (.int (3) t_LEAST_HOURS)
  t_MOST_HOURS : Tok
  c_MOST_HOURS : mg "MOST_HOURS" = some (.int (15) t_MOST_HOURS)
  t_MOST_SQUARES : Tok
  c_MOST_SQUARES : mg "MOST_SQUARES" = some (.int (9) t_MOST_SQUARES)
  t_UNTOLD : Tok
  c_UNTOLD : mg "UNTOLD" = some (.int (-2) t_UNTOLD)
  o_OUTSIDE_eyes : Addr
  c_OUTSIDE_eyes : mg "OUTSIDE_eyes" = some (.ref o_OUTSIDE_eyes)
  s_OUTSIDE_eyes : ∀ H : Hp, SqT K H o_OUTSIDE_eyes [.int (-1), .int (-1)]
  t_OUTSIDE_breaks : Tok
  c_OUTSIDE_breaks : mg "OUTSIDE_breaks" = some (.int (-1) t_OUTSIDE_breaks)
  t_LEAST_SQUARES_fills : Tok
  c_LEAST_SQUARES_fills : mg "LEAST_SQUARES_fills" = some (.int (2) t_LEAST_SQUARES_fills)
  t_LEAST_SQUARES_rings : Tok
  c_LEAST_SQUARES_rings : mg "LEAST_SQUARES_rings" = some (.int (2) t_LEAST_SQUARES_rings)
  n_ValueError : mg "ValueError" = none
  n__law_ask : mg "_law_ask" = none
  n_all : mg "all" = none
  n_any : mg "any" = none
  n_enumerate : mg "enumerate" = none
  n_isinstance : mg "isinstance" = none
  n_len : mg "len" = none
  n_list : mg "list" = none
  n_range : mg "range" = none
  n_sum : mg "sum" = none
  n_tuple : mg "tuple" = none
  a_TideError : Addr
  a_BadClock : Addr
  a_BadHour : Addr
  a_BadChart : Addr
  a_BadSquare : Addr
  a_BadRing : Addr
  a_BadBreaks : Addr
  a_BadPrices : Addr
  a_NoFill : Addr
  a_Unlike : Addr
  a_BadName : Addr
  a_Taken : Addr
  a_Full : Addr
  a_NoChart : Addr
  a_BadDay : Addr
  a_BadDeed : Addr
  a_NothingLeft : Addr
  a_Knotted : Addr
  a_BadText : Addr
  x_TideError : ExB K mg "TideError" a_TideError
  x_BadClock : ExB K mg "BadClock" a_BadClock
  x_BadHour : ExB K mg "BadHour" a_BadHour
  x_BadChart : ExB K mg "BadChart" a_BadChart
  x_BadSquare : ExB K mg "BadSquare" a_BadSquare
  x_BadRing : ExB K mg "BadRing" a_BadRing
  x_BadBreaks : ExB K mg "BadBreaks" a_BadBreaks
  x_BadPrices : ExB K mg "BadPrices" a_BadPrices
  x_NoFill : ExB K mg "NoFill" a_NoFill
  x_Unlike : ExB K mg "Unlike" a_Unlike
  x_BadName : ExB K mg "BadName" a_BadName
  x_Taken : ExB K mg "Taken" a_Taken
  x_Full : ExB K mg "Full" a_Full
  x_NoChart : ExB K mg "NoChart" a_NoChart
  x_BadDay : ExB K mg "BadDay" a_BadDay
  x_BadDeed : ExB K mg "BadDeed" a_BadDeed
  x_NothingLeft : ExB K mg "NothingLeft" a_NothingLeft
  x_Knotted : ExB K mg "Knotted" a_Knotted
  x_BadText : ExB K mg "BadText" a_BadText
  X_BadChart : Exn K mg "BadChart" a_BadChart
  e_BadChart : ExcC K a_BadChart
  k_BadChart : KRow K a_BadChart [.ref a_BadClock, .ref a_BadHour, .ref a_BadChart, .ref a_BadSquare, .ref a_BadRing, .ref a_BadBreaks, .ref a_BadPrices, .ref a_NoFill, .ref a_Unlike, .ref a_BadName, .ref a_Taken, .ref a_Full, .ref a_NoChart, .ref a_BadDay, .ref a_BadDeed, .ref a_NothingLeft, .ref a_Knotted, .ref a_BadText, .type "ValueError"] [false, false, true, false, false, false, false, false, false, false, false, false, false, false, false, false, false, false, true]
  m_BadChart : PySem.W.exmOne K (.ref a_BadChart) (.ref a_TideError) = some true
  X_BadSquare : Exn K mg "BadSquare" a_BadSquare
  e_BadSquare : ExcC K a_BadSquare
  k_BadSquare : KRow K a_BadSquare [.ref a_BadClock, .ref a_BadHour, .ref a_BadChart, .ref a_BadSquare, .ref a_BadRing, .ref a_BadBreaks, .ref a_BadPrices, .ref a_NoFill, .ref a_Unlike, .ref a_BadName, .ref a_Taken, .ref a_Full, .ref a_NoChart, .ref a_BadDay, .ref a_BadDeed, .ref a_NothingLeft, .ref a_Knotted, .ref a_BadText, .type "ValueError"] [false, false, false, true, false, false, false, false, false, false, false, false, false, false, false, false, false, false, true]
  m_BadSquare : PySem.W.exmOne K (.ref a_BadSquare) (.ref a_TideError) = some true
  X_BadRing : Exn K mg "BadRing" a_BadRing
  e_BadRing : ExcC K a_BadRing
  k_BadRing : KRow K a_BadRing [.ref a_BadClock, .ref a_BadHour, .ref a_BadChart, .ref a_BadSquare, .ref a_BadRing, .ref a_BadBreaks, .ref a_BadPrices, .ref a_NoFill, .ref a_Unlike, .ref a_BadName, .ref a_Taken, .ref a_Full, .ref a_NoChart, .ref a_BadDay, .ref a_BadDeed, .ref a_NothingLeft, .ref a_Knotted, .ref a_BadText, .type "ValueError"] [false, false, false, false, true, false, false, false, false, false, false, false, false, false, false, false, false, false, true]
  m_BadRing : PySem.W.exmOne K (.ref a_BadRing) (.ref a_TideError) = some true
  X_BadBreaks : Exn K mg "BadBreaks" a_BadBreaks
  e_BadBreaks : ExcC K a_BadBreaks
  k_BadBreaks : KRow K a_BadBreaks [.ref a_BadClock, .ref a_BadHour, .ref a_BadChart, .ref a_BadSquare, .ref a_BadRing, .ref a_BadBreaks, .ref a_BadPrices, .ref a_NoFill, .ref a_Unlike, .ref a_BadName, .ref a_Taken, .ref a_Full, .ref a_NoChart, .ref a_BadDay, .ref a_BadDeed, .ref a_NothingLeft, .ref a_Knotted, .ref a_BadText, .type "ValueError"] [false, false, false, false, false, true, false, false, false, false, false, false, false, false, false, false, false, false, true]
  m_BadBreaks : PySem.W.exmOne K (.ref a_BadBreaks) (.ref a_TideError) = some true
  X_BadPrices : Exn K mg "BadPrices" a_BadPrices
  e_BadPrices : ExcC K a_BadPrices
  k_BadPrices : KRow K a_BadPrices [.ref a_BadClock, .ref a_BadHour, .ref a_BadChart, .ref a_BadSquare, .ref a_BadRing, .ref a_BadBreaks, .ref a_BadPrices, .ref a_NoFill, .ref a_Unlike, .ref a_BadName, .ref a_Taken, .ref a_Full, .ref a_NoChart, .ref a_BadDay, .ref a_BadDeed, .ref a_NothingLeft, .ref a_Knotted, .ref a_BadText, .type "ValueError"] [false, false, false, false, false, false, true, false, false, false, false, false, false, false, false, false, false, false, true]
  m_BadPrices : PySem.W.exmOne K (.ref a_BadPrices) (.ref a_TideError) = some true
  X_NoFill : Exn K mg "NoFill" a_NoFill
  e_NoFill : ExcC K a_NoFill
  k_NoFill : KRow K a_NoFill [.ref a_BadClock, .ref a_BadHour, .ref a_BadChart, .ref a_BadSquare, .ref a_BadRing, .ref a_BadBreaks, .ref a_BadPrices, .ref a_NoFill, .ref a_Unlike, .ref a_BadName, .ref a_Taken, .ref a_Full, .ref a_NoChart, .ref a_BadDay, .ref a_BadDeed, .ref a_NothingLeft, .ref a_Knotted, .ref a_BadText, .type "ValueError"] [false, false, false, false, false, false, false, true, false, false, false, false, false, false, false, false, false, false, true]
  m_NoFill : PySem.W.exmOne K (.ref a_NoFill) (.ref a_TideError) = some true
  X_Unlike : Exn K mg "Unlike" a_Unlike
  e_Unlike : ExcC K a_Unlike
  k_Unlike : KRow K a_Unlike [.ref a_BadClock, .ref a_BadHour, .ref a_BadChart, .ref a_BadSquare, .ref a_BadRing, .ref a_BadBreaks, .ref a_BadPrices, .ref a_NoFill, .ref a_Unlike, .ref a_BadName, .ref a_Taken, .ref a_Full, .ref a_NoChart, .ref a_BadDay, .ref a_BadDeed, .ref a_NothingLeft, .ref a_Knotted, .ref a_BadText, .type "ValueError"] [false, false, false, false, false, false, false, false, true, false, false, false, false, false, false, false, false, false, true]
  m_Unlike : PySem.W.exmOne K (.ref a_Unlike) (.ref a_TideError) = some true
  e_Knotted : ExcC K a_Knotted
  k_Knotted : KRow K a_Knotted [.ref a_BadClock, .ref a_BadHour, .ref a_BadChart, .ref a_BadSquare, .ref a_BadRing, .ref a_BadBreaks, .ref a_BadPrices, .ref a_NoFill, .ref a_Unlike, .ref a_BadName, .ref a_Taken, .ref a_Full, .ref a_NoChart, .ref a_BadDay, .ref a_BadDeed, .ref a_NothingLeft, .ref a_Knotted, .ref a_BadText, .type "ValueError"] [false, false, false, false, false, false, false, false, false, false, false, false, false, false, false, false, true, false, true]
  m_Knotted : PySem.W.exmOne K (.ref a_Knotted) (.ref a_TideError) = some true
  a_Knotted_init : Addr
  d_Knotted_init : FuncData
  F_Knotted_init : Fun K "__init__" "Knotted.__init__" s_Knotted_init a_Knotted_init d_Knotted_init
  b_Knotted_init : Binds K d_Knotted_init ["self", "many"] []
  O_Knotted : OexC K a_Knotted
  f_Knotted : XfC K a_Knotted
  i_Knotted : PySem.W.findIn K (.ref a_Knotted) "__init__" = some (some (.ref a_Knotted_init))
  it_Knotted : PySem.W.typeIn K (.ref a_Knotted_init) = some (.type "function")
  no_Knotted : PySem.W.findIn K (.ref a_Knotted) "many" = some none
  mm_Knotted : PySem.W.exmOne K (.ref a_Knotted) (.ref a_Knotted) = some true
  B_Knotted : BaseI K a_TideError
  tnd : ([P_law_doors_one, P_law_doors_two] : List Addr).Nodup
def tabsOf {K : PySem.W.Frag} {mg : Str → Option Value} {base : Heap} (T : Tx K mg base) : List (Addr × Str) := [(T.P_law_doors_one, lamQ "_law_doors_one"), (T.P_law_doors_two, lamQ "_law_doors_two")]
theorem tabs_nd {K : PySem.W.Frag} {mg : Str → Option Value} {base : Heap} (T : Tx K mg base) : ((tabsOf T).map (·.1)).Nodup := T.tnd
section
variable {P : Program} {w : World} {K : PySem.W.Frag} {mg : Str → Option Value} {base : Heap}
def isClock (c : Int) : Bool := decide (3 ≤ c) && decide (c ≤ 15) && decide (c % 2 = 1)
theorem isClock_iff {c : Int} : isClock c = true ↔ 3 ≤ c ∧ c ≤ 15 ∧ c % 2 = 1 := by
  unfold isClock
  simp only [Bool.and_eq_true, decide_eq_true_eq, and_assoc]
def R_is_clock (vs : List V) (v : V) : Prop := ∃ c, vs = [.int c] ∧ v = .bl (isClock c)
theorem ok_is_clock (T : Tx K mg base) : FnOk P w K mg base CX0 1 T.a_is_clock T.d_is_clock ["clock"] (spS R_is_clock) := by
  refine T.F_is_clock.ok sc_is_clock (fun vs H Q E h => ?_) (fun cdv A outer s H vs Q E hr h => ?_)
  · obtain ⟨v, ⟨c, rfl, rfl⟩, q⟩ := h
    rfl
  · obtain ⟨v, ⟨c, rfl, rfl⟩, q⟩ := h
    refine ⟨_, (pss_cons (ps_ret (pe_and (pe_chain op_le op_le (pe_glob (v := .int (3)) rfl T.c_LEAST_HOURS ⟨_, rfl⟩) (pv 0) (pe_glob (v := .int (15)) rfl T.c_MOST_HOURS ⟨_, rfl⟩)) (pe_one (pe_cmpR op_eq (pe_op op_mod (pv 0) pe_int) pe_int (nomark _)))))
      pss_nil), Go.go ?_⟩
    apply go_retE (k := q)
    · walk_at "ev"
    · unfold isClock
      simp only [V.int.injEq]
theorem ev_is_clock {σ : L2.St} {H : Hp} {E : XK} {tr : TA} {c : Int} (h : EvA tr σ H [.int c]) : Ev (tCall (spS R_is_clock) [] E tr) σ H (.bl (isClock c)) := ev_callS h ⟨c, rfl, rfl⟩
local macro_rules | `(tactic| walk_at "ev") => `(tactic| ((with_reducible apply ev_is_clock); walk_at "ea"))
def spMixed : Sp := fun vs H Q _ => ∃ a b, vs = [.int a, .int b] ∧ ∀ r H2, Ex H H2 → Q (.int r) H2
theorem ok_law_mixed (T : Tx K mg base) : FnOk P w K mg base CX0 1 T.a_law_mixed T.d_law_mixed ["_law_number_here", "_law_turn"] spMixed := by
  refine T.F_law_mixed.ok sc_law_mixed (fun vs H Q E h => ?_) (fun cdv A outer s H vs Q E hr h => ?_)
  · obtain ⟨a, b, rfl, q⟩ := h
    rfl
  · obtain ⟨a, b, rfl, q⟩ := h
    refine ⟨_, (pss_cons (ps_set (i := 2) sc_law_mixed.nd rfl (.inl rfl) (pe_op op_mod (pe_op op_add (pe_op op_add (pe_op op_mul (pv 0) pe_int) (pe_op op_mul (pv 1) pe_int)) pe_int) pe_int))
      (pss_cons (ps_set (i := 3) sc_law_mixed.nd rfl (.inl rfl) (pe_op op_add (pe_op op_mul (pv 1) pe_int) (pe_op op_mod (pe_op op_fdiv (pv 0) pe_int) pe_int)))
      (pss_cons (ps_ret (pe_op op_fdiv (pe_op op_mod (pe_op op_add (pe_op op_mul (pv 2) (pe_op op_add (pe_op op_mod (pv 2) pe_int) pe_int)) (pv 3)) pe_int) pe_int))
      pss_nil))), Go.go ?_⟩
    have h1 : ∀ x y : Int, 0 ≤ x % y + y * 0 ∨ y = 0 := fun x y => by
      by_cases h : y = 0
      · exact .inr h
      · exact .inl (by have := Int.emod_nonneg x h; omega)
    apply go_asg
    · walk_at "ev"
    have h2 : ∀ x : Int, 0 ≤ x % 2147483647 ∧ x % 2147483647 < 2147483647 := fun x => ⟨by omega, by omega⟩
    generalize hz : (a * 7919 + b * 104729 + 17) % 2147483647 = z
    have hz2 := h2 (a * 7919 + b * 104729 + 17)
    rw [hz] at hz2
    apply go_asg
    · walk_at "ev"
    apply go_retV
    · walk_at "ev"
    exact fun H' e => q _ H' e
/-- a call that gives some int -/
theorem ev_mixed {σ : L2.St} {H : Hp} {E : XK} {tr : TA} {a b : Int} (h : EvA tr σ H [.int a, .int b]) {Q : VK} (k : ∀ r H2, Ex H H2 → Q (.int r) H2) : tCall spMixed [] E tr σ H Q :=
  h H (Ex.refl H) _ fun H2 e2 => ⟨a, b, rfl, fun r H3 e3 => k r H3 (e2.trans e3)⟩
def PreTake (ds : List PyData) : Prop := ∃ m : Int, ds = [.int m] ∧ 0 < m ∧ m < 2 ^ 80
def RTake (ds : List PyData) (d : PyData) : Prop := ∃ m r : Int, ds = [.int m] ∧ d = .int r ∧ 0 ≤ r ∧ r < m
theorem ok_law_take (T : Tx K mg base) : FnOk P w K mg base CX0 2 T.a_law_take T.d_law_take ["_law_box_here", "_law_many"] (spB K PreTake RTake) := by
  refine T.F_law_take.ok sc_law_take (fun vs H Q E h => ?_) (fun cdv A outer s H vs Q E hr h => ?_)
  · obtain ⟨b, ws, Hd, ds, rfl, hb, sx, B, hds, ⟨m, rfl, hm, hm2⟩, q⟩ := h
    cases hds with
    | cons h1 h2 => cases h2; rfl
  · obtain ⟨b, ws, Hd, ds, rfl, hb, sx, B, hds, ⟨m, rfl, hm, hm2⟩, q⟩ := h
    obtain ⟨m', rfl⟩ : ∃ m', ws = [m'] := by
      cases hds with
      | cons h1 h2 => cases h2; exact ⟨_, rfl⟩
    have em : m' = .int m := by
      cases hds with
      | cons h1 h2 => cases h1; rfl
    subst em
    obtain ⟨bb, ca⟩ := b
    obtain ⟨cells, xs, h1, ⟨pos, rest, turn, seed, rfl, hpos⟩, h3, h4⟩ := B
    have nca : ca ≠ bb := by
      intro e
      subst e
      rw [h1] at h3
      have h5 := HO.lst.inj (Option.some.inj h3)
      cases cells with
      | nil => cases h5
      | cons c cs => cases h5
    have fin : ∀ (pos' rest' turn' r : Int) (H2 : Hp), 0 ≤ pos' → 0 ≤ r → r < m → Ex (upd H bb (.lst [.ref ca, .int pos', .int rest', .int turn', .int seed])) H2 → Q (.int r) H2 := fun pos' rest' turn' r H2 hp h0 hr e2 => by
      refine q (.int r) H2 Hd (.int r) ⟨fun a o n h => e2 a o (by rw [upd_ne n]; exact h), Ex.refl _, fun a o h => e2 a o (by rw [upd_ne (ne_of_none h hb)]; exact sx a o h), fun a o _ h => h, ?_⟩ (.int r) ⟨m, r, rfl, rfl, h0, hr⟩
      exact Bx.mono e2 ⟨cells, _, upd_same, ⟨pos', rest', turn', seed, rfl, hp⟩, by rw [upd_ne nca]; exact h3, h4⟩
    have wd : ∀ z : Int, CDivW z m := fun z => wide_div (b := 80) hm (by omega) (by decide) (by decide)
    have mm : ∀ z : Int, 0 ≤ z % m ∧ z % m < m := fun z => ⟨Int.emod_nonneg z (by omega), Int.emod_lt_of_pos z hm⟩
    refine ⟨_, (pss_cons (ps_asg (pe_op op_add (pe_ix (r := rIxL K) ix_list (pv 0) pe_int (fun _ _ => rfl)) pe_int) (pg_sub (pv 0) pe_int set_list))
      (pss_cons (ps_if (pt_cmpR op_gt (pe_ix (r := rIxL K) ix_list (pv 0) pe_int (fun _ _ => rfl)) pe_int (nomark _)) (pss_cons (ps_set (i := 2) sc_law_take.nd rfl (.inl rfl) (pe_ix (r := rIxL K) ix_list (pv 0) pe_int (fun _ _ => rfl)))
      (pss_cons (ps_asg (pe_op op_fdivW (pv 2) (pv 1)) (pg_sub (pv 0) pe_int set_list))
      (pss_cons (ps_ret (pe_op op_mod (pv 2) (pv 1)))
      pss_nil))) pss_nil)
      (pss_cons (ps_if (pt_cmpR op_ge (pe_ix (r := rIxL K) ix_list (pv 0) pe_int (fun _ _ => rfl)) (pe_callB (r := rLenS K) call_lenQ (by rfl) T.n_len PySem.boot_len (pa_cons (pe_ix (r := rIxL K) ix_list (pv 0) pe_int (fun _ _ => rfl)) pa_nil)) (nomark _)) (pss_cons (ps_ret (pe_op op_mod (pe_call (ok_law_mixed (P := P) (w := w) T) (hr.mono (by omega)) (by rfl) T.g_law_mixed T.F_law_mixed.kp T.b_law_mixed .nil pass0 (pa_cons (pe_ix (r := rIxL K) ix_list (pv 0) pe_int (fun _ _ => rfl)) (pa_cons (pe_ix (r := rIxL K) ix_list (pv 0) pe_int (fun _ _ => rfl)) pa_nil))) (pv 1)))
      pss_nil) pss_nil)
      (pss_cons (ps_set (i := 3) sc_law_take.nd rfl (.inl rfl) (pe_ix (r := rIxL K) ix_list (pe_ix (r := rIxL K) ix_list (pv 0) pe_int (fun _ _ => rfl)) (pe_ix (r := rIxL K) ix_list (pv 0) pe_int (fun _ _ => rfl)) (fun _ _ => rfl)))
      (pss_cons (ps_asg (pe_op op_add (pe_ix (r := rIxL K) ix_list (pv 0) pe_int (fun _ _ => rfl)) pe_int) (pg_sub (pv 0) pe_int set_list))
      (pss_cons (ps_if (pt_cmpR op_lt (pv 3) (pe_op op_pow pe_int pe_int) (nomark _)) (pss_cons (ps_ret (pe_op op_mod (pe_call (ok_law_mixed (P := P) (w := w) T) (hr.mono (by omega)) (by rfl) T.g_law_mixed T.F_law_mixed.kp T.b_law_mixed .nil pass0 (pa_cons (pe_op op_add (pv 3) (pe_ix (r := rIxL K) ix_list (pv 0) pe_int (fun _ _ => rfl))) (pa_cons (pe_ix (r := rIxL K) ix_list (pv 0) pe_int (fun _ _ => rfl)) pa_nil))) (pv 1)))
      pss_nil) pss_nil)
      (pss_cons (ps_asg (pe_op op_fdivW (pv 3) (pv 1)) (pg_sub (pv 0) pe_int set_list))
      (pss_cons (ps_ret (pe_op op_mod (pv 3) (pv 1)))
      pss_nil)))))))), Go.go ?_⟩
    refine go_setL (j := 3) h1 (v := .int (turn + 1)) ?_ (ev_var rfl) ev_c (by simp) ?_
    · walk_at "ev"
    show Go _ _ _ (upd H bb (.lst [.ref ca, .int pos, .int rest, .int (turn + 1), .int seed]))
    apply go_when
    · walk_at "et"
    · intro _
      apply go_asg
      · walk_at "ev"
      refine go_setL (j := 2) upd_same (v := .int (rest / m)) ?_ (ev_var rfl) ev_c (by simp) ?_
      · refine ev_op (ev_var rfl) (ev_var rfl) (rv_I (wd _))
      apply go_retV
      · walk_at "ev"
      rw [upd_upd]
      exact fun H' e => fin pos (rest / m) (turn + 1) _ H' hpos (mm _).1 (mm _).2 e
    intro _
    have h3' : upd H bb (.lst [.ref ca, .int pos, .int rest, .int (turn + 1), .int seed]) ca = some (.lst (cells.map V.int)) := by
      rw [upd_ne nca]
      exact h3
    apply go_when
    · apply et_test
      apply ev_op
      · walk_at "ev"
      · refine ev_len (K := K) (p := ca) ?_ (sq_of h3')
        walk_at "ev"
      · exact rv_I0
    · intro _ H1 e1
      refine ev_mixed (a := seed) (b := turn + 1) (EvA.mono e1 (by walk_at "ea")) fun r H2 e2 => ?_
      exact ⟨_, rfl, _, _, rfl, rfl, hm, fin pos rest (turn + 1) _ H2 hpos (mm _).1 (mm _).2 (e1.trans e2)⟩
    intro hlt
    have hlt2 : pos < (cells.length : Int) := by
      have h5 := of_decide_eq_false hlt
      rw [List.length_map] at h5
      omega
    have hget : atI (cells.map V.int) pos = some (.int (cells[pos.toNat]'(by omega))) := by
      refine at_of (j := pos.toNat) (by omega) ?_
      rw [List.getElem?_map, List.getElem?_eq_getElem (by omega)]
      rfl
    generalize hcell : cells[pos.toNat]'(by omega) = cell at hget
    apply go_asg (v := .int cell)
    · refine ev_op (x := .ref ca) (y := .int pos) (by walk_at "ev") (by walk_at "ev") (rv_ixL (K := K) (sq_of h3') hget)
    refine go_setL (j := 1) upd_same (v := .int (pos + 1)) ?_ (ev_var rfl) ev_c (by simp) ?_
    · walk_at "ev"
    rw [upd_upd]
    show Go _ _ _ (upd H bb (.lst [.ref ca, .int (pos + 1), .int rest, .int (turn + 1), .int seed]))
    apply go_when
    · walk_at "et"
    · intro _ H1 e1
      refine ev_mixed (a := cell + seed) (b := turn + 1) (EvA.mono e1 (by walk_at "ea")) fun r H2 e2 => ?_
      exact ⟨_, rfl, _, _, rfl, rfl, hm, fin (pos + 1) rest (turn + 1) _ H2 (by omega) (mm _).1 (mm _).2 (e1.trans e2)⟩
    intro _
    refine go_setL (j := 2) upd_same (v := .int (cell / m)) ?_ (ev_var rfl) ev_c (by simp) ?_
    · refine ev_op (ev_var rfl) (ev_var rfl) (rv_I (wd _))
    apply go_retV
    · walk_at "ev"
    rw [upd_upd]
    exact fun H' e => fin (pos + 1) (cell / m) (turn + 1) _ H' (by omega) (mm _).1 (mm _).2 e
theorem eb_take {σ : L2.St} {Hd : Hp} {E : XK} {b : Bid} {ta tb : TE} {m : Int} (ha : Ev ta σ Hd (.ref b.b)) (hm : Ev tb σ Hd (.int m)) (h0 : 0 < m) (h1 : m < 2 ^ 80) : EvB K b (tCall (spB K PreTake RTake) [] E (tCons ta (tCons tb tNil))) σ Hd (isI fun r => 0 ≤ r ∧ r < m) := by
  refine EvB.imp (eb_call ha (eba_cons (eb_ev hm) eba_nil) ?_) ?_
  · rintro ds ⟨d, es, rfl, ⟨i, rfl, rfl⟩, rfl⟩
    exact ⟨_, rfl, h0, h1⟩
  · rintro d ⟨ds, ⟨d', es, rfl, ⟨i, rfl, rfl⟩, rfl⟩, m', r, e1, rfl, h2, h3⟩
    cases e1
    exact ⟨r, rfl, h2, h3⟩
def RClock (ds : List PyData) (d : PyData) : Prop := ∃ c : Int, d = .int c ∧ isClock c = true
theorem ok_law_clock (T : Tx K mg base) : FnOk P w K mg base CX0 3 T.a_law_clock T.d_law_clock ["_law_box_here"] (spB K (fun ds => ds = []) RClock) := by
  refine T.F_law_clock.ok sc_law_clock (fun vs H Q E h => ?_) (fun cdv A outer s H vs Q E hr h => ?_)
  · obtain ⟨b, ws, Hd, ds, rfl, hb, sx, B, hds, rfl, q⟩ := h
    cases hds
    rfl
  · obtain ⟨b, ws, Hd, ds, rfl, hb, sx, B, hds, rfl, q⟩ := h
    cases hds
    refine ⟨_, (pss_cons (ps_ret (pe_op op_add pe_int (pe_op op_mul pe_int (pe_call (ok_law_take (P := P) (w := w) T) (hr.mono (by omega)) (by rfl) T.g_law_take T.F_law_take.kp T.b_law_take .nil pass0 (pa_cons (pv 0) (pa_cons pe_int pa_nil))))))
      pss_nil), Go.go ?_⟩
    refine go_retB hb sx B (EvB.imp (eb_opI0 (K := K) (fun _ _ => rfl) (eb_ev ev_c) (eb_opI (fun _ _ => rfl) (eb_ev ev_c) (eb_take (ev_var rfl) ev_c (by decide) (by decide)) (fun i j hi hj => Or.inl (by omega)))) (P' := RClock []) ?_) q
    rintro d ⟨i, rfl, i1, j1, rfl, ⟨i2, j2, rfl, ⟨h1, h2⟩, rfl⟩, rfl⟩
    exact ⟨_, rfl, isClock_iff.mpr ⟨by omega, by omega, by omega⟩⟩
theorem eb_clock {σ : L2.St} {Hd : Hp} {E : XK} {b : Bid} {ta : TE} (ha : Ev ta σ Hd (.ref b.b)) : EvB K b (tCall (spB K (fun ds => ds = []) RClock) [] E (tCons ta tNil)) σ Hd (isI fun c => isClock c = true) := by
  refine EvB.imp (eb_call ha eba_nil fun ds e => e) ?_
  rintro d ⟨ds, rfl, c, rfl, h⟩
  exact ⟨c, rfl, h⟩
/-- the box is made -/
def spBox (K : PySem.W.Frag) : Sp := fun vs H Q _ => ∃ (a : Addr) (ns : List Int), vs = [.ref a] ∧ SqL K H a (ns.map V.int) ∧ ns.length ≤ 63 ∧ ∀ (b : Bid) H2, H b.b = none → H b.ca = none → Ex H H2 → Bx H2 b → Q (.ref b.b) H2
theorem cut_ints {ns : List Int} : cutV (ns.map V.int) none (some 63) = ((ns.take 63).map V.int) := by
  unfold cutV
  rw [HT.sIx_none, show HT.sIx (ns.map V.int).length (ns.map V.int).length (some 63) = min 63 (ns.map V.int).length from HT.sIx_nat _ _ 63]
  rw [List.drop_zero, Nat.sub_zero, List.length_map, List.map_take]
  by_cases h : 63 ≤ ns.length
  · rw [Nat.min_eq_left h]
  · rw [Nat.min_eq_right (by omega), List.take_of_length_le (by rw [List.length_map]; omega), List.take_of_length_le (by rw [List.length_map]; omega)]
theorem ok_law_box (T : Tx K mg base) : FnOk P w K mg base CX0 1 T.a_law_box T.d_law_box ["_law_script"] (spBox K) := by
  refine T.F_law_box.ok sc_law_box (fun vs H Q E h => ?_) (fun cdv A outer s H vs Q E hr h => ?_)
  · obtain ⟨a, ns, rfl, _⟩ := h
    rfl
  · obtain ⟨a, ns, rfl, hL, hn, q⟩ := h
    refine ⟨_, (pss_cons (ps_set (i := 1) sc_law_box.nd rfl (.inl rfl) pe_int)
      (pss_cons (ps_for PassesOwn.never rfl (pi_list (pe_slice (r := rSlL K) sl_list (pv 0) po_none (po_some pe_int))) (pg_name (i := 2) sc_law_box.nd rfl (.inl rfl)) (pss_cons (ps_set (i := 1) sc_law_box.nd rfl (.inl rfl) (pe_op op_mod (pe_op op_add (pe_op op_add (pe_op op_mul (pv 1) pe_int) (pe_op op_mod (pv 2) pe_int)) pe_int) pe_int))
      pss_nil))
      (pss_cons (ps_ret (pe_lst (pa_cons (pe_callTy (r := rListS K) call_listQ (by rfl) T.n_list (by decide +kernel) (pa_cons (pe_slice (r := rSlL K) sl_list (pv 0) po_none (po_some pe_int)) pa_nil)) (pa_cons pe_int (pa_cons pe_int (pa_cons pe_int (pa_cons (pv 1) pa_nil)))))))
      pss_nil))), ?_⟩
    refine q_asg ev_c fun H1 e1 => ?_
    refine q_forNLn (K := K) (xs := (ns.take 63).map V.int) ?_ (fun p i σ H' => Ex H H' ∧ H p = none ∧ H' p = some (.lst ((ns.take 63).map V.int)) ∧ ∃ (z : Int) (x : Option V), σ = [some (.ref a), some (.int z), x]) (fun p H2 hp e2 h2 => ⟨e1.trans e2, fresh_back e1 hp, h2, 7, none, rfl⟩) (fun p i σ' H' _ h => sq_of h.2.2.1) ?_ ?_
    · rw [← cut_ints]
      exact el_sl (ev_var rfl) eo_none (eo_some ev_c) (ex_l e1 hL)
    · rintro p i x σ' H' hx ⟨e2, hp, h2, z, x0, rfl⟩
      rw [List.getElem?_map] at hx
      cases hh : (ns.take 63)[i]? with
      | none => rw [hh] at hx; cases hx
      | some y =>
        rw [hh] at hx
        cases hx
        refine Go.go ?_
        apply go_asg
        · walk_at "ev"
        exact go_next fun H3 e3 => ⟨e2.trans e3, hp, e3 _ _ h2, _, _, rfl⟩
    · rintro p σ' H' ⟨e2, hp, h2, z, x0, rfl⟩
      have hE : Ex H H' := e2
      refine el_sl (K := K) (ev_var rfl) eo_none (eo_some ev_c) (ex_l hE hL) H' (Ex.refl _) _ fun c H4 hc e4 h4 => ?_
      rw [cut_ints] at h4
      refine ⟨c, _, rfl, Or.inl (sq_of h4), fun l hl => ?_⟩
      refine ⟨.int z, rfl, by show 5 ≤ sizeLine; decide, fun b hb => ?_⟩
      have nlb : l ≠ b := fun e => by
        subst e
        rw [upd_same] at hb
        cases hb
      have hb4 : H4 b = none := by
        rw [upd_ne nlb.symm] at hb
        exact hb
      refine q ⟨b, l⟩ _ (fresh_back (hE.trans e4) hb4) (fresh_back (hE.trans e4) hl) (((hE.trans e4).trans (Ex.new hl)).trans (Ex.new hb)) ⟨ns.take 63, _, upd_same, ⟨0, 0, 0, z, rfl, by decide⟩, ?_, ?_⟩
      · rw [upd_ne nlb, upd_same]
      · rw [List.length_take]
        omega
theorem go_box {σ : L2.St} {H : Hp} {E : XK} {ta : TE} {tz : TS} {D : Ends} {i : Nat} {a : Addr} {ns : List Int} (hL : SqL K H a (ns.map V.int)) (hn : ns.length ≤ 63) (h : Ev ta σ H (.ref a)) (k : ∀ (b : Bid) H', H b.b = none → H b.ca = none → Ex H H' → Bx H' b → Go tz D (σ.set i (some (.ref b.b))) H') : Go (tSeq (tAsg (tCall (spBox K) [] E (tCons ta tNil)) (gName i)) tz) D σ H := fun H1 e1 =>
  h H1 e1 _ fun H2 e2 => ⟨a, ns, rfl, ex_l (e1.trans e2) hL, hn, fun b H3 hb hc e3 B => k b H3 (fresh_back (e1.trans e2) hb) (fresh_back (e1.trans e2) hc) ((e1.trans e2).trans e3) B H3 (Ex.refl _)⟩
theorem ok_law_number (T : Tx K mg base) : FnOk P w K mg base CX0 3 T.a_law_number T.d_law_number ["_law_box_here"] (spB K (fun ds => ds = []) (fun _ => isI fun n => -(10 ^ 30) ≤ n ∧ n ≤ 10 ^ 30)) := by
  refine T.F_law_number.ok sc_law_number (fun vs H Q E h => ?_) (fun cdv A outer s H vs Q E hr h => ?_)
  · obtain ⟨b, ws, Hd, ds, rfl, hb, sx, B, hds, rfl, q⟩ := h
    cases hds
    rfl
  · obtain ⟨b, ws, Hd, ds, rfl, hb, sx, B, hds, rfl, q⟩ := h
    cases hds
    refine ⟨_, (pss_cons (ps_ret (pe_ix (r := rIxL K) ix_list (pe_lst (pa_cons (pe_un un_neg (pe_op op_pow pe_int pe_int)) (pa_cons (pe_un un_neg pe_int) (pa_cons pe_int (pa_cons pe_int (pa_cons pe_int (pa_cons pe_int (pa_cons pe_int (pa_cons pe_int (pa_cons pe_int (pa_cons pe_int (pa_cons pe_int (pa_cons pe_int (pa_cons (pe_op op_pow pe_int pe_int) pa_nil)))))))))))))) (pe_call (ok_law_take (P := P) (w := w) T) (hr.mono (by omega)) (by rfl) T.g_law_take T.F_law_take.kp T.b_law_take .nil pass0 (pa_cons (pv 0) (pa_cons pe_int pa_nil))) (fun _ _ => rfl)))
      pss_nil), Go.go ?_⟩
    refine go_retB hb sx B (eb_pick (K := K) (n := 13) ?_ (eb_take (ev_var rfl) ev_c (m := 13) (by decide) (by decide)) (by decide)) q
    refine ap_cons (eb_int (m := -(10 ^ 30)) (ev_is (by walk_at "ev") (by decide)) (by decide)) ?_
    refine ap_cons (eb_int (by walk_at "ev") (by decide)) ?_
    refine ap_cons (eb_int ev_c (by decide)) (ap_cons (eb_int ev_c (by decide)) (ap_cons (eb_int ev_c (by decide)) (ap_cons (eb_int ev_c (by decide)) (ap_cons (eb_int ev_c (by decide)) (ap_cons (eb_int ev_c (by decide)) (ap_cons (eb_int ev_c (by decide)) (ap_cons (eb_int ev_c (by decide)) (ap_cons (eb_int ev_c (by decide)) (ap_cons (eb_int ev_c (by decide)) (ap_cons (eb_int (m := 10 ^ 30) (ev_is (by walk_at "ev") (by decide)) (by decide)) ap_nil))))))))))
theorem eb_number {σ : L2.St} {Hd : Hp} {E : XK} {b : Bid} {ta : TE} (ha : Ev ta σ Hd (.ref b.b)) : EvB K b (tCall (spB K (fun ds => ds = []) (fun _ => isI fun n => -(10 ^ 30) ≤ n ∧ n ≤ 10 ^ 30)) [] E (tCons ta tNil)) σ Hd (isI fun n => -(10 ^ 30) ≤ n ∧ n ≤ 10 ^ 30) := by
  refine EvB.imp (eb_call ha eba_nil fun ds e => e) ?_
  rintro d ⟨ds, rfl, h⟩
  exact h
def dRow (r : List Int) : PyData := .tuple (r.map .int)
def dChart (c : Int) (rows : List (List Int)) : PyData := .tuple [.int c, .tuple (rows.map dRow)]
def isRow (c : Int) (w : Int) (r : List Int) : Bool := decide ((r.length : Int) = w) && r.all fun x => decide (-2 ≤ x) && decide (x < c)
def isChart (c : Int) (rows : List (List Int)) : Bool := isClock c && (decide (1 ≤ (rows.length : Int)) && decide ((rows.length : Int) ≤ 9)) && (decide (1 ≤ (((rows.headD []).length : Nat) : Int)) && decide (((rows.headD []).length : Int) ≤ 9) && rows.all (isRow c (rows.headD []).length))
theorem range_all (ns : List Int) (f : Int → Bool) : (List.range ns.length).map (fun i => PyData.bool (f ((ns[i]?).getD 0))) = (ns.map f).map PyData.bool := by
  apply List.ext_getElem
  · simp
  · intro i h1 h2
    simp at h1 h2
    simp [h1]
theorem range_rows (ns : List (List Int)) (f : List Int → Bool) : (List.range ns.length).map (fun i => PyData.bool (f ((ns[i]?).getD []))) = (ns.map f).map PyData.bool := by
  apply List.ext_getElem
  · simp
  · intro i h1 h2
    simp at h1 h2
    simp [h1]
def R_is_what (vs : List V) (v : V) : Prop := ∃ c x, vs = [.int c, .int x] ∧ v = .bl (decide (-2 ≤ x) && decide (x < c))
theorem ok_is_what (T : Tx K mg base) : FnOk P w K mg base CX0 1 T.a_is_what T.d_is_what ["clock", "one"] (spS R_is_what) := by
  refine T.F_is_what.ok sc_is_what (fun vs H Q E h => ?_) (fun cdv A outer s H vs Q E hr h => ?_)
  · obtain ⟨v, ⟨c, x, rfl, rfl⟩, q⟩ := h
    rfl
  · obtain ⟨v, ⟨c, x, rfl, rfl⟩, q⟩ := h
    refine ⟨_, (pss_cons (ps_ret (pe_chain op_le op_lt (pe_glob (v := .int (-2)) rfl T.c_UNTOLD ⟨_, rfl⟩) (pv 1) (pv 0)))
      pss_nil), Go.go ?_⟩
    apply go_retE (k := q)
    · walk_at "ev"
    · rfl
theorem ev_is_what {σ : L2.St} {H : Hp} {E : XK} {tr : TA} {c x : Int} (h : EvA tr σ H [.int c, .int x]) : Ev (tCall (spS R_is_what) [] E tr) σ H (.bl (decide (-2 ≤ x) && decide (x < c))) := ev_callS h ⟨c, x, rfl, rfl⟩
local macro_rules | `(tactic| walk_at "ev") => `(tactic| ((with_reducible apply ev_is_what); walk_at "ea"))
def spIsRow (K : PySem.W.Frag) : Sp := fun vs H Q _ => ∃ (c w : Int) (v : V) (r : List Int), vs = [.int c, v, .int w] ∧ Dp K H v (dRow r) ∧ r.length ≤ 40000 ∧ ∀ H2, Ex H H2 → Q (.bl (isRow c w r)) H2
theorem ok_is_row (T : Tx K mg base) : FnOk P w K mg base CX0 2 T.a_is_row T.d_is_row ["clock", "row", "wide"] (spIsRow K) := by
  refine T.F_is_row.ok sc_is_row (fun vs H Q E h => ?_) (fun cdv A outer s H vs Q E hr h => ?_)
  · obtain ⟨c, w, v, r, rfl, _⟩ := h
    rfl
  · obtain ⟨c, wd, v, r, rfl, hv, hl, q⟩ := h
    refine ⟨_, (pss_cons (ps_ret (pe_and (pe_cmpR op_eq (pe_callB (r := rLenS K) call_lenQ (by rfl) T.n_len PySem.boot_len (pa_cons (pv 1) pa_nil)) (pv 2) (nomark _)) (pe_one (pe_callB (r := rAll K) (cr_all rfl) (by rfl) T.n_all (by decide +kernel) (pa_cons (pe_lc (own := [("one", 3)]) (g := (gName 3)) (by rfl) sc_is_row.nd (pi_tup (pv 1)) (blkOk_by (own := [("one", 3)]) (N := N_is_row) (sc := defScope s_is_row) (by decide +kernel)) (fun _ _ _ _ _ => (pg_name (i := 3) sc_is_row.nd rfl (.inl rfl) (hf := .inr rfl))) (fun _ _ _ _ _ => pts_nil) (fun _ _ _ _ _ => (pe_call (ok_is_what (P := P) (w := w) T) (hr.mono (by omega)) (by rfl) T.g_is_what T.F_is_what.kp T.b_is_what .nil pass0 (pa_cons (pv 0) (pa_cons (pv 3) pa_nil))))) pa_nil)))))
      pss_nil), Go.go ?_⟩
    apply go_retE (k := q)
    · refine ev_andB (ev_op (ev_lenT (K := K) (ds := r.map .int) (ed_var rfl hv)) (by walk_at "ev") (by walk_at "rv")) (ev_all (K := K) (bs := r.map fun x => decide (-2 ≤ x) && decide (x < c)) ?_)
      rw [← range_all, ← List.length_map (f := PyData.int) (as := r), ← givenD_all]
      refine ed_new (en_lc (ei_tup (K := K) (ds := r.map .int) (ed_var rfl hv)) (by rw [List.length_map]; exact hl) (fun _ => true) _ ?_)
      rintro i σ2 Hn hi e ⟨v, d, h1, h2, rfl⟩
      rw [List.length_map] at hi
      rw [List.getElem?_map, List.getElem?_eq_getElem hi] at h1
      cases h1
      cases h2
      refine ⟨rfl, et_yes, fun _ => ed_bool (ev_is (by walk_at "ev") ?_)⟩
      rw [List.getElem?_eq_getElem hi]
      rfl
    · unfold isRow
      simp [List.all_map, V.int.injEq]
theorem ev_is_row {σ : L2.St} {Hd : Hp} {E : XK} {tr : TA} {c w : Int} {r : List Int} (h : EvDA K tr σ Hd [.int c, dRow r, .int w]) (hl : r.length ≤ 40000) : Ev (tCall (spIsRow K) [] E tr) σ Hd (.bl (isRow c w r)) := fun H s Q q =>
  h H s _ fun vs H2 Hn g hd => by
    cases hd with
    | cons h1 h2 =>
      cases h2 with
      | cons h2 h3 =>
        cases h3 with
        | cons h3 h4 =>
          cases h4
          cases h1
          cases h3
          exact ⟨c, w, _, r, rfl, dp_mono g.sub _ h2, hl, fun H3 e3 => q H3 (g.ex.trans e3)⟩
def spIsChart (K : PySem.W.Frag) : Sp := fun vs H Q _ => ∃ (c : Int) (v : V) (rows : List (List Int)), vs = [v] ∧ Dp K H v (dChart c rows) ∧ rows.length ≤ 40000 ∧ (∀ r ∈ rows, r.length ≤ 40000) ∧ ∀ H2, Ex H H2 → Q (.bl (isChart c rows)) H2
theorem ok_is_chart (T : Tx K mg base) : FnOk P w K mg base CX0 3 T.a_is_chart T.d_is_chart ["chart"] (spIsChart K) := by
  refine T.F_is_chart.ok sc_is_chart (fun vs H Q E h => ?_) (fun cdv A outer s H vs Q E hr h => ?_)
  · obtain ⟨c, v, rows, rfl, _⟩ := h
    rfl
  · obtain ⟨c, v, rows, rfl, hv, hl, hls, q⟩ := h
    refine ⟨_, (pss_cons (ps_asg (pv 0) (pg_tup rfl (pgs_cons (pg_name (i := 1) sc_is_chart.nd rfl (.inr rfl)) (pgs_cons (pg_name (i := 2) sc_is_chart.nd rfl (.inl rfl)) pgs_nil))))
      (pss_cons (ps_if (PW.pt (pw_or (pt_not (pt_val (pe_call (ok_is_clock (P := P) (w := w) T) (hr.mono (by omega)) (by rfl) T.g_is_clock T.F_is_clock.kp T.b_is_clock .nil pass0 (pa_cons (pv 1) pa_nil)))) (pw_or1 (pt_not (pt_chain op_le op_le pe_int (pe_callB (r := rLenS K) call_lenQ (by rfl) T.n_len PySem.boot_len (pa_cons (pv 2) pa_nil)) (pe_glob (v := .int (9)) rfl T.c_MOST_SQUARES ⟨_, rfl⟩)))))) (pss_cons (ps_ret pe_bl)
      pss_nil) pss_nil)
      (pss_cons (ps_set (i := 3) sc_is_chart.nd rfl (.inr rfl) (pe_callB (r := rLenS K) call_lenQ (by rfl) T.n_len PySem.boot_len (pa_cons (pe_ix (r := rIxT K) ix_tup (pv 2) pe_int (fun _ _ => rfl)) pa_nil)))
      (pss_cons (ps_ret (pe_and (pe_chain op_le op_le pe_int (pv 3) (pe_glob (v := .int (9)) rfl T.c_MOST_SQUARES ⟨_, rfl⟩)) (pe_one (pe_callB (r := rAll K) (cr_all rfl) (by rfl) T.n_all (by decide +kernel) (pa_cons (pe_lc (own := [("row", 4)]) (g := (gName 4)) (by rfl) sc_is_chart.nd (pi_tup (pv 2)) (blkOk_by (own := [("row", 4)]) (N := N_is_chart) (sc := defScope s_is_chart) (by decide +kernel)) (fun _ _ _ _ _ => (pg_name (i := 4) sc_is_chart.nd rfl (.inl rfl) (hf := .inr rfl))) (fun _ _ _ _ _ => pts_nil) (fun _ _ _ _ _ => (pe_call (ok_is_row (P := P) (w := w) T) (hr.mono (by omega)) (by rfl) T.g_is_row T.F_is_row.kp T.b_is_row .nil pass0 (pa_cons (pv 1) (pa_cons (pv 4) (pa_cons (pv 3) pa_nil)))))) pa_nil)))))
      pss_nil)))), Go.go ?_⟩
    refine go_two (Ex.refl H) (ed_var rfl hv) ?_
    intro v1 v2 H' Hn g d1 d2
    cases d1
    have hl1 : Ev (tCB (rLenS K) (tCons (tVar 2) tNil)) (((L2.start N_is_chart [v]).set 1 (some (.int c))).set 2 (some v2)) Hn (.int (rows.length : Int)) := ev_is (ev_lenT (K := K) (ds := rows.map dRow) (ed_var rfl d2)) (by rw [List.length_map])
    apply go_when (b := !isClock c || !(decide (1 ≤ (rows.length : Int)) && decide ((rows.length : Int) ≤ 9)))
    · refine EvT.mono g.sub (et_orB (by walk_at "et") (et_not (et_test (ev_chainB ev_c hl1 rv_I0 (by walk_at "ev") rv_I0))))
    · intro e
      refine Go.mono (Ex.refl _) ?_
      apply go_retE (k := fun H2 e2 => q H2 (g.ex.trans e2))
      · walk_at "ev"
      · unfold isChart
        cases h1 : isClock c
        · rfl
        · rw [h1] at e
          cases h2 : (decide (1 ≤ (rows.length : Int)) && decide ((rows.length : Int) ≤ 9))
          · rfl
          · rw [h2] at e
            cases e
    · intro e
      have h1 : isClock c = true := by
        cases h1 : isClock c
        · rw [h1] at e; cases e
        · rfl
      have h2 : (decide (1 ≤ (rows.length : Int)) && decide ((rows.length : Int) ≤ 9)) = true := by
        cases h2 : (decide (1 ≤ (rows.length : Int)) && decide ((rows.length : Int) ≤ 9))
        · rw [h1, h2] at e; cases e
        · rfl
      obtain ⟨r0, rest, rfl⟩ : ∃ r0 rest, rows = r0 :: rest := by
        cases rows with
        | nil => simp at h2
        | cons r0 rest => exact ⟨r0, rest, rfl⟩
      apply go_asg (v := .int (r0.length : Int))
      · refine Ev.mono g.sub (ev_is (ev_lenT (K := K) (ds := r0.map .int) (ed_ixT (ed_var rfl d2) ev_c (d := dRow r0) (atI_nat (j := 0) rfl))) (by rw [List.length_map]))
      apply go_retE (k := fun H2 e2 => q H2 (g.ex.trans e2))
      · refine Ev.mono g.sub (ev_andB (by walk_at "ev") (ev_all (K := K) (bs := (r0 :: rest).map (isRow c r0.length)) ?_))
        rw [← range_rows, ← List.length_map (f := dRow) (as := r0 :: rest), ← givenD_all]
        refine ed_new (en_lc (ei_tup (K := K) (ds := (r0 :: rest).map dRow) (ed_var rfl d2)) (by rw [List.length_map]; exact hl) (fun _ => true) _ ?_)
        rintro i σ2 Hm hi e ⟨v, d, h3, h4, rfl⟩
        rw [List.length_map] at hi
        rw [List.getElem?_map, List.getElem?_eq_getElem hi] at h3
        cases h3
        refine ⟨rfl, et_yes, fun _ => ed_bool (ev_is (ev_is_row (c := c) (w := r0.length) (r := (r0 :: rest)[i]) (eda_cons (ed_int (ev_var rfl)) (eda_cons (ed_var rfl h4) (eda_cons (ed_int (ev_var rfl)) eda_nil))) (hls _ (List.getElem_mem hi))) ?_)⟩
        rw [List.getElem?_eq_getElem hi]
        rfl
      · unfold isChart
        rw [h1, h2, List.all_map]
        rfl
theorem ev_is_chart {σ : L2.St} {Hd : Hp} {E : XK} {tr : TA} {c : Int} {rows : List (List Int)} (h : EvDA K tr σ Hd [dChart c rows]) (hl : rows.length ≤ 40000) (hls : ∀ r ∈ rows, r.length ≤ 40000) : Ev (tCall (spIsChart K) [] E tr) σ Hd (.bl (isChart c rows)) := fun H s Q q =>
  h H s _ fun vs H2 Hn g hd => by
    cases hd with
    | cons h1 h2 =>
      cases h2
      exact ⟨c, _, rows, rfl, dp_mono g.sub _ h1, hl, hls, fun H3 e3 => q H3 (g.ex.trans e3)⟩
def nearHour (rows : List (List Int)) (line : List Int) : Int := if line ≠ [] ∧ 0 ≤ line.getLast?.getD 0 then line.getLast?.getD 0 else if rows ≠ [] then ((rows.getLast?.getD [])[line.length]?).getD 0 else 0
theorem okE_rows (n : Nat) (rows : List (List Int)) : okE (n + 2) (.list (rows.map dRow)) := fun e he => by
  obtain ⟨r, _, rfl⟩ := List.mem_map.mp he
  intro e he
  obtain ⟨i, _, rfl⟩ := List.mem_map.mp he
  cases n <;> trivial
theorem eqv_nil (ds : List PyData) : PyData.eqv (.list ds) (.list []) = decide (ds = []) := by
  unfold PyData.eqv
  cases ds with
  | nil => simp [PyData.eqvAll]
  | cons d ds => simp [PyData.eqvAll]
theorem atI_lastI {α : Type} {xs : List α} (h : xs ≠ []) : atI xs (-1) = xs.getLast? := by
  have hp := List.length_pos_iff.mpr h
  unfold atI ixN
  rw [if_neg (by decide), if_pos (by omega)]
  have e2 : (-1 + (xs.length : Int)).toNat = xs.length - 1 := by omega
  rw [List.getLast?_eq_getElem?]
  show xs[_]? = _
  rw [e2]
def spNear (K : PySem.W.Frag) : Sp := fun vs H Q _ => ∃ (v1 v2 : V) (rows : List (List Int)) (line : List Int), vs = [v1, v2] ∧ Dp K H v1 (.list (rows.map dRow)) ∧ Dp K H v2 (.list (line.map .int)) ∧ (∀ r ∈ rows, line.length < r.length) ∧ ∀ H2, Ex H H2 → Q (.int (nearHour rows line)) H2
theorem ok_law_near_hour (T : Tx K mg base) : FnOk P w K mg base CX0 1 T.a_law_near_hour T.d_law_near_hour ["_law_rows", "_law_line"] (spNear K) := by
  refine T.F_law_near_hour.ok sc_law_near_hour (fun vs H Q E h => ?_) (fun cdv A outer s H vs Q E hr h => ?_)
  · obtain ⟨v1, v2, rows, line, rfl, _⟩ := h
    rfl
  · obtain ⟨v1, v2, rows, line, rfl, d1, d2, hw, q⟩ := h
    refine ⟨_, (pss_cons (ps_if (PW.pt (pw_and (pt_cmpR (r := rNeD K) (op_neD hr.units) (pv 1) (pe_lst pa_nil) (nomark _)) (pw_and1 (pt_cmpR op_ge (pe_ix (r := rIxL K) ix_list (pv 1) (pe_un un_neg pe_int) (fun _ _ => rfl)) pe_int (nomark _))))) (pss_cons (ps_ret (pe_ix (r := rIxL K) ix_list (pv 1) (pe_un un_neg pe_int) (fun _ _ => rfl)))
      pss_nil) pss_nil)
      (pss_cons (ps_ret (pe_ifExp (pt_cmpR (r := rNeD K) (op_neD hr.units) (pv 0) (pe_lst pa_nil) (nomark _)) (pe_ix (r := rIxT K) ix_tup (pe_ix (r := rIxL K) ix_list (pv 0) (pe_un un_neg pe_int) (fun _ _ => rfl)) (pe_callB (r := rLenS K) call_lenQ (by rfl) T.n_len PySem.boot_len (pa_cons (pv 1) pa_nil)) (fun _ _ => rfl)) pe_int))
      pss_nil)), Go.go ?_⟩
    have last1 : line ≠ [] → Ev (tOp (rIxL K) (tVar 1) (tUn (rU fun i => .int (-i)) (tC (.int 1)))) (L2.start N_law_near_hour [v1, v2]) H (.int (line.getLast?.getD 0)) := fun hne => by
      refine ev_int (K := K) (ed_ixL (ed_var rfl d2) (by walk_at "ev") ?_)
      rw [atI_lastI (by simpa using hne), List.getLast?_map]
      cases e : line.getLast? with
      | none => exact absurd (List.getLast?_eq_none_iff.mp e) hne
      | some x => rfl
    apply go_when (b := decide (line ≠ [] ∧ 0 ≤ line.getLast?.getD 0))
    · by_cases hne : line = []
      · refine et_is (et_and (a := false) (b := false) (et_is (et_test (ev_neD (K := K) (e := .list ([] : List PyData)) (ed_var rfl d2) (ed_new (en_lst eda_nil (by simp))) (okE_shaped (okE_ints 0 line) (by decide)) (okE_shaped okE_nil (by decide)))) (by rw [eqv_nil, hne]; rfl)) (fun e => by cases e)) (by simp [hne])
      · refine et_is (et_and (et_is (et_test (ev_neD (K := K) (e := .list ([] : List PyData)) (ed_var rfl d2) (ed_new (en_lst eda_nil (by simp))) (okE_shaped (okE_ints 0 line) (by decide)) (okE_shaped okE_nil (by decide)))) (by rw [eqv_nil])) (fun _ => et_test (ev_op (last1 hne) ev_c rv_I0))) (by simp [hne])
    · intro e
      have e2 := of_decide_eq_true e
      apply go_retE (k := q)
      · exact last1 e2.1
      · unfold nearHour
        rw [if_pos e2]
    · intro e
      have e2 := of_decide_eq_false e
      apply go_retE (k := q) (v' := .int (nearHour rows line))
      · refine ev_if (b := decide (rows ≠ [])) (et_is (et_test (ev_neD (K := K) (e := .list ([] : List PyData)) (ed_var rfl d1) (ed_new (en_lst eda_nil (by simp))) (okE_shaped (okE_rows 0 rows) (by decide)) (okE_shaped okE_nil (by decide)))) (by rw [eqv_nil]; simp)) (fun h => ?_) (fun h => ?_)
        · have hne := of_decide_eq_true h
          obtain ⟨r, hr'⟩ : ∃ r, rows.getLast? = some r := by
            cases e : rows.getLast? with
            | none => exact absurd (List.getLast?_eq_none_iff.mp e) hne
            | some x => exact ⟨x, rfl⟩
          have hlt := hw r (List.mem_of_getLast? hr')
          refine ev_int (K := K) (ed_ixT (ds := r.map .int) (ed_ixL (ed_var rfl d1) (by walk_at "ev") ?_) (ev_lenL (K := K) (ds := line.map .int) (ed_var rfl d2)) ?_)
          · rw [atI_lastI (by simpa using hne), List.getLast?_map, hr']
            rfl
          · unfold nearHour
            rw [if_neg e2, if_pos hne, hr', List.length_map]
            refine atI_nat (j := line.length) ?_
            rw [List.getElem?_map]
            show _ = some (PyData.int ((r[line.length]?).getD 0))
            rw [List.getElem?_eq_getElem hlt]
            rfl
        · have hne := of_decide_eq_false h
          unfold nearHour
          rw [if_neg e2, if_neg hne]
          exact ev_c
      · rfl
theorem ev_near {σ : L2.St} {Hd : Hp} {E : XK} {tr : TA} {rows : List (List Int)} {line : List Int} (h : EvDA K tr σ Hd [.list (rows.map dRow), .list (line.map .int)]) (hw : ∀ r ∈ rows, line.length < r.length) : Ev (tCall (spNear K) [] E tr) σ Hd (.int (nearHour rows line)) := fun H s Q q =>
  h H s _ fun vs H2 Hn g hd => by
    cases hd with
    | cons h1 h2 =>
      cases h2 with
      | cons h2 h3 =>
        cases h3
        exact ⟨_, _, rows, line, rfl, dp_mono g.sub _ h1, dp_mono g.sub _ h2, hw, fun H3 e3 => q H3 (g.ex.trans e3)⟩
def PreSq (ds : List PyData) : Prop := ∃ c land unt calm old : Int, ds = [.int c, .int land, .int unt, .int calm, .int old] ∧ isClock c = true ∧ calm ≤ 5
def RSq (ds : List PyData) (d : PyData) : Prop := ∃ c : Int, ∃ r, ds = .int c :: r ∧ isI (fun x => -2 ≤ x ∧ x < c) d
theorem ok_law_square (T : Tx K mg base) : FnOk P w K mg base CX0 3 T.a_law_square T.d_law_square ["_law_box_here", "_law_clock_here", "_law_land", "_law_untold", "_law_calm", "_law_old"] (spB K PreSq RSq) := by
  refine T.F_law_square.ok sc_law_square (fun vs H Q E h => ?_) (fun cdv A outer s H vs Q E hr h => ?_)
  · obtain ⟨b, ws, Hd, ds, rfl, hb, sx, B, hds, ⟨c, land, unt, calm, old, rfl, hc⟩, q⟩ := h
    rw [List.length_cons, dpa_len hds]
    rfl
  · obtain ⟨b, ws, Hd, ds, rfl, hb, sx, B, hds, ⟨c, land, unt, calm, old, rfl, hc, hcalm⟩, q⟩ := h
    have hws : ws = [.int c, .int land, .int unt, .int calm, .int old] := dpa_ints_inv (ns := [c, land, unt, calm, old]) hds
    subst hws
    have h0 := isClock_iff.mp hc
    refine ⟨_, (pss_cons (ps_set (i := 6) sc_law_square.nd rfl (.inl rfl) (pe_call (ok_law_take (P := P) (w := w) T) (hr.mono (by omega)) (by rfl) T.g_law_take T.F_law_take.kp T.b_law_take .nil pass0 (pa_cons (pv 0) (pa_cons pe_int pa_nil))))
      (pss_cons (ps_if (pt_cmpR op_lt (pv 6) (pv 2) (nomark _)) (pss_cons (ps_ret (pe_un un_neg pe_int))
      pss_nil) pss_nil)
      (pss_cons (ps_if (pt_cmpR op_lt (pv 6) (pe_op op_add (pv 2) (pv 3)) (nomark _)) (pss_cons (ps_ret (pe_un un_neg pe_int))
      pss_nil) pss_nil)
      (pss_cons (ps_if (PW.pt (pw_and (pt_cmpR op_gt (pv 4) pe_int (nomark _)) (pw_and (pt_cmpR op_ge (pv 5) pe_int (nomark _)) (pw_and1 (pt_cmpR op_gt (pe_call (ok_law_take (P := P) (w := w) T) (hr.mono (by omega)) (by rfl) T.g_law_take T.F_law_take.kp T.b_law_take .nil pass0 (pa_cons (pv 0) (pa_cons pe_int pa_nil))) pe_int (nomark _)))))) (pss_cons (ps_ret (pe_op op_mod (pe_op op_sub (pe_op op_add (pv 5) (pe_call (ok_law_take (P := P) (w := w) T) (hr.mono (by omega)) (by rfl) T.g_law_take T.F_law_take.kp T.b_law_take .nil pass0 (pa_cons (pv 0) (pa_cons (pe_op op_add (pe_op op_mul pe_int (pv 4)) pe_int) pa_nil)))) (pv 4)) (pv 1)))
      pss_nil) pss_nil)
      (pss_cons (ps_ret (pe_call (ok_law_take (P := P) (w := w) T) (hr.mono (by omega)) (by rfl) T.g_law_take T.F_law_take.kp T.b_law_take .nil pass0 (pa_cons (pv 0) (pa_cons (pv 1) pa_nil))))
      pss_nil))))), Go.go ?_⟩
    have fin : ∀ (x : Int) (H2 Hn : Hp), -2 ≤ x → x < c → GrB b Hd H Hn H2 → Q (.int x) H2 := fun x H2 Hn h1 h2 g => q _ H2 Hn (.int x) g (.int x) ⟨c, _, rfl, x, rfl, h1, h2⟩
    refine go_asgB hb sx B (eb_take (ev_var rfl) ev_c (m := 12) (by decide) (by decide)) ?_
    rintro v H1 D1 d g1 hd ⟨way, rfl, hway⟩
    cases hd
    apply go_when
    · walk_at "et"
    · intro _
      apply go_retV
      · walk_at "ev"
      exact fun H' e => fin (-1) H' D1 (by decide) (by omega) ⟨fun a o n h => e a o (g1.exb a o n h), g1.dx, g1.sub.trans e, g1.fr, g1.bx.mono e⟩
    intro _
    apply go_when
    · walk_at "et"
    · intro _
      apply go_retV
      · walk_at "ev"
      exact fun H' e => fin (-2) H' D1 (by decide) (by omega) ⟨fun a o n h => e a o (g1.exb a o n h), g1.dx, g1.sub.trans e, g1.fr, g1.bx.mono e⟩
    intro _
    have hb1 := g1.bn hb B
    -- the calm way only where calm is above nought
    by_cases hcp : 0 < calm
    · refine go_whenB hb1 g1.sub g1.bx (ebt_and (ebt_of (by walk_at "et")) (ebt_and (ebt_of (by walk_at "et")) (ebt_I0 (f := fun i j => decide (j < i)) (fun _ _ => rfl) (eb_take (ev_var rfl) ev_c (m := 4) (by decide) (by decide)) (eb_int (q := fun _ => True) ev_c trivial)))) ?_ ?_
      · intro H2 D2 g2
        have hb2 := g2.bn hb1 g1.bx
        refine go_retB hb2 g2.sub g2.bx (P := isI fun x => 0 ≤ x ∧ x < c) (EvB.impI (eb_opI (K := K) (p := fun _ => True) (p' := fun z => z = c) (f := fun i j => i % j) (fun _ _ => rfl) (EvB.impI (eb_opI0 (K := K) (p := fun _ => True) (p' := fun _ => True) (f := fun i j => i - j) (fun _ _ => rfl) (EvB.impI (eb_opI0 (K := K) (p := fun _ => True) (p' := fun _ => True) (f := fun i j => i + j) (fun _ _ => rfl) (eb_int (ev_var rfl) trivial) (EvB.impI (eb_take (ev_var rfl) (m := 2 * calm + 1) (by walk_at "ev") (by omega) (by omega)) fun _ _ => trivial)) fun _ _ => trivial) (eb_int (ev_var rfl) trivial)) fun _ _ => trivial) (eb_ev (ev_var rfl)) (fun i j _ hj => by show 0 < j; omega)) ?_) ?_
        · rintro z ⟨i, j, _, rfl, rfl⟩
          exact ⟨Int.emod_nonneg _ (by omega), Int.emod_lt_of_pos _ (by omega)⟩
        · rintro v H3 D3 d g3 hd ⟨x, rfl, hx⟩
          cases hd
          exact fin x H3 D3 (by omega) hx.2 ((g1.trans g2 hb B).trans g3 hb B)
      · intro H2 D2 g2
        have hb2 := g2.bn hb1 g1.bx
        refine go_retB hb2 g2.sub g2.bx (eb_take (ev_var rfl) (ev_var rfl) (m := c) (by omega) (by omega)) ?_
        rintro v H3 D3 d g3 hd ⟨x, rfl, hx⟩
        cases hd
        exact fin x H3 D3 (by omega) hx.2 ((g1.trans g2 hb B).trans g3 hb B)
    · refine go_whenF (et_is (et_and (a := false) (b := false) (et_is (by walk_at "et") (decide_eq_false hcp)) (fun e => by cases e)) rfl) ?_
      refine go_retB hb1 g1.sub g1.bx (eb_take (ev_var rfl) (ev_var rfl) (m := c) (by omega) (by omega)) ?_
      rintro v H3 D3 d g3 hd ⟨x, rfl, hx⟩
      cases hd
      exact fin x H3 D3 (by omega) hx.2 (g1.trans g3 hb B)
theorem eb_square {σ : L2.St} {Hd : Hp} {E : XK} {b : Bid} {ta t1 t2 t3 t4 t5 : TE} {c land unt calm old : Int} (ha : Ev ta σ Hd (.ref b.b)) (h1 : Ev t1 σ Hd (.int c)) (h2 : Ev t2 σ Hd (.int land)) (h3 : Ev t3 σ Hd (.int unt)) (h4 : Ev t4 σ Hd (.int calm)) (h5 : Ev t5 σ Hd (.int old)) (hc : isClock c = true) (hcalm : calm ≤ 5) :
    EvB K b (tCall (spB K PreSq RSq) [] E (tCons ta (tCons t1 (tCons t2 (tCons t3 (tCons t4 (tCons t5 tNil))))))) σ Hd (isI fun x => -2 ≤ x ∧ x < c) := by
  refine EvB.imp (eb_call ha (Ps := fun ds => ds = [.int c, .int land, .int unt, .int calm, .int old]) ?_ ?_) ?_
  · refine EvBA.imp (eba_cons (eb_ev h1) (eba_cons (eb_ev h2) (eba_cons (eb_ev h3) (eba_cons (eb_ev h4) (eba_cons (eb_ev h5) eba_nil))))) ?_
    rintro ds ⟨d1, e1, rfl, ⟨i1, rfl, rfl⟩, d2, e2, rfl, ⟨i2, rfl, rfl⟩, d3, e3, rfl, ⟨i3, rfl, rfl⟩, d4, e4, rfl, ⟨i4, rfl, rfl⟩, d5, e5, rfl, ⟨i5, rfl, rfl⟩, rfl⟩
    rfl
  · rintro ds rfl
    exact ⟨c, land, unt, calm, old, rfl, hc, hcalm⟩
  · rintro d ⟨ds, rfl, c', r, e, h⟩
    cases e
    exact h
def goodC (m : Int) (c : Int) (rows : List (List Int)) : Prop := isClock c = true ∧ 1 ≤ rows.length ∧ (rows.length : Int) ≤ m ∧ ∃ w : Nat, 1 ≤ w ∧ (w : Int) ≤ m ∧ ∀ r ∈ rows, r.length = w ∧ ∀ x ∈ r, -2 ≤ x ∧ x < c
def PreCh (ds : List PyData) : Prop := ∃ most unt : Int, ds = [.int most, .int unt] ∧ 1 ≤ most ∧ most ≤ 9
def RCh (ds : List PyData) (d : PyData) : Prop := ∃ (most unt c : Int) (rows : List (List Int)), ds = [.int most, .int unt] ∧ d = dChart c rows ∧ goodC most c rows
theorem ok_law_chart (T : Tx K mg base) : FnOk P w K mg base CX0 4 T.a_law_chart T.d_law_chart ["_law_box_here", "_law_most", "_law_untold"] (spB K PreCh RCh) := by
  refine T.F_law_chart.ok sc_law_chart (fun vs H Q E h => ?_) (fun cdv A outer s H vs Q E hr h => ?_)
  · obtain ⟨b, ws, Hd, ds, rfl, hb, sx, B, hds, ⟨m, unt, rfl, hm⟩, q⟩ := h
    rw [List.length_cons, dpa_len hds]
    rfl
  · obtain ⟨b, ws, Hd, ds, rfl, hb, sx, B, hds, ⟨m, unt, rfl, hm1, hm2⟩, q⟩ := h
    have hws : ws = [.int m, .int unt] := dpa_ints_inv (ns := [m, unt]) hds
    subst hws
    refine ⟨_, (pss_cons (ps_set (i := 3) sc_law_chart.nd rfl (.inl rfl) (pe_call (ok_law_clock (P := P) (w := w) T) (hr.mono (by omega)) (by rfl) T.g_law_clock T.F_law_clock.kp T.b_law_clock .nil pass0 (pa_cons (pv 0) pa_nil)))
      (pss_cons (ps_set (i := 4) sc_law_chart.nd rfl (.inl rfl) (pe_op op_add pe_int (pe_call (ok_law_take (P := P) (w := w) T) (hr.mono (by omega)) (by rfl) T.g_law_take T.F_law_take.kp T.b_law_take .nil pass0 (pa_cons (pv 0) (pa_cons (pv 1) pa_nil)))))
      (pss_cons (ps_set (i := 5) sc_law_chart.nd rfl (.inl rfl) (pe_op op_add pe_int (pe_call (ok_law_take (P := P) (w := w) T) (hr.mono (by omega)) (by rfl) T.g_law_take T.F_law_take.kp T.b_law_take .nil pass0 (pa_cons (pv 0) (pa_cons (pv 1) pa_nil)))))
      (pss_cons (ps_set (i := 6) sc_law_chart.nd rfl (.inl rfl) (pe_ix (r := rIxL K) ix_list (pe_lst (pa_cons pe_int (pa_cons pe_int (pa_cons pe_int (pa_cons pe_int (pa_cons pe_int pa_nil)))))) (pe_call (ok_law_take (P := P) (w := w) T) (hr.mono (by omega)) (by rfl) T.g_law_take T.F_law_take.kp T.b_law_take .nil pass0 (pa_cons (pv 0) (pa_cons pe_int pa_nil))) (fun _ _ => rfl)))
      (pss_cons (ps_set (i := 7) sc_law_chart.nd rfl (.inl rfl) (pe_ix (r := rIxL K) ix_list (pe_lst (pa_cons pe_int (pa_cons pe_int (pa_cons (pe_op op_fdiv (pv 3) pe_int) pa_nil)))) (pe_call (ok_law_take (P := P) (w := w) T) (hr.mono (by omega)) (by rfl) T.g_law_take T.F_law_take.kp T.b_law_take .nil pass0 (pa_cons (pv 0) (pa_cons pe_int pa_nil))) (fun _ _ => rfl)))
      (pss_cons (ps_set (i := 8) sc_law_chart.nd rfl (.inl rfl) (pe_lst pa_nil))
      (pss_cons (ps_for PassesOwn.never rfl (pi_range1 (by rfl) T.n_range (pa_cons (pv 4) pa_nil)) (pg_name (i := 9) sc_law_chart.nd rfl (.inl rfl)) (pss_cons (ps_set (i := 10) sc_law_chart.nd rfl (.inl rfl) (pe_lst pa_nil))
      (pss_cons (ps_for PassesOwn.never rfl (pi_range1 (by rfl) T.n_range (pa_cons (pv 5) pa_nil)) (pg_name (i := 11) sc_law_chart.nd rfl (.inl rfl)) (pss_cons (ps_expr (pe_bm PySem.F.plainAttrs_list PySem.F.slot_list_append PySem.F.type_list_append mt_append (pv 10) (pa_cons (pe_call (ok_law_square (P := P) (w := w) T) (hr.mono (by omega)) (by rfl) T.g_law_square T.F_law_square.kp T.b_law_square .nil pass0 (pa_cons (pv 0) (pa_cons (pv 3) (pa_cons (pv 6) (pa_cons (pv 2) (pa_cons (pv 7) (pa_cons (pe_call (ok_law_near_hour (P := P) (w := w) T) (hr.mono (by omega)) (by rfl) T.g_law_near_hour T.F_law_near_hour.kp T.b_law_near_hour .nil pass0 (pa_cons (pv 8) (pa_cons (pv 10) pa_nil))) pa_nil))))))) pa_nil)))
      pss_nil))
      (pss_cons (ps_expr (pe_bm PySem.F.plainAttrs_list PySem.F.slot_list_append PySem.F.type_list_append mt_append (pv 8) (pa_cons (pe_callTy (r := rTupS K) call_tupleQ (by rfl) T.n_tuple (by decide +kernel) (pa_cons (pv 10) pa_nil)) pa_nil)))
      pss_nil))))
      (pss_cons (ps_ret (pe_tup (pa_cons (pv 3) (pa_cons (pe_callTy (r := rTupS K) call_tupleQ (by rfl) T.n_tuple (by decide +kernel) (pa_cons (pv 8) pa_nil)) pa_nil))))
      pss_nil)))))))), Go.go ?_⟩
    refine go_asgB hb sx B (eb_clock (ev_var rfl)) ?_
    rintro v H1 D1 d G1 hd ⟨c, rfl, hc⟩
    cases hd
    have h0 := isClock_iff.mp hc
    have hb1 := G1.bn hb B
    refine go_asgB hb1 G1.sub G1.bx (EvB.impI (q := fun z => 1 ≤ z ∧ z ≤ m) (eb_opI0 (K := K) (p := fun z => z = 1) (f := fun i j => i + j) (fun _ _ => rfl) (eb_ev ev_c) (eb_take (ev_var rfl) (ev_var rfl) (m := m) (by omega) (by omega))) ?_) ?_
    · rintro z ⟨i, j, rfl, hj, rfl⟩
      omega
    rintro v H2 D2 d g2 hd ⟨high, rfl, hhi⟩
    cases hd
    have G2 := G1.trans g2 hb B
    have hb2 := G2.bn hb B
    refine go_asgB hb2 G2.sub G2.bx (EvB.impI (q := fun z => 1 ≤ z ∧ z ≤ m) (eb_opI0 (K := K) (p := fun z => z = 1) (f := fun i j => i + j) (fun _ _ => rfl) (eb_ev ev_c) (eb_take (ev_var rfl) (ev_var rfl) (m := m) (by omega) (by omega))) ?_) ?_
    · rintro z ⟨i, j, rfl, hj, rfl⟩
      omega
    rintro v H3 D3 d g3 hd ⟨wide, rfl, hwi⟩
    cases hd
    have G3 := G2.trans g3 hb B
    have hb3 := G3.bn hb B
    refine go_asgB hb3 G3.sub G3.bx (eb_pick (n := 5) (p := fun _ => True) (ap_cons (eb_int ev_c trivial) (ap_cons (eb_int ev_c trivial) (ap_cons (eb_int ev_c trivial) (ap_cons (eb_int ev_c trivial) (ap_cons (eb_int ev_c trivial) ap_nil))))) (eb_take (ev_var rfl) ev_c (m := 5) (by decide) (by decide)) (by decide)) ?_
    rintro v H4 D4 d g4 hd ⟨land, rfl, _⟩
    cases hd
    have G4 := G3.trans g4 hb B
    have hb4 := G4.bn hb B
    refine go_asgB hb4 G4.sub G4.bx (eb_pick (n := 3) (p := fun z => z ≤ 5) (ap_cons (eb_int ev_c (by decide)) (ap_cons (eb_int ev_c (by decide)) (ap_cons (eb_int (m := c / 3) (by walk_at "ev") (by omega)) ap_nil))) (eb_take (ev_var rfl) ev_c (m := 3) (by decide) (by decide)) (by decide)) ?_
    rintro v H5 D5 d g5 hd ⟨calm, rfl, hcalm⟩
    cases hd
    have G5 := G4.trans g5 hb B
    have hb5 := G5.bn hb B
    refine go_asgN (K := K) G5.sub (en_lst eda_nil (by simp)) ?_
    intro lr xs H6 D6 g6 hl5 hl6 h6 hxs
    cases hxs
    obtain ⟨nb, nca⟩ := G5.bx.apart hl5
    have hl0 := G5.fresh hl5
    have G6 := G5.trans (GrB.of g6 G5.bx) hb B
    refine go_for (K := K) G6.sub (ei_range1 (m := high) (ea_cons (ev_var rfl) ea_nil) (by omega)) (fun Hn i σ' H' => ∃ (Hg : Hp) (rvs : List V) (rows : List (List Int)) (x y z : Option V), GrB b Hd H Hg H' ∧ Ex Hn Hg ∧ Hg lr = none ∧ H' lr = some (.lst rvs) ∧ DpAll K Hg rvs (rows.map dRow) ∧ rows.length = i ∧ (∀ r ∈ rows, r.length = wide.toNat ∧ ∀ x ∈ r, -2 ≤ x ∧ x < c) ∧
      σ' = [some (.ref b.b), some (.int m), some (.int unt), some (.int c), some (.int high), some (.int wide), some (.int land), some (.int calm), some (.ref lr), x, y, z]) ?_ ?_ ?_ ?_
    · intro H' Hn g
      exact ⟨Hn, [], [], none, none, none, G6.trans (GrB.of g G6.bx) hb B, Ex.refl _, g.fr _ _ h6 hl6, g.ex _ _ h6, .nil, rfl, fun _ h => (by cases h), rfl⟩
    · rintro Hn i σ' H' ⟨Hg, rvs, rows, x, y, z, G, e, _⟩
      exact e.trans G.sub
    · rintro Hn i σ' σ2 H7 e hi ⟨Hg, rvs, rows, x, y, z, G, e2, hgl, hlr, hrv, hlen, hrows, rfl⟩ rfl
      have hbg := G.bn hb B
      refine go_asgN (K := K) G.sub (en_lst eda_nil (by simp)) ?_
      intro ll xs H8 D8 g8 hll7 hll8 h8 hxs
      cases hxs
      obtain ⟨nb', nca'⟩ := G.bx.apart hll7
      have hll0 := G.fresh hll7
      have nlr : ll ≠ lr := (ne_of_none hlr hll7).symm
      have G8 := G.trans (GrB.of g8 G.bx) hb B
      have hlr8 := g8.ex _ _ hlr
      have hgl8 := g8.fr _ _ hlr hgl
      have hrv8 := dpa_mono g8.dx _ hrv
      refine go_for (K := K) G8.sub (ei_range1 (m := wide) (ea_cons (ev_var rfl) ea_nil) (by omega)) (fun Hn' j σ' H' => ∃ (line : List Int) (x z : Option V), GrB b Hd H Hn' H' ∧ Ex D8 Hn' ∧ Hn' lr = none ∧ Hn' ll = none ∧ H' lr = some (.lst rvs) ∧ H' ll = some (.lst (line.map V.int)) ∧ line.length = j ∧ (∀ x ∈ line, -2 ≤ x ∧ x < c) ∧
        σ' = [some (.ref b.b), some (.int m), some (.int unt), some (.int c), some (.int high), some (.int wide), some (.int land), some (.int calm), some (.ref lr), x, some (.ref ll), z]) ?_ ?_ ?_ ?_
      · intro H' Hn' g
        exact ⟨[], _, z, G8.trans (GrB.of g G8.bx) hb B, g.dx, g.fr _ _ hlr8 hgl8, g.fr _ _ h8 hll8, g.ex _ _ hlr8, g.ex _ _ h8, rfl, fun _ h => (by cases h), rfl⟩
      · rintro Hn' j σ' H' ⟨line, x, z, G', _⟩
        exact G'.sub
      · rintro Hn' j σ' σ2 H9 e9 hj ⟨line, x, z, G', e10, q1, q2, q3, q4, hln, hline, rfl⟩ rfl
        have hb9 := G'.bn hb B
        -- both lists are data while the square is drawn
        have s1 : Ex (upd (upd Hn' lr (.lst rvs)) ll (.lst (line.map V.int))) H9 := ex_add (ex_add G'.sub q3) q4
        have e11 : Ex Hn' (upd (upd Hn' lr (.lst rvs)) ll (.lst (line.map V.int))) := (Ex.new q1).trans (Ex.new (by rw [upd_ne nlr]; exact q2))
        have b1 : upd (upd Hn' lr (.lst rvs)) ll (.lst (line.map V.int)) b.b = none := by rw [upd_ne nb'.symm, upd_ne nb.symm]; exact hb9
        have d1 : Dp K (upd (upd Hn' lr (.lst rvs)) ll (.lst (line.map V.int))) (.ref lr) (.list (rows.map dRow)) := .lst (sq_of (by rw [upd_ne nlr.symm, upd_same])) (dpa_mono (e10.trans e11) _ hrv8)
        have d2 : Dp K (upd (upd Hn' lr (.lst rvs)) ll (.lst (line.map V.int))) (.ref ll) (.list (line.map .int)) := .lst (sq_of upd_same) (dpa_ints line)
        refine go_appB b1 s1 G'.bx q4 nb' (ev_var rfl) (eb_square (ev_var rfl) (ev_var rfl) (ev_var rfl) (ev_var rfl) (ev_var rfl) (ev_near (rows := rows) (line := line) (eda_cons (ed_var rfl d1) (eda_cons (ed_var rfl d2) eda_nil)) (fun r hr => by rw [(hrows r hr).1]; omega)) hc hcalm) (by rw [List.length_map]; omega) ?_
        rintro v H10 D10 d g10 hd ⟨x1, rfl, hx1⟩
        cases hd
        refine go_next fun H11 e12 => ⟨line ++ [x1], _, _, ((G'.trans (g10.low e11) hb B).mut hll0 q2 nb' nca').post e12, e10, q1, q2, e12 _ _ ?_, e12 _ _ ?_, by rw [List.length_append, hln]; rfl, fun z hz => ?_, rfl⟩
        · rw [upd_ne nlr.symm]
          exact g10.exb _ _ nb q3
        · rw [upd_same, List.map_append]
          rfl
        · rcases List.mem_append.mp hz with hz | hz
          · exact hline z hz
          · rcases List.mem_cons.mp hz with rfl | hz
            · exact hx1
            · cases hz
      · rintro Hn' σ' H9 e9 ⟨line, x, z, G', e10, q1, q2, q3, q4, hln, hline, rfl⟩
        have Ga := G'.add hll0 q2 q4
        have dl : Dp K (upd Hn' ll (.lst (line.map V.int))) (.ref ll) (.list (line.map .int)) := .lst (sq_of upd_same) (dpa_ints line)
        have hb9 := Ga.bn hb B
        refine go_appD (d := dRow line) Ga.sub q3 (ev_var rfl) (ed_tupleL (ed_var rfl dl)) ?_ ?_
        · rw [dpa_len hrv, List.length_map]
          omega
        intro v H10 D10 g10 hdv
        have q5 : D10 lr = none := g10.fr _ _ q3 (by rw [upd_ne nlr.symm]; exact q1)
        refine go_next fun H11 e12 => ⟨D10, rvs ++ [v], rows ++ [line], _, _, _, ((Ga.trans (GrB.of g10 Ga.bx) hb B).mut hl0 q5 nb nca).post e12, ?_, q5, e12 _ _ upd_same, ?_, by rw [List.length_append, hlen]; rfl, fun r hr => ?_, rfl⟩
        · exact (((e2.trans g8.dx).trans e10).trans (Ex.new q2)).trans g10.dx
        · rw [List.map_append]
          exact dpa_app (dpa_mono ((e10.trans (Ex.new q2)).trans g10.dx) _ hrv8) (.cons hdv .nil)
        · rcases List.mem_append.mp hr with hr | hr
          · exact hrows r hr
          · rcases List.mem_cons.mp hr with rfl | hr
            · exact ⟨by omega, hline⟩
            · cases hr
    · rintro Hn σ' H7 e ⟨Hg, rvs, rows, x, y, z, G, e2, hgl, hlr, hrv, hlen, hrows, rfl⟩
      have Ga := G.add hl0 hgl hlr
      have dl : Dp K (upd Hg lr (.lst rvs)) (.ref lr) (.list (rows.map dRow)) := .lst (sq_of upd_same) (dpa_mono (Ex.new hgl) _ hrv)
      refine go_ret (d := dChart c rows) Ga.sub (ed_tup (eda_cons (ed_int (ev_var rfl)) (eda_cons (ed_tupleL (ed_var rfl dl)) eda_nil)) (by simp)) ?_
      intro v H8 D8 g8 hdv
      exact q v H8 D8 _ (Ga.trans (GrB.of g8 Ga.bx) hb B) hdv ⟨m, unt, c, rows, rfl, rfl, hc, by omega, by omega, wide.toNat, by omega, by omega, hrows⟩
theorem eb_chart {σ : L2.St} {Hd : Hp} {E : XK} {b : Bid} {ta t1 t2 : TE} {most unt : Int} (ha : Ev ta σ Hd (.ref b.b)) (h1 : Ev t1 σ Hd (.int most)) (h2 : Ev t2 σ Hd (.int unt)) (hm : 1 ≤ most ∧ most ≤ 9) : EvB K b (tCall (spB K PreCh RCh) [] E (tCons ta (tCons t1 (tCons t2 tNil)))) σ Hd (fun d => ∃ c rows, d = dChart c rows ∧ goodC most c rows) := by
  refine EvB.imp (eb_call ha (Ps := fun ds => ds = [.int most, .int unt]) ?_ ?_) ?_
  · refine EvBA.imp (eba_cons (eb_ev h1) (eba_cons (eb_ev h2) eba_nil)) ?_
    rintro ds ⟨d1, e1, rfl, ⟨i1, rfl, rfl⟩, d2, e2, rfl, ⟨i2, rfl, rfl⟩, rfl⟩
    rfl
  · rintro ds rfl
    exact ⟨most, unt, rfl, hm.1, hm.2⟩
  · rintro d ⟨ds, rfl, m', u', c, rows, e, h, g⟩
    cases e
    exact ⟨c, rows, h, g⟩
def cutG {α : Type} (xs : List α) (lo hi : Option Int) : List α := (xs.drop (HT.sIx xs.length 0 lo)).take (HT.sIx xs.length xs.length hi - HT.sIx xs.length 0 lo)
theorem cutD_map {α : Type} (f : α → PyData) (xs : List α) (lo hi : Option Int) : cutD (xs.map f) lo hi = (cutG xs lo hi).map f := by
  unfold Cot.cutD cutG
  rw [List.length_map, List.map_take, List.map_drop]
theorem cutG_mem {α : Type} {xs : List α} {lo hi : Option Int} {x : α} (h : x ∈ cutG xs lo hi) : x ∈ xs := List.mem_of_mem_drop (List.mem_of_mem_take h)
theorem cutG_len {α : Type} (xs : List α) (lo hi : Option Int) : (cutG xs lo hi).length ≤ xs.length := by
  unfold cutG
  rw [List.length_take, List.length_drop]
  omega
theorem rep_map {α : Type} (f : α → PyData) (xs : List α) : ∀ k : Nat, (List.replicate k (xs.map f)).flatten = ((List.replicate k xs).flatten).map f
  | 0 => rfl
  | k + 1 => by
    rw [List.replicate_succ, List.replicate_succ, List.flatten_cons, List.flatten_cons, List.map_append, rep_map f xs k]
theorem rep_mem {α : Type} {xs : List α} {x : α} : ∀ {k : Nat}, x ∈ (List.replicate k xs).flatten → x ∈ xs
  | 0, h => by cases h
  | k + 1, h => by
    rw [List.replicate_succ, List.flatten_cons] at h
    rcases List.mem_append.mp h with h | h
    · exact h
    · exact rep_mem h
theorem rep_len {α : Type} (xs : List α) : ∀ k : Nat, (List.replicate k xs).flatten.length = k * xs.length
  | 0 => by simp
  | k + 1 => by
    rw [List.replicate_succ, List.flatten_cons, List.length_append, rep_len xs k, Nat.succ_mul]
    omega
def bdC (rows : List (List Int)) : Prop := rows.length ≤ 100 ∧ ∀ r ∈ rows, r.length ≤ 100
def PreBent (ds : List PyData) : Prop := ∃ (c : Int) (rows : List (List Int)), ds = [dChart c rows] ∧ goodC 9 c rows
def RBent (_ : List PyData) (d : PyData) : Prop := ∃ (c : Int) (rows : List (List Int)), d = dChart c rows ∧ bdC rows
theorem all_rows : ∀ {ds : List PyData}, (∀ e ∈ ds, ∃ r, e = dRow r ∧ r.length ≤ 100) → ∃ rows : List (List Int), ds = rows.map dRow ∧ rows.length = ds.length ∧ ∀ r ∈ rows, r.length ≤ 100
  | [], _ => ⟨[], rfl, rfl, fun _ h => by cases h⟩
  | e :: ds, h => by
    obtain ⟨r, rfl, hr⟩ := h e List.mem_cons_self
    obtain ⟨rows, rfl, hl, hrs⟩ := all_rows fun e he => h e (List.mem_cons_of_mem _ he)
    refine ⟨r :: rows, rfl, by rw [List.length_cons, List.length_cons, hl], fun x hx => ?_⟩
    rcases List.mem_cons.mp hx with rfl | hx
    · exact hr
    · exact hrs x hx
theorem ok_law_bent_chart (T : Tx K mg base) : FnOk P w K mg base CX0 4 T.a_law_bent_chart T.d_law_bent_chart ["_law_box_here", "_law_chart_here"] (spB K PreBent RBent) := by
  refine T.F_law_bent_chart.ok sc_law_bent_chart (fun vs H Q E h => ?_) (fun cdv A outer s H vs Q E hr h => ?_)
  · obtain ⟨b, ws, Hd, ds, rfl, hb, sx, B, hds, ⟨c, rows, rfl, hm⟩, q⟩ := h
    rw [List.length_cons, dpa_len hds]
    rfl
  · obtain ⟨b, ws, Hd, ds, rfl, hb, sx, B, hds, ⟨c, rows, rfl, hc, hn1, hn2, wd, hw1, hw2, hrows⟩, q⟩ := h
    obtain ⟨v0, rfl, hv0⟩ : ∃ v0, ws = [v0] ∧ Dp K Hd v0 (dChart c rows) := by
      cases hds with
      | cons h1 h2 => cases h2; exact ⟨_, rfl, h1⟩
    have h0 := isClock_iff.mp hc
    obtain ⟨r0, rest, er⟩ : ∃ r0 rest, rows = r0 :: rest := by
      cases rows with
      | nil => simp at hn1
      | cons r0 rest => exact ⟨r0, rest, rfl⟩
    have hr0 : r0.length = wd := (hrows r0 (by rw [er]; exact List.mem_cons_self)).1
    have bd : bdC rows := ⟨by omega, fun r h => by rw [(hrows r h).1]; omega⟩
    have len9 : rows.length ≤ 9 := by omega
    refine ⟨_, (pss_cons (ps_asg (pv 1) (pg_tup rfl (pgs_cons (pg_name (i := 2) sc_law_bent_chart.nd rfl (.inl rfl)) (pgs_cons (pg_name (i := 3) sc_law_bent_chart.nd rfl (.inl rfl)) pgs_nil))))
      (pss_cons (ps_set (i := 4) sc_law_bent_chart.nd rfl (.inl rfl) (pe_call (ok_law_take (P := P) (w := w) T) (hr.mono (by omega)) (by rfl) T.g_law_take T.F_law_take.kp T.b_law_take .nil pass0 (pa_cons (pv 0) (pa_cons (pe_callB (r := rLenS K) call_lenQ (by rfl) T.n_len PySem.boot_len (pa_cons (pv 3) pa_nil)) pa_nil))))
      (pss_cons (ps_set (i := 5) sc_law_bent_chart.nd rfl (.inl rfl) (pe_call (ok_law_take (P := P) (w := w) T) (hr.mono (by omega)) (by rfl) T.g_law_take T.F_law_take.kp T.b_law_take .nil pass0 (pa_cons (pv 0) (pa_cons (pe_callB (r := rLenS K) call_lenQ (by rfl) T.n_len PySem.boot_len (pa_cons (pe_ix (r := rIxT K) ix_tup (pv 3) pe_int (fun _ _ => rfl)) pa_nil)) pa_nil))))
      (pss_cons (ps_set (i := 6) sc_law_bent_chart.nd rfl (.inl rfl) (pe_call (ok_law_take (P := P) (w := w) T) (hr.mono (by omega)) (by rfl) T.g_law_take T.F_law_take.kp T.b_law_take .nil pass0 (pa_cons (pv 0) (pa_cons pe_int pa_nil))))
      (pss_cons (ps_if (pt_cmpR op_eq (pv 6) pe_int (nomark _)) (pss_cons (ps_ret (pe_tup (pa_cons (pe_call (ok_law_number (P := P) (w := w) T) (hr.mono (by omega)) (by rfl) T.g_law_number T.F_law_number.kp T.b_law_number .nil pass0 (pa_cons (pv 0) pa_nil)) (pa_cons (pv 3) pa_nil))))
      pss_nil) pss_nil)
      (pss_cons (ps_if (pt_cmpR op_eq (pv 6) pe_int (nomark _)) (pss_cons (ps_set (i := 7) sc_law_bent_chart.nd rfl (.inl rfl) (pe_ix (r := rIxL K) ix_list (pe_lst (pa_cons (pe_call (ok_law_number (P := P) (w := w) T) (hr.mono (by omega)) (by rfl) T.g_law_number T.F_law_number.kp T.b_law_number .nil pass0 (pa_cons (pv 0) pa_nil)) (pa_cons (pe_un un_neg pe_int) (pa_cons (pv 2) (pa_cons (pe_op op_sub (pv 2) pe_int) pa_nil))))) (pe_call (ok_law_take (P := P) (w := w) T) (hr.mono (by omega)) (by rfl) T.g_law_take T.F_law_take.kp T.b_law_take .nil pass0 (pa_cons (pv 0) (pa_cons pe_int pa_nil))) (fun _ _ => rfl)))
      (pss_cons (ps_set (i := 8) sc_law_bent_chart.nd rfl (.inl rfl) (pe_op (r := rCatA K) op_catA (pe_op (r := rCatA K) op_catA (pe_slice (r := rSlA K) sl_tupA (pe_ix (r := rIxT K) ix_tup (pv 3) (pv 4) (fun _ _ => rfl)) po_none (po_some (pv 5))) (pe_tup (pa_cons (pv 7) pa_nil))) (pe_slice (r := rSlA K) sl_tupA (pe_ix (r := rIxT K) ix_tup (pv 3) (pv 4) (fun _ _ => rfl)) (po_some (pe_op op_add (pv 5) pe_int)) po_none)))
      (pss_cons (ps_ret (pe_tup (pa_cons (pv 2) (pa_cons (pe_op (r := rCatA K) op_catA (pe_op (r := rCatA K) op_catA (pe_slice (r := rSlA K) sl_tupA (pv 3) po_none (po_some (pv 4))) (pe_tup (pa_cons (pv 8) pa_nil))) (pe_slice (r := rSlA K) sl_tupA (pv 3) (po_some (pe_op op_add (pv 4) pe_int)) po_none)) pa_nil))))
      pss_nil))) pss_nil)
      (pss_cons (ps_if (pt_cmpR op_eq (pv 6) pe_int (nomark _)) (pss_cons (ps_ret (pe_tup (pa_cons (pv 2) (pa_cons (pe_op (r := rCatA K) op_catA (pe_op (r := rCatA K) op_catA (pe_slice (r := rSlA K) sl_tupA (pv 3) po_none (po_some (pv 4))) (pe_tup (pa_cons (pe_op (r := rCatA K) op_catA (pe_ix (r := rIxT K) ix_tup (pv 3) (pv 4) (fun _ _ => rfl)) (pe_tup (pa_cons pe_int pa_nil))) pa_nil))) (pe_slice (r := rSlA K) sl_tupA (pv 3) (po_some (pe_op op_add (pv 4) pe_int)) po_none)) pa_nil))))
      pss_nil) pss_nil)
      (pss_cons (ps_if (pt_cmpR op_eq (pv 6) pe_int (nomark _)) (pss_cons (ps_ret (pe_tup (pa_cons (pv 2) (pa_cons (pe_op (r := rCatA K) op_catA (pe_op (r := rCatA K) op_catA (pe_slice (r := rSlA K) sl_tupA (pv 3) po_none (po_some (pv 4))) (pe_tup (pa_cons (pe_slice (r := rSlA K) sl_tupA (pe_ix (r := rIxT K) ix_tup (pv 3) (pv 4) (fun _ _ => rfl)) (po_some pe_int) po_none) pa_nil))) (pe_slice (r := rSlA K) sl_tupA (pv 3) (po_some (pe_op op_add (pv 4) pe_int)) po_none)) pa_nil))))
      pss_nil) pss_nil)
      (pss_cons (ps_if (pt_cmpR op_eq (pv 6) pe_int (nomark _)) (pss_cons (ps_ret (pe_tup (pa_cons (pv 2) (pa_cons (pe_op (r := rCatA K) op_catA (pe_slice (r := rSlA K) sl_tupA (pv 3) po_none (po_some (pv 4))) (pe_slice (r := rSlA K) sl_tupA (pv 3) (po_some (pe_op op_add (pv 4) pe_int)) po_none)) pa_nil))))
      pss_nil) pss_nil)
      (pss_cons (ps_if (pt_cmpR op_eq (pv 6) pe_int (nomark _)) (pss_cons (ps_ret (pe_tup (pa_cons (pv 2) (pa_cons (pe_slice (r := rSlA K) sl_tupA (pe_op (r := rRepT K) op_repT (pv 3) pe_int) po_none (po_some (pe_op op_add pe_int (pe_call (ok_law_take (P := P) (w := w) T) (hr.mono (by omega)) (by rfl) T.g_law_take T.F_law_take.kp T.b_law_take .nil pass0 (pa_cons (pv 0) (pa_cons pe_int pa_nil)))))) pa_nil))))
      pss_nil) pss_nil)
      (pss_cons (ps_if (pt_cmpR op_eq (pv 6) pe_int (nomark _)) (pss_cons (ps_ret (pe_tup (pa_cons (pv 2) (pa_cons (pe_callTy (r := rTupS K) call_tupleQ (by rfl) T.n_tuple (by decide +kernel) (pa_cons (pe_lc (own := [("_law_line", 8)]) (g := (gName 8)) (by rfl) sc_law_bent_chart.nd (pi_tup (pv 3)) (blkOk_by (own := [("_law_line", 8)]) (N := N_law_bent_chart) (sc := defScope s_law_bent_chart) (by decide +kernel)) (fun _ _ _ _ _ => (pg_name (i := 8) sc_law_bent_chart.nd rfl (.inl rfl) (hf := .inr rfl))) (fun _ _ _ _ _ => pts_nil) (fun _ _ _ _ _ => (pe_slice (r := rSlA K) sl_tupA (pe_op (r := rRepT K) op_repT (pv 8) pe_int) po_none (po_some (pe_op op_add pe_int (pe_call (ok_law_take (P := P) (w := w) T) (hr.mono (by omega)) (by rfl) T.g_law_take T.F_law_take.kp T.b_law_take .nil pass0 (pa_cons (pv 0) (pa_cons pe_int pa_nil)))))))) pa_nil)) pa_nil))))
      pss_nil) pss_nil)
      (pss_cons (ps_ret (pv 1))
      pss_nil)))))))))))), Go.go ?_⟩
    refine go_two sx (ed_var rfl hv0) ?_
    intro v1 v2 H1 D1 g1 dc1 dr1
    cases dc1
    have G1 := GrB.of g1 B
    have hb1 := G1.bn hb B
    have dr : ∀ {D : Hp}, Ex D1 D → Dp K D v2 (.tuple (rows.map dRow)) := fun e => dp_mono e _ dr1
    refine go_asgB hb1 G1.sub G1.bx (eb_take (ev_var rfl) (m := (rows.length : Int)) (ev_is (ev_lenT (K := K) (ds := rows.map dRow) (ed_var rfl dr1)) (by rw [List.length_map])) (by omega) (by omega)) ?_
    rintro v H2 D2 d g2 hd ⟨a2, rfl, ha⟩
    cases hd
    obtain ⟨at', rfl⟩ : ∃ j : Nat, a2 = (j : Int) := ⟨a2.toNat, by omega⟩
    have G2 := G1.trans g2 hb B
    have hb2 := G2.bn hb B
    refine go_asgB hb2 G2.sub G2.bx (eb_take (ev_var rfl) (m := (wd : Int)) (ev_is (ev_lenT (K := K) (ds := r0.map .int) (ed_ixT (ed_var rfl (dr g2.dx)) ev_c (d := dRow r0) (atI_nat (j := 0) (by rw [er]; rfl)))) (by rw [List.length_map, hr0])) (by omega) (by omega)) ?_
    rintro v H3 D3 d g3 hd ⟨a3, rfl, ha3⟩
    cases hd
    obtain ⟨col, rfl⟩ : ∃ j : Nat, a3 = (j : Int) := ⟨a3.toNat, by omega⟩
    have G3 := G2.trans g3 hb B
    have hb3 := G3.bn hb B
    have dr3 := dr (g2.dx.trans g3.dx)
    refine go_asgB hb3 G3.sub G3.bx (eb_take (ev_var rfl) ev_c (m := 9) (by decide) (by decide)) ?_
    rintro v H4 D4 d g4 hd ⟨way, rfl, hway⟩
    cases hd
    have G4 := G3.trans g4 hb B
    have hb4 := G4.bn hb B
    have dr4 := dr ((g2.dx.trans g3.dx).trans g4.dx)
    have dv4 : Dp K D4 v0 (dChart c rows) := dp_mono (((g1.dx.trans g2.dx).trans g3.dx).trans g4.dx) _ hv0
    have hlt : at' < rows.length := by omega
    have hra : (rows.map dRow)[at']? = some (dRow rows[at']) := by
      rw [List.getElem?_map, List.getElem?_eq_getElem hlt]
      rfl
    have lrow : ∀ r ∈ rows, r.length ≤ 9 := fun r h => by rw [(hrows r h).1]; omega
    have la := lrow _ (List.getElem_mem hlt)
    apply go_when
    · walk_at "et"
    · intro _
      refine go_retB hb4 G4.sub G4.bx (eb_tup (eba_cons (eb_number (ev_var rfl)) (eba_cons (eb_ed (ed_var rfl dr4)) eba_nil)) ?_) ?_
      · rintro ds ⟨d1, e1, rfl, ⟨n, rfl, _⟩, d2, e2, rfl, rfl, rfl⟩
        simp
      · rintro v H5 D5 d g5 hdv ⟨ds, rfl, d1, e1, rfl, ⟨n, rfl, _⟩, d2, e2, rfl, rfl, rfl⟩
        exact q v H5 D5 _ (G4.trans g5 hb B) hdv ⟨n, rows, rfl, bd⟩
    intro _
    -- the pieces of the rows about the place
    have cutLen : ∀ lo hi, (cutG rows lo hi).length ≤ 9 := fun lo hi => Nat.le_trans (cutG_len _ _ _) len9
    have fin : ∀ {H' : Hp} {Dn : Hp} {G : GrB b Hd H Dn H'} {v : V} {rs : List (List Int)} {H5 D5 : Hp}, Gr Dn H' D5 H5 → Dp K D5 v (dChart c rs) → bdC rs → Q v H5 := fun {H' Dn G v rs H5 D5} g5 hdv hbd => q v H5 D5 _ (G.trans (GrB.of g5 G.bx) hb B) hdv ⟨c, rs, rfl, hbd⟩
    have bdApp : ∀ {l1 l2 l3 : List (List Int)}, l1.length + l2.length + l3.length ≤ 100 → (∀ r ∈ l1, r.length ≤ 100) → (∀ r ∈ l2, r.length ≤ 100) → (∀ r ∈ l3, r.length ≤ 100) → bdC (l1 ++ l2 ++ l3) := fun {l1 l2 l3} h a1 a2 a3 => ⟨by rw [List.length_append, List.length_append]; exact h, fun r hr => by
      rcases List.mem_append.mp hr with hr | hr
      · rcases List.mem_append.mp hr with hr | hr
        · exact a1 r hr
        · exact a2 r hr
      · exact a3 r hr⟩
    have cutBd : ∀ lo hi, ∀ r ∈ cutG rows lo hi, r.length ≤ 100 := fun lo hi r h => Nat.le_trans (lrow r (cutG_mem h)) (by decide)
    apply go_when
    · walk_at "et"
    · intro _
      refine go_asgB hb4 G4.sub G4.bx (eb_pick (n := 4) (p := fun _ => True) (ap_cons (EvB.impI (eb_number (ev_var rfl)) fun _ _ => trivial) (ap_cons (eb_int (by walk_at "ev") trivial) (ap_cons (eb_int (ev_var rfl) trivial) (ap_cons (eb_int (by walk_at "ev") trivial) ap_nil)))) (eb_take (ev_var rfl) ev_c (m := 4) (by decide) (by decide)) (by decide)) ?_
      rintro v H5 D5 d g5 hd ⟨odd, rfl, _⟩
      cases hd
      have G5 := G4.trans g5 hb B
      have dr5 := dp_mono g5.dx _ dr4
      have one : ∀ (x : Int), cutG (rows[at']) none (some x) ++ [odd] ++ cutG (rows[at']) (some (x + 1)) none = cutG (rows[at']) none (some x) ++ [odd] ++ cutG (rows[at']) (some (x + 1)) none := fun _ => rfl
      have ll : ∀ lo hi, (cutG rows[at'] lo hi).length ≤ 9 := fun lo hi => Nat.le_trans (cutG_len _ _ _) la
      refine go_asgD (K := K) G5.sub (d := dRow (cutG (rows[at']) none (some (col : Int)) ++ [odd] ++ cutG (rows[at']) (some ((col : Int) + 1)) none)) ?_ ?_
      · unfold dRow
        rw [List.map_append, List.map_append, ← cutD_map, ← cutD_map]
        refine ed_catT (ed_catT (ed_slT (ed_ixT (ed_var rfl dr5) (ev_var rfl) (atI_nat hra)) eo_none (eo_some (ev_var rfl))) (ed_tup (eda_cons (ed_int (ev_var rfl)) eda_nil) (by simp)) ?_) (ed_slT (ed_ixT (ed_var rfl dr5) (ev_var rfl) (atI_nat hra)) (eo_some (by walk_at "ev")) eo_none) ?_
        · have := ll none (some (col : Int))
          rw [cutD_map, List.length_map]
          simp
          omega
        · have h1 := ll none (some (col : Int))
          have h2 := ll (some ((col : Int) + 1)) none
          rw [cutD_map, cutD_map, List.length_append, List.length_map, List.length_map]
          simp
          omega
      intro v6 H6 D6 g6 dl6
      have G6 := G5.trans (GrB.of g6 G5.bx) hb B
      have dr6 := dp_mono g6.dx _ dr5
      refine go_ret (K := K) (d := dChart c (cutG rows none (some (at' : Int)) ++ [cutG (rows[at']) none (some (col : Int)) ++ [odd] ++ cutG (rows[at']) (some ((col : Int) + 1)) none] ++ cutG rows (some ((at' : Int) + 1)) none)) G6.sub ?_ ?_
      · unfold dChart
        rw [List.map_append, List.map_append, ← cutD_map, ← cutD_map]
        refine ed_tup (eda_cons (ed_int (ev_var rfl)) (eda_cons (ed_catT (ed_catT (ed_slT (ed_var rfl dr6) eo_none (eo_some (ev_var rfl))) (ed_tup (eda_cons (ed_var rfl dl6) eda_nil) (by simp)) ?_) (ed_slT (ed_var rfl dr6) (eo_some (by walk_at "ev")) eo_none) ?_) eda_nil)) (by simp)
        · have := cutLen none (some (at' : Int))
          rw [cutD_map, List.length_map]
          simp
          omega
        · have h1 := cutLen none (some (at' : Int))
          have h2 := cutLen (some ((at' : Int) + 1)) none
          rw [cutD_map, cutD_map, List.length_append, List.length_map, List.length_map]
          simp
          omega
      · intro v7 H7 D7 g7 dv7
        refine fin (G := G6) g7 dv7 (bdApp ?_ (cutBd _ _) (fun r hr => ?_) (cutBd _ _))
        · have h1 := cutLen none (some (at' : Int))
          have h2 := cutLen (some ((at' : Int) + 1)) none
          simp
          omega
        · rcases List.mem_cons.mp hr with rfl | hr
          · have h1 := ll none (some (col : Int))
            have h2 := ll (some ((col : Int) + 1)) none
            rw [List.length_append, List.length_append]
            simp
            omega
          · cases hr
    intro _
    -- a row put in another's place
    have swap : ∀ {te : TE} {r' : List Int}, EvD K te ((((((L2.start N_law_bent_chart [.ref b.b, v0]).set 2 (some (.int c))).set 3 (some v2)).set 4 (some (.int (at' : Int)))).set 5 (some (.int (col : Int)))).set 6 (some (.int way))) D4 (dRow r') →
        EvD K (tTup (tCons (tVar 2) (tCons (tOp (rCatA K) (tOp (rCatA K) (tSl (rSlA K) (tVar 3) tNoPart (tPart (tVar 4))) (tTup (tCons te tNil))) (tSl (rSlA K) (tVar 3) (tPart (tOp (rI0 fun i j => .int (i + j)) (tVar 4) (tC (.int 1)))) tNoPart)) tNil))) ((((((L2.start N_law_bent_chart [.ref b.b, v0]).set 2 (some (.int c))).set 3 (some v2)).set 4 (some (.int (at' : Int)))).set 5 (some (.int (col : Int)))).set 6 (some (.int way))) D4 (dChart c (cutG rows none (some (at' : Int)) ++ [r'] ++ cutG rows (some ((at' : Int) + 1)) none)) := fun {te r'} hte => by
      unfold dChart
      rw [List.map_append, List.map_append, ← cutD_map, ← cutD_map]
      refine ed_tup (eda_cons (ed_int (ev_var rfl)) (eda_cons (ed_catT (ed_catT (ed_slT (ed_var rfl dr4) eo_none (eo_some (ev_var rfl))) (ed_tup (eda_cons hte eda_nil) (by simp)) ?_) (ed_slT (ed_var rfl dr4) (eo_some (by walk_at "ev")) eo_none) ?_) eda_nil)) (by simp)
      · have := cutLen none (some (at' : Int))
        rw [cutD_map, List.length_map]
        simp
        omega
      · have h1 := cutLen none (some (at' : Int))
        have h2 := cutLen (some ((at' : Int) + 1)) none
        rw [cutD_map, cutD_map, List.length_append, List.length_map, List.length_map]
        simp
        omega
    have swapBd : ∀ {r' : List Int}, r'.length ≤ 100 → bdC (cutG rows none (some (at' : Int)) ++ [r'] ++ cutG rows (some ((at' : Int) + 1)) none) := fun {r'} h => by
      refine bdApp ?_ (cutBd _ _) (fun r hr => ?_) (cutBd _ _)
      · have h1 := cutLen none (some (at' : Int))
        have h2 := cutLen (some ((at' : Int) + 1)) none
        simp
        omega
      · rcases List.mem_cons.mp hr with rfl | hr
        · exact h
        · cases hr
    apply go_when
    · walk_at "et"
    · intro _
      refine go_ret G4.sub (swap (r' := rows[at'] ++ [0]) ?_) fun v5 H5 D5 g5 dv5 => fin (G := G4) g5 dv5 (swapBd (by rw [List.length_append]; simp; omega))
      unfold dRow
      rw [List.map_append]
      refine ed_catT (ed_ixT (ed_var rfl dr4) (ev_var rfl) (atI_nat hra)) (ed_tup (eda_cons (ed_int ev_c) eda_nil) (by simp)) (by rw [List.length_map]; simp; omega)
    intro _
    apply go_when
    · walk_at "et"
    · intro _
      refine go_ret G4.sub (swap (r' := cutG rows[at'] (some 1) none) ?_) fun v5 H5 D5 g5 dv5 => fin (G := G4) g5 dv5 (swapBd (Nat.le_trans (cutG_len _ _ _) (by omega)))
      unfold dRow
      rw [← cutD_map]
      exact ed_slT (ed_ixT (ed_var rfl dr4) (ev_var rfl) (atI_nat hra)) (eo_some ev_c) eo_none
    intro _
    apply go_when
    · walk_at "et"
    · intro _
      refine go_ret (K := K) (d := dChart c (cutG rows none (some (at' : Int)) ++ [] ++ cutG rows (some ((at' : Int) + 1)) none)) G4.sub ?_ fun v5 H5 D5 g5 dv5 => fin (G := G4) g5 dv5 (bdApp ?_ (cutBd _ _) (fun _ h => by cases h) (cutBd _ _))
      · unfold dChart
        rw [List.append_nil, List.map_append, ← cutD_map, ← cutD_map]
        refine ed_tup (eda_cons (ed_int (ev_var rfl)) (eda_cons (ed_catT (ed_slT (ed_var rfl dr4) eo_none (eo_some (ev_var rfl))) (ed_slT (ed_var rfl dr4) (eo_some (by walk_at "ev")) eo_none) ?_) eda_nil)) (by simp)
        have h1 := cutLen none (some (at' : Int))
        have h2 := cutLen (some ((at' : Int) + 1)) none
        rw [cutD_map, cutD_map, List.length_map, List.length_map]
        omega
      · have h1 := cutLen none (some (at' : Int))
        have h2 := cutLen (some ((at' : Int) + 1)) none
        simp
        omega
    intro _
    apply go_when
    · walk_at "et"
    · intro _
      refine go_retB hb4 G4.sub G4.bx (eb_tup (eba_cons (eb_ev (ev_var rfl)) (eba_cons (eb_slT (p := fun _ => True) (ed_repT (k := 10) (ed_var rfl dr4) ev_c (by rw [er]; simp) (by decide) (by rw [List.length_map]; omega)) (EvB.impI (eb_opI0 (K := K) (p := fun _ => True) (f := fun i j => i + j) (fun _ _ => rfl) (eb_int ev_c trivial) (eb_take (ev_var rfl) ev_c (m := 2) (by decide) (by decide))) fun _ _ => trivial)) eba_nil)) ?_) ?_
      · rintro ds ⟨d1, e1, rfl, ⟨n, rfl, _⟩, d2, e2, rfl, _, rfl⟩
        simp
      · rintro v H5 D5 d g5 hdv ⟨ds, rfl, d1, e1, rfl, ⟨n, rfl, rfl⟩, d2, e2, rfl, ⟨i, _, rfl⟩, rfl⟩
        rw [rep_map, cutD_map] at hdv
        refine q v H5 D5 _ (G4.trans g5 hb B) hdv ⟨_, _, rfl, Nat.le_trans (cutG_len _ _ _) ?_, fun r hr => Nat.le_trans (lrow r (rep_mem (cutG_mem hr))) (by decide)⟩
        rw [rep_len]
        show 10 * rows.length ≤ 100
        omega
    intro _
    apply go_when
    · walk_at "et"
    · intro _
      refine go_retB hb4 G4.sub G4.bx (eb_tup (eba_cons (eb_ev (ev_var rfl)) (eba_cons (eb_tupleL (eb_lc (PP := fun e => ∃ r, e = dRow r ∧ r.length ≤ 100) (ei_tup (K := K) (ds := rows.map dRow) (ed_var rfl dr4)) (by rw [List.length_map]; omega) ?_)) eba_nil)) ?_) ?_
      · rintro i σ2 Hm hi e ⟨v, d, h3, h4, rfl⟩
        rw [List.length_map] at hi
        rw [List.getElem?_map, List.getElem?_eq_getElem hi] at h3
        cases h3
        have hri := hrows _ (List.getElem_mem hi)
        refine ⟨rfl, EvB.imp (eb_slT (p := fun _ => True) (ed_repT (k := 10) (ed_var rfl h4) ev_c (by intro z; have := congrArg List.length z; rw [List.length_map, hri.1] at this; simp at this; omega) (by decide) (by rw [List.length_map, hri.1]; omega)) (EvB.impI (eb_opI0 (K := K) (p := fun _ => True) (f := fun i j => i + j) (fun _ _ => rfl) (eb_int ev_c trivial) (eb_take (ev_var rfl) ev_c (m := 2) (by decide) (by decide))) fun _ _ => trivial)) ?_⟩
        rintro d ⟨i2, _, rfl⟩
        rw [rep_map, cutD_map]
        refine ⟨_, rfl, Nat.le_trans (cutG_len _ _ _) ?_⟩
        rw [rep_len, hri.1]
        show 10 * wd ≤ 100
        omega
      · rintro ds ⟨d1, e1, rfl, ⟨n, rfl, _⟩, d2, e2, rfl, _, rfl⟩
        simp
      · rintro v H5 D5 d g5 hdv ⟨ds, rfl, d1, e1, rfl, ⟨n, rfl, rfl⟩, d2, e2, rfl, ⟨es, rfl, hl, hes⟩, rfl⟩
        obtain ⟨rs, rfl, hl2, hrs⟩ := all_rows hes
        exact q v H5 D5 _ (G4.trans g5 hb B) hdv ⟨_, rs, rfl, by rw [hl2, hl, List.length_map]; omega, hrs⟩
    intro _
    exact go_ret G4.sub (ed_var rfl dv4) fun v5 H5 D5 g5 dv5 => fin (G := G4) g5 dv5 bd
theorem in_clocks_all (c : Int) : inV (.int c) [.int 3, .int 5, .int 7, .int 9, .int 11, .int 13, .int 15] = isClock c := by
  by_cases h : 3 ≤ c ∧ c ≤ 15
  · have e : c = 3 ∨ c = 4 ∨ c = 5 ∨ c = 6 ∨ c = 7 ∨ c = 8 ∨ c = 9 ∨ c = 10 ∨ c = 11 ∨ c = 12 ∨ c = 13 ∨ c = 14 ∨ c = 15 := by omega
    rcases e with rfl | rfl | rfl | rfl | rfl | rfl | rfl | rfl | rfl | rfl | rfl | rfl | rfl <;> decide +kernel
  · have e1 : isClock c = false := by
      cases e : isClock c with
      | false => rfl
      | true =>
        have := isClock_iff.mp e
        omega
    rw [e1]
    have ne : ∀ k : Int, 3 ≤ k → k ≤ 15 → eqV (.int k) (.int c) = false := fun k h1 h2 => by
      simp only [eqV]
      first | exact decide_eq_false (by intro z; cases z; omega) | (rw [beq_eq_false_iff_ne]; intro z; omega) | (simp; omega)
    simp only [inV, List.any_cons, List.any_nil, ne 3 (by decide) (by decide), ne 5 (by decide) (by decide), ne 7 (by decide) (by decide), ne 9 (by decide) (by decide), ne 11 (by decide) (by decide), ne 13 (by decide) (by decide), ne 15 (by decide) (by decide)]
    rfl
theorem ok_law_is_chart (T : Tx K mg base) : FnOk P w K mg base CX0 1 T.a_law_is_chart T.d_law_is_chart ["_law_chart_here"] (spIsChart K) := by
  refine T.F_law_is_chart.ok sc_law_is_chart (fun vs H Q E h => ?_) (fun cdv A outer s H vs Q E hr h => ?_)
  · obtain ⟨c, v, rows, rfl, _⟩ := h
    rfl
  · obtain ⟨c, v, rows, rfl, hv, hl, hls, q⟩ := h
    refine ⟨_, (pss_cons (ps_asg (pv 0) (pg_tup rfl (pgs_cons (pg_name (i := 1) sc_law_is_chart.nd rfl (.inr rfl)) (pgs_cons (pg_name (i := 2) sc_law_is_chart.nd rfl (.inl rfl)) pgs_nil))))
      (pss_cons (ps_if (PW.pt (pw_or (pt_cmpR (r := rIn K true) op_notIn_seq (pv 1) (pe_tup (pa_cons pe_int (pa_cons pe_int (pa_cons pe_int (pa_cons pe_int (pa_cons pe_int (pa_cons pe_int (pa_cons pe_int pa_nil)))))))) (by rfl)) (pw_or1 (pt_cmpR (r := rInR true) op_notInR (pe_callB (r := rLenS K) call_lenQ (by rfl) T.n_len PySem.boot_len (pa_cons (pv 2) pa_nil)) (pe_callTy (r := rRg2) call_rangeQ (by rfl) T.n_range (by decide +kernel) (pa_cons pe_int (pa_cons pe_int pa_nil))) (by rfl))))) (pss_cons (ps_ret pe_bl)
      pss_nil) pss_nil)
      (pss_cons (ps_if (pt_cmpR (r := rInR true) op_notInR (pe_callB (r := rLenS K) call_lenQ (by rfl) T.n_len PySem.boot_len (pa_cons (pe_ix (r := rIxT K) ix_tup (pv 2) pe_int (fun _ _ => rfl)) pa_nil)) (pe_callTy (r := rRg2) call_rangeQ (by rfl) T.n_range (by decide +kernel) (pa_cons pe_int (pa_cons pe_int pa_nil))) (by rfl)) (pss_cons (ps_ret pe_bl)
      pss_nil) pss_nil)
      (pss_cons (ps_for PassesOwn.never rfl (pi_tup (pv 2)) (pg_name (i := 3) sc_law_is_chart.nd rfl (.inl rfl)) (pss_cons (ps_if (PW.pt (pw_or (pt_cmpR op_ne (pe_callB (r := rLenS K) call_lenQ (by rfl) T.n_len PySem.boot_len (pa_cons (pv 3) pa_nil)) (pe_callB (r := rLenS K) call_lenQ (by rfl) T.n_len PySem.boot_len (pa_cons (pe_ix (r := rIxT K) ix_tup (pv 2) pe_int (fun _ _ => rfl)) pa_nil)) (nomark _)) (pw_or1 (pt_not (pt_val (pe_callB (r := rAll K) (cr_all rfl) (by rfl) T.n_all (by decide +kernel) (pa_cons (pe_lc (own := [("_law_one", 4)]) (g := (gName 4)) (by rfl) sc_law_is_chart.nd (pi_tup (pv 3)) (blkOk_by (own := [("_law_one", 4)]) (N := N_law_is_chart) (sc := defScope s_law_is_chart) (by decide +kernel)) (fun _ _ _ _ _ => (pg_name (i := 4) sc_law_is_chart.nd rfl (.inl rfl) (hf := .inr rfl))) (fun _ _ _ _ _ => pts_nil) (fun _ _ _ _ _ => (pe_chain op_le op_lt (pe_un un_neg pe_int) (pv 4) (pv 1)))) pa_nil))))))) (pss_cons (ps_ret pe_bl)
      pss_nil) pss_nil)
      pss_nil))
      (pss_cons (ps_ret pe_bl)
      pss_nil))))), Go.go ?_⟩
    refine go_two (Ex.refl H) (ed_var rfl hv) ?_
    intro v1 v2 H' Hn g d1 d2
    cases d1
    have hl1 : Ev (tCB (rLenS K) (tCons (tVar 2) tNil)) (((L2.start N_law_is_chart [v]).set 1 (some (.int c))).set 2 (some v2)) Hn (.int (rows.length : Int)) := ev_is (ev_lenT (K := K) (ds := rows.map dRow) (ed_var rfl d2)) (by rw [List.length_map])
    apply go_when (b := !isClock c || !decide (1 ≤ (rows.length : Int) ∧ (rows.length : Int) < 10))
    · refine EvT.mono g.sub (et_orB (et_test ?_) (et_test (ev_inR (neg := true) hl1 (ea_cons ev_c (ea_cons ev_c ea_nil)))))
      refine ev_is (ev_niU (K := K) (xs := [.int 3, .int 5, .int 7, .int 9, .int 11, .int 13, .int 15]) (ev_var rfl) (eu_tup (by walk_at "ea") (by simp)) rfl (by rfl)) (by rw [in_clocks_all])
    · intro e
      apply go_retE (k := fun H2 e2 => q H2 (g.ex.trans e2))
      · walk_at "ev"
      · unfold isChart
        cases h1 : isClock c
        · rfl
        · rw [h1] at e
          have h2 : ¬ (1 ≤ (rows.length : Int) ∧ (rows.length : Int) < 10) := by
            intro z
            rw [decide_eq_true z] at e
            cases e
          have h3 : (decide (1 ≤ (rows.length : Int)) && decide ((rows.length : Int) ≤ 9)) = false := by
            rw [← Bool.decide_and]
            exact decide_eq_false (by omega)
          rw [h3]
          rfl
    · intro e
      have h1 : isClock c = true := by
        cases h1 : isClock c
        · rw [h1] at e; cases e
        · rfl
      have h2 : 1 ≤ (rows.length : Int) ∧ (rows.length : Int) < 10 := by
        rw [h1] at e
        simpa using e
      have h3 : (decide (1 ≤ (rows.length : Int)) && decide ((rows.length : Int) ≤ 9)) = true := by
        rw [← Bool.decide_and]
        exact decide_eq_true (by omega)
      obtain ⟨r0, rest, rfl⟩ : ∃ r0 rest, rows = r0 :: rest := by
        cases rows with
        | nil => simp at h2
        | cons r0 rest => exact ⟨r0, rest, rfl⟩
      have hr0 : ∀ {σ : L2.St} {D : Hp}, Ex Hn D → σ[2]? = some (some v2) → Ev (tCB (rLenS K) (tCons (tOp (rIxT K) (tVar 2) (tC (.int 0))) tNil)) σ D (.int (r0.length : Int)) := fun {σ D} e hs => ev_is (ev_lenT (K := K) (ds := r0.map .int) (ed_ixT (ed_var hs (dp_mono e _ d2)) ev_c (d := dRow r0) (atI_nat (j := 0) rfl))) (by rw [List.length_map])
      apply go_when (b := !decide (1 ≤ (r0.length : Int) ∧ (r0.length : Int) < 10))
      · exact EvT.mono g.sub (et_test (ev_inR (neg := true) (hr0 (Ex.refl _) rfl) (ea_cons ev_c (ea_cons ev_c ea_nil))))
      · intro e2
        apply go_retE (k := fun H2 e2 => q H2 (g.ex.trans e2))
        · walk_at "ev"
        · have h4 : ¬ (1 ≤ (r0.length : Int) ∧ (r0.length : Int) < 10) := by
            intro z
            rw [decide_eq_true z] at e2
            cases e2
          have h5 : (decide (1 ≤ (r0.length : Int)) && decide ((r0.length : Int) ≤ 9)) = false := by
            rw [← Bool.decide_and]
            exact decide_eq_false (by omega)
          unfold isChart
          rw [h1, h3]
          show V.bl false = V.bl (true && true && ((decide (1 ≤ (r0.length : Int)) && decide ((r0.length : Int) ≤ 9)) && _))
          rw [h5]
          rfl
      · intro e2
        have h4 : 1 ≤ (r0.length : Int) ∧ (r0.length : Int) < 10 := by simpa using e2
        have h5 : (decide (1 ≤ (r0.length : Int)) && decide ((r0.length : Int) ≤ 9)) = true := by
          rw [← Bool.decide_and]
          exact decide_eq_true (by omega)
        have isV : isChart c (r0 :: rest) = (r0 :: rest).all (isRow c r0.length) := by
          unfold isChart
          rw [h1, h3]
          show (true && true && ((decide (1 ≤ (r0.length : Int)) && decide ((r0.length : Int) ≤ 9)) && _)) = _
          rw [h5]
          rfl
        refine go_for (K := K) g.sub (ei_tup (K := K) (ds := (r0 :: rest).map dRow) (ed_var rfl d2)) (fun Hm i σ' H2 => Ex Hm H2 ∧ Ex H H2 ∧ (((r0 :: rest).take i).all (isRow c r0.length)) = true ∧ ∃ x y, σ' = [some v, some (.int c), some v2, x, y]) ?_ (fun Hm i σ' H2 p => p.1) ?_ ?_
        · intro H2 Hm g2
          exact ⟨g2.sub, g.ex.trans g2.ex, rfl, none, none, rfl⟩
        · rintro Hm i σ' σ2 H2 em hi ⟨p1, p2, p3, x, y, rfl⟩ ⟨v3, d3, q1, q2, rfl⟩
          rw [List.length_map] at hi
          rw [List.getElem?_map, List.getElem?_eq_getElem hi] at q1
          cases q1
          have hln := hls _ (List.getElem_mem hi)
          generalize hri : (r0 :: rest)[i] = ri at q2 hln
          have hlen : Ev (tCB (rLenS K) (tCons (tVar 3) tNil)) [some v, some (.int c), some v2, some v3, y] Hm (.int (ri.length : Int)) := ev_is (ev_lenT (K := K) (ds := ri.map .int) (ed_var rfl q2)) (by rw [List.length_map])
          have hall : Ev (tCB (rAll K) (tCons (tLc (iTup K (tVar 3)) (gName 4) tYes (tChain (rI0 fun i j => .bl (decide (i ≤ j))) (rI0 fun i j => .bl (decide (i < j))) (tUn (rU fun i => .int (-i)) (tC (.int 2))) (tVar 4) (tVar 1)) [4]) tNil)) [some v, some (.int c), some v2, some v3, y] Hm (.bl ((ri.map fun x => decide (-2 ≤ x) && decide (x < c)).all id)) := by
            apply ev_all (K := K)
            rw [← range_all, ← List.length_map (f := PyData.int) (as := ri), ← givenD_all]
            refine ed_new (en_lc (ei_tup (K := K) (ds := ri.map .int) (ed_var rfl q2)) (by rw [List.length_map]; exact hln) (fun _ => true) _ ?_)
            rintro i2 σ2 Hk hi2 ek ⟨v4, d4, z1, z2, rfl⟩
            rw [List.length_map] at hi2
            rw [List.getElem?_map, List.getElem?_eq_getElem hi2] at z1
            cases z1
            cases z2
            refine ⟨rfl, et_yes, fun _ => ed_bool (ev_is (by walk_at "ev") ?_)⟩
            rw [List.getElem?_eq_getElem hi2]
            rfl
          apply go_when (b := !isRow c r0.length ri)
          · refine EvT.mono p1 (et_is (et_orB (et_test (ev_op hlen (hr0 (g.dx.trans (Ex.refl _) |> fun _ => em) rfl) (by walk_at "rv"))) (et_not (et_B hall))) ?_)
            unfold isRow
            simp [List.all_map, V.int.injEq, Bool.not_and]
          · intro e3
            have e4 : isRow c r0.length ri = false := by simpa using e3
            apply go_retE (k := fun H3 e5 => q H3 (p2.trans e5))
            · walk_at "ev"
            · rw [isV]
              have : (r0 :: rest).all (isRow c r0.length) = false := by
                rw [List.all_eq_false]
                exact ⟨ri, by rw [← hri]; exact List.getElem_mem hi, by rw [e4]; decide⟩
              rw [this]
          · intro e3
            have e4 : isRow c r0.length ri = true := by simpa using e3
            refine go_next fun H3 e5 => ⟨p1.trans e5, p2.trans e5, ?_, _, _, rfl⟩
            rw [List.take_add_one, List.getElem?_eq_getElem hi, List.all_append, p3, hri]
            simp [e4]
        · rintro Hm σ' H2 em ⟨p1, p2, p3, x, y, rfl⟩
          apply go_retE (k := fun H3 e5 => q H3 (p2.trans e5))
          · walk_at "ev"
          · rw [isV]
            rw [List.length_map, List.take_length] at p3
            rw [p3]
def kindC (T : Tx K mg base) : List Value := [.ref T.a_BadClock, .ref T.a_BadHour, .ref T.a_BadChart, .ref T.a_BadSquare, .ref T.a_BadRing, .ref T.a_BadBreaks, .ref T.a_BadPrices, .ref T.a_NoFill, .ref T.a_Unlike, .ref T.a_BadName, .ref T.a_Taken, .ref T.a_Full, .ref T.a_NoChart, .ref T.a_BadDay, .ref T.a_BadDeed, .ref T.a_NothingLeft, .ref T.a_Knotted, .ref T.a_BadText, .type "ValueError"]
def kindN (i : Nat) : Str := (["clock", "hour", "chart", "square", "ring", "breaks", "prices", "fill", "unlike", "name", "taken", "full", "none", "day", "deed", "left", "knotted", "text", "odd"] : List Str).getD i Str.empty
def kindF (f : Nat → Bool) (i : Nat) : Bool := if i = 18 then !f i else f i
def kindW (f : Nat → Bool) : Str := Txt.join " " (((List.range (18 + 1)).filter (kindF f)).map kindN)
def spKind (T : Tx K mg base) (p : Addr × Obj) : Sp := fun vs H Q _ => ∃ (D : Addr) (f : Nat → Bool), vs = [.ref p.1] ∧ Zc (.ref D) none p.2 ∧ (∃ fs, p.2.data = .fields fs) ∧ ExcC K D ∧ (∀ i c, (kindC T)[i]? = some c → PySem.W.kitOne K (.ref D) c = some (f i)) ∧ ∀ H2, Ex H H2 → Q (.str (kindW f)) H2
def kindD (f : Nat → Bool) : List PyData := (List.range (18 + 1)).map fun i => .tuple [.str (kindN i), .bool (kindF f i)]
theorem kind_len (f : Nat → Bool) : ((((List.range (18 + 1)).filter (kindF f)).map kindN).map (·.length)).sum + (((List.range (18 + 1)).filter (kindF f)).map kindN).length * (Str.length " ") ≤ 16777216 := by
  have h1 : (((List.range (18 + 1)).filter (kindF f)).map kindN).length ≤ 18 + 1 := by
    rw [List.length_map]
    have h := List.length_filter_le (kindF f) (List.range (18 + 1))
    rw [List.length_range] at h
    exact h
  have h2 : ∀ i, (kindN i).length ≤ 20 := fun i => by
    by_cases h : i < 18 + 1
    · have all : ∀ j, j < 18 + 1 → (kindN j).length ≤ 20 := by decide +kernel
      exact all i h
    · have e : kindN i = Str.empty := by
        unfold kindN
        rw [List.getD_eq_getElem?_getD, List.getElem?_eq_none (by simp only [List.length_cons, List.length_nil]; omega)]
        rfl
      rw [e]
      decide
  have h3 : ∀ l : List Nat, ((l.map kindN).map (·.length)).sum ≤ 20 * l.length := fun l => by
    induction l with
    | nil => exact Nat.le_refl _
    | cons a l ih =>
      have := h2 a
      simp only [List.map_cons, List.sum_cons, List.length_cons]
      omega
  have h4 := h3 ((List.range (18 + 1)).filter (kindF f))
  have h5 : Str.length " " = 1 := by decide +kernel
  rw [List.length_map] at h1 ⊢
  rw [h5]
  omega
local macro_rules | `(tactic| walk_at "ev") => `(tactic| first
  | ((with_reducible apply ev_isX); walk_at "ev"; assumption)
  | ((with_reducible apply ev_isXT); walk_at "ev"; assumption))
theorem ev_kind {σ : L2.St} {Hd : Hp} {v : V} (f : Nat → Bool) (h1 : σ[1]? = some (some v)) (hd : Dp K Hd v (.list (kindD f))) (hl : σ.length = 4) : Ev (tM1 (rJo K) (tC (.str " ")) (tLc (iList K (tVar 1)) (g2 K 2 3) (tTest (tVar 3)) (tVar 2) [2, 3])) σ Hd (.str (kindW f)) := by
  refine ev_jo ev_c (ed_new ?_) (kind_len f)
  have key : ((List.range (18 + 1)).filter (kindF f)).map (fun i => PyData.str (kindN i)) = (((List.range (18 + 1)).filter (kindF f)).map kindN).map PyData.str := by rw [List.map_map]; rfl
  rw [← key]
  have n : (kindD f).length = 18 + 1 := by unfold kindD; rw [List.length_map, List.length_range]
  refine en_lc (n := 18 + 1) (S := SPair K 2 3 (fun i => if i < 18 + 1 then some (.str (kindN i)) else none) (fun i => if i < 18 + 1 then some (.bool (kindF f i)) else none)) ?_ (by decide) (kindF f) (fun i => .str (kindN i)) fun i σ2 Hn hi e hS => ?_
  · rw [← n]
    refine ei_pairs (ed_var h1 hd) fun i d e => ?_
    have hi : i < 18 + 1 := by rw [← n]; exact (List.getElem?_eq_some_iff.mp e).1
    unfold kindD at e
    rw [List.getElem?_map, List.getElem?_range hi] at e
    cases e
    exact ⟨_, _, rfl, if_pos hi, if_pos hi⟩
  · obtain ⟨v1, v2, d1, d2, q1, q2, p1, p2, rfl⟩ := hS
    dsimp only at q1 q2
    rw [if_pos hi] at q1 q2
    cases q1
    cases q2
    cases p1
    cases p2
    obtain ⟨x0, x1, x2, x3, rfl⟩ : ∃ x0 x1 x2 x3, σ = [x0, x1, x2, x3] := by
      match σ, hl with
      | [a, b, c, d], _ => exact ⟨a, b, c, d, rfl⟩
    refine ⟨rfl, et_test (ev_var rfl), fun _ => ed_var rfl (.str _)⟩
theorem ok_kind (T : Tx K mg base) : FnP P w K mg base CX0 1 T.a_law_kind T.d_law_kind ["_law_e"] (spKind T) := by
  refine okP T.F_law_kind sc_law_kind (fun p vs H Q E h => ?_) (fun cdv p A outer s H vs Q E hot hr h => ?_)
  · obtain ⟨D, f, rfl, _⟩ := h
    rfl
  · obtain ⟨D, f, rfl, hz, hf, hD, hk, q⟩ := h
    have k0 := hk 0 _ rfl
    have k1 := hk 1 _ rfl
    have k2 := hk 2 _ rfl
    have k3 := hk 3 _ rfl
    have k4 := hk 4 _ rfl
    have k5 := hk 5 _ rfl
    have k6 := hk 6 _ rfl
    have k7 := hk 7 _ rfl
    have k8 := hk 8 _ rfl
    have k9 := hk 9 _ rfl
    have k10 := hk 10 _ rfl
    have k11 := hk 11 _ rfl
    have k12 := hk 12 _ rfl
    have k13 := hk 13 _ rfl
    have k14 := hk 14 _ rfl
    have k15 := hk 15 _ rfl
    have k16 := hk 16 _ rfl
    have k17 := hk 17 _ rfl
    have k18 := hk 18 _ rfl
    refine ⟨_, (pss_cons (ps_set (i := 1) sc_law_kind.nd rfl (.inl rfl) (pe_lst (pa_cons (pe_tup (pa_cons pe_str (pa_cons (pe_callB (r := rIsE K D p.1) (call_isP hD (List.mem_singleton_self p) hz hf) (by rfl) T.n_isinstance (by decide +kernel) (pa_cons (pv 0) (pa_cons (pe_glob (v := .ref T.a_BadClock) rfl T.x_BadClock.g rfl) pa_nil))) pa_nil))) (pa_cons (pe_tup (pa_cons pe_str (pa_cons (pe_callB (r := rIsE K D p.1) (call_isP hD (List.mem_singleton_self p) hz hf) (by rfl) T.n_isinstance (by decide +kernel) (pa_cons (pv 0) (pa_cons (pe_glob (v := .ref T.a_BadHour) rfl T.x_BadHour.g rfl) pa_nil))) pa_nil))) pa_nil))))
      (pss_cons (ps_set (i := 1) sc_law_kind.nd rfl (.inl rfl) (pe_op op_cat (pv 1) (pe_lst (pa_cons (pe_tup (pa_cons pe_str (pa_cons (pe_callB (r := rIsE K D p.1) (call_isP hD (List.mem_singleton_self p) hz hf) (by rfl) T.n_isinstance (by decide +kernel) (pa_cons (pv 0) (pa_cons (pe_glob (v := .ref T.a_BadChart) rfl T.x_BadChart.g rfl) pa_nil))) pa_nil))) (pa_cons (pe_tup (pa_cons pe_str (pa_cons (pe_callB (r := rIsE K D p.1) (call_isP hD (List.mem_singleton_self p) hz hf) (by rfl) T.n_isinstance (by decide +kernel) (pa_cons (pv 0) (pa_cons (pe_glob (v := .ref T.a_BadSquare) rfl T.x_BadSquare.g rfl) pa_nil))) pa_nil))) pa_nil)))))
      (pss_cons (ps_set (i := 1) sc_law_kind.nd rfl (.inl rfl) (pe_op op_cat (pv 1) (pe_lst (pa_cons (pe_tup (pa_cons pe_str (pa_cons (pe_callB (r := rIsE K D p.1) (call_isP hD (List.mem_singleton_self p) hz hf) (by rfl) T.n_isinstance (by decide +kernel) (pa_cons (pv 0) (pa_cons (pe_glob (v := .ref T.a_BadRing) rfl T.x_BadRing.g rfl) pa_nil))) pa_nil))) (pa_cons (pe_tup (pa_cons pe_str (pa_cons (pe_callB (r := rIsE K D p.1) (call_isP hD (List.mem_singleton_self p) hz hf) (by rfl) T.n_isinstance (by decide +kernel) (pa_cons (pv 0) (pa_cons (pe_glob (v := .ref T.a_BadBreaks) rfl T.x_BadBreaks.g rfl) pa_nil))) pa_nil))) pa_nil)))))
      (pss_cons (ps_set (i := 1) sc_law_kind.nd rfl (.inl rfl) (pe_op op_cat (pv 1) (pe_lst (pa_cons (pe_tup (pa_cons pe_str (pa_cons (pe_callB (r := rIsE K D p.1) (call_isP hD (List.mem_singleton_self p) hz hf) (by rfl) T.n_isinstance (by decide +kernel) (pa_cons (pv 0) (pa_cons (pe_glob (v := .ref T.a_BadPrices) rfl T.x_BadPrices.g rfl) pa_nil))) pa_nil))) (pa_cons (pe_tup (pa_cons pe_str (pa_cons (pe_callB (r := rIsE K D p.1) (call_isP hD (List.mem_singleton_self p) hz hf) (by rfl) T.n_isinstance (by decide +kernel) (pa_cons (pv 0) (pa_cons (pe_glob (v := .ref T.a_NoFill) rfl T.x_NoFill.g rfl) pa_nil))) pa_nil))) pa_nil)))))
      (pss_cons (ps_set (i := 1) sc_law_kind.nd rfl (.inl rfl) (pe_op op_cat (pv 1) (pe_lst (pa_cons (pe_tup (pa_cons pe_str (pa_cons (pe_callB (r := rIsE K D p.1) (call_isP hD (List.mem_singleton_self p) hz hf) (by rfl) T.n_isinstance (by decide +kernel) (pa_cons (pv 0) (pa_cons (pe_glob (v := .ref T.a_Unlike) rfl T.x_Unlike.g rfl) pa_nil))) pa_nil))) (pa_cons (pe_tup (pa_cons pe_str (pa_cons (pe_callB (r := rIsE K D p.1) (call_isP hD (List.mem_singleton_self p) hz hf) (by rfl) T.n_isinstance (by decide +kernel) (pa_cons (pv 0) (pa_cons (pe_glob (v := .ref T.a_BadName) rfl T.x_BadName.g rfl) pa_nil))) pa_nil))) pa_nil)))))
      (pss_cons (ps_set (i := 1) sc_law_kind.nd rfl (.inl rfl) (pe_op op_cat (pv 1) (pe_lst (pa_cons (pe_tup (pa_cons pe_str (pa_cons (pe_callB (r := rIsE K D p.1) (call_isP hD (List.mem_singleton_self p) hz hf) (by rfl) T.n_isinstance (by decide +kernel) (pa_cons (pv 0) (pa_cons (pe_glob (v := .ref T.a_Taken) rfl T.x_Taken.g rfl) pa_nil))) pa_nil))) (pa_cons (pe_tup (pa_cons pe_str (pa_cons (pe_callB (r := rIsE K D p.1) (call_isP hD (List.mem_singleton_self p) hz hf) (by rfl) T.n_isinstance (by decide +kernel) (pa_cons (pv 0) (pa_cons (pe_glob (v := .ref T.a_Full) rfl T.x_Full.g rfl) pa_nil))) pa_nil))) pa_nil)))))
      (pss_cons (ps_set (i := 1) sc_law_kind.nd rfl (.inl rfl) (pe_op op_cat (pv 1) (pe_lst (pa_cons (pe_tup (pa_cons pe_str (pa_cons (pe_callB (r := rIsE K D p.1) (call_isP hD (List.mem_singleton_self p) hz hf) (by rfl) T.n_isinstance (by decide +kernel) (pa_cons (pv 0) (pa_cons (pe_glob (v := .ref T.a_NoChart) rfl T.x_NoChart.g rfl) pa_nil))) pa_nil))) (pa_cons (pe_tup (pa_cons pe_str (pa_cons (pe_callB (r := rIsE K D p.1) (call_isP hD (List.mem_singleton_self p) hz hf) (by rfl) T.n_isinstance (by decide +kernel) (pa_cons (pv 0) (pa_cons (pe_glob (v := .ref T.a_BadDay) rfl T.x_BadDay.g rfl) pa_nil))) pa_nil))) pa_nil)))))
      (pss_cons (ps_set (i := 1) sc_law_kind.nd rfl (.inl rfl) (pe_op op_cat (pv 1) (pe_lst (pa_cons (pe_tup (pa_cons pe_str (pa_cons (pe_callB (r := rIsE K D p.1) (call_isP hD (List.mem_singleton_self p) hz hf) (by rfl) T.n_isinstance (by decide +kernel) (pa_cons (pv 0) (pa_cons (pe_glob (v := .ref T.a_BadDeed) rfl T.x_BadDeed.g rfl) pa_nil))) pa_nil))) (pa_cons (pe_tup (pa_cons pe_str (pa_cons (pe_callB (r := rIsE K D p.1) (call_isP hD (List.mem_singleton_self p) hz hf) (by rfl) T.n_isinstance (by decide +kernel) (pa_cons (pv 0) (pa_cons (pe_glob (v := .ref T.a_NothingLeft) rfl T.x_NothingLeft.g rfl) pa_nil))) pa_nil))) pa_nil)))))
      (pss_cons (ps_set (i := 1) sc_law_kind.nd rfl (.inl rfl) (pe_op op_cat (pv 1) (pe_lst (pa_cons (pe_tup (pa_cons pe_str (pa_cons (pe_callB (r := rIsE K D p.1) (call_isP hD (List.mem_singleton_self p) hz hf) (by rfl) T.n_isinstance (by decide +kernel) (pa_cons (pv 0) (pa_cons (pe_glob (v := .ref T.a_Knotted) rfl T.x_Knotted.g rfl) pa_nil))) pa_nil))) (pa_cons (pe_tup (pa_cons pe_str (pa_cons (pe_callB (r := rIsE K D p.1) (call_isP hD (List.mem_singleton_self p) hz hf) (by rfl) T.n_isinstance (by decide +kernel) (pa_cons (pv 0) (pa_cons (pe_glob (v := .ref T.a_BadText) rfl T.x_BadText.g rfl) pa_nil))) pa_nil))) pa_nil)))))
      (pss_cons (ps_expr (pe_bm PySem.F.plainAttrs_list PySem.F.slot_list_append PySem.F.type_list_append mt_append (pv 1) (pa_cons (pe_tup (pa_cons pe_str (pa_cons (pe_not (pe_callB (r := rIsE K D p.1) (call_isP hD (List.mem_singleton_self p) hz hf) (by rfl) T.n_isinstance (by decide +kernel) (pa_cons (pv 0) (pa_cons (pe_bltn (v := .ty "ValueError") (by rfl) T.n_ValueError (by decide +kernel) rfl) pa_nil)))) pa_nil))) pa_nil)))
      (pss_cons (ps_ret (pe_jo pe_str (pe_lcH (own := [("_law_name", 2), ("_law_so", 3)]) (g := (gTup K 2 (gCons (gName 2) (gCons (gName 3) gNil)))) ⟨p, hot, List.mem_singleton_self p⟩ sc_law_kind.nd (pv 1) (blkOk_by (own := [("_law_name", 2), ("_law_so", 3)]) (N := N_law_kind) (sc := defScope s_law_kind) (by decide +kernel)) (fun _ _ _ _ _ hI => (pg_tupH hI (pgs_cons (pg_name (i := 2) sc_law_kind.nd rfl (.inl rfl) (hf := .inr rfl)) (pgs_cons (pg_name (i := 3) sc_law_kind.nd rfl (.inl rfl) (hf := .inr rfl)) pgs_nil)))) (fun _ _ _ _ _ => (pts_one (pt_val (pv 3)))) (fun _ _ _ _ _ => (pv 2)))))
      pss_nil))))))))))), Go.go ?_⟩
    refine go_asgN (K := K) (Hd := H) (Ex.refl _) (by walk_at "en") fun p1 xs1 H1 Hn1 g1 f1 n1 l1 d1 => ?_
    refine go_asgN (K := K) (Hd := upd Hn1 p1 (.lst xs1)) (ex_add g1.sub l1) (en_cat (em_ref (ev_var rfl) upd_same (dpa_mono (Ex.new n1) _ d1)) (em_new (by walk_at "en")) (by simp only [List.length_cons, List.length_append, List.length_nil]; decide)) fun p2 xs2 H2 Hn2 g2 f2 n2 l2 d2 => ?_
    refine go_asgN (K := K) (Hd := upd Hn2 p2 (.lst xs2)) (ex_add g2.sub l2) (en_cat (em_ref (ev_var rfl) upd_same (dpa_mono (Ex.new n2) _ d2)) (em_new (by walk_at "en")) (by simp only [List.length_cons, List.length_append, List.length_nil]; decide)) fun p3 xs3 H3 Hn3 g3 f3 n3 l3 d3 => ?_
    refine go_asgN (K := K) (Hd := upd Hn3 p3 (.lst xs3)) (ex_add g3.sub l3) (en_cat (em_ref (ev_var rfl) upd_same (dpa_mono (Ex.new n3) _ d3)) (em_new (by walk_at "en")) (by simp only [List.length_cons, List.length_append, List.length_nil]; decide)) fun p4 xs4 H4 Hn4 g4 f4 n4 l4 d4 => ?_
    refine go_asgN (K := K) (Hd := upd Hn4 p4 (.lst xs4)) (ex_add g4.sub l4) (en_cat (em_ref (ev_var rfl) upd_same (dpa_mono (Ex.new n4) _ d4)) (em_new (by walk_at "en")) (by simp only [List.length_cons, List.length_append, List.length_nil]; decide)) fun p5 xs5 H5 Hn5 g5 f5 n5 l5 d5 => ?_
    refine go_asgN (K := K) (Hd := upd Hn5 p5 (.lst xs5)) (ex_add g5.sub l5) (en_cat (em_ref (ev_var rfl) upd_same (dpa_mono (Ex.new n5) _ d5)) (em_new (by walk_at "en")) (by simp only [List.length_cons, List.length_append, List.length_nil]; decide)) fun p6 xs6 H6 Hn6 g6 f6 n6 l6 d6 => ?_
    refine go_asgN (K := K) (Hd := upd Hn6 p6 (.lst xs6)) (ex_add g6.sub l6) (en_cat (em_ref (ev_var rfl) upd_same (dpa_mono (Ex.new n6) _ d6)) (em_new (by walk_at "en")) (by simp only [List.length_cons, List.length_append, List.length_nil]; decide)) fun p7 xs7 H7 Hn7 g7 f7 n7 l7 d7 => ?_
    refine go_asgN (K := K) (Hd := upd Hn7 p7 (.lst xs7)) (ex_add g7.sub l7) (en_cat (em_ref (ev_var rfl) upd_same (dpa_mono (Ex.new n7) _ d7)) (em_new (by walk_at "en")) (by simp only [List.length_cons, List.length_append, List.length_nil]; decide)) fun p8 xs8 H8 Hn8 g8 f8 n8 l8 d8 => ?_
    refine go_asgN (K := K) (Hd := upd Hn8 p8 (.lst xs8)) (ex_add g8.sub l8) (en_cat (em_ref (ev_var rfl) upd_same (dpa_mono (Ex.new n8) _ d8)) (em_new (by walk_at "en")) (by simp only [List.length_cons, List.length_append, List.length_nil]; decide)) fun p9 xs9 H9 Hn9 g9 f9 n9 l9 d9 => ?_
    refine go_appD (K := K) (Hd := Hn9) g9.sub l9 (ev_var rfl) (by walk_at "ed") (by rw [dpa_len d9]; simp only [List.length_cons, List.length_append, List.length_nil]; decide) fun v Ha Hb g hv => ?_
    have np : Hb p9 = none := g.fr _ _ l9 n9
    have all : Ex H H9 := ((((((((g1.ex.trans g2.ex).trans g3.ex).trans g4.ex).trans g5.ex).trans g6.ex).trans g7.ex).trans g8.ex).trans g9.ex)
    have fresh : H p9 = none := fresh_back (((((((g1.ex.trans g2.ex).trans g3.ex).trans g4.ex).trans g5.ex).trans g6.ex).trans g7.ex).trans g8.ex) f9
    have up : Ex H (upd Ha p9 (.lst (xs9 ++ [v]))) := Ex.mut (all.trans g.ex) fresh
    have dd := dpa_app (dpa_mono (g.dx.trans (Ex.new np)) _ d9) (.cons (dp_mono (Ex.new (o := .lst (xs9 ++ [v])) np) _ hv) .nil)
    refine go_retV (v := .str (kindW f)) ((ev_kind (K := K) f rfl (.lst (sq_of upd_same) dd) rfl).mono (ex_upd2 g.sub)) fun H2 e => q H2 (up.trans e)
open LamX in
/-- what _law_word makes of what it was handed -/
def TTw (T : Tx K mg base) (tl : XK → Hp → VK → Prop) (H : Hp) (Q : VK) : Prop :=
  tl (fun cls d H1 => ∃ (D : Addr) (f : Nat → Bool), cls = .ref D ∧ d = none ∧ ExcC K D ∧ PySem.W.exmOne K (.ref D) (.ref T.a_TideError) = some true ∧ (∀ i c, (kindC T)[i]? = some c → PySem.W.kitOne K (.ref D) c = some (f i)) ∧ ∀ H2, Ex H1 H2 → Q (.str (kindW f)) H2) H
    (fun _ H1 => Q (.str "") H1)
open LamX in
theorem word_gives {X : Cx} (T : Tx X.K X.mg X.base) {cdg : Value} {q : Str} {k : Nat} (hk : 1 ≤ k + 1) : GivesN X N_law_word "_law_word" (defScope s_law_word) T.a_law_word cdg (defBody s_law_word) "_law_ask" q k (TTw T) := by
  intro f c' s H Q tl hroom act hc h
  refine ⟨_, pss_cons (L2N.ps_try_as (X := (cxOf C8.CX0 X.prog X.w X.K X.mg X.base N_law_word "_law_word" (defScope s_law_word) T.a_law_word cdg X.A X.stack s H C8.E0).nox) (i := 1) (c := .ref T.a_TideError) (Wout := fun _ _ _ _ => False)
      (tb := fun W D σ H => ∃ Ech : XK, (∀ cls d σ1 H1, Ech cls d H1 → W cls d σ1 H1) ∧ σ[0]? = some (some (.ref f)) ∧ H c' = some (CodeO c' q) ∧ tl Ech H (fun _ H1 => D.nx σ H1))
      (ts := fun a cls d D σ H => ∃ (Dd : Addr) (g : Nat → Bool), cls = .ref Dd ∧ d = none ∧ ExcC X.K Dd ∧ (∀ i c, (kindC T)[i]? = some c → PySem.W.kitOne X.K (.ref Dd) c = some (g i)) ∧ (σ.length = 2 → σ[1]? = some (some (.ref a))) ∧ ∀ H2, Ex H H2 → D.rt (.str (kindW g)) H2)
      rfl rfl sc_law_word.nd rfl rfl ⟨rfl, by decide, .inl T.x_TideError.g⟩ (fun u s' z => ?tk) (fun W pn xe tk _ => ?body) (fun a oe cls d pn hz hf => ?suite)) (pss_cons (ps_ret pe_str) pss_nil), ?fin⟩
  case tk =>
    obtain ⟨_, _, _, _, _, _, _, _, _, _, _, _, _, _, _, _, z⟩ := z
    exact z.elim
  case body =>
    refine ⟨fun pins s1 σ H1 D I want => ?_⟩
    obtain ⟨Ech, hW, h1, h2, h3⟩ := want
    exact (pss_cons (ps_expr (act W pn xe Ech _ _ tk hW)) pss_nil).run pins s1 σ H1 D I ⟨h1, h2, h3⟩
  case suite =>
    refine ⟨fun pins s1 σ H1 D I want => ?_⟩
    obtain ⟨Dd, g, rfl, rfl, hD, hkd, hs, hq⟩ := want
    obtain ⟨vs, hv⟩ := hf
    exact (pss_cons (ps_ret (pe_callP (X := (cxOf C8.CX0 X.prog X.w X.K X.mg X.base N_law_word "_law_word" (defScope s_law_word) T.a_law_word cdg X.A X.stack s H C8.E0).nox.suite a ((a, oe) :: pn)) (p := (a, oe)) (x := "_law_kind") (E := fun _ _ _ _ => False) (ok_kind T) ⟨(hroom.mono hk).dp, (hroom.mono hk).un⟩ ⟨rfl, vs, hv, hz.2.2 vs hv⟩ List.mem_cons_self (by rfl) T.g_law_kind T.F_law_kind.kp T.b_law_kind (fun _ _ _ _ _ _ _ z => z.elim) (pa_cons (pv 1) pa_nil))) pss_nil).run pins s1 σ H1 D I ⟨_, hs I.len, Dd, g, rfl, hz.zc, ⟨vs, hv⟩, hD, hkd, hq⟩
  case fin =>
    refine ⟨_, fun cls d σ1 H1 he => ?_, rfl, hc, h⟩
    obtain ⟨D, g, rfl, rfl, hD, hm, hkd, hq⟩ := he
    exact ⟨true, hm, fun _ a ha => ⟨D, g, rfl, rfl, hD, hkd, fun e => by rw [List.length_set] at e; rw [List.getElem?_set_self (by rw [e]; decide)], hq⟩, fun z => nomatch z⟩
/-- a class whose errors have this word -/
def Known (T : Tx K mg base) (wd : Str) (C : Addr) : Prop := ExcC K C ∧ PySem.W.exmOne K (.ref C) (.ref T.a_TideError) = some true ∧ ∃ f : Nat → Bool, (∀ i c, (kindC T)[i]? = some c → PySem.W.kitOne K (.ref C) c = some (f i)) ∧ kindW f = wd
def RNo (_ : List PyData) (_ : PyData) : Prop := False
def BadC (d : PyData) : Prop := ∃ (c : Int) (rows : List (List Int)), d = dChart c rows ∧ rows.length ≤ 40000 ∧ (∀ r ∈ rows, r.length ≤ 40000) ∧ isChart c rows = false
def GoodC (d : PyData) : Prop := ∃ (c : Int) (rows : List (List Int)), d = dChart c rows ∧ rows.length ≤ 40000 ∧ (∀ r ∈ rows, r.length ≤ 40000) ∧ isChart c rows = true
def BadX (T : Tx K mg base) (n : Nat) (ds : List PyData) (C : Addr) : Prop := ds.length = n ∧ C = T.a_BadChart ∧ ∃ d, ds[0]? = some d ∧ BadC d
def BadX2 (T : Tx K mg base) (n : Nat) (ds : List PyData) (C : Addr) : Prop := ds.length = n ∧ C = T.a_BadChart ∧ ∃ d e, ds[0]? = some d ∧ ds[1]? = some e ∧ (BadC d ∨ GoodC d ∧ BadC e)
def BadXL (T : Tx K mg base) (ds : List PyData) (C : Addr) : Prop := C = T.a_BadChart ∧ ∃ d es, ds = [d, .list es] ∧ BadC d
section
variable {T : Tx K mg base} {vs : List V} {H : Hp} {Q : VK} {E : XK}
theorem bad_len {n : Nat} (h : spX K RNo (BadX T n) vs H Q E) : vs.length = n := by
  obtain ⟨Hd, ds, e, hd, ⟨d, r, _⟩ | ⟨C, ⟨h1, _⟩, _⟩⟩ := h
  · exact r.elim
  · rw [dpa_len hd, h1]
theorem bad2_len {n : Nat} (h : spX K RNo (BadX2 T n) vs H Q E) : vs.length = n := by
  obtain ⟨Hd, ds, e, hd, ⟨d, r, _⟩ | ⟨C, ⟨h1, _⟩, _⟩⟩ := h
  · exact r.elim
  · rw [dpa_len hd, h1]
theorem bad_un1 (h : spX K RNo (BadX T 1) vs H Q E) : ∃ (v1 : V) (Hd : Hp) (d1 : PyData), vs = [v1] ∧ Ex Hd H ∧ Dp K Hd v1 d1 ∧ BadC d1 ∧ ∀ H2, Ex H H2 → E (.ref T.a_BadChart) none H2 := by
  obtain ⟨Hd, ds, e, hd, ⟨d, r, _⟩ | ⟨C, ⟨h1, rfl, d, h2, b⟩, q⟩⟩ := h
  · exact r.elim
  · match ds, h1, h2 with
    | [d1], _, h2 =>
      cases h2
      cases hd with
      | @cons v1 _ _ _ k1 t1 =>
      cases t1
      exact ⟨v1, Hd, d, rfl, e, k1, b, q⟩
theorem bad_un2 (h : spX K RNo (BadX T 2) vs H Q E) : ∃ (v1 v2 : V) (Hd : Hp) (d1 d2 : PyData), vs = [v1, v2] ∧ Ex Hd H ∧ Dp K Hd v1 d1 ∧ Dp K Hd v2 d2 ∧ BadC d1 ∧ ∀ H2, Ex H H2 → E (.ref T.a_BadChart) none H2 := by
  obtain ⟨Hd, ds, e, hd, ⟨d, r, _⟩ | ⟨C, ⟨h1, rfl, d, h2, b⟩, q⟩⟩ := h
  · exact r.elim
  · match ds, h1, h2 with
    | [d1, d2], _, h2 =>
      cases h2
      cases hd with
      | @cons v1 _ _ _ k1 t1 =>
      cases t1 with
      | @cons v2 _ _ _ k2 t2 =>
      cases t2
      exact ⟨v1, v2, Hd, d, d2, rfl, e, k1, k2, b, q⟩
theorem bad_un3 (h : spX K RNo (BadX T 3) vs H Q E) : ∃ (v1 v2 v3 : V) (Hd : Hp) (d1 d2 d3 : PyData), vs = [v1, v2, v3] ∧ Ex Hd H ∧ Dp K Hd v1 d1 ∧ Dp K Hd v2 d2 ∧ Dp K Hd v3 d3 ∧ BadC d1 ∧ ∀ H2, Ex H H2 → E (.ref T.a_BadChart) none H2 := by
  obtain ⟨Hd, ds, e, hd, ⟨d, r, _⟩ | ⟨C, ⟨h1, rfl, d, h2, b⟩, q⟩⟩ := h
  · exact r.elim
  · match ds, h1, h2 with
    | [d1, d2, d3], _, h2 =>
      cases h2
      cases hd with
      | @cons v1 _ _ _ k1 t1 =>
      cases t1 with
      | @cons v2 _ _ _ k2 t2 =>
      cases t2 with
      | @cons v3 _ _ _ k3 t3 =>
      cases t3
      exact ⟨v1, v2, v3, Hd, d, d2, d3, rfl, e, k1, k2, k3, b, q⟩
theorem bad_un5 (h : spX K RNo (BadX T 5) vs H Q E) : ∃ (v1 v2 v3 v4 v5 : V) (Hd : Hp) (d1 d2 d3 d4 d5 : PyData), vs = [v1, v2, v3, v4, v5] ∧ Ex Hd H ∧ Dp K Hd v1 d1 ∧ Dp K Hd v2 d2 ∧ Dp K Hd v3 d3 ∧ Dp K Hd v4 d4 ∧ Dp K Hd v5 d5 ∧ BadC d1 ∧ ∀ H2, Ex H H2 → E (.ref T.a_BadChart) none H2 := by
  obtain ⟨Hd, ds, e, hd, ⟨d, r, _⟩ | ⟨C, ⟨h1, rfl, d, h2, b⟩, q⟩⟩ := h
  · exact r.elim
  · match ds, h1, h2 with
    | [d1, d2, d3, d4, d5], _, h2 =>
      cases h2
      cases hd with
      | @cons v1 _ _ _ k1 t1 =>
      cases t1 with
      | @cons v2 _ _ _ k2 t2 =>
      cases t2 with
      | @cons v3 _ _ _ k3 t3 =>
      cases t3 with
      | @cons v4 _ _ _ k4 t4 =>
      cases t4 with
      | @cons v5 _ _ _ k5 t5 =>
      cases t5
      exact ⟨v1, v2, v3, v4, v5, Hd, d, d2, d3, d4, d5, rfl, e, k1, k2, k3, k4, k5, b, q⟩
theorem badL_un (h : spX K RNo (BadXL T) vs H Q E) : ∃ (v1 v2 : V) (Hd : Hp) (d1 : PyData) (es : List PyData), vs = [v1, v2] ∧ Ex Hd H ∧ Dp K Hd v1 d1 ∧ Dp K Hd v2 (.list es) ∧ BadC d1 ∧ ∀ H2, Ex H H2 → E (.ref T.a_BadChart) none H2 := by
  obtain ⟨Hd, ds, e, hd, ⟨d, r, _⟩ | ⟨C, ⟨rfl, d1, es, rfl, b⟩, q⟩⟩ := h
  · exact r.elim
  · cases hd with
    | @cons v1 _ _ _ k1 t1 =>
    cases t1 with
    | @cons v2 _ _ _ k2 t2 =>
    cases t2
    exact ⟨v1, v2, Hd, d1, es, rfl, e, k1, k2, b, q⟩
theorem bad2_un (h : spX K RNo (BadX2 T 4) vs H Q E) : ∃ (v1 v2 v3 v4 : V) (Hd : Hp) (d1 d2 d3 d4 : PyData), vs = [v1, v2, v3, v4] ∧ Ex Hd H ∧ Dp K Hd v1 d1 ∧ Dp K Hd v2 d2 ∧ Dp K Hd v3 d3 ∧ Dp K Hd v4 d4 ∧ (BadC d1 ∨ GoodC d1 ∧ BadC d2) ∧ ∀ H2, Ex H H2 → E (.ref T.a_BadChart) none H2 := by
  obtain ⟨Hd, ds, e, hd, ⟨d, r, _⟩ | ⟨C, ⟨h1, rfl, d, d', h2, h3, b⟩, q⟩⟩ := h
  · exact r.elim
  · match ds, h1, h2, h3 with
    | [d1, d2, d3, d4], _, h2, h3 =>
      cases h2
      cases h3
      cases hd with
      | @cons v1 _ _ _ k1 t1 =>
      cases t1 with
      | @cons v2 _ _ _ k2 t2 =>
      cases t2 with
      | @cons v3 _ _ _ k3 t3 =>
      cases t3 with
      | @cons v4 _ _ _ k4 t4 =>
      cases t4
      exact ⟨v1, v2, v3, v4, Hd, d, d', d3, d4, rfl, e, k1, k2, k3, k4, b, q⟩
end
theorem okX_need_chart (T : Tx K mg base) : FnOk P w K mg base (L2N.CX P w) 4 T.a_need_chart T.d_need_chart ["chart"] (spX K (fun ds d => d = .none ∧ ∃ x, ds = [x] ∧ GoodC x) (BadX T 1)) := by
  refine okN T.F_need_chart sc_need_chart (fun vs H Q E h => ?_) (fun cdv A outer s H vs Q E hr h => ?_)
  · obtain ⟨Hd, ds, e, hd, ⟨d, ⟨_, x, rfl, _⟩, _⟩ | ⟨C, ⟨h1, _⟩, _⟩⟩ := h
    · exact dpa_len hd
    · rw [dpa_len hd, h1]; rfl
  · obtain ⟨Hd, ds, e, hd, h⟩ := h
    have key : ∃ c rows, ds = [dChart c rows] ∧ rows.length ≤ 40000 ∧ (∀ r ∈ rows, r.length ≤ 40000) ∧ (isChart c rows = true → ∀ H2, Ex H H2 → Q .non H2) ∧ (isChart c rows = false → ∀ H2, Ex H H2 → E (.ref T.a_BadChart) none H2) := by
      rcases h with ⟨d, ⟨rfl, _, rfl, c, rows, rfl, l1, l2, g⟩, q⟩ | ⟨C, ⟨h1, rfl, x, h2, c, rows, rfl, l1, l2, g⟩, q⟩
      · exact ⟨c, rows, rfl, l1, l2, fun _ H2 e2 => q .non H2 Hd (Gr.ext e e2) .non, fun z => absurd (g.symm.trans z) (by decide)⟩
      · refine ⟨c, rows, ?_, l1, l2, fun z => absurd (g.symm.trans z) (by decide), fun _ => q⟩
        match ds, h1, h2 with
        | [d1], _, h2 =>
          cases h2
          rfl
    obtain ⟨c, rows, rfl, l1, l2, good, bad⟩ := key
    cases hd with
    | @cons v1 _ _ _ k1 t1 =>
    cases t1
    refine ⟨_, (pss_cons (ps_if (pt_not (pt_val (pe_call (ok_is_chart (P := P) (w := w) T) (hr.mono (by omega)) (by rfl) T.g_is_chart T.F_is_chart.kp T.b_is_chart .nil pass0 (pa_cons (pv 0) pa_nil)))) (pss_cons (L2N.ps_raise rfl (L2N.takes_of rfl rfl rfl rfl) (T.X_BadChart.pmk (by rfl)))
      pss_nil) pss_nil)
      pss_nil), Go.go ?_⟩
    cases hi : isChart c rows with
    | true => exact go_whenF (EvT.mono e (et_is (et_not (et_B (ev_is_chart (eda_cons (ed_var rfl k1) eda_nil) l1 l2))) (by rw [hi]; rfl))) (go_next fun H2 e2 => good hi H2 e2)
    | false => exact go_whenT (EvT.mono e (et_is (et_not (et_B (ev_is_chart (eda_cons (ed_var rfl k1) eda_nil) l1 l2))) (by rw [hi]; rfl))) (go_raise fun H3 e3 => bad hi H3 e3)
theorem okX_size (T : Tx K mg base) : FnOk P w K mg base (L2N.CX P w) 5 T.a_size T.d_size ["chart"] (spX K RNo (BadX T 1)) := by
  refine okN T.F_size sc_size (fun vs H Q E h => bad_len h) (fun cdv A outer s H vs Q E hr h => ?_)
  obtain ⟨v1, Hd, d1, rfl, e, k1, b, q⟩ := bad_un1 h
  refine ⟨_, (pss_cons (ps_expr (pe_call (okX_need_chart T) (hr.mono (by omega)) (by rfl) T.g_need_chart T.F_need_chart.kp T.b_need_chart .nil (L2N.passes_call (L2N.takes_of rfl rfl rfl rfl) (fun _ _ _ _ h => h)) (pa_cons (pv 0) pa_nil)))
      pss_nev), ?_⟩
  exact tx_no e (eda_cons (ed_var rfl k1) eda_nil) (fun _ => .nil) ⟨rfl, rfl, _, rfl, b⟩ q
theorem okX_hour_at (T : Tx K mg base) : FnOk P w K mg base (L2N.CX P w) 6 T.a_hour_at T.d_hour_at ["chart", "square"] (spX K RNo (BadX T 2)) := by
  refine okN T.F_hour_at sc_hour_at (fun vs H Q E h => bad_len h) (fun cdv A outer s H vs Q E hr h => ?_)
  obtain ⟨v1, v2, Hd, d1, d2, rfl, e, k1, k2, b, q⟩ := bad_un2 h
  refine ⟨_, (pss_cons (ps_asg (pe_call (okX_size T) (hr.mono (by omega)) (by rfl) T.g_size T.F_size.kp T.b_size .nil (L2N.passes_call (L2N.takes_of rfl rfl rfl rfl) (fun _ _ _ _ h => h)) (pa_cons (pv 0) pa_nil)) (pg_tup rfl (pgs_cons (pg_name (i := 2) sc_hour_at.nd rfl (.inl rfl)) (pgs_cons (pg_name (i := 3) sc_hour_at.nd rfl (.inl rfl)) pgs_nil))))
      pss_nev), ?_⟩
  exact tx_no e (eda_cons (ed_var rfl k1) eda_nil) (fun _ => .nil) ⟨rfl, rfl, _, rfl, b⟩ q
theorem okX_told_hours (T : Tx K mg base) : FnOk P w K mg base (L2N.CX P w) 5 T.a_told_hours T.d_told_hours ["chart"] (spX K RNo (BadX T 1)) := by
  refine okN T.F_told_hours sc_told_hours (fun vs H Q E h => bad_len h) (fun cdv A outer s H vs Q E hr h => ?_)
  obtain ⟨v1, Hd, d1, rfl, e, k1, b, q⟩ := bad_un1 h
  refine ⟨_, (pss_cons (ps_expr (pe_call (okX_need_chart T) (hr.mono (by omega)) (by rfl) T.g_need_chart T.F_need_chart.kp T.b_need_chart .nil (L2N.passes_call (L2N.takes_of rfl rfl rfl rfl) (fun _ _ _ _ h => h)) (pa_cons (pv 0) pa_nil)))
      pss_nev), ?_⟩
  exact tx_no e (eda_cons (ed_var rfl k1) eda_nil) (fun _ => .nil) ⟨rfl, rfl, _, rfl, b⟩ q
theorem okX_told (T : Tx K mg base) : FnOk P w K mg base (L2N.CX P w) 6 T.a_told T.d_told ["chart"] (spX K RNo (BadX T 1)) := by
  refine okN T.F_told sc_told (fun vs H Q E h => bad_len h) (fun cdv A outer s H vs Q E hr h => ?_)
  obtain ⟨v1, Hd, d1, rfl, e, k1, b, q⟩ := bad_un1 h
  refine ⟨_, (pss_cons (ps_ret (pe_callTy (r := rNList K P w) (call_nlist (by rfl) (by rfl) (by rfl) (by rfl)) (by rfl) T.n_list (by decide +kernel) (pa_cons (pe_call (okX_told_hours T) (hr.mono (by omega)) (by rfl) T.g_told_hours T.F_told_hours.kp T.b_told_hours .nil (L2N.passes_call (L2N.takes_of rfl rfl rfl rfl) (fun _ _ _ _ h => h)) (pa_cons (pv 0) pa_nil)) pa_nil)))
      pss_nev), ?_⟩
  exact tx_no e (eda_cons (ed_var rfl k1) eda_nil) (fun _ => .nil) ⟨rfl, rfl, _, rfl, b⟩ q
theorem okX_sides (T : Tx K mg base) : FnOk P w K mg base (L2N.CX P w) 7 T.a_sides T.d_sides ["chart"] (spX K RNo (BadX T 1)) := by
  refine okN T.F_sides sc_sides (fun vs H Q E h => bad_len h) (fun cdv A outer s H vs Q E hr h => ?_)
  obtain ⟨v1, Hd, d1, rfl, e, k1, b, q⟩ := bad_un1 h
  refine ⟨_, (pss_cons (ps_set (i := 1) sc_sides.nd rfl (.inl rfl) (pe_call (okX_told T) (hr.mono (by omega)) (by rfl) T.g_told T.F_told.kp T.b_told .nil (L2N.passes_call (L2N.takes_of rfl rfl rfl rfl) (fun _ _ _ _ h => h)) (pa_cons (pv 0) pa_nil)))
      pss_nev), ?_⟩
  exact tx_no e (eda_cons (ed_var rfl k1) eda_nil) (fun _ => .nil) ⟨rfl, rfl, _, rfl, b⟩ q
theorem okX_told_neighbours (T : Tx K mg base) : FnOk P w K mg base (L2N.CX P w) 7 T.a_told_neighbours T.d_told_neighbours ["chart"] (spX K RNo (BadX T 1)) := by
  refine okN T.F_told_neighbours sc_told_neighbours (fun vs H Q E h => bad_len h) (fun cdv A outer s H vs Q E hr h => ?_)
  obtain ⟨v1, Hd, d1, rfl, e, k1, b, q⟩ := bad_un1 h
  refine ⟨_, (pss_cons (ps_setNc1 (i := 1) (K := K) (P := P) (w := w) (own := [("square", 2)]) (g := (gName 2)) (by rfl) (by rfl) (by rfl) (Nat.lt_of_succ_lt (hu_of hr)) (by rfl) sc_told_neighbours.nd rfl rfl (swD_true rfl rfl rfl (by decide +kernel)) (pi_list (pe_call (okX_told T) (hr.mono (by omega)) (by rfl) T.g_told T.F_told.kp T.b_told .nil (L2N.passes_call (L2N.takes_of rfl rfl rfl rfl) (fun _ _ _ _ h => h)) (pa_cons (pv 0) pa_nil))) (blkOk_by (own := [("square", 2)]) (N := N_told_neighbours) (sc := defScope s_told_neighbours) (by decide +kernel)) (fun _ _ _ _ _ => (pg_name (i := 2) sc_told_neighbours.nd rfl (.inl rfl) (hf := .inr rfl))) (fun _ _ _ _ _ => pts_nil) (fun _ _ _ _ _ => (pv 2)) (fun _ _ _ _ _ => (pe_lst pa_nil)))
      pss_nev), ?_⟩
  exact tx_no e (eda_cons (ed_var rfl k1) eda_nil) (fun _ => .nil) ⟨rfl, rfl, _, rfl, b⟩ q
theorem ok_together (T : Tx K mg base) : FnOk P w K mg base CX0 1 T.a_together T.d_together ["beside"] spNev := T.F_together.ok sc_together (fun vs H Q E h => h.elim) (fun cdv A outer s H vs Q E hr h => h.elim)
theorem okX_seas (T : Tx K mg base) : FnOk P w K mg base (L2N.CX P w) 8 T.a_seas T.d_seas ["chart"] (spX K RNo (BadX T 1)) := by
  refine okN T.F_seas sc_seas (fun vs H Q E h => bad_len h) (fun cdv A outer s H vs Q E hr h => ?_)
  obtain ⟨v1, Hd, d1, rfl, e, k1, b, q⟩ := bad_un1 h
  refine ⟨_, (pss_cons (ps_ret (pe_call (ok_together (P := P) (w := w) T) (hr.mono (by omega)) (by rfl) T.g_together T.F_together.kp T.b_together .nil pass0 (pa_cons (pe_call (okX_told_neighbours T) (hr.mono (by omega)) (by rfl) T.g_told_neighbours T.F_told_neighbours.kp T.b_told_neighbours .nil (L2N.passes_call (L2N.takes_of rfl rfl rfl rfl) (fun _ _ _ _ h => h)) (pa_cons (pv 0) pa_nil)) pa_nil)))
      pss_nev), ?_⟩
  exact tx_no e (eda_cons (ed_var rfl k1) eda_nil) (fun _ => .nil) ⟨rfl, rfl, _, rfl, b⟩ q
theorem okX_is_ring (T : Tx K mg base) : FnOk P w K mg base (L2N.CX P w) 8 T.a_is_ring T.d_is_ring ["chart", "ring"] (spX K RNo (BadX T 2)) := by
  refine okN T.F_is_ring sc_is_ring (fun vs H Q E h => bad_len h) (fun cdv A outer s H vs Q E hr h => ?_)
  obtain ⟨v1, v2, Hd, d1, d2, rfl, e, k1, k2, b, q⟩ := bad_un2 h
  refine ⟨_, (pss_cons (ps_set (i := 2) sc_is_ring.nd rfl (.inr rfl) (pe_call (okX_told_neighbours T) (hr.mono (by omega)) (by rfl) T.g_told_neighbours T.F_told_neighbours.kp T.b_told_neighbours .nil (L2N.passes_call (L2N.takes_of rfl rfl rfl rfl) (fun _ _ _ _ h => h)) (pa_cons (pv 0) pa_nil)))
      pss_nev), ?_⟩
  exact tx_no e (eda_cons (ed_var rfl k1) eda_nil) (fun _ => .nil) ⟨rfl, rfl, _, rfl, b⟩ q
theorem okX_need_ring (T : Tx K mg base) : FnOk P w K mg base (L2N.CX P w) 9 T.a_need_ring T.d_need_ring ["chart", "ring"] (spX K RNo (BadX T 2)) := by
  refine okN T.F_need_ring sc_need_ring (fun vs H Q E h => bad_len h) (fun cdv A outer s H vs Q E hr h => ?_)
  obtain ⟨v1, v2, Hd, d1, d2, rfl, e, k1, k2, b, q⟩ := bad_un2 h
  refine ⟨_, (pss_cons (ps_if (pt_not (pt_val (pe_call (okX_is_ring T) (hr.mono (by omega)) (by rfl) T.g_is_ring T.F_is_ring.kp T.b_is_ring .nil (L2N.passes_call (L2N.takes_of rfl rfl rfl rfl) (fun _ _ _ _ h => h)) (pa_cons (pv 0) (pa_cons (pv 1) pa_nil))))) (pss_cons (L2N.ps_raise rfl (L2N.takes_of rfl rfl rfl rfl) (T.X_BadRing.pmk (by rfl)))
      pss_nil) pss_nil)
      pss_nev), ?_⟩
  exact tx_no e (eda_cons (ed_var rfl k1) (eda_cons (ed_var rfl k2) eda_nil)) (fun _ => .nil) ⟨rfl, rfl, _, rfl, b⟩ q
theorem okX_ring_count (T : Tx K mg base) : FnOk P w K mg base (L2N.CX P w) 10 T.a_ring_count T.d_ring_count ["chart", "ring"] (spX K RNo (BadX T 2)) := by
  refine okN T.F_ring_count sc_ring_count (fun vs H Q E h => bad_len h) (fun cdv A outer s H vs Q E hr h => ?_)
  obtain ⟨v1, v2, Hd, d1, d2, rfl, e, k1, k2, b, q⟩ := bad_un2 h
  refine ⟨_, (pss_cons (ps_expr (pe_call (okX_need_ring T) (hr.mono (by omega)) (by rfl) T.g_need_ring T.F_need_ring.kp T.b_need_ring .nil (L2N.passes_call (L2N.takes_of rfl rfl rfl rfl) (fun _ _ _ _ h => h)) (pa_cons (pv 0) (pa_cons (pv 1) pa_nil))))
      pss_nev), ?_⟩
  exact tx_no e (eda_cons (ed_var rfl k1) (eda_cons (ed_var rfl k2) eda_nil)) (fun _ => .nil) ⟨rfl, rfl, _, rfl, b⟩ q
theorem okX_joined (T : Tx K mg base) : FnOk P w K mg base (L2N.CX P w) 10 T.a_joined T.d_joined ["chart", "ring", "other"] (spX K RNo (BadX T 3)) := by
  refine okN T.F_joined sc_joined (fun vs H Q E h => bad_len h) (fun cdv A outer s H vs Q E hr h => ?_)
  obtain ⟨v1, v2, v3, Hd, d1, d2, d3, rfl, e, k1, k2, k3, b, q⟩ := bad_un3 h
  refine ⟨_, (pss_cons (ps_expr (pe_call (okX_need_ring T) (hr.mono (by omega)) (by rfl) T.g_need_ring T.F_need_ring.kp T.b_need_ring .nil (L2N.passes_call (L2N.takes_of rfl rfl rfl rfl) (fun _ _ _ _ h => h)) (pa_cons (pv 0) (pa_cons (pv 1) pa_nil))))
      pss_nev), ?_⟩
  exact tx_no e (eda_cons (ed_var rfl k1) (eda_cons (ed_var rfl k2) eda_nil)) (fun _ => .nil) ⟨rfl, rfl, _, rfl, b⟩ q
theorem okX_eyes (T : Tx K mg base) : FnOk P w K mg base (L2N.CX P w) 6 T.a_eyes T.d_eyes ["chart"] (spX K RNo (BadX T 1)) := by
  refine okN T.F_eyes sc_eyes (fun vs H Q E h => bad_len h) (fun cdv A outer s H vs Q E hr h => ?_)
  obtain ⟨v1, Hd, d1, rfl, e, k1, b, q⟩ := bad_un1 h
  refine ⟨_, (pss_cons (ps_set (i := 1) sc_eyes.nd rfl (.inr rfl) (pe_call (okX_told_hours T) (hr.mono (by omega)) (by rfl) T.g_told_hours T.F_told_hours.kp T.b_told_hours .nil (L2N.passes_call (L2N.takes_of rfl rfl rfl rfl) (fun _ _ _ _ h => h)) (pa_cons (pv 0) pa_nil)))
      pss_nev), ?_⟩
  exact tx_no e (eda_cons (ed_var rfl k1) eda_nil) (fun _ => .nil) ⟨rfl, rfl, _, rfl, b⟩ q
theorem okX_knots (T : Tx K mg base) : FnOk P w K mg base (L2N.CX P w) 7 T.a_knots T.d_knots ["chart"] (spX K RNo (BadX T 1)) := by
  refine okN T.F_knots sc_knots (fun vs H Q E h => bad_len h) (fun cdv A outer s H vs Q E hr h => ?_)
  obtain ⟨v1, Hd, d1, rfl, e, k1, b, q⟩ := bad_un1 h
  refine ⟨_, (pss_cons (ps_ret (pe_lc (own := [("some", 1), ("count", 2)]) (g := (gTup K 2 (gCons (gName 1) (gCons (gName 2) gNil)))) (by rfl) sc_knots.nd (pi_list (pe_call (okX_eyes T) (hr.mono (by omega)) (by rfl) T.g_eyes T.F_eyes.kp T.b_eyes .nil (L2N.passes_call (L2N.takes_of rfl rfl rfl rfl) (fun _ _ _ _ h => h)) (pa_cons (pv 0) pa_nil))) (blkOk_by (own := [("some", 1), ("count", 2)]) (N := N_knots) (sc := defScope s_knots) (by decide +kernel)) (fun _ _ _ _ _ => (pg_tup rfl (pgs_cons (pg_name (i := 1) sc_knots.nd rfl (.inl rfl) (hf := .inr rfl)) (pgs_cons (pg_name (i := 2) sc_knots.nd rfl (.inl rfl) (hf := .inr rfl)) pgs_nil)))) (fun _ _ _ _ _ => (pts_one (pt_cmpR op_ne (pv 2) pe_int (nomark _)))) (fun _ _ _ _ _ => (pe_tup (pa_cons (pe_ix (r := rIxL K) ix_list (pv 1) pe_int (fun _ _ => rfl)) (pa_cons (pv 2) pa_nil))))))
      pss_nev), ?_⟩
  exact tx_no e (eda_cons (ed_var rfl k1) eda_nil) (fun _ => .nil) ⟨rfl, rfl, _, rfl, b⟩ q
theorem okX_corners (T : Tx K mg base) : FnOk P w K mg base (L2N.CX P w) 6 T.a_corners T.d_corners ["chart"] (spX K RNo (BadX T 1)) := by
  refine okN T.F_corners sc_corners (fun vs H Q E h => bad_len h) (fun cdv A outer s H vs Q E hr h => ?_)
  obtain ⟨v1, Hd, d1, rfl, e, k1, b, q⟩ := bad_un1 h
  refine ⟨_, (pss_cons (ps_asg (pe_call (okX_size T) (hr.mono (by omega)) (by rfl) T.g_size T.F_size.kp T.b_size .nil (L2N.passes_call (L2N.takes_of rfl rfl rfl rfl) (fun _ _ _ _ h => h)) (pa_cons (pv 0) pa_nil)) (pg_tup rfl (pgs_cons (pg_name (i := 1) sc_corners.nd rfl (.inl rfl)) (pgs_cons (pg_name (i := 2) sc_corners.nd rfl (.inr rfl)) pgs_nil))))
      pss_nev), ?_⟩
  exact tx_no e (eda_cons (ed_var rfl k1) eda_nil) (fun _ => .nil) ⟨rfl, rfl, _, rfl, b⟩ q
theorem okX_eye_at (T : Tx K mg base) : FnOk P w K mg base (L2N.CX P w) 7 T.a_eye_at T.d_eye_at ["chart", "corner"] (spX K RNo (BadX T 2)) := by
  refine okN T.F_eye_at sc_eye_at (fun vs H Q E h => bad_len h) (fun cdv A outer s H vs Q E hr h => ?_)
  obtain ⟨v1, v2, Hd, d1, d2, rfl, e, k1, k2, b, q⟩ := bad_un2 h
  refine ⟨_, (pss_cons (ps_if (pt_cmpR (r := rNotInD K) (op_notInD (u65 hr)) (pv 1) (pe_call (okX_corners T) (hr.mono (by omega)) (by rfl) T.g_corners T.F_corners.kp T.b_corners .nil (L2N.passes_call (L2N.takes_of rfl rfl rfl rfl) (fun _ _ _ _ h => h)) (pa_cons (pv 0) pa_nil)) (by rfl)) (pss_cons (L2N.ps_raise rfl (L2N.takes_of rfl rfl rfl rfl) (T.X_BadSquare.pmk (by rfl)))
      pss_nil) pss_nil)
      pss_nev), ?_⟩
  exact ⟨_, rfl, tx_no e (eda_cons (ed_var rfl k1) eda_nil) (fun _ => .nil) ⟨rfl, rfl, _, rfl, b⟩ q⟩
theorem okX_ways (T : Tx K mg base) : FnOk P w K mg base (L2N.CX P w) 6 T.a_ways T.d_ways ["chart"] (spX K RNo (BadX T 1)) := by
  refine okN T.F_ways sc_ways (fun vs H Q E h => bad_len h) (fun cdv A outer s H vs Q E hr h => ?_)
  obtain ⟨v1, Hd, d1, rfl, e, k1, b, q⟩ := bad_un1 h
  refine ⟨_, (pss_cons (ps_set (i := 1) sc_ways.nd rfl (.inl rfl) (pe_call (okX_told_hours T) (hr.mono (by omega)) (by rfl) T.g_told_hours T.F_told_hours.kp T.b_told_hours .nil (L2N.passes_call (L2N.takes_of rfl rfl rfl rfl) (fun _ _ _ _ h => h)) (pa_cons (pv 0) pa_nil)))
      pss_nev), ?_⟩
  exact tx_no e (eda_cons (ed_var rfl k1) eda_nil) (fun _ => .nil) ⟨rfl, rfl, _, rfl, b⟩ q
theorem okX_eye_corners (T : Tx K mg base) : FnOk P w K mg base (L2N.CX P w) 7 T.a_eye_corners T.d_eye_corners ["chart"] (spX K RNo (BadX T 1)) := by
  refine okN T.F_eye_corners sc_eye_corners (fun vs H Q E h => bad_len h) (fun cdv A outer s H vs Q E hr h => ?_)
  obtain ⟨v1, Hd, d1, rfl, e, k1, b, q⟩ := bad_un1 h
  refine ⟨_, (pss_cons (ps_ret (pe_slice (r := rSlL K) sl_list (pe_call (ok_together (P := P) (w := w) T) (hr.mono (by omega)) (by rfl) T.g_together T.F_together.kp T.b_together .nil pass0 (pa_cons (pe_call (okX_ways T) (hr.mono (by omega)) (by rfl) T.g_ways T.F_ways.kp T.b_ways .nil (L2N.passes_call (L2N.takes_of rfl rfl rfl rfl) (fun _ _ _ _ h => h)) (pa_cons (pv 0) pa_nil)) pa_nil)) (po_some pe_int) po_none))
      pss_nev), ?_⟩
  exact tx_no e (eda_cons (ed_var rfl k1) eda_nil) (fun _ => .nil) ⟨rfl, rfl, _, rfl, b⟩ q
theorem okX_parted (T : Tx K mg base) : FnOk P w K mg base (L2N.CX P w) 8 T.a_parted T.d_parted ["chart"] (spX K RNo (BadX T 1)) := by
  refine okN T.F_parted sc_parted (fun vs H Q E h => bad_len h) (fun cdv A outer s H vs Q E hr h => ?_)
  obtain ⟨v1, Hd, d1, rfl, e, k1, b, q⟩ := bad_un1 h
  refine ⟨_, (pss_cons (ps_setNc2 (i := 1) (K := K) (P := P) (w := w) (own := [("at", 10), ("some", 11), ("corner", 12)]) (vs1 := [12]) (g := (gTup K 2 (gCons (gName 10) (gCons (gName 11) gNil)))) (g1 := (gName 12)) (by rfl) (by rfl) (by rfl) (Nat.lt_of_succ_lt (hu_of hr)) (by rfl) sc_parted.nd rfl rfl (swD_true rfl rfl rfl (by decide +kernel)) (pi_enum (by rfl) T.n_enumerate (pa_cons (pe_call (okX_eye_corners T) (hr.mono (by omega)) (by rfl) T.g_eye_corners T.F_eye_corners.kp T.b_eye_corners .nil (L2N.passes_call (L2N.takes_of rfl rfl rfl rfl) (fun _ _ _ _ h => h)) (pa_cons (pv 0) pa_nil)) pa_nil)) (blkOk_by (own := [("at", 10), ("some", 11), ("corner", 12)]) (N := N_parted) (sc := defScope s_parted) (by decide +kernel)) (by decide) (fun _ _ _ _ _ => (pg_tup rfl (pgs_cons (pg_name (i := 10) sc_parted.nd rfl (.inl rfl) (hf := .inr rfl)) (pgs_cons (pg_name (i := 11) sc_parted.nd rfl (.inl rfl) (hf := .inr rfl)) pgs_nil)))) (fun _ _ _ _ _ => pts_nil) (fun _ _ _ _ _ => (pb_list (K := K) (by rfl) (pv 11))) (fun _ _ _ _ _ => (pg_name (i := 12) sc_parted.nd rfl (.inl rfl) (hf := .inr rfl))) (fun _ _ _ _ _ => pts_nil) (fun _ _ _ _ _ => (pv 12)) (fun _ _ _ _ _ => (pv 10)))
      pss_nev), ?_⟩
  exact tx_no e (eda_cons (ed_var rfl k1) eda_nil) (fun _ => .nil) ⟨rfl, rfl, _, rfl, b⟩ q
theorem okX_whole_count (T : Tx K mg base) : FnOk P w K mg base (L2N.CX P w) 7 T.a_whole_count T.d_whole_count ["chart"] (spX K RNo (BadX T 1)) := by
  refine okN T.F_whole_count sc_whole_count (fun vs H Q E h => bad_len h) (fun cdv A outer s H vs Q E hr h => ?_)
  obtain ⟨v1, Hd, d1, rfl, e, k1, b, q⟩ := bad_un1 h
  refine ⟨_, (pss_cons (ps_ret (pe_callB (r := rSum K) (cr_sum rfl) (by rfl) T.n_sum (by decide +kernel) (pa_cons (pe_lc (own := [("some", 1), ("count", 2)]) (g := (gTup K 2 (gCons (gName 1) (gCons (gName 2) gNil)))) (by rfl) sc_whole_count.nd (pi_list (pe_call (okX_eyes T) (hr.mono (by omega)) (by rfl) T.g_eyes T.F_eyes.kp T.b_eyes .nil (L2N.passes_call (L2N.takes_of rfl rfl rfl rfl) (fun _ _ _ _ h => h)) (pa_cons (pv 0) pa_nil))) (blkOk_by (own := [("some", 1), ("count", 2)]) (N := N_whole_count) (sc := defScope s_whole_count) (by decide +kernel)) (fun _ _ _ _ _ => (pg_tup rfl (pgs_cons (pg_name (i := 1) sc_whole_count.nd rfl (.inl rfl) (hf := .inr rfl)) (pgs_cons (pg_name (i := 2) sc_whole_count.nd rfl (.inl rfl) (hf := .inr rfl)) pgs_nil)))) (fun _ _ _ _ _ => pts_nil) (fun _ _ _ _ _ => (pv 2))) pa_nil)))
      pss_nev), ?_⟩
  exact tx_no e (eda_cons (ed_var rfl k1) eda_nil) (fun _ => .nil) ⟨rfl, rfl, _, rfl, b⟩ q
theorem okX_even (T : Tx K mg base) : FnOk P w K mg base (L2N.CX P w) 8 T.a_even T.d_even ["chart"] (spX K RNo (BadX T 1)) := by
  refine okN T.F_even sc_even (fun vs H Q E h => bad_len h) (fun cdv A outer s H vs Q E hr h => ?_)
  obtain ⟨v1, Hd, d1, rfl, e, k1, b, q⟩ := bad_un1 h
  refine ⟨_, (pss_cons (ps_ret (pe_cmpR op_eq (pe_callB (r := rLenS K) call_lenQ (by rfl) T.n_len PySem.boot_len (pa_cons (pe_call (okX_knots T) (hr.mono (by omega)) (by rfl) T.g_knots T.F_knots.kp T.b_knots .nil (L2N.passes_call (L2N.takes_of rfl rfl rfl rfl) (fun _ _ _ _ h => h)) (pa_cons (pv 0) pa_nil)) pa_nil)) pe_int (nomark _)))
      pss_nev), ?_⟩
  exact tx_no e (eda_cons (ed_var rfl k1) eda_nil) (fun _ => .nil) ⟨rfl, rfl, _, rfl, b⟩ q
theorem okX_ages (T : Tx K mg base) : FnOk P w K mg base (L2N.CX P w) 8 T.a_ages T.d_ages ["chart"] (spX K RNo (BadX T 1)) := by
  refine okN T.F_ages sc_ages (fun vs H Q E h => bad_len h) (fun cdv A outer s H vs Q E hr h => ?_)
  obtain ⟨v1, Hd, d1, rfl, e, k1, b, q⟩ := bad_un1 h
  refine ⟨_, (pss_cons (ps_set (i := 1) sc_ages.nd rfl (.inl rfl) (pe_callB (r := rLenS K) call_lenQ (by rfl) T.n_len PySem.boot_len (pa_cons (pe_call (okX_knots T) (hr.mono (by omega)) (by rfl) T.g_knots T.F_knots.kp T.b_knots .nil (L2N.passes_call (L2N.takes_of rfl rfl rfl rfl) (fun _ _ _ _ h => h)) (pa_cons (pv 0) pa_nil)) pa_nil)))
      pss_nev), ?_⟩
  exact tx_no e (eda_cons (ed_var rfl k1) eda_nil) (fun _ => .nil) ⟨rfl, rfl, _, rfl, b⟩ q
theorem okX_are_ages (T : Tx K mg base) : FnOk P w K mg base (L2N.CX P w) 5 T.a_are_ages T.d_are_ages ["chart", "rows"] (spX K RNo (BadX T 2)) := by
  refine okN T.F_are_ages sc_are_ages (fun vs H Q E h => bad_len h) (fun cdv A outer s H vs Q E hr h => ?_)
  obtain ⟨v1, v2, Hd, d1, d2, rfl, e, k1, k2, b, q⟩ := bad_un2 h
  refine ⟨_, (pss_cons (ps_expr (pe_call (okX_need_chart T) (hr.mono (by omega)) (by rfl) T.g_need_chart T.F_need_chart.kp T.b_need_chart .nil (L2N.passes_call (L2N.takes_of rfl rfl rfl rfl) (fun _ _ _ _ h => h)) (pa_cons (pv 0) pa_nil)))
      pss_nev), ?_⟩
  exact tx_no e (eda_cons (ed_var rfl k1) eda_nil) (fun _ => .nil) ⟨rfl, rfl, _, rfl, b⟩ q
theorem ok_off_steps (T : Tx K mg base) : FnOk P w K mg base CX0 1 T.a_off_steps T.d_off_steps ["chart", "rows"] spNev := T.F_off_steps.ok sc_off_steps (fun vs H Q E h => h.elim) (fun cdv A outer s H vs Q E hr h => h.elim)
theorem okX_is_laid (T : Tx K mg base) : FnOk P w K mg base (L2N.CX P w) 6 T.a_is_laid T.d_is_laid ["chart", "rows"] (spX K RNo (BadX T 2)) := by
  refine okN T.F_is_laid sc_is_laid (fun vs H Q E h => bad_len h) (fun cdv A outer s H vs Q E hr h => ?_)
  obtain ⟨v1, v2, Hd, d1, d2, rfl, e, k1, k2, b, q⟩ := bad_un2 h
  refine ⟨_, (pss_cons (ps_ret (pe_and (pe_call (okX_are_ages T) (hr.mono (by omega)) (by rfl) T.g_are_ages T.F_are_ages.kp T.b_are_ages .nil (L2N.passes_call (L2N.takes_of rfl rfl rfl rfl) (fun _ _ _ _ h => h)) (pa_cons (pv 0) (pa_cons (pv 1) pa_nil))) (pe_one (pe_not (pe_callB (r := rAnyI K) (cr_anyI rfl) (by rfl) T.n_any (by decide +kernel) (pa_cons (pe_callTy (r := rMVList K P w) (call_mvlist (by rfl) (by rfl) (by rfl) (by rfl)) (by rfl) T.n_list (by decide +kernel) (pa_cons (pe_mvals (K := K) (P := P) (w := w) (by rfl) (by rfl) (by rfl) (pe_call (ok_off_steps (P := P) (w := w) T) (hr.mono (by omega)) (by rfl) T.g_off_steps T.F_off_steps.kp T.b_off_steps .nil pass0 (pa_cons (pv 0) (pa_cons (pv 1) pa_nil)))) pa_nil)) pa_nil))))))
      pss_nev), ?_⟩
  exact tx_no e (eda_cons (ed_var rfl k1) (eda_cons (ed_var rfl k2) eda_nil)) (fun _ => .nil) ⟨rfl, rfl, _, rfl, b⟩ q
theorem ok_least_tides (T : Tx K mg base) : FnOk P w K mg base CX0 1 T.a_least_tides T.d_least_tides ["chart", "pairs"] spNev := T.F_least_tides.ok sc_least_tides (fun vs H Q E h => h.elim) (fun cdv A outer s H vs Q E hr h => h.elim)
theorem okX_least_breaks (T : Tx K mg base) : FnOk P w K mg base (L2N.CX P w) 9 T.a_least_breaks T.d_least_breaks ["chart"] (spX K RNo (BadX T 1)) := by
  refine okN T.F_least_breaks sc_least_breaks (fun vs H Q E h => bad_len h) (fun cdv A outer s H vs Q E hr h => ?_)
  obtain ⟨v1, Hd, d1, rfl, e, k1, b, q⟩ := bad_un1 h
  refine ⟨_, (pss_cons (ps_set (i := 1) sc_least_breaks.nd rfl (.inl rfl) (pe_call (ok_least_tides (P := P) (w := w) T) (hr.mono (by omega)) (by rfl) T.g_least_tides T.F_least_tides.kp T.b_least_tides .nil pass0 (pa_cons (pv 0) (pa_cons (pe_call (okX_parted T) (hr.mono (by omega)) (by rfl) T.g_parted T.F_parted.kp T.b_parted .nil (L2N.passes_call (L2N.takes_of rfl rfl rfl rfl) (fun _ _ _ _ h => h)) (pa_cons (pv 0) pa_nil)) pa_nil))))
      pss_nev), ?_⟩
  exact ⟨_, rfl, tx_no e (eda_cons (ed_var rfl k1) eda_nil) (fun _ => .nil) ⟨rfl, rfl, _, rfl, b⟩ q⟩
theorem ok_weight (T : Tx K mg base) : FnOk P w K mg base CX0 1 T.a_weight T.d_weight ["breaks"] spNev := T.F_weight.ok sc_weight (fun vs H Q E h => h.elim) (fun cdv A outer s H vs Q E hr h => h.elim)
theorem okX_least_weight (T : Tx K mg base) : FnOk P w K mg base (L2N.CX P w) 10 T.a_least_weight T.d_least_weight ["chart"] (spX K RNo (BadX T 1)) := by
  refine okN T.F_least_weight sc_least_weight (fun vs H Q E h => bad_len h) (fun cdv A outer s H vs Q E hr h => ?_)
  obtain ⟨v1, Hd, d1, rfl, e, k1, b, q⟩ := bad_un1 h
  refine ⟨_, (pss_cons (ps_ret (pe_call (ok_weight (P := P) (w := w) T) (hr.mono (by omega)) (by rfl) T.g_weight T.F_weight.kp T.b_weight .nil pass0 (pa_cons (pe_call (okX_least_breaks T) (hr.mono (by omega)) (by rfl) T.g_least_breaks T.F_least_breaks.kp T.b_least_breaks .nil (L2N.passes_call (L2N.takes_of rfl rfl rfl rfl) (fun _ _ _ _ h => h)) (pa_cons (pv 0) pa_nil)) pa_nil)))
      pss_nev), ?_⟩
  exact tx_no e (eda_cons (ed_var rfl k1) eda_nil) (fun _ => .nil) ⟨rfl, rfl, _, rfl, b⟩ q
theorem okX_side_steps (T : Tx K mg base) : FnOk P w K mg base (L2N.CX P w) 6 T.a_side_steps T.d_side_steps ["chart"] (spX K RNo (BadX T 1)) := by
  refine okN T.F_side_steps sc_side_steps (fun vs H Q E h => bad_len h) (fun cdv A outer s H vs Q E hr h => ?_)
  obtain ⟨v1, Hd, d1, rfl, e, k1, b, q⟩ := bad_un1 h
  refine ⟨_, (pss_cons (ps_set (i := 1) sc_side_steps.nd rfl (.inr rfl) (pe_call (okX_told_hours T) (hr.mono (by omega)) (by rfl) T.g_told_hours T.F_told_hours.kp T.b_told_hours .nil (L2N.passes_call (L2N.takes_of rfl rfl rfl rfl) (fun _ _ _ _ h => h)) (pa_cons (pv 0) pa_nil)))
      pss_nev), ?_⟩
  exact tx_no e (eda_cons (ed_var rfl k1) eda_nil) (fun _ => .nil) ⟨rfl, rfl, _, rfl, b⟩ q
theorem okX_lays (T : Tx K mg base) : FnOk P w K mg base (L2N.CX P w) 7 T.a_lays T.d_lays ["chart", "breaks"] (spX K RNo (BadX T 2)) := by
  refine okN T.F_lays sc_lays (fun vs H Q E h => bad_len h) (fun cdv A outer s H vs Q E hr h => ?_)
  obtain ⟨v1, v2, Hd, d1, d2, rfl, e, k1, k2, b, q⟩ := bad_un2 h
  refine ⟨_, (pss_cons (ps_set (i := 2) sc_lays.nd rfl (.inl rfl) (pe_call (okX_side_steps T) (hr.mono (by omega)) (by rfl) T.g_side_steps T.F_side_steps.kp T.b_side_steps .nil (L2N.passes_call (L2N.takes_of rfl rfl rfl rfl) (fun _ _ _ _ h => h)) (pa_cons (pv 0) pa_nil)))
      pss_nev), ?_⟩
  exact tx_no e (eda_cons (ed_var rfl k1) eda_nil) (fun _ => .nil) ⟨rfl, rfl, _, rfl, b⟩ q
theorem okX_breaks_of (T : Tx K mg base) : FnOk P w K mg base (L2N.CX P w) 6 T.a_breaks_of T.d_breaks_of ["chart", "rows"] (spX K RNo (BadX T 2)) := by
  refine okN T.F_breaks_of sc_breaks_of (fun vs H Q E h => bad_len h) (fun cdv A outer s H vs Q E hr h => ?_)
  obtain ⟨v1, v2, Hd, d1, d2, rfl, e, k1, k2, b, q⟩ := bad_un2 h
  refine ⟨_, (pss_cons (ps_if (pt_not (pt_val (pe_call (okX_are_ages T) (hr.mono (by omega)) (by rfl) T.g_are_ages T.F_are_ages.kp T.b_are_ages .nil (L2N.passes_call (L2N.takes_of rfl rfl rfl rfl) (fun _ _ _ _ h => h)) (pa_cons (pv 0) (pa_cons (pv 1) pa_nil))))) (pss_cons (L2N.ps_raise rfl (L2N.takes_of rfl rfl rfl rfl) (T.X_BadBreaks.pmk (by rfl)))
      pss_nil) pss_nil)
      pss_nev), ?_⟩
  exact tx_no e (eda_cons (ed_var rfl k1) (eda_cons (ed_var rfl k2) eda_nil)) (fun _ => .nil) ⟨rfl, rfl, _, rfl, b⟩ q
theorem okX_prices (T : Tx K mg base) : FnOk P w K mg base (L2N.CX P w) 9 T.a_prices T.d_prices ["chart"] (spX K RNo (BadX T 1)) := by
  refine okN T.F_prices sc_prices (fun vs H Q E h => bad_len h) (fun cdv A outer s H vs Q E hr h => ?_)
  obtain ⟨v1, Hd, d1, rfl, e, k1, b, q⟩ := bad_un1 h
  refine ⟨_, (pss_cons (ps_set (i := 1) sc_prices.nd rfl (.inl rfl) (pe_call (okX_parted T) (hr.mono (by omega)) (by rfl) T.g_parted T.F_parted.kp T.b_parted .nil (L2N.passes_call (L2N.takes_of rfl rfl rfl rfl) (fun _ _ _ _ h => h)) (pa_cons (pv 0) pa_nil)))
      pss_nev), ?_⟩
  exact tx_no e (eda_cons (ed_var rfl k1) eda_nil) (fun _ => .nil) ⟨rfl, rfl, _, rfl, b⟩ q
theorem okX_need_prices (T : Tx K mg base) : FnOk P w K mg base (L2N.CX P w) 7 T.a_need_prices T.d_need_prices ["chart", "some"] (spX K RNo (BadXL T)) := by
  refine okN T.F_need_prices sc_need_prices (fun vs H Q E h => by obtain ⟨_, _, _, _, _, rfl, _⟩ := badL_un h; rfl) (fun cdv A outer s H vs Q E hr h => ?_)
  obtain ⟨v1, v2, Hd, d1, es, rfl, e, k1, k2, b, q⟩ := badL_un h
  refine ⟨_, (pss_cons (ps_if (pt_cmpR op_ne (pe_callB (r := rLenS K) call_lenQ (by rfl) T.n_len PySem.boot_len (pa_cons (pv 1) pa_nil)) (pe_callB (r := rLenS K) call_lenQ (by rfl) T.n_len PySem.boot_len (pa_cons (pe_call (okX_eyes T) (hr.mono (by omega)) (by rfl) T.g_eyes T.F_eyes.kp T.b_eyes .nil (L2N.passes_call (L2N.takes_of rfl rfl rfl rfl) (fun _ _ _ _ h => h)) (pa_cons (pv 0) pa_nil)) pa_nil)) (nomark _)) (pss_cons (L2N.ps_raise rfl (L2N.takes_of rfl rfl rfl rfl) (T.X_BadPrices.pmk (by rfl)))
      pss_nil) pss_nil)
      pss_nev), ?_⟩
  exact ev_lenL (ed_var rfl k2) H e _ fun H2 e2 => tx_no (e.trans e2) (eda_cons (ed_var rfl k1) eda_nil) (fun _ => .nil) ⟨rfl, rfl, _, rfl, b⟩ fun H3 e3 => q H3 (e2.trans e3)
theorem okX_hold (T : Tx K mg base) : FnOk P w K mg base (L2N.CX P w) 8 T.a_hold T.d_hold ["chart", "some"] (spX K RNo (BadXL T)) := by
  refine okN T.F_hold sc_hold (fun vs H Q E h => by obtain ⟨_, _, _, _, _, rfl, _⟩ := badL_un h; rfl) (fun cdv A outer s H vs Q E hr h => ?_)
  obtain ⟨v1, v2, Hd, d1, es, rfl, e, k1, k2, b, q⟩ := badL_un h
  refine ⟨_, (pss_cons (ps_expr (pe_call (okX_need_prices T) (hr.mono (by omega)) (by rfl) T.g_need_prices T.F_need_prices.kp T.b_need_prices .nil (L2N.passes_call (L2N.takes_of rfl rfl rfl rfl) (fun _ _ _ _ h => h)) (pa_cons (pv 0) (pa_cons (pv 1) pa_nil))))
      pss_nev), ?_⟩
  exact tx_no e (eda_cons (ed_var rfl k1) (eda_cons (ed_var rfl k2) eda_nil)) (fun _ => .nil) ⟨rfl, _, _, rfl, b⟩ q
theorem okX_worth (T : Tx K mg base) : FnOk P w K mg base (L2N.CX P w) 8 T.a_worth T.d_worth ["chart", "some"] (spX K RNo (BadXL T)) := by
  refine okN T.F_worth sc_worth (fun vs H Q E h => by obtain ⟨_, _, _, _, _, rfl, _⟩ := badL_un h; rfl) (fun cdv A outer s H vs Q E hr h => ?_)
  obtain ⟨v1, v2, Hd, d1, es, rfl, e, k1, k2, b, q⟩ := badL_un h
  refine ⟨_, (pss_cons (ps_expr (pe_call (okX_need_prices T) (hr.mono (by omega)) (by rfl) T.g_need_prices T.F_need_prices.kp T.b_need_prices .nil (L2N.passes_call (L2N.takes_of rfl rfl rfl rfl) (fun _ _ _ _ h => h)) (pa_cons (pv 0) (pa_cons (pv 1) pa_nil))))
      pss_nev), ?_⟩
  exact tx_no e (eda_cons (ed_var rfl k1) (eda_cons (ed_var rfl k2) eda_nil)) (fun _ => .nil) ⟨rfl, _, _, rfl, b⟩ q
theorem okX_near_rooms (T : Tx K mg base) : FnOk P w K mg base (L2N.CX P w) 6 T.a_near_rooms T.d_near_rooms ["chart"] (spX K RNo (BadX T 1)) := by
  refine okN T.F_near_rooms sc_near_rooms (fun vs H Q E h => bad_len h) (fun cdv A outer s H vs Q E hr h => ?_)
  obtain ⟨v1, Hd, d1, rfl, e, k1, b, q⟩ := bad_un1 h
  refine ⟨_, (pss_cons (ps_set (i := 1) sc_near_rooms.nd rfl (.inl rfl) (pe_call (okX_told_hours T) (hr.mono (by omega)) (by rfl) T.g_told_hours T.F_told_hours.kp T.b_told_hours .nil (L2N.passes_call (L2N.takes_of rfl rfl rfl rfl) (fun _ _ _ _ h => h)) (pa_cons (pv 0) pa_nil)))
      pss_nev), ?_⟩
  exact tx_no e (eda_cons (ed_var rfl k1) eda_nil) (fun _ => .nil) ⟨rfl, rfl, _, rfl, b⟩ q
theorem okX_settled (T : Tx K mg base) : FnOk P w K mg base (L2N.CX P w) 7 T.a_settled T.d_settled ["chart"] (spX K RNo (BadX T 1)) := by
  refine okN T.F_settled sc_settled (fun vs H Q E h => bad_len h) (fun cdv A outer s H vs Q E hr h => ?_)
  obtain ⟨v1, Hd, d1, rfl, e, k1, b, q⟩ := bad_un1 h
  refine ⟨_, (pss_cons (ps_set (i := 1) sc_settled.nd rfl (.inl rfl) (pe_call (okX_near_rooms T) (hr.mono (by omega)) (by rfl) T.g_near_rooms T.F_near_rooms.kp T.b_near_rooms .nil (L2N.passes_call (L2N.takes_of rfl rfl rfl rfl) (fun _ _ _ _ h => h)) (pa_cons (pv 0) pa_nil)))
      pss_nev), ?_⟩
  exact tx_no e (eda_cons (ed_var rfl k1) eda_nil) (fun _ => .nil) ⟨rfl, rfl, _, rfl, b⟩ q
theorem okX_fill (T : Tx K mg base) : FnOk P w K mg base (L2N.CX P w) 8 T.a_fill T.d_fill ["chart"] (spX K RNo (BadX T 1)) := by
  refine okN T.F_fill sc_fill (fun vs H Q E h => bad_len h) (fun cdv A outer s H vs Q E hr h => ?_)
  obtain ⟨v1, Hd, d1, rfl, e, k1, b, q⟩ := bad_un1 h
  refine ⟨_, (pss_cons (ps_asg (pe_call (okX_settled T) (hr.mono (by omega)) (by rfl) T.g_settled T.F_settled.kp T.b_settled .nil (L2N.passes_call (L2N.takes_of rfl rfl rfl rfl) (fun _ _ _ _ h => h)) (pa_cons (pv 0) pa_nil)) (pg_tup rfl (pgs_cons (pg_name (i := 1) sc_fill.nd rfl (.inl rfl)) (pgs_cons (pg_name (i := 2) sc_fill.nd rfl (.inl rfl)) pgs_nil))))
      pss_nev), ?_⟩
  exact tx_no e (eda_cons (ed_var rfl k1) eda_nil) (fun _ => .nil) ⟨rfl, rfl, _, rfl, b⟩ q
theorem okX_bar (T : Tx K mg base) : FnOk P w K mg base (L2N.CX P w) 8 T.a_bar T.d_bar ["chart"] (spX K RNo (BadX T 1)) := by
  refine okN T.F_bar sc_bar (fun vs H Q E h => bad_len h) (fun cdv A outer s H vs Q E hr h => ?_)
  obtain ⟨v1, Hd, d1, rfl, e, k1, b, q⟩ := bad_un1 h
  refine ⟨_, (pss_cons (ps_asg (pe_call (okX_settled T) (hr.mono (by omega)) (by rfl) T.g_settled T.F_settled.kp T.b_settled .nil (L2N.passes_call (L2N.takes_of rfl rfl rfl rfl) (fun _ _ _ _ h => h)) (pa_cons (pv 0) pa_nil)) (pg_tup rfl (pgs_cons (pg_name (i := 1) sc_bar.nd rfl (.inl rfl)) (pgs_cons (pg_name (i := 2) sc_bar.nd rfl (.inl rfl)) pgs_nil))))
      pss_nev), ?_⟩
  exact tx_no e (eda_cons (ed_var rfl k1) eda_nil) (fun _ => .nil) ⟨rfl, rfl, _, rfl, b⟩ q
theorem okX_can_fill (T : Tx K mg base) : FnOk P w K mg base (L2N.CX P w) 9 T.a_can_fill T.d_can_fill ["chart"] (spX K RNo (BadX T 1)) := by
  refine okN T.F_can_fill sc_can_fill (fun vs H Q E h => bad_len h) (fun cdv A outer s H vs Q E hr h => ?_)
  obtain ⟨v1, Hd, d1, rfl, e, k1, b, q⟩ := bad_un1 h
  refine ⟨_, (pss_cons (ps_ret (pe_cmpR op_isN (pe_call (okX_bar T) (hr.mono (by omega)) (by rfl) T.g_bar T.F_bar.kp T.b_bar .nil (L2N.passes_call (L2N.takes_of rfl rfl rfl rfl) (fun _ _ _ _ h => h)) (pa_cons (pv 0) pa_nil)) pe_non (nomark _)))
      pss_nev), ?_⟩
  exact tx_no e (eda_cons (ed_var rfl k1) eda_nil) (fun _ => .nil) ⟨rfl, rfl, _, rfl, b⟩ q
theorem okX_is_bar (T : Tx K mg base) : FnOk P w K mg base (L2N.CX P w) 6 T.a_is_bar T.d_is_bar ["chart", "ring"] (spX K RNo (BadX T 2)) := by
  refine okN T.F_is_bar sc_is_bar (fun vs H Q E h => bad_len h) (fun cdv A outer s H vs Q E hr h => ?_)
  obtain ⟨v1, v2, Hd, d1, d2, rfl, e, k1, k2, b, q⟩ := bad_un2 h
  refine ⟨_, (pss_cons (ps_set (i := 2) sc_is_bar.nd rfl (.inr rfl) (pe_call (okX_told_hours T) (hr.mono (by omega)) (by rfl) T.g_told_hours T.F_told_hours.kp T.b_told_hours .nil (L2N.passes_call (L2N.takes_of rfl rfl rfl rfl) (fun _ _ _ _ h => h)) (pa_cons (pv 0) pa_nil)))
      pss_nev), ?_⟩
  exact tx_no e (eda_cons (ed_var rfl k1) eda_nil) (fun _ => .nil) ⟨rfl, rfl, _, rfl, b⟩ q
theorem okX_may_be (T : Tx K mg base) : FnOk P w K mg base (L2N.CX P w) 7 T.a_may_be T.d_may_be ["chart", "square"] (spX K RNo (BadX T 2)) := by
  refine okN T.F_may_be sc_may_be (fun vs H Q E h => bad_len h) (fun cdv A outer s H vs Q E hr h => ?_)
  obtain ⟨v1, v2, Hd, d1, d2, rfl, e, k1, k2, b, q⟩ := bad_un2 h
  refine ⟨_, (pss_cons (ps_set (i := 2) sc_may_be.nd rfl (.inl rfl) (pe_call (okX_hour_at T) (hr.mono (by omega)) (by rfl) T.g_hour_at T.F_hour_at.kp T.b_hour_at .nil (L2N.passes_call (L2N.takes_of rfl rfl rfl rfl) (fun _ _ _ _ h => h)) (pa_cons (pv 0) (pa_cons (pv 1) pa_nil))))
      pss_nev), ?_⟩
  exact tx_no e (eda_cons (ed_var rfl k1) (eda_cons (ed_var rfl k2) eda_nil)) (fun _ => .nil) ⟨rfl, rfl, _, rfl, b⟩ q
theorem okX_need_within (T : Tx K mg base) : FnOk P w K mg base (L2N.CX P w) 6 T.a_need_within T.d_need_within ["chart", "top", "left", "high", "wide"] (spX K RNo (BadX T 5)) := by
  refine okN T.F_need_within sc_need_within (fun vs H Q E h => bad_len h) (fun cdv A outer s H vs Q E hr h => ?_)
  obtain ⟨v1, v2, v3, v4, v5, Hd, d1, d2, d3, d4, d5, rfl, e, k1, k2, k3, k4, k5, b, q⟩ := bad_un5 h
  refine ⟨_, (pss_cons (ps_asg (pe_call (okX_size T) (hr.mono (by omega)) (by rfl) T.g_size T.F_size.kp T.b_size .nil (L2N.passes_call (L2N.takes_of rfl rfl rfl rfl) (fun _ _ _ _ h => h)) (pa_cons (pv 0) pa_nil)) (pg_tup rfl (pgs_cons (pg_name (i := 5) sc_need_within.nd rfl (.inl rfl)) (pgs_cons (pg_name (i := 6) sc_need_within.nd rfl (.inl rfl)) pgs_nil))))
      pss_nev), ?_⟩
  exact tx_no e (eda_cons (ed_var rfl k1) eda_nil) (fun _ => .nil) ⟨rfl, rfl, _, rfl, b⟩ q
theorem okX_cut (T : Tx K mg base) : FnOk P w K mg base (L2N.CX P w) 7 T.a_cut T.d_cut ["chart", "top", "left", "rows", "columns"] (spX K RNo (BadX T 5)) := by
  refine okN T.F_cut sc_cut (fun vs H Q E h => bad_len h) (fun cdv A outer s H vs Q E hr h => ?_)
  obtain ⟨v1, v2, v3, v4, v5, Hd, d1, d2, d3, d4, d5, rfl, e, k1, k2, k3, k4, k5, b, q⟩ := bad_un5 h
  refine ⟨_, (pss_cons (ps_expr (pe_call (okX_need_within T) (hr.mono (by omega)) (by rfl) T.g_need_within T.F_need_within.kp T.b_need_within .nil (L2N.passes_call (L2N.takes_of rfl rfl rfl rfl) (fun _ _ _ _ h => h)) (pa_cons (pv 0) (pa_cons (pv 1) (pa_cons (pv 2) (pa_cons (pv 3) (pa_cons (pv 4) pa_nil)))))))
      pss_nev), ?_⟩
  exact tx_no e (eda_cons (ed_var rfl k1) (eda_cons (ed_var rfl k2) (eda_cons (ed_var rfl k3) (eda_cons (ed_var rfl k4) (eda_cons (ed_var rfl k5) eda_nil))))) (fun _ => .nil) ⟨rfl, rfl, _, rfl, b⟩ q
theorem okX_turned (T : Tx K mg base) : FnOk P w K mg base (L2N.CX P w) 6 T.a_turned T.d_turned ["chart"] (spX K RNo (BadX T 1)) := by
  refine okN T.F_turned sc_turned (fun vs H Q E h => bad_len h) (fun cdv A outer s H vs Q E hr h => ?_)
  obtain ⟨v1, Hd, d1, rfl, e, k1, b, q⟩ := bad_un1 h
  refine ⟨_, (pss_cons (ps_set (i := 1) sc_turned.nd rfl (.inl rfl) (pe_ix (r := rIxT K) ix_tup (pe_call (okX_size T) (hr.mono (by omega)) (by rfl) T.g_size T.F_size.kp T.b_size .nil (L2N.passes_call (L2N.takes_of rfl rfl rfl rfl) (fun _ _ _ _ h => h)) (pa_cons (pv 0) pa_nil)) pe_int (fun _ _ => rfl)))
      pss_nev), ?_⟩
  exact tx_no e (eda_cons (ed_var rfl k1) eda_nil) (fun _ => .nil) ⟨rfl, rfl, _, rfl, b⟩ q
theorem okX_mirrored (T : Tx K mg base) : FnOk P w K mg base (L2N.CX P w) 5 T.a_mirrored T.d_mirrored ["chart"] (spX K RNo (BadX T 1)) := by
  refine okN T.F_mirrored sc_mirrored (fun vs H Q E h => bad_len h) (fun cdv A outer s H vs Q E hr h => ?_)
  obtain ⟨v1, Hd, d1, rfl, e, k1, b, q⟩ := bad_un1 h
  refine ⟨_, (pss_cons (ps_expr (pe_call (okX_need_chart T) (hr.mono (by omega)) (by rfl) T.g_need_chart T.F_need_chart.kp T.b_need_chart .nil (L2N.passes_call (L2N.takes_of rfl rfl rfl rfl) (fun _ _ _ _ h => h)) (pa_cons (pv 0) pa_nil)))
      pss_nev), ?_⟩
  exact tx_no e (eda_cons (ed_var rfl k1) eda_nil) (fun _ => .nil) ⟨rfl, rfl, _, rfl, b⟩ q
theorem okX_later (T : Tx K mg base) : FnOk P w K mg base (L2N.CX P w) 5 T.a_later T.d_later ["chart", "by"] (spX K RNo (BadX T 2)) := by
  refine okND T.F_later sc_later (fun vs H Q E h => bad_len h) (fun cdv A outer s H vs Q E hr h => ?_)
  obtain ⟨v1, v2, Hd, d1, d2, rfl, e, k1, k2, b, q⟩ := bad_un2 h
  refine ⟨_, (pss_cons (ps_expr (pe_call (okX_need_chart T) (hr.mono (by omega)) (by rfl) T.g_need_chart T.F_need_chart.kp T.b_need_chart .nil (L2N.passes_call (L2N.takes_of rfl rfl rfl rfl) (fun _ _ _ _ h => h)) (pa_cons (pv 0) pa_nil)))
      pss_nev), ?_⟩
  exact tx_no e (eda_cons (ed_var rfl k1) eda_nil) (fun _ => .nil) ⟨rfl, rfl, _, rfl, b⟩ q
theorem okX_need_fit (T : Tx K mg base) : FnOk P w K mg base (L2N.CX P w) 5 T.a_need_fit T.d_need_fit ["chart", "patch", "top", "left"] (spX K RNo (BadX2 T 4)) := by
  refine okN T.F_need_fit sc_need_fit (fun vs H Q E h => bad2_len h) (fun cdv A outer s H vs Q E hr h => ?_)
  obtain ⟨v1, v2, v3, v4, Hd, d1, d2, d3, d4, rfl, e, k1, k2, k3, k4, b, q⟩ := bad2_un h
  refine ⟨_, (pss_cons (ps_expr (pe_call (okX_need_chart T) (hr.mono (by omega)) (by rfl) T.g_need_chart T.F_need_chart.kp T.b_need_chart .nil (L2N.passes_call (L2N.takes_of rfl rfl rfl rfl) (fun _ _ _ _ h => h)) (pa_cons (pv 0) pa_nil)))
      (pss_cons (ps_expr (pe_call (okX_need_chart T) (hr.mono (by omega)) (by rfl) T.g_need_chart T.F_need_chart.kp T.b_need_chart .nil (L2N.passes_call (L2N.takes_of rfl rfl rfl rfl) (fun _ _ _ _ h => h)) (pa_cons (pv 1) pa_nil)))
      pss_nev)), ?_⟩
  rcases b with b | ⟨g, b⟩
  · exact tx_no e (eda_cons (ed_var rfl k1) eda_nil) (fun _ => .nil) ⟨rfl, rfl, _, rfl, b⟩ q
  · exact tx_ok e (eda_cons (ed_var rfl k1) eda_nil) (fun _ => .nil) ⟨rfl, _, rfl, g⟩ fun v H2 Hn g2 _ => tx_no g2.sub (eda_cons (ed_var rfl (dp_mono g2.dx _ k2)) eda_nil) (fun _ => .nil) ⟨rfl, rfl, _, rfl, b⟩ fun H3 e3 => q H3 (g2.ex.trans e3)
theorem okX_laid_in (T : Tx K mg base) : FnOk P w K mg base (L2N.CX P w) 6 T.a_laid_in T.d_laid_in ["chart", "patch", "top", "left"] (spX K RNo (BadX2 T 4)) := by
  refine okND T.F_laid_in sc_laid_in (fun vs H Q E h => bad2_len h) (fun cdv A outer s H vs Q E hr h => ?_)
  obtain ⟨v1, v2, v3, v4, Hd, d1, d2, d3, d4, rfl, e, k1, k2, k3, k4, b, q⟩ := bad2_un h
  refine ⟨_, (pss_cons (ps_expr (pe_call (okX_need_fit T) (hr.mono (by omega)) (by rfl) T.g_need_fit T.F_need_fit.kp T.b_need_fit .nil (L2N.passes_call (L2N.takes_of rfl rfl rfl rfl) (fun _ _ _ _ h => h)) (pa_cons (pv 0) (pa_cons (pv 1) (pa_cons (pv 2) (pa_cons (pv 3) pa_nil))))))
      pss_nev), ?_⟩
  exact tx_no e (eda_cons (ed_var rfl k1) (eda_cons (ed_var rfl k2) (eda_cons (ed_var rfl k3) (eda_cons (ed_var rfl k4) eda_nil)))) (fun _ => .nil) ⟨rfl, rfl, _, _, rfl, rfl, b⟩ q
section
open LamX
/-- what a lambda's reading tells where its word is wd -/
def WdOf (T : Tx K mg base) (Tt : List (Addr × Str)) (Hd H : Hp) (t : XK → TE) (σ : L2.St) (wd : Str) : Prop := ∀ H1 Hk, GrW Tt [] Hd H Hk H1 → ∀ (E : XK) (Q1 : VK), (wd = "" → ∀ v H2 Hn, GrW Tt [] Hk H1 Hn H2 → Q1 v H2) → (∀ C, Known T wd C → ∀ Hn H2, GrW Tt [] Hk H1 Hn H2 → E (.ref C) none H2) → t E σ H1 Q1
theorem WdOf.step {T : Tx K mg base} {Tt : List (Addr × Str)} {Hd H Hn H2 : Hp} {t : XK → TE} {σ : L2.St} {wd : Str} (h : WdOf T Tt Hd H t σ wd) (g : GrW Tt [] Hd H Hn H2) : WdOf T Tt Hn H2 t σ wd := fun H1 Hk g1 => h H1 Hk (g.trans g1)
theorem yes_run {A B : Hp → Prop} {σ : L2.St} {H : Hp} (h : A H) : tYes σ H fun b H3 => if b = true then A H3 else B H3 := by
  show if (true : Bool) = true then A H else B H
  rw [if_pos rfl]
  exact h
end
section
open LamX
variable {X : Cx} {k : Nat} {Tt : List (Addr × Str)} {Hd0 H0 Hd H : Hp} {p : Addr} {ts : List (XK → TE)} {t : XK → TE} {σ : L2.St} {tz : TS} {D : Ends} {ta tl : TE}
structure Asks (X : Cx) (k : Nat) (Tt : List (Addr × Str)) (Hd0 H0 : Hp) (p : Addr) (ts : List (XK → TE)) (Hd H : Hp) : Prop where
  g : GrW Tt [] Hd0 H0 Hd H
  n1 : NewAt H0 p
  n2 : Hd p = none
  fs : ∃ fs : List V, H p = some (.lst fs) ∧ fs.length = ts.length ∧ ∀ (i : Nat) (t : XK → TE), ts[i]? = some t → ∃ f c', fs[i]? = some (.ref f) ∧ LamAt X k H f c' t
theorem ew_lstV {M : List Addr} {Hk : Hp} {tr : TA} {vs : List V} (W : Wld Tt M Hk H) (h : EvA tr σ H vs) (hl : vs.length ≤ 100000) : EvW Tt [] (tLst tr) σ Hk H (fun v Hn H2 => ∃ p, v = .ref p ∧ NewAt H p ∧ Hn = Hk ∧ Hk p = none ∧ H2 p = some (.lst vs)) := fun H1 e1 Q q =>
  h H1 e1 _ fun H2 e2 => ⟨sz_of hl, fun p hp => q _ _ Hk (GrW.ext (W.ext e1) (e2.trans (Ex.new hp))) ⟨p, rfl, newAt_none (fresh_back (e1.trans e2) hp), rfl, fresh_back (W.sub.trans (e1.trans e2)) hp, upd_same⟩⟩
theorem go_askNew {i : Nat} (W : Wld Tt [] Hd H) (q : ∀ p H2, Asks X k Tt Hd H p [t] Hd H2 → Go tz D (σ.set i (some (.ref p))) H2) : Go (tSeq (tAsg (tLst (tCons (tLamV X Tt k t) tNil)) (gName i)) tz) D σ H := by
  refine go_bind (C := fun te => tSeq (tAsg (tLst (tCons te tNil)) (gName i)) tz) (ew_lamV W) ?_
  rintro _ H2 Hn g ⟨rfl, f, c', rfl, L⟩
  have W2 := W.step g
  refine go_asgE (M := []) (ew_lstV W2 (ea_cons ev_val ea_nil) (by simp)) ?_
  rintro _ H3 Hm g3 ⟨p, rfl, np, rfl, nk, h3⟩
  refine q p H3 ⟨g.trans g3, np.back g, nk, _, h3, rfl, fun j u hu => ?_⟩
  cases j with
  | zero =>
    cases hu
    exact ⟨f, c', rfl, L.step g3 (by simp) (by simp)⟩
  | succ j => cases hu
theorem go_askApp {K : PySem.W.Frag} (W : Wld Tt [] Hd0 H0) (a : Asks X k Tt Hd0 H0 p ts Hd H) (few : ts.length < 1000) (ha : Ev ta σ H (.ref p)) (q : ∀ H2, Asks X k Tt Hd0 H0 p (ts ++ [t]) Hd H2 → Go tz D σ H2) :
    Go (tSeq (tDrop (tBM K "list" rAppend ta (tCons (tLamV X Tt k t) tNil))) tz) D σ H := by
  obtain ⟨g, n1, n2, fs, h1, hl, hf⟩ := a
  refine go_appE (M := []) h1 (by simp) ha (ew_lamV (W.step g)) (by omega) ?_
  rintro _ H2 Hn g2 ⟨rfl, f, c', rfl, L⟩
  have h2 := g2.ex _ _ h1 (by simp) noTb_lst
  refine q _ ⟨(g.trans g2).put h2 n1 n2, n1, n2, _, upd_same, by rw [List.length_append, List.length_append, hl]; rfl, fun j u hu => ?_⟩
  by_cases hj : j < ts.length
  · rw [List.getElem?_append_left hj] at hu
    obtain ⟨f1, c1, h3, L1⟩ := hf j u hu
    exact ⟨f1, c1, by rw [List.getElem?_append_left (by omega)]; exact h3, (L1.step g2 (by simp) (by simp)).put h2⟩
  · rw [List.getElem?_append_right (by omega)] at hu
    have hj0 : j - ts.length = 0 := by
      cases z : j - ts.length with
      | zero => rfl
      | succ m =>
        rw [z] at hu
        cases hu
    rw [hj0] at hu
    cases hu
    have e : j = fs.length := by omega
    subst e
    exact ⟨f, c', by simp, L.put h2⟩
end
section
open LamX
theorem pe_law_wordX {X : Cx} (T : Tx X.K X.mg X.base) {k : Nat} {e : Expr} {te : TE} {p pos : Pos} (hr : Room (k + 2) X.A) (hk : 1 ≤ k + 1) (hg : Gl X "_law_word") (he : PE X e te)
    (hse : starEach [e] X.env = (false, eval e X.env) :: starEach [] X.env := by rfl) : PE X (.Call (.Name "_law_word" p) [e] [] pos) (tLamD X.prog X.w X.K X.mg X.base k (TTw T) te) := by
  obtain ⟨oc, od, kV, doc, pm, an, cdv, ct, osl, e', lk, hcd⟩ := T.F_law_word.ex
  have bd := T.b_law_word
  rw [e'] at bd lk
  exact pe_dead hg T.g_law_word T.F_law_word.kp lk hcd bd sc_law_word rfl (.inl rfl) (fun q => (word_gives T hk).s) hr he (hse := hse)
theorem pe_law_wordD {X : Cx} (T : Tx X.K X.mg X.base) {k : Nat} {e : Expr} {te : TE} {p pos : Pos} {s0 : Shared} {H0 : Hp} {sb : Scope} {ce : Env} {fp : List Addr} (hr : Room (k + 2) X.A) (hk : 1 ≤ k + 1) (hg : Gl (X.blk s0 H0 sb ce fp) "_law_word") (he : PE (X.blk s0 H0 sb ce fp) e te)
    (hse : starEach [e] ce = (false, eval e ce) :: starEach [] ce := by rfl) : PE (X.blk s0 H0 sb ce fp) (.Call (.Name "_law_word" p) [e] [] pos) (tLamD X.prog X.w X.K X.mg X.base k (TTw T) te) := pe_law_wordX (X := X.blk s0 H0 sb ce fp) T hr hk hg he (hse := hse)
theorem dead_up {P : Program} {w : World} {K : PySem.W.Frag} {mg : Str → Option Value} {base : Heap} {k k2 : Nat} {H : Hp} {f C : Addr} (h : DeadAt P w K mg base k H f C) (l : k ≤ k2) : DeadAt P w K mg base k2 H f C := by
  obtain ⟨CXd, Nd, qd, sd, fd, cdd, Ad, od, s0, H0, Ed, y, iy, c, c', v, σd, pr, bd, sc, tb, Hd, h1, h2, h3, h4, h5, h6, h7, h8, h9, h10⟩ := h
  exact ⟨CXd, Nd, qd, sd, fd, cdd, Ad, od, s0, H0, Ed, y, iy, c, c', v, σd, pr, bd, sc, tb, Hd, h1, h2, h3, h4, h5, h6, h7, h8, fun A outer s H E f c' hr => h9 A outer s H E f c' (hr.mono l), h10⟩
/-- a reading that only raises -/
def Told (T : Tx K mg base) (Hd : Hp) (σd : L2.St) (t : XK → TE) : Prop := ∀ (H1 : Hp) (E : XK), Ex Hd H1 → (∀ H2, Ex H1 H2 → E (.ref T.a_BadChart) none H2) → t E σd H1 (fun _ _ => False)
theorem told_of {T : Tx K mg base} {Hd : Hp} {σd : L2.St} {tr : TA} {ds dd : List PyData} {dv : List V} {Rx : List PyData → Addr → Prop} (h : EvDA K tr σd Hd ds) (hv : ∀ H, DpAll K H dv dd) (hr : Rx (ds ++ dd) T.a_BadChart) : Told T Hd σd (fun E => tCall (spX K RNo Rx) dv E tr) := fun _ _ e1 no => tx_no e1 h hv hr no
/-- lambdas made so far, all of them refused -/
def Dead1 (T : Tx K mg base) (X : Cx) (k : Nat) (Tt : List (Addr × Str)) (Hd H0 : Hp) (σd : L2.St) (p : Addr) (n : Nat) (H : Hp) : Prop := ∃ ts, Asks X k Tt Hd H0 p ts Hd H ∧ ts.length = n ∧ ∀ t ∈ ts, Told T Hd σd t
def GoR (u : TR) (R : V → L2.St → Hp → Prop) (σ : L2.St) (H : Hp) : Prop := ∀ H1, Ex H H1 → u R σ H1
section
variable {T : Tx K mg base} {X : Cx} {k n : Nat} {Tt : List (Addr × Str)} {Hd H0 H : Hp} {σ σd : L2.St} {p : Addr} {t : XK → TE} {ta : TE} {u : TR} {R : V → L2.St → Hp → Prop} {i : Nat}
theorem goR_new (W : Wld Tt [] Hd H) (ht : Told T Hd σd t) (q : ∀ p H2, Dead1 T X k Tt Hd H σd p 1 H2 → GoR u R (σ.set i (some (.ref p))) H2) : GoR (tSeqR (tAsg (tLst (tCons (tLamV X Tt k t) tNil)) (gName i)) u) R σ H :=
  go_askNew (tz := fun _ σ H => u R σ H) (D := { nx := fun _ _ => False, rt := fun _ _ => False }) W fun p H2 a => q p H2 ⟨_, a, rfl, fun t' h => by
    cases h with
    | head => exact ht
    | tail _ z => cases z⟩
theorem goR_app {K : PySem.W.Frag} {mg : Str → Option Value} {base : Heap} {T : Tx K mg base} (W : Wld Tt [] Hd H0) (a : Dead1 T X k Tt Hd H0 σd p n H) (few : n < 1000) (ha : Ev ta σ H (.ref p)) (ht : Told T Hd σd t) (q : ∀ H2, Dead1 T X k Tt Hd H0 σd p (n + 1) H2 → GoR u R σ H2) :
    GoR (tSeqR (tDrop (tBM K "list" rAppend ta (tCons (tLamV X Tt k t) tNil))) u) R σ H := by
  obtain ⟨ts, a, rfl, hts⟩ := a
  exact go_askApp (tz := fun _ σ H => u R σ H) (D := { nx := fun _ _ => False, rt := fun _ _ => False }) W a few ha fun H2 a2 => q H2 ⟨_, a2, by rw [List.length_append]; rfl, fun t' h => by
    rcases List.mem_append.mp h with h | h
    · exact hts t' h
    · rw [List.mem_singleton.mp h]
      exact ht⟩
end
/-- what a def of doors answers -/
def spDoors (P : Program) (w : World) (base : Heap) (T : Tx K mg base) (k n : Nat) : Sp := fun vs H Q _ => ∃ (v : V) (Hd : Hp) (d : PyData), vs = [v] ∧ Dp K Hd v d ∧ BadC d ∧ Wld (tabsOf T) [] Hd H ∧
  ∀ (p : Addr) (fs : List V) (H2 : Hp), GrW (tabsOf T) [] Hd H Hd H2 → NewAt H p → Hd p = none → H2 p = some (.lst fs) → fs.length = n → (∀ x ∈ fs, ∃ f, x = .ref f ∧ DeadAt P w K mg base k H2 f T.a_BadChart) → Q (.ref p) H2
/-- the end of such a def -/
theorem doors_end {CXd : CXT} {P : Program} {w : World} {K : PySem.W.Frag} {mg : Str → Option Value} {base : Heap} {T : Tx K mg base} {ql : Str} {N : List Str} {sd : Scope} {fd : Addr} {cdd : Value} {A : Around} {od : List Env} {s0 : Shared} {Hx H Hd : Hp} {Ed : XK} {k n : Nat} {p cc : Addr} {H1 : Hp} {y : Str} {v : V} {σd : L2.St} {Q : VK}
    (a : Dead1 T (cxOf CXd P w K mg base N ql sd fd cdd A od s0 Hx Ed) k (tabsOf T) Hd H σd p n H1) (hl : σd.length = N.length) (hσ : ∀ j u, σd[j]? = some (some u) → j = 0 ∧ u = v) (hc : ∀ n : Nat, ∃ m, cellsFrom (n + 1) sd.names [] = [(y, m)]) (hcc : (envOfC ql sd s0.heap.objs.size fd cdd).cells.lookup y = some cc) (ha : N[0]? = some y) (nd : N.Nodup)
    (hs : ∀ z, sd.names.lookup z = some .cell ∨ sd.names.lookup z = some .free → z = y) (n1 : H1 cc = none)
    (q : ∀ (p : Addr) (fs : List V) (H2 : Hp), GrW (tabsOf T) [] Hd H Hd H2 → NewAt H p → Hd p = none → H2 p = some (.lst fs) → fs.length = n → (∀ x ∈ fs, ∃ f, x = .ref f ∧ DeadAt P w K mg base k H2 f T.a_BadChart) → Q (.ref p) H2) : Q (.ref p) (upd H1 cc (CellO cc v)) := by
  obtain ⟨ts, ⟨g, np, nd0, fs, h1, hlf, hf⟩, rfl, hts⟩ := a
  have eN : Ex H1 (upd H1 cc (CellO cc v)) := Ex.new n1
  have nHd : Hd cc = none := by
    cases z : Hd cc with
    | none => rfl
    | some o =>
      have := g.sub _ _ z
      rw [n1] at this
      cases this
  have g2 := g.post eN
  refine q p fs _ g2 np nd0 (eN _ _ h1) hlf fun x hx => ?_
  obtain ⟨i, hi⟩ := List.getElem?_of_mem hx
  have hi2 : i < ts.length := by
    have := (List.getElem?_eq_some_iff.mp hi).1
    omega
  obtain ⟨f, c', h3, L⟩ := hf i _ (List.getElem?_eq_getElem hi2)
  rw [h3] at hi
  cases hi
  exact ⟨f, rfl, L.dead (left_of hc hcc ha nd) eN g2.sub nHd g.nt hl hσ upd_same hs (hts _ (List.getElem_mem hi2))⟩
end
theorem good_five : GoodC (dChart 5 [[0]]) := ⟨5, [[0]], rfl, by decide, fun r h => by
  rw [List.mem_singleton.mp h]
  decide, by decide +kernel⟩
section
open LamX
variable {P : Program} {w : World} {K : PySem.W.Frag} {mg : Str → Option Value} {base : Heap}
theorem ew_doors {T : Tx K mg base} {k n : Nat} {tr : TA} {E : XK} {σ : L2.St} {M : List Addr} {Hd H : Hp} {v : V} {d : PyData} (W : Wld (tabsOf T) M Hd H) (ha : EvA tr σ H [v]) (hd : Dp K Hd v d) (b : BadC d) :
    EvW (tabsOf T) [] (tCall (spDoors P w base T k n) [] E tr) σ Hd H (fun v Hn H2 => Hn = Hd ∧ ∃ p fs, v = .ref p ∧ H2 p = some (.lst fs) ∧ fs.length = n ∧ ∀ x ∈ fs, ∃ f, x = .ref f ∧ DeadAt P w K mg base k H2 f T.a_BadChart) := fun H1 e1 Q q =>
  ha H1 e1 _ fun H2 e2 => ⟨v, Hd, d, rfl, hd, b, (W.ext (e1.trans e2)).nil, fun p fs H3 g np n1 h1 hl hf => q _ H3 Hd ((g.pre e2)) ⟨rfl, p, fs, rfl, h1, hl, hf⟩⟩
theorem known_chart (T : Tx K mg base) : Known T "chart" T.a_BadChart := ⟨T.e_BadChart, T.m_BadChart, _, T.k_BadChart.get, by decide +kernel⟩
theorem dead_word (T : Tx K mg base) {k : Nat} {H : Hp} {σ : L2.St} {te : TE} {f : Addr} {Q : VK} (hv : Ev te σ H (.ref f)) (D : DeadAt P w K mg base k H f T.a_BadChart) (q : ∀ H2, Ex H H2 → Q (.str "chart") H2) : tLamD P w K mg base k (TTw T) te σ H Q :=
  hv H (Ex.refl _) _ fun H1 e1 => ⟨f, _, rfl, D.ext e1, Ex.refl _, fun H3 e3 => by
    obtain ⟨h1, h2, g, h3, h4⟩ := known_chart T
    exact ⟨_, g, rfl, rfl, h1, h2, h3, fun H4 e4 => by
      rw [h4]
      exact q H4 ((e1.trans e3).trans e4)⟩⟩
/-- [word(ask) for ask in xs + ys] -/
theorem ev_deadWords (T : Tx K mg base) {k n m j : Nat} {vs : List Nat} {H : Hp} {σ : L2.St} {ta tb : TE} {p p' : Addr} {fs fs' : List V} {Q : VK} (ha : Ev ta σ H (.ref p)) (hb : Ev tb σ H (.ref p')) (h1 : H p = some (.lst fs)) (h2 : H p' = some (.lst fs')) (l1 : fs.length = n) (l2 : fs'.length = m) (few : n + m ≤ 1000)
    (hf : ∀ x ∈ fs ++ fs', ∃ f, x = .ref f ∧ DeadAt P w K mg base k H f T.a_BadChart) (hj : ∀ v : V, wipe ((wipe σ vs).set j (some v)) vs = wipe σ vs ∧ ((wipe σ vs).set j (some v))[j]? = some (some v))
    (q : ∀ D H2, Ex H H2 → H2 D = some (.lst (List.replicate (n + m) (V.str "chart"))) → Q (.ref D) H2) : tLc (iList K (tOp rCat ta tb)) (gName j) tYes (tLamD P w K mg base k (TTw T) (tVar j)) vs σ H Q :=
  ha H (Ex.refl _) _ fun Ha ea => hb Ha ea _ fun Hb eb => by
    have eab := ea.trans eb
    refine ⟨p, p', fs, fs', rfl, rfl, eab _ _ h1, eab _ _ h2, sz_of (by omega), fun r hr => ?_⟩
    refine ⟨r, rfl, ⟨fs ++ fs', sq_of upd_same⟩, fun D hD => ?_⟩
    have eR := eab.trans (Ex.new (o := .lst (fs ++ fs')) hr)
    have hl : (fs ++ fs').length = n + m := by rw [List.length_append, l1, l2]
    have hDr : D ≠ r := fun z => by
      rw [z, upd_same] at hD
      cases hD
    refine lc_list (K := K) (a := r) (xs := fs ++ fs') (fun i H' => Ex (upd Hb r (.lst (fs ++ fs'))) H' ∧ H' D = some (.lst (List.replicate i (V.str "chart")))) ⟨Ex.new hD, upd_same⟩ (fun i H' _ hp => sq_of (hp.1 _ _ upd_same)) ?_ ?_
    · rintro i x H' hx ⟨e1, hD1⟩
      obtain ⟨f, rfl, df⟩ := hf x (List.mem_of_getElem? hx)
      have hi : i < n + m := by
        have := (List.getElem?_eq_some_iff.mp hx).1
        omega
      refine ⟨(hj (.ref f)).1, yes_run ?_⟩
      refine dead_word T (ev_var (hj (.ref f)).2) (df.ext (eR.trans e1)) fun H2 e2 => ⟨_, e2 _ _ hD1, sz_lt (by rw [List.length_replicate]; omega), fun a o h => ?_, ?_⟩
      · by_cases z : a = D
        · rw [z, hD] at h
          cases h
        · rw [upd_ne z]
          exact e2 _ _ (e1 _ _ h)
      · rw [upd_same, List.replicate_succ']
    · rintro H' ⟨e1, hD1⟩
      rw [hl] at hD1
      exact q D H' (eR.trans e1) hD1
theorem cell_oneM {ns : List (Str × NameKind)} {y : Str} (h : (ns.all fun p => (decide (p.2 ≠ .cell) && decide (p.2 ≠ .free)) || p.1 == y) = true) : ∀ z, ns.lookup z = some .cell ∨ ns.lookup z = some .free → z = y := fun z hz => by
  rw [List.all_eq_true] at h
  rcases hz with hz | hz
  · have := h _ (PySem.mem_of_lookup hz)
    simpa using this
  · have := h _ (PySem.mem_of_lookup hz)
    simpa using this
end
theorem ok_law_doors_one (T : Tx K mg base) : FnOk P w K mg base CX0 13 T.a_law_doors_one T.d_law_doors_one ["_law_chart_here"] (spDoors P w base T (13 - 3) 15) := by
  refine okCR T.F_law_doors_one sc_law_doors_one (y := "_law_chart_here") (i := 0) (fun vs H Q E h => ?_) rfl (by decide +kernel) (fun A outer s H vs Q E hr h => ?_)
  · obtain ⟨v, Hd, d, rfl, _⟩ := h
    rfl
  · obtain ⟨v, Hd, d, rfl, hd, b, W, q⟩ := h
    refine ⟨_, (psr_cons (ps_set (i := 1) sc_law_doors_one.nd rfl (.inl rfl) (pe_lst (pa_cons (pe_lamV T.TB_law_doors_one rfl (List.Mem.head _) (tabs_uniq (tabs_nd T) (List.Mem.head _)) hr (LamX.lamS_by (sc := defScope s_law_doors_one) (by decide +kernel)) rfl (fun _ _ _ _ _ => rfl) (fun _ _ _ _ E _ _ hr => (pe_call (okX_size T) (hr.mono (by omega)) (by rfl) T.g_size T.F_size.kp T.b_size .nil (L2N.passes_call (L2N.takes_of rfl rfl rfl rfl) (fun _ _ _ _ h => h)) (pa_cons (pv 0) pa_nil)))) pa_nil)))
      (psr_cons (ps_expr (pe_bm PySem.F.plainAttrs_list PySem.F.slot_list_append PySem.F.type_list_append mt_append (pv 1) (pa_cons (pe_lamV T.TB_law_doors_one rfl (List.Mem.head _) (tabs_uniq (tabs_nd T) (List.Mem.head _)) hr (LamX.lamS_by (sc := defScope s_law_doors_one) (by decide +kernel)) rfl (fun _ _ _ _ _ => rfl) (fun _ _ _ _ E _ _ hr => (pe_call (okX_hour_at T) (hr.mono (by omega)) (by rfl) T.g_hour_at T.F_hour_at.kp T.b_hour_at .nil (L2N.passes_call (L2N.takes_of rfl rfl rfl rfl) (fun _ _ _ _ h => h)) (pa_cons (pv 0) (pa_cons (pe_tup (pa_cons pe_int (pa_cons pe_int pa_nil))) pa_nil))))) pa_nil)))
      (psr_cons (ps_expr (pe_bm PySem.F.plainAttrs_list PySem.F.slot_list_append PySem.F.type_list_append mt_append (pv 1) (pa_cons (pe_lamV T.TB_law_doors_one rfl (List.Mem.head _) (tabs_uniq (tabs_nd T) (List.Mem.head _)) hr (LamX.lamS_by (sc := defScope s_law_doors_one) (by decide +kernel)) rfl (fun _ _ _ _ _ => rfl) (fun _ _ _ _ E _ _ hr => (pe_call (okX_told T) (hr.mono (by omega)) (by rfl) T.g_told T.F_told.kp T.b_told .nil (L2N.passes_call (L2N.takes_of rfl rfl rfl rfl) (fun _ _ _ _ h => h)) (pa_cons (pv 0) pa_nil)))) pa_nil)))
      (psr_cons (ps_expr (pe_bm PySem.F.plainAttrs_list PySem.F.slot_list_append PySem.F.type_list_append mt_append (pv 1) (pa_cons (pe_lamV T.TB_law_doors_one rfl (List.Mem.head _) (tabs_uniq (tabs_nd T) (List.Mem.head _)) hr (LamX.lamS_by (sc := defScope s_law_doors_one) (by decide +kernel)) rfl (fun _ _ _ _ _ => rfl) (fun _ _ _ _ E _ _ hr => (pe_call (okX_sides T) (hr.mono (by omega)) (by rfl) T.g_sides T.F_sides.kp T.b_sides .nil (L2N.passes_call (L2N.takes_of rfl rfl rfl rfl) (fun _ _ _ _ h => h)) (pa_cons (pv 0) pa_nil)))) pa_nil)))
      (psr_cons (ps_expr (pe_bm PySem.F.plainAttrs_list PySem.F.slot_list_append PySem.F.type_list_append mt_append (pv 1) (pa_cons (pe_lamV T.TB_law_doors_one rfl (List.Mem.head _) (tabs_uniq (tabs_nd T) (List.Mem.head _)) hr (LamX.lamS_by (sc := defScope s_law_doors_one) (by decide +kernel)) rfl (fun _ _ _ _ _ => rfl) (fun _ _ _ _ E _ _ hr => (pe_call (okX_seas T) (hr.mono (by omega)) (by rfl) T.g_seas T.F_seas.kp T.b_seas .nil (L2N.passes_call (L2N.takes_of rfl rfl rfl rfl) (fun _ _ _ _ h => h)) (pa_cons (pv 0) pa_nil)))) pa_nil)))
      (psr_cons (ps_expr (pe_bm PySem.F.plainAttrs_list PySem.F.slot_list_append PySem.F.type_list_append mt_append (pv 1) (pa_cons (pe_lamV T.TB_law_doors_one rfl (List.Mem.head _) (tabs_uniq (tabs_nd T) (List.Mem.head _)) hr (LamX.lamS_by (sc := defScope s_law_doors_one) (by decide +kernel)) rfl (fun _ _ _ _ _ => rfl) (fun _ _ _ _ E _ _ hr => (pe_call (okX_is_ring T) (hr.mono (by omega)) (by rfl) T.g_is_ring T.F_is_ring.kp T.b_is_ring .nil (L2N.passes_call (L2N.takes_of rfl rfl rfl rfl) (fun _ _ _ _ h => h)) (pa_cons (pv 0) (pa_cons (pe_lst pa_nil) pa_nil))))) pa_nil)))
      (psr_cons (ps_expr (pe_bm PySem.F.plainAttrs_list PySem.F.slot_list_append PySem.F.type_list_append mt_append (pv 1) (pa_cons (pe_lamV T.TB_law_doors_one rfl (List.Mem.head _) (tabs_uniq (tabs_nd T) (List.Mem.head _)) hr (LamX.lamS_by (sc := defScope s_law_doors_one) (by decide +kernel)) rfl (fun _ _ _ _ _ => rfl) (fun _ _ _ _ E _ _ hr => (pe_call (okX_ring_count T) (hr.mono (by omega)) (by rfl) T.g_ring_count T.F_ring_count.kp T.b_ring_count .nil (L2N.passes_call (L2N.takes_of rfl rfl rfl rfl) (fun _ _ _ _ h => h)) (pa_cons (pv 0) (pa_cons (pe_lst pa_nil) pa_nil))))) pa_nil)))
      (psr_cons (ps_expr (pe_bm PySem.F.plainAttrs_list PySem.F.slot_list_append PySem.F.type_list_append mt_append (pv 1) (pa_cons (pe_lamV T.TB_law_doors_one rfl (List.Mem.head _) (tabs_uniq (tabs_nd T) (List.Mem.head _)) hr (LamX.lamS_by (sc := defScope s_law_doors_one) (by decide +kernel)) rfl (fun _ _ _ _ _ => rfl) (fun _ _ _ _ E _ _ hr => (pe_call (okX_joined T) (hr.mono (by omega)) (by rfl) T.g_joined T.F_joined.kp T.b_joined .nil (L2N.passes_call (L2N.takes_of rfl rfl rfl rfl) (fun _ _ _ _ h => h)) (pa_cons (pv 0) (pa_cons (pe_lst pa_nil) (pa_cons (pe_lst pa_nil) pa_nil)))))) pa_nil)))
      (psr_cons (ps_expr (pe_bm PySem.F.plainAttrs_list PySem.F.slot_list_append PySem.F.type_list_append mt_append (pv 1) (pa_cons (pe_lamV T.TB_law_doors_one rfl (List.Mem.head _) (tabs_uniq (tabs_nd T) (List.Mem.head _)) hr (LamX.lamS_by (sc := defScope s_law_doors_one) (by decide +kernel)) rfl (fun _ _ _ _ _ => rfl) (fun _ _ _ _ E _ _ hr => (pe_call (okX_eyes T) (hr.mono (by omega)) (by rfl) T.g_eyes T.F_eyes.kp T.b_eyes .nil (L2N.passes_call (L2N.takes_of rfl rfl rfl rfl) (fun _ _ _ _ h => h)) (pa_cons (pv 0) pa_nil)))) pa_nil)))
      (psr_cons (ps_expr (pe_bm PySem.F.plainAttrs_list PySem.F.slot_list_append PySem.F.type_list_append mt_append (pv 1) (pa_cons (pe_lamV T.TB_law_doors_one rfl (List.Mem.head _) (tabs_uniq (tabs_nd T) (List.Mem.head _)) hr (LamX.lamS_by (sc := defScope s_law_doors_one) (by decide +kernel)) rfl (fun _ _ _ _ _ => rfl) (fun _ _ _ _ E _ _ hr => (pe_call (okX_knots T) (hr.mono (by omega)) (by rfl) T.g_knots T.F_knots.kp T.b_knots .nil (L2N.passes_call (L2N.takes_of rfl rfl rfl rfl) (fun _ _ _ _ h => h)) (pa_cons (pv 0) pa_nil)))) pa_nil)))
      (psr_cons (ps_expr (pe_bm PySem.F.plainAttrs_list PySem.F.slot_list_append PySem.F.type_list_append mt_append (pv 1) (pa_cons (pe_lamV T.TB_law_doors_one rfl (List.Mem.head _) (tabs_uniq (tabs_nd T) (List.Mem.head _)) hr (LamX.lamS_by (sc := defScope s_law_doors_one) (by decide +kernel)) rfl (fun _ _ _ _ _ => rfl) (fun _ _ _ _ E _ _ hr => (pe_call (okX_eye_at T) (hr.mono (by omega)) (by rfl) T.g_eye_at T.F_eye_at.kp T.b_eye_at .nil (L2N.passes_call (L2N.takes_of rfl rfl rfl rfl) (fun _ _ _ _ h => h)) (pa_cons (pv 0) (pa_cons (pe_tup (pa_cons pe_int (pa_cons pe_int pa_nil))) pa_nil))))) pa_nil)))
      (psr_cons (ps_expr (pe_bm PySem.F.plainAttrs_list PySem.F.slot_list_append PySem.F.type_list_append mt_append (pv 1) (pa_cons (pe_lamV T.TB_law_doors_one rfl (List.Mem.head _) (tabs_uniq (tabs_nd T) (List.Mem.head _)) hr (LamX.lamS_by (sc := defScope s_law_doors_one) (by decide +kernel)) rfl (fun _ _ _ _ _ => rfl) (fun _ _ _ _ E _ _ hr => (pe_call (okX_whole_count T) (hr.mono (by omega)) (by rfl) T.g_whole_count T.F_whole_count.kp T.b_whole_count .nil (L2N.passes_call (L2N.takes_of rfl rfl rfl rfl) (fun _ _ _ _ h => h)) (pa_cons (pv 0) pa_nil)))) pa_nil)))
      (psr_cons (ps_expr (pe_bm PySem.F.plainAttrs_list PySem.F.slot_list_append PySem.F.type_list_append mt_append (pv 1) (pa_cons (pe_lamV T.TB_law_doors_one rfl (List.Mem.head _) (tabs_uniq (tabs_nd T) (List.Mem.head _)) hr (LamX.lamS_by (sc := defScope s_law_doors_one) (by decide +kernel)) rfl (fun _ _ _ _ _ => rfl) (fun _ _ _ _ E _ _ hr => (pe_call (okX_even T) (hr.mono (by omega)) (by rfl) T.g_even T.F_even.kp T.b_even .nil (L2N.passes_call (L2N.takes_of rfl rfl rfl rfl) (fun _ _ _ _ h => h)) (pa_cons (pv 0) pa_nil)))) pa_nil)))
      (psr_cons (ps_expr (pe_bm PySem.F.plainAttrs_list PySem.F.slot_list_append PySem.F.type_list_append mt_append (pv 1) (pa_cons (pe_lamV T.TB_law_doors_one rfl (List.Mem.head _) (tabs_uniq (tabs_nd T) (List.Mem.head _)) hr (LamX.lamS_by (sc := defScope s_law_doors_one) (by decide +kernel)) rfl (fun _ _ _ _ _ => rfl) (fun _ _ _ _ E _ _ hr => (pe_call (okX_ages T) (hr.mono (by omega)) (by rfl) T.g_ages T.F_ages.kp T.b_ages .nil (L2N.passes_call (L2N.takes_of rfl rfl rfl rfl) (fun _ _ _ _ h => h)) (pa_cons (pv 0) pa_nil)))) pa_nil)))
      (psr_cons (ps_expr (pe_bm PySem.F.plainAttrs_list PySem.F.slot_list_append PySem.F.type_list_append mt_append (pv 1) (pa_cons (pe_lamV T.TB_law_doors_one rfl (List.Mem.head _) (tabs_uniq (tabs_nd T) (List.Mem.head _)) hr (LamX.lamS_by (sc := defScope s_law_doors_one) (by decide +kernel)) rfl (fun _ _ _ _ _ => rfl) (fun _ _ _ _ E _ _ hr => (pe_call (okX_is_laid T) (hr.mono (by omega)) (by rfl) T.g_is_laid T.F_is_laid.kp T.b_is_laid .nil (L2N.passes_call (L2N.takes_of rfl rfl rfl rfl) (fun _ _ _ _ h => h)) (pa_cons (pv 0) (pa_cons (pe_lst pa_nil) pa_nil))))) pa_nil)))
      (psr_last (pv 1))))))))))))))))), ?_⟩
    refine (show GoR _ _ _ _ from ?_) H (Ex.refl _)
    refine goR_new (σd := [some v, none]) W (told_of (ds := _) (eda_cons (ed_var rfl hd) eda_nil) (dd := []) (fun _ => .nil) ⟨rfl, rfl, _, rfl, b⟩) fun p H1 a1 => ?_
    refine goR_app W a1 (by decide) (ev_var rfl) (told_of (ds := _) (eda_cons (ed_var rfl hd) (eda_cons (ed_tup (eda_cons (ed_int ev_c) (eda_cons (ed_int ev_c) eda_nil)) (by simp)) eda_nil)) (dd := []) (fun _ => .nil) ⟨rfl, rfl, _, rfl, b⟩) fun H2 a2 => ?_
    refine goR_app W a2 (by decide) (ev_var rfl) (told_of (ds := _) (eda_cons (ed_var rfl hd) eda_nil) (dd := []) (fun _ => .nil) ⟨rfl, rfl, _, rfl, b⟩) fun H3 a3 => ?_
    refine goR_app W a3 (by decide) (ev_var rfl) (told_of (ds := _) (eda_cons (ed_var rfl hd) eda_nil) (dd := []) (fun _ => .nil) ⟨rfl, rfl, _, rfl, b⟩) fun H4 a4 => ?_
    refine goR_app W a4 (by decide) (ev_var rfl) (told_of (ds := _) (eda_cons (ed_var rfl hd) eda_nil) (dd := []) (fun _ => .nil) ⟨rfl, rfl, _, rfl, b⟩) fun H5 a5 => ?_
    refine goR_app W a5 (by decide) (ev_var rfl) (told_of (ds := _) (eda_cons (ed_var rfl hd) (eda_cons (ed_new (en_lst eda_nil (by simp))) eda_nil)) (dd := []) (fun _ => .nil) ⟨rfl, rfl, _, rfl, b⟩) fun H6 a6 => ?_
    refine goR_app W a6 (by decide) (ev_var rfl) (told_of (ds := _) (eda_cons (ed_var rfl hd) (eda_cons (ed_new (en_lst eda_nil (by simp))) eda_nil)) (dd := []) (fun _ => .nil) ⟨rfl, rfl, _, rfl, b⟩) fun H7 a7 => ?_
    refine goR_app W a7 (by decide) (ev_var rfl) (told_of (ds := _) (eda_cons (ed_var rfl hd) (eda_cons (ed_new (en_lst eda_nil (by simp))) (eda_cons (ed_new (en_lst eda_nil (by simp))) eda_nil))) (dd := []) (fun _ => .nil) ⟨rfl, rfl, _, rfl, b⟩) fun H8 a8 => ?_
    refine goR_app W a8 (by decide) (ev_var rfl) (told_of (ds := _) (eda_cons (ed_var rfl hd) eda_nil) (dd := []) (fun _ => .nil) ⟨rfl, rfl, _, rfl, b⟩) fun H9 a9 => ?_
    refine goR_app W a9 (by decide) (ev_var rfl) (told_of (ds := _) (eda_cons (ed_var rfl hd) eda_nil) (dd := []) (fun _ => .nil) ⟨rfl, rfl, _, rfl, b⟩) fun H10 a10 => ?_
    refine goR_app W a10 (by decide) (ev_var rfl) (told_of (ds := _) (eda_cons (ed_var rfl hd) (eda_cons (ed_tup (eda_cons (ed_int ev_c) (eda_cons (ed_int ev_c) eda_nil)) (by simp)) eda_nil)) (dd := []) (fun _ => .nil) ⟨rfl, rfl, _, rfl, b⟩) fun H11 a11 => ?_
    refine goR_app W a11 (by decide) (ev_var rfl) (told_of (ds := _) (eda_cons (ed_var rfl hd) eda_nil) (dd := []) (fun _ => .nil) ⟨rfl, rfl, _, rfl, b⟩) fun H12 a12 => ?_
    refine goR_app W a12 (by decide) (ev_var rfl) (told_of (ds := _) (eda_cons (ed_var rfl hd) eda_nil) (dd := []) (fun _ => .nil) ⟨rfl, rfl, _, rfl, b⟩) fun H13 a13 => ?_
    refine goR_app W a13 (by decide) (ev_var rfl) (told_of (ds := _) (eda_cons (ed_var rfl hd) eda_nil) (dd := []) (fun _ => .nil) ⟨rfl, rfl, _, rfl, b⟩) fun H14 a14 => ?_
    refine goR_app W a14 (by decide) (ev_var rfl) (told_of (ds := _) (eda_cons (ed_var rfl hd) (eda_cons (ed_new (en_lst eda_nil (by simp))) eda_nil)) (dd := []) (fun _ => .nil) ⟨rfl, rfl, _, rfl, b⟩) fun H15 a15 => ?_
    intro Hz ez
    refine ⟨.ref p, rfl, v, rfl, fun cc hcc n1 => ?_⟩
    obtain ⟨ts, ⟨g, np, nd0, fs, h1, hlf, hf⟩, hl, hts⟩ := a15
    refine doors_end (n := 15) (σd := [some v, none]) ⟨ts, ⟨g.post ez, np, nd0, fs, ez _ _ h1, hlf, fun i t h => by
      obtain ⟨f, c', h3, L⟩ := hf i t h
      exact ⟨f, c', h3, L.ext ez⟩⟩, hl, hts⟩ rfl (fun j u hj => by
        match j with
        | 0 => exact ⟨rfl, (Option.some.inj (Option.some.inj hj)).symm⟩
        | 1 => cases hj
        | j + 2 => cases hj) (fun n => ⟨_, rfl⟩) hcc rfl (sc_law_doors_one).nd (fun z hz => ?_) n1 q
    exact cell_oneM (ns := (defScope s_law_doors_one).names) (by decide +kernel) z hz
theorem ok_law_doors_two (T : Tx K mg base) : FnOk P w K mg base CX0 13 T.a_law_doors_two T.d_law_doors_two ["_law_chart_here"] (spDoors P w base T (13 - 3) 18) := by
  refine okCR T.F_law_doors_two sc_law_doors_two (y := "_law_chart_here") (i := 0) (fun vs H Q E h => ?_) rfl (by decide +kernel) (fun A outer s H vs Q E hr h => ?_)
  · obtain ⟨v, Hd, d, rfl, _⟩ := h
    rfl
  · obtain ⟨v, Hd, d, rfl, hd, b, W, q⟩ := h
    refine ⟨_, (psr_cons (ps_set (i := 1) sc_law_doors_two.nd rfl (.inl rfl) (pe_lst (pa_cons (pe_lamV T.TB_law_doors_two rfl (List.Mem.tail _ (List.Mem.head _)) (tabs_uniq (tabs_nd T) (List.Mem.tail _ (List.Mem.head _))) hr (LamX.lamS_by (sc := defScope s_law_doors_two) (by decide +kernel)) rfl (fun _ _ _ _ _ => rfl) (fun _ _ _ _ E _ _ hr => (pe_call (okX_least_breaks T) (hr.mono (by omega)) (by rfl) T.g_least_breaks T.F_least_breaks.kp T.b_least_breaks .nil (L2N.passes_call (L2N.takes_of rfl rfl rfl rfl) (fun _ _ _ _ h => h)) (pa_cons (pv 0) pa_nil)))) pa_nil)))
      (psr_cons (ps_expr (pe_bm PySem.F.plainAttrs_list PySem.F.slot_list_append PySem.F.type_list_append mt_append (pv 1) (pa_cons (pe_lamV T.TB_law_doors_two rfl (List.Mem.tail _ (List.Mem.head _)) (tabs_uniq (tabs_nd T) (List.Mem.tail _ (List.Mem.head _))) hr (LamX.lamS_by (sc := defScope s_law_doors_two) (by decide +kernel)) rfl (fun _ _ _ _ _ => rfl) (fun _ _ _ _ E _ _ hr => (pe_call (okX_least_weight T) (hr.mono (by omega)) (by rfl) T.g_least_weight T.F_least_weight.kp T.b_least_weight .nil (L2N.passes_call (L2N.takes_of rfl rfl rfl rfl) (fun _ _ _ _ h => h)) (pa_cons (pv 0) pa_nil)))) pa_nil)))
      (psr_cons (ps_expr (pe_bm PySem.F.plainAttrs_list PySem.F.slot_list_append PySem.F.type_list_append mt_append (pv 1) (pa_cons (pe_lamV T.TB_law_doors_two rfl (List.Mem.tail _ (List.Mem.head _)) (tabs_uniq (tabs_nd T) (List.Mem.tail _ (List.Mem.head _))) hr (LamX.lamS_by (sc := defScope s_law_doors_two) (by decide +kernel)) rfl (fun _ _ _ _ _ => rfl) (fun _ _ _ _ E _ _ hr => (pe_call (okX_lays T) (hr.mono (by omega)) (by rfl) T.g_lays T.F_lays.kp T.b_lays .nil (L2N.passes_call (L2N.takes_of rfl rfl rfl rfl) (fun _ _ _ _ h => h)) (pa_cons (pv 0) (pa_cons (pe_lst (pa_cons (pe_tup (pa_cons (pe_tup (pa_cons pe_int (pa_cons pe_int pa_nil))) (pa_cons (pe_tup (pa_cons pe_int (pa_cons pe_int pa_nil))) (pa_cons pe_int pa_nil)))) pa_nil)) pa_nil))))) pa_nil)))
      (psr_cons (ps_expr (pe_bm PySem.F.plainAttrs_list PySem.F.slot_list_append PySem.F.type_list_append mt_append (pv 1) (pa_cons (pe_lamV T.TB_law_doors_two rfl (List.Mem.tail _ (List.Mem.head _)) (tabs_uniq (tabs_nd T) (List.Mem.tail _ (List.Mem.head _))) hr (LamX.lamS_by (sc := defScope s_law_doors_two) (by decide +kernel)) rfl (fun _ _ _ _ _ => rfl) (fun _ _ _ _ E _ _ hr => (pe_call (okX_breaks_of T) (hr.mono (by omega)) (by rfl) T.g_breaks_of T.F_breaks_of.kp T.b_breaks_of .nil (L2N.passes_call (L2N.takes_of rfl rfl rfl rfl) (fun _ _ _ _ h => h)) (pa_cons (pv 0) (pa_cons (pe_lst pa_nil) pa_nil))))) pa_nil)))
      (psr_cons (ps_expr (pe_bm PySem.F.plainAttrs_list PySem.F.slot_list_append PySem.F.type_list_append mt_append (pv 1) (pa_cons (pe_lamV T.TB_law_doors_two rfl (List.Mem.tail _ (List.Mem.head _)) (tabs_uniq (tabs_nd T) (List.Mem.tail _ (List.Mem.head _))) hr (LamX.lamS_by (sc := defScope s_law_doors_two) (by decide +kernel)) rfl (fun _ _ _ _ _ => rfl) (fun _ _ _ _ E _ _ hr => (pe_call (okX_prices T) (hr.mono (by omega)) (by rfl) T.g_prices T.F_prices.kp T.b_prices .nil (L2N.passes_call (L2N.takes_of rfl rfl rfl rfl) (fun _ _ _ _ h => h)) (pa_cons (pv 0) pa_nil)))) pa_nil)))
      (psr_cons (ps_expr (pe_bm PySem.F.plainAttrs_list PySem.F.slot_list_append PySem.F.type_list_append mt_append (pv 1) (pa_cons (pe_lamV T.TB_law_doors_two rfl (List.Mem.tail _ (List.Mem.head _)) (tabs_uniq (tabs_nd T) (List.Mem.tail _ (List.Mem.head _))) hr (LamX.lamS_by (sc := defScope s_law_doors_two) (by decide +kernel)) rfl (fun _ _ _ _ _ => rfl) (fun _ _ _ _ E _ _ hr => (pe_call (okX_hold T) (hr.mono (by omega)) (by rfl) T.g_hold T.F_hold.kp T.b_hold .nil (L2N.passes_call (L2N.takes_of rfl rfl rfl rfl) (fun _ _ _ _ h => h)) (pa_cons (pv 0) (pa_cons (pe_op op_rep (pe_lst (pa_cons pe_int pa_nil)) pe_int) pa_nil))))) pa_nil)))
      (psr_cons (ps_expr (pe_bm PySem.F.plainAttrs_list PySem.F.slot_list_append PySem.F.type_list_append mt_append (pv 1) (pa_cons (pe_lamV T.TB_law_doors_two rfl (List.Mem.tail _ (List.Mem.head _)) (tabs_uniq (tabs_nd T) (List.Mem.tail _ (List.Mem.head _))) hr (LamX.lamS_by (sc := defScope s_law_doors_two) (by decide +kernel)) rfl (fun _ _ _ _ _ => rfl) (fun _ _ _ _ E _ _ hr => (pe_call (okX_worth T) (hr.mono (by omega)) (by rfl) T.g_worth T.F_worth.kp T.b_worth .nil (L2N.passes_call (L2N.takes_of rfl rfl rfl rfl) (fun _ _ _ _ h => h)) (pa_cons (pv 0) (pa_cons (pe_lst pa_nil) pa_nil))))) pa_nil)))
      (psr_cons (ps_expr (pe_bm PySem.F.plainAttrs_list PySem.F.slot_list_append PySem.F.type_list_append mt_append (pv 1) (pa_cons (pe_lamV T.TB_law_doors_two rfl (List.Mem.tail _ (List.Mem.head _)) (tabs_uniq (tabs_nd T) (List.Mem.tail _ (List.Mem.head _))) hr (LamX.lamS_by (sc := defScope s_law_doors_two) (by decide +kernel)) rfl (fun _ _ _ _ _ => rfl) (fun _ _ _ _ E _ _ hr => (pe_call (okX_fill T) (hr.mono (by omega)) (by rfl) T.g_fill T.F_fill.kp T.b_fill .nil (L2N.passes_call (L2N.takes_of rfl rfl rfl rfl) (fun _ _ _ _ h => h)) (pa_cons (pv 0) pa_nil)))) pa_nil)))
      (psr_cons (ps_expr (pe_bm PySem.F.plainAttrs_list PySem.F.slot_list_append PySem.F.type_list_append mt_append (pv 1) (pa_cons (pe_lamV T.TB_law_doors_two rfl (List.Mem.tail _ (List.Mem.head _)) (tabs_uniq (tabs_nd T) (List.Mem.tail _ (List.Mem.head _))) hr (LamX.lamS_by (sc := defScope s_law_doors_two) (by decide +kernel)) rfl (fun _ _ _ _ _ => rfl) (fun _ _ _ _ E _ _ hr => (pe_call (okX_can_fill T) (hr.mono (by omega)) (by rfl) T.g_can_fill T.F_can_fill.kp T.b_can_fill .nil (L2N.passes_call (L2N.takes_of rfl rfl rfl rfl) (fun _ _ _ _ h => h)) (pa_cons (pv 0) pa_nil)))) pa_nil)))
      (psr_cons (ps_expr (pe_bm PySem.F.plainAttrs_list PySem.F.slot_list_append PySem.F.type_list_append mt_append (pv 1) (pa_cons (pe_lamV T.TB_law_doors_two rfl (List.Mem.tail _ (List.Mem.head _)) (tabs_uniq (tabs_nd T) (List.Mem.tail _ (List.Mem.head _))) hr (LamX.lamS_by (sc := defScope s_law_doors_two) (by decide +kernel)) rfl (fun _ _ _ _ _ => rfl) (fun _ _ _ _ E _ _ hr => (pe_call (okX_bar T) (hr.mono (by omega)) (by rfl) T.g_bar T.F_bar.kp T.b_bar .nil (L2N.passes_call (L2N.takes_of rfl rfl rfl rfl) (fun _ _ _ _ h => h)) (pa_cons (pv 0) pa_nil)))) pa_nil)))
      (psr_cons (ps_expr (pe_bm PySem.F.plainAttrs_list PySem.F.slot_list_append PySem.F.type_list_append mt_append (pv 1) (pa_cons (pe_lamV T.TB_law_doors_two rfl (List.Mem.tail _ (List.Mem.head _)) (tabs_uniq (tabs_nd T) (List.Mem.tail _ (List.Mem.head _))) hr (LamX.lamS_by (sc := defScope s_law_doors_two) (by decide +kernel)) rfl (fun _ _ _ _ _ => rfl) (fun _ _ _ _ E _ _ hr => (pe_call (okX_is_bar T) (hr.mono (by omega)) (by rfl) T.g_is_bar T.F_is_bar.kp T.b_is_bar .nil (L2N.passes_call (L2N.takes_of rfl rfl rfl rfl) (fun _ _ _ _ h => h)) (pa_cons (pv 0) (pa_cons (pe_lst pa_nil) pa_nil))))) pa_nil)))
      (psr_cons (ps_expr (pe_bm PySem.F.plainAttrs_list PySem.F.slot_list_append PySem.F.type_list_append mt_append (pv 1) (pa_cons (pe_lamV T.TB_law_doors_two rfl (List.Mem.tail _ (List.Mem.head _)) (tabs_uniq (tabs_nd T) (List.Mem.tail _ (List.Mem.head _))) hr (LamX.lamS_by (sc := defScope s_law_doors_two) (by decide +kernel)) rfl (fun _ _ _ _ _ => rfl) (fun _ _ _ _ E _ _ hr => (pe_call (okX_may_be T) (hr.mono (by omega)) (by rfl) T.g_may_be T.F_may_be.kp T.b_may_be .nil (L2N.passes_call (L2N.takes_of rfl rfl rfl rfl) (fun _ _ _ _ h => h)) (pa_cons (pv 0) (pa_cons (pe_tup (pa_cons pe_int (pa_cons pe_int pa_nil))) pa_nil))))) pa_nil)))
      (psr_cons (ps_expr (pe_bm PySem.F.plainAttrs_list PySem.F.slot_list_append PySem.F.type_list_append mt_append (pv 1) (pa_cons (pe_lamV T.TB_law_doors_two rfl (List.Mem.tail _ (List.Mem.head _)) (tabs_uniq (tabs_nd T) (List.Mem.tail _ (List.Mem.head _))) hr (LamX.lamS_by (sc := defScope s_law_doors_two) (by decide +kernel)) rfl (fun _ _ _ _ _ => rfl) (fun _ _ _ _ E _ _ hr => (pe_call (okX_cut T) (hr.mono (by omega)) (by rfl) T.g_cut T.F_cut.kp T.b_cut .nil (L2N.passes_call (L2N.takes_of rfl rfl rfl rfl) (fun _ _ _ _ h => h)) (pa_cons (pv 0) (pa_cons pe_int (pa_cons pe_int (pa_cons pe_int (pa_cons pe_int pa_nil)))))))) pa_nil)))
      (psr_cons (ps_expr (pe_bm PySem.F.plainAttrs_list PySem.F.slot_list_append PySem.F.type_list_append mt_append (pv 1) (pa_cons (pe_lamV T.TB_law_doors_two rfl (List.Mem.tail _ (List.Mem.head _)) (tabs_uniq (tabs_nd T) (List.Mem.tail _ (List.Mem.head _))) hr (LamX.lamS_by (sc := defScope s_law_doors_two) (by decide +kernel)) rfl (fun _ _ _ _ _ => rfl) (fun _ _ _ _ E _ _ hr => (pe_call (okX_turned T) (hr.mono (by omega)) (by rfl) T.g_turned T.F_turned.kp T.b_turned .nil (L2N.passes_call (L2N.takes_of rfl rfl rfl rfl) (fun _ _ _ _ h => h)) (pa_cons (pv 0) pa_nil)))) pa_nil)))
      (psr_cons (ps_expr (pe_bm PySem.F.plainAttrs_list PySem.F.slot_list_append PySem.F.type_list_append mt_append (pv 1) (pa_cons (pe_lamV T.TB_law_doors_two rfl (List.Mem.tail _ (List.Mem.head _)) (tabs_uniq (tabs_nd T) (List.Mem.tail _ (List.Mem.head _))) hr (LamX.lamS_by (sc := defScope s_law_doors_two) (by decide +kernel)) rfl (fun _ _ _ _ _ => rfl) (fun _ _ _ _ E _ _ hr => (pe_call (okX_mirrored T) (hr.mono (by omega)) (by rfl) T.g_mirrored T.F_mirrored.kp T.b_mirrored .nil (L2N.passes_call (L2N.takes_of rfl rfl rfl rfl) (fun _ _ _ _ h => h)) (pa_cons (pv 0) pa_nil)))) pa_nil)))
      (psr_cons (ps_expr (pe_bm PySem.F.plainAttrs_list PySem.F.slot_list_append PySem.F.type_list_append mt_append (pv 1) (pa_cons (pe_lamV T.TB_law_doors_two rfl (List.Mem.tail _ (List.Mem.head _)) (tabs_uniq (tabs_nd T) (List.Mem.tail _ (List.Mem.head _))) hr (LamX.lamS_by (sc := defScope s_law_doors_two) (by decide +kernel)) rfl (fun _ _ _ _ _ => rfl) (fun _ _ _ _ E _ _ hr => (pe_call (okX_later T) (hr.mono (by omega)) (by rfl) T.g_later T.F_later.kp T.bd_later_1 T.vd_later_1 (L2N.passes_call (L2N.takes_of rfl rfl rfl rfl) (fun _ _ _ _ h => h)) (pa_cons (pv 0) pa_nil)))) pa_nil)))
      (psr_cons (ps_expr (pe_bm PySem.F.plainAttrs_list PySem.F.slot_list_append PySem.F.type_list_append mt_append (pv 1) (pa_cons (pe_lamV T.TB_law_doors_two rfl (List.Mem.tail _ (List.Mem.head _)) (tabs_uniq (tabs_nd T) (List.Mem.tail _ (List.Mem.head _))) hr (LamX.lamS_by (sc := defScope s_law_doors_two) (by decide +kernel)) rfl (fun _ _ _ _ _ => rfl) (fun _ _ _ _ E _ _ hr => (pe_call (okX_laid_in T) (hr.mono (by omega)) (by rfl) T.g_laid_in T.F_laid_in.kp T.b_laid_in .nil (L2N.passes_call (L2N.takes_of rfl rfl rfl rfl) (fun _ _ _ _ h => h)) (pa_cons (pe_tup (pa_cons pe_int (pa_cons (pe_tup (pa_cons (pe_tup (pa_cons pe_int pa_nil)) pa_nil)) pa_nil))) (pa_cons (pv 0) (pa_cons pe_int (pa_cons pe_int pa_nil))))))) pa_nil)))
      (psr_cons (ps_expr (pe_bm PySem.F.plainAttrs_list PySem.F.slot_list_append PySem.F.type_list_append mt_append (pv 1) (pa_cons (pe_lamV T.TB_law_doors_two rfl (List.Mem.tail _ (List.Mem.head _)) (tabs_uniq (tabs_nd T) (List.Mem.tail _ (List.Mem.head _))) hr (LamX.lamS_by (sc := defScope s_law_doors_two) (by decide +kernel)) rfl (fun _ _ _ _ _ => rfl) (fun _ _ _ _ E _ _ hr => (pe_call (okX_laid_in T) (hr.mono (by omega)) (by rfl) T.g_laid_in T.F_laid_in.kp T.b_laid_in .nil (L2N.passes_call (L2N.takes_of rfl rfl rfl rfl) (fun _ _ _ _ h => h)) (pa_cons (pv 0) (pa_cons (pe_tup (pa_cons pe_int (pa_cons (pe_tup (pa_cons (pe_tup (pa_cons pe_int pa_nil)) pa_nil)) pa_nil))) (pa_cons pe_int (pa_cons pe_int pa_nil))))))) pa_nil)))
      (psr_last (pv 1)))))))))))))))))))), ?_⟩
    refine (show GoR _ _ _ _ from ?_) H (Ex.refl _)
    refine goR_new (σd := [some v, none]) W (told_of (ds := _) (eda_cons (ed_var rfl hd) eda_nil) (dd := []) (fun _ => .nil) ⟨rfl, rfl, _, rfl, b⟩) fun p H1 a1 => ?_
    refine goR_app W a1 (by decide) (ev_var rfl) (told_of (ds := _) (eda_cons (ed_var rfl hd) eda_nil) (dd := []) (fun _ => .nil) ⟨rfl, rfl, _, rfl, b⟩) fun H2 a2 => ?_
    refine goR_app W a2 (by decide) (ev_var rfl) (told_of (ds := _) (eda_cons (ed_var rfl hd) (eda_cons (ed_new (en_lst (eda_cons (ed_tup (eda_cons (ed_tup (eda_cons (ed_int ev_c) (eda_cons (ed_int ev_c) eda_nil)) (by simp)) (eda_cons (ed_tup (eda_cons (ed_int ev_c) (eda_cons (ed_int ev_c) eda_nil)) (by simp)) (eda_cons (ed_int ev_c) eda_nil))) (by simp)) eda_nil) (by simp))) eda_nil)) (dd := []) (fun _ => .nil) ⟨rfl, rfl, _, rfl, b⟩) fun H3 a3 => ?_
    refine goR_app W a3 (by decide) (ev_var rfl) (told_of (ds := _) (eda_cons (ed_var rfl hd) (eda_cons (ed_new (en_lst eda_nil (by simp))) eda_nil)) (dd := []) (fun _ => .nil) ⟨rfl, rfl, _, rfl, b⟩) fun H4 a4 => ?_
    refine goR_app W a4 (by decide) (ev_var rfl) (told_of (ds := _) (eda_cons (ed_var rfl hd) eda_nil) (dd := []) (fun _ => .nil) ⟨rfl, rfl, _, rfl, b⟩) fun H5 a5 => ?_
    refine goR_app W a5 (by decide) (ev_var rfl) (told_of (ds := _) (eda_cons (ed_var rfl hd) (eda_cons (ed_new (en_rep (en_lst (eda_cons (ed_int ev_c) eda_nil) (by simp)) ev_c (by decide) (by decide))) eda_nil)) (dd := []) (fun _ => .nil) ⟨rfl, _, _, rfl, b⟩) fun H6 a6 => ?_
    refine goR_app W a6 (by decide) (ev_var rfl) (told_of (ds := _) (eda_cons (ed_var rfl hd) (eda_cons (ed_new (en_lst eda_nil (by simp))) eda_nil)) (dd := []) (fun _ => .nil) ⟨rfl, _, _, rfl, b⟩) fun H7 a7 => ?_
    refine goR_app W a7 (by decide) (ev_var rfl) (told_of (ds := _) (eda_cons (ed_var rfl hd) eda_nil) (dd := []) (fun _ => .nil) ⟨rfl, rfl, _, rfl, b⟩) fun H8 a8 => ?_
    refine goR_app W a8 (by decide) (ev_var rfl) (told_of (ds := _) (eda_cons (ed_var rfl hd) eda_nil) (dd := []) (fun _ => .nil) ⟨rfl, rfl, _, rfl, b⟩) fun H9 a9 => ?_
    refine goR_app W a9 (by decide) (ev_var rfl) (told_of (ds := _) (eda_cons (ed_var rfl hd) eda_nil) (dd := []) (fun _ => .nil) ⟨rfl, rfl, _, rfl, b⟩) fun H10 a10 => ?_
    refine goR_app W a10 (by decide) (ev_var rfl) (told_of (ds := _) (eda_cons (ed_var rfl hd) (eda_cons (ed_new (en_lst eda_nil (by simp))) eda_nil)) (dd := []) (fun _ => .nil) ⟨rfl, rfl, _, rfl, b⟩) fun H11 a11 => ?_
    refine goR_app W a11 (by decide) (ev_var rfl) (told_of (ds := _) (eda_cons (ed_var rfl hd) (eda_cons (ed_tup (eda_cons (ed_int ev_c) (eda_cons (ed_int ev_c) eda_nil)) (by simp)) eda_nil)) (dd := []) (fun _ => .nil) ⟨rfl, rfl, _, rfl, b⟩) fun H12 a12 => ?_
    refine goR_app W a12 (by decide) (ev_var rfl) (told_of (ds := _) (eda_cons (ed_var rfl hd) (eda_cons (ed_int ev_c) (eda_cons (ed_int ev_c) (eda_cons (ed_int ev_c) (eda_cons (ed_int ev_c) eda_nil))))) (dd := []) (fun _ => .nil) ⟨rfl, rfl, _, rfl, b⟩) fun H13 a13 => ?_
    refine goR_app W a13 (by decide) (ev_var rfl) (told_of (ds := _) (eda_cons (ed_var rfl hd) eda_nil) (dd := []) (fun _ => .nil) ⟨rfl, rfl, _, rfl, b⟩) fun H14 a14 => ?_
    refine goR_app W a14 (by decide) (ev_var rfl) (told_of (ds := _) (eda_cons (ed_var rfl hd) eda_nil) (dd := []) (fun _ => .nil) ⟨rfl, rfl, _, rfl, b⟩) fun H15 a15 => ?_
    refine goR_app W a15 (by decide) (ev_var rfl) (told_of (ds := _) (eda_cons (ed_var rfl hd) eda_nil) (dd := [.int 1]) (fun _ => .cons (.int 1) .nil) ⟨rfl, rfl, _, rfl, b⟩) fun H16 a16 => ?_
    refine goR_app W a16 (by decide) (ev_var rfl) (told_of (ds := _) (eda_cons (ed_tup (eda_cons (ed_int ev_c) (eda_cons (ed_tup (eda_cons (ed_tup (eda_cons (ed_int ev_c) eda_nil) (by simp)) eda_nil) (by simp)) eda_nil)) (by simp)) (eda_cons (ed_var rfl hd) (eda_cons (ed_int ev_c) (eda_cons (ed_int ev_c) eda_nil)))) (dd := []) (fun _ => .nil) ⟨rfl, rfl, _, _, rfl, rfl, .inr ⟨good_five, b⟩⟩) fun H17 a17 => ?_
    refine goR_app W a17 (by decide) (ev_var rfl) (told_of (ds := _) (eda_cons (ed_var rfl hd) (eda_cons (ed_tup (eda_cons (ed_int ev_c) (eda_cons (ed_tup (eda_cons (ed_tup (eda_cons (ed_int ev_c) eda_nil) (by simp)) eda_nil) (by simp)) eda_nil)) (by simp)) (eda_cons (ed_int ev_c) (eda_cons (ed_int ev_c) eda_nil)))) (dd := []) (fun _ => .nil) ⟨rfl, rfl, _, _, rfl, rfl, .inl b⟩) fun H18 a18 => ?_
    intro Hz ez
    refine ⟨.ref p, rfl, v, rfl, fun cc hcc n1 => ?_⟩
    obtain ⟨ts, ⟨g, np, nd0, fs, h1, hlf, hf⟩, hl, hts⟩ := a18
    refine doors_end (n := 18) (σd := [some v, none]) ⟨ts, ⟨g.post ez, np, nd0, fs, ez _ _ h1, hlf, fun i t h => by
      obtain ⟨f, c', h3, L⟩ := hf i t h
      exact ⟨f, c', h3, L.ext ez⟩⟩, hl, hts⟩ rfl (fun j u hj => by
        match j with
        | 0 => exact ⟨rfl, (Option.some.inj (Option.some.inj hj)).symm⟩
        | 1 => cases hj
        | j + 2 => cases hj) (fun n => ⟨_, rfl⟩) hcc rfl (sc_law_doors_two).nd (fun z hz => ?_) n1 q
    exact cell_oneM (ns := (defScope s_law_doors_two).names) (by decide +kernel) z hz
theorem strs33 (Hx : Hp) : ∀ n : Nat, DpAll K Hx (List.replicate n (V.str "chart")) (List.replicate n (PyData.str "chart"))
  | 0 => .nil
  | n + 1 => .cons (.str _) (strs33 Hx n)
theorem goodC_up {m c : Int} {rows : List (List Int)} (h : goodC m c rows) (hm : m ≤ 9) : goodC 9 c rows := by
  obtain ⟨h1, h2, h3, w, w1, w2, hr⟩ := h
  exact ⟨h1, h2, by omega, w, w1, by omega, hr⟩
theorem asg_run {te : TE} {i : Nat} {tz : TS} {D : Ends} {σ : L2.St} {H : Hp} (h : te σ H fun v H1 => tz D (σ.set i (some v)) H1) : tSeq (tAsg te (gName i)) tz D σ H := h
theorem go_meet {Pm : L2.St → Hp → Prop} {t : TT} {tu tz : TS} {D : Ends} {σ : L2.St} {H : Hp} {b : Bool} (hz : ∀ σ' H', Pm σ' H' → Go tz D σ' H') (h : EvT t σ H b) (h1 : b = true → (∀ σ' H', Pm σ' H' → tz D σ' H') → Go tu { D with nx := tz D } σ H) (h0 : b = false → Pm σ H) : Go (tSeq (tIfS t tu tNext) tz) D σ H :=
  go_when h (fun e => h1 e fun σ' H' p => hz σ' H' p H' (Ex.refl _)) fun e => hz σ H (h0 e)
theorem bad_four (rows : List (List Int)) : isChart 4 rows = false := by
  have e : isClock 4 = false := by decide +kernel
  unfold isChart
  rw [e]
  rfl
theorem bad_nil (c : Int) : isChart c [] = false := by
  unfold isChart
  have e : decide ((1 : Int) ≤ ((([] : List (List Int)).length : Nat) : Int)) = false := by decide
  rw [e]
  simp
theorem bad_snoc {c : Int} {rows : List (List Int)} (h : isChart c rows = true) : isChart c (rows ++ [[]]) = false := by
  unfold isChart at h
  simp only [Bool.and_eq_true, decide_eq_true_eq] at h
  obtain ⟨⟨_, h1, _⟩, ⟨h3, _⟩, _⟩ := h
  cases rows with
  | nil => simp at h1
  | cons r rs =>
    have e : isRow c (((((r :: rs) ++ [[]]).headD []).length : Nat) : Int) [] = false := by
      unfold isRow
      have : decide ((([] : List Int).length : Int) = (((((r :: rs) ++ [[]]).headD []).length : Nat) : Int)) = false := by
        have h3 : 1 ≤ (r.length : Int) := h3
        show decide ((0 : Int) = (r.length : Int)) = false
        exact decide_eq_false (by omega)
      rw [this]
      rfl
    have e2 : ((r :: rs) ++ [[]]).all (isRow c (((((r :: rs) ++ [[]]).headD []).length : Nat) : Int)) = false := by
      rw [List.all_append]
      have : ([[]] : List (List Int)).all (isRow c (((((r :: rs) ++ [[]]).headD []).length : Nat) : Int)) = false := by
        rw [List.all_cons, e]
        rfl
      rw [this, Bool.and_false]
    unfold isChart
    rw [e2, Bool.and_false, Bool.and_false]
theorem ok_law (T : Tx K mg base) : FnOk P w K mg base CX0 14 T.a_law T.d_law ["_law_script"] (spLawT K ((tabsOf T).map (·.1))) := by
  refine T.F_law.ok sc_law (fun vs H Q E h => ?_) (fun cdv A outer s H vs Q E hr h => ?_)
  · obtain ⟨a, ns, rfl, _⟩ := h
    rfl
  · obtain ⟨a, ns, rfl, hL, hn, hP, q⟩ := h
    refine ⟨_, (pss_cons (ps_set (i := 1) sc_law.nd rfl (.inl rfl) (pe_call (ok_law_box (P := P) (w := w) T) (hr.mono (by omega)) (by rfl) T.g_law_box T.F_law_box.kp T.b_law_box .nil pass0 (pa_cons (pv 0) pa_nil)))
      (pss_cons (ps_set (i := 2) sc_law.nd rfl (.inl rfl) (pe_call (ok_law_bent_chart (P := P) (w := w) T) (hr.mono (by omega)) (by rfl) T.g_law_bent_chart T.F_law_bent_chart.kp T.b_law_bent_chart .nil pass0 (pa_cons (pv 1) (pa_cons (pe_call (ok_law_chart (P := P) (w := w) T) (hr.mono (by omega)) (by rfl) T.g_law_chart T.F_law_chart.kp T.b_law_chart .nil pass0 (pa_cons (pv 1) (pa_cons pe_int (pa_cons pe_int pa_nil)))) pa_nil))))
      (pss_cons (ps_if (pt_val (pe_call (ok_law_is_chart (P := P) (w := w) T) (hr.mono (by omega)) (by rfl) T.g_law_is_chart T.F_law_is_chart.kp T.b_law_is_chart .nil pass0 (pa_cons (pv 2) pa_nil))) (pss_cons (ps_set (i := 2) sc_law.nd rfl (.inl rfl) (pe_ix (r := rIxL K) ix_list (pe_lst (pa_cons (pe_tup (pa_cons pe_int (pa_cons (pe_ix (r := rIxT K) ix_tup (pv 2) pe_int (fun _ _ => rfl)) pa_nil))) (pa_cons (pe_tup (pa_cons (pe_ix (r := rIxT K) ix_tup (pv 2) pe_int (fun _ _ => rfl)) (pa_cons (pe_tup pa_nil) pa_nil))) (pa_cons (pe_tup (pa_cons (pe_ix (r := rIxT K) ix_tup (pv 2) pe_int (fun _ _ => rfl)) (pa_cons (pe_op (r := rCatA K) op_catA (pe_ix (r := rIxT K) ix_tup (pv 2) pe_int (fun _ _ => rfl)) (pe_tup (pa_cons (pe_tup pa_nil) pa_nil))) pa_nil))) pa_nil)))) (pe_call (ok_law_take (P := P) (w := w) T) (hr.mono (by omega)) (by rfl) T.g_law_take T.F_law_take.kp T.b_law_take .nil pass0 (pa_cons (pv 1) (pa_cons pe_int pa_nil))) (fun _ _ => rfl)))
      pss_nil) pss_nil)
      (pss_cons (ps_setLc (i := 3) (own := [("_law_ask", 4)]) (g := (gName 4)) (by rfl) sc_law.nd rfl rfl (sw_true rfl rfl rfl (by decide +kernel)) (pi_list (pe_op op_cat (pe_call (ok_law_doors_one (P := P) (w := w) T) (hr.mono (by omega)) (by rfl) T.g_law_doors_one T.F_law_doors_one.kp T.b_law_doors_one .nil pass0 (pa_cons (pv 2) pa_nil)) (pe_call (ok_law_doors_two (P := P) (w := w) T) (hr.mono (by omega)) (by rfl) T.g_law_doors_two T.F_law_doors_two.kp T.b_law_doors_two .nil pass0 (pa_cons (pv 2) pa_nil)))) (blkOk_by (own := [("_law_ask", 4)]) (N := N_law) (sc := defScope s_law) (by decide +kernel)) (fun _ _ _ _ _ => (pg_name (i := 4) sc_law.nd rfl (.inl rfl) (hf := .inr rfl))) (fun _ _ _ _ _ => pts_nil) (fun _ _ _ _ _ => (pe_law_wordD (X := cxOf CX0 P w K mg base N_law "law" (defScope s_law) T.a_law cdv A outer s H E) (k := 10) T (hr.mono (by omega)) (by decide) (by rfl) (pv 4))))
      (pss_cons (ps_ret (pe_cmpR (r := rEqD K) (op_eqD hr.units) (pv 3) (pe_op op_rep (pe_lst (pa_cons pe_str pa_nil)) pe_int) (nomark _)))
      pss_nil))))), Go.go ?_⟩
    have t0 : LamX.Tabs (tabsOf T) H := tabs_start hP
    show Go _ _ [some (V.ref a), none, none, none, none] H
    refine go_box hL hn (ev_var rfl) fun b H1 hb hca e1 B => ?_
    have W1 : Wld (tabsOf T) [b.b] hp0 H1 := ⟨ex0, fun a ps z => (by cases z), t0.ext e1, fun a ha => by
      obtain ⟨cells, xs, hb1, _⟩ := B
      rw [List.mem_singleton.mp ha]
      exact ⟨rfl, _, hb1, noTb_lst⟩⟩
    refine go_asgE (ew_eb (p := fun d => ∃ c rows, d = dChart c rows ∧ bdC rows) W1 (List.mem_singleton.mpr rfl) B (EvB.imp (eb_call (ev_var rfl) (eba_cons (eb_chart (ev_var rfl) ev_c ev_c (by decide)) eba_nil) ?hpre) ?hres)) ?_
    case hpre =>
      rintro ds ⟨d, es, rfl, ⟨c, rows, rfl, g⟩, rfl⟩
      exact ⟨c, rows, rfl, goodC_up g (by decide)⟩
    case hres =>
      rintro d ⟨ds, _, h⟩
      exact h
    rintro v H2 Hn2 g2 ⟨B2, d, hd, c, rows, rfl, bd⟩
    have W2 := W1.step g2
    have hl : rows.length ≤ 40000 := Nat.le_trans bd.1 (by decide)
    have hls : ∀ r ∈ rows, r.length ≤ 40000 := fun r h => Nat.le_trans (bd.2 r h) (by decide)
    refine go_meet (Pm := fun σ' H' => ∃ u Hk d', σ' = [some (V.ref a), some (.ref b.b), some u, none, none] ∧ Dp K Hk u d' ∧ BadC d' ∧ Wld (tabsOf T) [b.b] Hk H') ?_ (b := isChart c rows) (EvT.mono W2.sub (et_B (ev_is_chart (eda_cons (ed_var rfl hd) eda_nil) hl hls))) ?_ ?_
    · rintro σ' H' ⟨u, Hk, d', rfl, hu, bad, Wk⟩
      refine go_bind (C := fun te => tSeq (tAsg (tLc (iList K (tOp rCat te _)) (gName 4) tYes _ _) (gName 3)) _) (ew_doors (v := u) Wk (ea_cons (ev_var rfl) ea_nil) hu bad) ?_
      rintro _ H3 Hn3 g3 ⟨rfl, p, fs, rfl, h1, l1, f1⟩
      have W3 := Wk.step g3
      refine go_bind (C := fun te => tSeq (tAsg (tLc (iList K (tOp rCat (tVal (.ref p)) te)) (gName 4) tYes _ _) (gName 3)) _) (ew_doors (v := u) W3 (ea_cons (ev_var rfl) ea_nil) hu bad) ?_
      rintro _ H4 Hn4 g4 ⟨rfl, p', fs', rfl, h2, l2, f2⟩
      have x34 : LamX.ExtN H3 H4 := fun a o h n => g4.ex a o h (by simp) n
      intro H5 e5
      refine asg_run ?_
      show tLc (iList K (tOp rCat (tVal (.ref p)) (tVal (.ref p')))) (gName 4) tYes (tLamD P w K mg base 10 (TTw T) (tVar 4)) [4] [some (V.ref a), some (.ref b.b), some u, none, none] H5 _
      refine ev_deadWords T (n := 15) (m := 18) (p := p) (p' := p') (fs := fs) (fs' := fs') ev_val ev_val (e5 _ _ (x34 _ _ h1 noTb_lst)) (e5 _ _ h2) l1 l2 (by decide) (fun x hx => ?_) ?_ fun D H6 e6 hD => ?_
      · rcases List.mem_append.mp hx with hx | hx
        · obtain ⟨f, rfl, df⟩ := f1 x hx
          exact ⟨f, rfl, dead_up ((df.extN x34).ext e5) (by decide)⟩
        · obtain ⟨f, rfl, df⟩ := f2 x hx
          exact ⟨f, rfl, dead_up (df.ext e5) (by decide)⟩
      · exact fun v => ⟨rfl, rfl⟩
      · have hDp : Dp K (upd hp0 D (.lst (List.replicate 33 (V.str "chart")))) (.ref D) (.list (List.replicate 33 (.str "chart"))) := .lst (sq_of upd_same) (strs33 _ 33)
        have eD : Ex (upd hp0 D (.lst (List.replicate 33 (V.str "chart")))) H6 := fun b' o h => by
          by_cases z : b' = D
          · rw [z, upd_same] at h
            cases h
            rw [z]
            exact hD
          · rw [upd_ne z] at h
            cases h
        refine (show Go (tSeq (tRet _) _) _ [some (V.ref a), some (.ref b.b), some u, some (.ref D), none] H6 from ?_) H6 (Ex.refl _)
        refine go_retE (k := fun H' _ => q H') (v' := .bl true) ?_ ?_
        · refine Ev.mono eD (ev_is (ev_eqD (K := K) (d := .list (List.replicate 33 (.str "chart"))) (e := .list (List.replicate 33 (.str "chart"))) (ed_var rfl hDp) (ed_new (en_rep (en_lst (eda_cons (ed_str ev_c) eda_nil) (by simp)) ev_c (by decide) (by decide))) (by decide +kernel) (by decide +kernel)) (by decide +kernel))
        · rfl
    · intro ht hz
      have two1 : atI [PyData.int c, .tuple (rows.map dRow)] 1 = some (.tuple (rows.map dRow)) := atI_nat (j := 1) rfl
      have two0 : atI [PyData.int c, .tuple (rows.map dRow)] 0 = some (.int c) := atI_nat (j := 0) rfl
      refine go_asgE (ew_eb (p := fun d => BadC d) W2 (List.mem_singleton.mpr rfl) B2 (EvB.imp (eb_ixL (Ps := fun ds => ds = [dChart 4 rows, dChart c [], dChart c (rows ++ [[]])]) (p := fun i => 0 ≤ i ∧ i < 3) (EvB.imp (eb_ed (d := .list [dChart 4 rows, dChart c [], dChart c (rows ++ [[]])]) (ed_new (en_lst (eda_cons (ed_tup (eda_cons (ed_int ev_c) (eda_cons (ed_ixT (ed_var rfl hd) ev_c two1) eda_nil)) (by simp)) (eda_cons (ed_tup (eda_cons (ed_ixT (ed_var rfl hd) ev_c two0) (eda_cons (ed_tup eda_nil (by simp)) eda_nil)) (by simp)) (eda_cons ?third eda_nil))) (by simp)))) ?lst) (eb_take (ev_var rfl) ev_c (by decide) (by decide)) ?ats) ?bad)) ?_
      case third =>
        have e : dChart c (rows ++ [[]]) = .tuple [.int c, .tuple (rows.map dRow ++ [.tuple []])] := by
          unfold dChart
          rw [List.map_append]
          rfl
        rw [e]
        exact ed_tup (eda_cons (ed_ixT (ed_var rfl hd) ev_c two0) (eda_cons (ed_catT (ed_ixT (ed_var rfl hd) ev_c two1) (ed_tup (eda_cons (ed_tup eda_nil (by simp)) eda_nil) (by simp)) (by rw [List.length_map]; simp; omega)) eda_nil)) (by simp)
      case lst =>
        rintro d rfl
        exact ⟨_, rfl, rfl⟩
      case ats =>
        rintro ds i rfl ⟨i0, i3⟩
        have : i = 0 ∨ i = 1 ∨ i = 2 := by omega
        rcases this with rfl | rfl | rfl
        · exact ⟨_, atI_nat (j := 0) rfl⟩
        · exact ⟨_, atI_nat (j := 1) rfl⟩
        · exact ⟨_, atI_nat (j := 2) rfl⟩
      case bad =>
        rintro d ⟨ds, i, rfl, ⟨i0, i3⟩, hi⟩
        have : i = 0 ∨ i = 1 ∨ i = 2 := by omega
        rcases this with rfl | rfl | rfl
        · rw [show atI [dChart 4 rows, dChart c [], dChart c (rows ++ [[]])] 0 = some (dChart 4 rows) from atI_nat (j := 0) rfl] at hi
          cases hi
          exact ⟨4, rows, rfl, hl, hls, bad_four rows⟩
        · rw [show atI [dChart 4 rows, dChart c [], dChart c (rows ++ [[]])] 1 = some (dChart c []) from atI_nat (j := 1) rfl] at hi
          cases hi
          exact ⟨c, [], rfl, by decide, fun _ h => (by cases h), bad_nil c⟩
        · rw [show atI [dChart 4 rows, dChart c [], dChart c (rows ++ [[]])] 2 = some (dChart c (rows ++ [[]])) from atI_nat (j := 2) rfl] at hi
          cases hi
          refine ⟨c, rows ++ [[]], rfl, by rw [List.length_append]; have := bd.1; simp; omega, fun r h => ?_, bad_snoc ht⟩
          rcases List.mem_append.mp h with h | h
          · exact hls r h
          · rw [List.mem_singleton.mp h]
            exact Nat.zero_le _
      rintro v3 H3 Hn3 g3 ⟨B3, d3, hd3, bad3⟩
      exact go_next fun H4 e4 => hz _ _ ⟨v3, Hn3, d3, rfl, hd3, bad3, (W2.step g3).ext e4⟩
    · intro hf
      exact ⟨v, Hn2, _, rfl, hd, ⟨c, rows, rfl, hl, hls, hf⟩, W2⟩
end
theorem all_mk {l : PySem.W.OpenLaw} {w : World} {K : PySem.W.Frag} {h : Heap} {mg : Str → Option Value} {fa : Addr} (X : K.In h) (G : h.Ns mainGlobals mg) (hfa : mg "law" = some (.ref fa))
    {f0 : Addr} {od0 an0 : Option Addr} {sl0 : Array (Option Value)} {oc0 kV0 dc0 pm0 cd0 ct0 : Value}
    {f1 : Addr} {od1 an1 : Option Addr} {sl1 : Array (Option Value)} {oc1 kV1 dc1 pm1 cd1 ct1 : Value}
    {f2 : Addr} {od2 an2 : Option Addr} {sl2 : Array (Option Value)} {oc2 kV2 dc2 pm2 cd2 ct2 : Value}
    {f3 : Addr} {od3 an3 : Option Addr} {sl3 : Array (Option Value)} {oc3 kV3 dc3 pm3 cd3 ct3 : Value}
    {f4 : Addr} {od4 an4 : Option Addr} {sl4 : Array (Option Value)} {oc4 kV4 dc4 pm4 cd4 ct4 : Value}
    {f5 : Addr} {od5 an5 : Option Addr} {sl5 : Array (Option Value)} {oc5 kV5 dc5 pm5 cd5 ct5 : Value}
    {f6 : Addr} {od6 an6 : Option Addr} {sl6 : Array (Option Value)} {oc6 kV6 dc6 pm6 cd6 ct6 : Value}
    {f7 : Addr} {od7 an7 : Option Addr} {sl7 : Array (Option Value)} {oc7 kV7 dc7 pm7 cd7 ct7 : Value}
    {f8 : Addr} {od8 an8 : Option Addr} {sl8 : Array (Option Value)} {oc8 kV8 dc8 pm8 cd8 ct8 : Value}
    {f9 : Addr} {od9 an9 : Option Addr} {sl9 : Array (Option Value)} {oc9 kV9 dc9 pm9 cd9 ct9 : Value}
    {f10 : Addr} {od10 an10 : Option Addr} {sl10 : Array (Option Value)} {oc10 kV10 dc10 pm10 cd10 ct10 : Value}
    {f11 : Addr} {od11 an11 : Option Addr} {sl11 : Array (Option Value)} {oc11 kV11 dc11 pm11 cd11 ct11 : Value}
    {f12 : Addr} {od12 an12 : Option Addr} {sl12 : Array (Option Value)} {oc12 kV12 dc12 pm12 cd12 ct12 : Value}
    {f13 : Addr} {od13 an13 : Option Addr} {sl13 : Array (Option Value)} {oc13 kV13 dc13 pm13 cd13 ct13 : Value}
    {f14 : Addr} {od14 an14 : Option Addr} {sl14 : Array (Option Value)} {oc14 kV14 dc14 pm14 cd14 ct14 : Value}
    {f15 : Addr} {od15 an15 : Option Addr} {sl15 : Array (Option Value)} {oc15 kV15 dc15 pm15 cd15 ct15 : Value}
    {f16 : Addr} {od16 an16 : Option Addr} {sl16 : Array (Option Value)} {oc16 kV16 dc16 pm16 cd16 ct16 : Value}
    {f17 : Addr} {od17 an17 : Option Addr} {sl17 : Array (Option Value)} {oc17 kV17 dc17 pm17 cd17 ct17 : Value}
    {f18 : Addr} {od18 an18 : Option Addr} {sl18 : Array (Option Value)} {oc18 kV18 dc18 pm18 cd18 ct18 : Value}
    {f19 : Addr} {od19 an19 : Option Addr} {sl19 : Array (Option Value)} {oc19 kV19 dc19 pm19 cd19 ct19 : Value}
    {f20 : Addr} {od20 an20 : Option Addr} {sl20 : Array (Option Value)} {oc20 kV20 dc20 pm20 cd20 ct20 : Value}
    {f21 : Addr} {od21 an21 : Option Addr} {sl21 : Array (Option Value)} {oc21 kV21 dc21 pm21 cd21 ct21 : Value}
    {f22 : Addr} {od22 an22 : Option Addr} {sl22 : Array (Option Value)} {oc22 kV22 dc22 pm22 cd22 ct22 : Value}
    {f23 : Addr} {od23 an23 : Option Addr} {sl23 : Array (Option Value)} {oc23 kV23 dc23 pm23 cd23 ct23 : Value}
    {f24 : Addr} {od24 an24 : Option Addr} {sl24 : Array (Option Value)} {oc24 kV24 dc24 pm24 cd24 ct24 : Value}
    {f25 : Addr} {od25 an25 : Option Addr} {sl25 : Array (Option Value)} {oc25 kV25 dc25 pm25 cd25 ct25 : Value}
    {f26 : Addr} {od26 an26 : Option Addr} {sl26 : Array (Option Value)} {oc26 kV26 dc26 pm26 cd26 ct26 : Value}
    {f27 : Addr} {od27 an27 : Option Addr} {sl27 : Array (Option Value)} {oc27 kV27 dc27 pm27 cd27 ct27 : Value}
    {f28 : Addr} {od28 an28 : Option Addr} {sl28 : Array (Option Value)} {oc28 kV28 dc28 pm28 cd28 ct28 : Value}
    {f29 : Addr} {od29 an29 : Option Addr} {sl29 : Array (Option Value)} {oc29 kV29 dc29 pm29 cd29 ct29 : Value}
    {f30 : Addr} {od30 an30 : Option Addr} {sl30 : Array (Option Value)} {oc30 kV30 dc30 pm30 cd30 ct30 : Value}
    {f31 : Addr} {od31 an31 : Option Addr} {sl31 : Array (Option Value)} {oc31 kV31 dc31 pm31 cd31 ct31 : Value}
    {f32 : Addr} {od32 an32 : Option Addr} {sl32 : Array (Option Value)} {oc32 kV32 dc32 pm32 cd32 ct32 : Value}
    {f33 : Addr} {od33 an33 : Option Addr} {sl33 : Array (Option Value)} {oc33 kV33 dc33 pm33 cd33 ct33 : Value}
    {f34 : Addr} {od34 an34 : Option Addr} {sl34 : Array (Option Value)} {oc34 kV34 dc34 pm34 cd34 ct34 : Value}
    {f35 : Addr} {od35 an35 : Option Addr} {sl35 : Array (Option Value)} {oc35 kV35 dc35 pm35 cd35 ct35 : Value}
    {f36 : Addr} {od36 an36 : Option Addr} {sl36 : Array (Option Value)} {oc36 kV36 dc36 pm36 cd36 ct36 : Value}
    {f37 : Addr} {od37 an37 : Option Addr} {sl37 : Array (Option Value)} {oc37 kV37 dc37 pm37 cd37 ct37 : Value}
    {f38 : Addr} {od38 an38 : Option Addr} {sl38 : Array (Option Value)} {oc38 kV38 dc38 pm38 cd38 ct38 : Value}
    {f39 : Addr} {od39 an39 : Option Addr} {sl39 : Array (Option Value)} {oc39 kV39 dc39 pm39 cd39 ct39 : Value}
    {f40 : Addr} {od40 an40 : Option Addr} {sl40 : Array (Option Value)} {oc40 kV40 dc40 pm40 cd40 ct40 : Value}
    {f41 : Addr} {od41 an41 : Option Addr} {sl41 : Array (Option Value)} {oc41 kV41 dc41 pm41 cd41 ct41 : Value}
    {T42 : Addr} {oT42 : Value} {pT42 : Option Addr} {nT42 : Nat} {sT42 : Array (Option Value)} {u42_0 : Tok}
    {f42 : Addr} {od42 an42 : Option Addr} {sl42 : Array (Option Value)} {oc42 kV42 dc42 pm42 cd42 ct42 : Value}
    {T43 : Addr} {oT43 : Value} {pT43 : Option Addr} {nT43 : Nat} {sT43 : Array (Option Value)} {u43_0 : Tok} {u43_1 : Tok}
    {f43 : Addr} {od43 an43 : Option Addr} {sl43 : Array (Option Value)} {oc43 kV43 dc43 pm43 cd43 ct43 : Value}
    {f44 : Addr} {od44 an44 : Option Addr} {sl44 : Array (Option Value)} {oc44 kV44 dc44 pm44 cd44 ct44 : Value}
    {f45 : Addr} {od45 an45 : Option Addr} {sl45 : Array (Option Value)} {oc45 kV45 dc45 pm45 cd45 ct45 : Value}
    {f46 : Addr} {od46 an46 : Option Addr} {sl46 : Array (Option Value)} {oc46 kV46 dc46 pm46 cd46 ct46 : Value}
    {f47 : Addr} {od47 an47 : Option Addr} {sl47 : Array (Option Value)} {oc47 kV47 dc47 pm47 cd47 ct47 : Value}
    {f48 : Addr} {od48 an48 : Option Addr} {sl48 : Array (Option Value)} {oc48 kV48 dc48 pm48 cd48 ct48 : Value}
    {f49 : Addr} {od49 an49 : Option Addr} {sl49 : Array (Option Value)} {oc49 kV49 dc49 pm49 cd49 ct49 : Value}
    {f50 : Addr} {od50 an50 : Option Addr} {sl50 : Array (Option Value)} {oc50 kV50 dc50 pm50 cd50 ct50 : Value}
    {f51 : Addr} {od51 an51 : Option Addr} {sl51 : Array (Option Value)} {oc51 kV51 dc51 pm51 cd51 ct51 : Value}
    {f52 : Addr} {od52 an52 : Option Addr} {sl52 : Array (Option Value)} {oc52 kV52 dc52 pm52 cd52 ct52 : Value}
    {f53 : Addr} {od53 an53 : Option Addr} {sl53 : Array (Option Value)} {oc53 kV53 dc53 pm53 cd53 ct53 : Value}
    {f54 : Addr} {od54 an54 : Option Addr} {sl54 : Array (Option Value)} {oc54 kV54 dc54 pm54 cd54 ct54 : Value}
    {f55 : Addr} {od55 an55 : Option Addr} {sl55 : Array (Option Value)} {oc55 kV55 dc55 pm55 cd55 ct55 : Value}
    {f56 : Addr} {od56 an56 : Option Addr} {sl56 : Array (Option Value)} {oc56 kV56 dc56 pm56 cd56 ct56 : Value}
    {f57 : Addr} {od57 an57 : Option Addr} {sl57 : Array (Option Value)} {oc57 kV57 dc57 pm57 cd57 ct57 : Value}
    {f58 : Addr} {od58 an58 : Option Addr} {sl58 : Array (Option Value)} {oc58 kV58 dc58 pm58 cd58 ct58 : Value}
    {f59 : Addr} {od59 an59 : Option Addr} {sl59 : Array (Option Value)} {oc59 kV59 dc59 pm59 cd59 ct59 : Value}
    {f60 : Addr} {od60 an60 : Option Addr} {sl60 : Array (Option Value)} {oc60 kV60 dc60 pm60 cd60 ct60 : Value}
    {f61 : Addr} {od61 an61 : Option Addr} {sl61 : Array (Option Value)} {oc61 kV61 dc61 pm61 cd61 ct61 : Value}
    {f62 : Addr} {od62 an62 : Option Addr} {sl62 : Array (Option Value)} {oc62 kV62 dc62 pm62 cd62 ct62 : Value}
    {f63 : Addr} {od63 an63 : Option Addr} {sl63 : Array (Option Value)} {oc63 kV63 dc63 pm63 cd63 ct63 : Value}
    {f64 : Addr} {od64 an64 : Option Addr} {sl64 : Array (Option Value)} {oc64 kV64 dc64 pm64 cd64 ct64 : Value}
    {f65 : Addr} {od65 an65 : Option Addr} {sl65 : Array (Option Value)} {oc65 kV65 dc65 pm65 cd65 ct65 : Value}
    {f66 : Addr} {od66 an66 : Option Addr} {sl66 : Array (Option Value)} {oc66 kV66 dc66 pm66 cd66 ct66 : Value}
    {f67 : Addr} {od67 an67 : Option Addr} {sl67 : Array (Option Value)} {oc67 kV67 dc67 pm67 ct67 : Value}
    {cO0 PO0 : Addr}
    {f68 : Addr} {od68 an68 : Option Addr} {sl68 : Array (Option Value)} {oc68 kV68 dc68 pm68 ct68 : Value}
    {cO1 PO1 : Addr}
    {f69 : Addr} {od69 an69 : Option Addr} {sl69 : Array (Option Value)} {oc69 kV69 dc69 pm69 cd69 ct69 : Value}
    {t0 : Tok}
    {t1 : Tok}
    {t2 : Tok}
    {t3 : Tok}
    {O4 : Addr} {pO4 : Option Addr} {nO4 : Nat} {sO4 : Array (Option Value)} {v4_0 : Tok} {v4_1 : Tok}
    {t5 : Tok}
    {t6 : Tok}
    {t7 : Tok}
    {C0 : Addr}
    {C1 : Addr}
    {C2 : Addr}
    {C3 : Addr}
    {C4 : Addr}
    {C5 : Addr}
    {C6 : Addr}
    {C7 : Addr}
    {C8 : Addr}
    {C9 : Addr}
    {C10 : Addr}
    {C11 : Addr}
    {C12 : Addr}
    {C13 : Addr}
    {C14 : Addr}
    {C15 : Addr}
    {C16 : Addr}
    {C17 : Addr}
    {C18 : Addr}
    {If17 : Addr} {Iod17 Ian17 : Option Addr} {Isl17 : Array (Option Value)} {Ioc17 IkV17 Idc17 Ipm17 Icd17 Ict17 : Value}
    {Jn17 Jq17 : Str} {JN17 : Addr} {Jb17 JB17 : List Value} {Js17 : List Str} {Ju17 : List Value} {Ja17 : Bool} {Jc17 : Option Bool} {Jd17 : Option Addr} {J017 J117 J217 J317 J517 : Option Value}
    (a0 : PySem.W.nsIn K mainGlobals "is_clock" = some (some (.ref f0))) (l0 : K.lookup f0 = some ⟨oc0, od0, .func (PySem.W.fnOf "is_clock" "is_clock" (defArgs s_is_clock) (defBody s_is_clock) (defScope s_is_clock) .none kV0 dc0 pm0 an0 cd0 ct0), sl0⟩) (c0 : PySem.W.codeIn K cd0 "is_clock" = true) (k0 : PySem.W.keepIn K (.ref f0) = true)
    (a1 : PySem.W.nsIn K mainGlobals "is_what" = some (some (.ref f1))) (l1 : K.lookup f1 = some ⟨oc1, od1, .func (PySem.W.fnOf "is_what" "is_what" (defArgs s_is_what) (defBody s_is_what) (defScope s_is_what) .none kV1 dc1 pm1 an1 cd1 ct1), sl1⟩) (c1 : PySem.W.codeIn K cd1 "is_what" = true) (k1 : PySem.W.keepIn K (.ref f1) = true)
    (a2 : PySem.W.nsIn K mainGlobals "is_row" = some (some (.ref f2))) (l2 : K.lookup f2 = some ⟨oc2, od2, .func (PySem.W.fnOf "is_row" "is_row" (defArgs s_is_row) (defBody s_is_row) (defScope s_is_row) .none kV2 dc2 pm2 an2 cd2 ct2), sl2⟩) (c2 : PySem.W.codeIn K cd2 "is_row" = true) (k2 : PySem.W.keepIn K (.ref f2) = true)
    (a3 : PySem.W.nsIn K mainGlobals "is_chart" = some (some (.ref f3))) (l3 : K.lookup f3 = some ⟨oc3, od3, .func (PySem.W.fnOf "is_chart" "is_chart" (defArgs s_is_chart) (defBody s_is_chart) (defScope s_is_chart) .none kV3 dc3 pm3 an3 cd3 ct3), sl3⟩) (c3 : PySem.W.codeIn K cd3 "is_chart" = true) (k3 : PySem.W.keepIn K (.ref f3) = true)
    (a4 : PySem.W.nsIn K mainGlobals "need_chart" = some (some (.ref f4))) (l4 : K.lookup f4 = some ⟨oc4, od4, .func (PySem.W.fnOf "need_chart" "need_chart" (defArgs s_need_chart) (defBody s_need_chart) (defScope s_need_chart) .none kV4 dc4 pm4 an4 cd4 ct4), sl4⟩) (c4 : PySem.W.codeIn K cd4 "need_chart" = true) (k4 : PySem.W.keepIn K (.ref f4) = true)
    (a5 : PySem.W.nsIn K mainGlobals "size" = some (some (.ref f5))) (l5 : K.lookup f5 = some ⟨oc5, od5, .func (PySem.W.fnOf "size" "size" (defArgs s_size) (defBody s_size) (defScope s_size) .none kV5 dc5 pm5 an5 cd5 ct5), sl5⟩) (c5 : PySem.W.codeIn K cd5 "size" = true) (k5 : PySem.W.keepIn K (.ref f5) = true)
    (a6 : PySem.W.nsIn K mainGlobals "hour_at" = some (some (.ref f6))) (l6 : K.lookup f6 = some ⟨oc6, od6, .func (PySem.W.fnOf "hour_at" "hour_at" (defArgs s_hour_at) (defBody s_hour_at) (defScope s_hour_at) .none kV6 dc6 pm6 an6 cd6 ct6), sl6⟩) (c6 : PySem.W.codeIn K cd6 "hour_at" = true) (k6 : PySem.W.keepIn K (.ref f6) = true)
    (a7 : PySem.W.nsIn K mainGlobals "told_hours" = some (some (.ref f7))) (l7 : K.lookup f7 = some ⟨oc7, od7, .func (PySem.W.fnOf "told_hours" "told_hours" (defArgs s_told_hours) (defBody s_told_hours) (defScope s_told_hours) .none kV7 dc7 pm7 an7 cd7 ct7), sl7⟩) (c7 : PySem.W.codeIn K cd7 "told_hours" = true) (k7 : PySem.W.keepIn K (.ref f7) = true)
    (a8 : PySem.W.nsIn K mainGlobals "told" = some (some (.ref f8))) (l8 : K.lookup f8 = some ⟨oc8, od8, .func (PySem.W.fnOf "told" "told" (defArgs s_told) (defBody s_told) (defScope s_told) .none kV8 dc8 pm8 an8 cd8 ct8), sl8⟩) (c8 : PySem.W.codeIn K cd8 "told" = true) (k8 : PySem.W.keepIn K (.ref f8) = true)
    (a9 : PySem.W.nsIn K mainGlobals "sides" = some (some (.ref f9))) (l9 : K.lookup f9 = some ⟨oc9, od9, .func (PySem.W.fnOf "sides" "sides" (defArgs s_sides) (defBody s_sides) (defScope s_sides) .none kV9 dc9 pm9 an9 cd9 ct9), sl9⟩) (c9 : PySem.W.codeIn K cd9 "sides" = true) (k9 : PySem.W.keepIn K (.ref f9) = true)
    (a10 : PySem.W.nsIn K mainGlobals "told_neighbours" = some (some (.ref f10))) (l10 : K.lookup f10 = some ⟨oc10, od10, .func (PySem.W.fnOf "told_neighbours" "told_neighbours" (defArgs s_told_neighbours) (defBody s_told_neighbours) (defScope s_told_neighbours) .none kV10 dc10 pm10 an10 cd10 ct10), sl10⟩) (c10 : PySem.W.codeIn K cd10 "told_neighbours" = true) (k10 : PySem.W.keepIn K (.ref f10) = true)
    (a11 : PySem.W.nsIn K mainGlobals "together" = some (some (.ref f11))) (l11 : K.lookup f11 = some ⟨oc11, od11, .func (PySem.W.fnOf "together" "together" (defArgs s_together) (defBody s_together) (defScope s_together) .none kV11 dc11 pm11 an11 cd11 ct11), sl11⟩) (c11 : PySem.W.codeIn K cd11 "together" = true) (k11 : PySem.W.keepIn K (.ref f11) = true)
    (a12 : PySem.W.nsIn K mainGlobals "seas" = some (some (.ref f12))) (l12 : K.lookup f12 = some ⟨oc12, od12, .func (PySem.W.fnOf "seas" "seas" (defArgs s_seas) (defBody s_seas) (defScope s_seas) .none kV12 dc12 pm12 an12 cd12 ct12), sl12⟩) (c12 : PySem.W.codeIn K cd12 "seas" = true) (k12 : PySem.W.keepIn K (.ref f12) = true)
    (a13 : PySem.W.nsIn K mainGlobals "corners" = some (some (.ref f13))) (l13 : K.lookup f13 = some ⟨oc13, od13, .func (PySem.W.fnOf "corners" "corners" (defArgs s_corners) (defBody s_corners) (defScope s_corners) .none kV13 dc13 pm13 an13 cd13 ct13), sl13⟩) (c13 : PySem.W.codeIn K cd13 "corners" = true) (k13 : PySem.W.keepIn K (.ref f13) = true)
    (a14 : PySem.W.nsIn K mainGlobals "ways" = some (some (.ref f14))) (l14 : K.lookup f14 = some ⟨oc14, od14, .func (PySem.W.fnOf "ways" "ways" (defArgs s_ways) (defBody s_ways) (defScope s_ways) .none kV14 dc14 pm14 an14 cd14 ct14), sl14⟩) (c14 : PySem.W.codeIn K cd14 "ways" = true) (k14 : PySem.W.keepIn K (.ref f14) = true)
    (a15 : PySem.W.nsIn K mainGlobals "eye_corners" = some (some (.ref f15))) (l15 : K.lookup f15 = some ⟨oc15, od15, .func (PySem.W.fnOf "eye_corners" "eye_corners" (defArgs s_eye_corners) (defBody s_eye_corners) (defScope s_eye_corners) .none kV15 dc15 pm15 an15 cd15 ct15), sl15⟩) (c15 : PySem.W.codeIn K cd15 "eye_corners" = true) (k15 : PySem.W.keepIn K (.ref f15) = true)
    (a16 : PySem.W.nsIn K mainGlobals "eyes" = some (some (.ref f16))) (l16 : K.lookup f16 = some ⟨oc16, od16, .func (PySem.W.fnOf "eyes" "eyes" (defArgs s_eyes) (defBody s_eyes) (defScope s_eyes) .none kV16 dc16 pm16 an16 cd16 ct16), sl16⟩) (c16 : PySem.W.codeIn K cd16 "eyes" = true) (k16 : PySem.W.keepIn K (.ref f16) = true)
    (a17 : PySem.W.nsIn K mainGlobals "knots" = some (some (.ref f17))) (l17 : K.lookup f17 = some ⟨oc17, od17, .func (PySem.W.fnOf "knots" "knots" (defArgs s_knots) (defBody s_knots) (defScope s_knots) .none kV17 dc17 pm17 an17 cd17 ct17), sl17⟩) (c17 : PySem.W.codeIn K cd17 "knots" = true) (k17 : PySem.W.keepIn K (.ref f17) = true)
    (a18 : PySem.W.nsIn K mainGlobals "eye_at" = some (some (.ref f18))) (l18 : K.lookup f18 = some ⟨oc18, od18, .func (PySem.W.fnOf "eye_at" "eye_at" (defArgs s_eye_at) (defBody s_eye_at) (defScope s_eye_at) .none kV18 dc18 pm18 an18 cd18 ct18), sl18⟩) (c18 : PySem.W.codeIn K cd18 "eye_at" = true) (k18 : PySem.W.keepIn K (.ref f18) = true)
    (a19 : PySem.W.nsIn K mainGlobals "whole_count" = some (some (.ref f19))) (l19 : K.lookup f19 = some ⟨oc19, od19, .func (PySem.W.fnOf "whole_count" "whole_count" (defArgs s_whole_count) (defBody s_whole_count) (defScope s_whole_count) .none kV19 dc19 pm19 an19 cd19 ct19), sl19⟩) (c19 : PySem.W.codeIn K cd19 "whole_count" = true) (k19 : PySem.W.keepIn K (.ref f19) = true)
    (a20 : PySem.W.nsIn K mainGlobals "even" = some (some (.ref f20))) (l20 : K.lookup f20 = some ⟨oc20, od20, .func (PySem.W.fnOf "even" "even" (defArgs s_even) (defBody s_even) (defScope s_even) .none kV20 dc20 pm20 an20 cd20 ct20), sl20⟩) (c20 : PySem.W.codeIn K cd20 "even" = true) (k20 : PySem.W.keepIn K (.ref f20) = true)
    (a21 : PySem.W.nsIn K mainGlobals "side_steps" = some (some (.ref f21))) (l21 : K.lookup f21 = some ⟨oc21, od21, .func (PySem.W.fnOf "side_steps" "side_steps" (defArgs s_side_steps) (defBody s_side_steps) (defScope s_side_steps) .none kV21 dc21 pm21 an21 cd21 ct21), sl21⟩) (c21 : PySem.W.codeIn K cd21 "side_steps" = true) (k21 : PySem.W.keepIn K (.ref f21) = true)
    (a22 : PySem.W.nsIn K mainGlobals "ages" = some (some (.ref f22))) (l22 : K.lookup f22 = some ⟨oc22, od22, .func (PySem.W.fnOf "ages" "ages" (defArgs s_ages) (defBody s_ages) (defScope s_ages) .none kV22 dc22 pm22 an22 cd22 ct22), sl22⟩) (c22 : PySem.W.codeIn K cd22 "ages" = true) (k22 : PySem.W.keepIn K (.ref f22) = true)
    (a23 : PySem.W.nsIn K mainGlobals "are_ages" = some (some (.ref f23))) (l23 : K.lookup f23 = some ⟨oc23, od23, .func (PySem.W.fnOf "are_ages" "are_ages" (defArgs s_are_ages) (defBody s_are_ages) (defScope s_are_ages) .none kV23 dc23 pm23 an23 cd23 ct23), sl23⟩) (c23 : PySem.W.codeIn K cd23 "are_ages" = true) (k23 : PySem.W.keepIn K (.ref f23) = true)
    (a24 : PySem.W.nsIn K mainGlobals "off_steps" = some (some (.ref f24))) (l24 : K.lookup f24 = some ⟨oc24, od24, .func (PySem.W.fnOf "off_steps" "off_steps" (defArgs s_off_steps) (defBody s_off_steps) (defScope s_off_steps) .none kV24 dc24 pm24 an24 cd24 ct24), sl24⟩) (c24 : PySem.W.codeIn K cd24 "off_steps" = true) (k24 : PySem.W.keepIn K (.ref f24) = true)
    (a25 : PySem.W.nsIn K mainGlobals "is_laid" = some (some (.ref f25))) (l25 : K.lookup f25 = some ⟨oc25, od25, .func (PySem.W.fnOf "is_laid" "is_laid" (defArgs s_is_laid) (defBody s_is_laid) (defScope s_is_laid) .none kV25 dc25 pm25 an25 cd25 ct25), sl25⟩) (c25 : PySem.W.codeIn K cd25 "is_laid" = true) (k25 : PySem.W.keepIn K (.ref f25) = true)
    (a26 : PySem.W.nsIn K mainGlobals "weight" = some (some (.ref f26))) (l26 : K.lookup f26 = some ⟨oc26, od26, .func (PySem.W.fnOf "weight" "weight" (defArgs s_weight) (defBody s_weight) (defScope s_weight) .none kV26 dc26 pm26 an26 cd26 ct26), sl26⟩) (c26 : PySem.W.codeIn K cd26 "weight" = true) (k26 : PySem.W.keepIn K (.ref f26) = true)
    (a27 : PySem.W.nsIn K mainGlobals "breaks_of" = some (some (.ref f27))) (l27 : K.lookup f27 = some ⟨oc27, od27, .func (PySem.W.fnOf "breaks_of" "breaks_of" (defArgs s_breaks_of) (defBody s_breaks_of) (defScope s_breaks_of) .none kV27 dc27 pm27 an27 cd27 ct27), sl27⟩) (c27 : PySem.W.codeIn K cd27 "breaks_of" = true) (k27 : PySem.W.keepIn K (.ref f27) = true)
    (a28 : PySem.W.nsIn K mainGlobals "lays" = some (some (.ref f28))) (l28 : K.lookup f28 = some ⟨oc28, od28, .func (PySem.W.fnOf "lays" "lays" (defArgs s_lays) (defBody s_lays) (defScope s_lays) .none kV28 dc28 pm28 an28 cd28 ct28), sl28⟩) (c28 : PySem.W.codeIn K cd28 "lays" = true) (k28 : PySem.W.keepIn K (.ref f28) = true)
    (a29 : PySem.W.nsIn K mainGlobals "parted" = some (some (.ref f29))) (l29 : K.lookup f29 = some ⟨oc29, od29, .func (PySem.W.fnOf "parted" "parted" (defArgs s_parted) (defBody s_parted) (defScope s_parted) .none kV29 dc29 pm29 an29 cd29 ct29), sl29⟩) (c29 : PySem.W.codeIn K cd29 "parted" = true) (k29 : PySem.W.keepIn K (.ref f29) = true)
    (a30 : PySem.W.nsIn K mainGlobals "least_tides" = some (some (.ref f30))) (l30 : K.lookup f30 = some ⟨oc30, od30, .func (PySem.W.fnOf "least_tides" "least_tides" (defArgs s_least_tides) (defBody s_least_tides) (defScope s_least_tides) .none kV30 dc30 pm30 an30 cd30 ct30), sl30⟩) (c30 : PySem.W.codeIn K cd30 "least_tides" = true) (k30 : PySem.W.keepIn K (.ref f30) = true)
    (a31 : PySem.W.nsIn K mainGlobals "least_breaks" = some (some (.ref f31))) (l31 : K.lookup f31 = some ⟨oc31, od31, .func (PySem.W.fnOf "least_breaks" "least_breaks" (defArgs s_least_breaks) (defBody s_least_breaks) (defScope s_least_breaks) .none kV31 dc31 pm31 an31 cd31 ct31), sl31⟩) (c31 : PySem.W.codeIn K cd31 "least_breaks" = true) (k31 : PySem.W.keepIn K (.ref f31) = true)
    (a32 : PySem.W.nsIn K mainGlobals "least_weight" = some (some (.ref f32))) (l32 : K.lookup f32 = some ⟨oc32, od32, .func (PySem.W.fnOf "least_weight" "least_weight" (defArgs s_least_weight) (defBody s_least_weight) (defScope s_least_weight) .none kV32 dc32 pm32 an32 cd32 ct32), sl32⟩) (c32 : PySem.W.codeIn K cd32 "least_weight" = true) (k32 : PySem.W.keepIn K (.ref f32) = true)
    (a33 : PySem.W.nsIn K mainGlobals "prices" = some (some (.ref f33))) (l33 : K.lookup f33 = some ⟨oc33, od33, .func (PySem.W.fnOf "prices" "prices" (defArgs s_prices) (defBody s_prices) (defScope s_prices) .none kV33 dc33 pm33 an33 cd33 ct33), sl33⟩) (c33 : PySem.W.codeIn K cd33 "prices" = true) (k33 : PySem.W.keepIn K (.ref f33) = true)
    (a34 : PySem.W.nsIn K mainGlobals "need_prices" = some (some (.ref f34))) (l34 : K.lookup f34 = some ⟨oc34, od34, .func (PySem.W.fnOf "need_prices" "need_prices" (defArgs s_need_prices) (defBody s_need_prices) (defScope s_need_prices) .none kV34 dc34 pm34 an34 cd34 ct34), sl34⟩) (c34 : PySem.W.codeIn K cd34 "need_prices" = true) (k34 : PySem.W.keepIn K (.ref f34) = true)
    (a35 : PySem.W.nsIn K mainGlobals "hold" = some (some (.ref f35))) (l35 : K.lookup f35 = some ⟨oc35, od35, .func (PySem.W.fnOf "hold" "hold" (defArgs s_hold) (defBody s_hold) (defScope s_hold) .none kV35 dc35 pm35 an35 cd35 ct35), sl35⟩) (c35 : PySem.W.codeIn K cd35 "hold" = true) (k35 : PySem.W.keepIn K (.ref f35) = true)
    (a36 : PySem.W.nsIn K mainGlobals "worth" = some (some (.ref f36))) (l36 : K.lookup f36 = some ⟨oc36, od36, .func (PySem.W.fnOf "worth" "worth" (defArgs s_worth) (defBody s_worth) (defScope s_worth) .none kV36 dc36 pm36 an36 cd36 ct36), sl36⟩) (c36 : PySem.W.codeIn K cd36 "worth" = true) (k36 : PySem.W.keepIn K (.ref f36) = true)
    (a37 : PySem.W.nsIn K mainGlobals "need_within" = some (some (.ref f37))) (l37 : K.lookup f37 = some ⟨oc37, od37, .func (PySem.W.fnOf "need_within" "need_within" (defArgs s_need_within) (defBody s_need_within) (defScope s_need_within) .none kV37 dc37 pm37 an37 cd37 ct37), sl37⟩) (c37 : PySem.W.codeIn K cd37 "need_within" = true) (k37 : PySem.W.keepIn K (.ref f37) = true)
    (a38 : PySem.W.nsIn K mainGlobals "need_fit" = some (some (.ref f38))) (l38 : K.lookup f38 = some ⟨oc38, od38, .func (PySem.W.fnOf "need_fit" "need_fit" (defArgs s_need_fit) (defBody s_need_fit) (defScope s_need_fit) .none kV38 dc38 pm38 an38 cd38 ct38), sl38⟩) (c38 : PySem.W.codeIn K cd38 "need_fit" = true) (k38 : PySem.W.keepIn K (.ref f38) = true)
    (a39 : PySem.W.nsIn K mainGlobals "cut" = some (some (.ref f39))) (l39 : K.lookup f39 = some ⟨oc39, od39, .func (PySem.W.fnOf "cut" "cut" (defArgs s_cut) (defBody s_cut) (defScope s_cut) .none kV39 dc39 pm39 an39 cd39 ct39), sl39⟩) (c39 : PySem.W.codeIn K cd39 "cut" = true) (k39 : PySem.W.keepIn K (.ref f39) = true)
    (a40 : PySem.W.nsIn K mainGlobals "turned" = some (some (.ref f40))) (l40 : K.lookup f40 = some ⟨oc40, od40, .func (PySem.W.fnOf "turned" "turned" (defArgs s_turned) (defBody s_turned) (defScope s_turned) .none kV40 dc40 pm40 an40 cd40 ct40), sl40⟩) (c40 : PySem.W.codeIn K cd40 "turned" = true) (k40 : PySem.W.keepIn K (.ref f40) = true)
    (a41 : PySem.W.nsIn K mainGlobals "mirrored" = some (some (.ref f41))) (l41 : K.lookup f41 = some ⟨oc41, od41, .func (PySem.W.fnOf "mirrored" "mirrored" (defArgs s_mirrored) (defBody s_mirrored) (defScope s_mirrored) .none kV41 dc41 pm41 an41 cd41 ct41), sl41⟩) (c41 : PySem.W.codeIn K cd41 "mirrored" = true) (k41 : PySem.W.keepIn K (.ref f41) = true)
    (a42 : PySem.W.nsIn K mainGlobals "later" = some (some (.ref f42))) (l42 : K.lookup f42 = some ⟨oc42, od42, .func (PySem.W.fnOf "later" "later" (defArgs s_later) (defBody s_later) (defScope s_later) (.ref T42) kV42 dc42 pm42 an42 cd42 ct42), sl42⟩) (c42 : PySem.W.codeIn K cd42 "later" = true) (k42 : PySem.W.keepIn K (.ref f42) = true)
    (dt42 : K.lookup T42 = some ⟨oT42, pT42, .seq #[.int (1) u42_0] nT42, sT42⟩)
    (a43 : PySem.W.nsIn K mainGlobals "laid_in" = some (some (.ref f43))) (l43 : K.lookup f43 = some ⟨oc43, od43, .func (PySem.W.fnOf "laid_in" "laid_in" (defArgs s_laid_in) (defBody s_laid_in) (defScope s_laid_in) (.ref T43) kV43 dc43 pm43 an43 cd43 ct43), sl43⟩) (c43 : PySem.W.codeIn K cd43 "laid_in" = true) (k43 : PySem.W.keepIn K (.ref f43) = true)
    (dt43 : K.lookup T43 = some ⟨oT43, pT43, .seq #[.int (0) u43_0, .int (0) u43_1] nT43, sT43⟩)
    (a44 : PySem.W.nsIn K mainGlobals "near_rooms" = some (some (.ref f44))) (l44 : K.lookup f44 = some ⟨oc44, od44, .func (PySem.W.fnOf "near_rooms" "near_rooms" (defArgs s_near_rooms) (defBody s_near_rooms) (defScope s_near_rooms) .none kV44 dc44 pm44 an44 cd44 ct44), sl44⟩) (c44 : PySem.W.codeIn K cd44 "near_rooms" = true) (k44 : PySem.W.keepIn K (.ref f44) = true)
    (a45 : PySem.W.nsIn K mainGlobals "settled" = some (some (.ref f45))) (l45 : K.lookup f45 = some ⟨oc45, od45, .func (PySem.W.fnOf "settled" "settled" (defArgs s_settled) (defBody s_settled) (defScope s_settled) .none kV45 dc45 pm45 an45 cd45 ct45), sl45⟩) (c45 : PySem.W.codeIn K cd45 "settled" = true) (k45 : PySem.W.keepIn K (.ref f45) = true)
    (a46 : PySem.W.nsIn K mainGlobals "bar" = some (some (.ref f46))) (l46 : K.lookup f46 = some ⟨oc46, od46, .func (PySem.W.fnOf "bar" "bar" (defArgs s_bar) (defBody s_bar) (defScope s_bar) .none kV46 dc46 pm46 an46 cd46 ct46), sl46⟩) (c46 : PySem.W.codeIn K cd46 "bar" = true) (k46 : PySem.W.keepIn K (.ref f46) = true)
    (a47 : PySem.W.nsIn K mainGlobals "can_fill" = some (some (.ref f47))) (l47 : K.lookup f47 = some ⟨oc47, od47, .func (PySem.W.fnOf "can_fill" "can_fill" (defArgs s_can_fill) (defBody s_can_fill) (defScope s_can_fill) .none kV47 dc47 pm47 an47 cd47 ct47), sl47⟩) (c47 : PySem.W.codeIn K cd47 "can_fill" = true) (k47 : PySem.W.keepIn K (.ref f47) = true)
    (a48 : PySem.W.nsIn K mainGlobals "fill" = some (some (.ref f48))) (l48 : K.lookup f48 = some ⟨oc48, od48, .func (PySem.W.fnOf "fill" "fill" (defArgs s_fill) (defBody s_fill) (defScope s_fill) .none kV48 dc48 pm48 an48 cd48 ct48), sl48⟩) (c48 : PySem.W.codeIn K cd48 "fill" = true) (k48 : PySem.W.keepIn K (.ref f48) = true)
    (a49 : PySem.W.nsIn K mainGlobals "is_bar" = some (some (.ref f49))) (l49 : K.lookup f49 = some ⟨oc49, od49, .func (PySem.W.fnOf "is_bar" "is_bar" (defArgs s_is_bar) (defBody s_is_bar) (defScope s_is_bar) .none kV49 dc49 pm49 an49 cd49 ct49), sl49⟩) (c49 : PySem.W.codeIn K cd49 "is_bar" = true) (k49 : PySem.W.keepIn K (.ref f49) = true)
    (a50 : PySem.W.nsIn K mainGlobals "may_be" = some (some (.ref f50))) (l50 : K.lookup f50 = some ⟨oc50, od50, .func (PySem.W.fnOf "may_be" "may_be" (defArgs s_may_be) (defBody s_may_be) (defScope s_may_be) .none kV50 dc50 pm50 an50 cd50 ct50), sl50⟩) (c50 : PySem.W.codeIn K cd50 "may_be" = true) (k50 : PySem.W.keepIn K (.ref f50) = true)
    (a51 : PySem.W.nsIn K mainGlobals "is_ring" = some (some (.ref f51))) (l51 : K.lookup f51 = some ⟨oc51, od51, .func (PySem.W.fnOf "is_ring" "is_ring" (defArgs s_is_ring) (defBody s_is_ring) (defScope s_is_ring) .none kV51 dc51 pm51 an51 cd51 ct51), sl51⟩) (c51 : PySem.W.codeIn K cd51 "is_ring" = true) (k51 : PySem.W.keepIn K (.ref f51) = true)
    (a52 : PySem.W.nsIn K mainGlobals "need_ring" = some (some (.ref f52))) (l52 : K.lookup f52 = some ⟨oc52, od52, .func (PySem.W.fnOf "need_ring" "need_ring" (defArgs s_need_ring) (defBody s_need_ring) (defScope s_need_ring) .none kV52 dc52 pm52 an52 cd52 ct52), sl52⟩) (c52 : PySem.W.codeIn K cd52 "need_ring" = true) (k52 : PySem.W.keepIn K (.ref f52) = true)
    (a53 : PySem.W.nsIn K mainGlobals "ring_count" = some (some (.ref f53))) (l53 : K.lookup f53 = some ⟨oc53, od53, .func (PySem.W.fnOf "ring_count" "ring_count" (defArgs s_ring_count) (defBody s_ring_count) (defScope s_ring_count) .none kV53 dc53 pm53 an53 cd53 ct53), sl53⟩) (c53 : PySem.W.codeIn K cd53 "ring_count" = true) (k53 : PySem.W.keepIn K (.ref f53) = true)
    (a54 : PySem.W.nsIn K mainGlobals "joined" = some (some (.ref f54))) (l54 : K.lookup f54 = some ⟨oc54, od54, .func (PySem.W.fnOf "joined" "joined" (defArgs s_joined) (defBody s_joined) (defScope s_joined) .none kV54 dc54 pm54 an54 cd54 ct54), sl54⟩) (c54 : PySem.W.codeIn K cd54 "joined" = true) (k54 : PySem.W.keepIn K (.ref f54) = true)
    (a55 : PySem.W.nsIn K mainGlobals "_law_box" = some (some (.ref f55))) (l55 : K.lookup f55 = some ⟨oc55, od55, .func (PySem.W.fnOf "_law_box" "_law_box" (defArgs s_law_box) (defBody s_law_box) (defScope s_law_box) .none kV55 dc55 pm55 an55 cd55 ct55), sl55⟩) (c55 : PySem.W.codeIn K cd55 "_law_box" = true) (k55 : PySem.W.keepIn K (.ref f55) = true)
    (a56 : PySem.W.nsIn K mainGlobals "_law_mixed" = some (some (.ref f56))) (l56 : K.lookup f56 = some ⟨oc56, od56, .func (PySem.W.fnOf "_law_mixed" "_law_mixed" (defArgs s_law_mixed) (defBody s_law_mixed) (defScope s_law_mixed) .none kV56 dc56 pm56 an56 cd56 ct56), sl56⟩) (c56 : PySem.W.codeIn K cd56 "_law_mixed" = true) (k56 : PySem.W.keepIn K (.ref f56) = true)
    (a57 : PySem.W.nsIn K mainGlobals "_law_take" = some (some (.ref f57))) (l57 : K.lookup f57 = some ⟨oc57, od57, .func (PySem.W.fnOf "_law_take" "_law_take" (defArgs s_law_take) (defBody s_law_take) (defScope s_law_take) .none kV57 dc57 pm57 an57 cd57 ct57), sl57⟩) (c57 : PySem.W.codeIn K cd57 "_law_take" = true) (k57 : PySem.W.keepIn K (.ref f57) = true)
    (a58 : PySem.W.nsIn K mainGlobals "_law_clock" = some (some (.ref f58))) (l58 : K.lookup f58 = some ⟨oc58, od58, .func (PySem.W.fnOf "_law_clock" "_law_clock" (defArgs s_law_clock) (defBody s_law_clock) (defScope s_law_clock) .none kV58 dc58 pm58 an58 cd58 ct58), sl58⟩) (c58 : PySem.W.codeIn K cd58 "_law_clock" = true) (k58 : PySem.W.keepIn K (.ref f58) = true)
    (a59 : PySem.W.nsIn K mainGlobals "_law_number" = some (some (.ref f59))) (l59 : K.lookup f59 = some ⟨oc59, od59, .func (PySem.W.fnOf "_law_number" "_law_number" (defArgs s_law_number) (defBody s_law_number) (defScope s_law_number) .none kV59 dc59 pm59 an59 cd59 ct59), sl59⟩) (c59 : PySem.W.codeIn K cd59 "_law_number" = true) (k59 : PySem.W.keepIn K (.ref f59) = true)
    (a60 : PySem.W.nsIn K mainGlobals "_law_square" = some (some (.ref f60))) (l60 : K.lookup f60 = some ⟨oc60, od60, .func (PySem.W.fnOf "_law_square" "_law_square" (defArgs s_law_square) (defBody s_law_square) (defScope s_law_square) .none kV60 dc60 pm60 an60 cd60 ct60), sl60⟩) (c60 : PySem.W.codeIn K cd60 "_law_square" = true) (k60 : PySem.W.keepIn K (.ref f60) = true)
    (a61 : PySem.W.nsIn K mainGlobals "_law_near_hour" = some (some (.ref f61))) (l61 : K.lookup f61 = some ⟨oc61, od61, .func (PySem.W.fnOf "_law_near_hour" "_law_near_hour" (defArgs s_law_near_hour) (defBody s_law_near_hour) (defScope s_law_near_hour) .none kV61 dc61 pm61 an61 cd61 ct61), sl61⟩) (c61 : PySem.W.codeIn K cd61 "_law_near_hour" = true) (k61 : PySem.W.keepIn K (.ref f61) = true)
    (a62 : PySem.W.nsIn K mainGlobals "_law_chart" = some (some (.ref f62))) (l62 : K.lookup f62 = some ⟨oc62, od62, .func (PySem.W.fnOf "_law_chart" "_law_chart" (defArgs s_law_chart) (defBody s_law_chart) (defScope s_law_chart) .none kV62 dc62 pm62 an62 cd62 ct62), sl62⟩) (c62 : PySem.W.codeIn K cd62 "_law_chart" = true) (k62 : PySem.W.keepIn K (.ref f62) = true)
    (a63 : PySem.W.nsIn K mainGlobals "_law_word" = some (some (.ref f63))) (l63 : K.lookup f63 = some ⟨oc63, od63, .func (PySem.W.fnOf "_law_word" "_law_word" (defArgs s_law_word) (defBody s_law_word) (defScope s_law_word) .none kV63 dc63 pm63 an63 cd63 ct63), sl63⟩) (c63 : PySem.W.codeIn K cd63 "_law_word" = true) (k63 : PySem.W.keepIn K (.ref f63) = true)
    (a64 : PySem.W.nsIn K mainGlobals "_law_kind" = some (some (.ref f64))) (l64 : K.lookup f64 = some ⟨oc64, od64, .func (PySem.W.fnOf "_law_kind" "_law_kind" (defArgs s_law_kind) (defBody s_law_kind) (defScope s_law_kind) .none kV64 dc64 pm64 an64 cd64 ct64), sl64⟩) (c64 : PySem.W.codeIn K cd64 "_law_kind" = true) (k64 : PySem.W.keepIn K (.ref f64) = true)
    (a65 : PySem.W.nsIn K mainGlobals "_law_bent_chart" = some (some (.ref f65))) (l65 : K.lookup f65 = some ⟨oc65, od65, .func (PySem.W.fnOf "_law_bent_chart" "_law_bent_chart" (defArgs s_law_bent_chart) (defBody s_law_bent_chart) (defScope s_law_bent_chart) .none kV65 dc65 pm65 an65 cd65 ct65), sl65⟩) (c65 : PySem.W.codeIn K cd65 "_law_bent_chart" = true) (k65 : PySem.W.keepIn K (.ref f65) = true)
    (a66 : PySem.W.nsIn K mainGlobals "_law_is_chart" = some (some (.ref f66))) (l66 : K.lookup f66 = some ⟨oc66, od66, .func (PySem.W.fnOf "_law_is_chart" "_law_is_chart" (defArgs s_law_is_chart) (defBody s_law_is_chart) (defScope s_law_is_chart) .none kV66 dc66 pm66 an66 cd66 ct66), sl66⟩) (c66 : PySem.W.codeIn K cd66 "_law_is_chart" = true) (k66 : PySem.W.keepIn K (.ref f66) = true)
    (a67 : PySem.W.nsIn K mainGlobals "_law_doors_one" = some (some (.ref f67))) (l67 : K.lookup f67 = some ⟨oc67, od67, .func (PySem.W.fnOf "_law_doors_one" "_law_doors_one" (defArgs s_law_doors_one) (defBody s_law_doors_one) (defScope s_law_doors_one) .none kV67 dc67 pm67 an67 (.ref cO0) ct67), sl67⟩) (c67 : PySem.W.codeIn K (.ref cO0) "_law_doors_one" = true) (k67 : PySem.W.keepIn K (.ref f67) = true)
    (a68 : PySem.W.nsIn K mainGlobals "_law_doors_two" = some (some (.ref f68))) (l68 : K.lookup f68 = some ⟨oc68, od68, .func (PySem.W.fnOf "_law_doors_two" "_law_doors_two" (defArgs s_law_doors_two) (defBody s_law_doors_two) (defScope s_law_doors_two) .none kV68 dc68 pm68 an68 (.ref cO1) ct68), sl68⟩) (c68 : PySem.W.codeIn K (.ref cO1) "_law_doors_two" = true) (k68 : PySem.W.keepIn K (.ref f68) = true)
    (a69 : PySem.W.nsIn K mainGlobals "law" = some (some (.ref f69))) (l69 : K.lookup f69 = some ⟨oc69, od69, .func (PySem.W.fnOf "law" "law" (defArgs s_law) (defBody s_law) (defScope s_law) .none kV69 dc69 pm69 an69 cd69 ct69), sl69⟩) (c69 : PySem.W.codeIn K cd69 "law" = true) (k69 : PySem.W.keepIn K (.ref f69) = true)
    (q0 : PySem.W.nsIn K mainGlobals "LEAST_HOURS" = some (some (.int (3) t0)))
    (q1 : PySem.W.nsIn K mainGlobals "MOST_HOURS" = some (some (.int (15) t1)))
    (q2 : PySem.W.nsIn K mainGlobals "MOST_SQUARES" = some (some (.int (9) t2)))
    (q3 : PySem.W.nsIn K mainGlobals "UNTOLD" = some (some (.int (-2) t3)))
    (q4 : PySem.W.nsIn K mainGlobals "OUTSIDE_eyes" = some (some (.ref O4))) (qo4 : K.lookup O4 = some ⟨.type "tuple", pO4, .seq #[.int (-1) v4_0, .int (-1) v4_1] nO4, sO4⟩)
    (q5 : PySem.W.nsIn K mainGlobals "OUTSIDE_breaks" = some (some (.int (-1) t5)))
    (q6 : PySem.W.nsIn K mainGlobals "LEAST_SQUARES_fills" = some (some (.int (2) t6)))
    (q7 : PySem.W.nsIn K mainGlobals "LEAST_SQUARES_rings" = some (some (.int (2) t7)))
    (z0 : PySem.W.nsIn K mainGlobals "ValueError" = some none)
    (z1 : PySem.W.nsIn K mainGlobals "_law_ask" = some none)
    (z2 : PySem.W.nsIn K mainGlobals "all" = some none)
    (z3 : PySem.W.nsIn K mainGlobals "any" = some none)
    (z4 : PySem.W.nsIn K mainGlobals "enumerate" = some none)
    (z5 : PySem.W.nsIn K mainGlobals "isinstance" = some none)
    (z6 : PySem.W.nsIn K mainGlobals "len" = some none)
    (z7 : PySem.W.nsIn K mainGlobals "list" = some none)
    (z8 : PySem.W.nsIn K mainGlobals "range" = some none)
    (z9 : PySem.W.nsIn K mainGlobals "sum" = some none)
    (z10 : PySem.W.nsIn K mainGlobals "tuple" = some none)
    (ga0 : PySem.W.nsIn K mainGlobals "TideError" = some (some (.ref C0)))
    (gk0 : PySem.W.keepIn K (.ref C0) = true)
    (ga1 : PySem.W.nsIn K mainGlobals "BadClock" = some (some (.ref C1)))
    (gk1 : PySem.W.keepIn K (.ref C1) = true)
    (ga2 : PySem.W.nsIn K mainGlobals "BadHour" = some (some (.ref C2)))
    (gk2 : PySem.W.keepIn K (.ref C2) = true)
    (ga3 : PySem.W.nsIn K mainGlobals "BadChart" = some (some (.ref C3)))
    (gk3 : PySem.W.keepIn K (.ref C3) = true)
    (ga4 : PySem.W.nsIn K mainGlobals "BadSquare" = some (some (.ref C4)))
    (gk4 : PySem.W.keepIn K (.ref C4) = true)
    (ga5 : PySem.W.nsIn K mainGlobals "BadRing" = some (some (.ref C5)))
    (gk5 : PySem.W.keepIn K (.ref C5) = true)
    (ga6 : PySem.W.nsIn K mainGlobals "BadBreaks" = some (some (.ref C6)))
    (gk6 : PySem.W.keepIn K (.ref C6) = true)
    (ga7 : PySem.W.nsIn K mainGlobals "BadPrices" = some (some (.ref C7)))
    (gk7 : PySem.W.keepIn K (.ref C7) = true)
    (ga8 : PySem.W.nsIn K mainGlobals "NoFill" = some (some (.ref C8)))
    (gk8 : PySem.W.keepIn K (.ref C8) = true)
    (ga9 : PySem.W.nsIn K mainGlobals "Unlike" = some (some (.ref C9)))
    (gk9 : PySem.W.keepIn K (.ref C9) = true)
    (ga10 : PySem.W.nsIn K mainGlobals "BadName" = some (some (.ref C10)))
    (gk10 : PySem.W.keepIn K (.ref C10) = true)
    (ga11 : PySem.W.nsIn K mainGlobals "Taken" = some (some (.ref C11)))
    (gk11 : PySem.W.keepIn K (.ref C11) = true)
    (ga12 : PySem.W.nsIn K mainGlobals "Full" = some (some (.ref C12)))
    (gk12 : PySem.W.keepIn K (.ref C12) = true)
    (ga13 : PySem.W.nsIn K mainGlobals "NoChart" = some (some (.ref C13)))
    (gk13 : PySem.W.keepIn K (.ref C13) = true)
    (ga14 : PySem.W.nsIn K mainGlobals "BadDay" = some (some (.ref C14)))
    (gk14 : PySem.W.keepIn K (.ref C14) = true)
    (ga15 : PySem.W.nsIn K mainGlobals "BadDeed" = some (some (.ref C15)))
    (gk15 : PySem.W.keepIn K (.ref C15) = true)
    (ga16 : PySem.W.nsIn K mainGlobals "NothingLeft" = some (some (.ref C16)))
    (gk16 : PySem.W.keepIn K (.ref C16) = true)
    (ga17 : PySem.W.nsIn K mainGlobals "Knotted" = some (some (.ref C17)))
    (gk17 : PySem.W.keepIn K (.ref C17) = true)
    (ga18 : PySem.W.nsIn K mainGlobals "BadText" = some (some (.ref C18)))
    (gk18 : PySem.W.keepIn K (.ref C18) = true)
    (te1 : PySem.W.subIn K (.ref C0) (.type "BaseException") = some true)
    (te2 : PySem.W.hasDictIn K C0 = true)
    (te3 : PySem.W.typeIn K (.ref C0) = some (.type "type"))
    (gx3 : PySem.W.excIn K C3 [.type "ValueError", .type "Exception", .type "BaseException", .type "object"] "ValueError.__new__" = true)
    (gs3 : PySem.W.subIn K (.ref C3) (.type "BaseException") = some true)
    (gt3 : PySem.W.typeIn K (.ref C3) = some (.type "type"))
    (gm3 : PySem.W.subIn K (.ref C3) (.ref C0) = some true)
    (ge3_1 : PySem.W.findIn K (.ref C3) "__getattribute__" = some (some (.builtin "BaseException.__getattribute__")))
    (ge3_2 : PySem.W.findIn K (.ref C3) "__getattr__" = some none)
    (ge3_3 : PySem.W.hasDictIn K C3 = true)
    (ge3_4 : PySem.W.findIn K (.ref C3) "__class__" = some (some (.builtin "object.__class__")))
    (ge3_5 : PySem.W.specialIn K (.builtin "object.__class__") "__get__" = some (some (.builtin "getset_descriptor.__get__")))
    (ge3_6 : PySem.W.takesIn K (.builtin "object.__class__") = some true)
    (ge3_7 : PySem.W.mroIn K C3 (.type "object") = some true)
    (gq3_0 : PySem.W.kitOne K (.ref C3) (.ref C1) = some false)
    (gq3_1 : PySem.W.kitOne K (.ref C3) (.ref C2) = some false)
    (gq3_2 : PySem.W.kitOne K (.ref C3) (.ref C3) = some true)
    (gq3_3 : PySem.W.kitOne K (.ref C3) (.ref C4) = some false)
    (gq3_4 : PySem.W.kitOne K (.ref C3) (.ref C5) = some false)
    (gq3_5 : PySem.W.kitOne K (.ref C3) (.ref C6) = some false)
    (gq3_6 : PySem.W.kitOne K (.ref C3) (.ref C7) = some false)
    (gq3_7 : PySem.W.kitOne K (.ref C3) (.ref C8) = some false)
    (gq3_8 : PySem.W.kitOne K (.ref C3) (.ref C9) = some false)
    (gq3_9 : PySem.W.kitOne K (.ref C3) (.ref C10) = some false)
    (gq3_10 : PySem.W.kitOne K (.ref C3) (.ref C11) = some false)
    (gq3_11 : PySem.W.kitOne K (.ref C3) (.ref C12) = some false)
    (gq3_12 : PySem.W.kitOne K (.ref C3) (.ref C13) = some false)
    (gq3_13 : PySem.W.kitOne K (.ref C3) (.ref C14) = some false)
    (gq3_14 : PySem.W.kitOne K (.ref C3) (.ref C15) = some false)
    (gq3_15 : PySem.W.kitOne K (.ref C3) (.ref C16) = some false)
    (gq3_16 : PySem.W.kitOne K (.ref C3) (.ref C17) = some false)
    (gq3_17 : PySem.W.kitOne K (.ref C3) (.ref C18) = some false)
    (gq3_18 : PySem.W.kitOne K (.ref C3) (.type "ValueError") = some true)
    (gx4 : PySem.W.excIn K C4 [.type "ValueError", .type "Exception", .type "BaseException", .type "object"] "ValueError.__new__" = true)
    (gs4 : PySem.W.subIn K (.ref C4) (.type "BaseException") = some true)
    (gt4 : PySem.W.typeIn K (.ref C4) = some (.type "type"))
    (gm4 : PySem.W.subIn K (.ref C4) (.ref C0) = some true)
    (ge4_1 : PySem.W.findIn K (.ref C4) "__getattribute__" = some (some (.builtin "BaseException.__getattribute__")))
    (ge4_2 : PySem.W.findIn K (.ref C4) "__getattr__" = some none)
    (ge4_3 : PySem.W.hasDictIn K C4 = true)
    (ge4_4 : PySem.W.findIn K (.ref C4) "__class__" = some (some (.builtin "object.__class__")))
    (ge4_5 : PySem.W.specialIn K (.builtin "object.__class__") "__get__" = some (some (.builtin "getset_descriptor.__get__")))
    (ge4_6 : PySem.W.takesIn K (.builtin "object.__class__") = some true)
    (ge4_7 : PySem.W.mroIn K C4 (.type "object") = some true)
    (gq4_0 : PySem.W.kitOne K (.ref C4) (.ref C1) = some false)
    (gq4_1 : PySem.W.kitOne K (.ref C4) (.ref C2) = some false)
    (gq4_2 : PySem.W.kitOne K (.ref C4) (.ref C3) = some false)
    (gq4_3 : PySem.W.kitOne K (.ref C4) (.ref C4) = some true)
    (gq4_4 : PySem.W.kitOne K (.ref C4) (.ref C5) = some false)
    (gq4_5 : PySem.W.kitOne K (.ref C4) (.ref C6) = some false)
    (gq4_6 : PySem.W.kitOne K (.ref C4) (.ref C7) = some false)
    (gq4_7 : PySem.W.kitOne K (.ref C4) (.ref C8) = some false)
    (gq4_8 : PySem.W.kitOne K (.ref C4) (.ref C9) = some false)
    (gq4_9 : PySem.W.kitOne K (.ref C4) (.ref C10) = some false)
    (gq4_10 : PySem.W.kitOne K (.ref C4) (.ref C11) = some false)
    (gq4_11 : PySem.W.kitOne K (.ref C4) (.ref C12) = some false)
    (gq4_12 : PySem.W.kitOne K (.ref C4) (.ref C13) = some false)
    (gq4_13 : PySem.W.kitOne K (.ref C4) (.ref C14) = some false)
    (gq4_14 : PySem.W.kitOne K (.ref C4) (.ref C15) = some false)
    (gq4_15 : PySem.W.kitOne K (.ref C4) (.ref C16) = some false)
    (gq4_16 : PySem.W.kitOne K (.ref C4) (.ref C17) = some false)
    (gq4_17 : PySem.W.kitOne K (.ref C4) (.ref C18) = some false)
    (gq4_18 : PySem.W.kitOne K (.ref C4) (.type "ValueError") = some true)
    (gx5 : PySem.W.excIn K C5 [.type "ValueError", .type "Exception", .type "BaseException", .type "object"] "ValueError.__new__" = true)
    (gs5 : PySem.W.subIn K (.ref C5) (.type "BaseException") = some true)
    (gt5 : PySem.W.typeIn K (.ref C5) = some (.type "type"))
    (gm5 : PySem.W.subIn K (.ref C5) (.ref C0) = some true)
    (ge5_1 : PySem.W.findIn K (.ref C5) "__getattribute__" = some (some (.builtin "BaseException.__getattribute__")))
    (ge5_2 : PySem.W.findIn K (.ref C5) "__getattr__" = some none)
    (ge5_3 : PySem.W.hasDictIn K C5 = true)
    (ge5_4 : PySem.W.findIn K (.ref C5) "__class__" = some (some (.builtin "object.__class__")))
    (ge5_5 : PySem.W.specialIn K (.builtin "object.__class__") "__get__" = some (some (.builtin "getset_descriptor.__get__")))
    (ge5_6 : PySem.W.takesIn K (.builtin "object.__class__") = some true)
    (ge5_7 : PySem.W.mroIn K C5 (.type "object") = some true)
    (gq5_0 : PySem.W.kitOne K (.ref C5) (.ref C1) = some false)
    (gq5_1 : PySem.W.kitOne K (.ref C5) (.ref C2) = some false)
    (gq5_2 : PySem.W.kitOne K (.ref C5) (.ref C3) = some false)
    (gq5_3 : PySem.W.kitOne K (.ref C5) (.ref C4) = some false)
    (gq5_4 : PySem.W.kitOne K (.ref C5) (.ref C5) = some true)
    (gq5_5 : PySem.W.kitOne K (.ref C5) (.ref C6) = some false)
    (gq5_6 : PySem.W.kitOne K (.ref C5) (.ref C7) = some false)
    (gq5_7 : PySem.W.kitOne K (.ref C5) (.ref C8) = some false)
    (gq5_8 : PySem.W.kitOne K (.ref C5) (.ref C9) = some false)
    (gq5_9 : PySem.W.kitOne K (.ref C5) (.ref C10) = some false)
    (gq5_10 : PySem.W.kitOne K (.ref C5) (.ref C11) = some false)
    (gq5_11 : PySem.W.kitOne K (.ref C5) (.ref C12) = some false)
    (gq5_12 : PySem.W.kitOne K (.ref C5) (.ref C13) = some false)
    (gq5_13 : PySem.W.kitOne K (.ref C5) (.ref C14) = some false)
    (gq5_14 : PySem.W.kitOne K (.ref C5) (.ref C15) = some false)
    (gq5_15 : PySem.W.kitOne K (.ref C5) (.ref C16) = some false)
    (gq5_16 : PySem.W.kitOne K (.ref C5) (.ref C17) = some false)
    (gq5_17 : PySem.W.kitOne K (.ref C5) (.ref C18) = some false)
    (gq5_18 : PySem.W.kitOne K (.ref C5) (.type "ValueError") = some true)
    (gx6 : PySem.W.excIn K C6 [.type "ValueError", .type "Exception", .type "BaseException", .type "object"] "ValueError.__new__" = true)
    (gs6 : PySem.W.subIn K (.ref C6) (.type "BaseException") = some true)
    (gt6 : PySem.W.typeIn K (.ref C6) = some (.type "type"))
    (gm6 : PySem.W.subIn K (.ref C6) (.ref C0) = some true)
    (ge6_1 : PySem.W.findIn K (.ref C6) "__getattribute__" = some (some (.builtin "BaseException.__getattribute__")))
    (ge6_2 : PySem.W.findIn K (.ref C6) "__getattr__" = some none)
    (ge6_3 : PySem.W.hasDictIn K C6 = true)
    (ge6_4 : PySem.W.findIn K (.ref C6) "__class__" = some (some (.builtin "object.__class__")))
    (ge6_5 : PySem.W.specialIn K (.builtin "object.__class__") "__get__" = some (some (.builtin "getset_descriptor.__get__")))
    (ge6_6 : PySem.W.takesIn K (.builtin "object.__class__") = some true)
    (ge6_7 : PySem.W.mroIn K C6 (.type "object") = some true)
    (gq6_0 : PySem.W.kitOne K (.ref C6) (.ref C1) = some false)
    (gq6_1 : PySem.W.kitOne K (.ref C6) (.ref C2) = some false)
    (gq6_2 : PySem.W.kitOne K (.ref C6) (.ref C3) = some false)
    (gq6_3 : PySem.W.kitOne K (.ref C6) (.ref C4) = some false)
    (gq6_4 : PySem.W.kitOne K (.ref C6) (.ref C5) = some false)
    (gq6_5 : PySem.W.kitOne K (.ref C6) (.ref C6) = some true)
    (gq6_6 : PySem.W.kitOne K (.ref C6) (.ref C7) = some false)
    (gq6_7 : PySem.W.kitOne K (.ref C6) (.ref C8) = some false)
    (gq6_8 : PySem.W.kitOne K (.ref C6) (.ref C9) = some false)
    (gq6_9 : PySem.W.kitOne K (.ref C6) (.ref C10) = some false)
    (gq6_10 : PySem.W.kitOne K (.ref C6) (.ref C11) = some false)
    (gq6_11 : PySem.W.kitOne K (.ref C6) (.ref C12) = some false)
    (gq6_12 : PySem.W.kitOne K (.ref C6) (.ref C13) = some false)
    (gq6_13 : PySem.W.kitOne K (.ref C6) (.ref C14) = some false)
    (gq6_14 : PySem.W.kitOne K (.ref C6) (.ref C15) = some false)
    (gq6_15 : PySem.W.kitOne K (.ref C6) (.ref C16) = some false)
    (gq6_16 : PySem.W.kitOne K (.ref C6) (.ref C17) = some false)
    (gq6_17 : PySem.W.kitOne K (.ref C6) (.ref C18) = some false)
    (gq6_18 : PySem.W.kitOne K (.ref C6) (.type "ValueError") = some true)
    (gx7 : PySem.W.excIn K C7 [.type "ValueError", .type "Exception", .type "BaseException", .type "object"] "ValueError.__new__" = true)
    (gs7 : PySem.W.subIn K (.ref C7) (.type "BaseException") = some true)
    (gt7 : PySem.W.typeIn K (.ref C7) = some (.type "type"))
    (gm7 : PySem.W.subIn K (.ref C7) (.ref C0) = some true)
    (ge7_1 : PySem.W.findIn K (.ref C7) "__getattribute__" = some (some (.builtin "BaseException.__getattribute__")))
    (ge7_2 : PySem.W.findIn K (.ref C7) "__getattr__" = some none)
    (ge7_3 : PySem.W.hasDictIn K C7 = true)
    (ge7_4 : PySem.W.findIn K (.ref C7) "__class__" = some (some (.builtin "object.__class__")))
    (ge7_5 : PySem.W.specialIn K (.builtin "object.__class__") "__get__" = some (some (.builtin "getset_descriptor.__get__")))
    (ge7_6 : PySem.W.takesIn K (.builtin "object.__class__") = some true)
    (ge7_7 : PySem.W.mroIn K C7 (.type "object") = some true)
    (gq7_0 : PySem.W.kitOne K (.ref C7) (.ref C1) = some false)
    (gq7_1 : PySem.W.kitOne K (.ref C7) (.ref C2) = some false)
    (gq7_2 : PySem.W.kitOne K (.ref C7) (.ref C3) = some false)
    (gq7_3 : PySem.W.kitOne K (.ref C7) (.ref C4) = some false)
    (gq7_4 : PySem.W.kitOne K (.ref C7) (.ref C5) = some false)
    (gq7_5 : PySem.W.kitOne K (.ref C7) (.ref C6) = some false)
    (gq7_6 : PySem.W.kitOne K (.ref C7) (.ref C7) = some true)
    (gq7_7 : PySem.W.kitOne K (.ref C7) (.ref C8) = some false)
    (gq7_8 : PySem.W.kitOne K (.ref C7) (.ref C9) = some false)
    (gq7_9 : PySem.W.kitOne K (.ref C7) (.ref C10) = some false)
    (gq7_10 : PySem.W.kitOne K (.ref C7) (.ref C11) = some false)
    (gq7_11 : PySem.W.kitOne K (.ref C7) (.ref C12) = some false)
    (gq7_12 : PySem.W.kitOne K (.ref C7) (.ref C13) = some false)
    (gq7_13 : PySem.W.kitOne K (.ref C7) (.ref C14) = some false)
    (gq7_14 : PySem.W.kitOne K (.ref C7) (.ref C15) = some false)
    (gq7_15 : PySem.W.kitOne K (.ref C7) (.ref C16) = some false)
    (gq7_16 : PySem.W.kitOne K (.ref C7) (.ref C17) = some false)
    (gq7_17 : PySem.W.kitOne K (.ref C7) (.ref C18) = some false)
    (gq7_18 : PySem.W.kitOne K (.ref C7) (.type "ValueError") = some true)
    (gx8 : PySem.W.excIn K C8 [.type "ValueError", .type "Exception", .type "BaseException", .type "object"] "ValueError.__new__" = true)
    (gs8 : PySem.W.subIn K (.ref C8) (.type "BaseException") = some true)
    (gt8 : PySem.W.typeIn K (.ref C8) = some (.type "type"))
    (gm8 : PySem.W.subIn K (.ref C8) (.ref C0) = some true)
    (ge8_1 : PySem.W.findIn K (.ref C8) "__getattribute__" = some (some (.builtin "BaseException.__getattribute__")))
    (ge8_2 : PySem.W.findIn K (.ref C8) "__getattr__" = some none)
    (ge8_3 : PySem.W.hasDictIn K C8 = true)
    (ge8_4 : PySem.W.findIn K (.ref C8) "__class__" = some (some (.builtin "object.__class__")))
    (ge8_5 : PySem.W.specialIn K (.builtin "object.__class__") "__get__" = some (some (.builtin "getset_descriptor.__get__")))
    (ge8_6 : PySem.W.takesIn K (.builtin "object.__class__") = some true)
    (ge8_7 : PySem.W.mroIn K C8 (.type "object") = some true)
    (gq8_0 : PySem.W.kitOne K (.ref C8) (.ref C1) = some false)
    (gq8_1 : PySem.W.kitOne K (.ref C8) (.ref C2) = some false)
    (gq8_2 : PySem.W.kitOne K (.ref C8) (.ref C3) = some false)
    (gq8_3 : PySem.W.kitOne K (.ref C8) (.ref C4) = some false)
    (gq8_4 : PySem.W.kitOne K (.ref C8) (.ref C5) = some false)
    (gq8_5 : PySem.W.kitOne K (.ref C8) (.ref C6) = some false)
    (gq8_6 : PySem.W.kitOne K (.ref C8) (.ref C7) = some false)
    (gq8_7 : PySem.W.kitOne K (.ref C8) (.ref C8) = some true)
    (gq8_8 : PySem.W.kitOne K (.ref C8) (.ref C9) = some false)
    (gq8_9 : PySem.W.kitOne K (.ref C8) (.ref C10) = some false)
    (gq8_10 : PySem.W.kitOne K (.ref C8) (.ref C11) = some false)
    (gq8_11 : PySem.W.kitOne K (.ref C8) (.ref C12) = some false)
    (gq8_12 : PySem.W.kitOne K (.ref C8) (.ref C13) = some false)
    (gq8_13 : PySem.W.kitOne K (.ref C8) (.ref C14) = some false)
    (gq8_14 : PySem.W.kitOne K (.ref C8) (.ref C15) = some false)
    (gq8_15 : PySem.W.kitOne K (.ref C8) (.ref C16) = some false)
    (gq8_16 : PySem.W.kitOne K (.ref C8) (.ref C17) = some false)
    (gq8_17 : PySem.W.kitOne K (.ref C8) (.ref C18) = some false)
    (gq8_18 : PySem.W.kitOne K (.ref C8) (.type "ValueError") = some true)
    (gx9 : PySem.W.excIn K C9 [.type "ValueError", .type "Exception", .type "BaseException", .type "object"] "ValueError.__new__" = true)
    (gs9 : PySem.W.subIn K (.ref C9) (.type "BaseException") = some true)
    (gt9 : PySem.W.typeIn K (.ref C9) = some (.type "type"))
    (gm9 : PySem.W.subIn K (.ref C9) (.ref C0) = some true)
    (ge9_1 : PySem.W.findIn K (.ref C9) "__getattribute__" = some (some (.builtin "BaseException.__getattribute__")))
    (ge9_2 : PySem.W.findIn K (.ref C9) "__getattr__" = some none)
    (ge9_3 : PySem.W.hasDictIn K C9 = true)
    (ge9_4 : PySem.W.findIn K (.ref C9) "__class__" = some (some (.builtin "object.__class__")))
    (ge9_5 : PySem.W.specialIn K (.builtin "object.__class__") "__get__" = some (some (.builtin "getset_descriptor.__get__")))
    (ge9_6 : PySem.W.takesIn K (.builtin "object.__class__") = some true)
    (ge9_7 : PySem.W.mroIn K C9 (.type "object") = some true)
    (gq9_0 : PySem.W.kitOne K (.ref C9) (.ref C1) = some false)
    (gq9_1 : PySem.W.kitOne K (.ref C9) (.ref C2) = some false)
    (gq9_2 : PySem.W.kitOne K (.ref C9) (.ref C3) = some false)
    (gq9_3 : PySem.W.kitOne K (.ref C9) (.ref C4) = some false)
    (gq9_4 : PySem.W.kitOne K (.ref C9) (.ref C5) = some false)
    (gq9_5 : PySem.W.kitOne K (.ref C9) (.ref C6) = some false)
    (gq9_6 : PySem.W.kitOne K (.ref C9) (.ref C7) = some false)
    (gq9_7 : PySem.W.kitOne K (.ref C9) (.ref C8) = some false)
    (gq9_8 : PySem.W.kitOne K (.ref C9) (.ref C9) = some true)
    (gq9_9 : PySem.W.kitOne K (.ref C9) (.ref C10) = some false)
    (gq9_10 : PySem.W.kitOne K (.ref C9) (.ref C11) = some false)
    (gq9_11 : PySem.W.kitOne K (.ref C9) (.ref C12) = some false)
    (gq9_12 : PySem.W.kitOne K (.ref C9) (.ref C13) = some false)
    (gq9_13 : PySem.W.kitOne K (.ref C9) (.ref C14) = some false)
    (gq9_14 : PySem.W.kitOne K (.ref C9) (.ref C15) = some false)
    (gq9_15 : PySem.W.kitOne K (.ref C9) (.ref C16) = some false)
    (gq9_16 : PySem.W.kitOne K (.ref C9) (.ref C17) = some false)
    (gq9_17 : PySem.W.kitOne K (.ref C9) (.ref C18) = some false)
    (gq9_18 : PySem.W.kitOne K (.ref C9) (.type "ValueError") = some true)
    (gs17 : PySem.W.subIn K (.ref C17) (.type "BaseException") = some true)
    (gt17 : PySem.W.typeIn K (.ref C17) = some (.type "type"))
    (gm17 : PySem.W.subIn K (.ref C17) (.ref C0) = some true)
    (ge17_1 : PySem.W.findIn K (.ref C17) "__getattribute__" = some (some (.builtin "BaseException.__getattribute__")))
    (ge17_2 : PySem.W.findIn K (.ref C17) "__getattr__" = some none)
    (ge17_3 : PySem.W.hasDictIn K C17 = true)
    (ge17_4 : PySem.W.findIn K (.ref C17) "__class__" = some (some (.builtin "object.__class__")))
    (ge17_5 : PySem.W.specialIn K (.builtin "object.__class__") "__get__" = some (some (.builtin "getset_descriptor.__get__")))
    (ge17_6 : PySem.W.takesIn K (.builtin "object.__class__") = some true)
    (ge17_7 : PySem.W.mroIn K C17 (.type "object") = some true)
    (gq17_0 : PySem.W.kitOne K (.ref C17) (.ref C1) = some false)
    (gq17_1 : PySem.W.kitOne K (.ref C17) (.ref C2) = some false)
    (gq17_2 : PySem.W.kitOne K (.ref C17) (.ref C3) = some false)
    (gq17_3 : PySem.W.kitOne K (.ref C17) (.ref C4) = some false)
    (gq17_4 : PySem.W.kitOne K (.ref C17) (.ref C5) = some false)
    (gq17_5 : PySem.W.kitOne K (.ref C17) (.ref C6) = some false)
    (gq17_6 : PySem.W.kitOne K (.ref C17) (.ref C7) = some false)
    (gq17_7 : PySem.W.kitOne K (.ref C17) (.ref C8) = some false)
    (gq17_8 : PySem.W.kitOne K (.ref C17) (.ref C9) = some false)
    (gq17_9 : PySem.W.kitOne K (.ref C17) (.ref C10) = some false)
    (gq17_10 : PySem.W.kitOne K (.ref C17) (.ref C11) = some false)
    (gq17_11 : PySem.W.kitOne K (.ref C17) (.ref C12) = some false)
    (gq17_12 : PySem.W.kitOne K (.ref C17) (.ref C13) = some false)
    (gq17_13 : PySem.W.kitOne K (.ref C17) (.ref C14) = some false)
    (gq17_14 : PySem.W.kitOne K (.ref C17) (.ref C15) = some false)
    (gq17_15 : PySem.W.kitOne K (.ref C17) (.ref C16) = some false)
    (gq17_16 : PySem.W.kitOne K (.ref C17) (.ref C17) = some true)
    (gq17_17 : PySem.W.kitOne K (.ref C17) (.ref C18) = some false)
    (gq17_18 : PySem.W.kitOne K (.ref C17) (.type "ValueError") = some true)
    (Ji17 : PySem.W.findIn K (.ref C17) "__init__" = some (some (.ref If17)))
    (Il17 : K.lookup If17 = some ⟨Ioc17, Iod17, .func (PySem.W.fnOf "__init__" "Knotted.__init__" (defArgs s_Knotted_init) (defBody s_Knotted_init) (defScope s_Knotted_init) .none IkV17 Idc17 Ipm17 Ian17 Icd17 Ict17), Isl17⟩)
    (Ic17 : PySem.W.codeIn K Icd17 "Knotted.__init__" = true)
    (Ik17 : PySem.W.keepIn K (.ref If17) = true)
    (Jl17 : K.lookup C17 = some (excClassObj Jn17 Jq17 C17 JN17 Jb17 JB17 true Js17 Ju17 Ja17 Jc17 Jd17 J017 J117 J217 J317 J517 "ValueError.__new__"))
    (Jr17 : PySem.HandSPX.refsVE JB17 = true)
    (Js17a : PySem.W.findIn K (.ref C17) "__setattr__" = some (some (.builtin "object.__setattr__")))
    (Jg17 : PySem.W.findIn K (.ref C17) "__getattribute__" = some (some (.builtin "BaseException.__getattribute__")))
    (Jh17 : PySem.W.findIn K (.ref C17) "__getattr__" = some none)
    (Jj17 : PySem.W.hasDictIn K C17 = true)
    (Jt17 : PySem.W.typeIn K (.ref If17) = some (.type "function"))
    (Jf17 : PySem.W.findIn K (.ref C17) "many" = some none)
    (Jm17 : PySem.W.subIn K (.ref C17) (.ref C17) = some true)
    (Kb17_1 : PySem.W.specialIn K (.ref C0) "__getattribute__" = some (some (.builtin "type.__getattribute__")))
    (Kb17_2 : PySem.W.readsIn K C0 (.type "type") = true)
    (Kb17_3 : PySem.W.findCls K (.ref C0) (.type "type") "__init__" = some (.val (.builtin "ValueError.__init__")))
    (hT0 : h.get? PO0 = some { cls := .none, data := .fields #[] }) (nT0 : K.lookup PO0 = none) (cH0 : PySem.W.codeHdIn K cO0 PO0 = true)
    (hT1 : h.get? PO1 = some { cls := .none, data := .fields #[] }) (nT1 : K.lookup PO1 = none) (cH1 : PySem.W.codeHdIn K cO1 PO1 = true)
    (tnd : ([PO0, PO1] : List Addr).Nodup) :
    LamX.LawAtS l w K CX0 14 63 "_law_script" mg fa h := by
  have e := hfa.symm.trans (PySem.W.mg_of X G a69)
  cases e
  have F42 : FunD K "later" "later" (defArgs s_later) (defBody s_later) (defScope s_later) [.int (1)] [] f42 _ := ⟨⟨_, _, _, _, _, _, _, _, _, _, rfl, l42, c42, .inr ⟨(by simp), T42, _, [.int (1) u42_0], _, rfl, dt42, rfl, (.cons ⟨_, rfl⟩ .nil)⟩, .inl rfl⟩, k42⟩
  have B42 := bindsAll F42 (ps := ["chart", "by"]) 2 (by simp) (by rfl) fun _ _ _ _ _ _ _ us its hl hi => match us, its, hl, hi with | [_, _], [_], _, _ => ⟨_, rfl, rfl⟩
  obtain ⟨ds42_1, vd42_1, bd42_1⟩ := F42.binds1 (ps := ["chart", "by"]) 1 0 (by simp) (by rfl) (fun T kV doc pm an cdv ct us its hu hi => match us, its, hu, hi with | [_], [_], _, _ => ⟨_, rfl, rfl⟩)
  have F43 : FunD K "laid_in" "laid_in" (defArgs s_laid_in) (defBody s_laid_in) (defScope s_laid_in) [.int (0), .int (0)] [] f43 _ := ⟨⟨_, _, _, _, _, _, _, _, _, _, rfl, l43, c43, .inr ⟨(by simp), T43, _, [.int (0) u43_0, .int (0) u43_1], _, rfl, dt43, rfl, (.cons ⟨_, rfl⟩ (.cons ⟨_, rfl⟩ .nil))⟩, .inl rfl⟩, k43⟩
  have B43 := bindsAll F43 (ps := ["chart", "patch", "top", "left"]) 4 (by simp) (by rfl) fun _ _ _ _ _ _ _ us its hl hi => match us, its, hl, hi with | [_, _, _, _], [_, _], _, _ => ⟨_, rfl, rfl⟩
  have all : ∀ (P : Addr × Addr → Prop), P (cO0, PO0) → P (cO1, PO1) → ∀ p ∈ ([(cO0, PO0), (cO1, PO1)] : List (Addr × Addr)), P p := fun P h0 h1 p hp => by
    simp only [List.mem_cons, List.not_mem_nil, or_false] at hp
    rcases hp with rfl | rfl <;> assumption
  refine ⟨_, [(cO0, PO0), (cO1, PO1)], spLawT K [PO0, PO1], all _ hT0 hT1, all _ nT0 nT1, all _ (PySem.W.codeHd_of_K X cH0) (PySem.W.codeHd_of_K X cH1), fun s v => ?_, fun H a ns hl _ hH hS => ⟨a, ns, rfl, hS, hl, fun p hp => ?_, fun _ => rfl⟩, fun base _ _ hB => ok_law (T := ⟨_, _, fun_mk (st := s_is_clock) l0 c0 k0, PySem.W.mg_of X G a0, (fun_mk (st := s_is_clock) l0 c0 k0).binds fun _ _ _ _ _ _ us hl => match us, hl with | [_], _ => rfl,
    _, _, fun_mk (st := s_is_what) l1 c1 k1, PySem.W.mg_of X G a1, (fun_mk (st := s_is_what) l1 c1 k1).binds fun _ _ _ _ _ _ us hl => match us, hl with | [_, _], _ => rfl,
    _, _, fun_mk (st := s_is_row) l2 c2 k2, PySem.W.mg_of X G a2, (fun_mk (st := s_is_row) l2 c2 k2).binds fun _ _ _ _ _ _ us hl => match us, hl with | [_, _, _], _ => rfl,
    _, _, fun_mk (st := s_is_chart) l3 c3 k3, PySem.W.mg_of X G a3, (fun_mk (st := s_is_chart) l3 c3 k3).binds fun _ _ _ _ _ _ us hl => match us, hl with | [_], _ => rfl,
    _, _, fun_mk (st := s_need_chart) l4 c4 k4, PySem.W.mg_of X G a4, (fun_mk (st := s_need_chart) l4 c4 k4).binds fun _ _ _ _ _ _ us hl => match us, hl with | [_], _ => rfl,
    _, _, fun_mk (st := s_size) l5 c5 k5, PySem.W.mg_of X G a5, (fun_mk (st := s_size) l5 c5 k5).binds fun _ _ _ _ _ _ us hl => match us, hl with | [_], _ => rfl,
    _, _, fun_mk (st := s_hour_at) l6 c6 k6, PySem.W.mg_of X G a6, (fun_mk (st := s_hour_at) l6 c6 k6).binds fun _ _ _ _ _ _ us hl => match us, hl with | [_, _], _ => rfl,
    _, _, fun_mk (st := s_told_hours) l7 c7 k7, PySem.W.mg_of X G a7, (fun_mk (st := s_told_hours) l7 c7 k7).binds fun _ _ _ _ _ _ us hl => match us, hl with | [_], _ => rfl,
    _, _, fun_mk (st := s_told) l8 c8 k8, PySem.W.mg_of X G a8, (fun_mk (st := s_told) l8 c8 k8).binds fun _ _ _ _ _ _ us hl => match us, hl with | [_], _ => rfl,
    _, _, fun_mk (st := s_sides) l9 c9 k9, PySem.W.mg_of X G a9, (fun_mk (st := s_sides) l9 c9 k9).binds fun _ _ _ _ _ _ us hl => match us, hl with | [_], _ => rfl,
    _, _, fun_mk (st := s_told_neighbours) l10 c10 k10, PySem.W.mg_of X G a10, (fun_mk (st := s_told_neighbours) l10 c10 k10).binds fun _ _ _ _ _ _ us hl => match us, hl with | [_], _ => rfl,
    _, _, fun_mk (st := s_together) l11 c11 k11, PySem.W.mg_of X G a11, (fun_mk (st := s_together) l11 c11 k11).binds fun _ _ _ _ _ _ us hl => match us, hl with | [_], _ => rfl,
    _, _, fun_mk (st := s_seas) l12 c12 k12, PySem.W.mg_of X G a12, (fun_mk (st := s_seas) l12 c12 k12).binds fun _ _ _ _ _ _ us hl => match us, hl with | [_], _ => rfl,
    _, _, fun_mk (st := s_corners) l13 c13 k13, PySem.W.mg_of X G a13, (fun_mk (st := s_corners) l13 c13 k13).binds fun _ _ _ _ _ _ us hl => match us, hl with | [_], _ => rfl,
    _, _, fun_mk (st := s_ways) l14 c14 k14, PySem.W.mg_of X G a14, (fun_mk (st := s_ways) l14 c14 k14).binds fun _ _ _ _ _ _ us hl => match us, hl with | [_], _ => rfl,
    _, _, fun_mk (st := s_eye_corners) l15 c15 k15, PySem.W.mg_of X G a15, (fun_mk (st := s_eye_corners) l15 c15 k15).binds fun _ _ _ _ _ _ us hl => match us, hl with | [_], _ => rfl,
    _, _, fun_mk (st := s_eyes) l16 c16 k16, PySem.W.mg_of X G a16, (fun_mk (st := s_eyes) l16 c16 k16).binds fun _ _ _ _ _ _ us hl => match us, hl with | [_], _ => rfl,
    _, _, fun_mk (st := s_knots) l17 c17 k17, PySem.W.mg_of X G a17, (fun_mk (st := s_knots) l17 c17 k17).binds fun _ _ _ _ _ _ us hl => match us, hl with | [_], _ => rfl,
    _, _, fun_mk (st := s_eye_at) l18 c18 k18, PySem.W.mg_of X G a18, (fun_mk (st := s_eye_at) l18 c18 k18).binds fun _ _ _ _ _ _ us hl => match us, hl with | [_, _], _ => rfl,
    _, _, fun_mk (st := s_whole_count) l19 c19 k19, PySem.W.mg_of X G a19, (fun_mk (st := s_whole_count) l19 c19 k19).binds fun _ _ _ _ _ _ us hl => match us, hl with | [_], _ => rfl,
    _, _, fun_mk (st := s_even) l20 c20 k20, PySem.W.mg_of X G a20, (fun_mk (st := s_even) l20 c20 k20).binds fun _ _ _ _ _ _ us hl => match us, hl with | [_], _ => rfl,
    _, _, fun_mk (st := s_side_steps) l21 c21 k21, PySem.W.mg_of X G a21, (fun_mk (st := s_side_steps) l21 c21 k21).binds fun _ _ _ _ _ _ us hl => match us, hl with | [_], _ => rfl,
    _, _, fun_mk (st := s_ages) l22 c22 k22, PySem.W.mg_of X G a22, (fun_mk (st := s_ages) l22 c22 k22).binds fun _ _ _ _ _ _ us hl => match us, hl with | [_], _ => rfl,
    _, _, fun_mk (st := s_are_ages) l23 c23 k23, PySem.W.mg_of X G a23, (fun_mk (st := s_are_ages) l23 c23 k23).binds fun _ _ _ _ _ _ us hl => match us, hl with | [_, _], _ => rfl,
    _, _, fun_mk (st := s_off_steps) l24 c24 k24, PySem.W.mg_of X G a24, (fun_mk (st := s_off_steps) l24 c24 k24).binds fun _ _ _ _ _ _ us hl => match us, hl with | [_, _], _ => rfl,
    _, _, fun_mk (st := s_is_laid) l25 c25 k25, PySem.W.mg_of X G a25, (fun_mk (st := s_is_laid) l25 c25 k25).binds fun _ _ _ _ _ _ us hl => match us, hl with | [_, _], _ => rfl,
    _, _, fun_mk (st := s_weight) l26 c26 k26, PySem.W.mg_of X G a26, (fun_mk (st := s_weight) l26 c26 k26).binds fun _ _ _ _ _ _ us hl => match us, hl with | [_], _ => rfl,
    _, _, fun_mk (st := s_breaks_of) l27 c27 k27, PySem.W.mg_of X G a27, (fun_mk (st := s_breaks_of) l27 c27 k27).binds fun _ _ _ _ _ _ us hl => match us, hl with | [_, _], _ => rfl,
    _, _, fun_mk (st := s_lays) l28 c28 k28, PySem.W.mg_of X G a28, (fun_mk (st := s_lays) l28 c28 k28).binds fun _ _ _ _ _ _ us hl => match us, hl with | [_, _], _ => rfl,
    _, _, fun_mk (st := s_parted) l29 c29 k29, PySem.W.mg_of X G a29, (fun_mk (st := s_parted) l29 c29 k29).binds fun _ _ _ _ _ _ us hl => match us, hl with | [_], _ => rfl,
    _, _, fun_mk (st := s_least_tides) l30 c30 k30, PySem.W.mg_of X G a30, (fun_mk (st := s_least_tides) l30 c30 k30).binds fun _ _ _ _ _ _ us hl => match us, hl with | [_, _], _ => rfl,
    _, _, fun_mk (st := s_least_breaks) l31 c31 k31, PySem.W.mg_of X G a31, (fun_mk (st := s_least_breaks) l31 c31 k31).binds fun _ _ _ _ _ _ us hl => match us, hl with | [_], _ => rfl,
    _, _, fun_mk (st := s_least_weight) l32 c32 k32, PySem.W.mg_of X G a32, (fun_mk (st := s_least_weight) l32 c32 k32).binds fun _ _ _ _ _ _ us hl => match us, hl with | [_], _ => rfl,
    _, _, fun_mk (st := s_prices) l33 c33 k33, PySem.W.mg_of X G a33, (fun_mk (st := s_prices) l33 c33 k33).binds fun _ _ _ _ _ _ us hl => match us, hl with | [_], _ => rfl,
    _, _, fun_mk (st := s_need_prices) l34 c34 k34, PySem.W.mg_of X G a34, (fun_mk (st := s_need_prices) l34 c34 k34).binds fun _ _ _ _ _ _ us hl => match us, hl with | [_, _], _ => rfl,
    _, _, fun_mk (st := s_hold) l35 c35 k35, PySem.W.mg_of X G a35, (fun_mk (st := s_hold) l35 c35 k35).binds fun _ _ _ _ _ _ us hl => match us, hl with | [_, _], _ => rfl,
    _, _, fun_mk (st := s_worth) l36 c36 k36, PySem.W.mg_of X G a36, (fun_mk (st := s_worth) l36 c36 k36).binds fun _ _ _ _ _ _ us hl => match us, hl with | [_, _], _ => rfl,
    _, _, fun_mk (st := s_need_within) l37 c37 k37, PySem.W.mg_of X G a37, (fun_mk (st := s_need_within) l37 c37 k37).binds fun _ _ _ _ _ _ us hl => match us, hl with | [_, _, _, _, _], _ => rfl,
    _, _, fun_mk (st := s_need_fit) l38 c38 k38, PySem.W.mg_of X G a38, (fun_mk (st := s_need_fit) l38 c38 k38).binds fun _ _ _ _ _ _ us hl => match us, hl with | [_, _, _, _], _ => rfl,
    _, _, fun_mk (st := s_cut) l39 c39 k39, PySem.W.mg_of X G a39, (fun_mk (st := s_cut) l39 c39 k39).binds fun _ _ _ _ _ _ us hl => match us, hl with | [_, _, _, _, _], _ => rfl,
    _, _, fun_mk (st := s_turned) l40 c40 k40, PySem.W.mg_of X G a40, (fun_mk (st := s_turned) l40 c40 k40).binds fun _ _ _ _ _ _ us hl => match us, hl with | [_], _ => rfl,
    _, _, fun_mk (st := s_mirrored) l41 c41 k41, PySem.W.mg_of X G a41, (fun_mk (st := s_mirrored) l41 c41 k41).binds fun _ _ _ _ _ _ us hl => match us, hl with | [_], _ => rfl,
    _, _, F42, PySem.W.mg_of X G a42, B42,
    _, vd42_1, bd42_1,
    _, _, F43, PySem.W.mg_of X G a43, B43,
    _, _, fun_mk (st := s_near_rooms) l44 c44 k44, PySem.W.mg_of X G a44, (fun_mk (st := s_near_rooms) l44 c44 k44).binds fun _ _ _ _ _ _ us hl => match us, hl with | [_], _ => rfl,
    _, _, fun_mk (st := s_settled) l45 c45 k45, PySem.W.mg_of X G a45, (fun_mk (st := s_settled) l45 c45 k45).binds fun _ _ _ _ _ _ us hl => match us, hl with | [_], _ => rfl,
    _, _, fun_mk (st := s_bar) l46 c46 k46, PySem.W.mg_of X G a46, (fun_mk (st := s_bar) l46 c46 k46).binds fun _ _ _ _ _ _ us hl => match us, hl with | [_], _ => rfl,
    _, _, fun_mk (st := s_can_fill) l47 c47 k47, PySem.W.mg_of X G a47, (fun_mk (st := s_can_fill) l47 c47 k47).binds fun _ _ _ _ _ _ us hl => match us, hl with | [_], _ => rfl,
    _, _, fun_mk (st := s_fill) l48 c48 k48, PySem.W.mg_of X G a48, (fun_mk (st := s_fill) l48 c48 k48).binds fun _ _ _ _ _ _ us hl => match us, hl with | [_], _ => rfl,
    _, _, fun_mk (st := s_is_bar) l49 c49 k49, PySem.W.mg_of X G a49, (fun_mk (st := s_is_bar) l49 c49 k49).binds fun _ _ _ _ _ _ us hl => match us, hl with | [_, _], _ => rfl,
    _, _, fun_mk (st := s_may_be) l50 c50 k50, PySem.W.mg_of X G a50, (fun_mk (st := s_may_be) l50 c50 k50).binds fun _ _ _ _ _ _ us hl => match us, hl with | [_, _], _ => rfl,
    _, _, fun_mk (st := s_is_ring) l51 c51 k51, PySem.W.mg_of X G a51, (fun_mk (st := s_is_ring) l51 c51 k51).binds fun _ _ _ _ _ _ us hl => match us, hl with | [_, _], _ => rfl,
    _, _, fun_mk (st := s_need_ring) l52 c52 k52, PySem.W.mg_of X G a52, (fun_mk (st := s_need_ring) l52 c52 k52).binds fun _ _ _ _ _ _ us hl => match us, hl with | [_, _], _ => rfl,
    _, _, fun_mk (st := s_ring_count) l53 c53 k53, PySem.W.mg_of X G a53, (fun_mk (st := s_ring_count) l53 c53 k53).binds fun _ _ _ _ _ _ us hl => match us, hl with | [_, _], _ => rfl,
    _, _, fun_mk (st := s_joined) l54 c54 k54, PySem.W.mg_of X G a54, (fun_mk (st := s_joined) l54 c54 k54).binds fun _ _ _ _ _ _ us hl => match us, hl with | [_, _, _], _ => rfl,
    _, _, fun_mk (st := s_law_box) l55 c55 k55, PySem.W.mg_of X G a55, (fun_mk (st := s_law_box) l55 c55 k55).binds fun _ _ _ _ _ _ us hl => match us, hl with | [_], _ => rfl,
    _, _, fun_mk (st := s_law_mixed) l56 c56 k56, PySem.W.mg_of X G a56, (fun_mk (st := s_law_mixed) l56 c56 k56).binds fun _ _ _ _ _ _ us hl => match us, hl with | [_, _], _ => rfl,
    _, _, fun_mk (st := s_law_take) l57 c57 k57, PySem.W.mg_of X G a57, (fun_mk (st := s_law_take) l57 c57 k57).binds fun _ _ _ _ _ _ us hl => match us, hl with | [_, _], _ => rfl,
    _, _, fun_mk (st := s_law_clock) l58 c58 k58, PySem.W.mg_of X G a58, (fun_mk (st := s_law_clock) l58 c58 k58).binds fun _ _ _ _ _ _ us hl => match us, hl with | [_], _ => rfl,
    _, _, fun_mk (st := s_law_number) l59 c59 k59, PySem.W.mg_of X G a59, (fun_mk (st := s_law_number) l59 c59 k59).binds fun _ _ _ _ _ _ us hl => match us, hl with | [_], _ => rfl,
    _, _, fun_mk (st := s_law_square) l60 c60 k60, PySem.W.mg_of X G a60, (fun_mk (st := s_law_square) l60 c60 k60).binds fun _ _ _ _ _ _ us hl => match us, hl with | [_, _, _, _, _, _], _ => rfl,
    _, _, fun_mk (st := s_law_near_hour) l61 c61 k61, PySem.W.mg_of X G a61, (fun_mk (st := s_law_near_hour) l61 c61 k61).binds fun _ _ _ _ _ _ us hl => match us, hl with | [_, _], _ => rfl,
    _, _, fun_mk (st := s_law_chart) l62 c62 k62, PySem.W.mg_of X G a62, (fun_mk (st := s_law_chart) l62 c62 k62).binds fun _ _ _ _ _ _ us hl => match us, hl with | [_, _, _], _ => rfl,
    _, _, fun_mk (st := s_law_word) l63 c63 k63, PySem.W.mg_of X G a63, (fun_mk (st := s_law_word) l63 c63 k63).binds fun _ _ _ _ _ _ us hl => match us, hl with | [_], _ => rfl,
    _, _, fun_mk (st := s_law_kind) l64 c64 k64, PySem.W.mg_of X G a64, (fun_mk (st := s_law_kind) l64 c64 k64).binds fun _ _ _ _ _ _ us hl => match us, hl with | [_], _ => rfl,
    _, _, fun_mk (st := s_law_bent_chart) l65 c65 k65, PySem.W.mg_of X G a65, (fun_mk (st := s_law_bent_chart) l65 c65 k65).binds fun _ _ _ _ _ _ us hl => match us, hl with | [_, _], _ => rfl,
    _, _, fun_mk (st := s_law_is_chart) l66 c66 k66, PySem.W.mg_of X G a66, (fun_mk (st := s_law_is_chart) l66 c66 k66).binds fun _ _ _ _ _ _ us hl => match us, hl with | [_], _ => rfl,
    _, _, cO0, PO0, ⟨⟨_, _, _, _, _, _, _, _, rfl, l67, c67⟩, k67⟩, hB (cO0, PO0) (List.Mem.head _), PySem.W.mg_of X G a67, (fun_mk (st := s_law_doors_one) l67 c67 k67).binds fun _ _ _ _ _ _ us hl => match us, hl with | [_], _ => rfl,
    _, _, cO1, PO1, ⟨⟨_, _, _, _, _, _, _, _, rfl, l68, c68⟩, k68⟩, hB (cO1, PO1) (List.Mem.tail _ (List.Mem.head _)), PySem.W.mg_of X G a68, (fun_mk (st := s_law_doors_two) l68 c68 k68).binds fun _ _ _ _ _ _ us hl => match us, hl with | [_], _ => rfl,
    _, _, fun_mk (st := s_law) l69 c69 k69, PySem.W.mg_of X G a69, (fun_mk (st := s_law) l69 c69 k69).binds fun _ _ _ _ _ _ us hl => match us, hl with | [_], _ => rfl,
    t0, PySem.W.mg_of X G q0,
    t1, PySem.W.mg_of X G q1,
    t2, PySem.W.mg_of X G q2,
    t3, PySem.W.mg_of X G q3,
    O4, PySem.W.mg_of X G q4, fun _ => .inr ⟨_, _, _, qo4, rfl, rfl, (show 2 ≤ sizeLine by decide), (.cons ⟨_, rfl⟩ (.cons ⟨_, rfl⟩ .nil))⟩,
    t5, PySem.W.mg_of X G q5,
    t6, PySem.W.mg_of X G q6,
    t7, PySem.W.mg_of X G q7,
    PySem.W.mg_none_of X G z0,
    PySem.W.mg_none_of X G z1,
    PySem.W.mg_none_of X G z2,
    PySem.W.mg_none_of X G z3,
    PySem.W.mg_none_of X G z4,
    PySem.W.mg_none_of X G z5,
    PySem.W.mg_none_of X G z6,
    PySem.W.mg_none_of X G z7,
    PySem.W.mg_none_of X G z8,
    PySem.W.mg_none_of X G z9,
    PySem.W.mg_none_of X G z10,
    C0,
    C1,
    C2,
    C3,
    C4,
    C5,
    C6,
    C7,
    C8,
    C9,
    C10,
    C11,
    C12,
    C13,
    C14,
    C15,
    C16,
    C17,
    C18,
    ⟨PySem.W.mg_of X G ga0, gk0⟩,
    ⟨PySem.W.mg_of X G ga1, gk1⟩,
    ⟨PySem.W.mg_of X G ga2, gk2⟩,
    ⟨PySem.W.mg_of X G ga3, gk3⟩,
    ⟨PySem.W.mg_of X G ga4, gk4⟩,
    ⟨PySem.W.mg_of X G ga5, gk5⟩,
    ⟨PySem.W.mg_of X G ga6, gk6⟩,
    ⟨PySem.W.mg_of X G ga7, gk7⟩,
    ⟨PySem.W.mg_of X G ga8, gk8⟩,
    ⟨PySem.W.mg_of X G ga9, gk9⟩,
    ⟨PySem.W.mg_of X G ga10, gk10⟩,
    ⟨PySem.W.mg_of X G ga11, gk11⟩,
    ⟨PySem.W.mg_of X G ga12, gk12⟩,
    ⟨PySem.W.mg_of X G ga13, gk13⟩,
    ⟨PySem.W.mg_of X G ga14, gk14⟩,
    ⟨PySem.W.mg_of X G ga15, gk15⟩,
    ⟨PySem.W.mg_of X G ga16, gk16⟩,
    ⟨PySem.W.mg_of X G ga17, gk17⟩,
    ⟨PySem.W.mg_of X G ga18, gk18⟩,
    ⟨⟨PySem.W.mg_of X G ga3, gk3⟩, gx3, gs3, gt3⟩,
    ⟨ge3_1, ge3_2, gs3, ge3_3, ge3_4, ge3_5, ge3_6, ge3_7⟩,
    (.cons gq3_0 (.cons gq3_1 (.cons gq3_2 (.cons gq3_3 (.cons gq3_4 (.cons gq3_5 (.cons gq3_6 (.cons gq3_7 (.cons gq3_8 (.cons gq3_9 (.cons gq3_10 (.cons gq3_11 (.cons gq3_12 (.cons gq3_13 (.cons gq3_14 (.cons gq3_15 (.cons gq3_16 (.cons gq3_17 (.cons gq3_18 .nil))))))))))))))))))),
    PySem.W.exm_ref te1 te2 te3 gm3,
    ⟨⟨PySem.W.mg_of X G ga4, gk4⟩, gx4, gs4, gt4⟩,
    ⟨ge4_1, ge4_2, gs4, ge4_3, ge4_4, ge4_5, ge4_6, ge4_7⟩,
    (.cons gq4_0 (.cons gq4_1 (.cons gq4_2 (.cons gq4_3 (.cons gq4_4 (.cons gq4_5 (.cons gq4_6 (.cons gq4_7 (.cons gq4_8 (.cons gq4_9 (.cons gq4_10 (.cons gq4_11 (.cons gq4_12 (.cons gq4_13 (.cons gq4_14 (.cons gq4_15 (.cons gq4_16 (.cons gq4_17 (.cons gq4_18 .nil))))))))))))))))))),
    PySem.W.exm_ref te1 te2 te3 gm4,
    ⟨⟨PySem.W.mg_of X G ga5, gk5⟩, gx5, gs5, gt5⟩,
    ⟨ge5_1, ge5_2, gs5, ge5_3, ge5_4, ge5_5, ge5_6, ge5_7⟩,
    (.cons gq5_0 (.cons gq5_1 (.cons gq5_2 (.cons gq5_3 (.cons gq5_4 (.cons gq5_5 (.cons gq5_6 (.cons gq5_7 (.cons gq5_8 (.cons gq5_9 (.cons gq5_10 (.cons gq5_11 (.cons gq5_12 (.cons gq5_13 (.cons gq5_14 (.cons gq5_15 (.cons gq5_16 (.cons gq5_17 (.cons gq5_18 .nil))))))))))))))))))),
    PySem.W.exm_ref te1 te2 te3 gm5,
    ⟨⟨PySem.W.mg_of X G ga6, gk6⟩, gx6, gs6, gt6⟩,
    ⟨ge6_1, ge6_2, gs6, ge6_3, ge6_4, ge6_5, ge6_6, ge6_7⟩,
    (.cons gq6_0 (.cons gq6_1 (.cons gq6_2 (.cons gq6_3 (.cons gq6_4 (.cons gq6_5 (.cons gq6_6 (.cons gq6_7 (.cons gq6_8 (.cons gq6_9 (.cons gq6_10 (.cons gq6_11 (.cons gq6_12 (.cons gq6_13 (.cons gq6_14 (.cons gq6_15 (.cons gq6_16 (.cons gq6_17 (.cons gq6_18 .nil))))))))))))))))))),
    PySem.W.exm_ref te1 te2 te3 gm6,
    ⟨⟨PySem.W.mg_of X G ga7, gk7⟩, gx7, gs7, gt7⟩,
    ⟨ge7_1, ge7_2, gs7, ge7_3, ge7_4, ge7_5, ge7_6, ge7_7⟩,
    (.cons gq7_0 (.cons gq7_1 (.cons gq7_2 (.cons gq7_3 (.cons gq7_4 (.cons gq7_5 (.cons gq7_6 (.cons gq7_7 (.cons gq7_8 (.cons gq7_9 (.cons gq7_10 (.cons gq7_11 (.cons gq7_12 (.cons gq7_13 (.cons gq7_14 (.cons gq7_15 (.cons gq7_16 (.cons gq7_17 (.cons gq7_18 .nil))))))))))))))))))),
    PySem.W.exm_ref te1 te2 te3 gm7,
    ⟨⟨PySem.W.mg_of X G ga8, gk8⟩, gx8, gs8, gt8⟩,
    ⟨ge8_1, ge8_2, gs8, ge8_3, ge8_4, ge8_5, ge8_6, ge8_7⟩,
    (.cons gq8_0 (.cons gq8_1 (.cons gq8_2 (.cons gq8_3 (.cons gq8_4 (.cons gq8_5 (.cons gq8_6 (.cons gq8_7 (.cons gq8_8 (.cons gq8_9 (.cons gq8_10 (.cons gq8_11 (.cons gq8_12 (.cons gq8_13 (.cons gq8_14 (.cons gq8_15 (.cons gq8_16 (.cons gq8_17 (.cons gq8_18 .nil))))))))))))))))))),
    PySem.W.exm_ref te1 te2 te3 gm8,
    ⟨⟨PySem.W.mg_of X G ga9, gk9⟩, gx9, gs9, gt9⟩,
    ⟨ge9_1, ge9_2, gs9, ge9_3, ge9_4, ge9_5, ge9_6, ge9_7⟩,
    (.cons gq9_0 (.cons gq9_1 (.cons gq9_2 (.cons gq9_3 (.cons gq9_4 (.cons gq9_5 (.cons gq9_6 (.cons gq9_7 (.cons gq9_8 (.cons gq9_9 (.cons gq9_10 (.cons gq9_11 (.cons gq9_12 (.cons gq9_13 (.cons gq9_14 (.cons gq9_15 (.cons gq9_16 (.cons gq9_17 (.cons gq9_18 .nil))))))))))))))))))),
    PySem.W.exm_ref te1 te2 te3 gm9,
    ⟨ge17_1, ge17_2, gs17, ge17_3, ge17_4, ge17_5, ge17_6, ge17_7⟩,
    (.cons gq17_0 (.cons gq17_1 (.cons gq17_2 (.cons gq17_3 (.cons gq17_4 (.cons gq17_5 (.cons gq17_6 (.cons gq17_7 (.cons gq17_8 (.cons gq17_9 (.cons gq17_10 (.cons gq17_11 (.cons gq17_12 (.cons gq17_13 (.cons gq17_14 (.cons gq17_15 (.cons gq17_16 (.cons gq17_17 (.cons gq17_18 .nil))))))))))))))))))),
    PySem.W.exm_ref te1 te2 te3 gm17,
    If17,
    _,
    fun_mk (st := s_Knotted_init) Il17 Ic17 Ik17,
    (fun_mk (st := s_Knotted_init) Il17 Ic17 Ik17).binds fun _ _ _ _ _ _ us hl => match us, hl with | [_, _], _ => rfl,
    ⟨⟨Jn17, Jq17, JN17, Jb17, JB17, Js17, Ju17, Ja17, Jc17, Jd17, J017, J117, J217, J317, J517, Jl17, Jr17⟩, Js17a, gs17, gt17, gk17⟩,
    ⟨Jg17, Jh17, gs17, Jj17⟩,
    Ji17,
    Jt17,
    Jf17,
    PySem.W.exm_ref gs17 Jj17 gt17 Jm17,
    ⟨Kb17_1, Kb17_2, Kb17_3⟩,
    tnd⟩)⟩
  · exact .of_eq rfl
  · simp only [List.mem_cons, List.not_mem_nil, or_false] at hp
    rcases hp with e | e
    · rw [e]; exact hH (cO0, PO0) (List.Mem.head _)
    · rw [e]; exact hH (cO1, PO1) (List.Mem.tail _ (List.Mem.head _))
end C_k44
open PySem PySem.W PyProof.Rows
set_option maxHeartbeats 0 in
theorem PySem.Challenge.cw_cotide_k44_charts_refused_at_every_door_holds : PySem.Challenge.rw_cotide_k44_charts_refused_at_every_door.Holds := by
  w_on; o_law; k_head; (case hw => w_witness2)
  k_fill
  refine LamX.walk_ofTs (l := PySem.Challenge.rw_cotide_k44_charts_refused_at_every_door) (n := 63) (k := 14) (x := "_law_script") (CX := fun _ => L2.CX0) rfl (by decide) rfl ⟨rfl, by decide, by decide⟩ (fun w h Y => PySem.W.km_in_of Y) ?F (fun _ _ _ _ _ h => h)
  case F =>
    intro w mg fa h Y KX G hmg
    have hT := PySem.W.km_tabs_of Y
    refine' C_k44.all_mk KX G hmg ?a0 ?l0 ?c0 ?k0 ?a1 ?l1 ?c1 ?k1 ?a2 ?l2 ?c2 ?k2 ?a3 ?l3 ?c3 ?k3 ?a4 ?l4 ?c4 ?k4 ?a5 ?l5 ?c5 ?k5 ?a6 ?l6 ?c6 ?k6 ?a7 ?l7 ?c7 ?k7 ?a8 ?l8 ?c8 ?k8 ?a9 ?l9 ?c9 ?k9 ?a10 ?l10 ?c10 ?k10 ?a11 ?l11 ?c11 ?k11 ?a12 ?l12 ?c12 ?k12 ?a13 ?l13 ?c13 ?k13 ?a14 ?l14 ?c14 ?k14 ?a15 ?l15 ?c15 ?k15 ?a16 ?l16 ?c16 ?k16 ?a17 ?l17 ?c17 ?k17 ?a18 ?l18 ?c18 ?k18 ?a19 ?l19 ?c19 ?k19 ?a20 ?l20 ?c20 ?k20 ?a21 ?l21 ?c21 ?k21 ?a22 ?l22 ?c22 ?k22 ?a23 ?l23 ?c23 ?k23 ?a24 ?l24 ?c24 ?k24 ?a25 ?l25 ?c25 ?k25 ?a26 ?l26 ?c26 ?k26 ?a27 ?l27 ?c27 ?k27 ?a28 ?l28 ?c28 ?k28 ?a29 ?l29 ?c29 ?k29 ?a30 ?l30 ?c30 ?k30 ?a31 ?l31 ?c31 ?k31 ?a32 ?l32 ?c32 ?k32 ?a33 ?l33 ?c33 ?k33 ?a34 ?l34 ?c34 ?k34 ?a35 ?l35 ?c35 ?k35 ?a36 ?l36 ?c36 ?k36 ?a37 ?l37 ?c37 ?k37 ?a38 ?l38 ?c38 ?k38 ?a39 ?l39 ?c39 ?k39 ?a40 ?l40 ?c40 ?k40 ?a41 ?l41 ?c41 ?k41 ?a42 ?l42 ?c42 ?k42 ?dt42 ?a43 ?l43 ?c43 ?k43 ?dt43 ?a44 ?l44 ?c44 ?k44 ?a45 ?l45 ?c45 ?k45 ?a46 ?l46 ?c46 ?k46 ?a47 ?l47 ?c47 ?k47 ?a48 ?l48 ?c48 ?k48 ?a49 ?l49 ?c49 ?k49 ?a50 ?l50 ?c50 ?k50 ?a51 ?l51 ?c51 ?k51 ?a52 ?l52 ?c52 ?k52 ?a53 ?l53 ?c53 ?k53 ?a54 ?l54 ?c54 ?k54 ?a55 ?l55 ?c55 ?k55 ?a56 ?l56 ?c56 ?k56 ?a57 ?l57 ?c57 ?k57 ?a58 ?l58 ?c58 ?k58 ?a59 ?l59 ?c59 ?k59 ?a60 ?l60 ?c60 ?k60 ?a61 ?l61 ?c61 ?k61 ?a62 ?l62 ?c62 ?k62 ?a63 ?l63 ?c63 ?k63 ?a64 ?l64 ?c64 ?k64 ?a65 ?l65 ?c65 ?k65 ?a66 ?l66 ?c66 ?k66 ?a67 ?l67 ?c67 ?k67 ?a68 ?l68 ?c68 ?k68 ?a69 ?l69 ?c69 ?k69 ?q0 ?q1 ?q2 ?q3 ?q4 ?qo4 ?q5 ?q6 ?q7 ?z0 ?z1 ?z2 ?z3 ?z4 ?z5 ?z6 ?z7 ?z8 ?z9 ?z10 ?ga0 ?gk0 ?ga1 ?gk1 ?ga2 ?gk2 ?ga3 ?gk3 ?ga4 ?gk4 ?ga5 ?gk5 ?ga6 ?gk6 ?ga7 ?gk7 ?ga8 ?gk8 ?ga9 ?gk9 ?ga10 ?gk10 ?ga11 ?gk11 ?ga12 ?gk12 ?ga13 ?gk13 ?ga14 ?gk14 ?ga15 ?gk15 ?ga16 ?gk16 ?ga17 ?gk17 ?ga18 ?gk18 ?te1 ?te2 ?te3 ?gx3 ?gs3 ?gt3 ?gm3 ?ge3_1 ?ge3_2 ?ge3_3 ?ge3_4 ?ge3_5 ?ge3_6 ?ge3_7 ?gq3_0 ?gq3_1 ?gq3_2 ?gq3_3 ?gq3_4 ?gq3_5 ?gq3_6 ?gq3_7 ?gq3_8 ?gq3_9 ?gq3_10 ?gq3_11 ?gq3_12 ?gq3_13 ?gq3_14 ?gq3_15 ?gq3_16 ?gq3_17 ?gq3_18 ?gx4 ?gs4 ?gt4 ?gm4 ?ge4_1 ?ge4_2 ?ge4_3 ?ge4_4 ?ge4_5 ?ge4_6 ?ge4_7 ?gq4_0 ?gq4_1 ?gq4_2 ?gq4_3 ?gq4_4 ?gq4_5 ?gq4_6 ?gq4_7 ?gq4_8 ?gq4_9 ?gq4_10 ?gq4_11 ?gq4_12 ?gq4_13 ?gq4_14 ?gq4_15 ?gq4_16 ?gq4_17 ?gq4_18 ?gx5 ?gs5 ?gt5 ?gm5 ?ge5_1 ?ge5_2 ?ge5_3 ?ge5_4 ?ge5_5 ?ge5_6 ?ge5_7 ?gq5_0 ?gq5_1 ?gq5_2 ?gq5_3 ?gq5_4 ?gq5_5 ?gq5_6 ?gq5_7 ?gq5_8 ?gq5_9 ?gq5_10 ?gq5_11 ?gq5_12 ?gq5_13 ?gq5_14 ?gq5_15 ?gq5_16 ?gq5_17 ?gq5_18 ?gx6 ?gs6 ?gt6 ?gm6 ?ge6_1 ?ge6_2 ?ge6_3 ?ge6_4 ?ge6_5 ?ge6_6 ?ge6_7 ?gq6_0 ?gq6_1 ?gq6_2 ?gq6_3 ?gq6_4 ?gq6_5 ?gq6_6 ?gq6_7 ?gq6_8 ?gq6_9 ?gq6_10 ?gq6_11 ?gq6_12 ?gq6_13 ?gq6_14 ?gq6_15 ?gq6_16 ?gq6_17 ?gq6_18 ?gx7 ?gs7 ?gt7 ?gm7 ?ge7_1 ?ge7_2 ?ge7_3 ?ge7_4 ?ge7_5 ?ge7_6 ?ge7_7 ?gq7_0 ?gq7_1 ?gq7_2 ?gq7_3 ?gq7_4 ?gq7_5 ?gq7_6 ?gq7_7 ?gq7_8 ?gq7_9 ?gq7_10 ?gq7_11 ?gq7_12 ?gq7_13 ?gq7_14 ?gq7_15 ?gq7_16 ?gq7_17 ?gq7_18 ?gx8 ?gs8 ?gt8 ?gm8 ?ge8_1 ?ge8_2 ?ge8_3 ?ge8_4 ?ge8_5 ?ge8_6 ?ge8_7 ?gq8_0 ?gq8_1 ?gq8_2 ?gq8_3 ?gq8_4 ?gq8_5 ?gq8_6 ?gq8_7 ?gq8_8 ?gq8_9 ?gq8_10 ?gq8_11 ?gq8_12 ?gq8_13 ?gq8_14 ?gq8_15 ?gq8_16 ?gq8_17 ?gq8_18 ?gx9 ?gs9 ?gt9 ?gm9 ?ge9_1 ?ge9_2 ?ge9_3 ?ge9_4 ?ge9_5 ?ge9_6 ?ge9_7 ?gq9_0 ?gq9_1 ?gq9_2 ?gq9_3 ?gq9_4 ?gq9_5 ?gq9_6 ?gq9_7 ?gq9_8 ?gq9_9 ?gq9_10 ?gq9_11 ?gq9_12 ?gq9_13 ?gq9_14 ?gq9_15 ?gq9_16 ?gq9_17 ?gq9_18 ?gs17 ?gt17 ?gm17 ?ge17_1 ?ge17_2 ?ge17_3 ?ge17_4 ?ge17_5 ?ge17_6 ?ge17_7 ?gq17_0 ?gq17_1 ?gq17_2 ?gq17_3 ?gq17_4 ?gq17_5 ?gq17_6 ?gq17_7 ?gq17_8 ?gq17_9 ?gq17_10 ?gq17_11 ?gq17_12 ?gq17_13 ?gq17_14 ?gq17_15 ?gq17_16 ?gq17_17 ?gq17_18 ?Ji17 ?Il17 ?Ic17 ?Ik17 ?Jl17 ?Jr17 ?Js17a ?Jg17 ?Jh17 ?Jj17 ?Jt17 ?Jf17 ?Jm17 ?Kb17_1 ?Kb17_2 ?Kb17_3 (hT _ (List.mem_cons_of_mem _ List.mem_cons_self)) ?nT0 ?cH0 (hT _ List.mem_cons_self) ?nT1 ?cH1 ?tnd
    (case ga0 => k_is); (case ga1 => k_is); (case ga2 => k_is); (case ga3 => k_is); (case ga4 => k_is); (case ga5 => k_is); (case ga6 => k_is); (case ga7 => k_is); (case ga8 => k_is); (case ga9 => k_is); (case ga10 => k_is); (case ga11 => k_is); (case ga12 => k_is); (case ga13 => k_is); (case ga14 => k_is); (case ga15 => k_is); (case ga16 => k_is); (case ga17 => k_is); (case ga18 => k_is); (case a0 => k_is); (case l0 => k_is); (case c0 => k_is); (case k0 => k_is); (case a1 => k_is); (case l1 => k_is); (case c1 => k_is); (case k1 => k_is); (case a2 => k_is); (case l2 => k_is); (case c2 => k_is); (case k2 => k_is); (case a3 => k_is); (case l3 => k_is); (case c3 => k_is); (case k3 => k_is); (case a4 => k_is); (case l4 => k_is); (case c4 => k_is); (case k4 => k_is); (case a5 => k_is); (case l5 => k_is); (case c5 => k_is); (case k5 => k_is); (case a6 => k_is); (case l6 => k_is); (case c6 => k_is); (case k6 => k_is); (case a7 => k_is); (case l7 => k_is); (case c7 => k_is); (case k7 => k_is); (case a8 => k_is); (case l8 => k_is); (case c8 => k_is); (case k8 => k_is); (case a9 => k_is); (case l9 => k_is); (case c9 => k_is); (case k9 => k_is); (case a10 => k_is); (case l10 => k_is); (case c10 => k_is); (case k10 => k_is); (case a11 => k_is); (case l11 => k_is); (case c11 => k_is); (case k11 => k_is); (case a12 => k_is); (case l12 => k_is); (case c12 => k_is); (case k12 => k_is); (case a13 => k_is); (case l13 => k_is); (case c13 => k_is); (case k13 => k_is); (case a14 => k_is); (case l14 => k_is); (case c14 => k_is); (case k14 => k_is); (case a15 => k_is); (case l15 => k_is); (case c15 => k_is); (case k15 => k_is); (case a16 => k_is); (case l16 => k_is); (case c16 => k_is); (case k16 => k_is); (case a17 => k_is); (case l17 => k_is); (case c17 => k_is); (case k17 => k_is); (case a18 => k_is); (case l18 => k_is); (case c18 => k_is); (case k18 => k_is); (case a19 => k_is); (case l19 => k_is); (case c19 => k_is); (case k19 => k_is); (case a20 => k_is); (case l20 => k_is); (case c20 => k_is); (case k20 => k_is); (case a21 => k_is); (case l21 => k_is); (case c21 => k_is); (case k21 => k_is); (case a22 => k_is); (case l22 => k_is); (case c22 => k_is); (case k22 => k_is); (case a23 => k_is); (case l23 => k_is); (case c23 => k_is); (case k23 => k_is); (case a24 => k_is); (case l24 => k_is); (case c24 => k_is); (case k24 => k_is); (case a25 => k_is); (case l25 => k_is); (case c25 => k_is); (case k25 => k_is); (case a26 => k_is); (case l26 => k_is); (case c26 => k_is); (case k26 => k_is); (case a27 => k_is); (case l27 => k_is); (case c27 => k_is); (case k27 => k_is); (case a28 => k_is); (case l28 => k_is); (case c28 => k_is); (case k28 => k_is); (case a29 => k_is); (case l29 => k_is); (case c29 => k_is); (case k29 => k_is); (case a30 => k_is); (case l30 => k_is); (case c30 => k_is); (case k30 => k_is); (case a31 => k_is); (case l31 => k_is); (case c31 => k_is); (case k31 => k_is); (case a32 => k_is); (case l32 => k_is); (case c32 => k_is); (case k32 => k_is); (case a33 => k_is); (case l33 => k_is); (case c33 => k_is); (case k33 => k_is); (case a34 => k_is); (case l34 => k_is); (case c34 => k_is); (case k34 => k_is); (case a35 => k_is); (case l35 => k_is); (case c35 => k_is); (case k35 => k_is); (case a36 => k_is); (case l36 => k_is); (case c36 => k_is); (case k36 => k_is); (case a37 => k_is); (case l37 => k_is); (case c37 => k_is); (case k37 => k_is); (case a38 => k_is); (case l38 => k_is); (case c38 => k_is); (case k38 => k_is); (case a39 => k_is); (case l39 => k_is); (case c39 => k_is); (case k39 => k_is); (case a40 => k_is); (case l40 => k_is); (case c40 => k_is); (case k40 => k_is); (case a41 => k_is); (case l41 => k_is); (case c41 => k_is); (case k41 => k_is); (case a42 => k_is); (case l42 => k_is); (case c42 => k_is); (case k42 => k_is); (case dt42 => k_is); (case a43 => k_is); (case l43 => k_is); (case c43 => k_is); (case k43 => k_is); (case dt43 => k_is); (case a44 => k_is); (case l44 => k_is); (case c44 => k_is); (case k44 => k_is); (case a45 => k_is); (case l45 => k_is); (case c45 => k_is); (case k45 => k_is); (case a46 => k_is); (case l46 => k_is); (case c46 => k_is); (case k46 => k_is); (case a47 => k_is); (case l47 => k_is); (case c47 => k_is); (case k47 => k_is); (case a48 => k_is); (case l48 => k_is); (case c48 => k_is); (case k48 => k_is); (case a49 => k_is); (case l49 => k_is); (case c49 => k_is); (case k49 => k_is); (case a50 => k_is); (case l50 => k_is); (case c50 => k_is); (case k50 => k_is); (case a51 => k_is); (case l51 => k_is); (case c51 => k_is); (case k51 => k_is); (case a52 => k_is); (case l52 => k_is); (case c52 => k_is); (case k52 => k_is); (case a53 => k_is); (case l53 => k_is); (case c53 => k_is); (case k53 => k_is); (case a54 => k_is); (case l54 => k_is); (case c54 => k_is); (case k54 => k_is); (case a55 => k_is); (case l55 => k_is); (case c55 => k_is); (case k55 => k_is); (case a56 => k_is); (case l56 => k_is); (case c56 => k_is); (case k56 => k_is); (case a57 => k_is); (case l57 => k_is); (case c57 => k_is); (case k57 => k_is); (case a58 => k_is); (case l58 => k_is); (case c58 => k_is); (case k58 => k_is); (case a59 => k_is); (case l59 => k_is); (case c59 => k_is); (case k59 => k_is); (case a60 => k_is); (case l60 => k_is); (case c60 => k_is); (case k60 => k_is); (case a61 => k_is); (case l61 => k_is); (case c61 => k_is); (case k61 => k_is); (case a62 => k_is); (case l62 => k_is); (case c62 => k_is); (case k62 => k_is); (case a63 => k_is); (case l63 => k_is); (case c63 => k_is); (case k63 => k_is); (case a64 => k_is); (case l64 => k_is); (case c64 => k_is); (case k64 => k_is); (case a65 => k_is); (case l65 => k_is); (case c65 => k_is); (case k65 => k_is); (case a66 => k_is); (case l66 => k_is); (case c66 => k_is); (case k66 => k_is); (case a67 => k_is); (case l67 => k_is); (case c67 => k_is); (case k67 => k_is); (case a68 => k_is); (case l68 => k_is); (case c68 => k_is); (case k68 => k_is); (case a69 => k_is); (case l69 => k_is); (case c69 => k_is); (case k69 => k_is); (case q0 => k_is); (case q1 => k_is); (case q2 => k_is); (case q3 => k_is); (case q4 => k_is); (case qo4 => k_is); (case q5 => k_is); (case q6 => k_is); (case q7 => k_is); (case z0 => k_is); (case z1 => k_is); (case z2 => k_is); (case z3 => k_is); (case z4 => k_is); (case z5 => k_is); (case z6 => k_is); (case z7 => k_is); (case z8 => k_is); (case z9 => k_is); (case z10 => k_is); (case gk0 => k_is); (case gk1 => k_is); (case gk2 => k_is); (case gk3 => k_is); (case gk4 => k_is); (case gk5 => k_is); (case gk6 => k_is); (case gk7 => k_is); (case gk8 => k_is); (case gk9 => k_is); (case gk10 => k_is); (case gk11 => k_is); (case gk12 => k_is); (case gk13 => k_is); (case gk14 => k_is); (case gk15 => k_is); (case gk16 => k_is); (case gk17 => k_is); (case gk18 => k_is); (case te1 => k_is); (case te2 => k_is); (case te3 => k_is); (case gx3 => k_exc); (case gs3 => k_is); (case gt3 => k_is); (case gm3 => k_is); (case ge3_1 => k_is); (case ge3_2 => k_is); (case ge3_3 => k_is); (case ge3_4 => k_is); (case ge3_5 => k_is); (case ge3_6 => k_is); (case ge3_7 => k_is); (case gq3_0 => kit_is); (case gq3_1 => kit_is); (case gq3_2 => kit_is); (case gq3_3 => kit_is); (case gq3_4 => kit_is); (case gq3_5 => kit_is); (case gq3_6 => kit_is); (case gq3_7 => kit_is); (case gq3_8 => kit_is); (case gq3_9 => kit_is); (case gq3_10 => kit_is); (case gq3_11 => kit_is); (case gq3_12 => kit_is); (case gq3_13 => kit_is); (case gq3_14 => kit_is); (case gq3_15 => kit_is); (case gq3_16 => kit_is); (case gq3_17 => kit_is); (case gq3_18 => kit_is); (case gx4 => k_exc); (case gs4 => k_is); (case gt4 => k_is); (case gm4 => k_is); (case ge4_1 => k_is); (case ge4_2 => k_is); (case ge4_3 => k_is); (case ge4_4 => k_is); (case ge4_5 => k_is); (case ge4_6 => k_is); (case ge4_7 => k_is); (case gq4_0 => kit_is); (case gq4_1 => kit_is); (case gq4_2 => kit_is); (case gq4_3 => kit_is); (case gq4_4 => kit_is); (case gq4_5 => kit_is); (case gq4_6 => kit_is); (case gq4_7 => kit_is); (case gq4_8 => kit_is); (case gq4_9 => kit_is); (case gq4_10 => kit_is); (case gq4_11 => kit_is); (case gq4_12 => kit_is); (case gq4_13 => kit_is); (case gq4_14 => kit_is); (case gq4_15 => kit_is); (case gq4_16 => kit_is); (case gq4_17 => kit_is); (case gq4_18 => kit_is); (case gx5 => k_exc); (case gs5 => k_is); (case gt5 => k_is); (case gm5 => k_is); (case ge5_1 => k_is); (case ge5_2 => k_is); (case ge5_3 => k_is); (case ge5_4 => k_is); (case ge5_5 => k_is); (case ge5_6 => k_is); (case ge5_7 => k_is); (case gq5_0 => kit_is); (case gq5_1 => kit_is); (case gq5_2 => kit_is); (case gq5_3 => kit_is); (case gq5_4 => kit_is); (case gq5_5 => kit_is); (case gq5_6 => kit_is); (case gq5_7 => kit_is); (case gq5_8 => kit_is); (case gq5_9 => kit_is); (case gq5_10 => kit_is); (case gq5_11 => kit_is); (case gq5_12 => kit_is); (case gq5_13 => kit_is); (case gq5_14 => kit_is); (case gq5_15 => kit_is); (case gq5_16 => kit_is); (case gq5_17 => kit_is); (case gq5_18 => kit_is); (case gx6 => k_exc); (case gs6 => k_is); (case gt6 => k_is); (case gm6 => k_is); (case ge6_1 => k_is); (case ge6_2 => k_is); (case ge6_3 => k_is); (case ge6_4 => k_is); (case ge6_5 => k_is); (case ge6_6 => k_is); (case ge6_7 => k_is); (case gq6_0 => kit_is); (case gq6_1 => kit_is); (case gq6_2 => kit_is); (case gq6_3 => kit_is); (case gq6_4 => kit_is); (case gq6_5 => kit_is); (case gq6_6 => kit_is); (case gq6_7 => kit_is); (case gq6_8 => kit_is); (case gq6_9 => kit_is); (case gq6_10 => kit_is); (case gq6_11 => kit_is); (case gq6_12 => kit_is); (case gq6_13 => kit_is); (case gq6_14 => kit_is); (case gq6_15 => kit_is); (case gq6_16 => kit_is); (case gq6_17 => kit_is); (case gq6_18 => kit_is); (case gx7 => k_exc); (case gs7 => k_is); (case gt7 => k_is); (case gm7 => k_is); (case ge7_1 => k_is); (case ge7_2 => k_is); (case ge7_3 => k_is); (case ge7_4 => k_is); (case ge7_5 => k_is); (case ge7_6 => k_is); (case ge7_7 => k_is); (case gq7_0 => kit_is); (case gq7_1 => kit_is); (case gq7_2 => kit_is); (case gq7_3 => kit_is); (case gq7_4 => kit_is); (case gq7_5 => kit_is); (case gq7_6 => kit_is); (case gq7_7 => kit_is); (case gq7_8 => kit_is); (case gq7_9 => kit_is); (case gq7_10 => kit_is); (case gq7_11 => kit_is); (case gq7_12 => kit_is); (case gq7_13 => kit_is); (case gq7_14 => kit_is); (case gq7_15 => kit_is); (case gq7_16 => kit_is); (case gq7_17 => kit_is); (case gq7_18 => kit_is); (case gx8 => k_exc); (case gs8 => k_is); (case gt8 => k_is); (case gm8 => k_is); (case ge8_1 => k_is); (case ge8_2 => k_is); (case ge8_3 => k_is); (case ge8_4 => k_is); (case ge8_5 => k_is); (case ge8_6 => k_is); (case ge8_7 => k_is); (case gq8_0 => kit_is); (case gq8_1 => kit_is); (case gq8_2 => kit_is); (case gq8_3 => kit_is); (case gq8_4 => kit_is); (case gq8_5 => kit_is); (case gq8_6 => kit_is); (case gq8_7 => kit_is); (case gq8_8 => kit_is); (case gq8_9 => kit_is); (case gq8_10 => kit_is); (case gq8_11 => kit_is); (case gq8_12 => kit_is); (case gq8_13 => kit_is); (case gq8_14 => kit_is); (case gq8_15 => kit_is); (case gq8_16 => kit_is); (case gq8_17 => kit_is); (case gq8_18 => kit_is); (case gx9 => k_exc); (case gs9 => k_is); (case gt9 => k_is); (case gm9 => k_is); (case ge9_1 => k_is); (case ge9_2 => k_is); (case ge9_3 => k_is); (case ge9_4 => k_is); (case ge9_5 => k_is); (case ge9_6 => k_is); (case ge9_7 => k_is); (case gq9_0 => kit_is); (case gq9_1 => kit_is); (case gq9_2 => kit_is); (case gq9_3 => kit_is); (case gq9_4 => kit_is); (case gq9_5 => kit_is); (case gq9_6 => kit_is); (case gq9_7 => kit_is); (case gq9_8 => kit_is); (case gq9_9 => kit_is); (case gq9_10 => kit_is); (case gq9_11 => kit_is); (case gq9_12 => kit_is); (case gq9_13 => kit_is); (case gq9_14 => kit_is); (case gq9_15 => kit_is); (case gq9_16 => kit_is); (case gq9_17 => kit_is); (case gq9_18 => kit_is); (case gs17 => k_is); (case gt17 => k_is); (case gm17 => k_is); (case ge17_1 => k_is); (case ge17_2 => k_is); (case ge17_3 => k_is); (case ge17_4 => k_is); (case ge17_5 => k_is); (case ge17_6 => k_is); (case ge17_7 => k_is); (case gq17_0 => kit_is); (case gq17_1 => kit_is); (case gq17_2 => kit_is); (case gq17_3 => kit_is); (case gq17_4 => kit_is); (case gq17_5 => kit_is); (case gq17_6 => kit_is); (case gq17_7 => kit_is); (case gq17_8 => kit_is); (case gq17_9 => kit_is); (case gq17_10 => kit_is); (case gq17_11 => kit_is); (case gq17_12 => kit_is); (case gq17_13 => kit_is); (case gq17_14 => kit_is); (case gq17_15 => kit_is); (case gq17_16 => kit_is); (case gq17_17 => kit_is); (case gq17_18 => kit_is); (case Ji17 => k_is); (case Il17 => k_is); (case Ic17 => k_is); (case Ik17 => k_is); (case Jl17 => k_is); (case Jr17 => decide +kernel); (case Js17a => k_is); (case Jg17 => k_is); (case Jh17 => k_is); (case Jj17 => k_is); (case Jt17 => k_is); (case Jf17 => k_is); (case Jm17 => k_is); (case Kb17_1 => k_is); (case Kb17_2 => k_is); (case Kb17_3 => k_is); (case nT0 => kernel_rfl); (case cH0 => kernel_rfl); (case nT1 => kernel_rfl); (case cH1 => kernel_rfl); (case tnd => decide)
