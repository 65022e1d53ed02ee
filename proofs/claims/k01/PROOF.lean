import PyProof.Rows.All
import Wide.All
import OpenK.AllK
import Wide.FinOn
import HandS.ForMost
import HandS.Flow
import HandS.IsInst
import HandS.More
import HandS.Style
import HandS.Wide
import HandS.WideBits
import HandS.Zip
import HandS.EndBits
import HandS.Star
import PySem.Challenge.RW_chainsum_k01_chains_and_fractions
set_option Elab.async false
set_option linter.all false
set_option maxRecDepth 100000
set_option maxHeartbeats 4000000
namespace Dn
open PySem L2

/-! ### heaps -/
theorem ex_refl (H : Hp) : Same H H := fun _ _ h => h
theorem ex_new {H : Hp} {p : Addr} {o : HO} (h : H p = none) : Same H (upd H p o) := fun a u e => by
  rw [upd_ne (ne_of_none e h)]
  exact e
theorem sqt_ex {K : PySem.W.Frag} {H H' : Hp} {a : Addr} {xs : List V} (e : Same H H') (h : SqT K H a xs) : SqT K H' a xs := by
  rcases h with (h | ⟨o, h⟩) | h
  · exact .inl (.inl (e _ _ h))
  · exact .inl (.inr ⟨o, e _ _ h⟩)
  · exact .inr h

/-! ### data as it stands in the heap (a list that is tracked or locked) -/
mutual
inductive Dq (K : PySem.W.Frag) (H : Hp) : V → PyData → Prop
  | non : Dq K H .non .none
  | bl (b : Bool) : Dq K H (.bl b) (.bool b)
  | int (i : Int) : Dq K H (.int i) (.int i)
  | str (x : Str) : Dq K H (.str x) (.str x)
  | lst {a : Addr} {xs : List V} {ds : List PyData} : SqL K H a xs → DqAll K H xs ds → Dq K H (.ref a) (.list ds)
  | tup {a : Addr} {xs : List V} {ds : List PyData} : SqT K H a xs → DqAll K H xs ds → Dq K H (.ref a) (.tuple ds)
inductive DqAll (K : PySem.W.Frag) (H : Hp) : List V → List PyData → Prop
  | nil : DqAll K H [] []
  | cons {v : V} {vs : List V} {d : PyData} {ds : List PyData} : Dq K H v d → DqAll K H vs ds → DqAll K H (v :: vs) (d :: ds)
end
mutual
theorem dq_dp {K : PySem.W.Frag} {H : Hp} : ∀ (d : PyData) (v : V), Dq K H v d → Dp K H v d
  | .none, _, h => by cases h; exact .non
  | .bool b, _, h => by cases h; exact .bl b
  | .int i, _, h => by cases h; exact .int i
  | .str x, _, h => by cases h; exact .str x
  | .list ds, _, h => by
    cases h with
    | lst hs ha => exact .lst hs (dqa_dpa ds _ ha)
  | .tuple ds, _, h => by
    cases h with
    | tup hs ha => exact .tup hs (dqa_dpa ds _ ha)
  | .dict _, _, h => by cases h
theorem dqa_dpa {K : PySem.W.Frag} {H : Hp} : ∀ (ds : List PyData) (vs : List V), DqAll K H vs ds → DpAll K H vs ds
  | [], _, h => by cases h; exact .nil
  | d :: ds, _, h => by
    cases h with
    | cons h1 h2 => exact .cons (dq_dp d _ h1) (dqa_dpa ds _ h2)
end
mutual
theorem dp_ex {K : PySem.W.Frag} {H H' : Hp} (e : Same H H') : ∀ (d : PyData) (v : V), Dq K H v d → Dq K H' v d
  | .none, _, h => by cases h; exact .non
  | .bool b, _, h => by cases h; exact .bl b
  | .int i, _, h => by cases h; exact .int i
  | .str x, _, h => by cases h; exact .str x
  | .list ds, _, h => by
    cases h with
    | lst hs ha => exact .lst (e.seq hs) (dpa_ex e ds _ ha)
  | .tuple ds, _, h => by
    cases h with
    | tup hs ha => exact .tup (sqt_ex e hs) (dpa_ex e ds _ ha)
  | .dict _, _, h => by cases h
theorem dpa_ex {K : PySem.W.Frag} {H H' : Hp} (e : Same H H') : ∀ (ds : List PyData) (vs : List V), DqAll K H vs ds → DqAll K H' vs ds
  | [], _, h => by cases h; exact .nil
  | d :: ds, _, h => by
    cases h with
    | cons h1 h2 => exact .cons (dp_ex e d _ h1) (dpa_ex e ds _ h2)
end
theorem dpa_len {K : PySem.W.Frag} {H : Hp} : ∀ {vs : List V} {ds : List PyData}, DqAll K H vs ds → vs.length = ds.length
  | _, _, .nil => rfl
  | _, _, .cons _ h => congrArg (· + 1) (dpa_len h)
theorem dpa_get {K : PySem.W.Frag} {H : Hp} : ∀ {vs : List V} {ds : List PyData} {i : Nat} {d : PyData}, DqAll K H vs ds → ds[i]? = some d → ∃ v, vs[i]? = some v ∧ Dq K H v d
  | _, _, 0, d, .cons h _, e => ⟨_, rfl, by cases e; exact h⟩
  | _, _, i + 1, d, .cons _ h, e => dpa_get (i := i) h e
theorem dpa_get' {K : PySem.W.Frag} {H : Hp} : ∀ {vs : List V} {ds : List PyData} {i : Nat} {v : V}, DqAll K H vs ds → vs[i]? = some v → ∃ d, ds[i]? = some d ∧ Dq K H v d
  | _, _, 0, d, .cons h _, e => ⟨_, rfl, by cases e; exact h⟩
  | _, _, i + 1, d, .cons _ h, e => dpa_get' (i := i) h e
theorem dpa_app {K : PySem.W.Frag} {H : Hp} : ∀ {vs ws : List V} {ds es : List PyData}, DqAll K H vs ds → DqAll K H ws es → DqAll K H (vs ++ ws) (ds ++ es)
  | _, _, _, _, .nil, h => h
  | _, _, _, _, .cons a b, h => .cons a (dpa_app b h)
theorem dpa_take {K : PySem.W.Frag} {H : Hp} : ∀ {vs : List V} {ds : List PyData} (n : Nat), DqAll K H vs ds → DqAll K H (vs.take n) (ds.take n)
  | _, _, 0, _ => .nil
  | _, _, _ + 1, .nil => .nil
  | _, _, n + 1, .cons a b => .cons a (dpa_take n b)
theorem dpa_drop {K : PySem.W.Frag} {H : Hp} : ∀ {vs : List V} {ds : List PyData} (n : Nat), DqAll K H vs ds → DqAll K H (vs.drop n) (ds.drop n)
  | _, _, 0, h => h
  | _, _, _ + 1, .nil => .nil
  | _, _, n + 1, .cons a b => dpa_drop n b
theorem dpa_set {K : PySem.W.Frag} {H : Hp} {v : V} {d : PyData} (h : Dq K H v d) : ∀ {vs : List V} {ds : List PyData} (n : Nat), DqAll K H vs ds → DqAll K H (vs.set n v) (ds.set n d)
  | _, _, _, .nil => .nil
  | _, _, 0, .cons _ b => .cons h b
  | _, _, n + 1, .cons a b => .cons a (dpa_set h n b)
theorem dpa_rev {K : PySem.W.Frag} {H : Hp} : ∀ {vs : List V} {ds : List PyData}, DqAll K H vs ds → DqAll K H vs.reverse ds.reverse
  | _, _, .nil => .nil
  | _, _, .cons a b => by
    rw [List.reverse_cons, List.reverse_cons]
    exact dpa_app (dpa_rev b) (.cons a .nil)
/-- ints need no heap -/
theorem dp_int {K : PySem.W.Frag} {H H' : Hp} {v : V} {i : Int} (h : Dq K H v (.int i)) : Dq K H' v (.int i) := by cases h; exact .int i
theorem dpa_ints {K : PySem.W.Frag} {H : Hp} (H' : Hp) : ∀ {vs : List V} {is : List Int}, DqAll K H vs (is.map .int) → DqAll K H' vs (is.map .int)
  | _, [], .nil => .nil
  | _, _ :: _, .cons a b => .cons (dp_int a) (dpa_ints H' b)
theorem dpa_of_ints {K : PySem.W.Frag} (H : Hp) : ∀ (is : List Int), DqAll K H (is.map V.int) (is.map .int)
  | [] => .nil
  | i :: is => .cons (.int i) (dpa_of_ints H is)
theorem ints_of_dpa {K : PySem.W.Frag} {H : Hp} : ∀ {vs : List V} {is : List Int}, DqAll K H vs (is.map .int) → vs = is.map V.int
  | _, [], .nil => rfl
  | _, _ :: _, .cons a b => by
    cases a
    rw [ints_of_dpa b]
    rfl

/-! ### worlds: A the caller's heap, F what is new and stands still, H all -/
structure Wo (A F H : Hp) : Prop where
  exA : Same A H
  exF : Same F H
  dj : ∀ b o, A b = some o → F b = none
def Stab (A F : Hp) : Hp := fun b => match F b with
  | some o => some o
  | none => A b
theorem stab_F {A F : Hp} : Same F (Stab A F) := fun b o h => by unfold Stab; rw [h]
theorem stab_A {A F : Hp} (dj : ∀ b o, A b = some o → F b = none) : Same A (Stab A F) := fun b o h => by
  unfold Stab
  rw [dj b o h]
  exact h
theorem stab_H {A F H : Hp} (w : Wo A F H) : Same (Stab A F) H := fun b o h => by
  unfold Stab at h
  cases e : F b with
  | some u =>
    rw [e] at h
    cases h
    exact w.exF b _ e
  | none =>
    rw [e] at h
    exact w.exA b o h
structure Stp (F H F' H' : Hp) : Prop where
  f : Same F F'
  h : Same H H'
  fh : Same F' H'
  nw : ∀ b o, H b = some o → F b = none → F' b = none
theorem Stp.refl {F H : Hp} (h : Same F H) : Stp F H F H := ⟨ex_refl F, ex_refl H, h, fun _ _ _ e => e⟩
theorem Stp.trans {F H F1 H1 F2 H2 : Hp} (a : Stp F H F1 H1) (b : Stp F1 H1 F2 H2) : Stp F H F2 H2 :=
  ⟨a.f.trans b.f, a.h.trans b.h, b.fh, fun x o e n => b.nw x o (a.h x o e) (a.nw x o e n)⟩
theorem Wo.step {A F H F' H' : Hp} (w : Wo A F H) (s : Stp F H F' H') : Wo A F' H' :=
  ⟨w.exA.trans s.h, s.fh, fun b o e => s.nw b o (w.exA b o e) (w.dj b o e)⟩
theorem stab_mono {A F H F' H' : Hp} (w : Wo A F H) (s : Stp F H F' H') : Same (Stab A F) (Stab A F') := fun b o h => by
  unfold Stab at h ⊢
  cases e : F b with
  | some u =>
    rw [e] at h
    cases h
    rw [s.f b _ e]
  | none =>
    rw [e] at h
    rw [s.nw b o (w.exA b o h) e]
    exact h
/-- a new object that stands still -/
theorem Stp.new {F H : Hp} (e : Same F H) {p : Addr} {o : HO} (hp : H p = none) : Stp F H (upd F p o) (upd H p o) := by
  have fp : F p = none := e.free hp
  refine ⟨ex_new fp, ex_new hp, fun b u h => ?_, fun b u h n => ?_⟩
  · by_cases hb : b = p
    · subst hb
      rw [upd_same] at h ⊢
      exact h
    · rw [upd_ne hb] at h ⊢
      exact e b u h
  · rw [upd_ne (ne_of_none h hp)]
    exact n
/-- a new object of one's own -/
theorem Stp.ownNew {F H : Hp} (e : Same F H) {p : Addr} {o : HO} (hp : H p = none) : Stp F H F (upd H p o) := ⟨ex_refl F, ex_new hp, e.trans (ex_new hp), fun _ _ _ n => n⟩
theorem Stp.freeze {F H F' H' : Hp} (s : Stp F H F' H') {p : Addr} {o : HO} (hp : H p = none) (fp : F' p = none) (h : H' p = some o) : Stp F H (upd F' p o) H' := by
  refine ⟨s.f.trans (ex_new fp), s.h, fun b u e => ?_, fun b u e n => ?_⟩
  · by_cases hb : b = p
    · subst hb
      rw [upd_same] at e
      rw [h]
      exact e
    · rw [upd_ne hb] at e
      exact s.fh b u e
  · rw [upd_ne (ne_of_none e hp)]
    exact s.nw b u e n

/-- fresh, stable, as it stands -/
inductive Kd where
  | fr
  | st
  | vw
deriving DecidableEq
def selH (k : Kd) (A F H : Hp) : Hp := match k with
  | .fr => F
  | .st => Stab A F
  | .vw => H
theorem sel_mono {k : Kd} {A F H F' H' : Hp} (w : Wo A F H) (s : Stp F H F' H') : Same (selH k A F H) (selH k A F' H') := by
  cases k with
  | fr => exact s.f
  | st => exact stab_mono w s
  | vw => exact s.h
theorem sel_H {k : Kd} {A F H : Hp} (w : Wo A F H) : Same (selH k A F H) H := by
  cases k with
  | fr => exact w.exF
  | st => exact stab_H w
  | vw => exact ex_refl H
theorem fr_sel {k : Kd} {A F H : Hp} (w : Wo A F H) : Same F (selH k A F H) := by
  cases k with
  | fr => exact ex_refl F
  | st => exact stab_F
  | vw => exact w.exF

/-! ### slots -/
inductive SD where
  | unk
  | dat (d : PyData)
  | arg (d : PyData)
  | own (ds : List PyData)
def SR (K : PySem.W.Frag) (A F H : Hp) (o : Option V) : SD → Prop
  | .unk => True
  | .dat d => ∃ v, o = some v ∧ Dq K F v d
  | .arg d => ∃ v, o = some v ∧ Dq K (Stab A F) v d
  | .own ds => ∃ p vs, o = some (.ref p) ∧ A p = none ∧ F p = none ∧ H p = some (.lst vs) ∧ DqAll K F vs ds
structure Sl (K : PySem.W.Frag) (A F H : Hp) (σ : St) (ds : List SD) : Prop where
  w : Wo A F H
  len : σ.length = ds.length
  at_ : ∀ (i : Nat) (d : SD), ds[i]? = some d → ∃ o, σ[i]? = some o ∧ SR K A F H o d
  one : ∀ (i j : Nat) (p : Addr) (a b : List PyData), ds[i]? = some (.own a) → ds[j]? = some (.own b) → σ[i]? = some (some (.ref p)) → σ[j]? = some (some (.ref p)) → i = j
theorem SR.step {K : PySem.W.Frag} {A F H F' H' : Hp} {o : Option V} {d : SD} (w : Wo A F H) (s : Stp F H F' H') (h : SR K A F H o d) : SR K A F' H' o d := by
  cases d with
  | unk => trivial
  | dat d =>
    obtain ⟨v, e, h⟩ := h
    exact ⟨v, e, dp_ex s.f d v h⟩
  | arg d =>
    obtain ⟨v, e, h⟩ := h
    exact ⟨v, e, dp_ex (stab_mono w s) d v h⟩
  | own ds =>
    obtain ⟨p, vs, e, hA, hF, hH, h⟩ := h
    exact ⟨p, vs, e, hA, s.nw p _ hH hF, s.h p _ hH, dpa_ex s.f ds vs h⟩
theorem Sl.step {K : PySem.W.Frag} {A F H F' H' : Hp} {σ : St} {ds : List SD} (x : Sl K A F H σ ds) (s : Stp F H F' H') : Sl K A F' H' σ ds :=
  ⟨x.w.step s, x.len, fun i d e => let ⟨o, e1, h⟩ := x.at_ i d e; ⟨o, e1, h.step x.w s⟩, x.one⟩
/-- a slot is stored: not an own list -/
theorem Sl.put {K : PySem.W.Frag} {A F H : Hp} {σ : St} {ds : List SD} (x : Sl K A F H σ ds) {i : Nat} {v : V} {d : SD} (hd : ∀ a, d ≠ .own a) (h : SR K A F H (some v) d) : Sl K A F H (σ.set i (some v)) (ds.set i d) := by
  refine ⟨x.w, by rw [List.length_set, List.length_set]; exact x.len, fun j e hj => ?_, fun j l p a b hj hl hp hq => ?_⟩
  · by_cases hij : i = j
    · subst hij
      have hlt : i < ds.length := by
        have := (List.getElem?_eq_some_iff.mp hj).1
        rwa [List.length_set] at this
      rw [List.getElem?_set_self hlt] at hj
      cases hj
      exact ⟨some v, List.getElem?_set_self (by rw [x.len]; exact hlt), h⟩
    · rw [List.getElem?_set_ne hij] at hj
      obtain ⟨o, e1, h1⟩ := x.at_ j e hj
      exact ⟨o, by rw [List.getElem?_set_ne hij]; exact e1, h1⟩
  · have n1 : i ≠ j := fun z => by
      subst z
      have hlt : i < ds.length := by
        have := (List.getElem?_eq_some_iff.mp hj).1
        rwa [List.length_set] at this
      rw [List.getElem?_set_self hlt] at hj
      cases hj
      exact hd _ rfl
    have n2 : i ≠ l := fun z => by
      subst z
      have hlt : i < ds.length := by
        have := (List.getElem?_eq_some_iff.mp hl).1
        rwa [List.length_set] at this
      rw [List.getElem?_set_self hlt] at hl
      cases hl
      exact hd _ rfl
    rw [List.getElem?_set_ne n1] at hj hp
    rw [List.getElem?_set_ne n2] at hl hq
    exact x.one j l p a b hj hl hp hq
/-- a slot is stored: an own list at an address that no other own list has -/
theorem Sl.putOwn {K : PySem.W.Frag} {A F H : Hp} {σ : St} {ds : List SD} (x : Sl K A F H σ ds) {i : Nat} {p : Addr} {xs : List PyData} (hn : ∀ (j : Nat) (a : List PyData), i ≠ j → ds[j]? = some (.own a) → σ[j]? ≠ some (some (.ref p))) (h : SR K A F H (some (.ref p)) (.own xs)) :
    Sl K A F H (σ.set i (some (.ref p))) (ds.set i (.own xs)) := by
  refine ⟨x.w, by rw [List.length_set, List.length_set]; exact x.len, fun j e hj => ?_, fun j l q a b hj hl hp hq => ?_⟩
  · by_cases hij : i = j
    · subst hij
      have hlt : i < ds.length := by
        have := (List.getElem?_eq_some_iff.mp hj).1
        rwa [List.length_set] at this
      rw [List.getElem?_set_self hlt] at hj
      cases hj
      exact ⟨some (.ref p), List.getElem?_set_self (by rw [x.len]; exact hlt), h⟩
    · rw [List.getElem?_set_ne hij] at hj
      obtain ⟨o, e1, h1⟩ := x.at_ j e hj
      exact ⟨o, by rw [List.getElem?_set_ne hij]; exact e1, h1⟩
  · by_cases h1 : i = j
    · by_cases h2 : i = l
      · rw [← h1, ← h2]
      · exfalso
        subst h1
        have hlt : i < ds.length := by
          have := (List.getElem?_eq_some_iff.mp hj).1
          rwa [List.length_set] at this
        rw [List.getElem?_set_self (by rw [x.len]; exact hlt)] at hp
        cases hp
        rw [List.getElem?_set_ne h2] at hl hq
        exact hn l b h2 hl hq
    · by_cases h2 : i = l
      · exfalso
        subst h2
        have hlt : i < ds.length := by
          have := (List.getElem?_eq_some_iff.mp hl).1
          rwa [List.length_set] at this
        rw [List.getElem?_set_self (by rw [x.len]; exact hlt)] at hq
        cases hq
        rw [List.getElem?_set_ne h1] at hj hp
        exact hn j a h1 hj hp
      · rw [List.getElem?_set_ne h1] at hj hp
        rw [List.getElem?_set_ne h2] at hl hq
        exact x.one j l q a b hj hl hp hq
/-- less is known -/
theorem Sl.weak {K : PySem.W.Frag} {A F H : Hp} {σ : St} {ds es : List SD} (x : Sl K A F H σ ds) (hl : es.length = ds.length) (h : ∀ (i : Nat) d e, ds[i]? = some d → es[i]? = some e → e = d ∨ e = .unk ∨ ∃ y, d = .dat y ∧ e = .arg y) : Sl K A F H σ es := by
  have same : ∀ (i : Nat) a, es[i]? = some (.own a) → ds[i]? = some (.own a) := fun i a e => by
    have hlt : i < ds.length := by
      have := (List.getElem?_eq_some_iff.mp e).1
      omega
    have q := h i ds[i] _ (List.getElem?_eq_getElem hlt) e
    rw [List.getElem?_eq_getElem hlt]
    rcases q with q | q | ⟨y, _, q⟩
    · rw [q]
    · cases q
    · cases q
  refine ⟨x.w, x.len.trans hl.symm, fun i e hi => ?_, fun i j p a b h1 h2 => x.one i j p a b (same i a h1) (same j b h2)⟩
  have hlt : i < ds.length := by
    have := (List.getElem?_eq_some_iff.mp hi).1
    omega
  obtain ⟨o, e1, q1⟩ := x.at_ i ds[i] (List.getElem?_eq_getElem hlt)
  refine ⟨o, e1, ?_⟩
  rcases h i ds[i] e (List.getElem?_eq_getElem hlt) hi with q | q | ⟨y, q, q'⟩
  · rw [q]; exact q1
  · rw [q]; trivial
  · subst q'
    rw [q] at q1
    obtain ⟨v, e2, q2⟩ := q1
    exact ⟨v, e2, dp_ex stab_F y v q2⟩
end Dn
namespace Dn
open PySem L2

/-! ### what a piece of the text does, as the machine says it -/
def WE (X : Cx) (e : Expr) : TE := fun σ H Q => ∀ (pins : List (Addr × Obj)) (s : Shared), Inv X pins σ H s → wpAny (model X.prog X.w) X.A (eval e X.env) (EP X pins σ Q) X.xe s
def WT (X : Cx) (e : Expr) : TT := fun σ H Q => ∀ (pins : List (Addr × Obj)) (s : Shared), Inv X pins σ H s → wpAny (model X.prog X.w) X.A (isTrue e X.env (eval e X.env)) (TP X pins σ Q) X.xe s
def WA (X : Cx) (es : List Expr) : TA := fun σ H Q => ∀ (pos : Pos) (pins : List (Addr × Obj)) (s : Shared), Inv X pins σ H s → wpAny (model X.prog X.w) X.A (spliced (backTo pos (starEach es X.env))) (AP X pins σ Q) X.xe s
def WS (X : Cx) (st : Stmt) : TS := fun D σ H => ∀ (pins : List (Addr × Obj)) (s : Shared), Inv X pins σ H s → wpAny (model X.prog X.w) X.A (exec st X.env) (SP X pins D) X.xe s
def WSs (X : Cx) (st : List Stmt) : TS := fun D σ H => ∀ (pins : List (Addr × Obj)) (s : Shared), Inv X pins σ H s → wpAny (model X.prog X.w) X.A (execs st X.env) (SP X pins D) X.xe s
def WG (X : Cx) (tg : Expr) : TG := fun v σ H Q => ∀ (pins : List (Addr × Obj)) (s : Shared) (u : Value), Inv X pins σ H s → RelV v u → wpAny (model X.prog X.w) X.A (assign tg X.env u) (fun _ s' => ∃ σ' H', Inv X pins σ' H' s' ∧ Q σ' H') X.xe s
def WI (X : Cx) (tg iter : Expr) : TI := fun σ H R => ∀ (pins : List (Addr × Obj)) (s : Shared), Inv X pins σ H s →
    wpAny (model X.prog X.w) X.A (eval iter X.env) (fun v s1 => wpAny (model X.prog X.w) X.A (pyIter v) (PIE X pins σ tg R) X.xe s1) X.xe s
section
variable {X : Cx} {e : Expr} {es : List Expr} {st : Stmt} {sts : List Stmt} {σ : St} {H : Hp} {tg iter : Expr}
theorem we : PE X e (WE X e) := ⟨fun pins s _ _ _ I h => h pins s I⟩
theorem wt : PT X e (WT X e) := ⟨fun pins s _ _ _ I h => h pins s I⟩
theorem wa : PA X es (WA X es) := ⟨fun pos pins s _ _ _ I h => h pos pins s I⟩
theorem ws : PS X st (WS X st) := ⟨fun pins s _ _ _ I h => h pins s I⟩
theorem wss : PSs X sts (WSs X sts) := ⟨fun pins s _ _ _ I h => h pins s I⟩
theorem wg : PG X tg (WG X tg) := ⟨fun pins s _ _ _ _ _ I r h => h pins s _ I r⟩
theorem wi : PI X tg iter (WI X tg iter) := ⟨fun pins s _ _ _ I h => h pins s I⟩
theorem WE.of {t : TE} (h : PE X e t) {Q : VK} (q : t σ H Q) : WE X e σ H Q := fun pins s I => h.run pins s σ H Q I q
theorem WT.of {t : TT} (h : PT X e t) {Q : Bool → Hp → Prop} (q : t σ H Q) : WT X e σ H Q := fun pins s I => h.run pins s σ H Q I q
theorem WA.of {t : TA} (h : PA X es t) {Q : List V → Hp → Prop} (q : t σ H Q) : WA X es σ H Q := fun pos pins s I => h.run pos pins s σ H Q I q
theorem WS.of {t : TS} (h : PS X st t) {D : Ends} (q : t D σ H) : WS X st D σ H := fun pins s I => h.run pins s σ H D I q
theorem WSs.of {t : TS} (h : PSs X sts t) {D : Ends} (q : t D σ H) : WSs X sts D σ H := fun pins s I => h.run pins s σ H D I q
theorem WG.of {t : TG} (h : PG X tg t) {v : V} {Q : St → Hp → Prop} (q : t v σ H Q) : WG X tg v σ H Q := fun pins s u I r => h.run pins s σ H v u Q I r q
theorem WI.of {t : TI} (h : PI X tg iter t) {R : It → Hp → Prop} (q : t σ H R) : WI X tg iter σ H R := fun pins s I => h.run pins s σ H R I q
end

/-! ### what a piece is worth, by data -/
def Ev (k : Kd) (X : Cx) (e : Expr) (ds : List SD) (d : PyData) : Prop :=
  ∀ (A F H : Hp) (σ : St), Sl X.K A F H σ ds → ∀ Q : VK, (∀ v F' H', Stp F H F' H' → Dq X.K (selH k A F' H') v d → Q v H') → WE X e σ H Q
/-- a new list, one's own -/
def En (X : Cx) (e : Expr) (ds : List SD) (xs : List PyData) : Prop :=
  ∀ (A F H : Hp) (σ : St), Sl X.K A F H σ ds → ∀ Q : VK, (∀ p vs F' H', Stp F H F' H' → H p = none → F' p = none → H' p = some (.lst vs) → DqAll X.K F' vs xs → Q (.ref p) H') → WE X e σ H Q
def Et (X : Cx) (e : Expr) (ds : List SD) (b : Bool) : Prop :=
  ∀ (A F H : Hp) (σ : St), Sl X.K A F H σ ds → ∀ Q : Bool → Hp → Prop, (∀ F' H', Stp F H F' H' → Q b H') → WT X e σ H Q
def Ea (k : Kd) (X : Cx) (es : List Expr) (ds : List SD) (xs : List PyData) : Prop :=
  ∀ (A F H : Hp) (σ : St), Sl X.K A F H σ ds → ∀ Q : List V → Hp → Prop, (∀ vs F' H', Stp F H F' H' → DqAll X.K (selH k A F' H') vs xs → Q vs H') → WA X es σ H Q

theorem wo_H {A F H : Hp} (w : Wo A F H) (k : Kd) : Same (selH k A F H) H := sel_H w

section
variable {X : Cx} {a b e : Expr} {es : List Expr} {ds : List SD} {d x y z : PyData} {k ka kb : Kd} {pos : Pos}

theorem Ev.vw (h : Ev k X e ds d) : Ev .vw X e ds d := fun A F H σ sl Q q => h A F H σ sl Q fun v F' H' s hv => q v F' H' s (dp_ex (sel_H (sl.w.step s)) d v hv)
theorem Ev.ofFr (h : Ev .fr X e ds d) : Ev k X e ds d := fun A F H σ sl Q q => h A F H σ sl Q fun v F' H' s hv => q v F' H' s (dp_ex (fr_sel (sl.w.step s)) d v hv)
theorem En.ev (h : En X e ds xs) : Ev k X e ds (.list xs) := Ev.ofFr fun A F H σ sl Q q => h A F H σ sl Q fun p vs F' H' s hp fp hl ha =>
  q (.ref p) (upd F' p (.lst vs)) H' (s.freeze hp fp hl) (.lst (SqL.of upd_same) (dpa_ex (ex_new fp) _ _ ha))
/-- scalars stand in no heap -/
def Sc : PyData → Prop
  | .none => True
  | .bool _ => True
  | .int _ => True
  | .str _ => True
  | _ => False
theorem sc_any {K : PySem.W.Frag} {H H' : Hp} {v : V} {d : PyData} (s : Sc d) (h : Dq K H v d) : Dq K H' v d := by
  cases h with
  | non => exact .non
  | bl b => exact .bl b
  | int i => exact .int i
  | str x => exact .str x
  | lst _ _ => exact s.elim
  | tup _ _ => exact s.elim
theorem Ev.sc (h : Ev ka X e ds d) (s : Sc d) : Ev k X e ds d := fun A F H σ sl Q q => h A F H σ sl Q fun v F' H' st hv => q v F' H' st (sc_any s hv)

/-! names, constants -/
theorem Ev.dat (i : Nat) {n : Str} (hd : ds[i]? = some (.dat d)) (hN : X.N[i]? = some n := by rfl) (hv : Vis X.env.scope n := by first | exact Or.inl rfl | exact Or.inr (Or.inl rfl) | exact Or.inr (Or.inr rfl)) (hb : (n == ("__debug__" : Str)) = false := by decide)
    (hc : (n == ("__classdict__" : Str)) = false := by decide) : Ev k X (.Name n pos) ds d := Ev.ofFr fun A F H σ sl Q q => by
  obtain ⟨o, e1, v, e2, h⟩ := sl.at_ i _ hd
  subst e2
  exact WE.of (pv i hN hv hb hc) ⟨v, e1, q v F H (Stp.refl sl.w.exF) h⟩
theorem Ev.arg (i : Nat) {n : Str} (hd : ds[i]? = some (.arg d)) (hN : X.N[i]? = some n := by rfl) (hv : Vis X.env.scope n := by first | exact Or.inl rfl | exact Or.inr (Or.inl rfl) | exact Or.inr (Or.inr rfl)) (hb : (n == ("__debug__" : Str)) = false := by decide)
    (hc : (n == ("__classdict__" : Str)) = false := by decide) : Ev .st X (.Name n pos) ds d := fun A F H σ sl Q q => by
  obtain ⟨o, e1, v, e2, h⟩ := sl.at_ i _ hd
  subst e2
  exact WE.of (pv i hN hv hb hc) ⟨v, e1, q v F H (Stp.refl sl.w.exF) h⟩
theorem Ev.own (i : Nat) {n : Str} {xs : List PyData} (hd : ds[i]? = some (.own xs)) (hN : X.N[i]? = some n := by rfl) (hv : Vis X.env.scope n := by first | exact Or.inl rfl | exact Or.inr (Or.inl rfl) | exact Or.inr (Or.inr rfl)) (hb : (n == ("__debug__" : Str)) = false := by decide)
    (hc : (n == ("__classdict__" : Str)) = false := by decide) : Ev .vw X (.Name n pos) ds (.list xs) := fun A F H σ sl Q q => by
  obtain ⟨o, e1, p, vs, e2, hA, hF, hH, h⟩ := sl.at_ i _ hd
  subst e2
  exact WE.of (pv i hN hv hb hc) ⟨_, e1, q _ F H (Stp.refl sl.w.exF) (.lst (SqL.of hH) (dpa_ex sl.w.exF _ _ h))⟩
theorem Ev.int {i : Int} {j} : Ev k X (.Constant (.int i) j pos) ds (.int i) := fun A F H σ sl Q q => WE.of pe_int (q _ F H (Stp.refl sl.w.exF) (.int i))
theorem Ev.bl {i : Bool} {j} : Ev k X (.Constant (.bool i) j pos) ds (.bool i) := fun A F H σ sl Q q => WE.of pe_bl (q _ F H (Stp.refl sl.w.exF) (.bl i))
theorem Ev.non {j} : Ev k X (.Constant .none j pos) ds .none := fun A F H σ sl Q q => WE.of pe_non (q _ F H (Stp.refl sl.w.exF) .non)
theorem Ev.str {i : Str} {j} : Ev k X (.Constant (.str i) j pos) ds (.str i) := fun A F H σ sl Q q => WE.of pe_str (q _ F H (Stp.refl sl.w.exF) (.str i))

/-! operators -/
def RD (K : PySem.W.Frag) (r : R2) (ka kb : Kd) (x y : PyData) (k : Kd) (z : PyData) : Prop := ∀ (A F H : Hp) (u v : V), Wo A F H → Dq K (selH ka A F H) u x → Dq K (selH kb A F H) v y → ∀ Q : VK, (∀ w F' H', Stp F H F' H' → Dq K (selH k A F' H') w z → Q w H') → r u v H Q
theorem ev2 (ha : Ev ka X a ds x) (hb : Ev kb X b ds y) {A F H : Hp} {σ : St} (sl : Sl X.K A F H σ ds) {R : V → V → Hp → Prop} (h : ∀ u v F' H', Stp F H F' H' → Dq X.K (selH ka A F' H') u x → Dq X.K (selH kb A F' H') v y → R u v H') :
    WE X a σ H fun u H1 => WE X b σ H1 fun v H2 => R u v H2 := ha A F H σ sl _ fun u F1 H1 s1 h1 => hb A F1 H1 σ (sl.step s1) _ fun v F2 H2 s2 h2 =>
  h u v F2 H2 (s1.trans s2) (dp_ex (sel_mono (sl.w.step s1) s2) x u h1) h2
theorem Ev.op {op : Operator} {r : R2} (ho : OpR X (binaryOp op) r) (ha : Ev ka X a ds x) (hb : Ev kb X b ds y) (hr : RD X.K r ka kb x y k z) : Ev k X (.BinOp a op b pos) ds z := fun A F H σ sl Q q =>
  WE.of (pe_op ho we we) (ev2 ha hb sl fun u v F1 H1 s hu hv => hr A F1 H1 u v (sl.w.step s) hu hv Q fun w F2 H2 s2 hw => q w F2 H2 (s.trans s2) hw)
theorem Ev.cmp {op : CmpOp} {r : R2} (ho : OpR X (compareOp op) r) (ha : Ev ka X a ds x) (hb : Ev kb X b ds y) (hr : RD X.K r ka kb x y k z) (hm : behindInMarks op b = false) : Ev k X (.Compare a [op] [b] pos) ds z := fun A F H σ sl Q q =>
  WE.of (pe_cmpR ho we we hm) (ev2 ha hb sl fun u v F1 H1 s hu hv => hr A F1 H1 u v (sl.w.step s) hu hv Q fun w F2 H2 s2 hw => q w F2 H2 (s.trans s2) hw)
theorem Et.cmp {op : CmpOp} {r : R2} {c : Bool} (ho : OpR X (compareOp op) r) (ha : Ev ka X a ds x) (hb : Ev kb X b ds y) (hr : RD X.K r ka kb x y .fr (.bool c)) (hm : behindInMarks op b = false) : Et X (.Compare a [op] [b] pos) ds c := fun A F H σ sl Q q =>
  WT.of (pt_cmpR ho we we hm) (ev2 ha hb sl fun u v F1 H1 s hu hv => hr A F1 H1 u v (sl.w.step s) hu hv _ fun w F2 H2 s2 hw => by
    cases hw
    exact ⟨c, rfl, q F2 H2 (s.trans s2)⟩)
variable {K : PySem.W.Frag}
theorem rd_I0 {g : Int → Int → V} {i j : Int} (h : ∀ H, Dq K H (g i j) z) : RD K (rI0 g) ka kb (.int i) (.int j) k z := fun A F H u v w hu hv Q q => by
  cases hu
  cases hv
  exact ⟨i, j, rfl, rfl, q _ F H (Stp.refl w.exF) (h _)⟩
theorem rd_I {C : Int → Int → Prop} {g : Int → Int → V} {i j : Int} (hc : C i j) (h : ∀ H, Dq K H (g i j) z) : RD K (rI C g) ka kb (.int i) (.int j) k z := fun A F H u v w hu hv Q q => by
  cases hu
  cases hv
  exact ⟨i, j, rfl, rfl, hc, q _ F H (Stp.refl w.exF) (h _)⟩
theorem Ev.add {i j : Int} (ha : Ev ka X a ds (.int i)) (hb : Ev kb X b ds (.int j)) : Ev k X (.BinOp a .Add b pos) ds (.int (i + j)) := Ev.op op_add ha hb (rd_I0 fun _ => .int _)
theorem Ev.sub {i j : Int} (ha : Ev ka X a ds (.int i)) (hb : Ev kb X b ds (.int j)) : Ev k X (.BinOp a .Sub b pos) ds (.int (i - j)) := Ev.op op_sub ha hb (rd_I0 fun _ => .int _)
theorem Ev.mul {i j : Int} (ha : Ev ka X a ds (.int i)) (hb : Ev kb X b ds (.int j)) (hc : CMulW i j) : Ev k X (.BinOp a .Mult b pos) ds (.int (i * j)) := Ev.op op_mulW ha hb (rd_I hc fun _ => .int _)
theorem Ev.mod {i j : Int} (ha : Ev ka X a ds (.int i)) (hb : Ev kb X b ds (.int j)) (hc : 0 < j) : Ev k X (.BinOp a .Mod b pos) ds (.int (i % j)) := Ev.op op_mod ha hb (rd_I hc fun _ => .int _)
theorem Ev.fdiv {i j : Int} (ha : Ev ka X a ds (.int i)) (hb : Ev kb X b ds (.int j)) (hc : CDivW i j) : Ev k X (.BinOp a .FloorDiv b pos) ds (.int (i / j)) := Ev.op op_fdivW ha hb (rd_I hc fun _ => .int _)
theorem Ev.fdivS {i j : Int} (ha : Ev ka X a ds (.int i)) (hb : Ev kb X b ds (.int j)) (hc : CDiv i j) : Ev k X (.BinOp a .FloorDiv b pos) ds (.int (i / j)) := Ev.op op_fdiv ha hb (rd_I hc fun _ => .int _)
theorem Ev.pow {i j : Int} (ha : Ev ka X a ds (.int i)) (hb : Ev kb X b ds (.int j)) (hc : CPow i j) : Ev k X (.BinOp a .Pow b pos) ds (.int (i ^ j.toNat)) := Ev.op op_pow ha hb (rd_I hc fun _ => .int _)
theorem Ev.neg {i : Int} (ha : Ev ka X a ds (.int i)) : Ev k X (.UnaryOp .USub a pos) ds (.int (-i)) := fun A F H σ sl Q q =>
  WE.of (pe_un un_neg we) (ha A F H σ sl _ fun v F1 H1 s hv => by
    cases hv
    exact ⟨i, rfl, q _ F1 H1 s (.int _)⟩)
theorem Ev.lt {i j : Int} (ha : Ev ka X a ds (.int i)) (hb : Ev kb X b ds (.int j)) : Ev k X (.Compare a [.Lt] [b] pos) ds (.bool (decide (i < j))) := Ev.cmp op_lt ha hb (rd_I0 fun _ => .bl _) (nomark _)
theorem Ev.le {i j : Int} (ha : Ev ka X a ds (.int i)) (hb : Ev kb X b ds (.int j)) : Ev k X (.Compare a [.LtE] [b] pos) ds (.bool (decide (i ≤ j))) := Ev.cmp op_le ha hb (rd_I0 fun _ => .bl _) (nomark _)
theorem Ev.gt {i j : Int} (ha : Ev ka X a ds (.int i)) (hb : Ev kb X b ds (.int j)) : Ev k X (.Compare a [.Gt] [b] pos) ds (.bool (decide (j < i))) := Ev.cmp op_gt ha hb (rd_I0 fun _ => .bl _) (nomark _)
theorem Ev.ge {i j : Int} (ha : Ev ka X a ds (.int i)) (hb : Ev kb X b ds (.int j)) : Ev k X (.Compare a [.GtE] [b] pos) ds (.bool (decide (j ≤ i))) := Ev.cmp op_ge ha hb (rd_I0 fun _ => .bl _) (nomark _)
theorem Et.lt {i j : Int} (ha : Ev ka X a ds (.int i)) (hb : Ev kb X b ds (.int j)) : Et X (.Compare a [.Lt] [b] pos) ds (decide (i < j)) := Et.cmp op_lt ha hb (rd_I0 fun _ => .bl _) (nomark _)
theorem Et.le {i j : Int} (ha : Ev ka X a ds (.int i)) (hb : Ev kb X b ds (.int j)) : Et X (.Compare a [.LtE] [b] pos) ds (decide (i ≤ j)) := Et.cmp op_le ha hb (rd_I0 fun _ => .bl _) (nomark _)
theorem Et.gt {i j : Int} (ha : Ev ka X a ds (.int i)) (hb : Ev kb X b ds (.int j)) : Et X (.Compare a [.Gt] [b] pos) ds (decide (j < i)) := Et.cmp op_gt ha hb (rd_I0 fun _ => .bl _) (nomark _)
theorem Et.ge {i j : Int} (ha : Ev ka X a ds (.int i)) (hb : Ev kb X b ds (.int j)) : Et X (.Compare a [.GtE] [b] pos) ds (decide (j ≤ i)) := Et.cmp op_ge ha hb (rd_I0 fun _ => .bl _) (nomark _)
/-! == and != of data -/
theorem rd_eqD (hx : SeqAt.shaped x = true) (hy : SeqAt.shaped y = true) : RD K (rEqD K) ka kb x y k (.bool (PyData.eqv x y)) := fun A F H u v w hu hv Q q =>
  ⟨x, y, dq_dp _ _ (dp_ex (sel_H w) x u hu), dq_dp _ _ (dp_ex (sel_H w) y v hv), hx, hy, q _ F H (Stp.refl w.exF) (.bl _)⟩
theorem rd_neD (hx : SeqAt.shaped x = true) (hy : SeqAt.shaped y = true) : RD K (rNeD K) ka kb x y k (.bool (!PyData.eqv x y)) := fun A F H u v w hu hv Q q =>
  ⟨x, y, dq_dp _ _ (dp_ex (sel_H w) x u hu), dq_dp _ _ (dp_ex (sel_H w) y v hv), hx, hy, q _ F H (Stp.refl w.exF) (.bl _)⟩
theorem Ev.eq {j : Nat} {c : Bool} (hr : Room j X.A) (ha : Ev ka X a ds x) (hb : Ev kb X b ds y) (hx : SeqAt.shaped x = true) (hy : SeqAt.shaped y = true) (hc : PyData.eqv x y = c) : Ev k X (.Compare a [.Eq] [b] pos) ds (.bool c) := hc ▸ Ev.cmp (op_eqD hr.units) ha hb (rd_eqD hx hy) (nomark _)
theorem Ev.ne {j : Nat} {c : Bool} (hr : Room j X.A) (ha : Ev ka X a ds x) (hb : Ev kb X b ds y) (hx : SeqAt.shaped x = true) (hy : SeqAt.shaped y = true) (hc : (!PyData.eqv x y) = c) : Ev k X (.Compare a [.NotEq] [b] pos) ds (.bool c) := hc ▸ Ev.cmp (op_neD hr.units) ha hb (rd_neD hx hy) (nomark _)
theorem Et.eq {j : Nat} {c : Bool} (hr : Room j X.A) (ha : Ev ka X a ds x) (hb : Ev kb X b ds y) (hx : SeqAt.shaped x = true) (hy : SeqAt.shaped y = true) (hc : PyData.eqv x y = c) : Et X (.Compare a [.Eq] [b] pos) ds c := hc ▸ Et.cmp (op_eqD hr.units) ha hb (rd_eqD hx hy) (nomark _)
theorem Et.ne {j : Nat} {c : Bool} (hr : Room j X.A) (ha : Ev ka X a ds x) (hb : Ev kb X b ds y) (hx : SeqAt.shaped x = true) (hy : SeqAt.shaped y = true) (hc : (!PyData.eqv x y) = c) : Et X (.Compare a [.NotEq] [b] pos) ds c := hc ▸ Et.cmp (op_neD hr.units) ha hb (rd_neD hx hy) (nomark _)
/-! is, is not of truth values; is None -/
theorem rd_isB {p q : Bool} : RD K rIsB ka kb (.bool p) (.bool q) k (.bool (decide (p = q))) := fun A F H u v w hu hv Q qq => by
  cases hu
  cases hv
  exact ⟨p, q, rfl, rfl, qq _ F H (Stp.refl w.exF) (.bl _)⟩
theorem rd_notB {p q : Bool} : RD K rNotB ka kb (.bool p) (.bool q) k (.bool (!decide (p = q))) := fun A F H u v w hu hv Q qq => by
  cases hu
  cases hv
  exact ⟨p, q, rfl, rfl, qq _ F H (Stp.refl w.exF) (.bl _)⟩
theorem Et.isB {p q : Bool} (ha : Ev ka X a ds (.bool p)) (hb : Ev kb X b ds (.bool q)) : Et X (.Compare a [.Is] [b] pos) ds (decide (p = q)) := Et.cmp op_isBl ha hb rd_isB (nomark _)
theorem Et.notB {p q : Bool} (ha : Ev ka X a ds (.bool p)) (hb : Ev kb X b ds (.bool q)) : Et X (.Compare a [.IsNot] [b] pos) ds (!decide (p = q)) := Et.cmp op_notBl ha hb rd_notB (nomark _)
def isNone : PyData → Bool
  | .none => true
  | _ => false
theorem isN_of {H : Hp} {v : V} (h : Dq K H v x) : decide (v = .non) = isNone x := by
  cases h <;> rfl
theorem Ev.isN {j pos'} (ha : Ev ka X a ds x) : Ev k X (.Compare a [.Is] [.Constant .none j pos'] pos) ds (.bool (isNone x)) := fun A F H σ sl Q q =>
  WE.of (pe_cmp (pc_isN we)) (ha A F H σ sl _ fun v F1 H1 s hv => by
    rw [isN_of hv]
    exact q _ F1 H1 s (.bl _))
theorem Ev.notN {j pos'} (ha : Ev ka X a ds x) : Ev k X (.Compare a [.IsNot] [.Constant .none j pos'] pos) ds (.bool (!isNone x)) := fun A F H σ sl Q q =>
  WE.of (pe_cmp (pc_notN we)) (ha A F H σ sl _ fun v F1 H1 s hv => by
    rw [isN_of hv]
    exact q _ F1 H1 s (.bl _))
theorem Et.val {c : Bool} (ha : Ev ka X e ds (.bool c)) (he : ∀ whole, isTrue e X.env whole = (do let v ← whole; standAt e.pos; holding [v] (truthy v)) := by intro _; rfl) : Et X e ds c := fun A F H σ sl Q q =>
  WT.of (pt_val we he) (ha A F H σ sl _ fun v F1 H1 s hv => by
    cases hv
    exact ⟨c, rfl, q F1 H1 s⟩)
theorem Et.isN {j pos'} (ha : Ev ka X a ds x) : Et X (.Compare a [.Is] [.Constant .none j pos'] pos) ds (isNone x) := fun A F H σ sl Q q =>
  WT.of (pt_cmp (pc_isN we)) (ha A F H σ sl _ fun v F1 H1 s hv => by
    rw [isN_of hv]
    exact ⟨_, rfl, q F1 H1 s⟩)
theorem Et.notN {j pos'} (ha : Ev ka X a ds x) : Et X (.Compare a [.IsNot] [.Constant .none j pos'] pos) ds (!isNone x) := fun A F H σ sl Q q =>
  WT.of (pt_cmp (pc_notN we)) (ha A F H σ sl _ fun v F1 H1 s hv => by
    rw [isN_of hv]
    exact ⟨_, rfl, q F1 H1 s⟩)
/-! truth -/
def tru : PyData → Bool
  | .none => false
  | .bool b => b
  | .int i => i != 0
  | .str y => (y.length : Int) != 0
  | .list xs => !xs.isEmpty
  | .tuple xs => !xs.isEmpty
  | .dict _ => true
theorem dpa_empty {H : Hp} {vs : List V} {xs : List PyData} (h : DqAll K H vs xs) : vs.isEmpty = xs.isEmpty := by
  cases h <;> rfl
theorem tru_of {H : Hp} {v : V} (h : Dq K H v x) (hs : ∀ y, x = .str y → y.length ≤ sizeLine) : TruV K v H (tru x) := by
  cases h with
  | non => exact rfl
  | bl b => exact rfl
  | int i => exact rfl
  | str y => exact ⟨hs y rfl, rfl⟩
  | lst h ha => exact .inl ⟨_, h, by rw [dpa_empty ha]; rfl⟩
  | tup h ha => exact .inr (.inl ⟨_, h, by rw [dpa_empty ha]; rfl⟩)
theorem Et.tru (ha : Ev ka X a ds x) (hs : ∀ y, x = .str y → y.length ≤ sizeLine) (he : ∀ whole, isTrue a X.env whole = (do let v ← whole; standAt a.pos; holding [v] (truthy v)) := by intro _; rfl) : Et X a ds (Dn.tru x) := fun A F H σ sl Q q =>
  WT.of (pt_truth we he) (ha A F H σ sl _ fun v F1 H1 s hv => ⟨_, tru_of (dp_ex (sel_H (sl.w.step s)) x v hv) hs, q F1 H1 s⟩)
/-! and, or, not -/
variable {c c' : Bool} {rest : List Expr}
theorem Et.and1 (h : Et X a ds c) : Et X (.BoolOp .And [a] pos) ds c := fun A F H σ sl Q q => WT.of (pw_and1 wt).pt (h A F H σ sl Q q)
end
end Dn
namespace Dn
open PySem L2

/-! ### tests in a row -/
def WW (X : Cx) (e : Expr) : TT := fun σ H Q => ∀ (whole : Sem Value) (pins : List (Addr × Obj)) (s : Shared), Inv X pins σ H s → wpAny (model X.prog X.w) X.A (isTrue e X.env whole) (TP X pins σ Q) X.xe s
theorem ww {X : Cx} {e : Expr} : PW X e (WW X e) := ⟨fun whole pins s _ _ _ I h => h whole pins s I⟩
theorem WW.of {X : Cx} {e : Expr} {σ : St} {H : Hp} {t : TT} (h : PW X e t) {Q : Bool → Hp → Prop} (q : t σ H Q) : WW X e σ H Q := fun whole pins s I => h.run whole pins s σ H Q I q
def Ew (X : Cx) (e : Expr) (ds : List SD) (b : Bool) : Prop :=
  ∀ (A F H : Hp) (σ : St), Sl X.K A F H σ ds → ∀ Q : Bool → Hp → Prop, (∀ F' H', Stp F H F' H' → Q b H') → WW X e σ H Q
section
variable {X : Cx} {a b e : Expr} {es rest : List Expr} {ds : List SD} {d x y z : PyData} {k ka kb kc : Kd} {pos : Pos} {c c' : Bool} {xs ys : List PyData}
theorem Ew.et (h : Ew X e ds c) : Et X e ds c := fun A F H σ sl Q q => WT.of ww.pt (h A F H σ sl Q q)
theorem Ew.and1 (h : Et X a ds c) : Ew X (.BoolOp .And [a] pos) ds c := fun A F H σ sl Q q => WW.of (pw_and1 wt) (h A F H σ sl Q q)
theorem Ew.or1 (h : Et X a ds c) : Ew X (.BoolOp .Or [a] pos) ds c := fun A F H σ sl Q q => WW.of (pw_or1 wt) (h A F H σ sl Q q)
theorem Ew.andT (h : Et X a ds true) (h' : Ew X (.BoolOp .And (b :: rest) pos) ds c) : Ew X (.BoolOp .And (a :: b :: rest) pos) ds c := fun A F H σ sl Q q =>
  WW.of (pw_and wt ww) (h A F H σ sl _ fun F1 H1 s1 => iteT (h' A F1 H1 σ (sl.step s1) Q fun F2 H2 s2 => q F2 H2 (s1.trans s2)))
theorem Ew.andF (h : Et X a ds false) : Ew X (.BoolOp .And (a :: b :: rest) pos) ds false := fun A F H σ sl Q q =>
  WW.of (pw_and wt (tB' := fun _ _ _ => False) ⟨fun _ _ _ _ _ _ _ f => f.elim⟩) (h A F H σ sl _ fun F1 H1 s1 => iteF (q F1 H1 s1))
theorem Ew.orF (h : Et X a ds false) (h' : Ew X (.BoolOp .Or (b :: rest) pos) ds c) : Ew X (.BoolOp .Or (a :: b :: rest) pos) ds c := fun A F H σ sl Q q =>
  WW.of (pw_or wt ww) (h A F H σ sl _ fun F1 H1 s1 => iteF (h' A F1 H1 σ (sl.step s1) Q fun F2 H2 s2 => q F2 H2 (s1.trans s2)))
theorem Ew.orT (h : Et X a ds true) : Ew X (.BoolOp .Or (a :: b :: rest) pos) ds true := fun A F H σ sl Q q =>
  WW.of (pw_or wt (tB' := fun _ _ _ => False) ⟨fun _ _ _ _ _ _ _ f => f.elim⟩) (h A F H σ sl _ fun F1 H1 s1 => iteT (q F1 H1 s1))
/-- both answers at once -/
theorem Ew.and (h : Et X a ds c) (h' : c = true → Ew X (.BoolOp .And (b :: rest) pos) ds c') : Ew X (.BoolOp .And (a :: b :: rest) pos) ds (c && c') := by
  cases c with
  | true => exact Ew.andT h (h' rfl)
  | false => exact Ew.andF h
theorem Ew.or (h : Et X a ds c) (h' : c = false → Ew X (.BoolOp .Or (b :: rest) pos) ds c') : Ew X (.BoolOp .Or (a :: b :: rest) pos) ds (c || c') := by
  cases c with
  | true => exact Ew.orT h
  | false => exact Ew.orF h (h' rfl)
theorem Et.not (h : Et X a ds c) : Et X (.UnaryOp .Not a pos) ds (!c) := fun A F H σ sl Q q => WT.of (pt_not wt) (h A F H σ sl _ fun F1 H1 s1 => q F1 H1 s1)
theorem Et.is (h : Et X a ds c) (e : c = c') : Et X a ds c' := e ▸ h
theorem Ev.is (h : Ev k X a ds x) (e : x = y) : Ev k X a ds y := e ▸ h
/-! the same as values -/
theorem Ev.one {op : BoolOp} (h : Ev k X a ds x) : Ev k X (.BoolOp op [a] pos) ds x := fun A F H σ sl Q q => WE.of (pe_one we) (h A F H σ sl Q q)
theorem Ev.andV (h : Ev ka X a ds (.bool c)) (h' : c = true → Ev k X (.BoolOp .And (b :: rest) pos) ds (.bool c')) : Ev k X (.BoolOp .And (a :: b :: rest) pos) ds (.bool (c && c')) := by
  cases c with
  | true => exact fun A F H σ sl Q q => WE.of (pe_and we we) (h A F H σ sl _ fun v F1 H1 s1 hv => by
      cases hv
      exact ⟨true, rfl, iteT (h' rfl A F1 H1 σ (sl.step s1) Q fun w F2 H2 s2 hw => q w F2 H2 (s1.trans s2) hw)⟩)
  | false => exact fun A F H σ sl Q q => WE.of (pe_and (tb := fun _ _ _ => False) we ⟨fun _ _ _ _ _ _ f => f.elim⟩) (h A F H σ sl _ fun v F1 H1 s1 hv => by
      cases hv
      exact ⟨false, rfl, iteF (q _ F1 H1 s1 (.bl _))⟩)
theorem Ev.orV (h : Ev ka X a ds (.bool c)) (h' : c = false → Ev k X (.BoolOp .Or (b :: rest) pos) ds (.bool c')) : Ev k X (.BoolOp .Or (a :: b :: rest) pos) ds (.bool (c || c')) := by
  cases c with
  | false => exact fun A F H σ sl Q q => WE.of (pe_or we we) (h A F H σ sl _ fun v F1 H1 s1 hv => by
      cases hv
      exact ⟨false, rfl, iteF (h' rfl A F1 H1 σ (sl.step s1) Q fun w F2 H2 s2 hw => q w F2 H2 (s1.trans s2) hw)⟩)
  | true => exact fun A F H σ sl Q q => WE.of (pe_or (tb := fun _ _ _ => False) we ⟨fun _ _ _ _ _ _ f => f.elim⟩) (h A F H σ sl _ fun v F1 H1 s1 hv => by
      cases hv
      exact ⟨true, rfl, iteT (q _ F1 H1 s1 (.bl _))⟩)
theorem Ev.notV (h : Ev ka X a ds (.bool c)) : Ev k X (.UnaryOp .Not a pos) ds (.bool (!c)) := fun A F H σ sl Q q => WE.of (pe_not we) (h A F H σ sl _ fun v F1 H1 s1 hv => by
  cases hv
  exact ⟨c, rfl, q _ F1 H1 s1 (.bl _)⟩)
/-- x or y by truth -/
theorem Ev.orX (h : Ev k X a ds x) (hs : ∀ y, x = .str y → y.length ≤ sizeLine) (h' : tru x = false → Ev k X (.BoolOp .Or (b :: rest) pos) ds y) : Ev k X (.BoolOp .Or (a :: b :: rest) pos) ds (if tru x = true then x else y) := by
  intro A F H σ sl Q q
  cases ht : tru x with
  | false =>
    rw [ht, if_neg Bool.false_ne_true] at q
    exact WE.of (pe_orT we we) (h A F H σ sl _ fun v F1 H1 s1 hv => ⟨false, ht ▸ tru_of (dp_ex (sel_H (sl.w.step s1)) x v hv) hs, iteF (h' ht A F1 H1 σ (sl.step s1) Q fun w F2 H2 s2 hw => q w F2 H2 (s1.trans s2) hw)⟩)
  | true =>
    rw [ht, if_pos rfl] at q
    exact WE.of (pe_orT (tb := fun _ _ _ => False) we ⟨fun _ _ _ _ _ _ f => f.elim⟩) (h A F H σ sl _ fun v F1 H1 s1 hv => ⟨true, ht ▸ tru_of (dp_ex (sel_H (sl.w.step s1)) x v hv) hs, iteT (q v F1 H1 s1 hv)⟩)
theorem Ev.ifE {t : Expr} (h : Et X t ds c) (h1 : c = true → Ev k X a ds x) (h2 : c = false → Ev k X b ds x) : Ev k X (.IfExp t a b pos) ds x := fun A F H σ sl Q q => by
  cases c with
  | true => exact WE.of (pe_ifExp (tb := fun _ _ _ => False) wt we ⟨fun _ _ _ _ _ _ f => f.elim⟩) (h A F H σ sl _ fun F1 H1 s1 => iteT (h1 rfl A F1 H1 σ (sl.step s1) Q fun w F2 H2 s2 hw => q w F2 H2 (s1.trans s2) hw))
  | false => exact WE.of (pe_ifExp (ta := fun _ _ _ => False) wt ⟨fun _ _ _ _ _ _ f => f.elim⟩ we) (h A F H σ sl _ fun F1 H1 s1 => iteF (h2 rfl A F1 H1 σ (sl.step s1) Q fun w F2 H2 s2 hw => q w F2 H2 (s1.trans s2) hw))

/-! ### a list, by its items -/
def Ei (k : Kd) (X : Cx) (e : Expr) (ds : List SD) (xs : List PyData) : Prop :=
  ∀ (A F H : Hp) (σ : St), Sl X.K A F H σ ds → ∀ Q : VK, (∀ p vs F' H', Stp F H F' H' → SqL X.K H' p vs → DqAll X.K (selH k A F' H') vs xs → Q (.ref p) H') → WE X e σ H Q
theorem Ev.ei (h : Ev k X e ds (.list xs)) : Ei k X e ds xs := fun A F H σ sl Q q => h A F H σ sl Q fun v F1 H1 s1 hv => by
  cases hv with
  | lst hr ha => exact q _ _ F1 H1 s1 (Same.seq (sel_H (sl.w.step s1)) hr) ha
theorem En.ei (h : En X e ds xs) : Ei k X e ds xs := fun A F H σ sl Q q => h A F H σ sl Q fun p vs F1 H1 s1 _ _ hl ha => q p vs F1 H1 s1 (SqL.of hl) (dpa_ex (fr_sel (sl.w.step s1)) _ _ ha)
theorem Ei.own (i : Nat) {n : Str} {xs : List PyData} (hd : ds[i]? = some (.own xs)) (hN : X.N[i]? = some n := by rfl) (hv : Vis X.env.scope n := by first | exact Or.inl rfl | exact Or.inr (Or.inl rfl) | exact Or.inr (Or.inr rfl)) (hb : (n == ("__debug__" : Str)) = false := by decide)
    (hc : (n == ("__classdict__" : Str)) = false := by decide) : Ei k X (.Name n pos) ds xs := fun A F H σ sl Q q => by
  obtain ⟨o, e1, p, vs, e2, hA, hF, hH, h⟩ := sl.at_ i _ hd
  subst e2
  exact WE.of (pv i hN hv hb hc) ⟨_, e1, q _ _ F H (Stp.refl sl.w.exF) (SqL.of hH) (dpa_ex (fr_sel sl.w) _ _ h)⟩
theorem Ei.ints {is : List Int} (h : Ei ka X e ds (is.map .int)) : Ei k X e ds (is.map .int) := fun A F H σ sl Q q => h A F H σ sl Q fun p vs F1 H1 s1 hr ha => q p vs F1 H1 s1 hr (dpa_ints _ ha)
theorem atI_dq {K : PySem.W.Frag} {H : Hp} {vs : List V} {i : Int} (h : DqAll K H vs xs) (e : atI xs i = some z) : ∃ v, atI vs i = some v ∧ Dq K H v z := by
  unfold atI at e ⊢
  rw [dpa_len h]
  cases q : ixN xs.length i with
  | none => rw [q] at e; cases e
  | some j =>
    rw [q] at e
    exact dpa_get h e
theorem ixN_dq {K : PySem.W.Frag} {H : Hp} {vs : List V} {i : Int} {j : Nat} (h : DqAll K H vs xs) (e : ixN xs.length i = some j) : ixN vs.length i = some j := by
  rw [dpa_len h]
  exact e
theorem Ev.ixL {i : Int} (ha : Ei k X a ds xs) (hb : Ev kb X b ds (.int i)) (h : atI xs i = some z) (hs : PlainIx b := by exact fun _ _ => rfl) : Ev k X (.Subscript a b pos) ds z := fun A F H σ sl Q q =>
  WE.of (pe_ix ix_list we we hs) (ha A F H σ sl _ fun p vs F1 H1 s1 hr hv => hb A F1 H1 σ (sl.step s1) _ fun w F2 H2 s2 hw => by
    cases hw
    obtain ⟨v, e1, q1⟩ := atI_dq hv h
    exact ⟨p, vs, i, v, rfl, rfl, (Same.seq s2.h hr), e1, q v F2 H2 (s1.trans s2) (dp_ex (sel_mono (sl.w.step s1) s2) _ _ q1)⟩)
theorem Ev.ixT {i : Int} (ha : Ev k X a ds (.tuple xs)) (hb : Ev kb X b ds (.int i)) (h : atI xs i = some z) (hs : PlainIx b := by exact fun _ _ => rfl) : Ev k X (.Subscript a b pos) ds z := fun A F H σ sl Q q =>
  WE.of (pe_ix ix_tup we we hs) (ha A F H σ sl _ fun p F1 H1 s1 hr => hb A F1 H1 σ (sl.step s1) _ fun w F2 H2 s2 hw => by
    cases hw
    cases hr with
    | tup ht hv =>
      obtain ⟨v, e1, q1⟩ := atI_dq hv h
      exact ⟨_, _, i, v, rfl, rfl, sqt_ex s2.h (sqt_ex (sel_H (sl.w.step s1)) ht), e1, q v F2 H2 (s1.trans s2) (dp_ex (sel_mono (sl.w.step s1) s2) _ _ q1)⟩)
/-! new objects -/
theorem Ev.newL {A F H F' H' : Hp} {p : Addr} {vs : List V} {K : PySem.W.Frag} (w : Wo A F H) (s : Stp F H F' H') (hp : H' p = none) (ha : DqAll K (selH k A F' H') vs xs) :
    Stp F H (upd F' p (.lst vs)) (upd H' p (.lst vs)) ∧ Dq K (selH k A (upd F' p (.lst vs)) (upd H' p (.lst vs))) (.ref p) (.list xs) := by
  have s2 := Stp.new (o := .lst vs) s.fh hp
  refine ⟨s.trans s2, .lst (SqL.of ?_) (dpa_ex (sel_mono (w.step s) s2) _ _ ha)⟩
  exact fr_sel ((w.step s).step s2) p _ upd_same
theorem Ev.newT {A F H F' H' : Hp} {p : Addr} {vs : List V} {K : PySem.W.Frag} (w : Wo A F H) (s : Stp F H F' H') (hp : H' p = none) (ha : DqAll K (selH k A F' H') vs xs) :
    Stp F H (upd F' p (.tup vs)) (upd H' p (.tup vs)) ∧ Dq K (selH k A (upd F' p (.tup vs)) (upd H' p (.tup vs))) (.ref p) (.tuple xs) := by
  have s2 := Stp.new (o := .tup vs) s.fh hp
  refine ⟨s.trans s2, .tup (SqT.of ?_) (dpa_ex (sel_mono (w.step s) s2) _ _ ha)⟩
  exact fr_sel ((w.step s).step s2) p _ upd_same
theorem Ea.nil : Ea k X [] ds [] := fun A F H σ sl Q q => WA.of pa_nil (q [] F H (Stp.refl sl.w.exF) .nil)
theorem Ea.cons (h : Ev k X e ds x) (h' : Ea k X es ds xs) (hs : starEach (e :: es) X.env = (false, eval e X.env) :: starEach es X.env := by rfl) : Ea k X (e :: es) ds (x :: xs) := fun A F H σ sl Q q =>
  WA.of (pa_cons we wa hs) (h A F H σ sl _ fun v F1 H1 s1 hv => h' A F1 H1 σ (sl.step s1) _ fun vs F2 H2 s2 hvs => q (v :: vs) F2 H2 (s1.trans s2) (.cons (dp_ex (sel_mono (sl.w.step s1) s2) _ _ hv) hvs))
theorem sz_ok {n : Nat} (h : n ≤ 100000) : n ≤ sizeLine := Nat.le_trans h (by decide)
theorem Ev.tup {j} (h : Ea k X es ds xs) (hz : xs.length ≤ 100000) : Ev k X (.Tuple es j pos) ds (.tuple xs) := fun A F H σ sl Q q =>
  WE.of (pe_tup wa) (h A F H σ sl _ fun vs F1 H1 s1 hv => ⟨by rw [dpa_len hv]; exact sz_ok hz, fun p hp => by
    have n := Ev.newT sl.w s1 hp hv
    exact q _ _ _ n.1 n.2⟩)
theorem Ev.lst (h : Ea k X es ds xs) (hz : xs.length ≤ 100000) : Ev k X (.List es pos) ds (.list xs) := fun A F H σ sl Q q =>
  WE.of (pe_lst wa) (h A F H σ sl _ fun vs F1 H1 s1 hv => ⟨by rw [dpa_len hv]; exact sz_ok hz, fun p hp => by
    have n := Ev.newL sl.w s1 hp hv
    exact q _ _ _ n.1 n.2⟩)
/-- an own new list at p -/
theorem own_new {A F H F' H' : Hp} (w : Wo A F H) (s : Stp F H F' H') {p : Addr} {o : HO} (hp : H' p = none) : Stp F H F' (upd H' p o) ∧ H p = none ∧ F' p = none := ⟨s.trans (Stp.ownNew s.fh hp), Same.free s.h hp, Same.free s.fh hp⟩
theorem En.lst (h : Ea .fr X es ds xs) (hz : xs.length ≤ 100000) : En X (.List es pos) ds xs := fun A F H σ sl Q q =>
  WE.of (pe_lst wa) (h A F H σ sl _ fun vs F1 H1 s1 hv => ⟨by rw [dpa_len hv]; exact sz_ok hz, fun p hp => by
    have n := own_new (o := .lst vs) sl.w s1 hp
    exact q p vs F1 _ n.1 n.2.1 n.2.2 upd_same hv⟩)
/-! slices of lists -/
def cutD (xs : List PyData) (lo hi : Option Int) : List PyData := (xs.drop (HT.sIx xs.length 0 lo)).take (HT.sIx xs.length xs.length hi - HT.sIx xs.length 0 lo)
theorem cut_dq {K : PySem.W.Frag} {H : Hp} {vs : List V} {lo hi : Option Int} (h : DqAll K H vs xs) : DqAll K H (cutV vs lo hi) (cutD xs lo hi) := by
  unfold cutV cutD
  rw [dpa_len h]
  exact dpa_take _ (dpa_drop _ h)
def Eo (X : Cx) (e : Option Expr) (ds : List SD) (o : Option Int) : Prop :=
  match e with
  | none => o = none
  | some e => ∃ i k, o = some i ∧ Ev k X e ds (.int i)
theorem Eo.non : Eo X none ds none := rfl
theorem Eo.of {i : Int} (h : Ev k X e ds (.int i)) : Eo X (some e) ds (some i) := ⟨i, k, rfl, h⟩
theorem Eo.run {lo : Option Expr} {o : Option Int} (h : Eo X lo ds o) : ∃ t, PO X lo t ∧ ∀ (A F H : Hp) (σ : St), Sl X.K A F H σ ds → ∀ Q : Option Int → Hp → Prop, (∀ F' H', Stp F H F' H' → Q o H') → t σ H Q := by
  cases lo with
  | none =>
    cases (show o = none from h)
    exact ⟨_, po_none, fun A F H σ sl Q q => q F H (Stp.refl sl.w.exF)⟩
  | some e =>
    obtain ⟨i, k2, e2, h2⟩ := (show ∃ i k, o = some i ∧ Ev k X e ds (.int i) from h)
    subst e2
    refine ⟨_, po_some we, fun A F H σ sl Q q => h2 A F H σ sl _ fun v F1 H1 s1 hv => ?_⟩
    cases hv
    exact ⟨i, rfl, q F1 H1 s1⟩
theorem Ev.slice {lo hi : Option Expr} {ol oh : Option Int} {p2 : Pos} (ha : Ei k X a ds xs) (hl : Eo X lo ds ol) (hh : Eo X hi ds oh) : Ev k X (.Subscript a (.Slice lo hi none p2) pos) ds (.list (cutD xs ol oh)) := fun A F H σ sl Q q => by
  obtain ⟨tl, pl, rl⟩ := hl.run
  obtain ⟨th, ph, rh⟩ := hh.run
  exact WE.of (pe_slice sl_list we pl ph) (ha A F H σ sl _ fun p vs F1 H1 s1 hr hv => rl A F1 H1 σ (sl.step s1) _ fun F2 H2 s2 => rh A F2 H2 σ ((sl.step s1).step s2) _ fun F3 H3 s3 =>
    ⟨p, vs, rfl, (Same.seq (s2.trans s3).h hr), fun c hc => by
      have n := Ev.newL (k := k) (vs := cutV vs ol oh) sl.w (s1.trans (s2.trans s3)) hc (cut_dq (dpa_ex (sel_mono (sl.w.step s1) (s2.trans s3)) _ _ hv))
      exact q _ _ _ n.1 n.2⟩)
theorem En.slice {lo hi : Option Expr} {ol oh : Option Int} {p2 : Pos} (ha : Ei .fr X a ds xs) (hl : Eo X lo ds ol) (hh : Eo X hi ds oh) : En X (.Subscript a (.Slice lo hi none p2) pos) ds (cutD xs ol oh) := fun A F H σ sl Q q => by
  obtain ⟨tl, pl, rl⟩ := hl.run
  obtain ⟨th, ph, rh⟩ := hh.run
  exact WE.of (pe_slice sl_list we pl ph) (ha A F H σ sl _ fun p vs F1 H1 s1 hr hv => rl A F1 H1 σ (sl.step s1) _ fun F2 H2 s2 => rh A F2 H2 σ ((sl.step s1).step s2) _ fun F3 H3 s3 =>
    ⟨p, vs, rfl, (Same.seq (s2.trans s3).h hr), fun c hc => by
      have n := own_new (o := .lst (cutV vs ol oh)) sl.w (s1.trans (s2.trans s3)) hc
      exact q c _ F3 _ n.1 n.2.1 n.2.2 upd_same (cut_dq (dpa_ex (s2.trans s3).f _ _ hv))⟩)
theorem Ev.rev {j : Nat} {p1 p2 p3 : Pos} (ha : Ei k X e ds xs) : Ev k X (.Subscript e (.Slice none none (some (.UnaryOp .USub (.Constant (.int 1) j p1) p2)) p3) pos) ds (.list xs.reverse) := fun A F H σ sl Q q =>
  WE.of (pe_revL we) (ha A F H σ sl _ fun p vs F1 H1 s1 hr hv => ⟨p, vs, rfl, hr, fun c hc => by
    have n := Ev.newL (k := k) (vs := vs.reverse) sl.w s1 hc (dpa_rev hv)
    exact q _ _ _ n.1 n.2⟩)
/-! list + list -/
theorem op_catR {X : Cx} : OpR X (binaryOp .Add) (fun x y H Q => ∃ l b xs zs, x = .ref l ∧ y = .ref b ∧ SqL X.K H l xs ∧ SqL X.K H b zs ∧ xs.length + zs.length ≤ sizeLine ∧ ∀ p, H p = none → Q (.ref p) (upd H p (.lst (xs ++ zs)))) := by
  intro pins s σ H x y v u Q I rx ry h
  obtain ⟨l, b, xs, zs, rfl, rfl, hH, hB, hz, q⟩ := h
  cases rx
  cases ry
  obtain ⟨its, r, ⟨⟨cls, dd, data, slt⟩, n, ho, hc, _, hd⟩, _⟩ := I.list hH
  obtain ⟨its2, r2, ⟨⟨cls2, dd2, data2, slt2⟩, n2, ho2, hc2, _, hd2⟩, _⟩ := I.list hB
  simp only at hc hd hc2 hd2
  subst hc hd hc2 hd2
  have hl := r.length
  have hl2 := r2.length
  refine concat_meets ⟨_, ho, rfl⟩ ⟨_, ho2, rfl⟩ noFill_list_add seq_list_add PySem.F.slot_list_add PySem.F.entry_list_add (PySem.F.args_list_add_2 _ _) (PyProof.Rows.list_addW l b its.toArray its2.toArray n n2 dd dd2 slt slt2 (by rw [List.size_toArray, List.size_toArray]; omega)) ⟨ho, ho2, ?_⟩
  have ea : its.toArray ++ its2.toArray = (its ++ its2).toArray := by simp
  rw [ea]
  exact ⟨.ref _, _, I.lnew (t' := s.toks) (r.append r2) (by rw [List.length_append]; omega), rfl, q _ I.fresh⟩
theorem Ev.cat (ha : Ei k X a ds xs) (hb : Ei k X b ds ys) (hz : xs.length + ys.length ≤ 100000) : Ev k X (.BinOp a .Add b pos) ds (.list (xs ++ ys)) := fun A F H σ sl Q q =>
  WE.of (pe_op op_catR we we) (ha A F H σ sl _ fun p vs F1 H1 s1 hr hv => hb A F1 H1 σ (sl.step s1) _ fun p' ws F2 H2 s2 hr' hw =>
    ⟨p, p', vs, ws, rfl, rfl, Same.seq s2.h hr, hr', by rw [dpa_len hv, dpa_len hw]; exact sz_ok hz, fun c hc => by
      have n := Ev.newL (k := k) (vs := vs ++ ws) sl.w (s1.trans s2) hc (dpa_app (dpa_ex (sel_mono (sl.w.step s1) s2) _ _ hv) hw)
      exact q _ _ _ n.1 n.2⟩)
theorem En.cat (ha : Ei .fr X a ds xs) (hb : Ei .fr X b ds ys) (hz : xs.length + ys.length ≤ 100000) : En X (.BinOp a .Add b pos) ds (xs ++ ys) := fun A F H σ sl Q q =>
  WE.of (pe_op op_catR we we) (ha A F H σ sl _ fun p vs F1 H1 s1 hr hv => hb A F1 H1 σ (sl.step s1) _ fun p' ws F2 H2 s2 hr' hw =>
    ⟨p, p', vs, ws, rfl, rfl, Same.seq s2.h hr, hr', by rw [dpa_len hv, dpa_len hw]; exact sz_ok hz, fun c hc => by
      have n := own_new (o := .lst (vs ++ ws)) sl.w (s1.trans s2) hc
      exact q c _ F2 _ n.1 n.2.1 n.2.2 upd_same (dpa_app (dpa_ex s2.f _ _ hv) hw)⟩)
/-! built-ins by their names -/
variable {nm : Str} {p : Pos} {T id : String} {r : List V → Hp → VK → Prop}
/-- what a call by values gives, by data -/
def RC (K : PySem.W.Frag) (r : List V → Hp → VK → Prop) (ka : Kd) (xs : List PyData) (k : Kd) (z : PyData) : Prop := ∀ (A F H : Hp) (vs : List V), Wo A F H → DqAll K (selH ka A F H) vs xs → ∀ Q : VK, (∀ w F' H', Stp F H F' H' → Dq K (selH k A F' H') w z → Q w H') → r vs H Q
theorem Ev.callB (hc : CallR X (.builtin id) r) (hg : Gl X nm) (hm : X.mg nm = none) (hv : bootBuiltins nm = some (.builtin id)) (ha : Ea ka X (e :: es) ds xs) (hr : RC X.K r ka xs k z) (hn : nm ≠ "__name__" := by decide) (hdb : (nm == ("__debug__" : Str)) = false := by decide)
    (he : starEach (e :: es) X.env = (false, eval e X.env) :: starEach es X.env := by rfl) (hpl : (backTo pos (starEach es X.env)).any (·.1) = false := by rfl) : Ev k X (.Call (.Name nm p) (e :: es) [] pos) ds z := fun A F H σ sl Q q =>
  WE.of (pe_callB hc hg hm hv wa hn hdb he hpl) (ha A F H σ sl _ fun vs F1 H1 s1 hvs => hr A F1 H1 vs (sl.w.step s1) hvs Q fun w F2 H2 s2 hw => q w F2 H2 (s1.trans s2) hw)
theorem Ev.callTy (hc : CallR X (.type T) r) (hg : Gl X nm) (hm : X.mg nm = none) (hv : bootBuiltins nm = some (.type T)) (ha : Ea ka X (e :: es) ds xs) (hr : RC X.K r ka xs k z) (hn : nm ≠ "__name__" := by decide) (hdb : (nm == ("__debug__" : Str)) = false := by decide)
    (he : starEach (e :: es) X.env = (false, eval e X.env) :: starEach es X.env := by rfl) (hpl : (backTo pos (starEach es X.env)).any (·.1) = false := by rfl) : Ev k X (.Call (.Name nm p) (e :: es) [] pos) ds z := fun A F H σ sl Q q =>
  WE.of (pe_callTy hc hg hm hv wa hn hdb he hpl) (ha A F H σ sl _ fun vs F1 H1 s1 hvs => hr A F1 H1 vs (sl.w.step s1) hvs Q fun w F2 H2 s2 hw => q w F2 H2 (s1.trans s2) hw)
theorem len_boot : bootBuiltins "len" = some (.builtin "len") := PySem.boot_len
theorem Ev.lenL (hm : X.mg "len" = none) (ha : Ev ka X e ds (.list xs)) (hg : Gl X "len" := by rfl) (hes : starEach [e] X.env = (false, eval e X.env) :: starEach [] X.env := by rfl) (hpl : (backTo pos (starEach [] X.env)).any (·.1) = false := by rfl) :
    Ev k X (.Call (.Name "len" p) [e] [] pos) ds (.int (xs.length : Int)) := Ev.callB call_len_seq hg hm len_boot (Ea.cons ha Ea.nil hes) (fun A F H vs w hv Q q => by
  cases hv with
  | cons h1 h2 =>
    cases h2
    cases h1 with
    | lst hr ha =>
      refine ⟨_, _, rfl, .inl (Same.seq (sel_H w) hr), ?_⟩
      rw [dpa_len ha]
      exact q _ F H (Stp.refl w.exF) (.int _)) (by decide) (by decide) hes hpl
theorem Ev.lenT (hm : X.mg "len" = none) (ha : Ev ka X e ds (.tuple xs)) (hg : Gl X "len" := by rfl) (hes : starEach [e] X.env = (false, eval e X.env) :: starEach [] X.env := by rfl) (hpl : (backTo pos (starEach [] X.env)).any (·.1) = false := by rfl) :
    Ev k X (.Call (.Name "len" p) [e] [] pos) ds (.int (xs.length : Int)) := Ev.callB call_len_seq hg hm len_boot (Ea.cons ha Ea.nil hes) (fun A F H vs w hv Q q => by
  cases hv with
  | cons h1 h2 =>
    cases h2
    cases h1 with
    | tup hr ha =>
      refine ⟨_, _, rfl, .inr (sqt_ex (sel_H w) hr), ?_⟩
      rw [dpa_len ha]
      exact q _ F H (Stp.refl w.exF) (.int _)) (by decide) (by decide) hes hpl
theorem Ev.intB (hm : X.mg "int" = none) (ha : Ev ka X e ds (.bool c)) (hg : Gl X "int" := by rfl) (hes : starEach [e] X.env = (false, eval e X.env) :: starEach [] X.env := by rfl) (hpl : (backTo pos (starEach [] X.env)).any (·.1) = false := by rfl) :
    Ev k X (.Call (.Name "int" p) [e] [] pos) ds (.int (if c then 1 else 0)) := Ev.callTy call_int1 hg hm (by decide +kernel) (Ea.cons ha Ea.nil hes) (fun A F H vs w hv Q q => by
  cases hv with
  | cons h1 h2 =>
    cases h2
    cases h1
    exact .inr ⟨c, rfl, q _ F H (Stp.refl w.exF) (.int _)⟩) (by decide) (by decide) hes hpl
theorem En.listOf (hm : X.mg "list" = none) (ha : Ei .fr X e ds xs) (hg : Gl X "list" := by rfl) (hes : starEach [e] X.env = (false, eval e X.env) :: starEach [] X.env := by rfl) (hpl : (backTo pos (starEach [] X.env)).any (·.1) = false := by rfl) :
    En X (.Call (.Name "list" p) [e] [] pos) ds xs := fun A F H σ sl Q q =>
  WE.of (pe_callTy call_list_of hg hm (by decide +kernel) (pa_cons we pa_nil hes) (by decide) (by decide) hes hpl) (ha A F H σ sl _ fun p vs F1 H1 s1 hr hv => ⟨p, vs, rfl, .inl hr, fun c hc => by
    have n := own_new (o := .lst vs) sl.w s1 hc
    exact q c _ F1 _ n.1 n.2.1 n.2.2 upd_same hv⟩)
theorem Ev.listOf (hm : X.mg "list" = none) (ha : Ei k X e ds xs) (hg : Gl X "list" := by rfl) (hes : starEach [e] X.env = (false, eval e X.env) :: starEach [] X.env := by rfl) (hpl : (backTo pos (starEach [] X.env)).any (·.1) = false := by rfl) :
    Ev k X (.Call (.Name "list" p) [e] [] pos) ds (.list xs) := fun A F H σ sl Q q =>
  WE.of (pe_callTy call_list_of hg hm (by decide +kernel) (pa_cons we pa_nil hes) (by decide) (by decide) hes hpl) (ha A F H σ sl _ fun p vs F1 H1 s1 hr hv => ⟨p, vs, rfl, .inl hr, fun c hc => by
    have n := Ev.newL (k := k) (vs := vs) sl.w s1 hc hv
    exact q _ _ _ n.1 n.2⟩)
theorem Ev.divmod {i j : Int} (hm : X.mg "divmod" = none) (ha : Ev ka X a ds (.int i)) (hb : Ev kb X b ds (.int j)) (hc : CDivP i j) (hg : Gl X "divmod" := by rfl) (hes : starEach [a, b] X.env = (false, eval a X.env) :: starEach [b] X.env := by rfl)
    (hes2 : starEach [b] X.env = (false, eval b X.env) :: starEach [] X.env := by rfl) (hpl : (backTo pos (starEach [b] X.env)).any (·.1) = false := by rfl) :
    Ev k X (.Call (.Name "divmod" p) [a, b] [] pos) ds (.tuple [.int (i / j), .int (i % j)]) := Ev.ofFr (Ev.callB (ka := .fr) call_divmodW hg hm (by decide +kernel) (Ea.cons (Ev.sc ha trivial) (Ea.cons (Ev.sc hb trivial) Ea.nil hes2) hes) (fun A F H vs w hv Q q => by
  cases hv with
  | cons h1 h2 =>
    cases h2 with
    | cons h2 h3 =>
      cases h3
      cases h1
      cases h2
      refine ⟨i, j, rfl, hc, fun p hp => ?_⟩
      have n := Ev.newT (k := .fr) (K := X.K) (xs := [.int (i / j), .int (i % j)]) (vs := [.int (i / j), .int (i % j)]) w (Stp.refl w.exF) hp (.cons (.int _) (.cons (.int _) .nil))
      exact q _ _ _ n.1 n.2) (by decide) (by decide) hes hpl)
/-! type(x) is T -/
def tyn : PyData → String
  | .none => "NoneType"
  | .bool _ => "bool"
  | .int _ => "int"
  | .str _ => "str"
  | .list _ => "list"
  | .tuple _ => "tuple"
  | .dict _ => "dict"
theorem tyb_of {K : PySem.W.Frag} {H : Hp} {v : V} (h : Dq K H v x) : TyB K H v (tyn x) := by
  cases h with
  | non => exact .non
  | bl b => exact .bl b
  | int i => exact .int i
  | str y => exact .str y
  | lst h _ => exact .lst h
  | tup h _ => exact .tup h
theorem Et.tyIs {nT : Str} {p0 pT pc : Pos} (hm : X.mg "type" = none) (ha : Ev ka X e ds x) (hT : X.mg nT = none) (hvT : bootBuiltins nT = some (.type T)) (hgT : Gl X nT := by rfl) (hg : Gl X "type" := by rfl) (hnT : nT ≠ "__name__" := by decide) (hdT : (nT == ("__debug__" : Str)) = false := by decide)
    (hes : starEach [e] X.env = (false, eval e X.env) :: starEach [] X.env := by rfl) (hpl : (backTo pc (starEach [] X.env)).any (·.1) = false := by rfl) :
    Et X (.Compare (.Call (.Name "type" p0) [e] [] pc) [.Is] [.Name nT pT] pos) ds (decide (tyn x = T)) := fun A F H σ sl Q q =>
  WT.of (pt_cmpR op_isTy (pe_callTy call_type1 hg hm (by decide +kernel) (pa_cons we pa_nil hes) (by decide) (by decide) hes hpl) (pe_bltn (v := .ty T) hgT hT hvT rfl hnT hdT) (nomark _))
    (ha A F H σ sl _ fun v F1 H1 s1 hv => ⟨v, tyn x, rfl, tyb_of (dp_ex (sel_H (sl.w.step s1)) _ _ hv), tyn x, T, rfl, rfl, _, rfl, q F1 H1 s1⟩)
theorem Et.tyNot {nT : Str} {p0 pT pc : Pos} (hm : X.mg "type" = none) (ha : Ev ka X e ds x) (hT : X.mg nT = none) (hvT : bootBuiltins nT = some (.type T)) (hgT : Gl X nT := by rfl) (hg : Gl X "type" := by rfl) (hnT : nT ≠ "__name__" := by decide) (hdT : (nT == ("__debug__" : Str)) = false := by decide)
    (hes : starEach [e] X.env = (false, eval e X.env) :: starEach [] X.env := by rfl) (hpl : (backTo pc (starEach [] X.env)).any (·.1) = false := by rfl) :
    Et X (.Compare (.Call (.Name "type" p0) [e] [] pc) [.IsNot] [.Name nT pT] pos) ds (!decide (tyn x = T)) := fun A F H σ sl Q q =>
  WT.of (pt_cmpR op_isNotTy (pe_callTy call_type1 hg hm (by decide +kernel) (pa_cons we pa_nil hes) (by decide) (by decide) hes hpl) (pe_bltn (v := .ty T) hgT hT hvT rfl hnT hdT) (nomark _))
    (ha A F H σ sl _ fun v F1 H1 s1 hv => ⟨v, tyn x, rfl, tyb_of (dp_ex (sel_H (sl.w.step s1)) _ _ hv), tyn x, T, rfl, rfl, _, rfl, q F1 H1 s1⟩)
theorem Ev.tyIs {nT : Str} {p0 pT pc : Pos} (hm : X.mg "type" = none) (ha : Ev ka X e ds x) (hT : X.mg nT = none) (hvT : bootBuiltins nT = some (.type T)) (hgT : Gl X nT := by rfl) (hg : Gl X "type" := by rfl) (hnT : nT ≠ "__name__" := by decide) (hdT : (nT == ("__debug__" : Str)) = false := by decide)
    (hes : starEach [e] X.env = (false, eval e X.env) :: starEach [] X.env := by rfl) (hpl : (backTo pc (starEach [] X.env)).any (·.1) = false := by rfl) :
    Ev k X (.Compare (.Call (.Name "type" p0) [e] [] pc) [.Is] [.Name nT pT] pos) ds (.bool (decide (tyn x = T))) := fun A F H σ sl Q q =>
  WE.of (pe_cmpR op_isTy (pe_callTy call_type1 hg hm (by decide +kernel) (pa_cons we pa_nil hes) (by decide) (by decide) hes hpl) (pe_bltn (v := .ty T) hgT hT hvT rfl hnT hdT) (nomark _))
    (ha A F H σ sl _ fun v F1 H1 s1 hv => ⟨v, tyn x, rfl, tyb_of (dp_ex (sel_H (sl.w.step s1)) _ _ hv), tyn x, T, rfl, rfl, q _ F1 H1 s1 (.bl _)⟩)
/-! isinstance(x, T) -/
theorem tyx_of {K : PySem.W.Frag} {H : Hp} {v : V} (h : Dq K H v x) : TyX K H v (.type (tyn x)) := by
  cases h with
  | non => exact .base .non
  | bl b => exact .base (.bl b)
  | int i => exact .base (.int i)
  | str y => exact .base (.str y)
  | lst h _ =>
    rcases h with (h | ⟨o, h⟩) | ⟨o, its, n, hk, hc, _⟩
    · exact .base (.lst h)
    · exact .base (.frz h)
    · exact .kList hk hc
  | tup h _ =>
    rcases h with (h | ⟨o, h⟩) | ⟨o, its, n, hk, hc, _⟩
    · exact .base (.tup h)
    · exact .fTuple h
    · exact .kTuple hk hc
theorem Ev.isi {nT : Str} {p0 pT : Pos} (hm : X.mg "isinstance" = none) (ha : Ev ka X e ds x) (hT : X.mg nT = none) (hk : kitB (tyn x) T = some c) (hvT : bootBuiltins nT = some (.type T)) (hgT : Gl X nT := by rfl) (hg : Gl X "isinstance" := by rfl) (hnT : nT ≠ "__name__" := by decide) (hdT : (nT == ("__debug__" : Str)) = false := by decide)
    (hes : starEach [e, .Name nT pT] X.env = (false, eval e X.env) :: starEach [.Name nT pT] X.env := by rfl) (hes2 : starEach [.Name nT pT] X.env = (false, eval (.Name nT pT) X.env) :: starEach [] X.env := by rfl) (hpl : (backTo pos (starEach [.Name nT pT] X.env)).any (·.1) = false := by rfl) :
    Ev k X (.Call (.Name "isinstance" p0) [e, .Name nT pT] [] pos) ds (.bool c) := fun A F H σ sl Q q =>
  WE.of (pe_callB call_isi hg hm (by decide +kernel) (pa_cons we (pa_cons (pe_bltn (v := .ty T) hgT hT hvT rfl hnT hdT) pa_nil hes2) hes) (by decide) (by decide) hes hpl)
    (ha A F H σ sl _ fun v F1 H1 s1 hv => ⟨v, .ty T, _, _, c, rfl, .ty T, tyx_of (dp_ex (sel_H (sl.w.step s1)) _ _ hv), kit_ty hk, q _ F1 H1 s1 (.bl _)⟩)
end
end Dn
namespace Dn
open PySem L2

/-! ### defs -/
def spF (K : PySem.W.Frag) (R : List PyData → PyData → Prop) : Sp := fun vs H Q _ => ∃ xs d, DqAll K H vs xs ∧ R xs d ∧ ∀ v N H', Same H H' → Same N H' → (∀ b o, H b = some o → N b = none) → Dq K N v d → Q v H'
def spN (K : PySem.W.Frag) (R : List PyData → List PyData → Prop) : Sp := fun vs H Q _ => ∃ xs ys, DqAll K H vs xs ∧ R xs ys ∧
  ∀ p ws N H', Same H H' → Same N H' → (∀ b o, H b = some o → N b = none) → H p = none → N p = none → H' p = some (.lst ws) → DqAll K N ws ys → Q (.ref p) H'
structure Dfn (P : Program) (w : World) (K : PySem.W.Frag) (mg : Str → Option Value) (base : Heap) (k : Nat) (x : Str) (sp : Sp) : Prop where
  ex : ∃ (f : Addr) (fd : FuncData) (ps : List Str), FnOk P w K mg base CX0 k f fd ps sp ∧ mg x = some (.ref f) ∧ PySem.W.keepIn K (.ref f) = true ∧ Binds K fd ps []
theorem join_stp {F H N H' : Hp} (e : Same F H) (h : Same H H') (n : Same N H') (nw : ∀ b o, H b = some o → N b = none) : Stp F H (Stab N F) H' ∧ Same N (Stab N F) := by
  have dj : ∀ b o, N b = some o → F b = none := fun b o q => by
    cases r : F b with
    | none => rfl
    | some u =>
      rw [nw b u (e b u r)] at q
      cases q
  refine ⟨⟨stab_F, h, fun b o q => ?_, fun b o q r => ?_⟩, stab_A dj⟩
  · unfold Stab at q
    cases r : F b with
    | some u =>
      rw [r] at q
      cases q
      exact h b _ (e b _ r)
    | none =>
      rw [r] at q
      exact n b o q
  · unfold Stab
    rw [r]
    exact nw b o q
section
variable {X : Cx} {a b e : Expr} {es : List Expr} {ds : List SD} {d x y z : PyData} {k ka kb kc : Kd} {pos p : Pos} {xs ys : List PyData} {n : Str} {j : Nat}
theorem Ev.call {R : List PyData → PyData → Prop} (D : Dfn X.prog X.w X.K X.mg X.base j n (spF X.K R)) (hr : Room j X.A) (ha : Ea ka X (e :: es) ds xs) (h : R xs z) (hg : Gl X n := by rfl) (hdb : (n == ("__debug__" : Str)) = false := by decide)
    (he : starEach (e :: es) X.env = (false, eval e X.env) :: starEach es X.env := by rfl) (hpl : (backTo pos (starEach es X.env)).any (·.1) = false := by rfl) : Ev k X (.Call (.Name n p) (e :: es) [] pos) ds z := Ev.ofFr fun A F H σ sl Q q => by
  obtain ⟨f, fd, ps, G, hm, hk, hb⟩ := D.ex
  refine WE.of (pe_call G hr hg hm hk hb .nil pass0 wa hdb he hpl) (ha A F H σ sl _ fun vs F1 H1 s1 hvs => ?_)
  rw [List.append_nil]
  refine ⟨xs, z, dpa_ex (sel_H (sl.w.step s1)) _ _ hvs, h, fun v N H' h1 h2 h3 h4 => ?_⟩
  have q2 := join_stp s1.fh h1 h2 h3
  exact q v (Stab N F1) H' (s1.trans q2.1) (dp_ex q2.2 _ _ h4)
theorem En.call {R : List PyData → List PyData → Prop} (D : Dfn X.prog X.w X.K X.mg X.base j n (spN X.K R)) (hr : Room j X.A) (ha : Ea ka X (e :: es) ds xs) (h : R xs ys) (hg : Gl X n := by rfl) (hdb : (n == ("__debug__" : Str)) = false := by decide)
    (he : starEach (e :: es) X.env = (false, eval e X.env) :: starEach es X.env := by rfl) (hpl : (backTo pos (starEach es X.env)).any (·.1) = false := by rfl) : En X (.Call (.Name n p) (e :: es) [] pos) ds ys := fun A F H σ sl Q q => by
  obtain ⟨f, fd, ps, G, hm, hk, hb⟩ := D.ex
  refine WE.of (pe_call G hr hg hm hk hb .nil pass0 wa hdb he hpl) (ha A F H σ sl _ fun vs F1 H1 s1 hvs => ?_)
  rw [List.append_nil]
  refine ⟨xs, ys, dpa_ex (sel_H (sl.w.step s1)) _ _ hvs, h, fun p ws N H' h1 h2 h3 hp np hl h4 => ?_⟩
  have q2 := join_stp s1.fh h1 h2 h3
  refine q p ws (Stab N F1) H' (s1.trans q2.1) (Same.free s1.h hp) ?_ hl (dpa_ex q2.2 _ _ h4)
  unfold Stab
  rw [Same.free s1.fh hp]
  exact np
end

/-! ### statements -/
inductive Out where
  | nx (ds : List SD)
  | bk (ds : List SD)
  | ct (ds : List SD)
  | rt (d : PyData)
  | rn (xs : List PyData)
def Wants (X : Cx) (A F0 : Hp) (D : Ends) : Out → Prop
  | .nx ds => ∀ F H σ, Same F0 F → Sl X.K A F H σ ds → D.nx σ H
  | .bk ds => ∀ F H σ, Same F0 F → Sl X.K A F H σ ds → D.bk σ H
  | .ct ds => ∀ F H σ, Same F0 F → Sl X.K A F H σ ds → D.ct σ H
  | .rt d => ∀ v F H, Same F0 F → Wo A F H → Dq X.K F v d → D.rt v H
  | .rn xs => ∀ p vs F H, Same F0 F → Wo A F H → A p = none → F p = none → H p = some (.lst vs) → DqAll X.K F vs xs → D.rt (.ref p) H
theorem Wants.mono {X : Cx} {A F0 F1 : Hp} {D : Ends} {o : Out} (h : Wants X A F0 D o) (e : Same F0 F1) : Wants X A F1 D o := by
  cases o with
  | nx ds => exact fun F H σ q => h F H σ (e.trans q)
  | bk ds => exact fun F H σ q => h F H σ (e.trans q)
  | ct ds => exact fun F H σ q => h F H σ (e.trans q)
  | rt d => exact fun v F H q => h v F H (e.trans q)
  | rn xs => exact fun p vs F H q => h p vs F H (e.trans q)
def Sx (X : Cx) (st : Stmt) (ds : List SD) (o : Out) : Prop := ∀ (A F H : Hp) (σ : St) (D : Ends), Sl X.K A F H σ ds → Wants X A F D o → WS X st D σ H
def Sxs (X : Cx) (sts : List Stmt) (ds : List SD) (o : Out) : Prop := ∀ (A F H : Hp) (σ : St) (D : Ends), Sl X.K A F H σ ds → Wants X A F D o → WSs X sts D σ H
def notNx : Out → Prop
  | .nx _ => False
  | _ => True
section
variable {X : Cx} {st : Stmt} {sts body orelse : List Stmt} {ds es : List SD} {o : Out} {e t : Expr} {pos p : Pos} {d x : PyData} {xs ys : List PyData} {k : Kd} {n : Str}
theorem Sxs.nil : Sxs X [] ds (.nx ds) := fun A F H σ D sl w => WSs.of pss_nil (w F H σ (ex_refl F) sl)
theorem Sxs.cons {es : List SD} (h : Sx X st ds (.nx es)) (h' : Sxs X sts es o) : Sxs X (st :: sts) ds o := fun A F H σ D sl w =>
  WSs.of (pss_cons ws wss) (h A F H σ { D with nx := WSs X sts D } sl (fun F1 H1 σ1 e1 sl1 => h' A F1 H1 σ1 D sl1 (w.mono e1)))
theorem Sxs.stop (h : Sx X st ds o) (n : notNx o) : Sxs X (st :: sts) ds o := fun A F H σ D sl w =>
  WSs.of (pss_cons ws wss) (h A F H σ { D with nx := WSs X sts D } sl (by
    cases o with
    | nx ds => exact n.elim
    | _ => exact w))
theorem Sxs.one (h : Sx X st ds o) : Sxs X [st] ds o := fun A F H σ D sl w => WSs.of (pss_one ws) (h A F H σ D sl w)
/-- less is known: e of d -/
def wkD (e d : SD) : Prop := e = d ∨ e = .unk ∨ ∃ y, d = .dat y ∧ e = .arg y
def wk : List SD → List SD → Prop
  | [], [] => True
  | e :: es, d :: ds => wkD e d ∧ wk es ds
  | _, _ => False
theorem wk_len : ∀ {es ds : List SD}, wk es ds → es.length = ds.length
  | [], [], _ => rfl
  | _ :: _, _ :: _, h => congrArg (· + 1) (wk_len h.2)
theorem wk_at : ∀ {es ds : List SD}, wk es ds → ∀ (i : Nat) d e, ds[i]? = some d → es[i]? = some e → wkD e d
  | _ :: _, _ :: _, h, 0, d, e, h1, h2 => by cases h1; cases h2; exact h.1
  | _ :: _, _ :: _, h, i + 1, d, e, h1, h2 => wk_at h.2 i d e h1 h2
theorem wkD.same {d : SD} : wkD d d := .inl rfl
theorem wkD.any {d : SD} : wkD .unk d := .inr (.inl rfl)
theorem Sl.wk {K : PySem.W.Frag} {A F H : Hp} {σ : St} (sl : Sl K A F H σ ds) (h : Dn.wk es ds) : Sl K A F H σ es := sl.weak (wk_len h) (wk_at h)
theorem Sxs.wk (h : Sxs X sts ds (.nx es)) {fs : List SD} (q : Dn.wk fs es) : Sxs X sts ds (.nx fs) := fun A F H σ D sl w => h A F H σ D sl fun F1 H1 σ1 e1 sl1 => w F1 H1 σ1 e1 (sl1.wk q)
theorem Sxs.pre (q : Dn.wk es ds) (h : Sxs X sts es o) : Sxs X sts ds o := fun A F H σ D sl w => h A F H σ D (sl.wk q) w
theorem Sx.wk (h : Sx X st ds (.nx es)) {fs : List SD} (q : Dn.wk fs es) : Sx X st ds (.nx fs) := fun A F H σ D sl w => h A F H σ D sl fun F1 H1 σ1 e1 sl1 => w F1 H1 σ1 e1 (sl1.wk q)
/-- an own list stands still from here on -/
theorem Sl.freeze {K : PySem.W.Frag} {A F H : Hp} {σ : St} {i : Nat} (sl : Sl K A F H σ ds) (hi : ds[i]? = some (.own xs)) : ∃ F', Same F F' ∧ Sl K A F' H σ (ds.set i (.dat (.list xs))) := by
  obtain ⟨o, e1, p, vs, e2, hA, hF, hH, h⟩ := sl.at_ i _ hi
  subst e2
  have hlt : i < ds.length := (List.getElem?_eq_some_iff.mp hi).1
  refine ⟨upd F p (.lst vs), ex_new hF, ⟨sl.w.exA, fun b u q => ?_, fun b u q => ?_⟩, by rw [List.length_set]; exact sl.len, fun l f hf => ?_, fun l m q aa bb hl hm hq hq' => ?_⟩
  · by_cases hb : b = p
    · subst hb
      rw [upd_same] at q
      rw [hH]
      exact q
    · rw [upd_ne hb] at q
      exact sl.w.exF b u q
  · rw [upd_ne (ne_of_none q hA)]
    exact sl.w.dj b u q
  · by_cases hil : i = l
    · subst hil
      rw [List.getElem?_set_self hlt] at hf
      cases hf
      exact ⟨_, e1, _, rfl, .lst (SqL.of upd_same) (dpa_ex (ex_new hF) _ _ h)⟩
    · rw [List.getElem?_set_ne hil] at hf
      obtain ⟨o', e', h'⟩ := sl.at_ l f hf
      refine ⟨o', e', ?_⟩
      cases f with
      | unk => trivial
      | dat y =>
        obtain ⟨v, ev, hv⟩ := h'
        exact ⟨v, ev, dp_ex (ex_new hF) _ _ hv⟩
      | arg y =>
        obtain ⟨v, ev, hv⟩ := h'
        refine ⟨v, ev, dp_ex (fun b u q => ?_) _ _ hv⟩
        unfold Stab at q ⊢
        by_cases hb : b = p
        · subst hb
          rw [hF] at q
          rw [hA] at q
          cases q
        · rw [upd_ne hb]
          exact q
      | own zs =>
        obtain ⟨q, ws, eq, qA, qF, qH, hz⟩ := h'
        subst eq
        have hne : q ≠ p := fun z => hil (sl.one i l p xs zs hi hf e1 (by rw [← z]; exact e'))
        exact ⟨q, ws, rfl, qA, by rw [upd_ne hne]; exact qF, qH, dpa_ex (ex_new hF) _ _ hz⟩
  · have n1 : i ≠ l := fun z => by
      subst z
      rw [List.getElem?_set_self hlt] at hl
      cases hl
    have n2 : i ≠ m := fun z => by
      subst z
      rw [List.getElem?_set_self hlt] at hm
      cases hm
    rw [List.getElem?_set_ne n1] at hl
    rw [List.getElem?_set_ne n2] at hm
    exact sl.one l m q aa bb hl hm hq hq'
theorem Sxs.freeze (i : Nat) (hi : ds[i]? = some (.own xs)) (h : Sxs X sts (ds.set i (.dat (.list xs))) o) : Sxs X sts ds o := fun A F H σ D sl w => by
  obtain ⟨F', e, sl'⟩ := sl.freeze hi
  exact h A F' H σ D sl' (w.mono e)
/-! assignment -/
theorem Sx.set (i : Nat) {pos' : Pos} (hN : X.N.Nodup) (h : Ev .fr X e ds d) (hi : X.N[i]? = some n := by rfl) (hx : Loc X.env.scope n := by first | exact Or.inl rfl | exact Or.inr rfl) (hs : swapsWith e (some (.Name n pos')) pos.line X.env = pure false := by rfl) (hf : X.fn n = true ∨ X.env.scope.names.lookup n = some .local := by first | exact .inl rfl | exact .inr rfl | assumption) :
    Sx X (.Assign [.Name n pos'] e pos) ds (.nx (ds.set i (.dat d))) := fun A F H σ D sl w =>
  WS.of (ps_set hN hi hx we hs hf) (h A F H σ sl _ fun v F1 H1 s1 hv => w F1 H1 _ s1.f ((sl.step s1).put (fun _ z => by cases z) ⟨v, rfl, hv⟩))
theorem Sx.setA (i : Nat) {pos' : Pos} (hN : X.N.Nodup) (h : Ev .st X e ds d) (hi : X.N[i]? = some n := by rfl) (hx : Loc X.env.scope n := by first | exact Or.inl rfl | exact Or.inr rfl) (hs : swapsWith e (some (.Name n pos')) pos.line X.env = pure false := by rfl) (hf : X.fn n = true ∨ X.env.scope.names.lookup n = some .local := by first | exact .inl rfl | exact .inr rfl | assumption) :
    Sx X (.Assign [.Name n pos'] e pos) ds (.nx (ds.set i (.arg d))) := fun A F H σ D sl w =>
  WS.of (ps_set hN hi hx we hs hf) (h A F H σ sl _ fun v F1 H1 s1 hv => w F1 H1 _ s1.f ((sl.step s1).put (fun _ z => by cases z) ⟨v, rfl, hv⟩))
theorem Sx.setN (i : Nat) {pos' : Pos} (hN : X.N.Nodup) (h : En X e ds xs) (hi : X.N[i]? = some n := by rfl) (hx : Loc X.env.scope n := by first | exact Or.inl rfl | exact Or.inr rfl) (hs : swapsWith e (some (.Name n pos')) pos.line X.env = pure false := by rfl) (hf : X.fn n = true ∨ X.env.scope.names.lookup n = some .local := by first | exact .inl rfl | exact .inr rfl | assumption) :
    Sx X (.Assign [.Name n pos'] e pos) ds (.nx (ds.set i (.own xs))) := fun A F H σ D sl w =>
  WS.of (ps_set hN hi hx we hs hf) (h A F H σ sl _ fun p vs F1 H1 s1 hp fp hl hv => w F1 H1 _ s1.f ((sl.step s1).putOwn (fun j a _ hj hs => by
    obtain ⟨o, e1, p', vs', e2, _, _, hH, _⟩ := sl.at_ j _ hj
    rw [e1] at hs
    have z := Option.some.inj hs
    rw [e2] at z
    cases z
    rw [hp] at hH
    cases hH) ⟨p, vs, rfl, Same.free sl.w.exA hp, fp, hl, hv⟩))
/-- a, b = x, y -/
theorem Sx.par (i j : Nat) {m : Str} {a b : Expr} {x y : PyData} {px py pt : Pos} {kt k2 pt2} (hc : X.calm = true) (hN : X.N.Nodup) (hij : i ≠ j) (ha : Ev .fr X a ds x) (hb : Ev .fr X b ds y) (hi : X.N[i]? = some n := by rfl) (hj : X.N[j]? = some m := by rfl)
    (hx : X.env.scope.names.lookup n = some .local := by rfl) (hy : X.env.scope.names.lookup m = some .local := by rfl) (hw : swappedStores [.Tuple [.Name n px, .Name m py] kt pt] (.Tuple [a, b] k2 pt2) X.env = pure (some [n, m]) := by rfl)
    (hs : swapsWithSole [.Tuple [.Name n px, .Name m py] kt pt] (.Tuple [a, b] k2 pt2) pos.line X.env = pure false := by rfl)
    (hes : starEach [a, b] X.env = (false, eval a X.env) :: starEach [b] X.env := by rfl) (hes2 : starEach [b] X.env = (false, eval b X.env) :: starEach [] X.env := by rfl) :
    Sx X (.Assign [.Tuple [.Name n px, .Name m py] kt pt] (.Tuple [a, b] k2 pt2) pos) ds (.nx ((ds.set i (.dat x)).set j (.dat y))) := fun A F H σ D sl w =>
  WS.of (ps_par hc hN hi hj hij hx hy wa hw hs) (Ea.cons ha (Ea.cons hb Ea.nil hes2) hes A F H σ sl _ fun vs F1 H1 s1 hv => by
    cases hv with
    | cons h1 h2 =>
      cases h2 with
      | cons h2 h3 =>
        cases h3
        exact ⟨_, _, rfl, w F1 H1 _ s1.f (((sl.step s1).put (i := i) (d := .dat x) (fun _ z => by cases z) ⟨_, rfl, h1⟩).put (i := j) (d := .dat y) (fun _ z => by cases z) ⟨_, rfl, h2⟩)⟩)
/-! targets -/
def kSD (k : Kd) (d : PyData) : SD := match k with
  | .fr => .dat d
  | _ => .arg d
/-- only the slots at ws may have changed -/
def Wr (ws : List Nat) (σ σ' : St) : Prop := ∀ vs : List Nat, (∀ i ∈ ws, i ∈ vs) → wipe σ' vs = wipe σ vs
theorem wipe_set {σ : St} {i : Nat} {o : Option V} : ∀ {vs : List Nat}, i ∈ vs → wipe (σ.set i o) vs = wipe σ vs
  | v :: vs, h => by
    unfold wipe
    by_cases hv : i ∈ vs
    · rw [wipe_set hv]
    · have e : i = v := by
        rcases List.mem_cons.mp h with e | e
        · exact e
        · exact (hv e).elim
      subst e
      have key : ∀ {vs : List Nat}, wipe (σ.set i o) vs = (wipe σ vs).set i ((wipe (σ.set i o) vs)[i]?.getD none) := fun {vs} => by
        apply List.ext_getElem?
        intro j
        by_cases hj : i = j
        · subst hj
          by_cases hl : i < σ.length
          · rw [List.getElem?_set_self (by rw [wipe_length]; exact hl)]
            have : i < (wipe (σ.set i o) vs).length := by rw [wipe_length, List.length_set]; exact hl
            rw [List.getElem?_eq_getElem this]
            rfl
          · rw [List.getElem?_eq_none (by rw [wipe_length, List.length_set]; omega), List.getElem?_eq_none (by rw [List.length_set, wipe_length]; omega)]
        · rw [List.getElem?_set_ne hj]
          exact wipe_other hj
      rw [key, List.set_set]
  where
  wipe_other {i j : Nat} (hj : i ≠ j) : ∀ {vs : List Nat}, (wipe (σ.set i o) vs)[j]? = (wipe σ vs)[j]?
    | [] => by
      unfold wipe
      rw [List.getElem?_set_ne hj]
    | v :: vs => by
      unfold wipe
      by_cases hv : v = j
      · subst hv
        by_cases hl : v < σ.length
        · rw [List.getElem?_set_self (by rw [wipe_length, List.length_set]; exact hl), List.getElem?_set_self (by rw [wipe_length]; exact hl)]
        · rw [List.getElem?_eq_none (by rw [List.length_set, wipe_length, List.length_set]; omega), List.getElem?_eq_none (by rw [List.length_set, wipe_length]; omega)]
      · rw [List.getElem?_set_ne hv, List.getElem?_set_ne hv]
        exact wipe_other hj
theorem Wr.refl {σ : St} : Wr [] σ σ := fun _ _ => rfl
theorem Wr.set {σ : St} {i : Nat} {o : Option V} : Wr [i] σ (σ.set i o) := fun vs h => wipe_set (h i (by simp))
theorem Wr.trans {σ σ1 σ2 : St} {a b : List Nat} (h : Wr a σ σ1) (h' : Wr b σ1 σ2) : Wr (a ++ b) σ σ2 := fun vs q => (h' vs fun i hi => q i (List.mem_append_right _ hi)).trans (h vs fun i hi => q i (List.mem_append_left _ hi))
def Gx (k : Kd) (X : Cx) (tg : Expr) (ds : List SD) (d : PyData) (es : List SD) (ws : List Nat) : Prop := ∀ (A F H : Hp) (σ : St) (v : V), Sl X.K A F H σ ds → Dq X.K (selH k A F H) v d → ∀ Q : St → Hp → Prop, (∀ σ', Sl X.K A F H σ' es → Wr ws σ σ' → Q σ' H) → WG X tg v σ H Q
section
variable {ws wt : List Nat}
theorem Gx.name (i : Nat) (hN : X.N.Nodup) (hi : X.N[i]? = some n := by rfl) (hx : Loc X.env.scope n := by first | exact Or.inl rfl | exact Or.inr rfl) (hf : X.fn n = true ∨ X.env.scope.names.lookup n = some .local := by first | exact .inl rfl | exact .inr rfl | assumption) :
    Gx .fr X (.Name n pos) ds d (ds.set i (.dat d)) [i] := fun A F H σ v sl h Q q => WG.of (pg_name hN hi hx hf) (q _ (sl.put (fun _ z => by cases z) ⟨v, rfl, h⟩) Wr.set)
theorem Gx.nameA (i : Nat) (hN : X.N.Nodup) (hi : X.N[i]? = some n := by rfl) (hx : Loc X.env.scope n := by first | exact Or.inl rfl | exact Or.inr rfl) (hf : X.fn n = true ∨ X.env.scope.names.lookup n = some .local := by first | exact .inl rfl | exact .inr rfl | assumption) :
    Gx .st X (.Name n pos) ds d (ds.set i (.arg d)) [i] := fun A F H σ v sl h Q q => WG.of (pg_name hN hi hx hf) (q _ (sl.put (fun _ z => by cases z) ⟨v, rfl, h⟩) Wr.set)
theorem Gx.sc {k k2 : Kd} (s : Sc d) (h : Gx k2 X e ds d es ws) : Gx k X e ds d es ws := fun A F H σ v sl hv Q q => h A F H σ v sl (sc_any s hv) Q q
theorem Gx.ofFr {k : Kd} (h : Gx .st X e ds d es ws) : Gx .fr X e ds d es ws := fun A F H σ v sl hv Q q => h A F H σ v sl (dp_ex stab_F _ _ hv) Q q
def Gxs (k : Kd) (X : Cx) (tgs : List Expr) (ds : List SD) (xs : List PyData) (es : List SD) (ws : List Nat) : Prop := ∃ u, PGs X tgs u ∧ ∀ (A F H : Hp) (σ : St) (vs : List V), Sl X.K A F H σ ds → DqAll X.K (selH k A F H) vs xs → ∀ Q : St → Hp → Prop, (∀ σ', Sl X.K A F H σ' es → Wr ws σ σ' → Q σ' H) → u vs σ H Q
theorem Gxs.nil : Gxs k X [] ds [] ds [] := ⟨_, pgs_nil, fun A F H σ vs sl h Q q => by cases h; exact ⟨rfl, q σ sl Wr.refl⟩⟩
theorem Gxs.cons {tg : Expr} {tgs : List Expr} {es fs : List SD} (h : Gx k X tg ds d es ws) (h' : Gxs k X tgs es xs fs wt) (hs : (assignEach (tg :: tgs) X.env).map (·.2) = assign tg X.env :: (assignEach tgs X.env).map (·.2) := by rfl) : Gxs k X (tg :: tgs) ds (d :: xs) fs (ws ++ wt) := by
  obtain ⟨u, hu, q'⟩ := h'
  refine ⟨_, pgs_cons wg hu hs, fun A F H σ vs sl hv Q q => ?_⟩
  cases hv with
  | cons h1 h2 => exact ⟨_, _, rfl, h A F H σ _ sl h1 _ fun σ1 sl1 w1 => q' A F H σ1 _ sl1 h2 Q fun σ2 sl2 w2 => q σ2 sl2 (w1.trans w2)⟩
theorem Gx.tup {tgs : List Expr} {kk : Nat} (hc : X.calm = true) (h : Gxs k X tgs ds xs es ws) (hn : (assignEach tgs X.env).length = xs.length := by rfl) (hst : (assignEach tgs X.env).findIdx? (·.1) = none := by rfl) : Gx k X (.Tuple tgs kk pos) ds (.tuple xs) es ws := fun A F H σ v sl hv Q q => by
  obtain ⟨u, hu, q'⟩ := h
  refine WG.of (pg_tup hc hu hn hst) ?_
  cases hv with
  | tup ht ha => exact ⟨_, _, rfl, sqt_ex (sel_H sl.w) ht, dpa_len ha, q' A F H σ _ sl ha Q q⟩
end
/-- target = value -/
theorem Sx.asg {tg : Expr} {ws' : List Nat} (h : Ev k X e ds d) (hg : Gx k X tg ds d es ws') (hs : swapsWithSole [tg] e pos.line X.env = pure false := by rfl) (hw : swappedStores [tg] e X.env = pure none := by rfl)
    (h1 : (assignEach [tg] X.env).map (·.2) = [assign tg X.env] := by rfl) : Sx X (.Assign [tg] e pos) ds (.nx es) := fun A F H σ D sl w =>
  WS.of (ps_asg we wg hs hw h1) (h A F H σ sl _ fun v F1 H1 s1 hv => hg A F1 H1 σ v (sl.step s1) hv _ fun σ' sl' _ => w F1 H1 σ' s1.f sl')
/-! an own list is written -/
theorem Sl.write {K : PySem.W.Frag} {A F H : Hp} {σ : St} {i : Nat} {p : Addr} {ws : List V} (sl : Sl K A F H σ ds) (hi : ds[i]? = some (.own xs)) (hp : σ[i]? = some (some (.ref p))) (h : DqAll K F ws ys) : Sl K A F (upd H p (.lst ws)) σ (ds.set i (.own ys)) := by
  obtain ⟨o, e1, p', vs, e2, hA, hF, hH, _⟩ := sl.at_ i _ hi
  subst e2
  rw [e1] at hp
  cases hp
  have hlt : i < ds.length := (List.getElem?_eq_some_iff.mp hi).1
  refine ⟨⟨fun b u q => ?_, fun b u q => ?_, sl.w.dj⟩, by rw [List.length_set]; exact sl.len, fun l f hf => ?_, fun l m q aa bb hl hm hq hq' => ?_⟩
  · rw [upd_ne (ne_of_none q hA)]
    exact sl.w.exA b u q
  · rw [upd_ne (ne_of_none q hF)]
    exact sl.w.exF b u q
  · by_cases hil : i = l
    · subst hil
      rw [List.getElem?_set_self hlt] at hf
      cases hf
      exact ⟨_, e1, p, ws, rfl, hA, hF, upd_same, h⟩
    · rw [List.getElem?_set_ne hil] at hf
      obtain ⟨o', e', h'⟩ := sl.at_ l f hf
      refine ⟨o', e', ?_⟩
      cases f with
      | own zs =>
        obtain ⟨q, us, eq, qA, qF, qH, hz⟩ := h'
        subst eq
        have hne : q ≠ p := fun z => hil (sl.one i l p xs zs hi hf e1 (by rw [← z]; exact e'))
        exact ⟨q, us, rfl, qA, qF, by rw [upd_ne hne]; exact qH, hz⟩
      | _ => exact h'
  · have key : ∀ (l : Nat) (a : List PyData), (ds.set i (.own ys))[l]? = some (.own a) → ∃ a', ds[l]? = some (.own a') := fun l a q => by
      by_cases hil : i = l
      · subst hil
        exact ⟨xs, hi⟩
      · rw [List.getElem?_set_ne hil] at q
        exact ⟨a, q⟩
    obtain ⟨a', qa⟩ := key l aa hl
    obtain ⟨b', qb⟩ := key m bb hm
    exact sl.one l m q a' b' qa qb hq hq'
theorem lt_ok {n : Nat} (h : n < 100000) : n < sizeLine := Nat.lt_of_lt_of_le h (by decide)
theorem Sx.append (i : Nat) {pn apos cpos : Pos} (hd : ds[i]? = some (.own xs)) (h : Ev .fr X e ds d) (hz : xs.length < 100000) (hN : X.N[i]? = some n := by rfl) (hv : Vis X.env.scope n := by first | exact Or.inl rfl | exact Or.inr (Or.inl rfl) | exact Or.inr (Or.inr rfl)) (hb : (n == ("__debug__" : Str)) = false := by decide)
    (hc : (n == ("__classdict__" : Str)) = false := by decide) (hbase : attributeBase (.Name n pn) "append" X.env (eval (.Name n pn) X.env) = eval (.Name n pn) X.env := by rfl)
    (hfew : ((backTo cpos (starEach (e :: []) X.env)).all (fun x => !x.1) && (backToKw cpos (keywordEach [] X.env)).all (fun x => x.1.isSome)
      && decide ((e :: []).length + ([] : List Keyword).length + (if ([] : List Keyword).isEmpty then 0 else 1) < 30)) = true := by rfl)
    (hline : (apos.endLine == cpos.line) = true := by rfl) (hs : starEach (e :: []) X.env = (false, eval e X.env) :: starEach [] X.env := by rfl) (hplain : (backTo cpos (starEach [] X.env)).any (·.1) = false := by rfl)
    (hsw : swapsWith (.Call (.Attribute (.Name n pn) "append" apos) [e] [] cpos) none pos.line X.env = pure false := by rfl) :
    Sx X (.Expr (.Call (.Attribute (.Name n pn) "append" apos) [e] [] cpos) pos) ds (.nx (ds.set i (.own (xs ++ [d])))) := fun A F H σ D sl w => by
  obtain ⟨o, e1, p, vs, e2, hA, hF, hH, hvs⟩ := sl.at_ i _ hd
  subst e2
  refine WS.of (ps_expr (pe_bm PySem.F.plainAttrs_list PySem.F.slot_list_append PySem.F.type_list_append mt_append (pv i hN hv hb hc) (pa_cons we pa_nil hs) hbase hfew hline hs hplain) hsw) ?_
  refine ⟨_, e1, .inl ⟨rfl, _, SqL.of hH⟩, h A F H σ sl _ fun v F1 H1 s1 hv1 => ⟨p, vs, v, rfl, rfl, s1.h p _ hH, ?_, ?_⟩⟩
  · rw [dpa_len hvs]
    exact lt_ok hz
  · exact w F1 _ σ s1.f ((sl.step s1).write hd e1 (dpa_app (dpa_ex s1.f _ _ hvs) (.cons hv1 .nil)))
/-- xs[i] = e -/
theorem Sx.setItem (i : Nat) {j : Expr} {l : Int} {m : Nat} {pn tpos : Pos} {kj : Kd} (hd : ds[i]? = some (.own xs)) (h : Ev .fr X e ds d) (hj : Ev kj X j ds (.int l)) (hm : ixN xs.length l = some m) (hN : X.N[i]? = some n := by rfl) (hv : Vis X.env.scope n := by first | exact Or.inl rfl | exact Or.inr (Or.inl rfl) | exact Or.inr (Or.inr rfl)) (hb : (n == ("__debug__" : Str)) = false := by decide)
    (hc : (n == ("__classdict__" : Str)) = false := by decide) (ha : ∀ v, assign (.Subscript (.Name n pn) j tpos) X.env v = (do
      let ov ← holding [v] (eval (.Name n pn) X.env)
      let iv ← holding [v, ov] (eval j X.env)
      standAt tpos
      holding [v, ov, iv] (setItem ov iv v)
      release [v, ov, iv] []) := by intro _; rfl) (hs : swapsWithSole [.Subscript (.Name n pn) j tpos] e pos.line X.env = pure false := by rfl) (hw : swappedStores [.Subscript (.Name n pn) j tpos] e X.env = pure none := by rfl)
    (h1 : (assignEach [.Subscript (.Name n pn) j tpos] X.env).map (·.2) = [assign (.Subscript (.Name n pn) j tpos) X.env] := by rfl) :
    Sx X (.Assign [.Subscript (.Name n pn) j tpos] e pos) ds (.nx (ds.set i (.own (xs.set m d)))) := fun A F H σ D sl w => by
  obtain ⟨o, e1, p, vs, e2, hA, hF, hH, hvs⟩ := sl.at_ i _ hd
  subst e2
  refine WS.of (ps_asg we (pg_sub (pv i hN hv hb hc) we set_list ha) hs hw h1) (h A F H σ sl _ fun v F1 H1 s1 hv1 => ⟨_, e1, hj A F1 H1 σ (sl.step s1) _ fun u F2 H2 s2 hu => ?_⟩)
  cases hu
  exact ⟨p, vs, l, m, rfl, rfl, s2.h p _ (s1.h p _ hH), ixN_dq hvs hm, w F2 _ σ (s1.f.trans s2.f) (((sl.step s1).step s2).write hd e1 (dpa_set (dp_ex s2.f _ _ hv1) _ (dpa_ex (s1.f.trans s2.f) _ _ hvs)))⟩
/-! if, return, pass .. -/
theorem Sx.ifT (h : Et X t ds true) (h' : Sxs X body ds o) : Sx X (.If t body orelse pos) ds o := fun A F H σ D sl w =>
  WS.of (ps_if (u := fun _ _ _ => False) wt wss ⟨fun _ _ _ _ _ _ f => f.elim⟩) (h A F H σ sl _ fun F1 H1 s1 => iteT (h' A F1 H1 σ D (sl.step s1) (w.mono s1.f)))
theorem Sx.ifF (h : Et X t ds false) (h' : Sxs X orelse ds o) : Sx X (.If t body orelse pos) ds o := fun A F H σ D sl w =>
  WS.of (ps_if (t := fun _ _ _ => False) wt ⟨fun _ _ _ _ _ _ f => f.elim⟩ wss) (h A F H σ sl _ fun F1 H1 s1 => iteF (h' A F1 H1 σ D (sl.step s1) (w.mono s1.f)))
theorem Sx.if_ {c : Bool} (h : Et X t ds c) (h1 : c = true → Sxs X body ds o) (h2 : c = false → Sxs X orelse ds o) : Sx X (.If t body orelse pos) ds o := by
  cases c with
  | true => exact Sx.ifT h (h1 rfl)
  | false => exact Sx.ifF h (h2 rfl)
theorem Sx.skip (h : Et X t ds false) : Sx X (.If t body [] pos) ds (.nx ds) := Sx.ifF h Sxs.nil
theorem Sx.ret (h : Ev .fr X e ds d) : Sx X (.Return (some e) pos) ds (.rt d) := fun A F H σ D sl w =>
  WS.of (ps_ret we) (h A F H σ sl _ fun v F1 H1 s1 hv => w v F1 H1 s1.f (sl.w.step s1) hv)
theorem Sx.retN (h : En X e ds xs) : Sx X (.Return (some e) pos) ds (.rn xs) := fun A F H σ D sl w =>
  WS.of (ps_ret we) (h A F H σ sl _ fun p vs F1 H1 s1 hp fp hl hv => w p vs F1 H1 s1.f (sl.w.step s1) (Same.free sl.w.exA hp) fp hl hv)
/-- return of an own list's name -/
theorem Sx.retOwn (i : Nat) {pn : Pos} (hd : ds[i]? = some (.own xs)) (hN : X.N[i]? = some n := by rfl) (hv : Vis X.env.scope n := by first | exact Or.inl rfl | exact Or.inr (Or.inl rfl) | exact Or.inr (Or.inr rfl)) (hb : (n == ("__debug__" : Str)) = false := by decide)
    (hc : (n == ("__classdict__" : Str)) = false := by decide) : Sx X (.Return (some (.Name n pn)) pos) ds (.rn xs) := fun A F H σ D sl w => by
  obtain ⟨o, e1, p, vs, e2, hA, hF, hH, hvs⟩ := sl.at_ i _ hd
  subst e2
  exact WS.of (ps_ret (pv i hN hv hb hc)) ⟨_, e1, w p vs F H (ex_refl F) sl.w hA hF hH hvs⟩
theorem Sx.pass : Sx X (.Pass pos) ds (.nx ds) := fun A F H σ D sl w => WS.of ps_pass (w F H σ (ex_refl F) sl)
theorem Sx.break_ : Sx X (.Break pos) ds (.bk ds) := fun A F H σ D sl w => WS.of ps_break (w F H σ (ex_refl F) sl)
theorem Sx.continue_ : Sx X (.Continue pos) ds (.ct ds) := fun A F H σ D sl w => WS.of ps_continue (w F H σ (ex_refl F) sl)
theorem Sx.drop (h : Ev k X e ds d) (hs : swapsWith e none pos.line X.env = pure false := by rfl) : Sx X (.Expr e pos) ds (.nx ds) := fun A F H σ D sl w =>
  WS.of (ps_expr we hs) (h A F H σ sl _ fun v F1 H1 s1 hv => w F1 H1 σ s1.f (sl.step s1))
/-! while: I says what is known ahead of each turn; n turns -/
/-- where a loop's body comes to -/
inductive Turned (es : List SD) : Out → Prop where
  | nx : Turned es (.nx es)
  | ct : Turned es (.ct es)
theorem wants_turn {A F : Hp} {D : Ends} {es : List SD} {o : Out} (t : Turned es o) {N : St → Hp → Prop} (h : ∀ F1 H1 σ1, Same F F1 → Sl X.K A F1 H1 σ1 es → N σ1 H1) : Wants X A F { D with nx := N, ct := N, bk := D.nx } o := by
  cases t with
  | nx => exact h
  | ct => exact h
/-- what a loop makes of its last body -/
inductive Left : Out → Out → Prop where
  | rt (d : PyData) : Left (.rt d) (.rt d)
  | rn (xs : List PyData) : Left (.rn xs) (.rn xs)
  | bk (ds : List SD) : Left (.bk ds) (.nx ds)
theorem wants_left {A F : Hp} {D : Ends} {N : St → Hp → Prop} {o' o : Out} (l : Left o' o) (w : Wants X A F D o) : Wants X A F { D with nx := N, ct := N, bk := D.nx } o' := by
  cases l with
  | rt d => exact w
  | rn xs => exact w
  | bk ds => exact w
theorem Sx.while (I : Nat → List SD) (n : Nat) (hp : PassesOwn (model X.prog X.w) X.A X.env X.xe) (h0 : I 0 = ds) (ht : ∀ i, i < n → Et X t (I i) true) (hb : ∀ i, i < n → ∃ o', Turned (I (i + 1)) o' ∧ Sxs X body (I i) o')
    (hd : (Et X t (I n) false ∧ o = .nx (I n)) ∨ (Et X t (I n) true ∧ ∃ o', Left o' o ∧ Sxs X body (I n) o')) : Sx X (.While t body [] pos) ds o := fun A F H σ D sl w => by
  refine WS.of (ps_while hp wt wss) ?_
  refine ⟨fun m σ' H' => ∃ i F', m = n - i ∧ i ≤ n ∧ Same F F' ∧ Sl X.K A F' H' σ' (I i), ⟨n - 0, 0, F, rfl, Nat.zero_le _, ex_refl F, h0 ▸ sl⟩, ?_⟩
  rintro m σ1 H1 ⟨i, F1, rfl, hi, e1, sl1⟩
  by_cases hlt : i < n
  · refine ht i hlt A F1 H1 σ1 sl1 _ fun F2 H2 s2 => iteT ?_
    refine ⟨fun σ' H' => ∃ F', Same F F' ∧ Sl X.K A F' H' σ' (I (i + 1)), fun σ' H' ⟨F', e', sl'⟩ => ⟨n - (i + 1), by omega, i + 1, F', rfl, hlt, e', sl'⟩, ?_⟩
    obtain ⟨o', ht', hbo⟩ := hb i hlt
    exact hbo A F2 H2 σ1 _ (sl1.step s2) (wants_turn ht' fun F3 H3 σ3 e3 sl3 => ⟨F3, e1.trans (s2.f.trans e3), sl3⟩)
  · have e : i = n := by omega
    subst e
    rcases hd with ⟨q, eo⟩ | ⟨q, o', hl, hbo⟩
    · refine q A F1 H1 σ1 sl1 _ fun F2 H2 s2 => iteF ?_
      subst eo
      exact w F2 H2 σ1 (e1.trans s2.f) (sl1.step s2)
    · refine q A F1 H1 σ1 sl1 _ fun F2 H2 s2 => iteT ?_
      exact ⟨fun _ _ => False, fun _ _ f => f.elim, hbo A F2 H2 σ1 _ (sl1.step s2) (wants_left hl (w.mono (e1.trans s2.f)))⟩
/-! for: what is walked -/
structure Goes (K : PySem.W.Frag) (A F0 : Hp) (k : Kd) (J : It) (xs : List PyData) : Prop where
  go : ∀ (F H : Hp) (i : Nat) (d : PyData), Wo A F H → Same F0 F → xs[i]? = some d → J.go i H ∧ ∀ x H', J.yld i H x H' → ∃ F', Stp F H F' H' ∧ Dq K (selH k A F' H') x d
  stop : ∀ (F H : Hp), Wo A F H → Same F0 F → J.stop xs.length H
def Wk (k : Kd) (X : Cx) (tg iter : Expr) (ds : List SD) (xs : List PyData) : Prop := ∀ (A F H : Hp) (σ : St), Sl X.K A F H σ ds → ∀ R : It → Hp → Prop, (∀ J F' H', Stp F H F' H' → Goes X.K A F' k J xs → R J H') → WI X tg iter σ H R
/-- n turns, then the end, or one more turn that leaves -/
theorem Sx.for {tg iter : Expr} (I : Nat → List SD) (n : Nat) (hp : PassesOwn (model X.prog X.w) X.A X.env X.xe) (hc : X.calm = true) (hw : Wk k X tg iter ds xs) (h0 : I 0 = ds) (hn : n ≤ xs.length)
    (hb : ∀ i d, i < n → xs[i]? = some d → ∃ es ws' o', Gx k X tg (I i) d es ws' ∧ Turned (I (i + 1)) o' ∧ Sxs X body es o')
    (hd : (n = xs.length ∧ o = .nx (I n)) ∨ (∃ d, xs[n]? = some d ∧ ∃ es ws' o', Gx k X tg (I n) d es ws' ∧ Left o' o ∧ Sxs X body es o')) (hs : ∀ x, foldedSetIterable iter X.env x = pure x := by intro _; rfl) : Sx X (.For tg iter body [] pos) ds o := fun A F H σ D sl w => by
  refine WS.of (ps_for hp hc wi wg wss hs) (hw A F H σ sl _ fun J F1 H1 s1 g => ?_)
  refine ⟨fun i m σ' H' => m = xs.length - i ∧ i ≤ n ∧ ∃ F', Same F1 F' ∧ Sl X.K A F' H' σ' (I i), ⟨xs.length - 0, rfl, Nat.zero_le _, F1, ex_refl F1, h0 ▸ sl.step s1⟩, ?_⟩
  rintro i m σ2 H2 ⟨rfl, hi, F2, e2, sl2⟩
  by_cases hlt : i < n
  · have hl : i < xs.length := by omega
    obtain ⟨g1, g2⟩ := g.go F2 H2 i xs[i] sl2.w e2 (List.getElem?_eq_getElem hl)
    refine .inr ⟨g1, fun σ' H' => ∃ F', Same F1 F' ∧ Sl X.K A F' H' σ' (I (i + 1)), fun σ' H' ⟨F', e', sl'⟩ => ⟨xs.length - (i + 1), by omega, rfl, hlt, F', e', sl'⟩, fun x H3 y => ?_⟩
    obtain ⟨F3, s3, hx⟩ := g2 x H3 y
    obtain ⟨es, _, o', hg, ht, hbo⟩ := hb i xs[i] hlt (List.getElem?_eq_getElem hl)
    refine hg A F3 H3 σ2 x (sl2.step s3) hx _ fun σ4 sl4 _ => ?_
    exact hbo A F3 H3 σ4 _ sl4 (wants_turn ht fun F5 H5 σ5 e5 sl5 => ⟨F5, e2.trans (s3.f.trans e5), sl5⟩)
  · have e : i = n := by omega
    subst e
    rcases hd with ⟨el, eo⟩ | ⟨d, hd, es, _, o', hg, hl, hbo⟩
    · subst eo
      rw [el] at sl2
      exact .inl ⟨el ▸ g.stop F2 H2 sl2.w e2, w F2 H2 σ2 (s1.f.trans e2) (el ▸ sl2)⟩
    · obtain ⟨g1, g2⟩ := g.go F2 H2 i d sl2.w e2 hd
      refine .inr ⟨g1, fun _ _ => False, fun _ _ f => f.elim, fun x H3 y => ?_⟩
      obtain ⟨F3, s3, hx⟩ := g2 x H3 y
      refine hg A F3 H3 σ2 x (sl2.step s3) hx _ fun σ4 sl4 _ => ?_
      exact hbo A F3 H3 σ4 _ sl4 (wants_left hl (w.mono (s1.f.trans (e2.trans s3.f))))
end
end Dn
namespace Dn
open PySem L2

/-! ### walks -/
theorem sel_ext {k : Kd} {A F0 F H0 H : Hp} (w : Wo A F H) (e : Same F0 F) (hk : k ≠ .vw) : Same (selH k A F0 H0) (selH k A F H) := by
  cases k with
  | fr => exact e
  | st =>
    intro b o h
    show Stab A F b = some o
    have h' : Stab A F0 b = some o := h
    unfold Stab at h' ⊢
    cases q : F0 b with
    | some u =>
      rw [q] at h'
      cases h'
      rw [e b _ q]
    | none =>
      rw [q] at h'
      rw [w.dj b o h']
      exact h'
  | vw => exact (hk rfl).elim
theorem goes_list {K : PySem.W.Frag} {A F0 H0 : Hp} {k : Kd} {a : Addr} {vs : List V} {xs : List PyData} (hk : k ≠ .vw) (hr : SqL K (selH k A F0 H0) a vs) (ha : DqAll K (selH k A F0 H0) vs xs) : Goes K A F0 k (Itl K a) xs where
  go := fun F H i d w e hd => by
    have s := sel_ext (H0 := H0) w e hk
    obtain ⟨v, hv, hq⟩ := dpa_get ha hd
    have q : SqL K H a vs := Same.seq (sel_H w) (Same.seq s hr)
    refine ⟨⟨vs, v, q, hv⟩, fun x H' y => ?_⟩
    obtain ⟨eH, y⟩ := y
    subst eH
    have ex : some v = some x := hv.symm.trans (y vs q)
    cases ex
    exact ⟨F, Stp.refl w.exF, dp_ex s _ _ hq⟩
  stop := fun F H w e => ⟨vs, Same.seq (sel_H w) (Same.seq (sel_ext (H0 := H0) w e hk) hr), Nat.le_of_eq (dpa_len ha)⟩
theorem goes_tup {K : PySem.W.Frag} {A F0 H0 : Hp} {k : Kd} {a : Addr} {vs : List V} {xs : List PyData} (hk : k ≠ .vw) (hr : SqT K (selH k A F0 H0) a vs) (ha : DqAll K (selH k A F0 H0) vs xs) : Goes K A F0 k (Itt K a) xs where
  go := fun F H i d w e hd => by
    have s := sel_ext (H0 := H0) w e hk
    obtain ⟨v, hv, hq⟩ := dpa_get ha hd
    have q : SqT K H a vs := sqt_ex (sel_H w) (sqt_ex s hr)
    refine ⟨⟨vs, v, q, hv⟩, fun x H' y => ?_⟩
    obtain ⟨eH, y⟩ := y
    subst eH
    have ex : some v = some x := hv.symm.trans (y vs q)
    cases ex
    exact ⟨F, Stp.refl w.exF, dp_ex s _ _ hq⟩
  stop := fun F H w e => ⟨vs, sqt_ex (sel_H w) (sqt_ex (sel_ext (H0 := H0) w e hk) hr), Nat.le_of_eq (dpa_len ha)⟩
theorem goes_rev {K : PySem.W.Frag} {A F0 H0 : Hp} {k : Kd} {a : Addr} {vs : List V} {xs : List PyData} (hk : k ≠ .vw) (hr : SqL K (selH k A F0 H0) a vs) (ha : DqAll K (selH k A F0 H0) vs xs) : Goes K A F0 k (Itv K a vs.length) xs.reverse where
  go := fun F H i d w e hd => by
    have s := sel_ext (H0 := H0) w e hk
    have hl := dpa_len ha
    have hi : i < xs.length := by
      have := (List.getElem?_eq_some_iff.mp hd).1
      rwa [List.length_reverse] at this
    rw [List.getElem?_reverse hi, ← hl] at hd
    obtain ⟨v, hv, hq⟩ := dpa_get ha hd
    have q : SqL K H a vs := Same.seq (sel_H w) (Same.seq s hr)
    refine ⟨⟨by omega, vs, v, q, hv⟩, fun x H' y => ?_⟩
    obtain ⟨eH, y⟩ := y
    subst eH
    have ex : some v = some x := hv.symm.trans (y vs q)
    cases ex
    exact ⟨F, Stp.refl w.exF, dp_ex s _ _ hq⟩
  stop := fun F H w e => by
    show vs.length ≤ xs.reverse.length
    rw [List.length_reverse, dpa_len ha]
    exact Nat.le_refl _
def enumD : Nat → List PyData → List PyData
  | _, [] => []
  | i, x :: xs => .tuple [.int (i : Nat), x] :: enumD (i + 1) xs
theorem enumD_at : ∀ {xs : List PyData} {s i : Nat} {d : PyData}, (enumD s xs)[i]? = some d → ∃ x, xs[i]? = some x ∧ d = .tuple [.int ((s + i : Nat) : Int), x]
  | x :: xs, s, 0, d, h => by cases h; exact ⟨x, rfl, rfl⟩
  | x :: xs, s, i + 1, d, h => by
    obtain ⟨y, h1, h2⟩ := enumD_at (xs := xs) (s := s + 1) (i := i) h
    exact ⟨y, h1, by rw [h2, Nat.add_right_comm, Nat.add_assoc]⟩
theorem enumD_len : ∀ {xs : List PyData} {s : Nat}, (enumD s xs).length = xs.length
  | [], _ => rfl
  | _ :: xs, s => congrArg (· + 1) (enumD_len (xs := xs))
theorem goes_enum {K : PySem.W.Frag} {A F0 H0 : Hp} {k : Kd} {a : Addr} {vs : List V} {xs : List PyData} (hk : k ≠ .vw) (hr : SqL K (selH k A F0 H0) a vs) (ha : DqAll K (selH k A F0 H0) vs xs) : Goes K A F0 k (Ite K a) (enumD 0 xs) where
  go := fun F H i d w e hd => by
    have s := sel_ext (H0 := H0) w e hk
    obtain ⟨y, hy, ed⟩ := enumD_at hd
    subst ed
    obtain ⟨v, hv, hq⟩ := dpa_get ha hy
    have q : SqL K H a vs := Same.seq (sel_H w) (Same.seq s hr)
    refine ⟨⟨vs, v, q, hv⟩, fun x H' z => ?_⟩
    obtain ⟨T, u, rfl, hT, rfl, z⟩ := z
    have ex : some v = some u := hv.symm.trans (z vs q)
    cases ex
    have n := Ev.newT (k := k) (K := K) (xs := [.int ((0 + i : Nat) : Int), y]) (vs := [.int (i : Nat), v]) w (Stp.refl w.exF) hT (.cons (by rw [Nat.zero_add]; exact .int _) (.cons (dp_ex s _ _ hq) .nil))
    exact ⟨_, n.1, n.2⟩
  stop := fun F H w e => ⟨vs, Same.seq (sel_H w) (Same.seq (sel_ext (H0 := H0) w e hk) hr), by rw [enumD_len]; exact Nat.le_of_eq (dpa_len ha)⟩
theorem goes_range {K : PySem.W.Frag} {A F0 : Hp} {k : Kd} {lo : Int} {n : Nat} : Goes K A F0 k (Itr lo n) ((List.range n).map fun i => .int (lo + (i : Nat))) where
  go := fun F H i d w e hd => by
    rw [List.getElem?_map] at hd
    cases q : (List.range n)[i]? with
    | none => rw [q] at hd; cases hd
    | some j =>
      rw [q] at hd
      cases hd
      obtain ⟨h1, h2⟩ := List.getElem?_eq_some_iff.mp q
      rw [List.length_range] at h1
      rw [List.getElem_range] at h2
      subst h2
      refine ⟨h1, fun x H' y => ?_⟩
      obtain ⟨eH, ex⟩ := y
      subst eH
      subst ex
      exact ⟨F, Stp.refl w.exF, .int _⟩
  stop := fun F H w e => by
    show n ≤ _
    rw [List.length_map, List.length_range]
    exact Nat.le_refl _
section
variable {X : Cx} {a b e tg iter : Expr} {es : List Expr} {ds : List SD} {d x y z : PyData} {k ka kb kc : Kd} {pos p : Pos} {xs ys : List PyData} {n : Str} {j : Nat}
theorem Wk.list (hk : k ≠ .vw) (h : Ev k X iter ds (.list xs)) : Wk k X tg iter ds xs := fun A F H σ sl R r =>
  WI.of (pi_list we) (h A F H σ sl _ fun v F1 H1 s1 hv => by
    cases hv with
    | lst hr ha => exact ⟨_, rfl, ⟨_, Same.seq (sel_H (sl.w.step s1)) hr⟩, r _ F1 H1 s1 (goes_list hk hr ha)⟩)
theorem Wk.tup (hk : k ≠ .vw) (h : Ev k X iter ds (.tuple xs)) : Wk k X tg iter ds xs := fun A F H σ sl R r =>
  WI.of (pi_tup we) (h A F H σ sl _ fun v F1 H1 s1 hv => by
    cases hv with
    | tup hr ha => exact ⟨_, rfl, ⟨_, sqt_ex (sel_H (sl.w.step s1)) hr⟩, r _ F1 H1 s1 (goes_tup hk hr ha)⟩)
theorem Wk.rev (hk : k ≠ .vw) (hm : X.mg "reversed" = none) (h : Ev k X e ds (.list xs)) (hg : Gl X "reversed" := by rfl) (hs : starEach [e] X.env = [(false, eval e X.env)] := by rfl) : Wk k X tg (.Call (.Name "reversed" p) [e] [] pos) ds xs.reverse := fun A F H σ sl R r =>
  WI.of (pi_reversed hg hm wa hs) (Ea.cons h Ea.nil hs A F H σ sl _ fun vs F1 H1 s1 hv => by
    cases hv with
    | cons h1 h2 =>
      cases h2
      cases h1 with
      | lst hr ha => exact ⟨_, _, rfl, Same.seq (sel_H (sl.w.step s1)) hr, r _ F1 H1 s1 (goes_rev hk hr ha)⟩)
theorem Wk.enum {elts : List Expr} {kk : Nat} {tpos : Pos} (hk : k ≠ .vw) (hm : X.mg "enumerate" = none) (h : Ev k X e ds (.list xs)) (hg : Gl X "enumerate" := by rfl) (hs : starEach [e] X.env = [(false, eval e X.env)] := by rfl) : Wk k X (.Tuple elts kk tpos) (.Call (.Name "enumerate" p) [e] [] pos) ds (enumD 0 xs) := fun A F H σ sl R r =>
  WI.of (pi_enum hg hm wa hs) (Ea.cons h Ea.nil hs A F H σ sl _ fun vs F1 H1 s1 hv => by
    cases hv with
    | cons h1 h2 =>
      cases h2
      cases h1 with
      | lst hr ha => exact ⟨_, _, rfl, Same.seq (sel_H (sl.w.step s1)) hr, r _ F1 H1 s1 (goes_enum hk hr ha)⟩)
def rngD (lo : Int) (n : Nat) : List PyData := (List.range n).map fun i => .int (lo + (i : Nat))
theorem Wk.range1 {i : Int} (hm : X.mg "range" = none) (h : Ev ka X a ds (.int i)) (h1 : -(2 ^ 62) ≤ i) (h2 : i < 2 ^ 62) (hg : Gl X "range" := by rfl) (hs : starEach [a] X.env = [(false, eval a X.env)] := by rfl) : Wk k X tg (.Call (.Name "range" p) [a] [] pos) ds (rngD 0 i.toNat) := fun A F H σ sl R r =>
  WI.of (pi_range1 hg hm wa hs) (Ea.cons h Ea.nil hs A F H σ sl _ fun vs F1 H1 s1 hv => by
    cases hv with
    | cons h1 h2 =>
      cases h2
      cases h1
      exact ⟨i, rfl, by assumption, by assumption, r _ F1 H1 s1 goes_range⟩)
theorem Wk.range2 {i l : Int} (hm : X.mg "range" = none) (h : Ev ka X a ds (.int i)) (h' : Ev kb X b ds (.int l)) (hb : -(2 ^ 62) ≤ i ∧ i < 2 ^ 62 ∧ -(2 ^ 62) ≤ l ∧ l < 2 ^ 62) (hg : Gl X "range" := by rfl)
    (hs : starEach [a, b] X.env = [(false, eval a X.env), (false, eval b X.env)] := by rfl) (hs2 : starEach [b] X.env = [(false, eval b X.env)] := by rfl) : Wk k X tg (.Call (.Name "range" p) [a, b] [] pos) ds (rngD i (l - i).toNat) := fun A F H σ sl R r =>
  WI.of (pi_range2 hg hm wa hs hs2) (Ea.cons (k := .fr) (Ev.sc h trivial) (Ea.cons (Ev.sc h' trivial) Ea.nil hs2) (hs.trans (by rw [hs2])) A F H σ sl _ fun vs F1 H1 s1 hv => by
    cases hv with
    | cons h1 h2 =>
      cases h2 with
      | cons h2 h3 =>
        cases h3
        cases h1
        cases h2
        exact ⟨i, l, rfl, hb, r _ F1 H1 s1 goes_range⟩)

/-! ### list comprehensions -/
def wipeD (ds : List SD) : List Nat → List SD
  | [] => ds
  | v :: vs => (wipeD ds vs).set v .unk
theorem Sl.unkAt {K : PySem.W.Frag} {A F H : Hp} {σ : St} (sl : Sl K A F H σ ds) (i : Nat) : Sl K A F H (σ.set i none) (ds.set i .unk) := by
  refine ⟨sl.w, by rw [List.length_set, List.length_set]; exact sl.len, fun l f hf => ?_, fun l m q aa bb hl hm hq hq' => ?_⟩
  · by_cases hil : i = l
    · subst hil
      have hlt : i < ds.length := by
        have := (List.getElem?_eq_some_iff.mp hf).1
        rwa [List.length_set] at this
      rw [List.getElem?_set_self hlt] at hf
      cases hf
      exact ⟨none, List.getElem?_set_self (by rw [sl.len]; exact hlt), trivial⟩
    · rw [List.getElem?_set_ne hil] at hf
      obtain ⟨o, e1, h1⟩ := sl.at_ l f hf
      exact ⟨o, by rw [List.getElem?_set_ne hil]; exact e1, h1⟩
  · have n1 : i ≠ l := fun z => by
      subst z
      have hlt : i < ds.length := by
        have := (List.getElem?_eq_some_iff.mp hl).1
        rwa [List.length_set] at this
      rw [List.getElem?_set_self hlt] at hl
      cases hl
    have n2 : i ≠ m := fun z => by
      subst z
      have hlt : i < ds.length := by
        have := (List.getElem?_eq_some_iff.mp hm).1
        rwa [List.length_set] at this
      rw [List.getElem?_set_self hlt] at hm
      cases hm
    rw [List.getElem?_set_ne n1] at hl hq
    rw [List.getElem?_set_ne n2] at hm hq'
    exact sl.one l m q aa bb hl hm hq hq'
theorem Sl.wipe {K : PySem.W.Frag} {A F H : Hp} {σ : St} (sl : Sl K A F H σ ds) : ∀ vs : List Nat, Sl K A F H (wipe σ vs) (wipeD ds vs)
  | [] => sl
  | v :: vs => by
    unfold L2.wipe wipeD
    exact (sl.wipe vs).unkAt v
/-- a list beside the slots is written -/
theorem Sl.beside {K : PySem.W.Frag} {A F H : Hp} {σ : St} {D : Addr} {o : HO} (sl : Sl K A F H σ ds) (hA : A D = none) (hF : F D = none) (hn : ∀ (j : Nat) (a : List PyData), ds[j]? = some (.own a) → σ[j]? ≠ some (some (.ref D))) : Sl K A F (upd H D o) σ ds := by
  refine ⟨⟨fun b u q => ?_, fun b u q => ?_, sl.w.dj⟩, sl.len, fun l f hf => ?_, sl.one⟩
  · rw [upd_ne (ne_of_none q hA)]
    exact sl.w.exA b u q
  · rw [upd_ne (ne_of_none q hF)]
    exact sl.w.exF b u q
  · obtain ⟨o', e', h'⟩ := sl.at_ l f hf
    refine ⟨o', e', ?_⟩
    cases f with
    | own zs =>
      obtain ⟨q, us, eq, qA, qF, qH, hz⟩ := h'
      subst eq
      have hne : q ≠ D := fun z => hn l zs hf (by rw [← z]; exact e')
      exact ⟨q, us, rfl, qA, qF, by rw [upd_ne hne]; exact qH, hz⟩
    | _ => exact h'
/-- the block's contexts -/
def Fam (X : Cx) (scope : Scope) (P : Cx → Prop) : Prop := ∀ (s : Shared) (H : Hp) (C : Addr) (cl : List (Str × Addr)) (fp : List Addr), P (X.blk s H scope (compEnvC scope cl C X.env) fp)
/-- the tests of a clause: none or one -/
def Ets (X : Cx) (ifs : List Expr) (ds : List SD) (c : Bool) : Prop := match ifs with
  | [] => c = true
  | [t] => Et X t ds c
  | _ => False
/-- a comprehension as it runs, whatever its list goes to -/
def El (X : Cx) (e : Expr) (ds : List SD) (xs : List PyData) : Prop := ∃ (tg iter elt : Expr) (ifs : List Expr) (scope : Scope) (own : List (Str × Nat)) (pos : Pos) (wi : TI) (g : TG) (tt : TT) (te : TE), e = .ListComp elt [⟨tg, iter, ifs, 0⟩] scope pos ∧ PI X tg iter wi ∧ BlkOk X.N X.env.scope scope own ∧
  (∀ (s : Shared) (H : Hp) (C : Addr) (cl : List (Str × Addr)) (fp : List Addr), PG (X.blk s H scope (compEnvC scope cl C X.env) fp) tg g) ∧ (∀ (s : Shared) (H : Hp) (C : Addr) (cl : List (Str × Addr)) (fp : List Addr), PTs (X.blk s H scope (compEnvC scope cl C X.env) fp) ifs tt) ∧
  (∀ (s : Shared) (H : Hp) (C : Addr) (cl : List (Str × Addr)) (fp : List Addr), PE (X.blk s H scope (compEnvC scope cl C X.env) fp) elt te) ∧ (∀ x, foldedSetIterable iter X.env x = pure x) ∧ X.calm = true ∧ X.N.Nodup ∧
  ∀ (A F H : Hp) (σ : St), Sl X.K A F H σ ds → ∀ Q : VK, (∀ p vs F' H', Stp F H F' H' → H p = none → F' p = none → H' p = some (.lst vs) → DqAll X.K F' vs xs → Q (.ref p) H') → tLc wi g tt te (own.map (·.2)) σ H Q
theorem El.en {e : Expr} (h : El X e ds xs) : En X e ds xs := fun A F H σ sl Q q => by
  obtain ⟨tg, iter, elt, ifs, scope, own, pos, wi, g, tt, te, rfl, h1, h2, h3, h4, h5, h6, h7, h8, h9⟩ := h
  exact WE.of (pe_lc h7 h8 h1 h2 h3 h4 h5 h6) (h9 A F H σ sl Q q)
theorem Sx.setL {e : Expr} {n : Str} {spos : Pos} (i : Nat) {pos' : Pos} (h : El X e ds xs) (hi : X.N[i]? = some n := by rfl) (hx : X.env.scope.names.lookup n = some .local := by rfl) (hs : swapsWith e (some (.Name n pos')) spos.line X.env = pure true := by exact sw_true rfl rfl rfl rfl) :
    Sx X (.Assign [.Name n pos'] e spos) ds (.nx (ds.set i (.own xs))) := fun A F H σ D sl w => by
  obtain ⟨tg, iter, elt, ifs, scope, own, pos, wi, g, tt, te, rfl, h1, h2, h3, h4, h5, h6, h7, h8, h9⟩ := h
  refine WS.of (ps_setLc h7 h8 hi hx hs h1 h2 h3 h4 h5 h6) (h9 A F H σ sl _ fun p vs F1 H1 s1 hp fp hl hv => w F1 H1 _ s1.f ((sl.step s1).putOwn (fun j a _ hj hs => by
    obtain ⟨o, e1, p', vs', e2, _, _, hH, _⟩ := sl.at_ j _ hj
    rw [e1] at hs
    have z := Option.some.inj hs
    rw [e2] at z
    cases z
    rw [hp] at hH
    cases hH) ⟨p, vs, rfl, Same.free sl.w.exA hp, fp, hl, hv⟩))
theorem El.lc {elt : Expr} {ifs : List Expr} {scope : Scope} {own : List (Str × Nat)} (hc : X.calm = true) (hN : X.N.Nodup) (hw : Wk k X tg iter ds xs) (ok : BlkOk X.N X.env.scope scope own) (acc : Nat → List PyData) (h0 : acc 0 = []) (hz : xs.length ≤ 90000) (hza : ∀ i, i ≤ xs.length → (acc i).length ≤ 90000)
    (hb : ∀ i d, xs[i]? = some d → ∃ (es : List SD) (ws : List Nat) (c : Bool), (∀ i ∈ ws, i ∈ own.map (·.2)) ∧ Fam X scope (fun Y => Gx k Y tg (wipeD ds (own.map (·.2))) d es ws) ∧ Fam X scope (fun Y => Ets Y ifs es c) ∧
      if c = true then ∃ y, acc (i + 1) = acc i ++ [y] ∧ Fam X scope (fun Y => Ev .fr Y elt es y) else acc (i + 1) = acc i)
    (hs : ∀ x, foldedSetIterable iter X.env x = pure x := by intro _; rfl) : El X (.ListComp elt [⟨tg, iter, ifs, 0⟩] scope pos) ds (acc xs.length) := by
  let g : TG := fun v σ H Q => ∀ (s : Shared) (H0 : Hp) (C : Addr) (cl : List (Str × Addr)) (fp : List Addr), WG (X.blk s H0 scope (compEnvC scope cl C X.env) fp) tg v σ H Q
  let te : TE := fun σ H Q => ∀ (s : Shared) (H0 : Hp) (C : Addr) (cl : List (Str × Addr)) (fp : List Addr), WE (X.blk s H0 scope (compEnvC scope cl C X.env) fp) elt σ H Q
  have hif : ∃ tt : TT, (∀ (s : Shared) (H : Hp) (C : Addr) (cl : List (Str × Addr)) (fp : List Addr), PTs (X.blk s H scope (compEnvC scope cl C X.env) fp) ifs tt) ∧
      ∀ (es : List SD) (c : Bool), Fam X scope (fun Y => Ets Y ifs es c) → ∀ (A F H : Hp) (σ : St), Sl X.K A F H σ es → ∀ Q : Bool → Hp → Prop, (∀ F' H', Stp F H F' H' → Q c H') → tt σ H Q := by
    cases ifs with
    | nil =>
      refine ⟨_, fun _ _ _ _ _ => pts_nil, fun es c fam A F H σ sl Q q => ?_⟩
      cases (show c = true from fam X.s_0 (fun _ => none) 0 [] [])
      exact q F H (Stp.refl sl.w.exF)
    | cons t r =>
      cases r with
      | nil => exact ⟨fun σ H Q => ∀ (s : Shared) (H0 : Hp) (C : Addr) (cl : List (Str × Addr)) (fp : List Addr), WT (X.blk s H0 scope (compEnvC scope cl C X.env) fp) t σ H Q,
          fun s H C cl fp => pts_one ⟨fun pins s' σ H' Q I h => h s H C cl fp pins s' I⟩, fun es c fam A F H σ sl Q q s H0 C cl fp => fam s H0 C cl fp A F H σ sl Q q⟩
      | cons t' r' =>
        exact ⟨fun _ _ _ => False, fun _ _ _ _ _ => ⟨fun _ _ _ _ _ _ f => f.elim⟩, fun es c fam => (fam X.s_0 (fun _ => none) 0 [] []).elim⟩
  obtain ⟨tt, ptt, rtt⟩ := hif
  refine ⟨tg, iter, elt, ifs, scope, own, pos, WI X tg iter, g, tt, te, rfl, wi, ok, fun s H C cl fp => ⟨fun pins s' σ H' v u Q I r h => h s H C cl fp pins s' u I r⟩, ptt, fun s H C cl fp => ⟨fun pins s' σ H' Q I h => h s H C cl fp pins s' I⟩, hs, hc, hN, fun A F H σ sl Q q => ?_⟩
  refine hw A F H σ sl _ fun J F1 H1 s1 gs => fun D hD => ?_
  have slw : Sl X.K A F1 H1 (wipe σ (own.map (·.2))) (wipeD ds (own.map (·.2))) := (sl.step s1).wipe _
  have hAD : A D = none := Same.free slw.w.exA hD
  have hn : ∀ (j : Nat) (a : List PyData), (wipeD ds (own.map (·.2)))[j]? = some (.own a) → (wipe σ (own.map (·.2)))[j]? ≠ some (some (.ref D)) := fun j a hj hs => by
    obtain ⟨o, e1, p', vs', e2, _, _, hH, _⟩ := slw.at_ j _ hj
    rw [e1] at hs
    have z := Option.some.inj hs
    rw [e2] at z
    cases z
    rw [hD] at hH
    cases hH
  refine ⟨fun i m H' => m = xs.length - i ∧ i ≤ xs.length ∧ ∃ F', Same F1 F' ∧ Sl X.K A F' H' (wipe σ (own.map (·.2))) (wipeD ds (own.map (·.2))) ∧ F' D = none ∧ Same H H' ∧ (∀ b o, H b = some o → F b = none → F' b = none) ∧ ∃ vs, H' D = some (.lst vs) ∧ DqAll X.K F' vs (acc i), ?_, ?_⟩
  · refine ⟨xs.length - 0, rfl, Nat.zero_le _, F1, ex_refl F1, slw.beside hAD (Same.free slw.w.exF hD) hn, Same.free slw.w.exF hD, s1.h.trans (ex_new hD), s1.nw, [], upd_same, ?_⟩
    rw [h0]
    exact .nil
  rintro i m H2 ⟨rfl, hi, F2, e2, sl2, hFD, hHH, hnw, vs, hDv, hvs⟩
  by_cases hlt : i < xs.length
  · obtain ⟨g1, g2⟩ := gs.go F2 H2 i xs[i] sl2.w e2 (List.getElem?_eq_getElem hlt)
    refine .inr ⟨g1, fun H' => i + 1 ≤ xs.length ∧ ∃ F', Same F1 F' ∧ Sl X.K A F' H' (wipe σ (own.map (·.2))) (wipeD ds (own.map (·.2))) ∧ F' D = none ∧ Same H H' ∧ (∀ b o, H b = some o → F b = none → F' b = none) ∧ ∃ vs, H' D = some (.lst vs) ∧ DqAll X.K F' vs (acc (i + 1)),
      fun H' ⟨h1, h2⟩ => ⟨xs.length - (i + 1), by omega, rfl, h1, h2⟩, fun x H3 y => ?_⟩
    obtain ⟨F3, s3, hx⟩ := g2 x H3 y
    obtain ⟨es, ws, c, hws, hg, ht, hr⟩ := hb i xs[i] (List.getElem?_eq_getElem hlt)
    intro s H0 C cl fp
    refine hg s H0 C cl fp A F3 H3 _ x (sl2.step s3) hx _ fun σ4 sl4 w4 => ⟨?_, ?_⟩
    · rw [w4 _ hws]
      have idem : ∀ vs : List Nat, wipe (wipe σ vs) vs = wipe σ vs := fun vs => by
        have : ∀ us : List Nat, (∀ i ∈ us, i ∈ vs) → wipe (wipe σ us) vs = wipe σ vs := by
          intro us
          induction us with
          | nil => intro _; rfl
          | cons u us ih =>
            intro hu
            show wipe ((wipe σ us).set u none) vs = wipe σ vs
            rw [wipe_set (hu u List.mem_cons_self)]
            exact ih fun i hi => hu i (List.mem_cons_of_mem _ hi)
        exact this vs fun _ h => h
      exact idem _
    · refine rtt es c ht A F3 H3 σ4 sl4 _ fun F5 H5 s5 => ?_
      have stp := s3.trans s5
      cases c with
      | true =>
        rw [if_pos rfl] at hr
        rw [if_pos rfl]
        obtain ⟨yv, ea, hel⟩ := hr
        intro s H0 C cl fp
        refine hel s H0 C cl fp A F5 H5 σ4 (sl4.step s5) _ fun v F6 H6 s6 hv => ?_
        have stp6 := stp.trans s6
        have hDv6 := stp6.h D _ hDv
        have hF6 : F6 D = none := stp6.nw D _ hDv hFD
        refine ⟨vs, hDv6, ?_, hlt, F6, e2.trans stp6.f, ((sl2.step stp6)).beside hAD hF6 hn, hF6, ?_, fun b o hb fb => ?_, vs ++ [v], upd_same, ?_⟩
        · rw [dpa_len hvs]
          exact lt_ok (by have := hza i hi; omega)
        · intro b o hb
          have hb6 := stp6.h b o (hHH b o hb)
          rw [upd_ne fun z => by subst z; rw [Same.free s1.h hD] at hb; cases hb]
          exact hb6
        · exact stp6.nw b o (hHH b o hb) (hnw b o hb fb)
        · rw [ea]
          exact dpa_app (dpa_ex stp6.f _ _ hvs) (.cons hv .nil)
      | false =>
        rw [if_neg Bool.false_ne_true] at hr
        rw [if_neg Bool.false_ne_true]
        exact ⟨hlt, F5, e2.trans stp.f, sl2.step stp, stp.nw D _ hDv hFD, hHH.trans stp.h, fun b o hb fb => stp.nw b o (hHH b o hb) (hnw b o hb fb), vs, stp.h D _ hDv, by rw [hr]; exact dpa_ex stp.f _ _ hvs⟩
  · have e : i = xs.length := by omega
    subst e
    exact .inl ⟨gs.stop F2 H2 sl2.w e2, q D vs F2 H2 ⟨s1.f.trans e2, hHH, sl2.w.exF, hnw⟩ (Same.free s1.h hD) hFD hDv hvs⟩
theorem En.lc {elt : Expr} {ifs : List Expr} {scope : Scope} {own : List (Str × Nat)} (hc : X.calm = true) (hN : X.N.Nodup) (hw : Wk k X tg iter ds xs) (ok : BlkOk X.N X.env.scope scope own) (acc : Nat → List PyData) (h0 : acc 0 = []) (hz : xs.length ≤ 90000) (hza : ∀ i, i ≤ xs.length → (acc i).length ≤ 90000)
    (hb : ∀ i d, xs[i]? = some d → ∃ (es : List SD) (ws : List Nat) (c : Bool), (∀ i ∈ ws, i ∈ own.map (·.2)) ∧ Fam X scope (fun Y => Gx k Y tg (wipeD ds (own.map (·.2))) d es ws) ∧ Fam X scope (fun Y => Ets Y ifs es c) ∧
      if c = true then ∃ y, acc (i + 1) = acc i ++ [y] ∧ Fam X scope (fun Y => Ev .fr Y elt es y) else acc (i + 1) = acc i)
    (hs : ∀ x, foldedSetIterable iter X.env x = pure x := by intro _; rfl) : En X (.ListComp elt [⟨tg, iter, ifs, 0⟩] scope pos) ds (acc xs.length) := (El.lc hc hN hw ok acc h0 hz hza hb hs).en
end
end Dn
namespace Dn
open PySem L2 PyProof.Rows

/-! ### a def's body -/
def argSD : PyData → SD
  | .none => .dat .none
  | .bool b => .dat (.bool b)
  | .int i => .dat (.int i)
  | .str x => .dat (.str x)
  | d => .arg d
def argsD (N : List Str) (xs : List PyData) : List SD := xs.map argSD ++ List.replicate (N.length - xs.length) .unk
def noHp : Hp := fun _ => none
theorem sl_start {K : PySem.W.Frag} {H : Hp} {N : List Str} {vs : List V} {xs : List PyData} (h : DqAll K H vs xs) : Sl K H noHp H (L2.start N vs) (argsD N xs) := by
  have hl := dpa_len h
  have no_own : ∀ (i : Nat) a, (argsD N xs)[i]? ≠ some (.own a) := fun i a e => by
    unfold argsD at e
    by_cases hi : i < xs.length
    · rw [List.getElem?_append_left (by rw [List.length_map]; exact hi), List.getElem?_map, List.getElem?_eq_getElem hi] at e
      have e' : argSD xs[i] = .own a := Option.some.inj e
      cases q : xs[i] <;> rw [q] at e' <;> cases e'
    · rw [List.getElem?_append_right (by rw [List.length_map]; omega), List.getElem?_replicate] at e
      split at e <;> cases e
  refine ⟨⟨ex_refl H, fun b o q => (by cases q), fun b o q => rfl⟩, ?_, fun i d hd => ?_, fun i j p a b h1 => (no_own i a h1).elim⟩
  · unfold L2.start argsD
    rw [List.length_append, List.length_append, List.length_map, List.length_map, List.length_replicate, List.length_replicate, hl]
  · unfold argsD at hd
    by_cases hi : i < xs.length
    · rw [List.getElem?_append_left (by rw [List.length_map]; exact hi), List.getElem?_map, List.getElem?_eq_getElem hi] at hd
      have hd' : argSD xs[i] = d := Option.some.inj hd
      obtain ⟨v, hv, hq⟩ := dpa_get h (List.getElem?_eq_getElem hi)
      refine ⟨some v, ?_, ?_⟩
      · unfold L2.start
        rw [List.getElem?_append_left (by rw [List.length_map, hl]; exact hi), List.getElem?_map, hv]
        rfl
      · rw [← hd']
        have st : Same H (Stab H noHp) := fun b o q => q
        cases e : xs[i] with
        | none => rw [e] at hq; exact ⟨v, rfl, sc_any trivial hq⟩
        | bool b => rw [e] at hq; exact ⟨v, rfl, sc_any trivial hq⟩
        | int b => rw [e] at hq; exact ⟨v, rfl, sc_any trivial hq⟩
        | str b => rw [e] at hq; exact ⟨v, rfl, sc_any trivial hq⟩
        | list b => rw [e] at hq; exact ⟨v, rfl, dp_ex st _ _ hq⟩
        | tuple b => rw [e] at hq; exact ⟨v, rfl, dp_ex st _ _ hq⟩
        | dict b => rw [e] at hq; exact ⟨v, rfl, dp_ex st _ _ hq⟩
    · rw [List.getElem?_append_right (by rw [List.length_map]; omega), List.length_map, List.getElem?_replicate] at hd
      split at hd
      · cases hd
        rename_i hlt
        refine ⟨none, ?_, trivial⟩
        unfold L2.start
        rw [List.getElem?_append_right (by rw [List.length_map, hl]; omega), List.length_map, hl, List.getElem?_replicate, if_pos hlt]
      · cases hd
section
variable {P : Program} {w : World} {K : PySem.W.Frag} {mg : Str → Option Value} {base : Heap}
theorem fnF {x qual : Str} {st : Stmt} {f : Addr} {fd : FuncData} {N ps : List Str} {k : Nat} {R : List PyData → PyData → Prop} (F : Fun K x qual st f fd) (S : FnScope N ps (defScope st)) (hl : ∀ xs d, R xs d → xs.length = ps.length)
    (hb : ∀ (cdv : Value) (A : Around) (outer : List Env) (s : Shared) (H : Hp) (E : XK), Room k (A.deeper (envOfC qual (defScope st) s.heap.objs.size f cdv)) → ∀ xs d, R xs d →
      Sxs (cxOf CX0 P w K mg base N qual (defScope st) f cdv A outer s H E).nox (defBody st) (argsD N xs) (.rt d)) : FnOk P w K mg base CX0 (k + 1) f fd ps (spF K R) := by
  refine F.ok S (fun vs H Q E ⟨xs, d, h1, h2, _⟩ => (dpa_len h1).trans (hl xs d h2)) fun cdv A outer s H vs Q E hr ⟨xs, d, h1, h2, q⟩ => ?_
  refine ⟨_, wss, hb cdv A outer s H E hr xs d h2 H noHp H _ _ (sl_start h1) ?_⟩
  exact fun v F' H' _ w' hv => q v F' H' w'.exA w'.exF w'.dj hv
theorem fnN {x qual : Str} {st : Stmt} {f : Addr} {fd : FuncData} {N ps : List Str} {k : Nat} {R : List PyData → List PyData → Prop} (F : Fun K x qual st f fd) (S : FnScope N ps (defScope st)) (hl : ∀ xs d, R xs d → xs.length = ps.length)
    (hb : ∀ (cdv : Value) (A : Around) (outer : List Env) (s : Shared) (H : Hp) (E : XK), Room k (A.deeper (envOfC qual (defScope st) s.heap.objs.size f cdv)) → ∀ xs d, R xs d →
      Sxs (cxOf CX0 P w K mg base N qual (defScope st) f cdv A outer s H E).nox (defBody st) (argsD N xs) (.rn d)) : FnOk P w K mg base CX0 (k + 1) f fd ps (spN K R) := by
  refine F.ok S (fun vs H Q E ⟨xs, d, h1, h2, _⟩ => (dpa_len h1).trans (hl xs d h2)) fun cdv A outer s H vs Q E hr ⟨xs, d, h1, h2, q⟩ => ?_
  refine ⟨_, wss, hb cdv A outer s H E hr xs d h2 H noHp H _ _ (sl_start h1) ?_⟩
  exact fun p ws F' H' _ w' hA hF hH hv => q p ws F' H' w'.exA w'.exF w'.dj hA hF hH hv
/-- as a name of the module -/
theorem dfn {x : Str} {k : Nat} {f : Addr} {fd : FuncData} {ps : List Str} {sp : Sp} (G : FnOk P w K mg base CX0 k f fd ps sp) (hm : mg x = some (.ref f)) (hk : PySem.W.keepIn K (.ref f) = true) (hb : Binds K fd ps []) : Dfn P w K mg base k x sp := ⟨f, fd, ps, G, hm, hk, hb⟩
theorem Dfn.mono {x : Str} {j k : Nat} {sp : Sp} (D : Dfn P w K mg base j x sp) (h : j ≤ k) : Dfn P w K mg base k x sp := by
  obtain ⟨f, fd, ps, G, r⟩ := D.ex
  exact ⟨f, fd, ps, G.mono h, r⟩
/-- another word for the same promise -/
theorem Dfn.imp {x : Str} {k : Nat} {sp sp' : Sp} (D : Dfn P w K mg base k x sp) (h : ∀ vs H Q E, sp' vs H Q E → sp vs H Q E) : Dfn P w K mg base k x sp' := by
  obtain ⟨f, fd, ps, G, r⟩ := D.ex
  exact ⟨f, fd, ps, G.imp h, r⟩
end
/-- what the law promises: True of every script -/
def Script (xs : List PyData) (d : PyData) : Prop := ∃ ns : List Int, xs = [.list (ns.map .int)] ∧ ns.length ≤ 63 ∧ (∀ z ∈ ns, Builtin.Int.intBits z ≤ 1048576) ∧ d = .bool true
theorem walk_law {l : PySem.W.OpenLaw} {q : Program} {loose : List Str} {XP : (Str → Option Value) → Heap → Prop} {YP : World → Heap → Prop} {d : DefRec} {K : Params → PySem.W.Frag} (k : Nat) (x : Str) (hn : l.most = some 63) (hdf : d.params.defaults = []) (hr : Room k callerA)
    (hY : ∀ (w : World) (h : Heap), YP w h → (K w.params).In h)
    (F : ∀ (w : World) (mg : Str → Option Value) (fa : Addr) (h : Heap), (K w.params).In h → h.Ns mainGlobals mg → mg d.name = some (.ref fa) →
      ∃ fd : FuncData, (∀ (s : Shared) (u : Value), BindsTo s fd ⟨[u], []⟩ [(x, u)]) ∧ ∀ base : Heap, (K w.params).In base → base.Ns mainGlobals mg → FnOk l.prog w (K w.params) mg base CX0 k fa fd [x] (spF (K w.params) Script)) :
    PySem.W.WalkO q loose XP YP l.row.toRowW d [] (fun f vs => PySem.call f vs) :=
  L2.walk_ofB (n := 63) (k := k) (x := x) (CX := fun _ => CX0) (sp := fun w => spF (K w.params) Script) hn (by decide) hdf hr hY F (fun w H a ns h1 h2 _ hS =>
    ⟨[.list (ns.map .int)], .bool true, .cons (.lst hS (dpa_of_ints _ ns)) .nil, ⟨ns, rfl, h1, h2, rfl⟩, fun v N H' _ _ _ hv => by cases hv; rfl⟩) fun _ _ _ _ _ z => z
section
variable {X : Cx} {e : Expr} {ds : List SD} {k ka : Kd} {pos p : Pos}
theorem map_int_V (ns : List Int) {K : PySem.W.Frag} {H : Hp} {vs : List V} (h : DqAll K H vs (ns.map .int)) : vs = ns.map V.int := ints_of_dpa h
theorem Ev.sum {ns : List Int} (hc : X.calm = true) (hm : X.mg "sum" = none) (ha : Ev ka X e ds (.list (ns.map .int))) (hg : Gl X "sum" := by rfl) (hes : starEach [e] X.env = (false, eval e X.env) :: starEach [] X.env := by rfl) (hpl : (backTo pos (starEach [] X.env)).any (·.1) = false := by rfl) :
    Ev k X (.Call (.Name "sum" p) [e] [] pos) ds (.int ns.sum) := Ev.callB (cr_sum hc) hg hm (by decide +kernel) (Ea.cons ha Ea.nil hes) (fun A F H vs w hv Q q => by
  cases hv with
  | cons h1 h2 =>
    cases h2
    cases h1 with
    | lst hr ha =>
      rw [map_int_V ns ha] at hr
      exact ⟨_, ns, rfl, Same.seq (sel_H w) hr, q _ F H (Stp.refl w.exF) (.int _)⟩) (by decide) (by decide) hes hpl
theorem bools_of {K : PySem.W.Frag} {H : Hp} : ∀ {vs : List V} {bs : List Bool}, DqAll K H vs (bs.map .bool) → vs = bs.map V.bl
  | _, [], .nil => rfl
  | _, _ :: _, .cons a b => by
    cases a
    rw [bools_of b]
    rfl
theorem Ev.all {bs : List Bool} (hc : X.calm = true) (hm : X.mg "all" = none) (ha : Ev ka X e ds (.list (bs.map .bool))) (hg : Gl X "all" := by rfl) (hes : starEach [e] X.env = (false, eval e X.env) :: starEach [] X.env := by rfl) (hpl : (backTo pos (starEach [] X.env)).any (·.1) = false := by rfl) :
    Ev k X (.Call (.Name "all" p) [e] [] pos) ds (.bool (bs.all id)) := Ev.callB (cr_all hc) hg hm (by decide +kernel) (Ea.cons ha Ea.nil hes) (fun A F H vs w hv Q q => by
  cases hv with
  | cons h1 h2 =>
    cases h2
    cases h1 with
    | lst hr ha =>
      rw [bools_of ha] at hr
      exact ⟨_, bs, rfl, Same.seq (sel_H w) hr, q _ F H (Stp.refl w.exF) (.bl _)⟩) (by decide) (by decide) hes hpl
end
/-! ### slices in plain words -/
theorem cut_from (xs : List PyData) (k : Nat) : cutD xs (some (k : Int)) none = xs.drop k := by
  unfold cutD
  rw [HT.sIx_none, HT.sIx_nat]
  rw [List.take_of_length_le (by rw [List.length_drop]; omega)]
  by_cases h : k ≤ xs.length
  · rw [Nat.min_eq_left h]
  · rw [Nat.min_eq_right (by omega), List.drop_eq_nil_of_le (Nat.le_refl _), List.drop_eq_nil_of_le (by omega)]
theorem cut_to (xs : List PyData) (k : Nat) : cutD xs none (some (k : Int)) = xs.take k := by
  unfold cutD
  rw [HT.sIx_none, HT.sIx_nat, List.drop_zero, Nat.sub_zero]
  by_cases h : k ≤ xs.length
  · rw [Nat.min_eq_left h]
  · rw [Nat.min_eq_right (by omega), List.take_of_length_le (Nat.le_refl _), List.take_of_length_le (by omega)]
theorem cut_but (xs : List PyData) : cutD xs none (some (-1)) = xs.dropLast := by
  unfold cutD
  rw [HT.sIx_none, List.drop_zero, Nat.sub_zero, List.dropLast_eq_take]
  have e : HT.sIx xs.length xs.length (some (-1)) = xs.length - 1 := by
    show (if (-1 : Int) < 0 then ((-1 : Int) + (xs.length : Int)).toNat else min (-1 : Int).toNat xs.length) = _
    rw [if_pos (by decide)]
    omega
  rw [e]
/-! ### equal data -/
theorem canAll_map {α : Type} {f : α → PyData} (h : ∀ a, (f a).canLay0 = true) : ∀ l : List α, PyData.canLayAll0 (l.map f) = true
  | [] => by simp [PyData.canLayAll0]
  | a :: l => by
    rw [List.map_cons, PyData.canLayAll0, h a, canAll_map h l]
    rfl
theorem depthAll_map {α : Type} {f : α → PyData} {n : Nat} (h : ∀ a, (f a).depth ≤ n) : ∀ l : List α, PyData.depthAll (l.map f) ≤ n
  | [] => by simp [PyData.depthAll]
  | a :: l => by
    rw [List.map_cons, PyData.depthAll]
    exact Nat.max_le.mpr ⟨h a, depthAll_map h l⟩
theorem shaped_of {d : PyData} (h1 : d.canLay0 = true) (h2 : d.depth ≤ 64) : SeqAt.shaped d = true := by
  unfold SeqAt.shaped
  rw [h1, decide_eq_true h2]
  rfl
theorem shaped_int {i : Int} : SeqAt.shaped (.int i) = true := shaped_of (by simp [PyData.canLay0]) (by simp [PyData.depth])
theorem shaped_bool {i : Bool} : SeqAt.shaped (.bool i) = true := shaped_of (by simp [PyData.canLay0]) (by simp [PyData.depth])
theorem can_ints (is : List Int) : (PyData.list (is.map .int)).canLay0 = true := by
  rw [PyData.canLay0]
  exact canAll_map (fun a => by simp [PyData.canLay0]) is
theorem depth_ints (is : List Int) : (PyData.list (is.map .int)).depth ≤ 1 := by
  have := depthAll_map (f := PyData.int) (n := 0) (fun a => by simp [PyData.depth]) is
  rw [PyData.depth]
  omega
theorem shaped_ints (is : List Int) : SeqAt.shaped (.list (is.map .int)) = true := shaped_of (can_ints is) (Nat.le_trans (depth_ints is) (by decide))
theorem eqvAll_ints : ∀ (is js : List Int), PyData.eqvAll (is.map .int) (js.map .int) = decide (is = js)
  | [], [] => by simp [PyData.eqvAll]
  | i :: is, [] => by simp [PyData.eqvAll]
  | [], j :: js => by simp [PyData.eqvAll]
  | i :: is, j :: js => by
    rw [List.map_cons, List.map_cons, PyData.eqvAll, eqvAll_ints is js, PyData.eqv]
    by_cases h : i = j
    · subst h
      simp
    · simp [h]
theorem eqv_ints (is js : List Int) : PyData.eqv (.list (is.map .int)) (.list (js.map .int)) = decide (is = js) := by
  rw [PyData.eqv]
  exact eqvAll_ints is js
end Dn
namespace Dn
open PySem L2 PyProof.Rows
section
variable {X : Cx} {a b e : Expr} {es rest : List Expr} {ds : List SD} {d x y z : PyData} {k ka kb kc : Kd} {pos p : Pos} {xs ys : List PyData} {n : Str} {j : Nat}
theorem eqv_int (i j : Int) : PyData.eqv (.int i) (.int j) = decide (i = j) := by
  rw [PyData.eqv]
  by_cases h : i = j
  · subst h
    simp
  · simp [h]
theorem eqv_bool (i j : Bool) : PyData.eqv (.bool i) (.bool j) = decide (i = j) := by
  rw [PyData.eqv]
  cases i <;> cases j <;> rfl
theorem Et.eqI {i l : Int} (hr : Room j X.A) (ha : Ev ka X a ds (.int i)) (hb : Ev kb X b ds (.int l)) : Et X (.Compare a [.Eq] [b] pos) ds (decide (i = l)) := Et.eq hr ha hb shaped_int shaped_int (eqv_int i l)
theorem Et.neI {i l : Int} (hr : Room j X.A) (ha : Ev ka X a ds (.int i)) (hb : Ev kb X b ds (.int l)) : Et X (.Compare a [.NotEq] [b] pos) ds (!decide (i = l)) := Et.ne hr ha hb shaped_int shaped_int (by rw [eqv_int])
theorem Ev.eqI {i l : Int} (hr : Room j X.A) (ha : Ev ka X a ds (.int i)) (hb : Ev kb X b ds (.int l)) : Ev k X (.Compare a [.Eq] [b] pos) ds (.bool (decide (i = l))) := Ev.eq hr ha hb shaped_int shaped_int (eqv_int i l)
theorem Ev.neI {i l : Int} (hr : Room j X.A) (ha : Ev ka X a ds (.int i)) (hb : Ev kb X b ds (.int l)) : Ev k X (.Compare a [.NotEq] [b] pos) ds (.bool (!decide (i = l))) := Ev.ne hr ha hb shaped_int shaped_int (by rw [eqv_int])
theorem Et.eqB {i l : Bool} (hr : Room j X.A) (ha : Ev ka X a ds (.bool i)) (hb : Ev kb X b ds (.bool l)) : Et X (.Compare a [.Eq] [b] pos) ds (decide (i = l)) := Et.eq hr ha hb shaped_bool shaped_bool (eqv_bool i l)
theorem Et.neB {i l : Bool} (hr : Room j X.A) (ha : Ev ka X a ds (.bool i)) (hb : Ev kb X b ds (.bool l)) : Et X (.Compare a [.NotEq] [b] pos) ds (!decide (i = l)) := Et.ne hr ha hb shaped_bool shaped_bool (by rw [eqv_bool])
theorem Ea.consV (h : Ev k X e ds x) (h' : Ea .vw X es ds xs) (hs : starEach (e :: es) X.env = (false, eval e X.env) :: starEach es X.env := by rfl) : Ea .vw X (e :: es) ds (x :: xs) := Ea.cons h.vw h' hs
theorem En.one {op : BoolOp} (h : En X a ds xs) : En X (.BoolOp op [a] pos) ds xs := fun A F H σ sl Q q => WE.of (pe_one we) (h A F H σ sl Q q)
/-- a new list, or where it is empty another new one -/
theorem En.orX (h : En X a ds xs) (h' : xs = [] → En X (.BoolOp .Or (b :: rest) pos) ds ys) : En X (.BoolOp .Or (a :: b :: rest) pos) ds (if xs.isEmpty = true then ys else xs) := by
  intro A F H σ sl Q q
  cases xs with
  | nil =>
    exact WE.of (pe_orT we we) (h A F H σ sl _ fun p vs F1 H1 s1 hp fp hl hv => ⟨false, .inl ⟨vs, SqL.of hl, by rw [dpa_empty hv]; rfl⟩, iteF (h' rfl A F1 H1 σ (sl.step s1) Q fun p2 ws F2 H2 s2 hp2 fp2 hl2 hw => q p2 ws F2 H2 (s1.trans s2) (Same.free s1.h hp2) fp2 hl2 hw)⟩)
  | cons x xs =>
    exact WE.of (pe_orT (tb := fun _ _ _ => False) we ⟨fun _ _ _ _ _ _ f => f.elim⟩) (h A F H σ sl _ fun p vs F1 H1 s1 hp fp hl hv => ⟨true, .inl ⟨vs, SqL.of hl, by rw [dpa_empty hv]; rfl⟩, iteT (q p vs F1 H1 s1 hp fp hl hv)⟩)
end
section
variable {X : Cx} {st : Stmt} {sts body orelse : List Stmt} {ds es : List SD} {o : Out} {e t : Expr} {pos p : Pos} {d x : PyData} {xs ys : List PyData} {k : Kd} {n : Str}
theorem Sxs.one' (h : Sx X st ds (.nx es)) : Sxs X [st] ds (.nx es) := Sxs.one h
theorem Sx.is {o' : Out} (h : Sx X st ds o) (e : o = o') : Sx X st ds o' := e ▸ h
/-- while, by an invariant with its measure -/
theorem Sx.whileI (J : Nat → List SD → Prop) (m0 : Nat) (hp : PassesOwn (model X.prog X.w) X.A X.env X.xe) (h0 : J m0 ds)
    (hs : ∀ m es, J m es → (Et X t es false ∧ ∃ fs, o = .nx fs ∧ Dn.wk fs es) ∨ (Et X t es true ∧ ((∃ m' fs o', m' < m ∧ J m' fs ∧ Turned fs o' ∧ Sxs X body es o') ∨ ∃ o', Left o' o ∧ Sxs X body es o'))) : Sx X (.While t body [] pos) ds o := fun A F H σ D sl w => by
  refine WS.of (ps_while hp wt wss) ?_
  refine ⟨fun m σ' H' => ∃ es F', J m es ∧ Same F F' ∧ Sl X.K A F' H' σ' es, ⟨m0, ds, F, h0, ex_refl F, sl⟩, ?_⟩
  rintro m σ1 H1 ⟨es, F1, hj, e1, sl1⟩
  rcases hs m es hj with ⟨ht, fs, eo, hw⟩ | ⟨ht, hb⟩
  · refine ht A F1 H1 σ1 sl1 _ fun F2 H2 s2 => iteF ?_
    subst eo
    exact w F2 H2 σ1 (e1.trans s2.f) ((sl1.step s2).wk hw)
  · refine ht A F1 H1 σ1 sl1 _ fun F2 H2 s2 => iteT ?_
    rcases hb with ⟨m', fs, o', hm, hj', ht', hbo⟩ | ⟨o', hl, hbo⟩
    · exact ⟨fun σ' H' => ∃ F', Same F F' ∧ Sl X.K A F' H' σ' fs, fun σ' H' ⟨F', e', sl'⟩ => ⟨m', hm, fs, F', hj', e', sl'⟩, hbo A F2 H2 σ1 _ (sl1.step s2) (wants_turn ht' fun F3 H3 σ3 e3 sl3 => ⟨F3, e1.trans (s2.f.trans e3), sl3⟩)⟩
    · exact ⟨fun _ _ => False, fun _ _ f => f.elim, hbo A F2 H2 σ1 _ (sl1.step s2) (wants_left hl (w.mono (e1.trans s2.f)))⟩
/-- the loop's plainest form: all turns run through -/
theorem Sx.forAll {tg iter : Expr} (I : Nat → List SD) (hp : PassesOwn (model X.prog X.w) X.A X.env X.xe) (hc : X.calm = true) (hw : Wk k X tg iter ds xs) (h0 : I 0 = ds)
    (hb : ∀ (i : Nat) (d : PyData), xs[i]? = some d → ∃ es ws' o', Gx k X tg (I i) d es ws' ∧ Turned (I (i + 1)) o' ∧ Sxs X body es o') (hs : ∀ x, foldedSetIterable iter X.env x = pure x := by intro _; rfl) : Sx X (.For tg iter body [] pos) ds (.nx (I xs.length)) :=
  Sx.for I xs.length hp hc hw h0 (Nat.le_refl _) (fun i d _ h => hb i d h) (.inl ⟨rfl, rfl⟩) hs
/-- the state stays as it is -/
theorem Sx.forStay {tg iter : Expr} (hp : PassesOwn (model X.prog X.w) X.A X.env X.xe) (hc : X.calm = true) (hw : Wk k X tg iter ds xs)
    (hb : ∀ (i : Nat) (d : PyData), xs[i]? = some d → ∃ es ws' o', Gx k X tg ds d es ws' ∧ Turned ds o' ∧ Sxs X body es o') (hs : ∀ x, foldedSetIterable iter X.env x = pure x := by intro _; rfl) : Sx X (.For tg iter body [] pos) ds (.nx ds) :=
  Sx.forAll (fun _ => ds) hp hc hw rfl hb hs
end
theorem isi_ii : kitB "int" "int" = some true := by decide +kernel
theorem isi_ib : kitB "int" "bool" = some false := by decide +kernel
theorem isi_il : kitB "int" "list" = some false := by decide +kernel
theorem isi_it : kitB "int" "tuple" = some false := by decide +kernel
theorem isi_is : kitB "int" "str" = some false := by decide +kernel
theorem isi_bi : kitB "bool" "int" = some true := by decide +kernel
theorem isi_bb : kitB "bool" "bool" = some true := by decide +kernel
theorem isi_bl : kitB "bool" "list" = some false := by decide +kernel
theorem isi_bt : kitB "bool" "tuple" = some false := by decide +kernel
theorem isi_bs : kitB "bool" "str" = some false := by decide +kernel
theorem isi_li : kitB "list" "int" = some false := by decide +kernel
theorem isi_lb : kitB "list" "bool" = some false := by decide +kernel
theorem isi_ll : kitB "list" "list" = some true := by decide +kernel
theorem isi_lt : kitB "list" "tuple" = some false := by decide +kernel
theorem isi_ls : kitB "list" "str" = some false := by decide +kernel
theorem isi_ti : kitB "tuple" "int" = some false := by decide +kernel
theorem isi_tb : kitB "tuple" "bool" = some false := by decide +kernel
theorem isi_tl : kitB "tuple" "list" = some false := by decide +kernel
theorem isi_tt : kitB "tuple" "tuple" = some true := by decide +kernel
theorem isi_ts : kitB "tuple" "str" = some false := by decide +kernel
theorem isi_si : kitB "str" "int" = some false := by decide +kernel
theorem isi_sb : kitB "str" "bool" = some false := by decide +kernel
theorem isi_sl : kitB "str" "list" = some false := by decide +kernel
theorem isi_st : kitB "str" "tuple" = some false := by decide +kernel
theorem isi_ss : kitB "str" "str" = some true := by decide +kernel
theorem isi_ni : kitB "NoneType" "int" = some false := by decide +kernel
theorem isi_nb : kitB "NoneType" "bool" = some false := by decide +kernel
theorem isi_nl : kitB "NoneType" "list" = some false := by decide +kernel
theorem isi_nt : kitB "NoneType" "tuple" = some false := by decide +kernel
theorem isi_ns : kitB "NoneType" "str" = some false := by decide +kernel
/-! ### defs as functions of data -/
def FR (Pre : List PyData → Prop) (res : List PyData → PyData) : List PyData → PyData → Prop := fun xs d => Pre xs ∧ d = res xs
def NR (Pre : List PyData → Prop) (res : List PyData → List PyData) : List PyData → List PyData → Prop := fun xs d => Pre xs ∧ d = res xs
section
variable {X : Cx} {a b e : Expr} {es rest : List Expr} {ds : List SD} {d x y z : PyData} {k ka kb kc : Kd} {pos p : Pos} {xs ys : List PyData} {n : Str} {j : Nat}
theorem Ev.callF {Pre : List PyData → Prop} {res : List PyData → PyData} (D : Dfn X.prog X.w X.K X.mg X.base j n (spF X.K (FR Pre res))) (hr : Room j X.A) (ha : Ea ka X (e :: es) ds xs) (h : Pre xs) (hz : res xs = z := by rfl) (hg : Gl X n := by rfl) (hdb : (n == ("__debug__" : Str)) = false := by decide)
    (he : starEach (e :: es) X.env = (false, eval e X.env) :: starEach es X.env := by rfl) (hpl : (backTo pos (starEach es X.env)).any (·.1) = false := by rfl) : Ev k X (.Call (.Name n p) (e :: es) [] pos) ds z := Ev.call D hr ha ⟨h, hz.symm⟩ hg hdb he hpl
theorem En.callF {Pre : List PyData → Prop} {res : List PyData → List PyData} (D : Dfn X.prog X.w X.K X.mg X.base j n (spN X.K (NR Pre res))) (hr : Room j X.A) (ha : Ea ka X (e :: es) ds xs) (h : Pre xs) (hz : res xs = ys := by rfl) (hg : Gl X n := by rfl) (hdb : (n == ("__debug__" : Str)) = false := by decide)
    (he : starEach (e :: es) X.env = (false, eval e X.env) :: starEach es X.env := by rfl) (hpl : (backTo pos (starEach es X.env)).any (·.1) = false := by rfl) : En X (.Call (.Name n p) (e :: es) [] pos) ds ys := En.call D hr ha ⟨h, hz.symm⟩ hg hdb he hpl
end
def one1 (xs : List PyData) : Prop := ∃ x, xs = [x]
def two2 (xs : List PyData) : Prop := ∃ x y, xs = [x, y]
section
variable {X : Cx} {a b e : Expr} {ds : List SD} {k ka kb : Kd} {pos : Pos} {xs : List PyData}
theorem Ev.ixLi {i z : Int} (ha : Ei ka X a ds xs) (hb : Ev kb X b ds (.int i)) (h : atI xs i = some (.int z)) (hs : PlainIx b := by exact fun _ _ => rfl) : Ev k X (.Subscript a b pos) ds (.int z) := Ev.sc (Ev.ixL ha hb h hs) trivial
theorem Ev.ixTi {i z : Int} (ha : Ev ka X a ds (.tuple xs)) (hb : Ev kb X b ds (.int i)) (h : atI xs i = some (.int z)) (hs : PlainIx b := by exact fun _ _ => rfl) : Ev k X (.Subscript a b pos) ds (.int z) := Ev.sc (Ev.ixT ha hb h hs) trivial
end
section
variable {X : Cx} {tg iter : Expr} {ds : List SD} {k : Kd} {pos : Pos} {xs ys : List PyData} {e : Expr}
theorem En.is (h : En X e ds xs) (q : xs = ys) : En X e ds ys := q ▸ h
theorem El.is {X : Cx} {ds : List SD} {e : Expr} {xs ys : List PyData} (h : El X e ds xs) (q : xs = ys) : El X e ds ys := q ▸ h
/-- every item gives one -/
theorem El.map {elt : Expr} {scope : Scope} {own : List (Str × Nat)} (hc : X.calm = true) (hN : X.N.Nodup) (hw : Wk k X tg iter ds xs) (ok : BlkOk X.N X.env.scope scope own) (ys : List PyData) (hl : ys.length = xs.length) (hz : xs.length ≤ 90000)
    (hb : ∀ (i : Nat) (d y : PyData), xs[i]? = some d → ys[i]? = some y → ∃ (es : List SD) (ws : List Nat), (∀ i ∈ ws, i ∈ own.map (·.2)) ∧ Fam X scope (fun Y => Gx k Y tg (wipeD ds (own.map (·.2))) d es ws) ∧ Fam X scope (fun Y => Ev .fr Y elt es y))
    (hs : ∀ x, foldedSetIterable iter X.env x = pure x := by intro _; rfl) : El X (.ListComp elt [⟨tg, iter, [], 0⟩] scope pos) ds ys := by
  refine El.is (El.lc hc hN hw ok (fun i => ys.take i) rfl hz (fun i _ => Nat.le_trans (by rw [List.length_take]; omega) hz) (fun i d hd => ?_) hs) (by rw [← hl, List.take_length])
  have hi : i < ys.length := by
    have := (List.getElem?_eq_some_iff.mp hd).1
    omega
  obtain ⟨es, ws, h1, h2, h3⟩ := hb i d ys[i] hd (List.getElem?_eq_getElem hi)
  exact ⟨es, ws, true, h1, h2, fun _ _ _ _ _ => rfl, by rw [if_pos rfl]; exact ⟨ys[i], List.take_succ_eq_append_getElem hi, h3⟩⟩
theorem En.lcMap {elt : Expr} {scope : Scope} {own : List (Str × Nat)} (hc : X.calm = true) (hN : X.N.Nodup) (hw : Wk k X tg iter ds xs) (ok : BlkOk X.N X.env.scope scope own) (ys : List PyData) (hl : ys.length = xs.length) (hz : xs.length ≤ 90000)
    (hb : ∀ (i : Nat) (d y : PyData), xs[i]? = some d → ys[i]? = some y → ∃ (es : List SD) (ws : List Nat), (∀ i ∈ ws, i ∈ own.map (·.2)) ∧ Fam X scope (fun Y => Gx k Y tg (wipeD ds (own.map (·.2))) d es ws) ∧ Fam X scope (fun Y => Ev .fr Y elt es y))
    (hs : ∀ x, foldedSetIterable iter X.env x = pure x := by intro _; rfl) : En X (.ListComp elt [⟨tg, iter, [], 0⟩] scope pos) ds ys := (El.map hc hN hw ok ys hl hz hb hs).en
/-- no item passes -/
theorem En.lcNone {elt t : Expr} {scope : Scope} {own : List (Str × Nat)} (hc : X.calm = true) (hN : X.N.Nodup) (hw : Wk k X tg iter ds xs) (ok : BlkOk X.N X.env.scope scope own) (hz : xs.length ≤ 90000)
    (hb : ∀ (i : Nat) (d : PyData), xs[i]? = some d → ∃ (es : List SD) (ws : List Nat), (∀ i ∈ ws, i ∈ own.map (·.2)) ∧ Fam X scope (fun Y => Gx k Y tg (wipeD ds (own.map (·.2))) d es ws) ∧ Fam X scope (fun Y => Et Y t es false))
    (hs : ∀ x, foldedSetIterable iter X.env x = pure x := by intro _; rfl) : En X (.ListComp elt [⟨tg, iter, [t], 0⟩] scope pos) ds [] := by
  refine En.lc hc hN hw ok (fun _ => []) rfl hz (fun i _ => Nat.zero_le _) (fun i d hd => ?_) hs
  obtain ⟨es, ws, h1, h2, h3⟩ := hb i d hd
  exact ⟨es, ws, false, h1, h2, h3, rfl⟩
end
theorem ixN_nat {n j : Nat} (h : j < n) : ixN n (j : Int) = some j := by
  unfold ixN
  rw [if_pos (by omega), if_pos (by omega)]
  simp
theorem ixN_last (n : Nat) : ixN (n + 1) (-1) = some n := by
  unfold ixN
  rw [if_neg (by decide), if_pos (by omega)]
  congr 1
  omega
theorem Ev.abs {X : Cx} {e : Expr} {ds : List SD} {k ka : Kd} {pos p : Pos} {i : Int} (hm : X.mg "abs" = none) (ha : Ev ka X e ds (.int i)) (hg : Gl X "abs" := by rfl) (hes : starEach [e] X.env = (false, eval e X.env) :: starEach [] X.env := by rfl) (hpl : (backTo pos (starEach [] X.env)).any (·.1) = false := by rfl) :
    Ev k X (.Call (.Name "abs" p) [e] [] pos) ds (.int (if i < 0 then -i else i)) := Ev.callB call_abs hg hm (by decide +kernel) (Ea.cons ha Ea.nil hes) (fun A F H vs w hv Q q => by
  cases hv with
  | cons h1 h2 =>
    cases h2
    cases h1
    exact ⟨i, rfl, q _ F H (Stp.refl w.exF) (.int _)⟩) (by decide) (by decide) hes hpl
theorem Ev.min2 {X : Cx} {a b : Expr} {ds : List SD} {k ka kb : Kd} {pos p : Pos} {i j : Int} (hc : X.calm = true) (hm : X.mg "min" = none) (ha : Ev ka X a ds (.int i)) (hb : Ev kb X b ds (.int j)) (hg : Gl X "min" := by rfl) (hes : starEach [a, b] X.env = (false, eval a X.env) :: starEach [b] X.env := by rfl)
    (hes2 : starEach [b] X.env = (false, eval b X.env) :: starEach [] X.env := by rfl) (hpl : (backTo pos (starEach [b] X.env)).any (·.1) = false := by rfl) :
    Ev k X (.Call (.Name "min" p) [a, b] [] pos) ds (.int (if j < i then j else i)) := Ev.ofFr (Ev.callB (ka := .fr) (call_min2 hc) hg hm (by decide +kernel) (Ea.cons (Ev.sc ha trivial) (Ea.cons (Ev.sc hb trivial) Ea.nil hes2) hes) (fun A F H vs w hv Q q => by
  cases hv with
  | cons h1 h2 =>
    cases h2 with
    | cons h2 h3 =>
      cases h3
      cases h1
      cases h2
      exact ⟨i, j, rfl, q _ F H (Stp.refl w.exF) (.int _)⟩) (by decide) (by decide) hes hpl)
theorem at0 {α : Type} {x : α} {xs : List α} : atI (x :: xs) 0 = some x := atI_nat (xs := x :: xs) (j := 0) rfl
theorem at1 {α : Type} {x y : α} {xs : List α} : atI (x :: y :: xs) 1 = some y := atI_nat (xs := x :: y :: xs) (j := 1) rfl
theorem at2 {α : Type} {x y z : α} {xs : List α} : atI (x :: y :: z :: xs) 2 = some z := atI_nat (xs := x :: y :: z :: xs) (j := 2) rfl
theorem at3 {α : Type} {x y z v : α} {xs : List α} : atI (x :: y :: z :: v :: xs) 3 = some v := atI_nat (xs := x :: y :: z :: v :: xs) (j := 3) rfl
theorem atL {xs : List PyData} {d : PyData} (h : xs.getLast? = some d) : atI xs (-1) = some d := by
  rw [List.getLast?_eq_some_iff] at h
  obtain ⟨ys, rfl⟩ := h
  exact atI_last ys d
theorem atN {xs : List PyData} {d : PyData} {i : Int} {j : Nat} (e : i = (j : Int)) (h : xs[j]? = some d) : atI xs i = some d := by
  rw [e]
  exact atI_nat h
theorem cut_1 (xs : List PyData) : cutD xs (some 1) none = xs.drop 1 := cut_from xs 1
/-! ### pieces of a text by places -/
def stBody : Stmt → List Stmt
  | .For _ _ b _ _ => b
  | .While _ b _ _ => b
  | .If _ b _ _ => b
  | _ => []
def stElse : Stmt → List Stmt
  | .If _ _ b _ => b
  | _ => []
def stTest : Stmt → Expr
  | .If t _ _ _ => t
  | .While t _ _ _ => t
  | _ => .Constant .none 0 ⟨0, 0, 0, 0⟩
def stVal : Stmt → Expr
  | .Assign _ v _ => v
  | .Return (some v) _ => v
  | .Expr v _ => v
  | _ => .Constant .none 0 ⟨0, 0, 0, 0⟩
def stIter : Stmt → Expr
  | .For _ i _ _ _ => i
  | _ => .Constant .none 0 ⟨0, 0, 0, 0⟩
def stTg : Stmt → Expr
  | .For t _ _ _ _ => t
  | _ => .Constant .none 0 ⟨0, 0, 0, 0⟩
def boolV : Expr → Nat → Expr
  | .BoolOp _ vs _, i => vs.getD i (.Constant .none 0 ⟨0, 0, 0, 0⟩)
  | e, _ => e
def cmpL : Expr → Expr
  | .Compare a _ _ _ => a
  | e => e
def notV : Expr → Expr
  | .UnaryOp _ a _ => a
  | e => e
def arg0 : Expr → Expr
  | .Call _ (a :: _) _ _ => a
  | e => e
def nthS (l : List Stmt) (i : Nat) : Stmt := l.getD i (.Pass ⟨0, 0, 0, 0⟩)
end Dn
namespace Dn
open PySem L2 PyProof.Rows
/-! ### slices with a step -/
def pickL {α : Type} (xs : List α) (lo hi st : Option Int) : List α :=
  (sliceRange (sliceBounds lo hi st xs.length).1 (sliceBounds lo hi st xs.length).2.1 (sliceBounds lo hi st xs.length).2.2).filterMap (xs[·]?)
theorem pick_vals : ∀ {xs : List V} {us : List Value} (is : List Nat), Vals xs us → Vals (is.filterMap (xs[·]?)) (is.filterMap (us[·]?))
  | _, _, [], _ => .nil
  | xs, us, i :: is, r => by
    rw [List.filterMap_cons, List.filterMap_cons]
    cases e : xs[i]? with
    | none =>
      rw [r.none_of e]
      exact pick_vals is r
    | some v =>
      obtain ⟨u, h1, h2⟩ := r.get e
      rw [h1]
      exact .cons h2 (pick_vals is r)
theorem pick_dq {K : PySem.W.Frag} {H : Hp} : ∀ {vs : List V} {ds : List PyData} (is : List Nat), DqAll K H vs ds → DqAll K H (is.filterMap (vs[·]?)) (is.filterMap (ds[·]?))
  | _, _, [], _ => .nil
  | vs, ds, i :: is, r => by
    rw [List.filterMap_cons, List.filterMap_cons]
    cases e : ds[i]? with
    | none =>
      have : vs[i]? = none := by
        rw [List.getElem?_eq_none_iff] at e ⊢
        rw [dpa_len r]
        exact e
      rw [this]
      exact pick_dq is r
    | some d =>
      obtain ⟨v, h1, h2⟩ := dpa_get r e
      rw [h1]
      exact .cons h2 (pick_dq is r)
theorem pick_map {α β : Type} (f : α → β) (xs : List α) (lo hi st : Option Int) : pickL (xs.map f) lo hi st = (pickL xs lo hi st).map f := by
  unfold pickL
  rw [List.length_map, List.map_filterMap]
  congr 1
  funext i
  rw [List.getElem?_map]
theorem pick_len {α : Type} (xs : List α) (lo hi st : Option Int) : (pickL xs lo hi st).length ≤ xs.length := by
  have h := slicePick_size_le (List.replicate xs.length Value.none).toArray lo hi st
  unfold slicePick at h
  rw [List.size_toArray, List.size_toArray, List.length_replicate] at h
  -- both pick by the same places
  have e : ∀ (is : List Nat) (ys : List Value), ys.length = xs.length → (is.filterMap (xs[·]?)).length = (is.filterMap (ys[·]?)).length := by
    intro is ys hy
    induction is with
    | nil => rfl
    | cons i is ih =>
      rw [List.filterMap_cons, List.filterMap_cons]
      by_cases hi : i < xs.length
      · rw [List.getElem?_eq_getElem hi, List.getElem?_eq_getElem (by omega)]
        exact congrArg (· + 1) ih
      · rw [List.getElem?_eq_none (by omega), List.getElem?_eq_none (by omega)]
        exact ih
  unfold pickL
  rw [e _ (List.replicate xs.length Value.none) (List.length_replicate ..)]
  have f : ∀ i : Nat, (List.replicate xs.length Value.none)[i]? = (List.replicate xs.length Value.none).toArray[i]? := fun i => by rw [List.getElem?_toArray]
  simp only [f]
  exact h
/-- e[lo:hi:st] -/
def tStep (K : PySem.W.Frag) (te : TE) (tl th ts : TO) : TE := fun σ H Q => te σ H fun x H1 => tl σ H1 fun lo H2 => th σ H2 fun hi H3 => ts σ H3 fun st H4 => ∃ a xs, x = .ref a ∧ SqL K H4 a xs ∧ st ≠ some 0 ∧ ∀ p, H4 p = none → Q (.ref p) (upd H4 p (.lst (pickL xs lo hi st)))
theorem pe_step {X : Cx} {e se : Expr} {lo hi : Option Expr} {te : TE} {tl th ts : TO} {p3 pos : Pos} (he : PE X e te) (hl : PO X lo tl) (hu : PO X hi th) (hs : PO X (some se) ts) : PE X (.Subscript e (.Slice lo hi (some se) p3) pos) (tStep X.K te tl th ts) := by
  refine ⟨fun pins s σ H Q I h => ?_⟩
  refine Subscript_ (thn (he.run pins s σ H _ I h) fun v s1 ⟨x, H1, I1, r1, q1⟩ => ?_)
  refine wpAny_Slice (thn (hl.run pins s1 σ H1 _ I1 q1) fun vl s2 ⟨l, H2, I2, pl, q2⟩ => thn (hu.run pins s2 σ H2 _ I2 q2) fun vu s3 ⟨u, H3, I3, pu, q3⟩ => thn (hs.run pins s3 σ H3 _ I3 q3) fun vs s4 ⟨o, H4, I4, ps, q4⟩ => ?_)
  obtain ⟨a, xs, ex, hx, h0, q⟩ := q4
  subst ex
  cases r1
  have I5 : Inv X pins σ H4 { s4 with heap := s4.heap.push { cls := .type "slice", data := .fields #[vl, vu, vs] } } := I4.kept (t' := s4.toks) fun b ob q => Heap.get?_push_of_some _ q
  obtain ⟨its, r, ht, hz⟩ := I5.list hx
  have hlen := r.length
  show wpAny (model X.prog X.w) X.A (subscriptTail e (.Slice lo hi (some se) p3) (.ref a) (.ref s4.heap.objs.size)) (EP X pins σ Q) X.xe { s4 with heap := s4.heap.push { cls := .type "slice", data := .fields #[vl, vu, vs] } }
  refine tail_any (ops := [.ref a, .ref s4.heap.objs.size]) ht.isList.typeIs (PySem.slot_list_getitem.lookup) ?_ (by with_unfolding_all rfl)
  refine wpAny_getItem_list_slice ht.isList (Heap.IsSliceOf.new _ vl vu vs) pl pu ps h0 ?_ (by rw [List.size_toArray]; omega)
  have ep : slicePick its.toArray l u o = (pickL its l u o).toArray := by
    unfold slicePick pickL
    rw [List.size_toArray]
    have f : ∀ i : Nat, its.toArray[i]? = its[i]? := fun i => List.getElem?_toArray
    simp only [f]
  have rp : Vals (pickL xs l u o) (pickL its l u o) := by
    unfold pickL
    rw [hlen]
    exact pick_vals _ r
  rw [ep]
  refine ⟨.ref _, _, I5.laid (t' := s4.toks) (o := .lst (pickL xs l u o)) (fun b ob q => Heap.get?_push_of_some _ q) (Nat.le_refl _) ?_, rfl, q _ (I5.hok.fresh (Nat.le_refl _))⟩
  exact ⟨Nat.le_trans (pick_len xs l u o) hz, _, 0, rp, Heap.get?_push_size _ rfl⟩
section
variable {X : Cx} {a se : Expr} {ds : List SD} {k : Kd} {pos : Pos} {xs : List PyData}
theorem Ev.step {lo hi : Option Expr} {ol oh os : Option Int} {p2 : Pos} (ha : Ei k X a ds xs) (hl : Eo X lo ds ol) (hh : Eo X hi ds oh) (hs : Eo X (some se) ds os) (h0 : os ≠ some 0) : Ev k X (.Subscript a (.Slice lo hi (some se) p2) pos) ds (.list (pickL xs ol oh os)) := fun A F H σ sl Q q => by
  obtain ⟨tl, pl, rl⟩ := hl.run
  obtain ⟨th, ph, rh⟩ := hh.run
  obtain ⟨ts, ps, rs⟩ := hs.run
  refine WE.of (pe_step we pl ph ps) (ha A F H σ sl _ fun p vs F1 H1 s1 hr hv => rl A F1 H1 σ (sl.step s1) _ fun F2 H2 s2 => rh A F2 H2 σ ((sl.step s1).step s2) _ fun F3 H3 s3 => rs A F3 H3 σ (((sl.step s1).step s2).step s3) _ fun F4 H4 s4 => ?_)
  have s5 := (s2.trans s3).trans s4
  refine ⟨p, vs, rfl, Same.seq s5.h hr, h0, fun c hc => ?_⟩
  have n := Ev.newL (k := k) (vs := pickL vs ol oh os) sl.w (s1.trans s5) hc (by
    have d := dpa_ex (sel_mono (sl.w.step s1) s5) _ _ hv
    unfold pickL
    rw [dpa_len d]
    exact pick_dq _ d)
  exact q _ _ _ n.1 n.2
end
end Dn
namespace Dn
open PySem L2 PyProof.Rows
section
variable {X : Cx} {ds : List SD} {xs : List PyData} {n : Str} {pos : Pos} {d : PyData} {k : Kd}
/-- xs.reverse() -/
theorem Sx.reverse (i : Nat) {pn apos cpos : Pos} (hd : ds[i]? = some (.own xs)) (hN : X.N[i]? = some n := by rfl) (hv : Vis X.env.scope n := by first | exact Or.inl rfl | exact Or.inr (Or.inl rfl) | exact Or.inr (Or.inr rfl)) (hb : (n == ("__debug__" : Str)) = false := by decide)
    (hc : (n == ("__classdict__" : Str)) = false := by decide) (hbase : attributeBase (.Name n pn) "reverse" X.env (eval (.Name n pn) X.env) = eval (.Name n pn) X.env := by rfl)
    (hline : (apos.endLine == cpos.line) = true := by rfl) (hsw : swapsWith (.Call (.Attribute (.Name n pn) "reverse" apos) [] [] cpos) none pos.line X.env = pure false := by rfl) :
    Sx X (.Expr (.Call (.Attribute (.Name n pn) "reverse" apos) [] [] cpos) pos) ds (.nx (ds.set i (.own xs.reverse))) := fun A F H σ D sl w => by
  obtain ⟨o, e1, p, vs, e2, hA, hF, hH, hvs⟩ := sl.at_ i _ hd
  subst e2
  refine WS.of (ps_expr (pe_bm0 PySem.F.plainAttrs_list PySem.F.slot_list_reverse PySem.F.type_list_reverse mt_reverse (pv i hN hv hb hc) hbase hline) hsw) ?_
  refine ⟨_, e1, .inl ⟨rfl, _, SqL.of hH⟩, p, vs, rfl, rfl, hH, ?_⟩
  exact w F _ σ (ex_refl F) (sl.write hd e1 (dpa_rev hvs))
/-- an own list that stands still meanwhile -/
theorem En.frz {e : Expr} {is : List Int} (i : Nat) (hi : ds[i]? = some (.own xs)) (h : En X e (ds.set i (.dat (.list xs))) (is.map .int)) : En X e ds (is.map .int) := fun A F H σ sl Q q => by
  obtain ⟨F1, e1, sl1⟩ := sl.freeze hi
  exact h A F1 H σ sl1 Q fun p vs F' H' s hp fp hl hv => q p vs F H' ⟨ex_refl F, s.h, sl.w.exF.trans s.h, fun _ _ _ n => n⟩ hp (Same.free sl.w.exF hp) hl (dpa_ints F hv)
/-- a global constant -/
def GD (K : PySem.W.Frag) (mg : Str → Option Value) (n : Str) (d : PyData) : Prop := ∃ a, mg n = some (.ref a) ∧ ∀ H, Dq K H (.ref a) d
theorem Ev.glob (h : GD X.K X.mg n d) (hg : Gl X n := by rfl) (hb : (n == ("__debug__" : Str)) = false := by decide) : Ev k X (.Name n pos) ds d := fun A F H σ sl Q q => by
  obtain ⟨a, hm, hd⟩ := h
  exact WE.of (pe_glob (v := .ref a) hg hm rfl hb) (q (.ref a) F H (Stp.refl sl.w.exF) (hd _))
/-- a constant tuple of texts, locked in the top -/
theorem strs_dq {K : PySem.W.Frag} {H : Hp} : ∀ ws : List Str, DqAll K H (ws.map V.str) (ws.map .str)
  | [] => .nil
  | w :: ws => .cons (.str w) (strs_dq ws)
theorem strs_of {K : PySem.W.Frag} {H : Hp} : ∀ {vs : List V} {ws : List Str}, DqAll K H vs (ws.map .str) → vs = ws.map V.str
  | _, [], .nil => rfl
  | _, _ :: _, .cons a b => by
    cases a
    rw [strs_of b]
    rfl
theorem flat_strs : ∀ ws : List Str, (ws.map V.str).all flatV = true
  | [] => rfl
  | _ :: ws => flat_strs ws
theorem in_strs (s : Str) : ∀ ws : List Str, inV (.str s) (ws.map V.str) = ws.any fun y => y == s
  | [] => rfl
  | w :: ws => by
    have := in_strs s ws
    unfold inV at this ⊢
    rw [List.map_cons, List.any_cons, List.any_cons, this]
    rfl
variable {a b : Expr} {ka kb : Kd} {s : Str} {ws : List Str}
theorem rd_inS {K : PySem.W.Frag} {neg : Bool} : RD K (rIn K neg) ka kb (.str s) (.tuple (ws.map .str)) k (.bool (if neg then !(ws.any fun y => y == s) else ws.any fun y => y == s)) := fun A F H u v w hu hv Q q => by
  cases hu
  cases hv with
  | tup ht ha =>
    rw [strs_of ha] at ht
    refine ⟨_, _, rfl, .inr (sqt_ex (sel_H w) ht), rfl, flat_strs ws, ?_⟩
    rw [in_strs]
    exact q _ F H (Stp.refl w.exF) (.bl _)
theorem Et.inS (ha : Ev ka X a ds (.str s)) (hb : Ev kb X b ds (.tuple (ws.map .str))) (hm : behindInMarks .In b = false := by rfl) : Et X (.Compare a [.In] [b] pos) ds (ws.any fun y => y == s) := Et.cmp op_in_seq ha hb rd_inS hm
theorem Et.notInS (ha : Ev ka X a ds (.str s)) (hb : Ev kb X b ds (.tuple (ws.map .str))) (hm : behindInMarks .NotIn b = false := by rfl) : Et X (.Compare a [.NotIn] [b] pos) ds (!(ws.any fun y => y == s)) := Et.cmp op_notIn_seq ha hb rd_inS hm
/-! == of texts -/
theorem eqv_str (x y : Str) : PyData.eqv (.str x) (.str y) = decide (x = y) := by
  rw [PyData.eqv]
  by_cases h : x = y
  · subst h
    simp
  · simp [h]
theorem shaped_str {x : Str} (h : PyData.strOk x = true) : SeqAt.shaped (.str x) = true := shaped_of (by rw [PyData.canLay0]; exact h) (by simp [PyData.depth])
theorem Et.eqS {x y : Str} {j : Nat} (hr : Room j X.A) (ha : Ev ka X a ds (.str x)) (hb : Ev kb X b ds (.str y)) (hx : PyData.strOk x = true) (hy : PyData.strOk y = true := by decide +kernel) : Et X (.Compare a [.Eq] [b] pos) ds (decide (x = y)) := Et.eq hr ha hb (shaped_str hx) (shaped_str hy) (eqv_str x y)
end
end Dn
namespace Dn
open PySem L2 PyProof.Rows
/-! ### a pair turned round -/
section
variable {prog : Program} {w : World} {A : Around} {E : Value → Shared → Prop} {s : Shared}
theorem rev_applied {sl : Addr} {vs : Value} {Q : Int × Int × Nat → Shared → Prop} (hs : s.heap.IsSliceOf sl .none .none vs) (ps : IsPart vs (some (-1)))
    (h : Q (1, -1, 2) s) : wpAny (model prog w) A (Builtin.Slice.sliceApplied (.ref sl) (pure ((2 : Nat) : Int))) Q E s := by
  obtain ⟨os, hos, hcs, hds⟩ := id hs
  unfold Builtin.Slice.sliceApplied Builtin.Slice.sliceFields
  refine wpAny_bind (wpAny_bind (wpAny_field hos hds (x := .none) rfl (wpAny_bind (wpAny_field hos hds (x := .none) rfl (wpAny_bind (wpAny_field hos hds (x := vs) rfl (wpAny_pure ?_)))))))
  refine wpAny_bind (HT.slicePart_ ps ?_)
  show wpAny _ _ (if ((-1 : Int) == 0) = true then _ else _) _ _ s
  rw [if_neg (by decide)]
  refine wpAny_bind (HT.slicePart_ .none (wpAny_bind (HT.slicePart_ .none (wpAny_bind (wpAny_pure ?_)))))
  exact wpAny_pure h
theorem getItem_pair_rev {t sl : Addr} {u v vs : Value} {Q : Value → Shared → Prop} (ht : IsTup s.heap t #[u, v]) (hs : s.heap.IsSliceOf sl .none .none vs) (ps : IsPart vs (some (-1)))
    (h : Q (.ref s.heap.objs.size) { s with heap := s.heap.push { cls := .type "tuple", data := .seq #[v, u] } }) : wpAny (model prog w) A (getItem (.ref t) (.ref sl)) Q E s := by
  have htake : sizeOk (.seq #[v, u]) := by
    show (2 : Nat) ≤ sizeLine
    rw [sizeLine_eq]
    decide
  obtain ⟨os, hos, hcs, hds⟩ := id hs
  have hTs : s.TypeIs (.ref sl) "slice" := ⟨os, hos, hcs⟩
  unfold getItem
  try with_reducible refine wpAny_holding ?_
  first | refine wpAny_bind (wpAny_pure ?_) | skip
  refine wpAny_bind (wpAny_sequenceKey ht.typeIs (by decide) ?_)
  refine wpAny_bind (wpAny_callSpecial?_slot (name := Str.ofString "__getitem__") ht.typeIs PyProof.Rows.slot_tuple_getitem
    (wpAny_call_entry PyProof.Rows.slot_tuple_getitem ht.typeIs entry_tuple_getitem ?_ (args_tuple_getitem _ _)))
  show wpAny _ _ (Builtin.Tuple.tupleItemsOf (.ref t) >>= _) _ _ s
  refine wpAny_bind (tupleItemsOf_ ht ?_)
  refine wpAny_bind (wpAny_typeOf hTs ?_)
  rw [if_pos (by decide)]
  refine wpAny_bind (rev_applied hs ps ?_)
  show wpAny _ _ (if ((1 : Int) == 0 && (-1 : Int) == 1 && (2 : Nat) == 2) = true then _ else _) _ _ s
  rw [if_neg (by decide)]
  have e : ((List.range 2).filterMap fun (m : Nat) => (#[u, v] : Array Value)[((1 : Int) + (m : Int) * (-1)).toNat]?).toArray = #[v, u] := by rfl
  first
    | exact wpAny_bind (m := Builtin.Tuple.tupleExact _) (wpAny_newObj_type (wpAny_pure ⟨_, rfl, wpAny_pure h⟩) htake)
    | exact wpAny_bind (m := Builtin.Tuple.tupleExact _) (wpAny_newObj_type (wpAny_bind (wpAny_pure (wpAny_pure ⟨_, rfl, wpAny_pure h⟩))) htake)
end
def tRevP (K : PySem.W.Frag) (te : TE) : TE := fun σ H Q => te σ H fun x H1 => ∃ a u v, x = .ref a ∧ SqT K H1 a [u, v] ∧ ∀ p, H1 p = none → Q (.ref p) (upd H1 p (.tup [v, u]))
theorem pe_revP {X : Cx} {e : Expr} {te : TE} {k : Nat} {p1 p2 p3 pos : Pos} (he : PE X e te) : PE X (.Subscript e (.Slice none none (some (.UnaryOp .USub (.Constant (.int 1) k p1) p2)) p3) pos) (tRevP X.K te) := by
  refine ⟨fun pins s σ H Q I h => ?_⟩
  refine Subscript_ (thn (he.run pins s σ H _ I h) fun v s1 ⟨x, H1, I1, r1, q1⟩ => ?_)
  obtain ⟨a, y, z, ex, hx, q⟩ := q1
  subst ex
  cases r1
  have hst : PO X (some (.UnaryOp .USub (.Constant (.int 1) k p1) p2)) (tPart (tUn (rU fun i => .int (-i)) (tC (.int 1)))) := po_some (pe_un un_neg pe_int)
  refine wpAny_Slice (thn (po_none.run pins s1 σ H1 (fun o H2 => o = none ∧ H2 = H1) I1 ⟨rfl, rfl⟩) fun vl s2 ⟨l, H2, I2, pl, el, e2⟩ => ?_)
  subst el e2
  refine thn (po_none.run pins s2 σ H2 (fun o H3 => o = none ∧ H3 = H2) I2 ⟨rfl, rfl⟩) fun vu s3 ⟨u, H3, I3, pu, eu, e3⟩ => ?_
  subst eu e3
  refine thn (hst.run pins s3 σ H3 (fun o H4 => o = some (-1) ∧ H4 = H3) I3 ⟨1, rfl, -1, rfl, rfl, rfl⟩) fun vs s4 ⟨o, H4, I4, ps, eo, e4⟩ => ?_
  subst eo e4
  have I5 : Inv X pins σ H4 { s4 with heap := s4.heap.push { cls := .type "slice", data := .fields #[vl, vu, vs] } } := I4.kept (t' := s4.toks) fun b ob q => Heap.get?_push_of_some _ q
  cases pl
  cases pu
  obtain ⟨its, r, ht, hz⟩ := I5.tuple hx
  obtain ⟨u1, u2, ei, r1, r2⟩ := r.two
  subst ei
  show wpAny (model X.prog X.w) X.A (subscriptTail e (.Slice none none (some (.UnaryOp .USub (.Constant (.int 1) k p1) p2)) p3) (.ref a) (.ref s4.heap.objs.size)) (EP X pins σ Q) X.xe { s4 with heap := s4.heap.push { cls := .type "slice", data := .fields #[.none, .none, vs] } }
  refine tail_any (ops := [.ref a, .ref s4.heap.objs.size]) ht.typeIs (PyProof.Rows.slot_tuple_getitem.lookup) ?_ (by with_unfolding_all rfl)
  refine getItem_pair_rev ht (Heap.IsSliceOf.new _ .none .none vs) ps ?_
  refine ⟨.ref _, _, I5.laid (t' := s4.toks) (o := .tup [z, y]) (fun b ob q => Heap.get?_push_of_some _ q) (Nat.le_refl _) ?_, rfl, q _ (I5.hok.fresh (Nat.le_refl _))⟩
  exact ⟨hz, _, .cons r2 (.cons r1 .nil), IsTup.new _ _⟩
/-- a pair turned round -/
theorem Ev.revP {X : Cx} {e : Expr} {ds : List SD} {k : Kd} {j : Nat} {p1 p2 p3 pos : Pos} {x y : PyData} (ha : Ev k X e ds (.tuple [x, y])) : Ev k X (.Subscript e (.Slice none none (some (.UnaryOp .USub (.Constant (.int 1) j p1) p2)) p3) pos) ds (.tuple [y, x]) := fun A F H σ sl Q q =>
  WE.of (pe_revP we) (ha A F H σ sl _ fun v F1 H1 s1 hv => by
    cases hv with
    | tup ht hd =>
      cases hd with
      | cons h1 h2 =>
        cases h2 with
        | cons h2 h3 =>
          cases h3
          refine ⟨_, _, _, rfl, sqt_ex (sel_H (sl.w.step s1)) ht, fun c hc => ?_⟩
          have n := Ev.newT (k := k) (xs := [y, x]) sl.w s1 hc (.cons h2 (.cons h1 .nil))
          exact q _ _ _ n.1 n.2)
end Dn
namespace Dn
open PySem L2 PyProof.Rows StX
section
variable {X : Cx} {a b e : Expr} {es : List Expr} {ds : List SD} {k ka kb : Kd} {s n : Str} {ws : List Str} {pos p : Pos} {xs ys : List PyData} {j : Nat}
/-! ### in, as a value -/
theorem Ev.inS (ha : Ev ka X a ds (.str s)) (hb : Ev kb X b ds (.tuple (ws.map .str))) (hm : behindInMarks .In b = false := by rfl) : Ev k X (.Compare a [.In] [b] pos) ds (.bool (ws.any fun y => y == s)) := Ev.cmp op_in_seq ha hb rd_inS hm
/-! ### starred arguments -/
theorem Ea.starT {sp : Pos} (h : Ev k X e ds (.tuple xs)) (h' : Ea k X es ds ys) (hs : starEach (.Starred e sp :: es) X.env = (true, eval e X.env) :: starEach es X.env := by rfl) : Ea k X (.Starred e sp :: es) ds (xs ++ ys) := fun A F H σ sl Q q =>
  WA.of (pa_star we wa hs) (h A F H σ sl _ fun v F1 H1 s1 hv => by
    cases hv with
    | tup ht ha => exact ⟨_, _, rfl, .inl (sqt_ex (sel_H (sl.w.step s1)) ht), h' A F1 H1 σ (sl.step s1) _ fun vs F2 H2 s2 hvs => q _ F2 H2 (s1.trans s2) (dpa_app (dpa_ex (sel_mono (sl.w.step s1) s2) _ _ ha) hvs)⟩)
/-- f(e, *y) -/
theorem En.callS {Pre : List PyData → Prop} {res : List PyData → List PyData} (D : Dfn X.prog X.w X.K X.mg X.base j n (spN X.K (NR Pre res))) (hr : Room j X.A) (ha : Ea ka X (e :: es) ds xs) (h : Pre xs) (hz : res xs = ys := by rfl) (hg : Gl X n := by rfl) (hdb : (n == ("__debug__" : Str)) = false := by decide)
    (he : starEach (e :: es) X.env = (false, eval e X.env) :: starEach es X.env := by rfl) (hst : (backTo pos (starEach es X.env)).any (·.1) = true := by rfl) : En X (.Call (.Name n p) (e :: es) [] pos) ds ys := fun A F H σ sl Q q => by
  obtain ⟨f, fd, ps, G, hm, hk, hb⟩ := D.ex
  refine WE.of (pe_callS2 (G.raw hb .nil) hr hk hg hm pass0 wa hdb he hst) (ha A F H σ sl _ fun vs F1 H1 s1 hvs => ?_)
  show spN X.K _ (vs ++ []) _ _ _
  rw [List.append_nil]
  refine ⟨xs, ys, dpa_ex (sel_H (sl.w.step s1)) _ _ hvs, ⟨h, hz.symm⟩, fun p ws N H' h1 h2 h3 hp np hl h4 => ?_⟩
  have q2 := join_stp s1.fh h1 h2 h3
  refine q p ws (Stab N F1) H' (s1.trans q2.1) (Same.free s1.h hp) ?_ hl (dpa_ex q2.2 _ _ h4)
  unfold Stab
  rw [Same.free s1.fh hp]
  exact np
end
end Dn
/-! numbers told by chains: the mathematics -/
namespace Ma

/-- what quotients tell, from behind: the empty list tells 1 over 0 -/
def val : List Int → Int × Int
  | [] => (1, 0)
  | q :: r => (q * (val r).1 + (val r).2, (val r).1)
/-- the quotients of a fraction -/
def euc (t : Int) (b : Nat) : List Int := if h : b = 0 then [] else (t / (b : Int)) :: euc (b : Int) (t % (b : Int)).toNat
termination_by b
decreasing_by
  have h1 : 0 < (b : Int) := by omega
  have h2 := Int.emod_lt_of_pos t h1
  have h3 := Int.emod_nonneg t (show (b : Int) ≠ 0 by omega)
  omega
theorem euc_zero (t : Int) : euc t 0 = [] := by
  rw [euc]
  exact dif_pos rfl
theorem euc_pos (t : Int) {b : Nat} (h : b ≠ 0) : euc t b = (t / (b : Int)) :: euc (b : Int) (t % (b : Int)).toNat := by
  rw [euc]
  exact dif_neg h
/-- every quotient 1 or more -/
def Pos1 (l : List Int) : Prop := ∀ q ∈ l, 1 ≤ q
/-- the last of several is not 1 -/
def LastOk : List Int → Prop
  | [] => False
  | [_] => True
  | [_, q] => q ≠ 1
  | _ :: r => LastOk r
theorem lastOk_cons {a b c : Int} {r : List Int} : LastOk (a :: b :: c :: r) = LastOk (b :: c :: r) := rfl
/-- a chain: tail 1 or more, the last of several not 1 -/
structure IsCh (l : List Int) : Prop where
  ne : l ≠ []
  pos : Pos1 l.tail
  last : l.length > 1 → l.getLast? ≠ some 1
theorem val_pos : ∀ {l : List Int}, Pos1 l → 1 ≤ (val l).1 ∧ 0 ≤ (val l).2
  | [], _ => ⟨Int.le_refl 1, Int.le_refl 0⟩
  | q :: r, h => by
    have ih := val_pos (l := r) fun x hx => h x (List.mem_cons_of_mem _ hx)
    have hq : 1 ≤ q := h q List.mem_cons_self
    refine ⟨?_, by show 0 ≤ (val r).1; omega⟩
    show 1 ≤ q * (val r).1 + (val r).2
    have : 1 * 1 ≤ q * (val r).1 := Int.mul_le_mul hq ih.1 (by decide) (by omega)
    omega
/-- the denominators of a list whose tail is 1 or more -/
theorem val_bot {l : List Int} (ne : l ≠ []) (h : Pos1 l.tail) : 1 ≤ (val l).2 := by
  cases l with
  | nil => exact (ne rfl).elim
  | cons q r => exact (val_pos (l := r) h).1
/-- tail part: the value of a list of quotients 1 or more, the last not 1 where .., is above its rest -/
theorem val_gt : ∀ {l : List Int}, l ≠ [] → Pos1 l → l.getLast? ≠ some 1 → (val l).2 < (val l).1
  | [], h, _, _ => (h rfl).elim
  | [q], _, h, hl => by
    have hq : 1 ≤ q := h q List.mem_cons_self
    have : q ≠ 1 := fun e => hl (by rw [e]; rfl)
    show (1 : Int) < q * 1 + 0
    omega
  | q :: q' :: r, _, h, hl => by
    have ih := val_gt (l := q' :: r) (by simp) (fun x hx => h x (List.mem_cons_of_mem _ hx)) (by simpa using hl)
    have hp := val_pos (l := q' :: r) (fun x hx => h x (List.mem_cons_of_mem _ hx))
    have hq : 1 ≤ q := h q List.mem_cons_self
    show (val (q' :: r)).1 < q * (val (q' :: r)).1 + (val (q' :: r)).2
    have h0 : 1 ≤ (val (q' :: r)).2 := val_bot (by simp) (fun x hx => h x (List.mem_cons_of_mem _ (List.mem_of_mem_tail hx)))
    have : 1 * (val (q' :: r)).1 ≤ q * (val (q' :: r)).1 := Int.mul_le_mul_of_nonneg_right hq (by omega)
    omega
theorem toNat_mul {a b : Int} (ha : 0 ≤ a) (hb : 0 ≤ b) : (a * b).toNat = a.toNat * b.toNat := by
  obtain ⟨x, rfl⟩ := Int.eq_ofNat_of_zero_le ha
  obtain ⟨y, rfl⟩ := Int.eq_ofNat_of_zero_le hb
  rfl
/-- Euclid's way on f times a pair (t, b): each quotient comes again -/
theorem euc_val : ∀ {l : List Int} {f : Int}, 1 ≤ f → l ≠ [] → Pos1 l.tail → (l.length > 1 → l.getLast? ≠ some 1) → euc ((val l).1 * f) ((val l).2 * f).toNat = l
  | [], _, _, h, _, _ => (h rfl).elim
  | [q], f, hf, _, _, _ => by
    show euc ((q * 1 + 0) * f) (1 * f).toNat = [q]
    have e0 : ((1 * f).toNat : Int) = f := by rw [Int.one_mul]; omega
    rw [euc_pos _ (by omega), e0]
    have e1 : (q * 1 + 0) * f / f = q := by rw [Int.mul_one, Int.add_zero]; exact Int.mul_ediv_cancel _ (by omega)
    have e2 : (q * 1 + 0) * f % f = 0 := Int.mul_emod_left _ _
    rw [e1, e2]
    show q :: euc f 0 = [q]
    rw [euc_zero]
  | q :: q' :: r, f, hf, _, hp, hl => by
    have hp' : Pos1 (q' :: r) := hp
    have hl' : (q' :: r).getLast? ≠ some 1 := by
      have := hl (by simp)
      simpa using this
    have hv := val_pos hp'
    have hb : 1 ≤ (val (q' :: r)).2 := val_bot (by simp) fun x hx => hp' x (List.mem_of_mem_tail hx)
    have hlt : (val (q' :: r)).2 < (val (q' :: r)).1 := val_gt (by simp) hp' hl'
    have ih := euc_val (l := q' :: r) hf (by simp) (fun x hx => hp' x (List.mem_of_mem_tail hx)) (fun _ => hl')
    show euc ((q * (val (q' :: r)).1 + (val (q' :: r)).2) * f) ((val (q' :: r)).1 * f).toNat = q :: q' :: r
    generalize (val (q' :: r)).1 = T at *
    generalize (val (q' :: r)).2 = B at *
    have hTf : 1 * 1 ≤ T * f := Int.mul_le_mul (by omega) hf (by decide) (by omega)
    have hBf : 1 * 1 ≤ B * f := Int.mul_le_mul hb hf (by decide) (by omega)
    have hlf : B * f < T * f := Int.mul_lt_mul_of_pos_right hlt (by omega)
    have e0 : (((T * f).toNat : Nat) : Int) = T * f := by omega
    rw [euc_pos _ (by omega), e0]
    have e : (q * T + B) * f = B * f + q * (T * f) := by rw [Int.add_mul, Int.mul_assoc, Int.add_comm]
    have e1 : (q * T + B) * f / (T * f) = q := by
      rw [e, Int.add_mul_ediv_right _ _ (by omega), Int.ediv_eq_zero_of_lt (by omega) hlf]
      omega
    have e2 : (q * T + B) * f % (T * f) = B * f := by
      rw [e, Int.add_mul_emod_self_right, Int.emod_eq_of_lt (by omega) hlf]
    rw [e1, e2, ih]
/-- few steps -/
theorem euc_len : ∀ (n : Nat) (b : Nat) (t : Int), b < 2 ^ n → (euc t b).length ≤ 2 * n + 1 := by
  intro n
  induction n with
  | zero =>
    intro b t h
    have : b = 0 := by
      have : b < 1 := h
      omega
    subst this
    rw [euc_zero]
    exact Nat.zero_le _
  | succ n ih =>
    intro b t h
    by_cases hb : b = 0
    · subst hb
      rw [euc_zero]
      exact Nat.zero_le _
    · rw [euc_pos _ hb]
      generalize hr : (t % (b : Int)).toNat = r
      have hrb : r < b := by
        have h1 := Int.emod_lt_of_pos t (show 0 < (b : Int) by omega)
        have h2 := Int.emod_nonneg t (show (b : Int) ≠ 0 by omega)
        omega
      by_cases hr0 : r = 0
      · rw [hr0, euc_zero]
        show 0 + 1 ≤ _
        omega
      · rw [euc_pos _ hr0]
        generalize hs : ((b : Int) % (r : Int)).toNat = s
        have hsr : s < 2 ^ n := by
          have e : (b : Int) % (r : Int) = ((b % r : Nat) : Int) := rfl
          have : s = b % r := by rw [← hs, e]; rfl
          rw [this]
          have h1 : b % r < r := Nat.mod_lt _ (by omega)
          have h2 : b % r + r ≤ b := by
            have := Nat.div_add_mod b r
            have hd : 1 ≤ b / r := Nat.div_pos (by omega) (by omega)
            have : r * 1 ≤ r * (b / r) := Nat.mul_le_mul_left r hd
            omega
          have : 2 ^ (n + 1) = 2 * 2 ^ n := by rw [Nat.pow_succ, Nat.mul_comm]
          omega
        have := ih s (r : Int) hsr
        show (euc (r : Int) s).length + 1 + 1 ≤ _
        omega
/-- sizes -/
theorem val_size {m : Nat} : ∀ {l : List Int}, (∀ q ∈ l, q.natAbs + 1 ≤ 2 ^ m) → (val l).1.natAbs ≤ 2 ^ (m * l.length) ∧ (val l).2.natAbs ≤ 2 ^ (m * l.length)
  | [], _ => ⟨by show 1 ≤ 2 ^ _; exact Nat.one_le_two_pow, by show 0 ≤ _; exact Nat.zero_le _⟩
  | q :: r, h => by
    have ih := val_size (m := m) (l := r) fun x hx => h x (List.mem_cons_of_mem _ hx)
    have hq := h q List.mem_cons_self
    have e : m * (q :: r).length = m + m * r.length := by rw [List.length_cons, Nat.mul_add, Nat.mul_one, Nat.add_comm]
    rw [e, Nat.pow_add]
    generalize hP : 2 ^ (m * r.length) = P at *
    generalize hM : 2 ^ m = M at *
    show (q * (val r).1 + (val r).2).natAbs ≤ M * P ∧ (val r).1.natAbs ≤ M * P
    have h1 : (q * (val r).1 + (val r).2).natAbs ≤ q.natAbs * (val r).1.natAbs + (val r).2.natAbs := by
      have := Int.natAbs_add_le (q * (val r).1) (val r).2
      rw [Int.natAbs_mul] at this
      exact this
    have h2 : q.natAbs * (val r).1.natAbs ≤ q.natAbs * P := Nat.mul_le_mul_left _ ih.1
    have h3 : (q.natAbs + 1) * P ≤ M * P := Nat.mul_le_mul_right _ hq
    rw [Nat.add_mul, Nat.one_mul] at h3
    have h4 : 1 * P ≤ M * P := Nat.mul_le_mul_right _ (by omega)
    exact ⟨by omega, by omega⟩
end Ma
namespace Ma
/-- what Euclid's way tells, times a divisor, is the pair itself -/
theorem val_euc : ∀ (n : Nat) (t : Int) (b : Nat), b ≤ n → (b = 0 → 1 ≤ t) → ∃ g : Int, 1 ≤ g ∧ (val (euc t b)).1 * g = t ∧ (val (euc t b)).2 * g = (b : Int) := by
  intro n
  induction n with
  | zero =>
    intro t b hb ht
    have hb0 : b = 0 := by omega
    subst hb0
    refine ⟨t, ht rfl, ?_, ?_⟩
    · rw [euc_zero]
      show 1 * t = t
      omega
    · rw [euc_zero]
      show 0 * t = ((0 : Nat) : Int)
      rw [Int.zero_mul]
      rfl
  | succ n ih =>
    intro t b hb ht
    by_cases h0 : b = 0
    · subst h0
      refine ⟨t, ht rfl, ?_, ?_⟩
      · rw [euc_zero]
        show 1 * t = t
        omega
      · rw [euc_zero]
        show 0 * t = ((0 : Nat) : Int)
        rw [Int.zero_mul]
        rfl
    · have h1 := Int.emod_lt_of_pos t (show 0 < (b : Int) by omega)
      have h2 := Int.emod_nonneg t (show (b : Int) ≠ 0 by omega)
      have er : ((t % (b : Int)).toNat : Int) = t % (b : Int) := Int.toNat_of_nonneg h2
      obtain ⟨g, hg, e1, e2⟩ := ih (b : Int) (t % (b : Int)).toNat (by omega) (fun _ => by omega)
      rw [euc_pos _ h0]
      refine ⟨g, hg, ?_, e1⟩
      show (t / (b : Int) * (val (euc (b : Int) (t % (b : Int)).toNat)).1 + (val (euc (b : Int) (t % (b : Int)).toNat)).2) * g = t
      rw [Int.add_mul, Int.mul_assoc, e1, e2, er]
      have := Int.mul_ediv_add_emod t (b : Int)
      rw [Int.mul_comm] at this
      exact this
/-- quotients behind the first one, the last not 1 -/
theorem euc_tail : ∀ (n : Nat) (t : Int) (b : Nat), b ≤ n → 1 ≤ b → (b : Int) < t → Pos1 (euc t b) ∧ (euc t b).getLast? ≠ some 1 := by
  intro n
  induction n with
  | zero => intro t b hb h1; omega
  | succ n ih =>
    intro t b hb hb1 htb
    have h0 : b ≠ 0 := by omega
    have h1 := Int.emod_lt_of_pos t (show 0 < (b : Int) by omega)
    have h2 := Int.emod_nonneg t (show (b : Int) ≠ 0 by omega)
    have er : ((t % (b : Int)).toNat : Int) = t % (b : Int) := Int.toNat_of_nonneg h2
    have hq : 1 ≤ t / (b : Int) := by
      have : (b : Int) / b ≤ t / b := Int.ediv_le_ediv (by omega) (by omega)
      rw [Int.ediv_self (by omega)] at this
      exact this
    rw [euc_pos _ h0]
    by_cases hr : (t % (b : Int)).toNat = 0
    · rw [hr, euc_zero]
      refine ⟨fun x hx => by rw [List.mem_singleton.mp hx]; exact hq, ?_⟩
      show some (t / (b : Int)) ≠ some 1
      intro e
      have e' : t / (b : Int) = 1 := Option.some.inj e
      have := Int.mul_ediv_add_emod t (b : Int)
      rw [e', Int.mul_one] at this
      omega
    · obtain ⟨p1, p2⟩ := ih (b : Int) (t % (b : Int)).toNat (by omega) (by omega) (by omega)
      refine ⟨fun x hx => ?_, ?_⟩
      · rcases List.mem_cons.mp hx with h | h
        · rw [h]; exact hq
        · exact p1 x h
      · rw [euc_pos _ hr] at p2 ⊢
        rw [List.getLast?_cons_cons]
        exact p2
theorem euc_isCh (t : Int) {b : Nat} (hb : 1 ≤ b) : IsCh (euc t b) := by
  have h0 : b ≠ 0 := by omega
  have h1 := Int.emod_lt_of_pos t (show 0 < (b : Int) by omega)
  have h2 := Int.emod_nonneg t (show (b : Int) ≠ 0 by omega)
  rw [euc_pos _ h0]
  by_cases hr : (t % (b : Int)).toNat = 0
  · rw [hr, euc_zero]
    exact ⟨by simp, fun x hx => (nomatch hx), fun h => absurd h (by show ¬ 1 > 1; decide)⟩
  · obtain ⟨p1, p2⟩ := euc_tail b (b : Int) (t % (b : Int)).toNat (by omega) (by omega) (by omega)
    refine ⟨by simp, fun x hx => p1 x hx, fun _ => ?_⟩
    rw [euc_pos _ hr] at p2 ⊢
    rw [List.getLast?_cons_cons]
    exact p2
/-- behind a beginning of Euclid's quotients stand Euclid's quotients of a smaller pair -/
theorem euc_suffix : ∀ (a : List Int) (q : Int) (r : List Int) (t : Int) (b : Nat), euc t b = a ++ q :: r → ∃ (t' : Int) (b' : Nat), b' ≠ 0 ∧ b' ≤ b ∧ (t'.natAbs ≤ t.natAbs ∨ t'.natAbs ≤ b) ∧ q = t' / (b' : Int) ∧ r = euc (b' : Int) (t' % (b' : Int)).toNat
  | [], q, r, t, b, h => by
    by_cases h0 : b = 0
    · subst h0
      rw [euc_zero] at h
      cases h
    · rw [euc_pos _ h0] at h
      injection h with e1 e2
      exact ⟨t, b, h0, Nat.le_refl _, .inl (Nat.le_refl _), e1.symm, e2.symm⟩
  | x :: a, q, r, t, b, h => by
    by_cases h0 : b = 0
    · subst h0
      rw [euc_zero] at h
      cases h
    · rw [euc_pos _ h0] at h
      injection h with e1 e2
      have h1 := Int.emod_lt_of_pos t (show 0 < (b : Int) by omega)
      have h2 := Int.emod_nonneg t (show (b : Int) ≠ 0 by omega)
      obtain ⟨t', b', g0, g1, g2, g3, g4⟩ := euc_suffix a q r (b : Int) (t % (b : Int)).toNat e2
      refine ⟨t', b', g0, by omega, .inr ?_, g3, g4⟩
      rcases g2 with g2 | g2 <;> omega
theorem natAbs_ediv_le (t : Int) (b : Nat) (hb : b ≠ 0) : (t / (b : Int)).natAbs ≤ t.natAbs + 1 := by
  have h1 := Int.mul_ediv_add_emod t (b : Int)
  have h2 := Int.emod_nonneg t (show (b : Int) ≠ 0 by omega)
  have h3 := Int.emod_lt_of_pos t (show 0 < (b : Int) by omega)
  generalize t / (b : Int) = q at *
  generalize t % (b : Int) = s at *
  by_cases hq : 0 ≤ q
  · have : 1 * q ≤ (b : Int) * q := Int.mul_le_mul_of_nonneg_right (by omega) hq
    omega
  · -- b * (-q - 1) < -t
    have : 1 * (-q - 1) ≤ (b : Int) * (-q - 1) := Int.mul_le_mul_of_nonneg_right (by omega) (by omega)
    have e : (b : Int) * (-q - 1) = -((b : Int) * q) - b := by rw [Int.mul_sub, Int.mul_neg, Int.mul_one]
    omega
/-- sizes in Euclid's quotients -/
theorem euc_sizes {t : Int} {b : Nat} {M : Nat} (ht : t.natAbs ≤ M) (hb : b ≤ M) {a r : List Int} {q : Int} (h : euc t b = a ++ q :: r) : q.natAbs ≤ M + 1 ∧ (val r).1.natAbs ≤ M := by
  obtain ⟨t', b', g0, g1, g2, g3, g4⟩ := euc_suffix a q r t b h
  have ht' : t'.natAbs ≤ M := by rcases g2 with g2 | g2 <;> omega
  refine ⟨by rw [g3]; have := natAbs_ediv_le t' b' g0; omega, ?_⟩
  obtain ⟨g, k1, k2, _⟩ := val_euc _ (b' : Int) (t' % (b' : Int)).toNat (Nat.le_refl _) (fun _ => by omega)
  rw [← g4] at k2
  have hv := congrArg Int.natAbs k2
  rw [Int.natAbs_mul, Int.natAbs_natCast] at hv
  have : (val r).1.natAbs * 1 ≤ (val r).1.natAbs * g.natAbs := Nat.mul_le_mul_left _ (by omega)
  omega
/-- what quotients tell is in lowest terms -/
theorem val_gcd : ∀ l : List Int, Int.gcd (val l).1 (val l).2 = 1
  | [] => rfl
  | q :: r => by
    have ih := val_gcd r
    show Int.gcd (q * (val r).1 + (val r).2) (val r).1 = 1
    rw [Int.gcd_comm] at ih
    rw [← ih, Int.add_comm]
    exact Int.gcd_add_mul_right_left _ _ _
end Ma
namespace Ma
/-! ### the order of chains -/
def fup : List Int → List Int → Nat
  | a :: l, b :: m => if a = b then fup l m + 1 else 0
  | _, _ => 0
def cgr : List Int → List Int → Bool
  | [], [] => true
  | [], _ :: _ => true
  | _ :: _, [] => false
  | a :: l, b :: m => if a = b then cgr l m else decide (b < a)
def cmpF : List Int → List Int → Int
  | [], [] => 0
  | [], _ :: _ => 1
  | _ :: _, [] => -1
  | a :: l, b :: m => if a = b then -cmpF l m else if b < a then 1 else -1
theorem fup_le : ∀ l m : List Int, fup l m ≤ l.length ∧ fup l m ≤ m.length
  | [], _ => ⟨Nat.zero_le _, Nat.zero_le _⟩
  | _ :: _, [] => ⟨Nat.zero_le _, Nat.zero_le _⟩
  | a :: l, b :: m => by
    have := fup_le l m
    unfold fup
    split
    · exact ⟨Nat.succ_le_succ this.1, Nat.succ_le_succ this.2⟩
    · exact ⟨Nat.zero_le _, Nat.zero_le _⟩
theorem fup_alike : ∀ (l m : List Int) (i : Nat), i < fup l m → l[i]? = m[i]?
  | [], _, i, h => absurd h (Nat.not_lt_zero _)
  | _ :: _, [], i, h => absurd h (Nat.not_lt_zero _)
  | a :: l, b :: m, i, h => by
    unfold fup at h
    split at h
    · rename_i e
      cases i with
      | zero => rw [e]; rfl
      | succ i => exact fup_alike l m i (by omega)
    · exact absurd h (Nat.not_lt_zero _)
theorem fup_unlike : ∀ (l m : List Int), fup l m < l.length → fup l m < m.length → l[fup l m]? ≠ m[fup l m]?
  | [], _, h, _ => absurd h (Nat.not_lt_zero _)
  | _ :: _, [], _, h => absurd h (Nat.not_lt_zero _)
  | a :: l, b :: m, h1, h2 => by
    unfold fup at h1 h2 ⊢
    split
    · rename_i e
      rw [if_pos e] at h1 h2
      exact fup_unlike l m (Nat.lt_of_succ_lt_succ h1) (Nat.lt_of_succ_lt_succ h2)
    · rename_i e
      exact fun z => e (Option.some.inj z)
/-- the answer by the place, its side and its being even -/
theorem cmp_place : ∀ l m : List Int, cmpF l m = if fup l m = l.length ∧ fup l m = m.length then 0 else if cgr l m = decide (fup l m % 2 = 0) then 1 else -1
  | [], [] => rfl
  | [], _ :: _ => rfl
  | _ :: _, [] => rfl
  | a :: l, b :: m => by
    have ih := cmp_place l m
    by_cases e : a = b
    · have e1 : cmpF (a :: l) (b :: m) = -cmpF l m := if_pos e
      have e2 : fup (a :: l) (b :: m) = fup l m + 1 := if_pos e
      have e3 : cgr (a :: l) (b :: m) = cgr l m := if_pos e
      rw [e1, e2, e3, ih]
      by_cases h : fup l m = l.length ∧ fup l m = m.length
      · rw [if_pos h, if_pos (show fup l m + 1 = (a :: l).length ∧ fup l m + 1 = (b :: m).length from ⟨by rw [h.1]; rfl, by rw [h.2]; rfl⟩)]
        rfl
      · rw [if_neg h, if_neg (fun (z : fup l m + 1 = (a :: l).length ∧ fup l m + 1 = (b :: m).length) => h ⟨Nat.succ.inj z.1, Nat.succ.inj z.2⟩)]
        by_cases hp : fup l m % 2 = 0
        · rw [decide_eq_true hp, decide_eq_false (show ¬ (fup l m + 1) % 2 = 0 by omega)]
          cases cgr l m <;> rfl
        · rw [decide_eq_false hp, decide_eq_true (show (fup l m + 1) % 2 = 0 by omega)]
          cases cgr l m <;> rfl
    · have e1 : cmpF (a :: l) (b :: m) = if b < a then 1 else -1 := if_neg e
      have e2 : fup (a :: l) (b :: m) = 0 := if_neg e
      have e3 : cgr (a :: l) (b :: m) = decide (b < a) := if_neg e
      rw [e1, e2, e3, if_neg (show ¬ (0 = (a :: l).length ∧ 0 = (b :: m).length) from fun z => by cases z.1)]
      by_cases h : b < a
      · rw [if_pos h, decide_eq_true h]; rfl
      · rw [if_neg h, decide_eq_false h]; rfl
/-- a rest of a chain: quotients 1 or more, the last not 1, perhaps none -/
structure Tl (l : List Int) : Prop where
  pos : Pos1 l
  last : l.getLast? ≠ some 1
theorem Tl.cons {q : Int} {r : List Int} (h : Tl (q :: r)) : Tl r := by
  refine ⟨fun x hx => h.pos x (List.mem_cons_of_mem _ hx), fun z => h.last ?_⟩
  cases r with
  | nil => cases z
  | cons a r => rw [List.getLast?_cons_cons]; exact z
theorem Tl.val {l : List Int} (h : Tl l) : 1 ≤ (val l).1 ∧ 0 ≤ (val l).2 ∧ (val l).2 < (val l).1 := by
  have h1 := val_pos h.pos
  refine ⟨h1.1, h1.2, ?_⟩
  cases l with
  | nil => show (0 : Int) < 1; decide
  | cons q r => exact val_gt (by simp) h.pos h.last
theorem IsCh.tl {q : Int} {r : List Int} (h : IsCh (q :: r)) : Tl r := by
  refine ⟨h.pos, fun z => ?_⟩
  cases r with
  | nil => cases z
  | cons a r => exact h.last (by simp) (by rw [List.getLast?_cons_cons]; exact z)
def sgn (x : Int) : Int := if 0 < x then 1 else if x < 0 then -1 else 0
theorem sgn_neg (x : Int) : sgn (-x) = -sgn x := by
  unfold sgn
  by_cases h1 : 0 < x
  · rw [if_pos h1, if_neg (show ¬ 0 < -x by omega), if_pos (show -x < 0 by omega)]
  · by_cases h2 : x < 0
    · rw [if_neg h1, if_pos h2, if_pos (show 0 < -x by omega)]; rfl
    · rw [if_neg h1, if_neg h2, if_neg (show ¬ 0 < -x by omega), if_neg (show ¬ -x < 0 by omega)]; rfl
def cross (l m : List Int) : Int := (val l).1 * (val m).2 - (val m).1 * (val l).2
theorem cross_cons (a b : Int) (l m : List Int) : cross (a :: l) (b :: m) = (a - b) * ((val l).1 * (val m).1) + ((val l).2 * (val m).1 - (val m).2 * (val l).1) := by
  show (a * (val l).1 + (val l).2) * (val m).1 - (b * (val m).1 + (val m).2) * (val l).1 = _
  rw [Int.add_mul, Int.add_mul, Int.sub_mul, Int.mul_assoc, Int.mul_assoc, Int.mul_comm (val m).1 (val l).1]
  omega
theorem cross_swap (l m : List Int) : (val l).2 * (val m).1 - (val m).2 * (val l).1 = -cross l m := by
  unfold cross
  rw [Int.mul_comm (val l).2, Int.mul_comm (val m).2]
  omega
/-- two lists whose rests are rests of chains -/
theorem cmp_heads {a b : Int} {l m : List Int} (hl : Tl l) (hm : Tl m) (ih : cmpF l m = sgn (cross l m)) : cmpF (a :: l) (b :: m) = sgn (cross (a :: l) (b :: m)) := by
  obtain ⟨l1, l2, l3⟩ := hl.val
  obtain ⟨m1, m2, m3⟩ := hm.val
  rw [cross_cons]
  by_cases e : a = b
  · rw [show cmpF (a :: l) (b :: m) = -cmpF l m from if_pos e, e, Int.sub_self, Int.zero_mul, Int.zero_add, cross_swap, sgn_neg, ih]
  · rw [show cmpF (a :: l) (b :: m) = if b < a then 1 else -1 from if_neg e]
    generalize (val l).1 = T at *
    generalize (val l).2 = C at *
    generalize (val m).1 = U at *
    generalize (val m).2 = D at *
    have hTU : 1 * 1 ≤ T * U := Int.mul_le_mul l1 m1 (by decide) (by omega)
    have hCU : 0 ≤ C * U := Int.mul_nonneg l2 (by omega)
    have hDT : 0 ≤ D * T := Int.mul_nonneg m2 (by omega)
    have hDT2 : D * T < U * T := Int.mul_lt_mul_of_pos_right m3 (by omega)
    have hCU2 : C * U < T * U := Int.mul_lt_mul_of_pos_right l3 (by omega)
    rw [Int.mul_comm U T] at hDT2
    by_cases h : b < a
    · have : 1 * (T * U) ≤ (a - b) * (T * U) := Int.mul_le_mul_of_nonneg_right (by omega) (by omega)
      rw [if_pos h]
      unfold sgn
      rw [if_pos (by omega)]
    · have : 1 * (T * U) ≤ (b - a) * (T * U) := Int.mul_le_mul_of_nonneg_right (by omega) (by omega)
      have e2 : (b - a) * (T * U) = -((a - b) * (T * U)) := by
        rw [← Int.neg_mul]
        congr 1
        omega
      rw [if_neg h]
      unfold sgn
      rw [if_neg (by omega), if_pos (by omega)]
theorem cmp_tails : ∀ {l m : List Int}, Tl l → Tl m → cmpF l m = sgn (cross l m)
  | [], [], _, _ => rfl
  | [], b :: m, _, hm => by
    have := val_bot (l := b :: m) (by simp) fun x hx => hm.pos x (List.mem_cons_of_mem _ hx)
    show (1 : Int) = sgn (1 * (val (b :: m)).2 - (val (b :: m)).1 * 0)
    unfold sgn
    rw [if_pos (by omega)]
  | a :: l, [], hl, _ => by
    have := val_bot (l := a :: l) (by simp) fun x hx => hl.pos x (List.mem_cons_of_mem _ hx)
    show (-1 : Int) = sgn ((val (a :: l)).1 * 0 - 1 * (val (a :: l)).2)
    unfold sgn
    rw [if_neg (by omega), if_pos (by omega)]
  | a :: l, b :: m, hl, hm => cmp_heads hl.cons hm.cons (cmp_tails hl.cons hm.cons)
/-- the order of two chains is that of the products across -/
theorem cmp_chains {l m : List Int} (hl : IsCh l) (hm : IsCh m) : cmpF l m = sgn (cross l m) := by
  cases l with
  | nil => exact (hl.ne rfl).elim
  | cons a l =>
    cases m with
    | nil => exact (hm.ne rfl).elim
    | cons b m => exact cmp_heads hl.tl hm.tl (cmp_tails hl.tl hm.tl)
theorem cmp_self : ∀ l : List Int, cmpF l l = 0
  | [] => rfl
  | a :: l => by
    rw [show cmpF (a :: l) (a :: l) = -cmpF l l from if_pos rfl, cmp_self l]
    rfl
theorem cross_neg (l m : List Int) : cross m l = -cross l m := by
  unfold cross
  omega
end Ma
namespace Ma
theorem cgr_eq : ∀ l m : List Int, cgr l m = (decide (fup l m = l.length) || (decide (fup l m < m.length) && decide (m.getD (fup l m) 0 < l.getD (fup l m) 0)))
  | [], [] => rfl
  | [], _ :: _ => rfl
  | _ :: _, [] => rfl
  | a :: l, b :: m => by
    by_cases e : a = b
    · have e2 : fup (a :: l) (b :: m) = fup l m + 1 := if_pos e
      have e3 : cgr (a :: l) (b :: m) = cgr l m := if_pos e
      have g1 : (b :: m).getD (fup l m + 1) 0 = m.getD (fup l m) 0 := rfl
      have g2 : (a :: l).getD (fup l m + 1) 0 = l.getD (fup l m) 0 := rfl
      rw [e2, e3, cgr_eq l m, g1, g2]
      have d1 : decide (fup l m = l.length) = decide (fup l m + 1 = (a :: l).length) := decide_eq_decide.mpr ⟨fun h => congrArg (· + 1) h, fun h => Nat.succ.inj h⟩
      have d2 : decide (fup l m < m.length) = decide (fup l m + 1 < (b :: m).length) := decide_eq_decide.mpr ⟨fun h => Nat.succ_lt_succ h, fun h => Nat.lt_of_succ_lt_succ h⟩
      rw [d1, d2]
    · have e2 : fup (a :: l) (b :: m) = 0 := if_neg e
      have e3 : cgr (a :: l) (b :: m) = decide (b < a) := if_neg e
      rw [e2, e3]
      show decide (b < a) = (false || (true && decide (b < a)))
      rw [Bool.false_or, Bool.true_and]
end Ma
namespace Ma
/-! ### beginnings -/
/-- the second column -/
def wv : List Int → Int × Int
  | [] => (0, 1)
  | q :: r => (q * (wv r).1 + (wv r).2, (wv r).1)
theorem val_app : ∀ (b s : List Int), val (b ++ s) = ((val b).1 * (val s).1 + (wv b).1 * (val s).2, (val b).2 * (val s).1 + (wv b).2 * (val s).2)
  | [], s => by
    show val s = (1 * (val s).1 + 0 * (val s).2, 0 * (val s).1 + 1 * (val s).2)
    rw [Int.one_mul, Int.one_mul, Int.zero_mul, Int.zero_mul, Int.add_zero, Int.zero_add]
  | q :: b, s => by
    have ih := val_app b s
    show (q * (val (b ++ s)).1 + (val (b ++ s)).2, (val (b ++ s)).1) = ((q * (val b).1 + (val b).2) * (val s).1 + (q * (wv b).1 + (wv b).2) * (val s).2, (val b).1 * (val s).1 + (wv b).1 * (val s).2)
    rw [ih]
    refine Prod.ext ?_ rfl
    show q * ((val b).1 * (val s).1 + (wv b).1 * (val s).2) + ((val b).2 * (val s).1 + (wv b).2 * (val s).2) = (q * (val b).1 + (val b).2) * (val s).1 + (q * (wv b).1 + (wv b).2) * (val s).2
    grind
theorem wv_app : ∀ (b s : List Int), wv (b ++ s) = ((val b).1 * (wv s).1 + (wv b).1 * (wv s).2, (val b).2 * (wv s).1 + (wv b).2 * (wv s).2)
  | [], s => by
    show wv s = (1 * (wv s).1 + 0 * (wv s).2, 0 * (wv s).1 + 1 * (wv s).2)
    rw [Int.one_mul, Int.one_mul, Int.zero_mul, Int.zero_mul, Int.add_zero, Int.zero_add]
  | q :: b, s => by
    have ih := wv_app b s
    show (q * (wv (b ++ s)).1 + (wv (b ++ s)).2, (wv (b ++ s)).1) = ((q * (val b).1 + (val b).2) * (wv s).1 + (q * (wv b).1 + (wv b).2) * (wv s).2, (val b).1 * (wv s).1 + (wv b).1 * (wv s).2)
    rw [ih]
    refine Prod.ext ?_ rfl
    show q * ((val b).1 * (wv s).1 + (wv b).1 * (wv s).2) + ((val b).2 * (wv s).1 + (wv b).2 * (wv s).2) = (q * (val b).1 + (val b).2) * (wv s).1 + (q * (wv b).1 + (wv b).2) * (wv s).2
    grind
def dt (b : List Int) : Int := (val b).1 * (wv b).2 - (wv b).1 * (val b).2
theorem dt_eq : ∀ b : List Int, dt b = if b.length % 2 = 0 then 1 else -1
  | [] => rfl
  | q :: b => by
    have ih := dt_eq b
    have e : dt (q :: b) = -dt b := by
      show (q * (val b).1 + (val b).2) * (wv b).1 - (q * (wv b).1 + (wv b).2) * (val b).1 = -((val b).1 * (wv b).2 - (wv b).1 * (val b).2)
      grind
    rw [e, ih, List.length_cons]
    split
    · rw [if_neg (by omega)]
    · rw [if_pos (by omega)]
      rfl
/-- the last quotient one greater -/
def inc (b : List Int) : List Int := b.dropLast ++ [b.getLast?.getD 0 + 1]
theorem inc_snoc (r : List Int) (z : Int) : inc (r ++ [z]) = r ++ [z + 1] := by
  unfold inc
  rw [List.dropLast_concat, List.getLast?_append]
  rfl
theorem val_inc {b : List Int} (h : b ≠ []) : val (inc b) = ((val b).1 + (wv b).1, (val b).2 + (wv b).2) := by
  obtain ⟨r, z, rfl⟩ : ∃ r z, b = r ++ [z] := ⟨b.dropLast, b.getLast h, (List.dropLast_concat_getLast h).symm⟩
  rw [inc_snoc, val_app, val_app, wv_app]
  show ((val r).1 * ((z + 1) * 1 + 0) + (wv r).1 * 1, (val r).2 * ((z + 1) * 1 + 0) + (wv r).2 * 1) = ((val r).1 * (z * 1 + 0) + (wv r).1 * 1 + ((val r).1 * (z * 0 + 1) + (wv r).1 * 0), (val r).2 * (z * 1 + 0) + (wv r).2 * 1 + ((val r).2 * (z * 0 + 1) + (wv r).2 * 0))
  refine Prod.ext ?_ ?_
  · show (val r).1 * ((z + 1) * 1 + 0) + (wv r).1 * 1 = (val r).1 * (z * 1 + 0) + (wv r).1 * 1 + ((val r).1 * (z * 0 + 1) + (wv r).1 * 0)
    grind
  · show (val r).2 * ((z + 1) * 1 + 0) + (wv r).2 * 1 = (val r).2 * (z * 1 + 0) + (wv r).2 * 1 + ((val r).2 * (z * 0 + 1) + (wv r).2 * 0)
    grind
def crs (a b : Int × Int) : Int := a.1 * b.2 - b.1 * a.2
theorem crs_swap (a b : Int × Int) : crs b a = -crs a b := by
  unfold crs
  grind
theorem crs_self (a : Int × Int) : crs a a = 0 := by
  unfold crs
  grind
/-- against the near end -/
theorem crs_near (b s : List Int) : crs (val b) (val (b ++ s)) = (val s).2 * dt b := by
  rw [val_app]
  unfold crs dt
  show (val b).1 * ((val b).2 * (val s).1 + (wv b).2 * (val s).2) - ((val b).1 * (val s).1 + (wv b).1 * (val s).2) * (val b).2 = (val s).2 * ((val b).1 * (wv b).2 - (wv b).1 * (val b).2)
  grind
/-- against the far end -/
theorem crs_far {b : List Int} (h : b ≠ []) (s : List Int) : crs (val (inc b)) (val (b ++ s)) = ((val s).2 - (val s).1) * dt b := by
  rw [val_app, val_inc h]
  unfold crs dt
  show ((val b).1 + (wv b).1) * ((val b).2 * (val s).1 + (wv b).2 * (val s).2) - ((val b).1 * (val s).1 + (wv b).1 * (val s).2) * ((val b).2 + (wv b).2) = ((val s).2 - (val s).1) * ((val b).1 * (wv b).2 - (wv b).1 * (val b).2)
  grind
theorem crs_ends {b : List Int} (h : b ≠ []) : crs (val b) (val (inc b)) = dt b := by
  rw [val_inc h]
  unfold crs dt
  grind
/-- a beginning -/
structure Bg (b : List Int) : Prop where
  hd : ∀ q, b.head? = some q → 0 ≤ q
  tl : Pos1 b.tail
theorem Bg.top {b : List Int} (h : Bg b) (hz : b ≠ []) (h0 : b ≠ [0]) (hl : b.length = 1 ∨ b.getLast? ≠ some 1) : 0 < (val b).1 := by
  cases b with
  | nil => exact (hz rfl).elim
  | cons q r =>
    have hq := h.hd q rfl
    cases r with
    | nil =>
      have : q ≠ 0 := fun e => h0 (by rw [e])
      show 0 < q * 1 + 0
      omega
    | cons a r =>
      have hp : Pos1 (a :: r) := h.tl
      have v1 := val_pos hp
      have v2 := val_bot (l := a :: r) (by simp) fun x hx => hp x (List.mem_of_mem_tail hx)
      have : 0 ≤ q * (val (a :: r)).1 := Int.mul_nonneg hq (by omega)
      show 0 < q * (val (a :: r)).1 + (val (a :: r)).2
      omega
theorem val_zero : (val [0]).1 = 0 := rfl
def metB (b : List Int) : Bool := !decide (b = [0]) && (decide (b.length = 1) || decide (1 < b.getLast?.getD 0))
end Ma
namespace Ma
/-! ### the ends of a beginning -/
structure E4 where
  lo : Int × Int
  il : Bool
  hi : Option (Int × Int)
  ih : Bool
def endsE (b : List Int) : E4 := if b = [] then ⟨(0, 1), false, none, false⟩ else if b.length % 2 = 1 then ⟨val b, metB b, some (val (inc b)), false⟩ else ⟨val (inc b), false, some (val b), metB b⟩
end Ma
/-! stretches of numbers, and the quotients that are sure in them -/
namespace Ma
/-- x lies between: the low end met or not, the high one (none: no end) met or not -/
def InI (lo : Int × Int) (il : Bool) (hi : Option (Int × Int)) (ih : Bool) (x : Int × Int) : Prop :=
  (crs lo x < 0 ∨ (crs lo x = 0 ∧ il = true)) ∧ ∀ h, hi = some h → crs x h < 0 ∨ (crs x h = 0 ∧ ih = true)
/-- the quotients that are sure, by at most n turns -/
def sureF : Nat → Int × Int → Bool → Option (Int × Int) → Bool → List Int
  | 0, _, _, _, _ => []
  | _ + 1, _, _, none, _ => []
  | n + 1, lo, il, some h, ih =>
    if 0 < h.1 - (lo.1 / lo.2 + 1) * h.2 ∨ (h.1 - (lo.1 / lo.2 + 1) * h.2 = 0 ∧ ih = true) then []
    else lo.1 / lo.2 :: sureF n (h.2, h.1 - lo.1 / lo.2 * h.2) ih (if lo.1 - lo.1 / lo.2 * lo.2 = 0 then none else some (lo.2, lo.1 - lo.1 / lo.2 * lo.2)) il
def eucP (x : Int × Int) : List Int := euc x.1 x.2.toNat
theorem eucP_cons {x : Int × Int} {q : Int} (hx : 0 < x.2) (h1 : q * x.2 ≤ x.1) (h2 : x.1 < (q + 1) * x.2) : eucP x = q :: (if x.1 - q * x.2 = 0 then [] else eucP (x.2, x.1 - q * x.2)) := by
  have e0 : (x.2.toNat : Int) = x.2 := by omega
  have hq : x.1 / x.2 = q := by
    have e : x.1 = (x.1 - q * x.2) + q * x.2 := by omega
    rw [e, Int.add_mul_ediv_right _ _ (by omega), Int.ediv_eq_zero_of_lt (by omega) (by rw [Int.add_mul] at h2; omega)]
    omega
  have hm : x.1 % x.2 = x.1 - q * x.2 := by
    have := Int.mul_ediv_add_emod x.1 x.2
    rw [hq, Int.mul_comm] at this
    omega
  unfold eucP
  rw [euc_pos _ (by omega), e0, hq, hm]
  by_cases h : x.1 - q * x.2 = 0
  · rw [if_pos h, h]
    show q :: euc x.2 0 = _
    rw [euc_zero]
  · rw [if_neg h]
theorem floor_lo {lo x : Int × Int} (hl : 0 < lo.2) (h : crs lo x ≤ 0) (hx : 0 < x.2) : lo.1 / lo.2 * x.2 ≤ x.1 := by
  have h1 := Int.mul_ediv_add_emod lo.1 lo.2
  have h2 := Int.emod_nonneg lo.1 (show lo.2 ≠ 0 by omega)
  unfold crs at h
  refine Int.le_of_mul_le_mul_right (a := lo.2) ?_ hl
  have e : lo.1 * x.2 = (lo.1 / lo.2 * x.2) * lo.2 + lo.1 % lo.2 * x.2 := by
    have : lo.1 * x.2 = (lo.2 * (lo.1 / lo.2) + lo.1 % lo.2) * x.2 := by rw [h1]
    rw [this]
    grind
  have : 0 ≤ lo.1 % lo.2 * x.2 := Int.mul_nonneg h2 (by omega)
  omega
theorem below_next {h x : Int × Int} {q : Int} {ih : Bool} (hh : 0 < h.2) (hx : 0 < x.2) (h1 : crs x h < 0 ∨ (crs x h = 0 ∧ ih = true)) (h2 : ¬ (0 < h.1 - (q + 1) * h.2 ∨ (h.1 - (q + 1) * h.2 = 0 ∧ ih = true))) : x.1 < (q + 1) * x.2 := by
  unfold crs at h1
  refine Int.lt_of_mul_lt_mul_right (a := h.2) ?_ (Int.le_of_lt hh)
  have e : (q + 1) * x.2 * h.2 = ((q + 1) * h.2) * x.2 := by grind
  rw [e]
  by_cases hz : h.1 - (q + 1) * h.2 = 0
  · have hf : ih ≠ true := fun z => h2 (.inr ⟨hz, z⟩)
    have e1 : h.1 = (q + 1) * h.2 := by omega
    rw [← e1]
    rcases h1 with h1 | h1
    · omega
    · exact (hf h1.2).elim
  · have hz2 : h.1 + 1 ≤ (q + 1) * h.2 := by
      have : ¬ 0 < h.1 - (q + 1) * h.2 := fun z => h2 (.inl z)
      omega
    have : (h.1 + 1) * x.2 ≤ (q + 1) * h.2 * x.2 := Int.mul_le_mul_of_nonneg_right hz2 (by omega)
    rw [Int.add_mul] at this
    rcases h1 with h1 | h1 <;> omega
theorem crs_le {a b : Int × Int} {c : Bool} (h : crs a b < 0 ∨ (crs a b = 0 ∧ c = true)) : crs a b ≤ 0 := by
  rcases h with h | h <;> omega
/-- the turn of a stretch -/
theorem inI_turn {lo h x : Int × Int} {il ih : Bool} (q : Int) (hI : InI lo il (some h) ih x) :
    InI (h.2, h.1 - q * h.2) ih (if lo.1 - q * lo.2 = 0 then none else some (lo.2, lo.1 - q * lo.2)) il (x.2, x.1 - q * x.2) := by
  obtain ⟨h1, h2⟩ := hI
  have h2 := h2 h rfl
  have e1 : crs (h.2, h.1 - q * h.2) (x.2, x.1 - q * x.2) = crs x h := by
    unfold crs
    show h.2 * (x.1 - q * x.2) - x.2 * (h.1 - q * h.2) = x.1 * h.2 - h.1 * x.2
    grind
  have e2 : crs (x.2, x.1 - q * x.2) (lo.2, lo.1 - q * lo.2) = crs lo x := by
    unfold crs
    show x.2 * (lo.1 - q * lo.2) - lo.2 * (x.1 - q * x.2) = lo.1 * x.2 - x.1 * lo.2
    grind
  refine ⟨by rw [e1]; exact h2, fun g hg => ?_⟩
  split at hg
  · cases hg
  · cases hg
    rw [e2]
    exact h1
/-- what is sure stands at the head of each number's chain -/
theorem sure_pre : ∀ (n : Nat) (lo : Int × Int) (il : Bool) (hi : Option (Int × Int)) (ih : Bool) (x : Int × Int), 0 < lo.2 → (∀ h, hi = some h → 0 < h.2) → 0 < x.2 → InI lo il hi ih x → sureF n lo il hi ih <+: eucP x
  | 0, _, _, _, _, _, _, _, _, _ => List.nil_prefix
  | n + 1, _, _, none, _, _, _, _, _, _ => List.nil_prefix
  | n + 1, lo, il, some h, ih, x, hl, hh, hx, hI => by
    have hh := hh h rfl
    unfold sureF
    split
    · exact List.nil_prefix
    · rename_i hs
      have h1 := floor_lo hl (crs_le hI.1) hx
      have h2 := below_next hh hx (hI.2 h rfl) hs
      generalize hq : lo.1 / lo.2 = q at *
      rw [eucP_cons hx h1 h2]
      refine List.cons_prefix_cons.mpr ⟨rfl, ?_⟩
      by_cases hz : x.1 - q * x.2 = 0
      · -- x is q, and so is the low end
        have hlo : lo.1 - q * lo.2 = 0 := by
          have a1 := Int.mul_ediv_add_emod lo.1 lo.2
          have a2 := Int.emod_nonneg lo.1 (show lo.2 ≠ 0 by omega)
          rw [hq, Int.mul_comm] at a1
          have a3 := crs_le hI.1
          unfold crs at a3
          have a4 : x.1 = q * x.2 := by omega
          rw [a4] at a3
          have a5 : (lo.1 - q * lo.2) * x.2 ≤ 0 * x.2 := by
            have : (lo.1 - q * lo.2) * x.2 = lo.1 * x.2 - q * x.2 * lo.2 := by grind
            omega
          have := Int.le_of_mul_le_mul_right a5 hx
          omega
        rw [if_pos hz, if_pos hlo]
        cases n <;> exact List.nil_prefix
      · rw [if_neg hz]
        have hxq : 0 < x.1 - q * x.2 := by omega
        have hhq : 0 < h.1 - q * h.2 := by
          have a3 := crs_le (hI.2 h rfl)
          unfold crs at a3
          refine Int.lt_of_mul_lt_mul_right (a := x.2) ?_ (Int.le_of_lt hx)
          have a4 : 0 < (x.1 - q * x.2) * h.2 := Int.mul_pos hxq hh
          have : (h.1 - q * h.2) * x.2 = h.1 * x.2 - x.1 * h.2 + (x.1 - q * x.2) * h.2 := by grind
          omega
        refine sure_pre n _ ih _ il (x.2, x.1 - q * x.2) hhq (fun g hg => ?_) hxq (inI_turn q hI)
        split at hg
        · cases hg
        · rename_i hne
          cases hg
          show 0 < lo.1 - q * lo.2
          have a1 := Int.mul_ediv_add_emod lo.1 lo.2
          have a2 := Int.emod_nonneg lo.1 (show lo.2 ≠ 0 by omega)
          rw [hq, Int.mul_comm] at a1
          omega
theorem floor_bits {lo : Int × Int} (hl : 0 < lo.2) : lo.1 / lo.2 * lo.2 ≤ lo.1 ∧ lo.1 < (lo.1 / lo.2 + 1) * lo.2 := by
  have h1 := Int.mul_ediv_add_emod lo.1 lo.2
  have h2 := Int.emod_nonneg lo.1 (show lo.2 ≠ 0 by omega)
  have h3 := Int.emod_lt_of_pos lo.1 hl
  rw [Int.mul_comm] at h1
  rw [Int.add_mul]
  omega
/-- two numbers of unlike whole parts have no quotient in common -/
theorem no_common {L : List Int} {x y : Int × Int} {q : Int} (hx : 0 < x.2) (hy : 0 < y.2) (x1 : q * x.2 ≤ x.1) (x2 : x.1 < (q + 1) * x.2) (y1 : (q + 1) * y.2 ≤ y.1) (y2 : y.1 < (q + 1 + 1) * y.2) (h : L <+: eucP x) (h' : L <+: eucP y) : L = [] := by
  cases L with
  | nil => rfl
  | cons a L =>
    rw [eucP_cons hx x1 x2] at h
    rw [eucP_cons hy y1 y2] at h'
    have e1 := (List.cons_prefix_cons.mp h).1
    have e2 := (List.cons_prefix_cons.mp h').1
    omega
/-- just above the low end, with its whole part -/
theorem near_lo {lo : Int × Int} (hl : 0 < lo.2) : 0 < lo.2 + 1 ∧ lo.1 / lo.2 * (lo.2 + 1) ≤ lo.1 + (lo.1 / lo.2 + 1) ∧ lo.1 + (lo.1 / lo.2 + 1) < (lo.1 / lo.2 + 1) * (lo.2 + 1) ∧ crs lo (lo.1 + (lo.1 / lo.2 + 1), lo.2 + 1) < 0 ∧ crs (lo.1 + (lo.1 / lo.2 + 1), lo.2 + 1) (lo.1 / lo.2 + 1, 1) < 0 := by
  obtain ⟨f1, f2⟩ := floor_bits hl
  generalize lo.1 / lo.2 = q at *
  have e1 : q * (lo.2 + 1) = q * lo.2 + q := by rw [Int.mul_add, Int.mul_one]
  have e2 : (q + 1) * (lo.2 + 1) = (q + 1) * lo.2 + (q + 1) := by rw [Int.mul_add, Int.mul_one]
  refine ⟨by omega, by omega, by omega, ?_, ?_⟩
  · have e : crs lo (lo.1 + (q + 1), lo.2 + 1) = lo.1 - (q + 1) * lo.2 := by
      unfold crs
      show lo.1 * (lo.2 + 1) - (lo.1 + (q + 1)) * lo.2 = _
      grind
    rw [e]
    omega
  · have e : crs (lo.1 + (q + 1), lo.2 + 1) (q + 1, 1) = lo.1 - (q + 1) * lo.2 := by
      unfold crs
      show (lo.1 + (q + 1)) * 1 - (q + 1) * (lo.2 + 1) = _
      grind
    rw [e]
    omega
/-- the next whole number is one of them: nothing is sure -/
theorem none_sure {L : List Int} {lo : Int × Int} {il : Bool} {hi : Option (Int × Int)} {ih : Bool} (hl : 0 < lo.2) (hn : ∀ h, hi = some h → 0 < h.2 ∧ (crs (lo.1 / lo.2 + 1, 1) h < 0 ∨ (crs (lo.1 / lo.2 + 1, 1) h = 0 ∧ ih = true)))
    (hL : ∀ x : Int × Int, 0 < x.2 → InI lo il hi ih x → L <+: eucP x) : L = [] := by
  obtain ⟨n0, n1, n2, n3, n4⟩ := near_lo hl
  obtain ⟨f1, f2⟩ := floor_bits hl
  have a1 : InI lo il hi ih (lo.1 / lo.2 + 1, 1) := by
    refine ⟨.inl ?_, fun h e => (hn h e).2⟩
    have e : crs lo (lo.1 / lo.2 + 1, 1) = lo.1 - (lo.1 / lo.2 + 1) * lo.2 := by
      unfold crs
      show lo.1 * 1 - _ = _
      rw [Int.mul_one]
    rw [e]
    omega
  have a2 : InI lo il hi ih (lo.1 + (lo.1 / lo.2 + 1), lo.2 + 1) := by
    refine ⟨.inl n3, fun h e => .inl ?_⟩
    obtain ⟨h0, h1⟩ := hn h e
    have h2 := crs_le h1
    generalize lo.1 / lo.2 = q at *
    unfold crs at h2 n4 ⊢
    have h2 : (q + 1) * h.2 - h.1 * 1 ≤ 0 := h2
    have n4 : (lo.1 + (q + 1)) * 1 - (q + 1) * (lo.2 + 1) < 0 := n4
    show (lo.1 + (q + 1)) * h.2 - h.1 * (lo.2 + 1) < 0
    have p1 : (lo.1 + (q + 1)) * h.2 < (q + 1) * (lo.2 + 1) * h.2 := Int.mul_lt_mul_of_pos_right (by omega) h0
    have p2 : (q + 1) * h.2 * (lo.2 + 1) ≤ h.1 * (lo.2 + 1) := Int.mul_le_mul_of_nonneg_right (by omega) (by omega)
    have p3 : (q + 1) * (lo.2 + 1) * h.2 = (q + 1) * h.2 * (lo.2 + 1) := by grind
    omega
  exact no_common (q := lo.1 / lo.2) (x := (lo.1 + (lo.1 / lo.2 + 1), lo.2 + 1)) (y := (lo.1 / lo.2 + 1, 1)) n0 Int.one_pos n1 n2 (by show (_ + 1) * 1 ≤ _; omega) (by show _ < (_ + 1 + 1) * 1; omega) (hL _ n0 a2) (hL _ Int.one_pos a1)
/-- all that stands at the head of each number's chain is sure -/
theorem sure_max : ∀ (n : Nat) (lo : Int × Int) (il : Bool) (hi : Option (Int × Int)) (ih : Bool) (L : List Int), 0 < lo.2 → (∀ h, hi = some h → 0 < h.2 ∧ crs lo h < 0 ∧ lo.2 + h.2 ≤ n) → (∀ x : Int × Int, 0 < x.2 → InI lo il hi ih x → L <+: eucP x) → L <+: sureF n lo il hi ih
  | n, lo, il, none, ih, L, hl, _, hL => by
    rw [none_sure hl (fun h e => by cases e) hL]
    exact List.nil_prefix
  | 0, lo, il, some h, ih, L, hl, hh, hL => by
    have := hh h rfl
    omega
  | n + 1, lo, il, some h, ih, L, hl, hh, hL => by
    obtain ⟨h0, hlt, hf⟩ := hh h rfl
    obtain ⟨f1, f2⟩ := floor_bits hl
    unfold sureF
    split
    · rename_i hs
      rw [none_sure hl (fun g e => by
        cases e
        refine ⟨h0, ?_⟩
        have e : crs (lo.1 / lo.2 + 1, 1) h = -(h.1 - (lo.1 / lo.2 + 1) * h.2) := by
          unfold crs
          show (lo.1 / lo.2 + 1) * h.2 - h.1 * 1 = _
          omega
        rw [e]
        rcases hs with hs | hs
        · exact .inl (by omega)
        · exact .inr ⟨by omega, hs.2⟩) hL]
      exact List.nil_prefix
    · rename_i hs
      cases L with
      | nil => exact List.nil_prefix
      | cons a L =>
        -- a number between
        have hm : InI lo il (some h) ih (lo.1 + h.1, lo.2 + h.2) := by
          unfold crs at hlt
          refine ⟨.inl ?_, fun g e => .inl ?_⟩
          · unfold crs
            show lo.1 * (lo.2 + h.2) - (lo.1 + h.1) * lo.2 < 0
            rw [Int.mul_add, Int.add_mul]
            omega
          · cases e
            unfold crs
            show (lo.1 + h.1) * h.2 - h.1 * (lo.2 + h.2) < 0
            rw [Int.mul_add, Int.add_mul]
            omega
        have hm0 : 0 < lo.2 + h.2 := by omega
        have m1 := floor_lo (x := (lo.1 + h.1, lo.2 + h.2)) hl (crs_le hm.1) hm0
        have m2 := below_next (x := (lo.1 + h.1, lo.2 + h.2)) h0 hm0 (hm.2 h rfl) hs
        have ha := hL _ hm0 hm
        rw [eucP_cons hm0 m1 m2] at ha
        refine List.cons_prefix_cons.mpr ⟨(List.cons_prefix_cons.mp ha).1, ?_⟩
        generalize hq : lo.1 / lo.2 = q at *
        have hhq : 0 < h.1 - q * h.2 := by
          unfold crs at hlt
          refine Int.lt_of_mul_lt_mul_right (a := lo.2) ?_ (Int.le_of_lt hl)
          have e : (h.1 - q * h.2) * lo.2 = h.1 * lo.2 - lo.1 * h.2 + (lo.1 - q * lo.2) * h.2 := by grind
          have : 0 ≤ (lo.1 - q * lo.2) * h.2 := Int.mul_nonneg (by omega) (by omega)
          omega
        have hrest : h.1 - q * h.2 ≤ h.2 := by
          have : ¬ 0 < h.1 - (q + 1) * h.2 := fun z => hs (.inl z)
          rw [Int.add_mul] at this
          omega
        refine sure_max n _ ih _ il L hhq (fun g e => ?_) fun x hx hI => ?_
        · split at e
          · cases e
          · rename_i hne
            cases e
            refine ⟨by show 0 < lo.1 - q * lo.2; omega, ?_, ?_⟩
            · have e : crs (h.2, h.1 - q * h.2) (lo.2, lo.1 - q * lo.2) = crs lo h := by
                unfold crs
                show h.2 * (lo.1 - q * lo.2) - lo.2 * (h.1 - q * h.2) = _
                grind
              rw [e]
              exact hlt
            · show (h.1 - q * h.2) + (lo.1 - q * lo.2) ≤ (n : Int)
              rw [Int.add_mul] at f2
              omega
        · -- q and 1 over x
          have hx1 : 0 < x.1 := by
            have a1 := crs_le hI.1
            unfold crs at a1
            have a1 : h.2 * x.2 - x.1 * (h.1 - q * h.2) ≤ 0 := a1
            have a2 : 0 < h.2 * x.2 := Int.mul_pos h0 hx
            refine Int.lt_of_mul_lt_mul_right (a := h.1 - q * h.2) ?_ (Int.le_of_lt hhq)
            omega
          have e1 : crs lo (q * x.1 + x.2, x.1) = x.1 * (lo.1 - q * lo.2) - lo.2 * x.2 := by
            unfold crs
            show lo.1 * x.1 - (q * x.1 + x.2) * lo.2 = _
            grind
          have e2 : crs (q * x.1 + x.2, x.1) h = crs (h.2, h.1 - q * h.2) x := by
            unfold crs
            show (q * x.1 + x.2) * h.2 - h.1 * x.1 = h.2 * x.2 - x.1 * (h.1 - q * h.2)
            grind
          have hIx : InI lo il (some h) ih (q * x.1 + x.2, x.1) := by
            refine ⟨?_, fun g e => ?_⟩
            · by_cases hz : lo.1 - q * lo.2 = 0
              · refine .inl ?_
                rw [e1, hz, Int.mul_zero]
                have := Int.mul_pos hl hx
                omega
              · have := hI.2 (lo.2, lo.1 - q * lo.2) (if_neg hz)
                rw [e1]
                exact this
            · cases e
              rw [e2]
              exact hI.1
          have b1 : q * (q * x.1 + x.2, x.1).2 ≤ (q * x.1 + x.2, x.1).1 := by
            show q * x.1 ≤ q * x.1 + x.2
            omega
          have b2 := below_next (x := (q * x.1 + x.2, x.1)) h0 hx1 (hIx.2 h rfl) hs
          have hp := hL _ hx1 hIx
          rw [eucP_cons hx1 b1 b2] at hp
          have hp := (List.cons_prefix_cons.mp hp).2
          have e3 : (q * x.1 + x.2, x.1).1 - q * (q * x.1 + x.2, x.1).2 = x.2 := by
            show q * x.1 + x.2 - q * x.1 = x.2
            omega
          rw [e3, if_neg (by omega)] at hp
          exact hp
/-- of a lesser stretch no less is sure -/
theorem sure_mono {n m : Nat} {lo lo' : Int × Int} {il il' ih ih' : Bool} {hi hi' : Option (Int × Int)} (hl : 0 < lo.2) (hh : ∀ h, hi = some h → 0 < h.2) (hl' : 0 < lo'.2) (hh' : ∀ h, hi' = some h → 0 < h.2 ∧ crs lo' h < 0 ∧ lo'.2 + h.2 ≤ m)
    (hs : ∀ x : Int × Int, 0 < x.2 → InI lo' il' hi' ih' x → InI lo il hi ih x) : sureF n lo il hi ih <+: sureF m lo' il' hi' ih' :=
  sure_max m lo' il' hi' ih' _ hl' hh' fun x hx hI => sure_pre n lo il hi ih x hl hh hx (hs x hx hI)
end Ma
/-! what two stretches come to -/
namespace Ma
/-- the words, by number: plus, less, times, over -/
def doneF (w : Nat) (a b : Int × Int) : Int × Int := match w with
  | 0 => (a.1 * b.2 + b.1 * a.2, a.2 * b.2)
  | 1 => (a.1 * b.2 - b.1 * a.2, a.2 * b.2)
  | 2 => (a.1 * b.1, a.2 * b.2)
  | _ => (a.1 * b.2, a.2 * b.1)
/-- the low end of all that both come to -/
def loF (w : Nat) (lo lo' : Int × Int) (hi' : Option (Int × Int)) : Option (Int × Int) := match w with
  | 0 => some (doneF 0 lo lo')
  | 1 => hi'.map (doneF 1 lo)
  | 2 => some (doneF 2 lo lo')
  | _ => match hi' with
    | none => some (0, 1)
    | some k => some (doneF 3 lo k)
def hiF (w : Nat) (hi : Option (Int × Int)) (lo' : Int × Int) (hi' : Option (Int × Int)) : Option (Int × Int) := match w, hi with
  | _, none => none
  | 0, some h => hi'.map (doneF 0 h)
  | 1, some h => some (doneF 1 h lo')
  | 2, some h => hi'.map (doneF 2 h)
  | _, some h => if lo'.1 = 0 then none else some (doneF 3 h lo')
def ilF (w : Nat) (il il' ih' : Bool) : Bool := if w = 1 ∨ 3 ≤ w then il && ih' else il && il'
def ihF (w : Nat) (ih il' ih' : Bool) : Bool := if w = 1 ∨ 3 ≤ w then ih && il' else ih && ih'
theorem comb {c d u v : Int} {p q : Bool} (hu : 0 ≤ u) (hv : 0 < v) (hz : u = 0 → d < 0) (hc : c < 0 ∨ (c = 0 ∧ p = true)) (hd : d < 0 ∨ (d = 0 ∧ q = true)) : c * u + d * v < 0 ∨ (c * u + d * v = 0 ∧ (p && q) = true) := by
  have h1 : c * u ≤ 0 := by
    have : 0 ≤ (-c) * u := Int.mul_nonneg (by rcases hc with h | h <;> omega) hu
    rw [Int.neg_mul] at this
    omega
  rcases hd with hd | ⟨hd, hq⟩
  · have : 0 < (-d) * v := Int.mul_pos (by omega) hv
    rw [Int.neg_mul] at this
    exact .inl (by omega)
  · subst hd
    rw [Int.zero_mul, Int.add_zero]
    rcases hc with hc | ⟨hc, hp⟩
    · have hu' : 0 < u := by
        by_cases h : u = 0
        · have := hz h
          omega
        · omega
      have : 0 < (-c) * u := Int.mul_pos (by omega) hu'
      rw [Int.neg_mul] at this
      exact .inl (by omega)
    · subst hc
      exact .inr ⟨Int.zero_mul _, by rw [hp, hq]; rfl⟩
section
variable {lo lo' x y : Int × Int} {il il' ih ih' : Bool} {hi hi' : Option (Int × Int)}
theorem above_pos {h : Int × Int} {c : Bool} (hx : 0 < x.1 ∧ 0 < x.2) (h2 : 0 < h.2) (hc : crs x h < 0 ∨ (crs x h = 0 ∧ c = true)) : 0 < h.1 := by
  have := crs_le hc
  unfold crs at this
  have p : 0 < x.1 * h.2 := Int.mul_pos hx.1 h2
  refine Int.lt_of_mul_lt_mul_right (a := x.2) ?_ (Int.le_of_lt hx.2)
  omega
/-- what x and y come to lies above the low end -/
theorem op_lo {w : Nat} (hx : 0 < x.1 ∧ 0 < x.2) (hy : 0 < y.1 ∧ 0 < y.2) (l1 : 0 ≤ lo.1 ∧ 0 < lo.2) (l2 : 0 ≤ lo'.1 ∧ 0 < lo'.2) (h2 : ∀ h, hi' = some h → 0 < h.2) (I : InI lo il hi ih x) (J : InI lo' il' hi' ih' y) :
    ∀ l, loF w lo lo' hi' = some l → crs l (doneF w x y) < 0 ∨ (crs l (doneF w x y) = 0 ∧ ilF w il il' ih' = true) := by
  intro l hl
  match w with
  | 0 =>
    cases hl
    have e : crs (doneF 0 lo lo') (doneF 0 x y) = crs lo x * (lo'.2 * y.2) + crs lo' y * (lo.2 * x.2) := by
      unfold crs
      show (lo.1 * lo'.2 + lo'.1 * lo.2) * (x.2 * y.2) - (x.1 * y.2 + y.1 * x.2) * (lo.2 * lo'.2) = _
      grind
    rw [e]
    exact comb (Int.mul_nonneg (by omega) (by omega)) (Int.mul_pos l1.2 hx.2) (fun z => by have := Int.mul_pos l2.2 hy.2; omega) I.1 J.1
  | 1 =>
    obtain ⟨k, hk, rfl⟩ := Option.map_eq_some_iff.mp (show hi'.map (doneF 1 lo) = some l from hl)
    have k2 := h2 k hk
    have e : crs (doneF 1 lo k) (doneF 1 x y) = crs lo x * (k.2 * y.2) + crs y k * (lo.2 * x.2) := by
      unfold crs
      show (lo.1 * k.2 - k.1 * lo.2) * (x.2 * y.2) - (x.1 * y.2 - y.1 * x.2) * (lo.2 * k.2) = _
      grind
    rw [e]
    exact comb (Int.mul_nonneg (by omega) (by omega)) (Int.mul_pos l1.2 hx.2) (fun z => by have := Int.mul_pos k2 hy.2; omega) I.1 (J.2 k hk)
  | 2 =>
    cases hl
    have e : crs (doneF 2 lo lo') (doneF 2 x y) = crs lo x * (lo'.1 * y.2) + crs lo' y * (x.1 * lo.2) := by
      unfold crs
      show (lo.1 * lo'.1) * (x.2 * y.2) - (x.1 * y.1) * (lo.2 * lo'.2) = _
      grind
    rw [e]
    refine comb (Int.mul_nonneg (by omega) (by omega)) (Int.mul_pos hx.1 l1.2) (fun z => ?_) I.1 J.1
    have h0 : lo'.1 = 0 := by
      rcases Int.mul_eq_zero.mp z with h | h <;> omega
    unfold crs
    rw [h0, Int.zero_mul]
    have := Int.mul_pos hy.1 l2.2
    omega
  | n + 3 =>
    have hdone : doneF (n + 3) x y = doneF 3 x y := rfl
    have hil : ilF (n + 3) il il' ih' = (il && ih') := by
      unfold ilF
      rw [if_pos (by omega)]
    rw [hdone, hil]
    cases hk : hi' with
    | none =>
      rw [hk] at hl
      cases hl
      refine .inl ?_
      unfold crs
      show 0 * (x.2 * y.1) - x.1 * y.2 * 1 < 0
      have := Int.mul_pos hx.1 hy.2
      omega
    | some k =>
      rw [hk] at hl
      cases hl
      have k2 := h2 k hk
      have e : crs (doneF 3 lo k) (doneF 3 x y) = crs lo x * (k.2 * y.1) + crs y k * (x.1 * lo.2) := by
        unfold crs
        show (lo.1 * k.2) * (x.2 * y.1) - (x.1 * y.2) * (lo.2 * k.1) = _
        grind
      rw [e]
      exact comb (Int.mul_nonneg (by omega) (by omega)) (Int.mul_pos hx.1 l1.2) (fun z => by have := Int.mul_pos k2 hy.1; omega) I.1 (J.2 k hk)
/-- .. and below the high one -/
theorem op_hi {w : Nat} (hx : 0 < x.1 ∧ 0 < x.2) (hy : 0 < y.1 ∧ 0 < y.2) (l2 : 0 ≤ lo'.1 ∧ 0 < lo'.2) (h1 : ∀ h, hi = some h → 0 < h.2) (h2 : ∀ h, hi' = some h → 0 < h.2) (I : InI lo il hi ih x) (J : InI lo' il' hi' ih' y) :
    ∀ l, hiF w hi lo' hi' = some l → crs (doneF w x y) l < 0 ∨ (crs (doneF w x y) l = 0 ∧ ihF w ih il' ih' = true) := by
  intro l hl
  cases hh : hi with
  | none => rw [hh] at hl; match w with
    | 0 => cases hl
    | 1 => cases hl
    | 2 => cases hl
    | n + 3 => cases hl
  | some h =>
    rw [hh] at hl
    have a1 := h1 h hh
    have Ih := I.2 h hh
    match w with
    | 0 =>
      obtain ⟨k, hk, rfl⟩ := Option.map_eq_some_iff.mp (show hi'.map (doneF 0 h) = some l from hl)
      have k2 := h2 k hk
      have e : crs (doneF 0 x y) (doneF 0 h k) = crs x h * (y.2 * k.2) + crs y k * (x.2 * h.2) := by
        unfold crs
        show (x.1 * y.2 + y.1 * x.2) * (h.2 * k.2) - (h.1 * k.2 + k.1 * h.2) * (x.2 * y.2) = _
        grind
      rw [e]
      exact comb (Int.mul_nonneg (by omega) (by omega)) (Int.mul_pos hx.2 a1) (fun z => by have := Int.mul_pos hy.2 k2; omega) Ih (J.2 k hk)
    | 1 =>
      cases hl
      have e : crs (doneF 1 x y) (doneF 1 h lo') = crs x h * (y.2 * lo'.2) + crs lo' y * (x.2 * h.2) := by
        unfold crs
        show (x.1 * y.2 - y.1 * x.2) * (h.2 * lo'.2) - (h.1 * lo'.2 - lo'.1 * h.2) * (x.2 * y.2) = _
        grind
      rw [e]
      exact comb (Int.mul_nonneg (by omega) (by omega)) (Int.mul_pos hx.2 a1) (fun z => by have := Int.mul_pos hy.2 l2.2; omega) Ih J.1
    | 2 =>
      obtain ⟨k, hk, rfl⟩ := Option.map_eq_some_iff.mp (show hi'.map (doneF 2 h) = some l from hl)
      have k2 := h2 k hk
      have e : crs (doneF 2 x y) (doneF 2 h k) = crs x h * (y.1 * k.2) + crs y k * (h.1 * x.2) := by
        unfold crs
        show (x.1 * y.1) * (h.2 * k.2) - (h.1 * k.1) * (x.2 * y.2) = _
        grind
      rw [e]
      exact comb (Int.mul_nonneg (by omega) (by omega)) (Int.mul_pos (above_pos hx a1 Ih) hx.2) (fun z => by have := Int.mul_pos hy.1 k2; omega) Ih (J.2 k hk)
    | n + 3 =>
      have hdone : doneF (n + 3) x y = doneF 3 x y := rfl
      have hih : ihF (n + 3) ih il' ih' = (ih && il') := by
        unfold ihF
        rw [if_pos (by omega)]
      rw [hdone, hih]
      have hl : (if lo'.1 = 0 then none else some (doneF 3 h lo')) = some l := hl
      split at hl
      · cases hl
      · rename_i h0
        cases hl
        have e : crs (doneF 3 x y) (doneF 3 h lo') = crs x h * (y.2 * lo'.1) + crs lo' y * (h.1 * x.2) := by
          unfold crs
          show (x.1 * y.2) * (h.2 * lo'.1) - (h.1 * lo'.2) * (x.2 * y.1) = _
          grind
        rw [e]
        exact comb (Int.mul_nonneg (by omega) (by omega)) (Int.mul_pos (above_pos hx a1 Ih) hx.2) (fun z => by have := Int.mul_pos hy.2 (show 0 < lo'.1 by omega); omega) Ih J.1
end
end Ma
/-! stretches within stretches -/
namespace Ma
def LeP (c : Int) (P : Prop) : Prop := c < 0 ∨ (c = 0 ∧ P)
theorem LeP.le {c : Int} {P : Prop} (h : LeP c P) : c ≤ 0 := by rcases h with h | h <;> omega
theorem LeP.imp {c : Int} {P Q : Prop} (h : LeP c P) (f : P → Q) : LeP c Q := by
  rcases h with h | ⟨h, p⟩
  · exact .inl h
  · exact .inr ⟨h, f p⟩
theorem LeP.of {c : Int} {P : Prop} (h : c ≤ 0) (p : c = 0 → P) : LeP c P := by
  by_cases e : c = 0
  · exact .inr ⟨e, p e⟩
  · exact .inl (by omega)
theorem crs_tr (a b c : Int × Int) : crs c a * b.2 = crs c b * a.2 + crs b a * c.2 := by
  unfold crs
  grind
theorem LeP.trans {a b c : Int × Int} {P Q : Prop} (ha : 0 < a.2) (hb : 0 < b.2) (hc : 0 < c.2) (h : LeP (crs c b) P) (h' : LeP (crs b a) Q) : LeP (crs c a) (P ∧ Q) := by
  have e := crs_tr a b c
  have s1 := h.le
  have s2 := h'.le
  have p1 : 0 ≤ (-crs c b) * a.2 := Int.mul_nonneg (by omega) (by omega)
  have p2 : 0 ≤ (-crs b a) * c.2 := Int.mul_nonneg (by omega) (by omega)
  rw [Int.neg_mul] at p1 p2
  have le : crs c a ≤ 0 := by
    refine Int.le_of_mul_le_mul_right (a := b.2) ?_ hb
    rw [Int.zero_mul]
    omega
  refine LeP.of le fun z => ?_
  rw [z, Int.zero_mul] at e
  have q1 : crs c b * a.2 = 0 := by omega
  have q2 : crs b a * c.2 = 0 := by omega
  have r1 : crs c b = 0 := by rcases Int.mul_eq_zero.mp q1 with h | h <;> omega
  have r2 : crs b a = 0 := by rcases Int.mul_eq_zero.mp q2 with h | h <;> omega
  refine ⟨?_, ?_⟩
  · rcases h with h | h
    · omega
    · exact h.2
  · rcases h' with h | h
    · omega
    · exact h.2
/-- e lies within f -/
structure Sub (e f : E4) : Prop where
  lo : LeP (crs f.lo e.lo) (e.il = true → f.il = true)
  hi : ∀ h, f.hi = some h → ∃ k, e.hi = some k ∧ LeP (crs k h) (e.ih = true → f.ih = true)
/-- ends as they are: bottoms above 0, the low one not below 0, above 0 where it is met, no high end not met, the high one above 0 -/
structure Okv (e : E4) : Prop where
  l2 : 0 < e.lo.2
  l1 : 0 ≤ e.lo.1
  lm : e.il = true → 0 < e.lo.1
  h2 : ∀ h, e.hi = some h → 0 < h.2 ∧ 0 < h.1
  hm : e.hi = none → e.ih = false
def In4 (e : E4) (x : Int × Int) : Prop := InI e.lo e.il e.hi e.ih x
theorem Sub.refl (e : E4) : Sub e e := ⟨.inr ⟨crs_self _, id⟩, fun h z => ⟨h, z, .inr ⟨crs_self _, id⟩⟩⟩
theorem Sub.trans {e f g : E4} (oe : Okv e) (of : Okv f) (og : Okv g) (h : Sub e f) (h' : Sub f g) : Sub e g := by
  refine ⟨(LeP.trans oe.l2 of.l2 og.l2 h'.lo h.lo).imp fun p z => p.1 (p.2 z), fun k hk => ?_⟩
  obtain ⟨j, hj, q⟩ := h'.hi k hk
  obtain ⟨i, hi, r⟩ := h.hi j hj
  exact ⟨i, hi, (LeP.trans (og.h2 k hk).1 (of.h2 j hj).1 (oe.h2 i hi).1 r q).imp fun p z => p.2 (p.1 z)⟩
theorem Sub.inI {e f : E4} {x : Int × Int} (oe : Okv e) (of : Okv f) (hx : 0 < x.2) (h : Sub e f) (hI : In4 e x) : In4 f x := by
  refine ⟨?_, fun k hk => ?_⟩
  · have : LeP (crs e.lo x) (e.il = true) := hI.1
    exact (LeP.trans hx oe.l2 of.l2 h.lo this).imp fun p => p.1 p.2
  · obtain ⟨j, hj, q⟩ := h.hi k hk
    have : LeP (crs x j) (e.ih = true) := hI.2 j hj
    exact (LeP.trans (of.h2 k hk).1 (oe.h2 j hj).1 hx this q).imp fun p => p.2 p.1
theorem combP {c d u v : Int} {P Q : Prop} (hu : 0 ≤ u) (hv : 0 ≤ v) (hc : LeP c P) (hd : LeP d Q) : LeP (c * u + d * v) ((u = 0 ∨ (c = 0 ∧ P)) ∧ (v = 0 ∨ (d = 0 ∧ Q))) := by
  have s1 := hc.le
  have s2 := hd.le
  have p1 : 0 ≤ (-c) * u := Int.mul_nonneg (by omega) hu
  have p2 : 0 ≤ (-d) * v := Int.mul_nonneg (by omega) hv
  rw [Int.neg_mul] at p1 p2
  refine LeP.of (by omega) fun z => ?_
  have q1 : c * u = 0 := by omega
  have q2 : d * v = 0 := by omega
  refine ⟨?_, ?_⟩
  · rcases Int.mul_eq_zero.mp q1 with h | h
    · exact .inr ⟨h, by rcases hc with z | z; omega; exact z.2⟩
    · exact .inl h
  · rcases Int.mul_eq_zero.mp q2 with h | h
    · exact .inr ⟨h, by rcases hd with z | z; omega; exact z.2⟩
    · exact .inl h
/-- the ends of what lesser stretches come to lie within -/
theorem op_sub_lo {w : Nat} {e f e' f' : E4} (oe : Okv e) (of : Okv f) (oe' : Okv e') (of' : Okv f') (h : Sub e f) (h' : Sub e' f') :
    ∀ l, loF w f.lo f'.lo f'.hi = some l → ∃ m, loF w e.lo e'.lo e'.hi = some m ∧ LeP (crs l m) (ilF w e.il e'.il e'.ih = true → ilF w f.il f'.il f'.ih = true) := by
  intro l hl
  match w with
  | 0 =>
    cases hl
    refine ⟨_, rfl, ?_⟩
    have e1 : crs (doneF 0 f.lo f'.lo) (doneF 0 e.lo e'.lo) = crs f.lo e.lo * (f'.lo.2 * e'.lo.2) + crs f'.lo e'.lo * (f.lo.2 * e.lo.2) := by
      unfold crs
      show (f.lo.1 * f'.lo.2 + f'.lo.1 * f.lo.2) * (e.lo.2 * e'.lo.2) - (e.lo.1 * e'.lo.2 + e'.lo.1 * e.lo.2) * (f.lo.2 * f'.lo.2) = _
      grind
    rw [e1]
    have u := Int.mul_pos of'.l2 oe'.l2
    have v := Int.mul_pos of.l2 oe.l2
    refine (combP (Int.le_of_lt u) (Int.le_of_lt v) h.lo h'.lo).imp fun p z => ?_
    have z : (e.il && e'.il) = true := z
    rw [Bool.and_eq_true] at z
    show (f.il && f'.il) = true
    rw [p.1.elim (fun x => by omega) (fun x => x.2 z.1), p.2.elim (fun x => by omega) (fun x => x.2 z.2)]
    rfl
  | 1 =>
    obtain ⟨k, hk, rfl⟩ := Option.map_eq_some_iff.mp (show f'.hi.map (doneF 1 f.lo) = some l from hl)
    obtain ⟨j, hj, q⟩ := h'.hi k hk
    refine ⟨doneF 1 e.lo j, by show e'.hi.map _ = _; rw [hj]; rfl, ?_⟩
    have e1 : crs (doneF 1 f.lo k) (doneF 1 e.lo j) = crs f.lo e.lo * (k.2 * j.2) + crs j k * (f.lo.2 * e.lo.2) := by
      unfold crs
      show (f.lo.1 * k.2 - k.1 * f.lo.2) * (e.lo.2 * j.2) - (e.lo.1 * j.2 - j.1 * e.lo.2) * (f.lo.2 * k.2) = _
      grind
    rw [e1]
    have u := Int.mul_pos (of'.h2 k hk).1 (oe'.h2 j hj).1
    have v := Int.mul_pos of.l2 oe.l2
    refine (combP (Int.le_of_lt u) (Int.le_of_lt v) h.lo q).imp fun p z => ?_
    have z : (e.il && e'.ih) = true := z
    rw [Bool.and_eq_true] at z
    show (f.il && f'.ih) = true
    rw [p.1.elim (fun x => by omega) (fun x => x.2 z.1), p.2.elim (fun x => by omega) (fun x => x.2 z.2)]
    rfl
  | 2 =>
    cases hl
    refine ⟨_, rfl, ?_⟩
    have e1 : crs (doneF 2 f.lo f'.lo) (doneF 2 e.lo e'.lo) = crs f.lo e.lo * (f'.lo.1 * e'.lo.2) + crs f'.lo e'.lo * (e.lo.1 * f.lo.2) := by
      unfold crs
      show (f.lo.1 * f'.lo.1) * (e.lo.2 * e'.lo.2) - (e.lo.1 * e'.lo.1) * (f.lo.2 * f'.lo.2) = _
      grind
    rw [e1]
    refine (combP (Int.mul_nonneg of'.l1 (Int.le_of_lt oe'.l2)) (Int.mul_nonneg oe.l1 (Int.le_of_lt of.l2)) h.lo h'.lo).imp fun p z => ?_
    have z : (e.il && e'.il) = true := z
    rw [Bool.and_eq_true] at z
    have a1 := oe.lm z.1
    have a2 := oe'.lm z.2
    have v := Int.mul_pos a1 of.l2
    have b2 := p.2.elim (fun x => absurd x (by omega)) (fun x => x)
    have a3 : 0 < f'.lo.1 := by
      have c := b2.1
      unfold crs at c
      have := Int.mul_pos a2 of'.l2
      refine Int.lt_of_mul_lt_mul_right (a := e'.lo.2) ?_ (Int.le_of_lt oe'.l2)
      omega
    have u := Int.mul_pos a3 oe'.l2
    show (f.il && f'.il) = true
    rw [p.1.elim (fun x => by omega) (fun x => x.2 z.1), b2.2 z.2]
    rfl
  | n + 3 =>
    have hil : ∀ a b c : Bool, ilF (n + 3) a b c = (a && c) := fun a b c => by
      unfold ilF
      rw [if_pos (by omega)]
    rw [hil, hil]
    cases hk : f'.hi with
    | none =>
      rw [hk] at hl
      cases hl
      cases hj : e'.hi with
      | none =>
        refine ⟨(0, 1), rfl, .inr ⟨crs_self _, fun z => ?_⟩⟩
        rw [oe'.hm hj, Bool.and_false] at z
        cases z
      | some j =>
        refine ⟨doneF 3 e.lo j, rfl, ?_⟩
        have e1 : crs (0, 1) (doneF 3 e.lo j) = -(e.lo.1 * j.2) := by
          unfold crs
          show 0 * (e.lo.2 * j.1) - e.lo.1 * j.2 * 1 = _
          omega
        rw [e1]
        have j2 := (oe'.h2 j hj).1
        have := Int.mul_nonneg oe.l1 (Int.le_of_lt j2)
        refine LeP.of (by omega) fun z y => ?_
        rw [Bool.and_eq_true] at y
        have := Int.mul_pos (oe.lm y.1) j2
        omega
    | some k =>
      rw [hk] at hl
      cases hl
      obtain ⟨j, hj, q⟩ := h'.hi k hk
      rw [hj]
      refine ⟨doneF 3 e.lo j, rfl, ?_⟩
      have e1 : crs (doneF 3 f.lo k) (doneF 3 e.lo j) = crs f.lo e.lo * (k.2 * j.1) + crs j k * (e.lo.1 * f.lo.2) := by
        unfold crs
        show (f.lo.1 * k.2) * (e.lo.2 * j.1) - (e.lo.1 * j.2) * (f.lo.2 * k.1) = _
        grind
      rw [e1]
      have u := Int.mul_pos (of'.h2 k hk).1 (oe'.h2 j hj).2
      refine (combP (Int.le_of_lt u) (Int.mul_nonneg oe.l1 (Int.le_of_lt of.l2)) h.lo q).imp fun p z => ?_
      rw [Bool.and_eq_true] at z
      have v := Int.mul_pos (oe.lm z.1) of.l2
      rw [p.1.elim (fun x => by omega) (fun x => x.2 z.1), p.2.elim (fun x => by omega) (fun x => x.2 z.2)]
      rfl
theorem op_sub_hi {w : Nat} {e f e' f' : E4} (oe : Okv e) (of : Okv f) (oe' : Okv e') (of' : Okv f') (h : Sub e f) (h' : Sub e' f') :
    ∀ l, hiF w f.hi f'.lo f'.hi = some l → ∃ m, hiF w e.hi e'.lo e'.hi = some m ∧ LeP (crs m l) (ihF w e.ih e'.il e'.ih = true → ihF w f.ih f'.il f'.ih = true) := by
  intro l hl
  cases hh : f.hi with
  | none => rw [hh] at hl; match w with
    | 0 => cases hl
    | 1 => cases hl
    | 2 => cases hl
    | n + 3 => cases hl
  | some g =>
    rw [hh] at hl
    obtain ⟨i, hi, qi⟩ := h.hi g hh
    obtain ⟨g2, g1⟩ := of.h2 g hh
    obtain ⟨i2, i1⟩ := oe.h2 i hi
    rw [hi]
    match w with
    | 0 =>
      obtain ⟨k, hk, rfl⟩ := Option.map_eq_some_iff.mp (show f'.hi.map (doneF 0 g) = some l from hl)
      obtain ⟨j, hj, q⟩ := h'.hi k hk
      refine ⟨doneF 0 i j, by show e'.hi.map _ = _; rw [hj]; rfl, ?_⟩
      have e1 : crs (doneF 0 i j) (doneF 0 g k) = crs i g * (j.2 * k.2) + crs j k * (i.2 * g.2) := by
        unfold crs
        show (i.1 * j.2 + j.1 * i.2) * (g.2 * k.2) - (g.1 * k.2 + k.1 * g.2) * (i.2 * j.2) = _
        grind
      rw [e1]
      have u := Int.mul_pos (oe'.h2 j hj).1 (of'.h2 k hk).1
      have v := Int.mul_pos i2 g2
      refine (combP (Int.le_of_lt u) (Int.le_of_lt v) qi q).imp fun p z => ?_
      have z : (e.ih && e'.ih) = true := z
      rw [Bool.and_eq_true] at z
      show (f.ih && f'.ih) = true
      rw [p.1.elim (fun x => by omega) (fun x => x.2 z.1), p.2.elim (fun x => by omega) (fun x => x.2 z.2)]
      rfl
    | 1 =>
      cases hl
      refine ⟨doneF 1 i e'.lo, rfl, ?_⟩
      have e1 : crs (doneF 1 i e'.lo) (doneF 1 g f'.lo) = crs i g * (e'.lo.2 * f'.lo.2) + crs f'.lo e'.lo * (i.2 * g.2) := by
        unfold crs
        show (i.1 * e'.lo.2 - e'.lo.1 * i.2) * (g.2 * f'.lo.2) - (g.1 * f'.lo.2 - f'.lo.1 * g.2) * (i.2 * e'.lo.2) = _
        grind
      rw [e1]
      have u := Int.mul_pos oe'.l2 of'.l2
      have v := Int.mul_pos i2 g2
      refine (combP (Int.le_of_lt u) (Int.le_of_lt v) qi h'.lo).imp fun p z => ?_
      have z : (e.ih && e'.il) = true := z
      rw [Bool.and_eq_true] at z
      show (f.ih && f'.il) = true
      rw [p.1.elim (fun x => by omega) (fun x => x.2 z.1), p.2.elim (fun x => by omega) (fun x => x.2 z.2)]
      rfl
    | 2 =>
      obtain ⟨k, hk, rfl⟩ := Option.map_eq_some_iff.mp (show f'.hi.map (doneF 2 g) = some l from hl)
      obtain ⟨j, hj, q⟩ := h'.hi k hk
      refine ⟨doneF 2 i j, by show e'.hi.map _ = _; rw [hj]; rfl, ?_⟩
      have e1 : crs (doneF 2 i j) (doneF 2 g k) = crs i g * (j.1 * k.2) + crs j k * (g.1 * i.2) := by
        unfold crs
        show (i.1 * j.1) * (g.2 * k.2) - (g.1 * k.1) * (i.2 * j.2) = _
        grind
      rw [e1]
      have u := Int.mul_pos (oe'.h2 j hj).2 (of'.h2 k hk).1
      have v := Int.mul_pos g1 i2
      refine (combP (Int.le_of_lt u) (Int.le_of_lt v) qi q).imp fun p z => ?_
      have z : (e.ih && e'.ih) = true := z
      rw [Bool.and_eq_true] at z
      show (f.ih && f'.ih) = true
      rw [p.1.elim (fun x => by omega) (fun x => x.2 z.1), p.2.elim (fun x => by omega) (fun x => x.2 z.2)]
      rfl
    | n + 3 =>
      have hih : ∀ a b c : Bool, ihF (n + 3) a b c = (a && b) := fun a b c => by
        unfold ihF
        rw [if_pos (by omega)]
      rw [hih, hih]
      have hl : (if f'.lo.1 = 0 then none else some (doneF 3 g f'.lo)) = some l := hl
      split at hl
      · cases hl
      · rename_i h0
        cases hl
        have f1 : 0 < f'.lo.1 := by have := of'.l1; omega
        have e1' : 0 < e'.lo.1 := by
          have c := h'.lo.le
          unfold crs at c
          have := Int.mul_pos f1 oe'.l2
          refine Int.lt_of_mul_lt_mul_right (a := f'.lo.2) ?_ (Int.le_of_lt of'.l2)
          omega
        refine ⟨doneF 3 i e'.lo, if_neg (by omega), ?_⟩
        have e1 : crs (doneF 3 i e'.lo) (doneF 3 g f'.lo) = crs i g * (e'.lo.2 * f'.lo.1) + crs f'.lo e'.lo * (g.1 * i.2) := by
          unfold crs
          show (i.1 * e'.lo.2) * (g.2 * f'.lo.1) - (g.1 * f'.lo.2) * (i.2 * e'.lo.1) = _
          grind
        rw [e1]
        have u := Int.mul_pos oe'.l2 f1
        have v := Int.mul_pos g1 i2
        refine (combP (Int.le_of_lt u) (Int.le_of_lt v) qi h'.lo).imp fun p z => ?_
        rw [Bool.and_eq_true] at z
        rw [p.1.elim (fun x => by omega) (fun x => x.2 z.1), p.2.elim (fun x => by omega) (fun x => x.2 z.2)]
        rfl
end Ma
/-! beginnings and whole numbers as stretches -/
namespace Ma
/-- a number that comes -/
def numE (b : List Int) (all : Bool) : E4 := if all then ⟨val b, true, some (val b), true⟩ else endsE b
theorem dt_o {b : List Int} (h : b.length % 2 = 1) : dt b = -1 := by
  rw [dt_eq, if_neg (by omega)]
theorem dt_e {b : List Int} (h : ¬ b.length % 2 = 1) : dt b = 1 := by
  rw [dt_eq, if_pos (by omega)]
theorem ends_ne {b : List Int} (h : b ≠ []) : endsE b = if b.length % 2 = 1 then ⟨val b, metB b, some (val (inc b)), false⟩ else ⟨val (inc b), false, some (val b), metB b⟩ := if_neg h
theorem bg_val {b : List Int} (h : Bg b) (hne : b ≠ []) : 0 ≤ (val b).1 ∧ 0 < (val b).2 := by
  cases b with
  | nil => exact (hne rfl).elim
  | cons q r =>
    have hq := h.hd q rfl
    have v := val_pos (l := r) h.tl
    refine ⟨?_, by show 0 < (val r).1; omega⟩
    show 0 ≤ q * (val r).1 + (val r).2
    have := Int.mul_nonneg hq (show 0 ≤ (val r).1 by omega)
    omega
theorem bg_inc {b : List Int} (h : Bg b) : Bg (inc b) := by
  by_cases hb : b = []
  · subst hb
    exact ⟨fun q z => by cases z; decide, fun x z => (nomatch z)⟩
  · obtain ⟨r, z, rfl⟩ : ∃ r z, b = r ++ [z] := ⟨b.dropLast, b.getLast hb, (List.dropLast_concat_getLast hb).symm⟩
    rw [inc_snoc]
    cases r with
    | nil =>
      have := h.hd z rfl
      exact ⟨fun q e => by cases e; omega, fun x e => (nomatch e)⟩
    | cons a r =>
      refine ⟨fun q e => h.hd q e, fun x hx => ?_⟩
      have hx : x ∈ r ++ [z + 1] := hx
      rcases List.mem_append.mp hx with e | e
      · exact h.tl x (show x ∈ r ++ [z] from List.mem_append_left _ e)
      · have := h.tl z (show z ∈ r ++ [z] from List.mem_append_right _ (List.mem_singleton.mpr rfl))
        rw [List.mem_singleton.mp e]
        omega
theorem wv_pos {b : List Int} (h : Bg b) : 0 ≤ (wv b).1 := by
  cases b with
  | nil => exact Int.le_refl 0
  | cons q r =>
    have : ∀ {b : List Int}, Pos1 b → 0 ≤ (wv b).1 ∧ 0 ≤ (wv b).2 := by
      intro b
      induction b with
      | nil => exact fun _ => ⟨Int.le_refl 0, by decide⟩
      | cons q r ih =>
        intro h
        have ih := ih fun x hx => h x (List.mem_cons_of_mem _ hx)
        have hq : 1 ≤ q := h q List.mem_cons_self
        refine ⟨?_, ih.1⟩
        show 0 ≤ q * (wv r).1 + (wv r).2
        have := Int.mul_nonneg (show 0 ≤ q by omega) ih.1
        omega
    have w := this (show Pos1 r from h.tl)
    have hq := h.hd q rfl
    have := Int.mul_nonneg hq w.1
    show 0 ≤ q * (wv r).1 + (wv r).2
    have w2 : 0 ≤ (wv r).2 := w.2
    omega
theorem inc_top {b : List Int} (h : Bg b) (hb : b ≠ []) : 0 < (val (inc b)).1 := by
  by_cases h1 : b.length = 1
  · match b, h, h1 with
    | [q], h, _ =>
      have := h.hd q rfl
      show 0 < (q + 1) * 1 + 0
      omega
  · -- several quotients: the top is above 0 already, or the last one makes it so
    obtain ⟨r, z, rfl⟩ : ∃ r z, b = r ++ [z] := ⟨b.dropLast, b.getLast hb, (List.dropLast_concat_getLast hb).symm⟩
    have hi := bg_inc h
    rw [inc_snoc] at hi ⊢
    rw [List.length_append, List.length_singleton] at h1
    refine hi.top (by simp) (fun e => ?_) (.inr ?_)
    · have := congrArg List.length e
      rw [List.length_append, List.length_singleton] at this
      exact h1 this
    · rw [List.getLast?_append]
      have : 1 ≤ z := by
        cases r with
        | nil => exact (h1 rfl).elim
        | cons a r => exact h.tl z (show z ∈ r ++ [z] from List.mem_append_right _ (List.mem_singleton.mpr rfl))
      show some (z + 1) ≠ some 1
      intro e
      have := Option.some.inj e
      omega
theorem met_top {b : List Int} (h : Bg b) (hb : b ≠ []) (hm : metB b = true) : 0 < (val b).1 := by
  unfold metB at hm
  rw [Bool.and_eq_true, Bool.not_eq_true', decide_eq_false_iff_not, Bool.or_eq_true, decide_eq_true_eq, decide_eq_true_eq] at hm
  refine h.top hb hm.1 ?_
  rcases hm.2 with e | e
  · exact .inl e
  · refine .inr fun z => ?_
    rw [z] at e
    have e : (1 : Int) < 1 := e
    omega
theorem ends_ok {b : List Int} (h : Bg b) : Okv (endsE b) := by
  by_cases hb : b = []
  · subst hb
    exact ⟨Int.one_pos, Int.le_refl 0, fun z => (by cases z), fun g e => (by cases e), fun _ => rfl⟩
  · have v := bg_val h hb
    have hi := bg_inc h
    have hin : inc b ≠ [] := by unfold inc; simp
    have vi := bg_val hi hin
    have ti := inc_top h hb
    rw [ends_ne hb]
    by_cases h2 : b.length % 2 = 1
    · rw [if_pos h2]
      exact ⟨v.2, v.1, fun z => met_top h hb z, fun g e => by cases e; exact ⟨vi.2, ti⟩, fun z => by cases z⟩
    · rw [if_neg h2]
      refine ⟨vi.2, vi.1, (fun z => by cases z), (fun g e => ?_), (fun z => by cases z)⟩
      cases e
      -- an even beginning: its high end is what it tells
      refine ⟨v.2, ?_⟩
      have hw := wv_pos h
      have e1 : dt b = 1 := dt_e h2
      unfold dt at e1
      by_cases h0 : (val b).1 = 0
      · rw [h0, Int.zero_mul] at e1
        have := Int.mul_nonneg hw (Int.le_of_lt v.2)
        omega
      · omega
theorem whole_ok {c : List Int} (h : IsCh c) (h0 : 0 < (val c).1) : Okv ⟨val c, true, some (val c), true⟩ := by
  have b : 1 ≤ (val c).2 := val_bot h.ne h.pos
  exact ⟨by show 0 < (val c).2; omega, Int.le_of_lt h0, fun _ => h0, fun g e => by cases e; exact ⟨by omega, h0⟩, fun z => by cases z⟩
/-- a chain of a number above 0 is met where it ends -/
theorem ch_met {c : List Int} (h : IsCh c) (h0 : 0 < (val c).1) : metB c = true := by
  unfold metB
  have n0 : c ≠ [0] := fun e => by rw [e] at h0; exact absurd h0 (by decide)
  rw [decide_eq_false n0]
  show (true && _) = true
  rw [Bool.true_and]
  by_cases h1 : c.length = 1
  · rw [decide_eq_true h1]; rfl
  · have hl : c.length > 1 := by
      have := List.length_pos_iff.mpr h.ne
      omega
    have h2 := h.last hl
    obtain ⟨z, hz⟩ : ∃ z, c.getLast? = some z := ⟨_, List.getLast?_eq_some_getLast h.ne⟩
    rw [hz] at h2 ⊢
    have hz1 : 1 ≤ z := by
      have hm := List.mem_of_getLast? hz
      cases c with
      | nil => exact (h.ne rfl).elim
      | cons q r =>
        cases r with
        | nil => exact absurd rfl h1
        | cons a r =>
          rw [List.getLast?_cons_cons] at hz
          exact h.pos z (List.mem_of_getLast? hz)
    have hz2 : z ≠ 1 := fun e => h2 (by rw [e])
    show (_ || decide (1 < z)) = true
    rw [decide_eq_true (show 1 < z by omega), Bool.or_true]
theorem ch_rest {b s : List Int} (hb : b ≠ []) (h : IsCh (b ++ s)) : Tl s := by
  cases b with
  | nil => exact (hb rfl).elim
  | cons q r =>
    refine ⟨fun x hx => h.pos x (show x ∈ r ++ s from List.mem_append_right _ hx), fun z => ?_⟩
    refine h.last ?_ ?_
    · cases s with
      | nil => cases z
      | cons a s =>
        rw [List.length_append, List.length_cons, List.length_cons]
        omega
    · rw [List.getLast?_append, z]
      rfl
/-- a whole number lies within its beginnings -/
theorem whole_sub {b s : List Int} (h : IsCh (b ++ s)) (h0 : 0 < (val (b ++ s)).1) : Sub ⟨val (b ++ s), true, some (val (b ++ s)), true⟩ (endsE b) := by
  by_cases hb : b = []
  · subst hb
    refine ⟨.inl ?_, fun g e => by cases e⟩
    show 0 * (val s).2 - (val s).1 * 1 < 0
    have h0 : 0 < (val s).1 := h0
    omega
  · have t := ch_rest hb h
    have v := t.val
    have hs : (val s).2 = 0 → metB b = true := fun z => by
      cases s with
      | nil =>
        rw [List.append_nil] at h h0
        exact ch_met h h0
      | cons a s =>
        have : 1 ≤ (val (a :: s)).2 := val_bot (by simp) fun x hx => t.pos x (List.mem_of_mem_tail hx)
        omega
    rw [ends_ne hb]
    by_cases h2 : b.length % 2 = 1
    · rw [if_pos h2]
      refine ⟨LeP.of ?_ fun z _ => hs ?_, fun g e => ?_⟩
      · show crs (val b) (val (b ++ s)) ≤ 0
        rw [crs_near, dt_o h2]
        omega
      · have z : crs (val b) (val (b ++ s)) = 0 := z
        rw [crs_near, dt_o h2] at z
        omega
      · cases e
        refine ⟨_, rfl, .inl ?_⟩
        rw [crs_swap, crs_far hb, dt_o h2]
        omega
    · rw [if_neg h2]
      refine ⟨.inl ?_, fun g e => ?_⟩
      · show crs (val (inc b)) (val (b ++ s)) < 0
        rw [crs_far hb, dt_e h2]
        omega
      · cases e
        refine ⟨_, rfl, LeP.of ?_ fun z _ => hs ?_⟩
        · rw [crs_swap, crs_near, dt_e h2]
          omega
        · rw [crs_swap, crs_near, dt_e h2] at z
          omega
theorem val_one (x : Int) : val [x] = (x, 1) := by
  show (x * 1 + 0, (1 : Int)) = (x, 1)
  rw [Int.mul_one, Int.add_zero]
theorem met_1 {b : List Int} (hb : b ≠ []) : metB (b ++ [1]) = false := by
  unfold metB
  rw [List.getLast?_append, decide_eq_false (show ¬ (b ++ [(1 : Int)]).length = 1 by rw [List.length_append, List.length_singleton]; have := List.length_pos_iff.mpr hb; omega)]
  show (!decide (b ++ [1] = [0]) && (false || decide ((1 : Int) < 1))) = false
  rw [decide_eq_false (show ¬ (1 : Int) < 1 by decide)]
  cases decide (b ++ [1] = [0]) <;> rfl
/-- one quotient more lies within -/
theorem snoc_sub {b : List Int} {x : Int} (h0 : 0 ≤ x) (h1 : b ≠ [] → 1 ≤ x) : Sub (endsE (b ++ [x])) (endsE b) := by
  have hc : b ++ [x] ≠ [] := by simp
  have hcl : (b ++ [x]).length = b.length + 1 := by rw [List.length_append, List.length_singleton]
  by_cases hb : b = []
  · subst hb
    refine ⟨?_, fun g e => by cases e⟩
    show LeP (crs (0, 1) (val [x])) (metB [x] = true → false = true)
    have e : crs (0, 1) (val [x]) = -x := by
      rw [val_one]
      unfold crs
      show 0 * 1 - x * 1 = -x
      omega
    rw [e]
    refine LeP.of (by omega) fun z y => ?_
    have : x = 0 := by omega
    subst this
    cases y
  · have hx := h1 hb
    have vx1 : (val [x]).2 - (val [x]).1 = 1 - x := by rw [val_one]
    have vx2 : (val [x + 1]).2 = 1 := rfl
    rw [ends_ne hc, ends_ne hb, inc_snoc]
    by_cases h2 : b.length % 2 = 1
    · rw [if_neg (show ¬ (b ++ [x]).length % 2 = 1 by omega), if_pos h2]
      refine ⟨.inl ?_, fun g e => ?_⟩
      · show crs (val b) (val (b ++ [x + 1])) < 0
        rw [crs_near, dt_o h2, vx2]
        decide
      · cases e
        refine ⟨_, rfl, ?_⟩
        have e3 : crs (val (b ++ [x])) (val (inc b)) = 1 - x := by
          rw [crs_swap, crs_far hb, dt_o h2, vx1]
          omega
        rw [e3]
        refine LeP.of (by omega) fun z y => ?_
        have : x = 1 := by omega
        subst this
        have y : metB (b ++ [1]) = true := y
        rw [met_1 hb] at y
        cases y
    · rw [if_pos (show (b ++ [x]).length % 2 = 1 by omega), if_neg h2]
      refine ⟨?_, fun g e => ?_⟩
      · have e3 : crs (val (inc b)) (val (b ++ [x])) = 1 - x := by
          rw [crs_far hb, dt_e h2, vx1]
          omega
        show LeP (crs (val (inc b)) (val (b ++ [x]))) _
        rw [e3]
        refine LeP.of (by omega) fun z y => ?_
        have : x = 1 := by omega
        subst this
        have y : metB (b ++ [1]) = true := y
        rw [met_1 hb] at y
        cases y
      · cases e
        refine ⟨_, rfl, .inl ?_⟩
        rw [crs_swap, crs_near, dt_e h2, vx2]
        decide
theorem bg_pre {b s : List Int} (h : Bg (b ++ s)) : Bg b := by
  cases b with
  | nil => exact ⟨fun q z => (nomatch z), fun x z => (nomatch z)⟩
  | cons q r => exact ⟨fun y z => h.hd y z, fun x hx => h.tl x (show x ∈ r ++ s from List.mem_append_left _ hx)⟩
/-- more quotients lie within -/
theorem app_sub : ∀ (t b : List Int), Bg (b ++ t) → Sub (endsE (b ++ t)) (endsE b)
  | [], b, _ => by rw [List.append_nil]; exact Sub.refl _
  | x :: t, b, h => by
    have e : b ++ x :: t = (b ++ [x]) ++ t := by rw [List.append_assoc]; rfl
    rw [e] at h ⊢
    have hbx := bg_pre h
    refine Sub.trans (ends_ok h) (ends_ok hbx) (ends_ok (bg_pre hbx)) (app_sub t (b ++ [x]) h) (snoc_sub ?_ fun hb => ?_)
    · cases b with
      | nil => exact hbx.hd x rfl
      | cons q r =>
        have := hbx.tl x (show x ∈ r ++ [x] from List.mem_append_right _ (List.mem_singleton.mpr rfl))
        omega
    · cases b with
      | nil => exact (hb rfl).elim
      | cons q r => exact hbx.tl x (show x ∈ r ++ [x] from List.mem_append_right _ (List.mem_singleton.mpr rfl))
end Ma
/-! what is sure of two numbers that come -/
namespace Ma
/-- enough turns for two ends -/
def turns (l : Int × Int) (h : Option (Int × Int)) : Nat := match h with
  | none => 0
  | some h => (l.2 + h.2).toNat
/-- what is sure of all that two stretches come to -/
def toldF (w : Nat) (e f : E4) : List Int := match loF w e.lo f.lo f.hi with
  | none => []
  | some l => sureF (turns l (hiF w e.hi f.lo f.hi)) l (ilF w e.il f.il f.ih) (hiF w e.hi f.lo f.hi) (ihF w e.ih f.il f.ih)
section
variable {w : Nat} {e f : E4}
theorem lo_bot (oe : Okv e) (of : Okv f) : ∀ l, loF w e.lo f.lo f.hi = some l → 0 < l.2 := by
  intro l hl
  match w with
  | 0 => cases hl; exact Int.mul_pos oe.l2 of.l2
  | 1 =>
    obtain ⟨k, hk, rfl⟩ := Option.map_eq_some_iff.mp (show f.hi.map (doneF 1 e.lo) = some l from hl)
    exact Int.mul_pos oe.l2 (of.h2 k hk).1
  | 2 => cases hl; exact Int.mul_pos oe.l2 of.l2
  | n + 3 =>
    cases hk : f.hi with
    | none => rw [hk] at hl; cases hl; exact Int.one_pos
    | some k => rw [hk] at hl; cases hl; exact Int.mul_pos oe.l2 (of.h2 k hk).2
theorem hi_bot (oe : Okv e) (of : Okv f) : ∀ l, hiF w e.hi f.lo f.hi = some l → 0 < l.2 := by
  intro l hl
  cases hh : e.hi with
  | none => rw [hh] at hl; match w with
    | 0 => cases hl
    | 1 => cases hl
    | 2 => cases hl
    | n + 3 => cases hl
  | some g =>
    rw [hh] at hl
    have g2 := oe.h2 g hh
    match w with
    | 0 =>
      obtain ⟨k, hk, rfl⟩ := Option.map_eq_some_iff.mp (show f.hi.map (doneF 0 g) = some l from hl)
      exact Int.mul_pos g2.1 (of.h2 k hk).1
    | 1 => cases hl; exact Int.mul_pos g2.1 of.l2
    | 2 =>
      obtain ⟨k, hk, rfl⟩ := Option.map_eq_some_iff.mp (show f.hi.map (doneF 2 g) = some l from hl)
      exact Int.mul_pos g2.1 (of.h2 k hk).1
    | n + 3 =>
      have hl : (if f.lo.1 = 0 then none else some (doneF 3 g f.lo)) = some l := hl
      split at hl
      · cases hl
      · cases hl
        have := of.l1
        exact Int.mul_pos g2.1 (by omega)
theorem done_bot {x y : Int × Int} (hx : 0 < x.2) (hy : 0 < y.1 ∧ 0 < y.2) : 0 < (doneF w x y).2 := by
  match w with
  | 0 => exact Int.mul_pos hx hy.2
  | 1 => exact Int.mul_pos hx hy.2
  | 2 => exact Int.mul_pos hx hy.2
  | n + 3 => exact Int.mul_pos hx hy.1
/-- what is told stands at the head of the chain of what any two of them come to -/
theorem told_pre {x y : Int × Int} (oe : Okv e) (of : Okv f) (hx : 0 < x.1 ∧ 0 < x.2) (hy : 0 < y.1 ∧ 0 < y.2) (I : In4 e x) (J : In4 f y) : toldF w e f <+: eucP (doneF w x y) := by
  unfold toldF
  cases hl : loF w e.lo f.lo f.hi with
  | none => exact List.nil_prefix
  | some l =>
    exact sure_pre _ l _ _ _ _ (lo_bot oe of l hl) (hi_bot oe of) (done_bot hx.2 hy)
      ⟨op_lo hx hy ⟨oe.l1, oe.l2⟩ ⟨of.l1, of.l2⟩ (fun h z => (of.h2 h z).1) I J l hl, op_hi hx hy ⟨of.l1, of.l2⟩ (fun h z => (oe.h2 h z).1) (fun h z => (of.h2 h z).1) I J⟩
/-- not one number alone -/
def Wide (e : E4) : Prop := ∀ h, e.hi = some h → crs e.lo h < 0
def Thin (e : E4) : Prop := ∀ h, e.hi = some h → crs e.lo h ≤ 0
theorem Wide.thin (h : Wide e) : Thin e := fun g z => Int.le_of_lt (h g z)
theorem combW {c d u v : Int} (hu : 0 ≤ u) (hv : 0 ≤ v) (hc : c ≤ 0) (hd : d ≤ 0) (h : (c < 0 ∧ 0 < u) ∨ (d < 0 ∧ 0 < v)) : c * u + d * v < 0 := by
  have p1 : 0 ≤ (-c) * u := Int.mul_nonneg (by omega) hu
  have p2 : 0 ≤ (-d) * v := Int.mul_nonneg (by omega) hv
  rw [Int.neg_mul] at p1 p2
  rcases h with ⟨a, b⟩ | ⟨a, b⟩
  · have : 0 < (-c) * u := Int.mul_pos (by omega) b
    rw [Int.neg_mul] at this
    omega
  · have : 0 < (-d) * v := Int.mul_pos (by omega) b
    rw [Int.neg_mul] at this
    omega
theorem op_wide (oe : Okv e) (of : Okv f) (te : Thin e) (tf : Thin f) (h : Wide e ∨ Wide f) : ∀ l g, loF w e.lo f.lo f.hi = some l → hiF w e.hi f.lo f.hi = some g → crs l g < 0 := by
  intro l g hl hg
  cases hh : e.hi with
  | none => rw [hh] at hg; match w with
    | 0 => cases hg
    | 1 => cases hg
    | 2 => cases hg
    | n + 3 => cases hg
  | some i =>
    rw [hh] at hg
    have i2 := oe.h2 i hh
    have ti := te i hh
    have l2 := oe.l2
    have l2' := of.l2
    have l1 := oe.l1
    have l1' := of.l1
    match w with
    | 0 =>
      cases hl
      obtain ⟨k, hk, rfl⟩ := Option.map_eq_some_iff.mp (show f.hi.map (doneF 0 i) = some g from hg)
      have k2 := of.h2 k hk
      have e1 : crs (doneF 0 e.lo f.lo) (doneF 0 i k) = crs e.lo i * (f.lo.2 * k.2) + crs f.lo k * (e.lo.2 * i.2) := by
        unfold crs
        show (e.lo.1 * f.lo.2 + f.lo.1 * e.lo.2) * (i.2 * k.2) - (i.1 * k.2 + k.1 * i.2) * (e.lo.2 * f.lo.2) = _
        grind
      rw [e1]
      have u := Int.mul_pos l2' k2.1
      have v := Int.mul_pos l2 i2.1
      exact combW (Int.le_of_lt u) (Int.le_of_lt v) ti (tf k hk) (h.imp (fun z => ⟨z i hh, u⟩) fun z => ⟨z k hk, v⟩)
    | 1 =>
      obtain ⟨k, hk, rfl⟩ := Option.map_eq_some_iff.mp (show f.hi.map (doneF 1 e.lo) = some l from hl)
      cases hg
      have k2 := of.h2 k hk
      have e1 : crs (doneF 1 e.lo k) (doneF 1 i f.lo) = crs e.lo i * (k.2 * f.lo.2) + crs f.lo k * (e.lo.2 * i.2) := by
        unfold crs
        show (e.lo.1 * k.2 - k.1 * e.lo.2) * (i.2 * f.lo.2) - (i.1 * f.lo.2 - f.lo.1 * i.2) * (e.lo.2 * k.2) = _
        grind
      rw [e1]
      have u := Int.mul_pos k2.1 l2'
      have v := Int.mul_pos l2 i2.1
      exact combW (Int.le_of_lt u) (Int.le_of_lt v) ti (tf k hk) (h.imp (fun z => ⟨z i hh, u⟩) fun z => ⟨z k hk, v⟩)
    | 2 =>
      cases hl
      obtain ⟨k, hk, rfl⟩ := Option.map_eq_some_iff.mp (show f.hi.map (doneF 2 i) = some g from hg)
      have k2 := of.h2 k hk
      have e1 : crs (doneF 2 e.lo f.lo) (doneF 2 i k) = crs e.lo i * (f.lo.1 * k.2) + crs f.lo k * (i.1 * e.lo.2) := by
        unfold crs
        show (e.lo.1 * f.lo.1) * (i.2 * k.2) - (i.1 * k.1) * (e.lo.2 * f.lo.2) = _
        grind
      rw [e1]
      have v := Int.mul_pos i2.2 l2
      refine combW (Int.mul_nonneg l1' (Int.le_of_lt k2.1)) (Int.le_of_lt v) ti (tf k hk) ?_
      by_cases h0 : f.lo.1 = 0
      · refine .inr ⟨?_, v⟩
        unfold crs
        rw [h0, Int.zero_mul]
        have := Int.mul_pos k2.2 l2'
        omega
      · exact h.imp (fun z => ⟨z i hh, Int.mul_pos (by omega) k2.1⟩) fun z => ⟨z k hk, v⟩
    | n + 3 =>
      have hg : (if f.lo.1 = 0 then none else some (doneF 3 i f.lo)) = some g := hg
      split at hg
      · cases hg
      · rename_i h0
        cases hg
        have f1 : 0 < f.lo.1 := by omega
        cases hk : f.hi with
        | none =>
          rw [hk] at hl
          cases hl
          unfold crs
          show 0 * (i.2 * f.lo.1) - i.1 * f.lo.2 * 1 < 0
          have := Int.mul_pos i2.2 l2'
          omega
        | some k =>
          rw [hk] at hl
          cases hl
          have k2 := of.h2 k hk
          have e1 : crs (doneF 3 e.lo k) (doneF 3 i f.lo) = crs e.lo i * (k.2 * f.lo.1) + crs f.lo k * (i.1 * e.lo.2) := by
            unfold crs
            show (e.lo.1 * k.2) * (i.2 * f.lo.1) - (i.1 * f.lo.2) * (e.lo.2 * k.1) = _
            grind
          rw [e1]
          have u := Int.mul_pos k2.1 f1
          have v := Int.mul_pos i2.2 l2
          exact combW (Int.le_of_lt u) (Int.le_of_lt v) ti (tf k hk) (h.imp (fun z => ⟨z i hh, u⟩) fun z => ⟨z k hk, v⟩)
end
/-- of lesser stretches no less is told -/
theorem told_mono {w : Nat} {e f e' f' : E4} (oe : Okv e) (of : Okv f) (oe' : Okv e') (of' : Okv f') (h : Sub e f) (h' : Sub e' f') (te : Thin e) (te' : Thin e') (hw : Wide e ∨ Wide e') : toldF w f f' <+: toldF w e e' := by
  unfold toldF
  cases hl : loF w f.lo f'.lo f'.hi with
  | none => exact List.nil_prefix
  | some l =>
    obtain ⟨m, hm, q⟩ := op_sub_lo oe of oe' of' h h' l hl
    rw [hm]
    have hb := op_sub_hi (w := w) oe of oe' of' h h'
    refine sure_mono (lo_bot of of' l hl) (hi_bot of of') (lo_bot oe oe' m hm) (fun g hg => ⟨hi_bot oe oe' g hg, op_wide oe oe' te te' hw m g hm hg, ?_⟩) fun x hx hI => ⟨?_, fun g hg => ?_⟩
    · show m.2 + g.2 ≤ ((turns m (hiF w e.hi e'.lo e'.hi) : Nat) : Int)
      rw [hg]
      have a := lo_bot oe oe' m hm
      have b := hi_bot oe oe' g hg
      show m.2 + g.2 ≤ (((m.2 + g.2).toNat : Nat) : Int)
      omega
    · have i : LeP (crs m x) (ilF w e.il e'.il e'.ih = true) := hI.1
      exact (LeP.trans hx (lo_bot oe oe' m hm) (lo_bot of of' l hl) q i).imp fun p => p.1 p.2
    · obtain ⟨k, hk, r⟩ := hb g hg
      have i : LeP (crs x k) (ihF w e.ih e'.il e'.ih = true) := hI.2 k hk
      exact (LeP.trans (hi_bot of of' g hg) (hi_bot oe oe' k hk) hx i r).imp fun p => p.2 p.1
theorem ends_wide (b : List Int) : Wide (endsE b) := by
  intro h e
  by_cases hb : b = []
  · subst hb
    cases e
  · rw [ends_ne hb] at e ⊢
    by_cases h2 : b.length % 2 = 1
    · rw [if_pos h2] at e ⊢
      cases e
      show crs (val b) (val (inc b)) < 0
      rw [crs_ends hb, dt_o h2]
      decide
    · rw [if_neg h2] at e ⊢
      cases e
      show crs (val (inc b)) (val b) < 0
      rw [crs_swap, crs_ends hb, dt_e h2]
      decide
theorem whole_thin (c : List Int) : Thin ⟨val c, true, some (val c), true⟩ := fun h e => by
  cases e
  exact Int.le_of_eq (crs_self _)
theorem whole_in (c : List Int) : In4 ⟨val c, true, some (val c), true⟩ (val c) := ⟨.inr ⟨crs_self _, rfl⟩, fun h e => by cases e; exact .inr ⟨crs_self _, rfl⟩⟩
/-- the number itself lies within its beginnings -/
theorem val_in {b s : List Int} (h : IsCh (b ++ s)) (h0 : 0 < (val (b ++ s)).1) (hb : Bg b) : In4 (endsE b) (val (b ++ s)) :=
  (whole_sub h h0).inI (whole_ok h h0) (ends_ok hb) (by have : 1 ≤ (val (b ++ s)).2 := val_bot h.ne h.pos; omega) (whole_in _)
end Ma
/-! one chain for each number; numbers go together -/
namespace Ma
theorem cmp_zero : ∀ l m : List Int, cmpF l m = 0 → l = m
  | [], [], _ => rfl
  | [], _ :: _, h => by cases h
  | _ :: _, [], h => by cases h
  | a :: l, b :: m, h => by
    by_cases e : a = b
    · have h' : cmpF (a :: l) (b :: m) = -cmpF l m := if_pos e
      rw [h'] at h
      rw [e, cmp_zero l m (by omega)]
    · have h' : cmpF (a :: l) (b :: m) = if b < a then 1 else -1 := if_neg e
      rw [h'] at h
      split at h <;> cases h
/-- one chain for each number -/
theorem ch_unique {l m : List Int} (hl : IsCh l) (hm : IsCh m) (h : crs (val l) (val m) = 0) : l = m := by
  refine cmp_zero l m ?_
  rw [cmp_chains hl hm]
  have e : cross l m = crs (val l) (val m) := rfl
  rw [e, h]
  rfl
theorem eucP_ch {p : Int × Int} (h : 0 < p.2) : IsCh (eucP p) := euc_isCh p.1 (by omega)
theorem eucP_val {p : Int × Int} (h : 0 < p.2) : crs (val (eucP p)) p = 0 ∧ 0 < (val (eucP p)).2 := by
  obtain ⟨g, g1, g2, g3⟩ := val_euc p.2.toNat p.1 p.2.toNat (Nat.le_refl _) (fun z => by omega)
  have e : (p.2.toNat : Int) = p.2 := by omega
  rw [e] at g3
  have c := eucP_ch h
  have b : 1 ≤ (val (eucP p)).2 := val_bot c.ne c.pos
  refine ⟨?_, by omega⟩
  unfold crs
  have g2 : (val (eucP p)).1 * g = p.1 := g2
  have g3 : (val (eucP p)).2 * g = p.2 := g3
  rw [← g2, ← g3]
  generalize (val (eucP p)).1 = T
  generalize (val (eucP p)).2 = B
  grind
theorem crs_sym {a b : Int × Int} (h : crs a b = 0) : crs b a = 0 := by rw [crs_swap, h]; rfl
theorem crs_zero_tr {a b c : Int × Int} (hb : 0 < b.2) (h : crs c b = 0) (h' : crs b a = 0) : crs c a = 0 := by
  have e := crs_tr a b c
  rw [h, h', Int.zero_mul, Int.zero_mul] at e
  rcases Int.mul_eq_zero.mp (show crs c a * b.2 = 0 by omega) with z | z <;> omega
/-- the same number, the same chain -/
theorem eucP_eq {p q : Int × Int} (hp : 0 < p.2) (hq : 0 < q.2) (h : crs p q = 0) : eucP p = eucP q := by
  obtain ⟨a1, a2⟩ := eucP_val hp
  obtain ⟨b1, b2⟩ := eucP_val hq
  exact ch_unique (eucP_ch hp) (eucP_ch hq) (crs_zero_tr hp a1 (crs_zero_tr hq h (crs_sym b1)))
theorem eucP_own {c : List Int} (h : IsCh c) : eucP (val c) = c := by
  have b : 1 ≤ (val c).2 := val_bot h.ne h.pos
  exact ch_unique (eucP_ch (by omega)) h (eucP_val (by omega)).1
/-- what equal numbers come to is equal -/
theorem done_cong {w : Nat} {a a' b b' : Int × Int} (h : crs a a' = 0) (h' : crs b b' = 0) : crs (doneF w a b) (doneF w a' b') = 0 := by
  match w with
  | 0 =>
    have e : crs (doneF 0 a b) (doneF 0 a' b') = crs a a' * (b.2 * b'.2) + crs b b' * (a.2 * a'.2) := by
      unfold crs
      show (a.1 * b.2 + b.1 * a.2) * (a'.2 * b'.2) - (a'.1 * b'.2 + b'.1 * a'.2) * (a.2 * b.2) = _
      grind
    rw [e, h, h']
    omega
  | 1 =>
    have e : crs (doneF 1 a b) (doneF 1 a' b') = crs a a' * (b.2 * b'.2) - crs b b' * (a.2 * a'.2) := by
      unfold crs
      show (a.1 * b.2 - b.1 * a.2) * (a'.2 * b'.2) - (a'.1 * b'.2 - b'.1 * a'.2) * (a.2 * b.2) = _
      grind
    rw [e, h, h']
    omega
  | 2 =>
    have e : crs (doneF 2 a b) (doneF 2 a' b') = crs a a' * (b.1 * b'.2) + crs b b' * (a'.1 * a.2) := by
      unfold crs
      show (a.1 * b.1) * (a'.2 * b'.2) - (a'.1 * b'.1) * (a.2 * b.2) = _
      grind
    rw [e, h, h']
    omega
  | n + 3 =>
    have e : crs (doneF (n + 3) a b) (doneF (n + 3) a' b') = crs a a' * (b.2 * b'.1) - crs b b' * (a'.1 * a.2) := by
      unfold crs
      show (a.1 * b.2) * (a'.2 * b'.1) - (a'.1 * b'.2) * (a.2 * b.1) = _
      grind
    rw [e, h, h']
    omega
/-- the chain of what two chains come to -/
def recF (w : Nat) (a b : List Int) : List Int := eucP (doneF w (val a) (val b))
/-- chains of numbers above 0 -/
structure Up (c : List Int) : Prop where
  ch : IsCh c
  top : 0 < (val c).1
theorem Up.bot {c : List Int} (h : Up c) : 0 < (val c).2 := by
  have b : 1 ≤ (val c).2 := val_bot h.ch.ne h.ch.pos
  omega
theorem rec_bot {w : Nat} {a b : List Int} (ha : 0 < (val a).2) (hb : Up b) : 0 < (doneF w (val a) (val b)).2 := done_bot ha ⟨hb.top, hb.bot⟩
theorem rec_ch {w : Nat} {a b : List Int} (ha : 0 < (val a).2) (hb : Up b) : IsCh (recF w a b) := eucP_ch (rec_bot ha hb)
theorem rec_val {w : Nat} {a b : List Int} (ha : 0 < (val a).2) (hb : Up b) : crs (val (recF w a b)) (doneF w (val a) (val b)) = 0 := (eucP_val (rec_bot ha hb)).1
theorem pos_of_crs {p q : Int × Int} (hp : 0 < p.2) (hq : 0 < q.2) (h : crs p q = 0) (h0 : 0 < q.1) : 0 < p.1 := by
  unfold crs at h
  have := Int.mul_pos h0 hp
  refine Int.lt_of_mul_lt_mul_right (a := q.2) ?_ (Int.le_of_lt hq)
  omega
theorem rec_up {w : Nat} {a b : List Int} (ha : Up a) (hb : Up b) (hw : w ≠ 1) : Up (recF w a b) := by
  refine ⟨rec_ch ha.bot hb, pos_of_crs (eucP_val (rec_bot ha.bot hb)).2 (rec_bot ha.bot hb) (rec_val ha.bot hb) ?_⟩
  have a1 := ha.top
  have a2 := ha.bot
  have b1 := hb.top
  have b2 := hb.bot
  match w with
  | 0 =>
    have := Int.mul_pos a1 b2
    have := Int.mul_pos b1 a2
    show 0 < (val a).1 * (val b).2 + (val b).1 * (val a).2
    omega
  | 1 => exact (hw rfl).elim
  | 2 => exact Int.mul_pos a1 b1
  | n + 3 => exact Int.mul_pos a1 b2
/-- two ways to one number -/
theorem rec_eq {w : Nat} {a b : List Int} {q : Int × Int} (ha : 0 < (val a).2) (hb : Up b) (hq : 0 < q.2) (h : crs (doneF w (val a) (val b)) q = 0) : recF w a b = eucP q := eucP_eq (rec_bot ha hb) hq h
end Ma
/-! numbers go together -/
namespace Ma
theorem rec_as {w : Nat} {x y : List Int} {p r : Int × Int} (hx : 0 < (val x).2) (hy : Up y) (hp : 0 < p.2) (hr : 0 < r.1 ∧ 0 < r.2) (h : crs (val x) p = 0) (h' : crs (val y) r = 0) : recF w x y = eucP (doneF w p r) :=
  eucP_eq (rec_bot hx hy) (done_bot hp hr) (done_cong h h')
section
variable {a b c : List Int}
theorem Up.v (h : Up a) : 0 < (val a).1 ∧ 0 < (val a).2 := ⟨h.top, h.bot⟩
theorem done_top {w : Nat} {p q : Int × Int} (hw : w ≠ 1) (hp : 0 < p.1 ∧ 0 < p.2) (hq : 0 < q.1 ∧ 0 < q.2) : 0 < (doneF w p q).1 := by
  match w with
  | 0 =>
    have := Int.mul_pos hp.1 hq.2
    have := Int.mul_pos hq.1 hp.2
    show 0 < p.1 * q.2 + q.1 * p.2
    omega
  | 1 => exact (hw rfl).elim
  | 2 => exact Int.mul_pos hp.1 hq.1
  | n + 3 => exact Int.mul_pos hp.1 hq.2
theorem add_comm8 (ha : Up a) (hb : Up b) : recF 0 a b = recF 0 b a := rec_eq ha.bot hb (rec_bot hb.bot ha) (by
  unfold crs
  show ((val a).1 * (val b).2 + (val b).1 * (val a).2) * ((val b).2 * (val a).2) - ((val b).1 * (val a).2 + (val a).1 * (val b).2) * ((val a).2 * (val b).2) = 0
  grind)
theorem mul_comm8 (ha : Up a) (hb : Up b) : recF 2 a b = recF 2 b a := rec_eq ha.bot hb (rec_bot hb.bot ha) (by
  unfold crs
  show ((val a).1 * (val b).1) * ((val b).2 * (val a).2) - ((val b).1 * (val a).1) * ((val a).2 * (val b).2) = 0
  grind)
theorem back {w u : Nat} (hw : w ≠ 1) (ha : Up a) (hb : Up b) (h : crs (doneF u (doneF w (val a) (val b)) (val b)) (val a) = 0) : recF u (recF w a b) b = a := by
  have r := rec_up ha hb hw
  rw [rec_as r.bot hb (rec_bot ha.bot hb) hb.v (rec_val ha.bot hb) (crs_self _), eucP_eq (done_bot (rec_bot ha.bot hb) hb.v) ha.bot h, eucP_own ha.ch]
theorem sub_add8 (ha : Up a) (hb : Up b) : recF 1 (recF 0 a b) b = a := back (by decide) ha hb (by
  unfold crs
  show (((val a).1 * (val b).2 + (val b).1 * (val a).2) * (val b).2 - (val b).1 * ((val a).2 * (val b).2)) * (val a).2 - (val a).1 * (((val a).2 * (val b).2) * (val b).2) = 0
  grind)
theorem div_mul8 (ha : Up a) (hb : Up b) : recF 3 (recF 2 a b) b = a := back (by decide) ha hb (by
  unfold crs
  show (((val a).1 * (val b).1) * (val b).2) * (val a).2 - (val a).1 * (((val a).2 * (val b).2) * (val b).1) = 0
  grind)
/-- (a w b) u c and a v (b t c) -/
theorem ways {w u v t : Nat} (hw : w ≠ 1) (ht : t ≠ 1) (ha : Up a) (hb : Up b) (hc : Up c) (h : crs (doneF u (doneF w (val a) (val b)) (val c)) (doneF v (val a) (doneF t (val b) (val c))) = 0) : recF u (recF w a b) c = recF v a (recF t b c) := by
  have r := rec_up ha hb hw
  have s := rec_up hb hc ht
  have sv : 0 < (doneF t (val b) (val c)).1 ∧ 0 < (doneF t (val b) (val c)).2 := ⟨done_top ht hb.v hc.v, rec_bot hb.bot hc⟩
  rw [rec_as r.bot hc (rec_bot ha.bot hb) hc.v (rec_val ha.bot hb) (crs_self _), rec_as ha.bot s ha.bot sv (crs_self _) (rec_val hb.bot hc)]
  exact eucP_eq (done_bot (rec_bot ha.bot hb) hc.v) (done_bot ha.bot sv) h
theorem add_assoc8 (ha : Up a) (hb : Up b) (hc : Up c) : recF 0 (recF 0 a b) c = recF 0 a (recF 0 b c) := ways (by decide) (by decide) ha hb hc (by
  unfold crs
  show (((val a).1 * (val b).2 + (val b).1 * (val a).2) * (val c).2 + (val c).1 * ((val a).2 * (val b).2)) * ((val a).2 * ((val b).2 * (val c).2)) - ((val a).1 * ((val b).2 * (val c).2) + ((val b).1 * (val c).2 + (val c).1 * (val b).2) * (val a).2) * (((val a).2 * (val b).2) * (val c).2) = 0
  grind)
theorem mul_assoc8 (ha : Up a) (hb : Up b) (hc : Up c) : recF 2 (recF 2 a b) c = recF 2 a (recF 2 b c) := ways (by decide) (by decide) ha hb hc (by
  unfold crs
  show ((val a).1 * (val b).1 * (val c).1) * ((val a).2 * ((val b).2 * (val c).2)) - ((val a).1 * ((val b).1 * (val c).1)) * ((val a).2 * (val b).2 * (val c).2) = 0
  grind)
theorem dist8 (ha : Up a) (hb : Up b) (hc : Up c) : recF 2 (recF 0 a b) c = recF 0 (recF 2 a c) (recF 2 b c) := by
  have r := rec_up ha hb (w := 0) (by decide)
  have s := rec_up ha hc (w := 2) (by decide)
  have t := rec_up hb hc (w := 2) (by decide)
  have tv : 0 < (doneF 2 (val b) (val c)).1 ∧ 0 < (doneF 2 (val b) (val c)).2 := ⟨done_top (by decide) hb.v hc.v, rec_bot hb.bot hc⟩
  rw [rec_as r.bot hc (rec_bot ha.bot hb) hc.v (rec_val ha.bot hb) (crs_self _), rec_as s.bot t (rec_bot ha.bot hc) tv (rec_val ha.bot hc) (rec_val hb.bot hc)]
  refine eucP_eq (done_bot (rec_bot ha.bot hb) hc.v) (done_bot (rec_bot ha.bot hc) tv) ?_
  unfold crs
  show (((val a).1 * (val b).2 + (val b).1 * (val a).2) * (val c).1) * (((val a).2 * (val c).2) * ((val b).2 * (val c).2)) - (((val a).1 * (val c).1) * ((val b).2 * (val c).2) + ((val b).1 * (val c).1) * ((val a).2 * (val c).2)) * (((val a).2 * (val b).2) * (val c).2) = 0
  grind
theorem undist8 (ha : Up a) (hb : Up b) (hc : Up c) : recF 3 (recF 0 (recF 2 a c) (recF 2 b c)) c = recF 0 a b := by
  rw [← dist8 ha hb hc]
  exact div_mul8 (rec_up ha hb (by decide)) hc
theorem one8 (hc : Up c) : recF 3 c c = [1] := by
  have h1 : IsCh [1] := ⟨by simp, fun x hx => (nomatch hx), fun h => absurd h (by show ¬ 1 > 1; decide)⟩
  rw [← eucP_own h1]
  refine rec_eq hc.bot hc (by decide) ?_
  unfold crs
  show ((val c).1 * (val c).2) * 1 - 1 * ((val c).2 * (val c).1) = 0
  grind
theorem nil8 (hc : Up c) : recF 1 c c = [0] := by
  have h1 : IsCh [0] := ⟨by simp, fun x hx => (nomatch hx), fun h => absurd h (by show ¬ 1 > 1; decide)⟩
  rw [← eucP_own h1]
  refine rec_eq hc.bot hc (by decide) ?_
  unfold crs
  show ((val c).1 * (val c).2 - (val c).1 * (val c).2) * 1 - 0 * ((val c).2 * (val c).2) = 0
  omega
theorem sgn_mul {x g : Int} (hg : 0 < g) : sgn (x * g) = sgn x := by
  unfold sgn
  by_cases h1 : 0 < x
  · have := Int.mul_pos h1 hg
    rw [if_pos h1, if_pos this]
  · by_cases h2 : x < 0
    · have : 0 < (-x) * g := Int.mul_pos (by omega) hg
      rw [Int.neg_mul] at this
      rw [if_neg h1, if_neg (by omega), if_pos h2, if_pos (by omega)]
    · have : x = 0 := by omega
      subst this
      rw [Int.zero_mul]
/-- the difference is above 0 just as the one is above the other -/
theorem less8 (ha : Up a) (hb : Up b) : cmpF (recF 1 a b) [0] = cmpF a b := by
  have h1 : IsCh [0] := ⟨by simp, fun x hx => (nomatch hx), fun h => absurd h (by show ¬ 1 > 1; decide)⟩
  have r := rec_ch (w := 1) ha.bot hb
  rw [cmp_chains r h1, cmp_chains ha.ch hb.ch]
  have v := rec_val (w := 1) ha.bot hb
  have rb := (eucP_val (rec_bot (w := 1) ha.bot hb)).2
  have rb : 0 < (val (recF 1 a b)).2 := rb
  have db : 0 < (val a).2 * (val b).2 := Int.mul_pos ha.bot hb.bot
  have e1 : cross (recF 1 a b) [0] = (val (recF 1 a b)).1 := by
    unfold cross
    show (val (recF 1 a b)).1 * 1 - 0 * _ = _
    omega
  have e2 : (val (recF 1 a b)).1 * ((val a).2 * (val b).2) = cross a b * (val (recF 1 a b)).2 := by
    unfold crs at v
    have v : (val (recF 1 a b)).1 * ((val a).2 * (val b).2) - ((val a).1 * (val b).2 - (val b).1 * (val a).2) * (val (recF 1 a b)).2 = 0 := v
    unfold cross
    omega
  rw [e1, ← sgn_mul db, e2, sgn_mul rb]
theorem more8 (ha : Up a) (hb : Up b) : cmpF (recF 0 a b) a = 1 := by
  have r := rec_up ha hb (w := 0) (by decide)
  rw [cmp_chains r.ch ha.ch]
  have v := rec_val (w := 0) ha.bot hb
  have db : 0 < (val a).2 * (val b).2 := Int.mul_pos ha.bot hb.bot
  have e2 : cross (recF 0 a b) a * ((val a).2 * (val b).2) = ((val b).1 * ((val a).2 * (val a).2)) * (val (recF 0 a b)).2 := by
    unfold crs at v
    have v : (val (recF 0 a b)).1 * ((val a).2 * (val b).2) - ((val a).1 * (val b).2 + (val b).1 * (val a).2) * (val (recF 0 a b)).2 = 0 := v
    unfold cross
    generalize (val (recF 0 a b)).1 = T at *
    generalize (val (recF 0 a b)).2 = B at *
    grind
  have p : 0 < ((val b).1 * ((val a).2 * (val a).2)) * (val (recF 0 a b)).2 := Int.mul_pos (Int.mul_pos hb.top (Int.mul_pos ha.bot ha.bot)) r.bot
  rw [← sgn_mul db, e2]
  unfold sgn
  rw [if_pos p]
end
end Ma
/-! where two numbers near the ends of a stretch part -/
namespace Ma
/-- the chain of a number, of none above all: no quotient -/
def eucO : Option (Int × Int) → List Int
  | none => []
  | some g => eucP g
theorem eucP_0 {x : Int × Int} {q : Int} (hx : 0 < x.2) (h1 : q * x.2 ≤ x.1) (h2 : x.1 < (q + 1) * x.2) : (eucP x)[0]? = some q := by
  rw [eucP_cons hx h1 h2]
  rfl
theorem eucP_0' {x : Int × Int} (hx : 0 < x.2) : ∃ q, (eucP x)[0]? = some q ∧ q * x.2 ≤ x.1 ∧ x.1 < (q + 1) * x.2 := by
  obtain ⟨f1, f2⟩ := floor_bits hx
  exact ⟨x.1 / x.2, eucP_0 hx f1 f2, f1, f2⟩
/-- x on the low side of t, y on the high side; b: x must be below, else y must be above -/
def Sides (b : Bool) (x t : Int × Int) (y : Option (Int × Int)) : Prop :=
  if b = true then crs x t < 0 ∧ ∀ g, y = some g → crs t g ≤ 0 else crs x t ≤ 0 ∧ ∀ g, y = some g → crs t g < 0
/-- t lies between the ends, b: above the low one, else below the high one -/
def Mid (b : Bool) (lo : Int × Int) (il : Bool) (hi : Option (Int × Int)) (ih : Bool) (t : Int × Int) : Prop :=
  if b = true then crs lo t < 0 ∧ ∀ h, hi = some h → crs t h < 0 ∨ (crs t h = 0 ∧ ih = true) else (crs lo t < 0 ∨ (crs lo t = 0 ∧ il = true)) ∧ ∀ h, hi = some h → crs t h < 0
def evn (n : Nat) : Bool := decide (n % 2 = 0)
theorem evn_succ (n : Nat) : evn (n + 1) = !evn n := by
  unfold evn
  by_cases h : n % 2 = 0
  · rw [decide_eq_true h, decide_eq_false (by omega)]
    rfl
  · rw [decide_eq_false h, decide_eq_true (by omega)]
    rfl
theorem Mid.le {b : Bool} {lo t : Int × Int} {il ih : Bool} {hi : Option (Int × Int)} (h : Mid b lo il hi ih t) : crs lo t ≤ 0 ∧ ∀ g, hi = some g → crs t g ≤ 0 := by
  unfold Mid at h
  split at h
  · exact ⟨Int.le_of_lt h.1, fun g e => crs_le (h.2 g e)⟩
  · exact ⟨crs_le h.1, fun g e => Int.le_of_lt (h.2 g e)⟩
theorem crs_turn (q : Int) (a b : Int × Int) : crs (a.2, a.1 - q * a.2) (b.2, b.1 - q * b.2) = crs b a := by
  unfold crs
  show a.2 * (b.1 - q * b.2) - b.2 * (a.1 - q * a.2) = b.1 * a.2 - a.1 * b.2
  grind
/-- the place behind what is sure: a number t between the ends, so that two numbers on both its sides part there -/
theorem sure_part : ∀ (n : Nat) (lo : Int × Int) (il : Bool) (hi : Option (Int × Int)) (ih : Bool), 0 < lo.2 → (∀ h, hi = some h → 0 < h.2 ∧ crs lo h < 0 ∧ lo.2 + h.2 ≤ n) →
    ∃ t : Int × Int, 0 < t.2 ∧ Mid (evn (sureF n lo il hi ih).length) lo il hi ih t ∧
      (∃ e : Int × Int, (e = lo ∨ hi = some e) ∧ t.2 ≤ 2 * e.2 ∧ (1 ≤ lo.1 → t.1 ≤ 2 * e.1) ∧ t.1.natAbs ≤ 4 * (e.1.natAbs + e.2.natAbs)) ∧
      ∀ (x : Int × Int) (y : Option (Int × Int)), 0 < x.2 → InI lo il hi ih x → (∀ g, y = some g → 0 < g.2 ∧ InI lo il hi ih g) → (y = none → hi = none) →
        Sides (evn (sureF n lo il hi ih).length) x t y → (eucP x)[(sureF n lo il hi ih).length]? ≠ (eucO y)[(sureF n lo il hi ih).length]? := by
  intro n
  -- the last turn
  have last : ∀ (m : Nat) (lo : Int × Int) (il : Bool) (hi : Option (Int × Int)) (ih : Bool), 0 < lo.2 → sureF m lo il hi ih = [] → (∀ h, hi = some h → 0 < h.2 ∧ (0 < h.1 - (lo.1 / lo.2 + 1) * h.2 ∨ (h.1 - (lo.1 / lo.2 + 1) * h.2 = 0 ∧ ih = true))) →
    ∃ t : Int × Int, 0 < t.2 ∧ Mid (evn (sureF m lo il hi ih).length) lo il hi ih t ∧
      (∃ e : Int × Int, (e = lo ∨ hi = some e) ∧ t.2 ≤ 2 * e.2 ∧ (1 ≤ lo.1 → t.1 ≤ 2 * e.1) ∧ t.1.natAbs ≤ 4 * (e.1.natAbs + e.2.natAbs)) ∧
      ∀ (x : Int × Int) (y : Option (Int × Int)), 0 < x.2 → InI lo il hi ih x → (∀ g, y = some g → 0 < g.2 ∧ InI lo il hi ih g) → (y = none → hi = none) →
        Sides (evn (sureF m lo il hi ih).length) x t y → (eucP x)[(sureF m lo il hi ih).length]? ≠ (eucO y)[(sureF m lo il hi ih).length]? := by
    intro m lo il hi ih hl hs hh
    rw [hs]
    obtain ⟨f1, f2⟩ := floor_bits hl
    have fl := fun (x : Int × Int) (h : crs lo x ≤ 0) (hx : 0 < x.2) => floor_lo hl h hx
    generalize hq : lo.1 / lo.2 = q at *
    refine ⟨(q + 1, 1), Int.one_pos, ?_, ⟨lo, .inl rfl, by show (1 : Int) ≤ 2 * lo.2; omega, fun h1 => ?_, ?_⟩, fun x y hx hIx hy _ hS => ?_⟩
    · show Mid true _ _ _ _ _
      unfold Mid
      rw [if_pos rfl]
      refine ⟨?_, fun h e => ?_⟩
      · unfold crs
        show lo.1 * 1 - (q + 1) * lo.2 < 0
        omega
      · have := (hh h e).2
        unfold crs
        show (q + 1) * h.2 - h.1 * 1 < 0 ∨ ((q + 1) * h.2 - h.1 * 1 = 0 ∧ ih = true)
        rcases this with z | z
        · exact .inl (by omega)
        · exact .inr ⟨by omega, z.2⟩
    · show q + 1 ≤ 2 * lo.1
      have : q ≤ lo.1 := by
        by_cases h0 : 0 ≤ q
        · have := Int.mul_le_mul_of_nonneg_left (show (1 : Int) ≤ lo.2 by omega) h0
          omega
        · omega
      omega
    · show (q + 1).natAbs ≤ 4 * (lo.1.natAbs + lo.2.natAbs)
      by_cases h0 : 0 ≤ q
      · have := Int.mul_le_mul_of_nonneg_left (show (1 : Int) ≤ lo.2 by omega) h0
        omega
      · have := Int.mul_le_mul_of_nonneg_left (show (1 : Int) ≤ lo.2 by omega) (show 0 ≤ -(q + 1) by omega)
        have e : -(q + 1) * lo.2 = -((q + 1) * lo.2) := Int.neg_mul _ _
        omega
    · have hS : Sides true x (q + 1, 1) y := hS
      unfold Sides at hS
      rw [if_pos rfl] at hS
      have x1 := fl x (crs_le hIx.1) hx
      have x2 : x.1 < (q + 1) * x.2 := by
        have := hS.1
        unfold crs at this
        have this : x.1 * 1 - (q + 1) * x.2 < 0 := this
        omega
      show (eucP x)[0]? ≠ (eucO y)[0]?
      rw [eucP_0 hx x1 x2]
      cases y with
      | none => exact fun z => by cases z
      | some g =>
        have hg := (hy g rfl).1
        obtain ⟨r, hr, g1, g2⟩ := eucP_0' hg
        show some q ≠ (eucP g)[0]?
        rw [hr]
        intro z
        have z : q = r := Option.some.inj z
        subst z
        have := hS.2 g rfl
        unfold crs at this
        have this : (q + 1) * g.2 - g.1 * 1 ≤ 0 := this
        omega
  induction n with
  | zero =>
    intro lo il hi ih hl hh
    refine last 0 lo il hi ih hl rfl fun h e => ?_
    have := hh h e
    omega
  | succ n IH =>
    intro lo il hi ih hl hh
    cases hi with
    | none => exact last (n + 1) lo il none ih hl rfl fun h e => by cases e
    | some h =>
      obtain ⟨h0, hlt, hf⟩ := hh h rfl
      by_cases hs : 0 < h.1 - (lo.1 / lo.2 + 1) * h.2 ∨ (h.1 - (lo.1 / lo.2 + 1) * h.2 = 0 ∧ ih = true)
      · exact last (n + 1) lo il (some h) ih hl (if_pos hs) fun g e => by
          cases e
          exact ⟨h0, hs⟩
      · have hstep : sureF (n + 1) lo il (some h) ih = lo.1 / lo.2 :: sureF n (h.2, h.1 - lo.1 / lo.2 * h.2) ih (if lo.1 - lo.1 / lo.2 * lo.2 = 0 then none else some (lo.2, lo.1 - lo.1 / lo.2 * lo.2)) il := if_neg hs
        rw [hstep]
        obtain ⟨f1, f2⟩ := floor_bits hl
        have fl := fun (x : Int × Int) (h : crs lo x ≤ 0) (hx : 0 < x.2) => floor_lo hl h hx
        have bn := fun (x : Int × Int) (hx : 0 < x.2) (h1 : crs x h < 0 ∨ (crs x h = 0 ∧ ih = true)) => below_next h0 hx h1 hs
        generalize hq : lo.1 / lo.2 = q at *
        have hhq : 0 < h.1 - q * h.2 := by
          unfold crs at hlt
          refine Int.lt_of_mul_lt_mul_right (a := lo.2) ?_ (Int.le_of_lt hl)
          have e : (h.1 - q * h.2) * lo.2 = h.1 * lo.2 - lo.1 * h.2 + (lo.1 - q * lo.2) * h.2 := by grind
          have : 0 ≤ (lo.1 - q * lo.2) * h.2 := Int.mul_nonneg (by omega) (by omega)
          omega
        have hrest : h.1 - q * h.2 ≤ h.2 := by
          have : ¬ 0 < h.1 - (q + 1) * h.2 := fun z => hs (.inl z)
          rw [Int.add_mul] at this
          omega
        obtain ⟨t, ht, hM, ⟨e, he, e2, e1, _⟩, hP⟩ := IH (h.2, h.1 - q * h.2) ih (if lo.1 - q * lo.2 = 0 then none else some (lo.2, lo.1 - q * lo.2)) il hhq (fun g eg => by
          split at eg
          · cases eg
          · rename_i hne
            cases eg
            refine ⟨by show 0 < lo.1 - q * lo.2; omega, ?_, ?_⟩
            · rw [crs_turn]
              exact hlt
            · show (h.1 - q * h.2) + (lo.1 - q * lo.2) ≤ (n : Int)
              rw [Int.add_mul] at f2
              omega)
        have e1 := e1 (show (1 : Int) ≤ h.2 by omega)
        rw [List.length_cons, evn_succ]
        generalize hk : sureF n (h.2, h.1 - q * h.2) ih (if lo.1 - q * lo.2 = 0 then none else some (lo.2, lo.1 - q * lo.2)) il = S at *
        have hMl := hM.le
        -- t is above 0
        have ht1 : 0 < t.1 := by
          have a := hMl.1
          unfold crs at a
          have a : h.2 * t.2 - t.1 * (h.1 - q * h.2) ≤ 0 := a
          have := Int.mul_pos h0 ht
          refine Int.lt_of_mul_lt_mul_right (a := h.1 - q * h.2) ?_ (Int.le_of_lt hhq)
          omega
        have tt : t = ((q * t.1 + t.2, t.1).2, (q * t.1 + t.2, t.1).1 - q * (q * t.1 + t.2, t.1).2) := by
          show t = (t.1, q * t.1 + t.2 - q * t.1)
          have : q * t.1 + t.2 - q * t.1 = t.2 := by omega
          rw [this]
        generalize hT : (q * t.1 + t.2, t.1) = T at tt
        have T2 : 0 < T.2 := by rw [← hT]; exact ht1
        have T1 : T.1 - q * T.2 = t.2 := by rw [← hT]; show q * t.1 + t.2 - q * t.1 = _; omega
        -- crossing with t
        have cT : ∀ a : Int × Int, crs (a.2, a.1 - q * a.2) t = crs T a := fun a => by rw [tt]; exact crs_turn q a T
        have cT' : ∀ a : Int × Int, crs t (a.2, a.1 - q * a.2) = crs a T := fun a => by rw [tt]; exact crs_turn q T a
        have lowT : crs lo T ≤ 0 ∧ (lo.1 - q * lo.2 = 0 → crs lo T < 0) := by
          have z : lo.1 - q * lo.2 = 0 → crs lo T < 0 := fun z => by
            rw [← cT' lo, z]
            unfold crs
            show t.1 * 0 - lo.2 * t.2 < 0
            have := Int.mul_pos hl ht
            omega
          refine ⟨?_, z⟩
          by_cases hz : lo.1 - q * lo.2 = 0
          · exact Int.le_of_lt (z hz)
          · rw [← cT' lo]
            exact hMl.2 _ (if_neg hz)
        refine ⟨T, T2, ?_, ?_, ?_⟩
        · -- between the ends
          unfold Mid at hM ⊢
          cases hb : evn S.length with
          | true =>
            rw [hb, if_pos rfl] at hM
            rw [if_neg (by decide)]
            refine ⟨?_, fun g eg => ?_⟩
            · by_cases hz : lo.1 - q * lo.2 = 0
              · exact .inl (lowT.2 hz)
              · rw [← cT' lo]
                exact hM.2 _ (if_neg hz)
            · cases eg
              rw [← cT]
              exact hM.1
          | false =>
            rw [hb, if_neg (by decide)] at hM
            rw [if_pos (show (!false) = true from rfl)]
            refine ⟨?_, fun g eg => ?_⟩
            · by_cases hz : lo.1 - q * lo.2 = 0
              · exact lowT.2 hz
              · rw [← cT' lo]
                exact hM.2 _ (if_neg hz)
            · cases eg
              rw [← cT]
              exact hM.1
        · -- its size
          have key : ∀ (f : Int × Int), 0 < f.2 → 0 ≤ f.1 - q * f.2 → f.1 - q * f.2 ≤ f.2 → t.1 ≤ 2 * f.2 → t.2 ≤ 2 * (f.1 - q * f.2) → T.2 ≤ 2 * f.2 ∧ (1 ≤ lo.1 → T.1 ≤ 2 * f.1) ∧ T.1.natAbs ≤ 4 * (f.1.natAbs + f.2.natAbs) := by
            intro f hf0 hf1 hf2 a1 a2
            refine ⟨by rw [← hT]; exact a1, fun h1 => ?_, ?_⟩
            · have hq0 : 0 ≤ q := by
                by_cases z : 0 ≤ q
                · exact z
                · have := Int.mul_le_mul_of_nonneg_right (show q + 1 ≤ 0 by omega) (Int.le_of_lt hl)
                  omega
              have := Int.mul_le_mul_of_nonneg_left a1 hq0
              have e3 : q * (2 * f.2) = 2 * (q * f.2) := by grind
              rw [← hT]
              show q * t.1 + t.2 ≤ 2 * f.1
              omega
            · rw [← hT]
              show (q * t.1 + t.2).natAbs ≤ _
              by_cases hq0 : 0 ≤ q
              · have b1 := Int.mul_le_mul_of_nonneg_left a1 hq0
                have e3 : q * (2 * f.2) = 2 * (q * f.2) := by grind
                have b2 := Int.mul_nonneg hq0 (Int.le_of_lt ht1)
                omega
              · have b1 := Int.mul_le_mul_of_nonneg_left a1 (show 0 ≤ -q by omega)
                have e3 : -q * (2 * f.2) = -(2 * (q * f.2)) := by grind
                have b2 := Int.mul_nonneg (show 0 ≤ -q by omega) (Int.le_of_lt ht1)
                rw [e3, Int.neg_mul] at b1
                rw [Int.neg_mul] at b2
                omega
          rcases he with he | he
          · subst he
            obtain ⟨k1, k2, k3⟩ := key h h0 (by omega) hrest e1 e2
            exact ⟨h, .inr rfl, k1, k2, k3⟩
          · split at he
            · cases he
            · cases he
              obtain ⟨k1, k2, k3⟩ := key lo hl (by omega) (by rw [Int.add_mul] at f2; omega) e1 e2
              exact ⟨lo, .inl rfl, k1, k2, k3⟩
        · -- the two part
          intro x y hx hIx hy hyn hS
          cases y with
          | none => cases hyn rfl
          | some g =>
            obtain ⟨hg, hIg⟩ := hy g rfl
            have hS' : crs x T ≤ 0 ∧ crs T g ≤ 0 := by
              unfold Sides at hS
              split at hS
              · exact ⟨Int.le_of_lt hS.1, hS.2 g rfl⟩
              · exact ⟨hS.1, Int.le_of_lt (hS.2 g rfl)⟩
            -- g lies above q
            have hgq : 0 < g.1 - q * g.2 := by
              have a := hS'.2
              rw [← cT] at a
              unfold crs at a
              have a : g.2 * t.2 - t.1 * (g.1 - q * g.2) ≤ 0 := a
              have := Int.mul_pos hg ht
              refine Int.lt_of_mul_lt_mul_left (a := t.1) ?_ (Int.le_of_lt ht1)
              omega
            have x1 := fl x (crs_le hIx.1) hx
            have x2 := bn x hx (hIx.2 h rfl)
            have g1 := fl g (crs_le hIg.1) hg
            have g2 := bn g hg (hIg.2 h rfl)
            have ex := eucP_cons hx x1 x2
            have eg : eucP g = q :: eucP (g.2, g.1 - q * g.2) := by rw [eucP_cons hg g1 g2, if_neg (by omega)]
            show (eucP x)[S.length + 1]? ≠ (eucP g)[S.length + 1]?
            rw [ex, eg, List.getElem?_cons_succ, List.getElem?_cons_succ]
            have eo : (if x.1 - q * x.2 = 0 then [] else eucP (x.2, x.1 - q * x.2)) = eucO (if x.1 - q * x.2 = 0 then none else some (x.2, x.1 - q * x.2)) := by
              split <;> rfl
            rw [eo]
            refine (hP (g.2, g.1 - q * g.2) _ hgq (inI_turn q hIg) (fun k ek => ?_) (fun ek => ?_) ?_).symm
            · split at ek
              · cases ek
              · rename_i hne
                cases ek
                exact ⟨by show 0 < x.1 - q * x.2; omega, inI_turn q hIx⟩
            · split at ek
              · rename_i hz
                -- x is q, and so is the low end
                rw [if_pos]
                have a3 := crs_le hIx.1
                unfold crs at a3
                have a4 : x.1 = q * x.2 := by omega
                rw [a4] at a3
                have a5 : (lo.1 - q * lo.2) * x.2 ≤ 0 * x.2 := by
                  have : (lo.1 - q * lo.2) * x.2 = lo.1 * x.2 - q * x.2 * lo.2 := by grind
                  omega
                have := Int.le_of_mul_le_mul_right a5 hx
                omega
              · cases ek
            · unfold Sides at hS ⊢
              cases hb : evn S.length with
              | true =>
                rw [hb, if_neg (by decide)] at hS
                rw [if_pos rfl]
                refine ⟨?_, fun k ek => ?_⟩
                · rw [cT]
                  exact hS.2 g rfl
                · split at ek
                  · cases ek
                  · cases ek
                    rw [cT']
                    exact hS.1
              | false =>
                rw [hb, if_pos (show (!false) = true from rfl)] at hS
                rw [if_neg (by decide)]
                refine ⟨?_, fun k ek => ?_⟩
                · rw [cT]
                  exact hS.2 g rfl
                · split at ek
                  · cases ek
                  · cases ek
                    rw [cT']
                    exact hS.1
end Ma
namespace My
open PySem L2 PyProof.Rows Dn Ma
def topS (i : Nat) : Stmt := PySem.Challenge.pw_chainsum_k01_chains_and_fractions.main.body.getD i (.Pass ⟨0, 0, 0, 0⟩)
abbrev s_is_chain : Stmt := topS 5
abbrev s_is_begun : Stmt := topS 6
abbrev s_fraction_of : Stmt := topS 7
abbrev s_chain_of : Stmt := topS 8
abbrev s_is_whole_number : Stmt := topS 9
abbrev s_value_of : Stmt := topS 10
abbrev s__are_later_quotients : Stmt := topS 11
abbrev s__law_mixed : Stmt := topS 13
abbrev s__law_quotient : Stmt := topS 14
abbrev s__law_worth : Stmt := topS 15
abbrev s__law_whole : Stmt := topS 16
abbrev s__law_list_of : Stmt := topS 17
abbrev s_law : Stmt := topS 18
structure Bn (mg : Str → Option Value) : Prop where
  type_ : mg "type" = none
  list_ : mg "list" = none
  len_ : mg "len" = none
  int_ : mg "int" = none
  bool_ : mg "bool" = none
  tuple_ : mg "tuple" = none
  isinstance_ : mg "isinstance" = none
  divmod_ : mg "divmod" = none
  reversed_ : mg "reversed" = none
  range_ : mg "range" = none
/-! ### words about data -/
theorem first_bad {α : Type} {p : α → Bool} : ∀ {l : List α}, l.all p = false → ∃ (n : Nat) (d : α), l[n]? = some d ∧ p d = false ∧ ∀ (i : Nat) e, i < n → l[i]? = some e → p e = true
  | [], h => by cases h
  | a :: l, h => by
    cases ha : p a with
    | false => exact ⟨0, a, rfl, ha, fun i e hi => absurd hi (Nat.not_lt_zero _)⟩
    | true =>
      rw [List.all_cons, ha, Bool.true_and] at h
      obtain ⟨n, d, h1, h2, h3⟩ := first_bad h
      refine ⟨n + 1, d, h1, h2, fun i e hi he => ?_⟩
      cases i with
      | zero => cases he; exact ha
      | succ i => exact h3 i e (by omega) he
def okQ : PyData → Bool
  | .int i => decide (1 ≤ i)
  | _ => false
def isI : PyData → Bool
  | .int _ => true
  | _ => false
theorem okQ_ints : ∀ l : List Int, (l.map PyData.int).all okQ = l.all fun i => decide (1 ≤ i)
  | [] => rfl
  | i :: l => by
    rw [List.map_cons, List.all_cons, List.all_cons, okQ_ints l]
    rfl
theorem at_ints {is : List Int} {i : Nat} {d : PyData} (h : (is.map PyData.int)[i]? = some d) : ∃ z, d = .int z ∧ is[i]? = some z := by
  rw [List.getElem?_map] at h
  cases e : is[i]? with
  | none => rw [e] at h; cases h
  | some z => rw [e] at h; cases h; exact ⟨z, rfl, rfl⟩
def pairD (p : Int × Int) : PyData := .tuple [.int p.1, .int p.2]
/-- the products on the way are not too great -/
def Sz (l : List Int) : Prop := ∀ (a : List Int) (q : Int) (r : List Int), l = a ++ q :: r → CMulW q (val r).1
theorem Sz.mul {l r : List Int} {q : Int} (h : Sz l) (hr : ∃ a, l = a ++ q :: r) : CMulW q (val r).1 := let ⟨a, e⟩ := hr; h a q r e
theorem sz_pow {l : List Int} {m : Nat} (h1 : ∀ q ∈ l, q.natAbs + 1 ≤ 2 ^ m) (h2 : m * (l.length + 2) ≤ 400000) : Sz l := by
  rintro a q r rfl
  have hq := h1 q (by simp)
  have hv := (val_size (m := m) (l := r) fun x hx => h1 x (by simp [hx])).1
  rw [List.length_append, List.length_cons] at h2
  have e1 : m * r.length + 2 * m ≤ 400000 := by
    have : m * (r.length + 2) ≤ m * (a.length + (r.length + 1) + 2) := Nat.mul_le_mul_left m (by omega)
    rw [Nat.mul_add] at this
    omega
  have e2 : 1 ≤ 2 ^ (m * r.length) := Nat.one_le_two_pow
  refine wide_mul (a := m + 1) (b := m * r.length + 1) (by rw [Nat.pow_succ]; omega) (by rw [Nat.pow_succ]; omega) (by omega) (by omega) (by omega)
theorem sz_euc {t : Int} {b k : Nat} (ht : t.natAbs ≤ 2 ^ k) (hb : b ≤ 2 ^ k) (hk : k ≤ 400000) : Sz (euc t b) := by
  intro a q r e
  obtain ⟨h1, h2⟩ := euc_sizes ht hb e
  have e2 : 1 ≤ 2 ^ k := Nat.one_le_two_pow
  exact wide_mul (a := k + 2) (b := k + 1) (by rw [Nat.pow_succ, Nat.pow_succ]; omega) (by rw [Nat.pow_succ]; omega) (by omega) (by omega) (by omega)
def ints? : PyData → List Int
  | .list ds => ds.map fun d => match d with
    | .int i => i
    | _ => 0
  | _ => []
theorem ints_map (l : List Int) : ints? (.list (l.map .int)) = l := by
  show (l.map PyData.int).map _ = l
  rw [List.map_map]
  exact List.map_id l
def chD : PyData → Bool
  | .list [] => false
  | .list [x] => isI x
  | .list (x :: y :: xs) => isI x && (y :: xs).all okQ && !PyData.eqv ((y :: xs).getLast?.getD .none) (.int 1)
  | _ => false
theorem getLast_map {l : List Int} {i : Int} (h : l.getLast? = some i) : (l.map PyData.int).getLast? = some (.int i) := by
  rw [List.getLast?_map, h]
  rfl
theorem chD_ok {l : List Int} (h : IsCh l) : chD (.list (l.map .int)) = true := by
  cases l with
  | nil => exact (h.ne rfl).elim
  | cons q r =>
    cases r with
    | nil => rfl
    | cons q' r =>
      have h1 : ((q' :: r).map PyData.int).all okQ = true := by
        rw [okQ_ints]
        exact List.all_eq_true.mpr fun x hx => decide_eq_true (h.pos x hx)
      obtain ⟨i, hi⟩ : ∃ i, (q' :: r).getLast? = some i := ⟨_, List.getLast?_eq_some_getLast (by simp)⟩
      have hne : i ≠ 1 := fun e => h.last (by simp) (by rw [List.getLast?_cons_cons, hi, e])
      show (true && ((q' :: r).map PyData.int).all okQ && !PyData.eqv (((q' :: r).map PyData.int).getLast?.getD .none) (.int 1)) = true
      rw [h1, getLast_map hi]
      show (!PyData.eqv (.int i) (.int 1)) = true
      rw [eqv_int, decide_eq_false hne]
      rfl
theorem isI_tyn (x : PyData) : decide (tyn x = "int") = isI x := by
  cases x with
  | int i => rfl
  | none => show decide ("NoneType" = "int") = false; decide +kernel
  | bool b => show decide ("bool" = "int") = false; decide +kernel
  | str b => show decide ("str" = "int") = false; decide +kernel
  | list b => show decide ("list" = "int") = false; decide +kernel
  | tuple b => show decide ("tuple" = "int") = false; decide +kernel
  | dict b => show decide ("dict" = "int") = false; decide +kernel
theorem take_ints (ns : List Int) (k : Nat) : cutD (ns.map PyData.int) none (some (k : Int)) = (ns.take k).map .int := by
  rw [cut_to, List.map_take]
def begD : PyData → Bool
  | .list [] => true
  | .list (.int i :: xs) => decide (0 ≤ i) && xs.all okQ
  | _ => false
section
variable {P : Program} {w : World} {K : PySem.W.Frag} {mg : Str → Option Value} {base : Heap} {f : Addr} {fd : FuncData}
/-! ### is_whole_number -/
def r_is_whole_number : List PyData → PyData
  | [x] => .bool (decide (tyn x = "int"))
  | _ => .none
abbrev R_is_whole_number := FR one1 r_is_whole_number
theorem sc_is_whole_number : FnScope ["thing"] ["thing"] (defScope s_is_whole_number) := ⟨rfl, rfl, rfl, by decide +kernel, rfl, by decide +kernel, by decide +kernel⟩
theorem ok_is_whole_number (F : Fun K "is_whole_number" "is_whole_number" s_is_whole_number f fd) (B : Bn mg) : FnOk P w K mg base CX0 1 f fd ["thing"] (spF K R_is_whole_number) := by
  refine fnF F sc_is_whole_number (fun xs d ⟨⟨x, h⟩, _⟩ => by rw [h]; rfl) fun cdv A outer s H E hr xs d ⟨⟨x, h1⟩, h2⟩ => ?_
  subst h1 h2
  have key : ∀ ds, (∃ k, Ev k _ _ ds x) → Sxs (cxOf CX0 P w K mg base ["thing"] "is_whole_number" (defScope s_is_whole_number) f cdv A outer s H E).nox (defBody s_is_whole_number) ds (.rt (.bool (decide (tyn x = "int")))) := fun ds ⟨k, hv⟩ =>
    Sxs.one (Sx.ret (Ev.tyIs (k := .fr) B.type_ hv B.int_ (T := "int") (by decide +kernel)))
  refine key _ ?_
  cases x with
  | none => exact ⟨_, Ev.dat (k := .fr) 0 rfl⟩
  | bool b => exact ⟨_, Ev.dat (k := .fr) 0 rfl⟩
  | int b => exact ⟨_, Ev.dat (k := .fr) 0 rfl⟩
  | str b => exact ⟨_, Ev.dat (k := .fr) 0 rfl⟩
  | list b => exact ⟨_, Ev.arg 0 rfl⟩
  | tuple b => exact ⟨_, Ev.arg 0 rfl⟩
  | dict b => exact ⟨_, Ev.arg 0 rfl⟩
structure Def_is_whole_number (P : Program) (w : World) (K : PySem.W.Frag) (mg : Str → Option Value) (base : Heap) : Prop where
  ok : Dfn P w K mg base 1 "is_whole_number" (spF K R_is_whole_number)
/-! ### _are_later_quotients -/
def r__are_later_quotients : List PyData → PyData
  | [.list ds] => .bool (ds.all okQ)
  | _ => .none
def p__are_later_quotients (xs : List PyData) : Prop := ∃ ds, xs = [.list ds]
abbrev R__are_later_quotients := FR p__are_later_quotients r__are_later_quotients
theorem sc__are_later_quotients : FnScope ["things", "thing"] ["things"] (defScope s__are_later_quotients) := ⟨rfl, rfl, rfl, by decide +kernel, rfl, by decide +kernel, by decide +kernel⟩
theorem ok__are_later_quotients (F : Fun K "_are_later_quotients" "_are_later_quotients" s__are_later_quotients f fd) (B : Bn mg) (D_is_whole_number : Def_is_whole_number P w K mg base) : FnOk P w K mg base CX0 2 f fd ["things"] (spF K R__are_later_quotients) := by
  refine fnF F sc__are_later_quotients (fun xs d ⟨⟨x, h⟩, _⟩ => by rw [h]; rfl) fun cdv A outer s H E hr xs d ⟨⟨ds, h1⟩, h2⟩ => ?_
  subst h1 h2
  -- the test at an item
  have test : ∀ d : PyData, Et (cxOf CX0 P w K mg base ["things", "thing"] "_are_later_quotients" (defScope s__are_later_quotients) f cdv A outer s H E).nox (stTest (nthS (stBody (nthS (defBody s__are_later_quotients) 0)) 0)) [.arg (.list ds), .arg d] (!okQ d) := fun d => by
    cases d with
    | int i =>
      refine Et.is (Ew.et (Ew.or (Et.not (Et.val (Ev.callF (k := .fr) D_is_whole_number.1 (hr.mono (by decide)) (Ea.consV (by first | exact Ev.dat (k := .fr) 1 rfl | exact Ev.dat (k := .st) 1 rfl | exact Ev.dat (k := .vw) 1 rfl | exact Ev.arg 1 rfl | exact Ev.vw (Ev.arg 1 rfl) | exact Ev.own 1 rfl) Ea.nil) (by exact ⟨_, rfl⟩)))) fun _ => (Ew.or1 (Et.lt  (by first | exact Ev.dat (k := .fr) 1 rfl | exact Ev.dat (k := .st) 1 rfl | exact Ev.dat (k := .vw) 1 rfl | exact Ev.arg 1 rfl | exact Ev.vw (Ev.arg 1 rfl) | exact Ev.own 1 rfl) (Ev.int (k := .fr)))))) ?_
      show (!decide ("int" = "int") || decide (i < 1)) = !decide (1 ≤ i)
      by_cases h : 1 ≤ i
      · rw [decide_eq_true h, decide_eq_false (show ¬ i < 1 by omega)]; rfl
      · rw [decide_eq_false h, decide_eq_true (show i < 1 by omega)]; rfl
    | none => exact Et.is (c := true) (Ew.et (Ew.orT (Et.is (Et.not (Et.val (Ev.callF (k := .fr) D_is_whole_number.1 hr (Ea.consV (Ev.arg 1 rfl) Ea.nil) (by exact ⟨_, rfl⟩)))) rfl))) rfl
    | bool b => exact Et.is (c := true) (Ew.et (Ew.orT (Et.is (Et.not (Et.val (Ev.callF (k := .fr) D_is_whole_number.1 hr (Ea.consV (Ev.arg 1 rfl) Ea.nil) (by exact ⟨_, rfl⟩)))) rfl))) rfl
    | str b => exact Et.is (c := true) (Ew.et (Ew.orT (Et.is (Et.not (Et.val (Ev.callF (k := .fr) D_is_whole_number.1 hr (Ea.consV (Ev.arg 1 rfl) Ea.nil) (by exact ⟨_, rfl⟩)))) rfl))) rfl
    | list b => exact Et.is (c := true) (Ew.et (Ew.orT (Et.is (Et.not (Et.val (Ev.callF (k := .fr) D_is_whole_number.1 hr (Ea.consV (Ev.arg 1 rfl) Ea.nil) (by exact ⟨_, rfl⟩)))) rfl))) rfl
    | tuple b => exact Et.is (c := true) (Ew.et (Ew.orT (Et.is (Et.not (Et.val (Ev.callF (k := .fr) D_is_whole_number.1 hr (Ea.consV (Ev.arg 1 rfl) Ea.nil) (by exact ⟨_, rfl⟩)))) rfl))) rfl
    | dict b => exact Et.is (c := true) (Ew.et (Ew.orT (Et.is (Et.not (Et.val (Ev.callF (k := .fr) D_is_whole_number.1 hr (Ea.consV (Ev.arg 1 rfl) Ea.nil) (by exact ⟨_, rfl⟩)))) rfl))) rfl
  show Sxs _ _ _ (.rt (.bool (ds.all okQ)))
  cases ha : ds.all okQ with
  | true =>
    refine Sxs.cons (Sx.forStay (k := .st) PassesOwn.never rfl (by first | exact Wk.list (k := .fr) (by decide) (Ev.dat 0 rfl) | exact Wk.list (k := .st) (by decide) (Ev.dat 0 rfl) | exact Wk.list (k := .st) (by decide) (Ev.arg 0 rfl)) fun i d hd => ⟨_, _, _, Gx.nameA 1 sc__are_later_quotients.nd, .nx, Sxs.wk (Sxs.one (Sx.skip (Et.is (test d) ?_))) ⟨.inl rfl, .inr (.inl rfl), trivial⟩⟩) (Sxs.one (Sx.ret (Ev.bl (k := .fr))))
    have := List.all_eq_true.mp ha d (List.mem_of_getElem? hd)
    rw [this]
    rfl
  | false =>
    obtain ⟨n, d, hn, hd, hlt⟩ : ∃ (n : Nat) (d : PyData), ds[n]? = some d ∧ okQ d = false ∧ ∀ (i : Nat) e, i < n → ds[i]? = some e → okQ e = true := first_bad ha
    refine Sxs.stop (Sx.for (k := .st) (xs := ds) (fun _ => _) n PassesOwn.never rfl (by first | exact Wk.list (k := .fr) (by decide) (Ev.dat 0 rfl) | exact Wk.list (k := .st) (by decide) (Ev.dat 0 rfl) | exact Wk.list (k := .st) (by decide) (Ev.arg 0 rfl)) rfl (Nat.le_of_lt (List.getElem?_eq_some_iff.mp hn).1) (fun i d hi hd => ⟨_, _, _, Gx.nameA 1 sc__are_later_quotients.nd, .nx, Sxs.wk (Sxs.one (Sx.skip (Et.is (test d) (by rw [hlt i d hi hd]; rfl)))) ⟨.inl rfl, .inr (.inl rfl), trivial⟩⟩)
      (.inr ⟨d, hn, _, _, _, Gx.nameA 1 sc__are_later_quotients.nd, .rt _, Sxs.one (Sx.ifT (Et.is (test d) (by rw [hd]; rfl)) (Sxs.one (Sx.ret (Ev.bl (k := .fr)))))⟩)) trivial
structure Def__are_later_quotients (P : Program) (w : World) (K : PySem.W.Frag) (mg : Str → Option Value) (base : Heap) : Prop where
  ok : Dfn P w K mg base 2 "_are_later_quotients" (spF K R__are_later_quotients)
/-! ### is_chain -/
def r_is_chain : List PyData → PyData
  | [d] => .bool (chD d)
  | _ => .none
abbrev R_is_chain := FR one1 r_is_chain
theorem sc_is_chain : FnScope ["thing"] ["thing"] (defScope s_is_chain) := ⟨rfl, rfl, rfl, by decide +kernel, rfl, by decide +kernel, by decide +kernel⟩
theorem ok_is_chain (F : Fun K "is_chain" "is_chain" s_is_chain f fd) (B : Bn mg) (D_is_whole_number : Def_is_whole_number P w K mg base) (D__are_later_quotients : Def__are_later_quotients P w K mg base) : FnOk P w K mg base CX0 3 f fd ["thing"] (spF K R_is_chain) := by
  refine fnF F sc_is_chain (fun xs d ⟨⟨x, h⟩, _⟩ => by rw [h]; rfl) fun cdv A outer s H E hr xs d ⟨⟨x, h1⟩, h2⟩ => ?_
  subst h1 h2
  -- no list
  have no : ∀ (y : PyData) (k : Kd) (ds : List SD), Ev k (cxOf CX0 P w K mg base ["thing"] "is_chain" (defScope s_is_chain) f cdv A outer s H E).nox _ ds y → (!decide (tyn y = "list")) = true → Sxs (cxOf CX0 P w K mg base ["thing"] "is_chain" (defScope s_is_chain) f cdv A outer s H E).nox (defBody s_is_chain) ds (.rt (.bool false)) := fun y k ds hv ht =>
    Sxs.stop (Sx.ifT (Et.is (Ew.et (Ew.orT (Et.is (Et.tyNot B.type_ hv B.list_ (T := "list") (by decide +kernel)) ht))) rfl) (Sxs.one (Sx.ret (Ev.bl (k := .fr))))) trivial
  cases x with
  | none => exact no .none _ _ (Ev.dat (k := .fr) 0 rfl) rfl
  | bool b => exact no (.bool b) _ _ (Ev.dat (k := .fr) 0 rfl) rfl
  | int b => exact no (.int b) _ _ (Ev.dat (k := .fr) 0 rfl) rfl
  | str b => exact no (.str b) _ _ (Ev.dat (k := .fr) 0 rfl) rfl
  | tuple b => exact no (.tuple b) _ _ (Ev.arg 0 rfl) rfl
  | dict b => exact no (.dict b) _ _ (Ev.arg 0 rfl) rfl
  | list ds =>
    have hL : ∀ {pos : Pos}, Ev .st (cxOf CX0 P w K mg base ["thing"] "is_chain" (defScope s_is_chain) f cdv A outer s H E).nox (.Name "thing" pos) [.arg (.list ds)] (.list ds) := fun {pos} => Ev.arg 0 rfl
    have t1 : Et (cxOf CX0 P w K mg base ["thing"] "is_chain" (defScope s_is_chain) f cdv A outer s H E).nox (stTest (nthS (defBody s_is_chain) 0)) [.arg (.list ds)] (decide ((ds.length : Int) = 0)) := by
      refine Et.is (Ew.et (Ew.or (Et.tyNot  B.type_ (by first | exact Ev.dat (k := .fr) 0 rfl | exact Ev.dat (k := .st) 0 rfl | exact Ev.dat (k := .vw) 0 rfl | exact Ev.arg 0 rfl | exact Ev.vw (Ev.arg 0 rfl) | exact Ev.own 0 rfl) B.list_ (T := "list") (by decide +kernel)) fun _ => (Ew.or1 (Et.eqI  hr (Ev.lenL (k := .fr) B.len_ (by first | exact Ev.dat (k := .fr) 0 rfl | exact Ev.dat (k := .st) 0 rfl | exact Ev.dat (k := .vw) 0 rfl | exact Ev.arg 0 rfl | exact Ev.vw (Ev.arg 0 rfl) | exact Ev.own 0 rfl)) (Ev.int (k := .fr)))))) ?_
      show (false || decide ((ds.length : Int) = 0)) = _
      rw [Bool.false_or]
    cases ds with
    | nil => exact Sxs.stop (Sx.ifT (Et.is t1 rfl) (Sxs.one (Sx.ret (Ev.bl (k := .fr))))) trivial
    | cons x xs =>
      refine Sxs.cons (Sx.skip (Et.is t1 (decide_eq_false (by show ¬ ((xs.length + 1 : Nat) : Int) = 0; omega)))) ?_
      have t2 : Et (cxOf CX0 P w K mg base ["thing"] "is_chain" (defScope s_is_chain) f cdv A outer s H E).nox (stTest (nthS (defBody s_is_chain) 1)) [.arg (.list (x :: xs))] (!(isI x && xs.all okQ)) := by
        refine Et.is (Ew.et (Ew.or (Et.not (Et.val (Ev.callF (k := .fr) D_is_whole_number.1 (hr.mono (by decide)) (Ea.consV (Ev.ixL (by first | exact Ei.own (k := .fr) 0 rfl | exact Ev.ei (Ev.dat (k := .fr) 0 rfl) | exact Ev.ei (Ev.dat (k := .st) 0 rfl) | exact Ev.ei (Ev.arg 0 rfl)) (Ev.int (k := .fr)) at0) Ea.nil) (by exact ⟨_, rfl⟩)))) fun _ => (Ew.or1 (Et.not (Et.val (Ev.callF (k := .fr) D__are_later_quotients.1 (hr.mono (by decide)) (Ea.consV (Ev.slice (by first | exact Ei.own (k := .fr) 0 rfl | exact Ev.ei (Ev.dat (k := .fr) 0 rfl) | exact Ev.ei (Ev.dat (k := .st) 0 rfl) | exact Ev.ei (Ev.arg 0 rfl)) (Eo.of (Ev.int (k := .fr))) Eo.non) Ea.nil) (by exact ⟨_, rfl⟩))))))) ?_
        · show (!decide (tyn x = "int") || !((cutD (x :: xs) (some 1) none).all okQ)) = _
          rw [isI_tyn, cut_1]
          show (!isI x || !(xs.all okQ)) = _
          cases isI x <;> rfl
      cases hb : isI x && xs.all okQ with
      | false =>
        have e : chD (.list (x :: xs)) = false := by
          cases xs with
          | nil =>
            rw [List.all_nil, Bool.and_true] at hb
            exact hb
          | cons y ys =>
            show (isI x && (y :: ys).all okQ && _) = false
            rw [hb]
            rfl
        show Sxs _ _ _ (.rt (.bool (chD (.list (x :: xs)))))
        rw [e]
        exact Sxs.stop (Sx.ifT (Et.is t2 (by rw [hb]; rfl)) (Sxs.one (Sx.ret (Ev.bl (k := .fr))))) trivial
      | true =>
        refine Sxs.cons (Sx.skip (Et.is t2 (by rw [hb]; rfl))) (Sxs.one (Sx.ret ?_))
        cases xs with
        | nil =>
          refine Ev.is (x := .bool true) (Ev.is (Ev.orV (c := true) (c' := false) (Ev.is (Ev.eqI (k := .fr) hr (Ev.lenL (k := .fr) B.len_ (by first | exact Ev.dat (k := .fr) 0 rfl | exact Ev.dat (k := .st) 0 rfl | exact Ev.dat (k := .vw) 0 rfl | exact Ev.arg 0 rfl | exact Ev.vw (Ev.arg 0 rfl) | exact Ev.own 0 rfl)) (Ev.int (k := .fr))) ?_) fun h => by cases h) rfl) ?_
          · show PyData.bool (decide (((1 : Nat) : Int) = 1)) = _
            rfl
          · rw [List.all_nil, Bool.and_true] at hb
            show PyData.bool true = PyData.bool (isI x)
            rw [hb]
        | cons y ys =>
          obtain ⟨l, hl⟩ : ∃ l, (y :: ys).getLast? = some l := ⟨_, List.getLast?_eq_some_getLast (by simp)⟩
          have hal := (Bool.and_eq_true_iff.mp hb).2
          have hlq := List.all_eq_true.mp hal l (List.mem_of_getLast? hl)
          obtain ⟨i, rfl⟩ : ∃ i, l = .int i := by
            cases l <;> first | exact ⟨_, rfl⟩ | cases hlq
          have hat : atI (x :: y :: ys) (-1) = some (.int i) := by
            refine atL ?_
            rw [List.getLast?_cons_cons]
            exact hl
          refine' Ev.is (Ev.orV (k := .fr) (Ev.eqI (k := .fr) hr (Ev.lenL (k := .fr) B.len_ (by first | exact Ev.dat (k := .fr) 0 rfl | exact Ev.dat (k := .st) 0 rfl | exact Ev.dat (k := .vw) 0 rfl | exact Ev.arg 0 rfl | exact Ev.vw (Ev.arg 0 rfl) | exact Ev.own 0 rfl)) (Ev.int (k := .fr))) fun _ => (Ev.one (Ev.neI (k := .fr) hr (Ev.ixL (by first | exact Ei.own (k := .fr) 0 rfl | exact Ev.ei (Ev.dat (k := .fr) 0 rfl) | exact Ev.ei (Ev.dat (k := .st) 0 rfl) | exact Ev.ei (Ev.arg 0 rfl)) (Ev.neg (k := .fr) (Ev.int (k := .fr))) ?_) (Ev.int (k := .fr))))) ?_
          · exact i
          · exact hat
          · show PyData.bool (decide (((ys.length + 1 + 1 : Nat) : Int) = 1) || !decide (i = 1)) = _
            have n : ¬ ((ys.length + 1 + 1 : Nat) : Int) = 1 := by omega
            rw [decide_eq_false n, Bool.false_or]
            show _ = PyData.bool (isI x && (y :: ys).all okQ && !PyData.eqv ((y :: ys).getLast?.getD .none) (.int 1))
            rw [hb, hl]
            show _ = PyData.bool (true && !PyData.eqv (.int i) (.int 1))
            rw [eqv_int]
            rfl
structure Def_is_chain (P : Program) (w : World) (K : PySem.W.Frag) (mg : Str → Option Value) (base : Heap) : Prop where
  ok : Dfn P w K mg base 3 "is_chain" (spF K R_is_chain)
/-! ### is_begun -/
def r_is_begun : List PyData → PyData
  | [d] => .bool (begD d)
  | _ => .none
abbrev R_is_begun := FR one1 r_is_begun
theorem sc_is_begun : FnScope ["thing"] ["thing"] (defScope s_is_begun) := ⟨rfl, rfl, rfl, by decide +kernel, rfl, by decide +kernel, by decide +kernel⟩
theorem ok_is_begun (F : Fun K "is_begun" "is_begun" s_is_begun f fd) (B : Bn mg) (D_is_whole_number : Def_is_whole_number P w K mg base) (D__are_later_quotients : Def__are_later_quotients P w K mg base) : FnOk P w K mg base CX0 3 f fd ["thing"] (spF K R_is_begun) := by
  refine fnF F sc_is_begun (fun xs d ⟨⟨x, h⟩, _⟩ => by rw [h]; rfl) fun cdv A outer s H E hr xs d ⟨⟨x, h1⟩, h2⟩ => ?_
  subst h1 h2
  -- no list
  have no : ∀ (y : PyData) (k : Kd) (ds : List SD), Ev k (cxOf CX0 P w K mg base ["thing"] "is_begun" (defScope s_is_begun) f cdv A outer s H E).nox _ ds y → (!decide (tyn y = "list")) = true → Sxs (cxOf CX0 P w K mg base ["thing"] "is_begun" (defScope s_is_begun) f cdv A outer s H E).nox (defBody s_is_begun) ds (.rt (.bool false)) := fun y k ds hv ht =>
    Sxs.stop (Sx.ifT (Et.is (Et.tyNot B.type_ hv B.list_ (T := "list") (by decide +kernel)) ht) (Sxs.one (Sx.ret (Ev.bl (k := .fr))))) trivial
  cases x with
  | none => exact no .none _ _ (Ev.dat (k := .fr) 0 rfl) rfl
  | bool b => exact no (.bool b) _ _ (Ev.dat (k := .fr) 0 rfl) rfl
  | int b => exact no (.int b) _ _ (Ev.dat (k := .fr) 0 rfl) rfl
  | str b => exact no (.str b) _ _ (Ev.dat (k := .fr) 0 rfl) rfl
  | tuple b => exact no (.tuple b) _ _ (Ev.arg 0 rfl) rfl
  | dict b => exact no (.dict b) _ _ (Ev.arg 0 rfl) rfl
  | list ds =>
    have t0 : Et (cxOf CX0 P w K mg base ["thing"] "is_begun" (defScope s_is_begun) f cdv A outer s H E).nox (stTest (nthS (defBody s_is_begun) 0)) [.arg (.list ds)] false := Et.is (Et.tyNot  B.type_ (by first | exact Ev.dat (k := .fr) 0 rfl | exact Ev.dat (k := .st) 0 rfl | exact Ev.dat (k := .vw) 0 rfl | exact Ev.arg 0 rfl | exact Ev.vw (Ev.arg 0 rfl) | exact Ev.own 0 rfl) B.list_ (T := "list") (by decide +kernel)) rfl
    have t1 : Et (cxOf CX0 P w K mg base ["thing"] "is_begun" (defScope s_is_begun) f cdv A outer s H E).nox (stTest (nthS (defBody s_is_begun) 1)) [.arg (.list ds)] (decide ((ds.length : Int) = 0)) := (Et.eqI  hr (Ev.lenL (k := .fr) B.len_ (by first | exact Ev.dat (k := .fr) 0 rfl | exact Ev.dat (k := .st) 0 rfl | exact Ev.dat (k := .vw) 0 rfl | exact Ev.arg 0 rfl | exact Ev.vw (Ev.arg 0 rfl) | exact Ev.own 0 rfl)) (Ev.int (k := .fr)))
    refine Sxs.cons (Sx.skip t0) ?_
    cases ds with
    | nil => exact Sxs.stop (Sx.ifT (Et.is t1 rfl) (Sxs.one (Sx.ret (Ev.bl (k := .fr))))) trivial
    | cons x xs =>
      refine Sxs.cons (Sx.skip (Et.is t1 (decide_eq_false (by show ¬ ((xs.length + 1 : Nat) : Int) = 0; omega)))) (Sxs.one (Sx.ret ?_))
      cases x with
      | int i =>
        refine' Ev.is (Ev.andV (k := .fr) (Ev.callF (k := .fr) D_is_whole_number.1 (hr.mono (by decide)) (Ea.consV (Ev.ixL (by first | exact Ei.own (k := .fr) 0 rfl | exact Ev.ei (Ev.dat (k := .fr) 0 rfl) | exact Ev.ei (Ev.dat (k := .st) 0 rfl) | exact Ev.ei (Ev.arg 0 rfl)) (Ev.int (k := .fr)) at0) Ea.nil) (by exact ⟨_, rfl⟩)) fun _ => (Ev.andV (k := .fr) (Ev.ge (k := .fr) (Ev.ixL (by first | exact Ei.own (k := .fr) 0 rfl | exact Ev.ei (Ev.dat (k := .fr) 0 rfl) | exact Ev.ei (Ev.dat (k := .st) 0 rfl) | exact Ev.ei (Ev.arg 0 rfl)) (Ev.int (k := .fr)) at0) (Ev.int (k := .fr))) fun _ => (Ev.one (Ev.callF (k := .fr) D__are_later_quotients.1 (hr.mono (by decide)) (Ea.consV (Ev.slice (by first | exact Ei.own (k := .fr) 0 rfl | exact Ev.ei (Ev.dat (k := .fr) 0 rfl) | exact Ev.ei (Ev.dat (k := .st) 0 rfl) | exact Ev.ei (Ev.arg 0 rfl)) (Eo.of (Ev.int (k := .fr))) Eo.non) Ea.nil) (by exact ⟨_, rfl⟩))))) ?_
        show PyData.bool (decide ("int" = "int") && (decide (0 ≤ i) && (cutD (.int i :: xs) (some 1) none).all okQ)) = PyData.bool (decide (0 ≤ i) && xs.all okQ)
        rw [cut_1]
        rfl
      | none => exact Ev.is (Ev.andV (c := false) (c' := false) (Ev.is (Ev.callF (k := .fr) D_is_whole_number.1 (hr.mono (by decide)) (Ea.consV (Ev.ixL (by first | exact Ei.own (k := .fr) 0 rfl | exact Ev.ei (Ev.dat (k := .fr) 0 rfl) | exact Ev.ei (Ev.dat (k := .st) 0 rfl) | exact Ev.ei (Ev.arg 0 rfl)) (Ev.int (k := .fr)) at0) Ea.nil) (by exact ⟨_, rfl⟩)) (congrArg PyData.bool (isI_tyn .none))) fun h => by cases h) rfl
      | bool b => exact Ev.is (Ev.andV (c := false) (c' := false) (Ev.is (Ev.callF (k := .fr) D_is_whole_number.1 (hr.mono (by decide)) (Ea.consV (Ev.ixL (by first | exact Ei.own (k := .fr) 0 rfl | exact Ev.ei (Ev.dat (k := .fr) 0 rfl) | exact Ev.ei (Ev.dat (k := .st) 0 rfl) | exact Ev.ei (Ev.arg 0 rfl)) (Ev.int (k := .fr)) at0) Ea.nil) (by exact ⟨_, rfl⟩)) (congrArg PyData.bool (isI_tyn (.bool b)))) fun h => by cases h) rfl
      | str b => exact Ev.is (Ev.andV (c := false) (c' := false) (Ev.is (Ev.callF (k := .fr) D_is_whole_number.1 (hr.mono (by decide)) (Ea.consV (Ev.ixL (by first | exact Ei.own (k := .fr) 0 rfl | exact Ev.ei (Ev.dat (k := .fr) 0 rfl) | exact Ev.ei (Ev.dat (k := .st) 0 rfl) | exact Ev.ei (Ev.arg 0 rfl)) (Ev.int (k := .fr)) at0) Ea.nil) (by exact ⟨_, rfl⟩)) (congrArg PyData.bool (isI_tyn (.str b)))) fun h => by cases h) rfl
      | list b => exact Ev.is (Ev.andV (c := false) (c' := false) (Ev.is (Ev.callF (k := .fr) D_is_whole_number.1 (hr.mono (by decide)) (Ea.consV (Ev.ixL (by first | exact Ei.own (k := .fr) 0 rfl | exact Ev.ei (Ev.dat (k := .fr) 0 rfl) | exact Ev.ei (Ev.dat (k := .st) 0 rfl) | exact Ev.ei (Ev.arg 0 rfl)) (Ev.int (k := .fr)) at0) Ea.nil) (by exact ⟨_, rfl⟩)) (congrArg PyData.bool (isI_tyn (.list b)))) fun h => by cases h) rfl
      | tuple b => exact Ev.is (Ev.andV (c := false) (c' := false) (Ev.is (Ev.callF (k := .fr) D_is_whole_number.1 (hr.mono (by decide)) (Ea.consV (Ev.ixL (by first | exact Ei.own (k := .fr) 0 rfl | exact Ev.ei (Ev.dat (k := .fr) 0 rfl) | exact Ev.ei (Ev.dat (k := .st) 0 rfl) | exact Ev.ei (Ev.arg 0 rfl)) (Ev.int (k := .fr)) at0) Ea.nil) (by exact ⟨_, rfl⟩)) (congrArg PyData.bool (isI_tyn (.tuple b)))) fun h => by cases h) rfl
      | dict b => exact Ev.is (Ev.andV (c := false) (c' := false) (Ev.is (Ev.callF (k := .fr) D_is_whole_number.1 (hr.mono (by decide)) (Ea.consV (Ev.ixL (by first | exact Ei.own (k := .fr) 0 rfl | exact Ev.ei (Ev.dat (k := .fr) 0 rfl) | exact Ev.ei (Ev.dat (k := .st) 0 rfl) | exact Ev.ei (Ev.arg 0 rfl)) (Ev.int (k := .fr)) at0) Ea.nil) (by exact ⟨_, rfl⟩)) (congrArg PyData.bool (isI_tyn (.dict b)))) fun h => by cases h) rfl
structure Def_is_begun (P : Program) (w : World) (K : PySem.W.Frag) (mg : Str → Option Value) (base : Heap) : Prop where
  ok : Dfn P w K mg base 3 "is_begun" (spF K R_is_begun)
/-! ### value_of -/
def p_value_of (xs : List PyData) : Prop := ∃ l : List Int, xs = [.list (l.map .int)] ∧ Sz l
def r_value_of : List PyData → PyData
  | [d] => pairD (val (ints? d))
  | _ => .none
abbrev R_value_of := FR p_value_of r_value_of
theorem sc_value_of : FnScope ["quotients", "top", "bottom", "quotient"] ["quotients"] (defScope s_value_of) := ⟨rfl, rfl, rfl, by decide +kernel, rfl, by decide +kernel, by decide +kernel⟩
theorem ok_value_of (F : Fun K "value_of" "value_of" s_value_of f fd) (B : Bn mg) : FnOk P w K mg base CX0 1 f fd ["quotients"] (spF K R_value_of) := by
  refine fnF F sc_value_of (fun xs d ⟨⟨l, h, _⟩, _⟩ => by rw [h]; rfl) fun cdv A outer s H E hr xs d ⟨⟨l, h1, hs⟩, h2⟩ => ?_
  subst h1 h2
  show Sxs _ _ _ (.rt (pairD (val (ints? (.list (l.map .int))))))
  rw [ints_map]
  have I0 : val (l.drop (l.length - 0)) = (1, 0) := by rw [Nat.sub_zero, List.drop_length]; rfl
  refine Sxs.cons (Sx.asg (Ev.tup (k := .fr) (Ea.cons (k := .fr) (Ev.int (k := .fr)) (Ea.cons (k := .fr) (Ev.int (k := .fr)) Ea.nil)) (by exact (by decide : 2 ≤ 100000))) (Gx.tup rfl (Gxs.cons (Gx.name 1 sc_value_of.nd) (Gxs.cons (Gx.name 2 sc_value_of.nd) Gxs.nil)))) ?_
  refine Sxs.cons (Sx.forAll (k := .st) (xs := (l.map PyData.int).reverse) (fun i => [.arg (.list (l.map .int)), .dat (.int (val (l.drop (l.length - i))).1), .dat (.int (val (l.drop (l.length - i))).2), .unk]) PassesOwn.never rfl (Wk.rev (k := .st) (by decide) B.reversed_ (by first | exact Ev.dat (k := .fr) 0 rfl | exact Ev.dat (k := .st) 0 rfl | exact Ev.dat (k := .vw) 0 rfl | exact Ev.arg 0 rfl | exact Ev.vw (Ev.arg 0 rfl) | exact Ev.own 0 rfl)) ?_ fun i d hd => ?_) ?_
  · rw [I0]
    rfl
  · have hi : i < l.length := by
      have := (List.getElem?_eq_some_iff.mp hd).1
      rwa [List.length_reverse, List.length_map] at this
    rw [List.getElem?_reverse (by rw [List.length_map]; exact hi), List.length_map, List.getElem?_map, List.getElem?_eq_getElem (by omega)] at hd
    cases hd
    have e1 : l.length - i = (l.length - 1 - i) + 1 := by omega
    have e2 : l.drop (l.length - (i + 1)) = l[l.length - 1 - i] :: l.drop (l.length - i) := by
      rw [show l.length - (i + 1) = l.length - 1 - i by omega, e1]
      exact List.drop_eq_getElem_cons _
    refine ⟨_, _, _, Gx.sc trivial (Gx.name 3 sc_value_of.nd), .nx, ?_⟩
    rw [e2]
    refine Sxs.wk (Sxs.one (Sx.par 1 2 rfl sc_value_of.nd (by decide) (Ev.add (k := .fr) (Ev.mul (k := .fr) (Ev.dat (k := .fr) 3 rfl) (Ev.dat (k := .fr) 1 rfl) ?_) (Ev.dat (k := .fr) 2 rfl)) (Ev.dat (k := .fr) 1 rfl))) ⟨.inl rfl, .inl rfl, .inl rfl, .inr (.inl rfl), trivial⟩
    exact hs.mul ⟨l.take (l.length - 1 - i), by rw [← e2, show l.length - (i + 1) = l.length - 1 - i by omega, List.take_append_drop]⟩
  · rw [show (l.map PyData.int).reverse.length = l.length by rw [List.length_reverse, List.length_map], Nat.sub_self, List.drop_zero]
    exact Sxs.one (Sx.ret (Ev.tup (k := .fr) (Ea.cons (k := .fr) (by first | exact Ev.dat (k := .fr) 1 rfl | exact Ev.dat (k := .st) 1 rfl | exact Ev.dat (k := .vw) 1 rfl | exact Ev.arg 1 rfl | exact Ev.vw (Ev.arg 1 rfl) | exact Ev.own 1 rfl) (Ea.cons (k := .fr) (by first | exact Ev.dat (k := .fr) 2 rfl | exact Ev.dat (k := .st) 2 rfl | exact Ev.dat (k := .vw) 2 rfl | exact Ev.arg 2 rfl | exact Ev.vw (Ev.arg 2 rfl) | exact Ev.own 2 rfl) Ea.nil)) (by exact (by decide : 2 ≤ 100000))))
structure Def_value_of (P : Program) (w : World) (K : PySem.W.Frag) (mg : Str → Option Value) (base : Heap) : Prop where
  ok : Dfn P w K mg base 1 "value_of" (spF K R_value_of)
/-! ### fraction_of, of a chain -/
def p_fraction_of (xs : List PyData) : Prop := ∃ l : List Int, xs = [.list (l.map .int)] ∧ Sz l ∧ IsCh l
def r_fraction_of : List PyData → PyData
  | [d] => pairD (val (ints? d))
  | _ => .none
abbrev R_fraction_of := FR p_fraction_of r_fraction_of
theorem sc_fraction_of : FnScope ["chain"] ["chain"] (defScope s_fraction_of) := ⟨rfl, rfl, rfl, by decide +kernel, rfl, by decide +kernel, by decide +kernel⟩
theorem ok_fraction_of (F : Fun K "fraction_of" "fraction_of" s_fraction_of f fd) (B : Bn mg) (D_is_chain : Def_is_chain P w K mg base) (D_value_of : Def_value_of P w K mg base) : FnOk P w K mg base CX0 4 f fd ["chain"] (spF K R_fraction_of) := by
  refine fnF F sc_fraction_of (fun xs d ⟨⟨l, h, _⟩, _⟩ => by rw [h]; rfl) fun cdv A outer s H E hr xs d ⟨⟨l, h1, hs, hc⟩, h2⟩ => ?_
  subst h1 h2
  have t0 : Et (cxOf CX0 P w K mg base ["chain"] "fraction_of" (defScope s_fraction_of) f cdv A outer s H E).nox (stTest (nthS (defBody s_fraction_of) 0)) [.arg (.list (l.map .int))] (!chD (.list (l.map .int))) := (Et.not (Et.val (Ev.callF (k := .fr) D_is_chain.1 (hr.mono (by decide)) (Ea.consV (by first | exact Ev.dat (k := .fr) 0 rfl | exact Ev.dat (k := .st) 0 rfl | exact Ev.dat (k := .vw) 0 rfl | exact Ev.arg 0 rfl | exact Ev.vw (Ev.arg 0 rfl) | exact Ev.own 0 rfl) Ea.nil) (by exact ⟨_, rfl⟩))))
  exact Sxs.cons (Sx.skip (Et.is t0 (by rw [chD_ok hc]; rfl))) (Sxs.one (Sx.ret (Ev.callF (k := .fr) D_value_of.1 (hr.mono (by decide)) (Ea.consV (Ev.arg 0 rfl) Ea.nil) ⟨l, rfl, hs⟩)))
structure Def_fraction_of (P : Program) (w : World) (K : PySem.W.Frag) (mg : Str → Option Value) (base : Heap) : Prop where
  ok : Dfn P w K mg base 4 "fraction_of" (spF K R_fraction_of)
/-! ### chain_of, of a top and a bottom -/
def p_chain_of (xs : List PyData) : Prop := ∃ (t : Int) (b : Nat), xs = [.int t, .int (b : Int)] ∧ 1 ≤ b ∧ b < 2 ^ 9000
def eucD (xs : List PyData) : List Int := match xs with
  | [.int t, .int b] => euc t b.toNat
  | _ => []
def r_chain_of (xs : List PyData) : List PyData := (eucD xs).map .int
abbrev R_chain_of := NR p_chain_of r_chain_of
theorem sc_chain_of : FnScope ["top", "bottom", "quotients", "quotient", "rest"] ["top", "bottom"] (defScope s_chain_of) := ⟨rfl, rfl, rfl, by decide +kernel, rfl, by decide +kernel, by decide +kernel⟩
theorem divp {i : Int} {b : Nat} (h : b ≠ 0) (h9 : b < 2 ^ 9000) : CDivP i (b : Int) := by
  refine ⟨by omega, PyProof.noPylong_of_log2 ?_⟩
  rw [Int.natAbs_natCast]
  exact (Nat.log2_lt (by omega)).mpr h9
theorem ok_chain_of (F : Fun K "chain_of" "chain_of" s_chain_of f fd) (B : Bn mg) (D_is_whole_number : Def_is_whole_number P w K mg base) : FnOk P w K mg base CX0 2 f fd ["top", "bottom"] (spN K R_chain_of) := by
  refine fnN F sc_chain_of (fun xs d ⟨⟨t, b, h, _⟩, _⟩ => by rw [h]; rfl) fun cdv A outer s H E hr xs d ⟨⟨t, b, h1, hb1, hb⟩, h2⟩ => ?_
  subst h1 h2
  show Sxs _ _ _ (.rn ((euc t (b : Int).toNat).map .int))
  rw [Int.toNat_natCast]
  have t0 : Et (cxOf CX0 P w K mg base ["top", "bottom", "quotients", "quotient", "rest"] "chain_of" (defScope s_chain_of) f cdv A outer s H E).nox (stTest (nthS (defBody s_chain_of) 0)) [.dat (.int t), .dat (.int (b : Int)), .unk, .unk, .unk] (!decide ("int" = "int") || (!decide ("int" = "int") || decide ((b : Int) < 1))) := (Ew.et (Ew.or (Et.not (Et.val (Ev.callF (k := .fr) D_is_whole_number.1 (hr.mono (by decide)) (Ea.consV (by first | exact Ev.dat (k := .fr) 0 rfl | exact Ev.dat (k := .st) 0 rfl | exact Ev.dat (k := .vw) 0 rfl | exact Ev.arg 0 rfl | exact Ev.vw (Ev.arg 0 rfl) | exact Ev.own 0 rfl) Ea.nil) (by exact ⟨_, rfl⟩)))) fun _ => (Ew.or (Et.not (Et.val (Ev.callF (k := .fr) D_is_whole_number.1 (hr.mono (by decide)) (Ea.consV (by first | exact Ev.dat (k := .fr) 1 rfl | exact Ev.dat (k := .st) 1 rfl | exact Ev.dat (k := .vw) 1 rfl | exact Ev.arg 1 rfl | exact Ev.vw (Ev.arg 1 rfl) | exact Ev.own 1 rfl) Ea.nil) (by exact ⟨_, rfl⟩)))) fun _ => (Ew.or1 (Et.lt  (by first | exact Ev.dat (k := .fr) 1 rfl | exact Ev.dat (k := .st) 1 rfl | exact Ev.dat (k := .vw) 1 rfl | exact Ev.arg 1 rfl | exact Ev.vw (Ev.arg 1 rfl) | exact Ev.own 1 rfl) (Ev.int (k := .fr)))))))
  refine Sxs.cons (Sx.skip (Et.is t0 ?_)) ?_
  · rw [decide_eq_false (show ¬ (b : Int) < 1 by omega)]
    rfl
  refine Sxs.cons (Sx.setN 2 sc_chain_of.nd (En.lst Ea.nil (by exact (by decide : 0 ≤ 100000)))) ?_
  have hlen := euc_len 9000 b t hb
  refine Sxs.cons (Sx.whileI (o := .nx [.unk, .unk, .own ((euc t b).map .int), .unk, .unk])
    (fun m es => ∃ (t' : Int) (acc : List Int), m < 2 ^ 9000 ∧ acc ++ euc t' m = euc t b ∧ es = [.dat (.int t'), .dat (.int (m : Int)), .own (acc.map .int), .unk, .unk]) b PassesOwn.never ⟨t, [], hb, rfl, rfl⟩ ?_) (Sxs.one (Sx.retOwn 2 rfl))
  rintro m es ⟨t', acc, hm, he, rfl⟩
  have t1 : Et (cxOf CX0 P w K mg base ["top", "bottom", "quotients", "quotient", "rest"] "chain_of" (defScope s_chain_of) f cdv A outer s H E).nox (stTest (nthS (defBody s_chain_of) 2)) [.dat (.int t'), .dat (.int (m : Int)), .own (acc.map .int), .unk, .unk] (!decide ((m : Int) = 0)) := (Et.neI  hr (by first | exact Ev.dat (k := .fr) 1 rfl | exact Ev.dat (k := .st) 1 rfl | exact Ev.dat (k := .vw) 1 rfl | exact Ev.arg 1 rfl | exact Ev.vw (Ev.arg 1 rfl) | exact Ev.own 1 rfl) (Ev.int (k := .fr)))
  by_cases h0 : m = 0
  · subst h0
    rw [euc_zero, List.append_nil] at he
    rw [he]
    rw [he] at t1
    exact .inl ⟨t1, _, rfl, .inr (.inl rfl), .inr (.inl rfl), .inl rfl, .inr (.inl rfl), .inr (.inl rfl), trivial⟩
  · rw [euc_pos _ h0] at he
    have hr' : (t' % (m : Int)).toNat < m := by
      have h1 := Int.emod_lt_of_pos t' (show 0 < (m : Int) by omega)
      have h2 := Int.emod_nonneg t' (show (m : Int) ≠ 0 by omega)
      omega
    have er : ((t' % (m : Int)).toNat : Int) = t' % (m : Int) := Int.toNat_of_nonneg (Int.emod_nonneg t' (by omega))
    have hal : acc.length < 100000 := by
      have := congrArg List.length he
      rw [List.length_append] at this
      omega
    refine .inr ⟨Et.is t1 (by rw [decide_eq_false (show ¬ (m : Int) = 0 by omega)]; rfl), .inl ⟨(t' % (m : Int)).toNat, [.dat (.int (m : Int)), .dat (.int (t' % (m : Int))), .own ((acc ++ [t' / (m : Int)]).map .int), .unk, .unk], _, hr', ⟨(m : Int), acc ++ [t' / (m : Int)], by omega, by rw [List.append_assoc]; exact he, by rw [er]⟩, .nx, ?_⟩⟩
    refine Sxs.cons (Sx.asg (k := .fr) (Ev.divmod (k := .fr) B.divmod_ (Ev.dat (k := .fr) 0 rfl) (Ev.dat (k := .fr) 1 rfl) (divp h0 hm)) (Gx.tup rfl (Gxs.cons (Gx.name 3 sc_chain_of.nd) (Gxs.cons (Gx.name 4 sc_chain_of.nd) Gxs.nil)))) ?_
    refine Sxs.cons (Sx.append 2 rfl (Ev.dat (k := .fr) 3 rfl) (by rw [List.length_map]; exact hal)) ?_
    refine Sxs.wk (Sxs.one (Sx.par 0 1 rfl sc_chain_of.nd (by decide) (Ev.dat (k := .fr) 1 rfl) (Ev.dat (k := .fr) 4 rfl))) ⟨.inl rfl, .inl rfl, .inl ?_, .inr (.inl rfl), .inr (.inl rfl), trivial⟩
    rw [List.map_append]
    rfl
structure Def_chain_of (P : Program) (w : World) (K : PySem.W.Frag) (mg : Str → Option Value) (base : Heap) : Prop where
  ok : Dfn P w K mg base 2 "chain_of" (spN K R_chain_of)
/-! ### the law's drawn number -/
def mixF (c k : Int) : Int := let n := (c % 1000000007 + 7919 * k + 11) % 1000003; n * n % 1000003 * n % 1000003
theorem mixF_lo (c k : Int) : 0 ≤ mixF c k := Int.emod_nonneg _ (by decide)
theorem mixF_hi (c k : Int) : mixF c k < 1000003 := Int.emod_lt_of_pos _ (by decide)
def p__law_mixed (xs : List PyData) : Prop := ∃ c k : Int, xs = [.int c, .int k] ∧ 0 ≤ k ∧ k < 2 ^ 62
def r__law_mixed : List PyData → PyData
  | [.int c, .int k] => .int (mixF c k)
  | _ => .none
abbrev R__law_mixed := FR p__law_mixed r__law_mixed
theorem mulS {i j : Int} (h0 : 0 ≤ i) (h1 : i < 2 ^ 62) (g0 : 0 ≤ j) (g1 : j < 2 ^ 62) : CMulW i j :=
  wide_mul (a := 62) (b := 62) (by have : (2 : Int) ^ 62 = ((2 ^ 62 : Nat) : Int) := by decide
                                   omega) (by have : (2 : Int) ^ 62 = ((2 ^ 62 : Nat) : Int) := by decide
                                              omega) (by decide) (by decide) (by decide)
theorem sc__law_mixed : FnScope ["_law_cell", "_law_k", "_law_number"] ["_law_cell", "_law_k"] (defScope s__law_mixed) := ⟨rfl, rfl, rfl, by decide +kernel, rfl, by decide +kernel, by decide +kernel⟩
theorem ok__law_mixed (F : Fun K "_law_mixed" "_law_mixed" s__law_mixed f fd) : FnOk P w K mg base CX0 1 f fd ["_law_cell", "_law_k"] (spF K R__law_mixed) := by
  refine fnF F sc__law_mixed (fun xs d ⟨⟨l, k, h, _⟩, _⟩ => by rw [h]; rfl) fun cdv A outer s H E hr xs d ⟨⟨c, k, h1, k0, k1⟩, h2⟩ => ?_
  subst h1 h2
  have hm : ∀ z : Int, 0 ≤ z % 1000003 ∧ z % 1000003 < 2 ^ 62 := fun z => ⟨Int.emod_nonneg _ (by decide), Int.lt_trans (Int.emod_lt_of_pos _ (by decide)) (by decide)⟩
  refine Sxs.cons (Sx.set 2 sc__law_mixed.nd (Ev.mod (k := .fr) (Ev.add (k := .fr) (Ev.add (k := .fr) (Ev.mod (k := .fr) (by first | exact Ev.dat (k := .fr) 0 rfl | exact Ev.dat (k := .st) 0 rfl | exact Ev.dat (k := .vw) 0 rfl | exact Ev.arg 0 rfl | exact Ev.vw (Ev.arg 0 rfl) | exact Ev.own 0 rfl) (Ev.int (k := .fr)) (by decide)) (Ev.mul (k := .fr) (Ev.int (k := .fr)) (by first | exact Ev.dat (k := .fr) 1 rfl | exact Ev.dat (k := .st) 1 rfl | exact Ev.dat (k := .vw) 1 rfl | exact Ev.arg 1 rfl | exact Ev.vw (Ev.arg 1 rfl) | exact Ev.own 1 rfl) ?_)) (Ev.int (k := .fr))) (Ev.int (k := .fr)) (by decide))) (Sxs.one (Sx.ret (Ev.mod (k := .fr) (Ev.mul (k := .fr) (Ev.mod (k := .fr) (Ev.mul (k := .fr) (by first | exact Ev.dat (k := .fr) 2 rfl | exact Ev.dat (k := .st) 2 rfl | exact Ev.dat (k := .vw) 2 rfl | exact Ev.arg 2 rfl | exact Ev.vw (Ev.arg 2 rfl) | exact Ev.own 2 rfl) (by first | exact Ev.dat (k := .fr) 2 rfl | exact Ev.dat (k := .st) 2 rfl | exact Ev.dat (k := .vw) 2 rfl | exact Ev.arg 2 rfl | exact Ev.vw (Ev.arg 2 rfl) | exact Ev.own 2 rfl) ?_) (Ev.int (k := .fr)) (by decide)) (by first | exact Ev.dat (k := .fr) 2 rfl | exact Ev.dat (k := .st) 2 rfl | exact Ev.dat (k := .vw) 2 rfl | exact Ev.arg 2 rfl | exact Ev.vw (Ev.arg 2 rfl) | exact Ev.own 2 rfl) ?_) (Ev.int (k := .fr)) (by decide))))
  · exact mulS (by decide) (by decide) k0 k1
  · exact mulS (hm _).1 (hm _).2 (hm _).1 (hm _).2
  · exact mulS (hm _).1 (hm _).2 (hm _).1 (hm _).2
structure Def__law_mixed (P : Program) (w : World) (K : PySem.W.Frag) (mg : Str → Option Value) (base : Heap) : Prop where
  ok : Dfn P w K mg base 1 "_law_mixed" (spF K R__law_mixed)
/-! ### the law's quotient -/
def tabF (j : Int) : Int := if j = 0 then 10 ^ 30 else if j = 1 then 2 else if j = 2 then 9 else 10 ^ 6
def quoF (c : Int) : Int := 1 + c % tabF (c / 5 % 4)
theorem tabF_lo (j : Int) : 0 < tabF j := by
  unfold tabF
  split
  · decide
  · split
    · decide
    · split <;> decide
theorem tabF_hi (j : Int) : tabF j ≤ 10 ^ 30 := by
  unfold tabF
  split
  · exact Int.le_refl _
  · split
    · decide
    · split <;> decide
theorem quoF_lo (c : Int) : 1 ≤ quoF c := by
  have := Int.emod_nonneg c (show tabF (c / 5 % 4) ≠ 0 by have := tabF_lo (c / 5 % 4); omega)
  unfold quoF
  omega
theorem quoF_hi (c : Int) : quoF c ≤ 10 ^ 30 := by
  have h1 := Int.emod_lt_of_pos c (tabF_lo (c / 5 % 4))
  have h2 := tabF_hi (c / 5 % 4)
  unfold quoF
  omega
def r__law_quotient : List PyData → PyData
  | [.int c] => .int (quoF c)
  | _ => .none
def p__law_quotient (xs : List PyData) : Prop := ∃ c : Int, xs = [.int c]
abbrev R__law_quotient := FR p__law_quotient r__law_quotient
theorem sc__law_quotient : FnScope ["_law_cell"] ["_law_cell"] (defScope s__law_quotient) := ⟨rfl, rfl, rfl, by decide +kernel, rfl, by decide +kernel, by decide +kernel⟩
theorem tab_at {a b c d : PyData} {j : Int} (h0 : 0 ≤ j) (h4 : j < 4) : atI [a, b, c, d] j = some (if j = 0 then a else if j = 1 then b else if j = 2 then c else d) := by
  have : j = 0 ∨ j = 1 ∨ j = 2 ∨ j = 3 := by omega
  rcases this with rfl | rfl | rfl | rfl <;> rfl
theorem ok__law_quotient (F : Fun K "_law_quotient" "_law_quotient" s__law_quotient f fd) : FnOk P w K mg base CX0 1 f fd ["_law_cell"] (spF K R__law_quotient) := by
  refine fnF F sc__law_quotient (fun xs d ⟨⟨l, h⟩, _⟩ => by rw [h]; rfl) fun cdv A outer s H E hr xs d ⟨⟨c, h1⟩, h2⟩ => ?_
  subst h1 h2
  have hat : atI [PyData.int (10 ^ (30 : Int).toNat), .int 2, .int 9, .int (10 ^ (6 : Int).toNat)] (c / 5 % 4) = some (.int (tabF (c / 5 % 4))) := by
    rw [tab_at (Int.emod_nonneg _ (by decide)) (Int.emod_lt_of_pos _ (by decide))]
    unfold tabF
    split
    · rfl
    · split
      · rfl
      · split <;> rfl
  refine' Sxs.one (Sx.ret (Ev.add (k := .fr) (Ev.int (k := .fr)) (Ev.mod (k := .fr) (by first | exact Ev.dat (k := .fr) 0 rfl | exact Ev.dat (k := .st) 0 rfl | exact Ev.dat (k := .vw) 0 rfl | exact Ev.arg 0 rfl | exact Ev.vw (Ev.arg 0 rfl) | exact Ev.own 0 rfl) (Ev.ixLi (k := .fr) (Ev.ei (Ev.lst (k := .fr) (Ea.cons (k := .fr) (Ev.pow (k := .fr) (Ev.int (k := .fr)) (Ev.int (k := .fr)) ⟨by decide, by decide, by decide⟩) (Ea.cons (k := .fr) (Ev.int (k := .fr)) (Ea.cons (k := .fr) (Ev.int (k := .fr)) (Ea.cons (k := .fr) (Ev.pow (k := .fr) (Ev.int (k := .fr)) (Ev.int (k := .fr)) ⟨by decide, by decide, by decide⟩) Ea.nil)))) (by exact (by decide : 4 ≤ 100000)))) (Ev.mod (k := .fr) (Ev.fdivS (k := .fr) (by first | exact Ev.dat (k := .fr) 0 rfl | exact Ev.dat (k := .st) 0 rfl | exact Ev.dat (k := .vw) 0 rfl | exact Ev.arg 0 rfl | exact Ev.vw (Ev.arg 0 rfl) | exact Ev.own 0 rfl) (Ev.int (k := .fr)) ⟨by decide, by decide⟩) (Ev.int (k := .fr)) (by decide)) ?_) ?_)))
  · exact hat
  · exact tabF_lo _
structure Def__law_quotient (P : Program) (w : World) (K : PySem.W.Frag) (mg : Str → Option Value) (base : Heap) : Prop where
  ok : Dfn P w K mg base 1 "_law_quotient" (spF K R__law_quotient)
/-! ### the law's worth of quotients -/
def p__law_worth (xs : List PyData) : Prop := ∃ l : List Int, xs = [.list (l.map .int)] ∧ Sz l ∧ l ≠ []
def r__law_worth : List PyData → PyData
  | [d] => pairD (val (ints? d))
  | _ => .none
abbrev R__law_worth := FR p__law_worth r__law_worth
theorem sc__law_worth : FnScope ["_law_quotients", "_law_top", "_law_bottom", "_law_quotient_here"] ["_law_quotients"] (defScope s__law_worth) := ⟨rfl, rfl, rfl, by decide +kernel, rfl, by decide +kernel, by decide +kernel⟩
theorem ok__law_worth (F : Fun K "_law_worth" "_law_worth" s__law_worth f fd) : FnOk P w K mg base CX0 1 f fd ["_law_quotients"] (spF K R__law_worth) := by
  refine fnF F sc__law_worth (fun xs d ⟨⟨l, h, _⟩, _⟩ => by rw [h]; rfl) fun cdv A outer s H E hr xs d ⟨⟨l, h1, hs, hne⟩, h2⟩ => ?_
  subst h1 h2
  show Sxs _ _ _ (.rt (pairD (val (ints? (.list (l.map .int))))))
  rw [ints_map]
  obtain ⟨r, z, rfl⟩ : ∃ r z, l = r ++ [z] := ⟨l.dropLast, l.getLast hne, (List.dropLast_concat_getLast hne).symm⟩
  have hat : atI ((r ++ [z]).map PyData.int) (-1) = some (.int z) := atL (by rw [List.getLast?_map, List.getLast?_append]; rfl)
  have hcut : (cutD ((r ++ [z]).map PyData.int) none (some (-1))).reverse = (r.map PyData.int).reverse := by
    rw [cut_but, List.map_append, List.map_cons, List.map_nil, List.dropLast_concat]
  have I0 : ∀ z : Int, val [z] = (z, 1) := fun z => by
    show (z * 1 + 0, (1 : Int)) = (z, 1)
    rw [Int.mul_one, Int.add_zero]
  have hw : Wk .st (cxOf CX0 P w K mg base ["_law_quotients", "_law_top", "_law_bottom", "_law_quotient_here"] "_law_worth" (defScope s__law_worth) f cdv A outer s H E).nox (stTg (nthS (defBody s__law_worth) 1)) (stIter (nthS (defBody s__law_worth) 1)) [.arg (.list ((r ++ [z]).map .int)), .dat (.int z), .dat (.int 1), .unk] ((r.map PyData.int).reverse) := hcut ▸ (Wk.list (k := .st) (by decide) (Ev.rev (Ev.ei (Ev.slice (by first | exact Ei.own (k := .fr) 0 rfl | exact Ev.ei (Ev.dat (k := .fr) 0 rfl) | exact Ev.ei (Ev.dat (k := .st) 0 rfl) | exact Ev.ei (Ev.arg 0 rfl)) Eo.non (Eo.of (Ev.neg (k := .fr) (Ev.int (k := .fr))))))))
  refine Sxs.cons (Sx.par 1 2 rfl sc__law_worth.nd (by decide) (Ev.ixLi (k := .fr) (ka := .st) (kb := .fr) (Ev.ei (Ev.arg 0 rfl)) (Ev.neg (Ev.int (k := .fr))) hat) (Ev.int (k := .fr))) ?_
  refine Sxs.cons (Sx.forAll (k := .st) (xs := (r.map PyData.int).reverse) (fun i => [.arg (.list ((r ++ [z]).map .int)), .dat (.int (val (r.drop (r.length - i) ++ [z])).1), .dat (.int (val (r.drop (r.length - i) ++ [z])).2), .unk]) PassesOwn.never rfl hw ?_ fun i d hd => ?_) ?_
  · rw [Nat.sub_zero, List.drop_length, List.nil_append, I0]
    rfl
  · have hi : i < r.length := by
      have := (List.getElem?_eq_some_iff.mp hd).1
      rwa [List.length_reverse, List.length_map] at this
    rw [List.getElem?_reverse (by rw [List.length_map]; exact hi), List.length_map, List.getElem?_map, List.getElem?_eq_getElem (by omega)] at hd
    cases hd
    have e1 : r.length - i = (r.length - 1 - i) + 1 := by omega
    have e2 : r.drop (r.length - (i + 1)) = r[r.length - 1 - i] :: r.drop (r.length - i) := by
      rw [show r.length - (i + 1) = r.length - 1 - i by omega, e1]
      exact List.drop_eq_getElem_cons _
    refine ⟨_, _, _, Gx.sc trivial (Gx.name 3 sc__law_worth.nd), .nx, ?_⟩
    rw [e2]
    refine Sxs.wk (Sxs.one (Sx.par 1 2 rfl sc__law_worth.nd (by decide) (Ev.add (k := .fr) (Ev.mul (k := .fr) (Ev.dat (k := .fr) 3 rfl) (Ev.dat (k := .fr) 1 rfl) ?_) (Ev.dat (k := .fr) 2 rfl)) (Ev.dat (k := .fr) 1 rfl))) ⟨.inl rfl, .inl rfl, .inl rfl, .inr (.inl rfl), trivial⟩
    refine hs.mul ⟨r.take (r.length - 1 - i), ?_⟩
    show r ++ [z] = r.take (r.length - 1 - i) ++ (r[r.length - 1 - i] :: (r.drop (r.length - i) ++ [z]))
    rw [← List.cons_append, ← e2, show r.length - (i + 1) = r.length - 1 - i by omega, ← List.append_assoc, List.take_append_drop]
  · rw [show (r.map PyData.int).reverse.length = r.length by rw [List.length_reverse, List.length_map], Nat.sub_self, List.drop_zero]
    exact Sxs.one (Sx.ret (Ev.tup (k := .fr) (Ea.cons (k := .fr) (by first | exact Ev.dat (k := .fr) 1 rfl | exact Ev.dat (k := .st) 1 rfl | exact Ev.dat (k := .vw) 1 rfl | exact Ev.arg 1 rfl | exact Ev.vw (Ev.arg 1 rfl) | exact Ev.own 1 rfl) (Ea.cons (k := .fr) (by first | exact Ev.dat (k := .fr) 2 rfl | exact Ev.dat (k := .st) 2 rfl | exact Ev.dat (k := .vw) 2 rfl | exact Ev.arg 2 rfl | exact Ev.vw (Ev.arg 2 rfl) | exact Ev.own 2 rfl) Ea.nil)) (by exact (by decide : 2 ≤ 100000))))
structure Def__law_worth (P : Program) (w : World) (K : PySem.W.Frag) (mg : Str → Option Value) (base : Heap) : Prop where
  ok : Dfn P w K mg base 1 "_law_worth" (spF K R__law_worth)
/-! ### the law's whole number -/
def r__law_whole : List PyData → PyData
  | [d] => .bool (isI d)
  | _ => .none
def notDict : PyData → Prop
  | .dict _ => False
  | _ => True
def p__law_whole (xs : List PyData) : Prop := ∃ d, xs = [d] ∧ notDict d
abbrev R__law_whole := FR p__law_whole r__law_whole
theorem sc__law_whole : FnScope ["_law_found"] ["_law_found"] (defScope s__law_whole) := ⟨rfl, rfl, rfl, by decide +kernel, rfl, by decide +kernel, by decide +kernel⟩
theorem ok__law_whole (F : Fun K "_law_whole" "_law_whole" s__law_whole f fd) (B : Bn mg) : FnOk P w K mg base CX0 1 f fd ["_law_found"] (spF K R__law_whole) := by
  refine fnF F sc__law_whole (fun xs d ⟨⟨l, h, _⟩, _⟩ => by rw [h]; rfl) fun cdv A outer s H E hr xs d ⟨⟨x, h1, hd⟩, h2⟩ => ?_
  subst h1 h2
  cases x with
  | int i => exact Sxs.one (Sx.ret (Ev.is (Ev.andV (k := .fr) (Ev.isi (k := .fr) B.isinstance_ (by first | exact Ev.dat (k := .fr) 0 rfl | exact Ev.dat (k := .st) 0 rfl | exact Ev.dat (k := .vw) 0 rfl | exact Ev.arg 0 rfl | exact Ev.vw (Ev.arg 0 rfl) | exact Ev.own 0 rfl) B.int_ (T := "int") (by first | exact isi_ii | exact isi_bi | exact isi_li | exact isi_ti | exact isi_si | exact isi_ni) (by decide +kernel)) fun _ => (Ev.one (Ev.notV (k := .fr) (Ev.isi (k := .fr) B.isinstance_ (by first | exact Ev.dat (k := .fr) 0 rfl | exact Ev.dat (k := .st) 0 rfl | exact Ev.dat (k := .vw) 0 rfl | exact Ev.arg 0 rfl | exact Ev.vw (Ev.arg 0 rfl) | exact Ev.own 0 rfl) B.bool_ (T := "bool") (by first | exact isi_ib | exact isi_bb | exact isi_lb | exact isi_tb | exact isi_sb | exact isi_nb) (by decide +kernel))))) rfl))
  | bool b => exact Sxs.one (Sx.ret (Ev.is (Ev.andV (k := .fr) (Ev.isi (k := .fr) B.isinstance_ (by first | exact Ev.dat (k := .fr) 0 rfl | exact Ev.dat (k := .st) 0 rfl | exact Ev.dat (k := .vw) 0 rfl | exact Ev.arg 0 rfl | exact Ev.vw (Ev.arg 0 rfl) | exact Ev.own 0 rfl) B.int_ (T := "int") (by first | exact isi_ii | exact isi_bi | exact isi_li | exact isi_ti | exact isi_si | exact isi_ni) (by decide +kernel)) fun _ => (Ev.one (Ev.notV (k := .fr) (Ev.isi (k := .fr) B.isinstance_ (by first | exact Ev.dat (k := .fr) 0 rfl | exact Ev.dat (k := .st) 0 rfl | exact Ev.dat (k := .vw) 0 rfl | exact Ev.arg 0 rfl | exact Ev.vw (Ev.arg 0 rfl) | exact Ev.own 0 rfl) B.bool_ (T := "bool") (by first | exact isi_ib | exact isi_bb | exact isi_lb | exact isi_tb | exact isi_sb | exact isi_nb) (by decide +kernel))))) rfl))
  | none => exact Sxs.one (Sx.ret (Ev.is (Ev.andV (c' := false) (Ev.isi (k := .fr) B.isinstance_ (by first | exact Ev.dat (k := .fr) 0 rfl | exact Ev.dat (k := .st) 0 rfl | exact Ev.dat (k := .vw) 0 rfl | exact Ev.arg 0 rfl | exact Ev.vw (Ev.arg 0 rfl) | exact Ev.own 0 rfl) B.int_ (T := "int") (by first | exact isi_ii | exact isi_bi | exact isi_li | exact isi_ti | exact isi_si | exact isi_ni) (by decide +kernel)) fun h => by cases h) rfl))
  | str b => exact Sxs.one (Sx.ret (Ev.is (Ev.andV (c' := false) (Ev.isi (k := .fr) B.isinstance_ (by first | exact Ev.dat (k := .fr) 0 rfl | exact Ev.dat (k := .st) 0 rfl | exact Ev.dat (k := .vw) 0 rfl | exact Ev.arg 0 rfl | exact Ev.vw (Ev.arg 0 rfl) | exact Ev.own 0 rfl) B.int_ (T := "int") (by first | exact isi_ii | exact isi_bi | exact isi_li | exact isi_ti | exact isi_si | exact isi_ni) (by decide +kernel)) fun h => by cases h) rfl))
  | list b => exact Sxs.one (Sx.ret (Ev.is (Ev.andV (c' := false) (Ev.isi (k := .fr) B.isinstance_ (by first | exact Ev.dat (k := .fr) 0 rfl | exact Ev.dat (k := .st) 0 rfl | exact Ev.dat (k := .vw) 0 rfl | exact Ev.arg 0 rfl | exact Ev.vw (Ev.arg 0 rfl) | exact Ev.own 0 rfl) B.int_ (T := "int") (by first | exact isi_ii | exact isi_bi | exact isi_li | exact isi_ti | exact isi_si | exact isi_ni) (by decide +kernel)) fun h => by cases h) rfl))
  | tuple b => exact Sxs.one (Sx.ret (Ev.is (Ev.andV (c' := false) (Ev.isi (k := .fr) B.isinstance_ (by first | exact Ev.dat (k := .fr) 0 rfl | exact Ev.dat (k := .st) 0 rfl | exact Ev.dat (k := .vw) 0 rfl | exact Ev.arg 0 rfl | exact Ev.vw (Ev.arg 0 rfl) | exact Ev.own 0 rfl) B.int_ (T := "int") (by first | exact isi_ii | exact isi_bi | exact isi_li | exact isi_ti | exact isi_si | exact isi_ni) (by decide +kernel)) fun h => by cases h) rfl))
  | dict b => exact hd.elim
structure Def__law_whole (P : Program) (w : World) (K : PySem.W.Frag) (mg : Str → Option Value) (base : Heap) : Prop where
  ok : Dfn P w K mg base 1 "_law_whole" (spF K R__law_whole)
/-! ### the law's look at a list -/
def p__law_list_of (xs : List PyData) : Prop := ∃ is js : List Int, xs = [.list (is.map .int), .list (js.map .int)] ∧ is.length ≤ 80000
def r__law_list_of : List PyData → PyData
  | [a, b] => .bool (decide (ints? a = ints? b))
  | _ => .none
abbrev R__law_list_of := FR p__law_list_of r__law_list_of
theorem sc__law_list_of : FnScope ["_law_found", "_law_due", "_law_one"] ["_law_found", "_law_due"] (defScope s__law_list_of) := ⟨rfl, rfl, rfl, by decide +kernel, rfl, by decide +kernel, by decide +kernel⟩
theorem ok__law_list_of (F : Fun K "_law_list_of" "_law_list_of" s__law_list_of f fd) (B : Bn mg) (D__law_whole : Def__law_whole P w K mg base) : FnOk P w K mg base CX0 2 f fd ["_law_found", "_law_due"] (spF K R__law_list_of) := by
  refine fnF F sc__law_list_of (fun xs d ⟨⟨l, k, h, _⟩, _⟩ => by rw [h]; rfl) fun cdv A outer s H E hr xs d ⟨⟨is, js, h1, hz⟩, h2⟩ => ?_
  subst h1 h2
  show Sxs _ _ _ (.rt (.bool (decide (ints? (.list (is.map .int)) = ints? (.list (js.map .int))))))
  rw [ints_map, ints_map]
  refine Sxs.one (Sx.ret ?_)
  have hC : En (cxOf CX0 P w K mg base ["_law_found", "_law_due", "_law_one"] "_law_list_of" (defScope s__law_list_of) f cdv A outer s H E).nox (cmpL (boolV (stVal (nthS (defBody s__law_list_of) 0)) 2)) [.arg (.list (is.map .int)), .arg (.list (js.map .int)), .unk] [] := by
    refine (En.lcNone (own := [("_law_one", 2)]) rfl sc__law_list_of.nd (by first | exact Wk.list (k := .fr) (by decide) (Ev.dat 0 rfl) | exact Wk.list (k := .st) (by decide) (Ev.dat 0 rfl) | exact Wk.list (k := .st) (by decide) (Ev.arg 0 rfl)) (blkOk_by (N := ["_law_found", "_law_due", "_law_one"]) (sc := defScope s__law_list_of) (by decide +kernel)) ?_ ?_)
    · rw [List.length_map]; omega
    · intro i d hd
      obtain ⟨z, rfl, _⟩ := at_ints hd
      exact ⟨_, _, fun i hi => hi, fun s H C cl fp => Gx.sc trivial (Gx.name 2 sc__law_list_of.nd), fun s H C cl fp => Et.is (Et.not (Et.val (Ev.callF (k := .fr) D__law_whole.1 (hr.mono (by decide)) (Ea.consV (Ev.dat (k := .fr) 2 rfl) Ea.nil) ⟨_, rfl, trivial⟩))) rfl⟩
  refine' Ev.is (x := .bool (true && (decide (is = js) && true))) (Ev.andV (Ev.isi (k := .fr) B.isinstance_ (by first | exact Ev.dat (k := .fr) 0 rfl | exact Ev.dat (k := .st) 0 rfl | exact Ev.dat (k := .vw) 0 rfl | exact Ev.arg 0 rfl | exact Ev.vw (Ev.arg 0 rfl) | exact Ev.own 0 rfl) B.list_ (T := "list") (by first | exact isi_il | exact isi_bl | exact isi_ll | exact isi_tl | exact isi_sl | exact isi_nl) (by decide +kernel)) fun _ => Ev.andV (Ev.eq (k := .fr) hr (by first | exact Ev.dat (k := .fr) 0 rfl | exact Ev.dat (k := .st) 0 rfl | exact Ev.dat (k := .vw) 0 rfl | exact Ev.arg 0 rfl | exact Ev.vw (Ev.arg 0 rfl) | exact Ev.own 0 rfl) (by first | exact Ev.dat (k := .fr) 1 rfl | exact Ev.dat (k := .st) 1 rfl | exact Ev.dat (k := .vw) 1 rfl | exact Ev.arg 1 rfl | exact Ev.vw (Ev.arg 1 rfl) | exact Ev.own 1 rfl) ?_ ?_ ?_) fun _ => Ev.one (Ev.eq (k := .fr) hr (En.ev (k := .fr) hC) (Ev.lst (k := .fr) Ea.nil (Nat.zero_le _)) rfl rfl rfl)) ?_
  · exact shaped_ints is
  · exact shaped_ints js
  · exact eqv_ints is js
  · rw [Bool.true_and, Bool.and_true]
structure Def__law_list_of (P : Program) (w : World) (K : PySem.W.Frag) (mg : Str → Option Value) (base : Heap) : Prop where
  ok : Dfn P w K mg base 2 "_law_list_of" (spF K R__law_list_of)
/-! ### the law -/
theorem sc_law : FnScope ["_law_script", "_law_cells", "_law_cell", "_law_chain", "_law_top", "_law_bottom", "_law_factor", "_law_handed", "_law_times", "_law_turn", "_law_found", "_law_told"] ["_law_script"] (defScope s_law) := ⟨rfl, rfl, rfl, by decide +kernel, rfl, by decide +kernel, by decide +kernel⟩
def facF (l : List Int) : Int := l.foldl (fun f c => 1 + (f * 1000003 + c) % 10 ^ 60) 1
theorem facF_step (l : List Int) (c : Int) : facF (l ++ [c]) = 1 + (facF l * 1000003 + c) % 10 ^ 60 := by
  unfold facF
  rw [List.foldl_append]
  rfl
theorem facF_b (l : List Int) : 1 ≤ facF l ∧ facF l ≤ 10 ^ 60 := by
  have h : l = [] ∨ ∃ a c, l = a ++ [c] := by
    cases hl : l.getLast? with
    | none => exact .inl (List.getLast?_eq_none_iff.mp hl)
    | some c => exact .inr (let ⟨a, e⟩ := List.getLast?_eq_some_iff.mp hl; ⟨a, c, e⟩)
  rcases h with rfl | ⟨a, c, rfl⟩
  · exact ⟨Int.le_refl 1, by decide⟩
  · rw [facF_step]
    have h1 := Int.emod_nonneg (facF a * 1000003 + c) (show (10 : Int) ^ 60 ≠ 0 by decide)
    have h2 := Int.emod_lt_of_pos (facF a * 1000003 + c) (show (0 : Int) < 10 ^ 60 by decide)
    exact ⟨by omega, by omega⟩
theorem pow30 : (10 : Int) ^ 30 + 3 ≤ ((2 ^ 100 : Nat) : Int) := by decide
theorem pow60 : (10 : Int) ^ 60 + 3 ≤ ((2 ^ 200 : Nat) : Int) := by decide
theorem sz_of {l : List Int} (h : ∀ q ∈ l, q.natAbs ≤ 10 ^ 30 + 1) (hl : l.length ≤ 64) : Sz l := by
  refine sz_pow (m := 100) (fun q hq => ?_) (by omega)
  have := h q hq
  have e : (10 : Nat) ^ 30 + 3 ≤ 2 ^ 100 := by decide
  omega
/-- times a factor: sizes -/
theorem fac_mul {t v : Int} {l : List Int} (hs : ∀ q ∈ l, q.natAbs ≤ 10 ^ 30 + 1) (hl : l.length ≤ 60) (ht : t.natAbs ≤ 2 ^ (100 * l.length)) (hv : 1 ≤ v) (hv2 : v ≤ 10 ^ 60) : CMulW t v ∧ (t * v).natAbs < 2 ^ 9000 := by
  have h1 : t.natAbs < 2 ^ 6001 := Nat.lt_of_le_of_lt ht (Nat.pow_lt_pow_right (by decide) (by omega))
  have h2 : v.natAbs < 2 ^ 200 := by
    have := pow60
    omega
  exact ⟨wide_mul h1 h2 (by decide) (by decide) (by decide), Nat.lt_of_lt_of_le (wide_lt h1 h2) (Nat.pow_le_pow_right (by decide) (by decide))⟩
theorem set_end : ∀ (a : List PyData) (x y : PyData), (a ++ [x]).set a.length y = a ++ [y]
  | [], _, _ => rfl
  | b :: a, x, y => congrArg (b :: ·) (set_end a x y)
theorem set_last (q z y : Int) (r : List Int) : ((q :: (r ++ [z])).map PyData.int).set (r.length + 1) (.int y) = (q :: (r ++ [y])).map .int := by
  have e : ∀ c : Int, (q :: (r ++ [c])).map PyData.int = (.int q :: r.map PyData.int) ++ [.int c] := fun c => by
    rw [List.map_cons, List.map_append]
    rfl
  rw [e, e, ← set_end (.int q :: r.map PyData.int) (.int z) (.int y), List.length_cons, List.length_map]
theorem ok_law (F : Fun K "law" "law" s_law f fd) (B : Bn mg) (D__law_mixed : Def__law_mixed P w K mg base) (D__law_quotient : Def__law_quotient P w K mg base) (D__law_worth : Def__law_worth P w K mg base) (D__law_whole : Def__law_whole P w K mg base) (D__law_list_of : Def__law_list_of P w K mg base)
    (D_chain_of : Def_chain_of P w K mg base) (D_fraction_of : Def_fraction_of P w K mg base) (D_is_chain : Def_is_chain P w K mg base) (D_is_begun : Def_is_begun P w K mg base) : FnOk P w K mg base CX0 6 f fd ["_law_script"] (spF K Script) := by
  refine fnF F sc_law (fun xs d ⟨l, h, _⟩ => by rw [h]; rfl) fun cdv A outer s H E hr xs d ⟨ns, h1, hl, _, h2⟩ => ?_
  subst h1 h2
  have hcl : (ns.take 60).length ≤ 60 := by rw [List.length_take]; omega
  generalize hcs : ns.take 60 = cs at hcl
  refine Sxs.cons (Sx.set 1 sc_law.nd (Ev.is (Ev.slice (k := .fr) (Ei.ints (Ev.ei (Ev.arg 0 rfl))) Eo.non (Eo.of (Ev.int (k := .fr)))) (congrArg PyData.list ((take_ints ns 60).trans (by rw [hcs]))))) ?_
  -- behind the chain's making: any chain of that size
  suffices rest : ∀ L : List Int, IsCh L → (∀ q ∈ L, q.natAbs ≤ 10 ^ 30 + 1) → L.length ≤ 60 →
      Sxs (cxOf CX0 P w K mg base ["_law_script", "_law_cells", "_law_cell", "_law_chain", "_law_top", "_law_bottom", "_law_factor", "_law_handed", "_law_times", "_law_turn", "_law_found", "_law_told"] "law" (defScope s_law) f cdv A outer s H E).nox ((defBody s_law).drop 4) [.arg (.list (ns.map .int)), .dat (.list (cs.map .int)), .unk, .own (L.map .int), .unk, .unk, .unk, .unk, .unk, .unk, .unk, .unk] (.rt (.bool true)) by
    have hC : En (cxOf CX0 P w K mg base ["_law_script", "_law_cells", "_law_cell", "_law_chain", "_law_top", "_law_bottom", "_law_factor", "_law_handed", "_law_times", "_law_turn", "_law_found", "_law_told"] "law" (defScope s_law) f cdv A outer s H E).nox (boolV (stVal (nthS (defBody s_law) 1)) 0) [.arg (.list (ns.map .int)), .dat (.list (cs.map .int)), .unk, .unk, .unk, .unk, .unk, .unk, .unk, .unk, .unk, .unk] ((cs.map quoF).map .int) := by
      refine En.is (En.lcMap (own := [("_law_cell", 2)]) rfl sc_law.nd (by first | exact Wk.list (k := .fr) (by decide) (Ev.dat 1 rfl) | exact Wk.list (k := .st) (by decide) (Ev.dat 1 rfl) | exact Wk.list (k := .st) (by decide) (Ev.arg 1 rfl)) (blkOk_by (N := ["_law_script", "_law_cells", "_law_cell", "_law_chain", "_law_top", "_law_bottom", "_law_factor", "_law_handed", "_law_times", "_law_turn", "_law_found", "_law_told"]) (sc := defScope s_law) (by decide +kernel)) ?_ ?_ ?_ ?_) (ys := (cs.map quoF).map .int) ?_
      · exact (cs.map quoF).map .int
      · rw [List.length_map, List.length_map, List.length_map]
      · rw [List.length_map]; omega
      · intro i d y hd hy
        obtain ⟨c, rfl, hc⟩ := at_ints hd
        obtain ⟨z, rfl, hz⟩ := at_ints hy
        rw [List.getElem?_map, hc] at hz
        cases hz
        exact ⟨_, _, fun i hi => hi, fun s H C cl fp => Gx.sc trivial (Gx.name 2 sc_law.nd), fun s H C cl fp => Ev.callF (k := .fr) D__law_quotient.1 (hr.mono (by decide)) (Ea.consV (Ev.dat (k := .fr) 2 rfl) Ea.nil) ⟨_, rfl⟩⟩
      · rfl
    -- the first quotient, then the others
    have first : ∀ (q : Int) (r : List Int), 0 ≤ q → q ≤ 10 ^ 30 → (∀ x ∈ r, 1 ≤ x ∧ x ≤ 10 ^ 30) → r.length ≤ 59 →
        Sxs (cxOf CX0 P w K mg base ["_law_script", "_law_cells", "_law_cell", "_law_chain", "_law_top", "_law_bottom", "_law_factor", "_law_handed", "_law_times", "_law_turn", "_law_found", "_law_told"] "law" (defScope s_law) f cdv A outer s H E).nox ((defBody s_law).drop 2) [.arg (.list (ns.map .int)), .dat (.list (cs.map .int)), .unk, .own ((q :: r).map .int), .unk, .unk, .unk, .unk, .unk, .unk, .unk, .unk] (.rt (.bool true)) := by
      intro q r hq0 hq1 hr1 hr2
      have hsg : ∀ m : Int, 0 ≤ m → m < 3 → atI [PyData.int 1, .int (-1), .int 0] m = some (.int (if m = 0 then 1 else if m = 1 then -1 else 0)) := fun m h0 h3 => by
        have : m = 0 ∨ m = 1 ∨ m = 2 := by omega
        rcases this with rfl | rfl | rfl <;> rfl
      have m3 : ∀ z : Int, 0 ≤ z % 3 ∧ z % 3 < 3 := fun z => ⟨Int.emod_nonneg _ (by decide), Int.emod_lt_of_pos _ (by decide)⟩
      generalize hsv : (if mixF q 1 % 3 = 0 then (1 : Int) else if mixF q 1 % 3 = 1 then -1 else 0) = sv
      have hsb : -1 ≤ sv ∧ sv ≤ 1 := by
        rw [← hsv]
        split
        · decide
        · split <;> decide
      have p30 : (10 : Int) ^ 30 + 3 ≤ ((2 ^ 100 : Nat) : Int) := pow30
      refine' Sxs.cons (Sx.setItem 3 rfl (Ev.sub (k := .fr) (Ev.mul (k := .fr) (Ev.ixLi (k := .fr) (by first | exact Ei.own (k := .fr) 3 rfl | exact Ev.ei (Ev.dat (k := .fr) 3 rfl) | exact Ev.ei (Ev.dat (k := .st) 3 rfl) | exact Ev.ei (Ev.arg 3 rfl)) (Ev.int (k := .fr)) at0) (Ev.ixLi (k := .fr) (Ev.ei (Ev.lst (k := .fr) (Ea.cons (k := .fr) (Ev.int (k := .fr)) (Ea.cons (k := .fr) (Ev.neg (k := .fr) (Ev.int (k := .fr))) (Ea.cons (k := .fr) (Ev.int (k := .fr)) Ea.nil))) (by exact (by decide : 3 ≤ 100000)))) (Ev.mod (k := .fr) (Ev.callF (k := .fr) D__law_mixed.1 (hr.mono (by decide)) (Ea.consV (Ev.ixLi (k := .fr) (by first | exact Ei.own (k := .fr) 3 rfl | exact Ev.ei (Ev.dat (k := .fr) 3 rfl) | exact Ev.ei (Ev.dat (k := .st) 3 rfl) | exact Ev.ei (Ev.arg 3 rfl)) (Ev.int (k := .fr)) at0) (Ea.consV (Ev.int (k := .fr)) Ea.nil)) ?_) (Ev.int (k := .fr)) (by decide)) ?_) ?_) (Ev.intB (k := .fr) B.int_ (Ev.eqI (k := .fr) hr (Ev.mod (k := .fr) (Ev.callF (k := .fr) D__law_mixed.1 (hr.mono (by decide)) (Ea.consV (Ev.ixLi (k := .fr) (by first | exact Ei.own (k := .fr) 3 rfl | exact Ev.ei (Ev.dat (k := .fr) 3 rfl) | exact Ev.ei (Ev.dat (k := .st) 3 rfl) | exact Ev.ei (Ev.arg 3 rfl)) (Ev.int (k := .fr)) at0) (Ea.consV (Ev.int (k := .fr)) Ea.nil)) ?_) (Ev.int (k := .fr)) (by decide)) (Ev.int (k := .fr))))) (Ev.int (k := .fr)) (ixN_nat (j := 0) (by rw [List.length_map]; exact Nat.zero_lt_succ _))) ?_
      · exact sv
      · exact ⟨q, 1, rfl, by decide, by decide⟩
      · rw [← hsv]
        exact hsg _ (m3 _).1 (m3 _).2
      · exact wide_mul (a := 100) (b := 2) (by omega) (by omega) (by decide) (by decide) (by decide)
      · exact ⟨q, 2, rfl, by decide, by decide⟩
      have hbb : ∀ c : Bool, 0 ≤ (if c = true then (1 : Int) else 0) ∧ (if c = true then (1 : Int) else 0) ≤ 1 := fun c => by cases c <;> decide
      have hb := hbb (decide (mixF q 2 % 3 = 0))
      generalize (if decide (mixF q 2 % 3 = 0) = true then (1 : Int) else 0) = b at hb ⊢
      have hq' : (q * sv - b).natAbs ≤ 10 ^ 30 + 1 := by
        have : sv = -1 ∨ sv = 0 ∨ sv = 1 := by omega
        rcases this with h | h | h <;> rw [h] <;> omega
      generalize hqe : q * sv - b = q' at hq'
      show Sxs _ _ [.arg (.list (ns.map .int)), .dat (.list (cs.map .int)), .unk, .own ((q' :: r).map .int), .unk, .unk, .unk, .unk, .unk, .unk, .unk, .unk] _
      have hcat : r = [] ∨ ∃ r' z, r = r' ++ [z] := by
        cases hl : r.getLast? with
        | none => exact .inl (List.getLast?_eq_none_iff.mp hl)
        | some c => exact .inr (let ⟨a, e⟩ := List.getLast?_eq_some_iff.mp hl; ⟨a, c, e⟩)
      rcases hcat with rfl | ⟨r', z, rfl⟩
      · refine Sxs.cons (Sx.skip (Et.is (Ew.et (Ew.andF (Et.is (Et.gt  (Ev.lenL (k := .fr) B.len_ (by first | exact Ev.dat (k := .fr) 3 rfl | exact Ev.dat (k := .st) 3 rfl | exact Ev.dat (k := .vw) 3 rfl | exact Ev.arg 3 rfl | exact Ev.vw (Ev.arg 3 rfl) | exact Ev.own 3 rfl)) (Ev.int (k := .fr))) rfl))) rfl)) (rest [q'] ⟨by simp, fun x hx => (nomatch hx), fun h => absurd h (by show ¬ 1 > 1; decide)⟩ (fun x hx => ?_) (show 1 ≤ 60 by decide))
        rw [List.mem_singleton.mp hx]
        exact hq'
      · have hat : atI ((q' :: (r' ++ [z])).map PyData.int) (-1) = some (.int z) := atL (by rw [List.getLast?_map, ← List.cons_append, List.getLast?_append]; rfl)
        have t3 : Et (cxOf CX0 P w K mg base ["_law_script", "_law_cells", "_law_cell", "_law_chain", "_law_top", "_law_bottom", "_law_factor", "_law_handed", "_law_times", "_law_turn", "_law_found", "_law_told"] "law" (defScope s_law) f cdv A outer s H E).nox (stTest (nthS (defBody s_law) 3)) [.arg (.list (ns.map .int)), .dat (.list (cs.map .int)), .unk, .own ((q' :: (r' ++ [z])).map .int), .unk, .unk, .unk, .unk, .unk, .unk, .unk, .unk] (decide (z = 1)) := by
          refine' Et.is (Ew.et (Ew.and (Et.gt  (Ev.lenL (k := .fr) B.len_ (by first | exact Ev.dat (k := .fr) 3 rfl | exact Ev.dat (k := .st) 3 rfl | exact Ev.dat (k := .vw) 3 rfl | exact Ev.arg 3 rfl | exact Ev.vw (Ev.arg 3 rfl) | exact Ev.own 3 rfl)) (Ev.int (k := .fr))) fun _ => (Ew.and1 (Et.eqI  hr (Ev.ixLi (k := .fr) (by first | exact Ei.own (k := .fr) 3 rfl | exact Ev.ei (Ev.dat (k := .fr) 3 rfl) | exact Ev.ei (Ev.dat (k := .st) 3 rfl) | exact Ev.ei (Ev.arg 3 rfl)) (Ev.neg (k := .fr) (Ev.int (k := .fr))) ?_) (Ev.int (k := .fr)))))) ?_
          · exact z
          · exact hat
          · rw [decide_eq_true (show (1 : Int) < (((q' :: (r' ++ [z])).map PyData.int).length : Int) by rw [List.length_map, List.length_cons, List.length_append, List.length_singleton]; omega), Bool.true_and]
        have hz := hr1 z (by simp)
        have p30' : (10 : Nat) ^ 30 + 3 ≤ 2 ^ 100 := by decide
        by_cases hz1 : z = 1
        · refine Sxs.cons (Sx.ifT (Et.is t3 (decide_eq_true hz1)) (Sxs.one (Sx.setItem 3 rfl (Ev.int (k := .fr)) (Ev.neg (k := .fr) (Ev.int (k := .fr))) (m := r'.length + 1) (by rw [List.length_map, List.length_cons, List.length_append, List.length_singleton]; exact ixN_last _)))) ?_
          have e : ((q' :: (r' ++ [z])).map PyData.int).set (r'.length + 1) (.int 2) = (q' :: (r' ++ [2])).map .int := by
            exact set_last q' z 2 r'
          show Sxs _ _ [.arg (.list (ns.map .int)), .dat (.list (cs.map .int)), .unk, .own (((q' :: (r' ++ [z])).map PyData.int).set (r'.length + 1) (.int 2)), .unk, .unk, .unk, .unk, .unk, .unk, .unk, .unk] _
          rw [e]
          refine rest (q' :: (r' ++ [2])) ⟨by simp, fun x hx => ?_, fun _ => ?_⟩ (fun x hx => ?_) ?_
          · rcases List.mem_append.mp hx with h | h
            · exact (hr1 x (List.mem_append_left _ h)).1
            · rw [List.mem_singleton.mp h]; decide
          · rw [← List.cons_append, List.getLast?_append]
            show some (2 : Int) ≠ some 1
            decide
          · rcases List.mem_cons.mp hx with h | h
            · rw [h]; exact hq'
            · rcases List.mem_append.mp h with h | h
              · have := hr1 x (List.mem_append_left _ h)
                omega
              · rw [List.mem_singleton.mp h]; decide
          · rw [List.length_cons, List.length_append, List.length_singleton]
            rw [List.length_append, List.length_singleton] at hr2
            omega
        · refine Sxs.cons (Sx.skip (Et.is t3 (decide_eq_false hz1))) (rest (q' :: (r' ++ [z])) ⟨by simp, fun x hx => (hr1 x hx).1, fun _ => ?_⟩ (fun x hx => ?_) ?_)
          · rw [← List.cons_append, List.getLast?_append]
            exact fun h => hz1 (Option.some.inj h)
          · rcases List.mem_cons.mp hx with h | h
            · rw [h]; exact hq'
            · have := hr1 x h
              omega
          · rw [List.length_cons]
            omega
    refine Sxs.cons (Sx.setN 3 sc_law.nd (En.orX hC fun _ => En.one (En.lst (Ea.cons (k := .fr) (Ev.int (k := .fr)) Ea.nil) (by exact (by decide : 1 ≤ 100000))))) ?_
    cases cs with
    | nil => exact first 0 [] (by decide) (by decide) (fun x hx => nomatch hx) (by decide)
    | cons c r =>
      refine first (quoF c) (r.map quoF) (by have := quoF_lo c; omega) (quoF_hi c) (fun x hx => ?_) (by rw [List.length_map]; exact Nat.le_of_succ_le_succ hcl)
      obtain ⟨y, _, rfl⟩ := List.mem_map.mp hx
      exact ⟨quoF_lo y, quoF_hi y⟩
  intro L hc hs hL
  have hSz := sz_of hs (show L.length ≤ 64 by omega)
  have hv := val_size (m := 100) (l := L) fun q hq => by
    have := hs q hq
    have e : (10 : Nat) ^ 30 + 3 ≤ 2 ^ 100 := by decide
    omega
  have hbot := val_bot hc.ne hc.pos
  refine Sxs.freeze 3 rfl ?_
  refine Sxs.cons (Sx.asg (k := .fr) (Ev.callF (k := .fr) D__law_worth.1 (hr.mono (by decide)) (Ea.consV (Ev.dat (k := .fr) 3 rfl) Ea.nil) ⟨L, rfl, hSz, hc.ne⟩ (by show pairD (val (ints? (.list (L.map .int)))) = _; rw [ints_map]; rfl)) (Gx.tup rfl (Gxs.cons (Gx.name 4 sc_law.nd) (Gxs.cons (Gx.name 5 sc_law.nd) Gxs.nil)))) ?_
  refine Sxs.cons (Sx.set 6 sc_law.nd (Ev.int (k := .fr))) ?_
  refine Sxs.cons (Sx.forAll (k := .fr) (xs := cs.map .int) (fun i => [.arg (.list (ns.map .int)), .dat (.list (cs.map .int)), .unk, .dat (.list (L.map .int)), .dat (.int (val L).1), .dat (.int (val L).2), .dat (.int (facF (cs.take i))), .unk, .unk, .unk, .unk, .unk]) PassesOwn.never rfl (by first | exact Wk.list (k := .fr) (by decide) (Ev.dat 1 rfl) | exact Wk.list (k := .st) (by decide) (Ev.dat 1 rfl) | exact Wk.list (k := .st) (by decide) (Ev.arg 1 rfl)) rfl fun i d hd => ?_) ?_
  · obtain ⟨c, rfl, hci⟩ := at_ints hd
    refine ⟨_, _, _, Gx.name 2 sc_law.nd, .nx, ?_⟩
    have hi : i < cs.length := (List.getElem?_eq_some_iff.mp hci).1
    have e1 : cs.take (i + 1) = cs.take i ++ [c] := by
      rw [List.take_succ_eq_append_getElem hi]
      rw [List.getElem?_eq_getElem hi] at hci
      cases hci
      rfl
    refine Sxs.wk (Sxs.one (Sx.set 6 sc_law.nd (Ev.add (k := .fr) (Ev.int (k := .fr)) (Ev.mod (k := .fr) (Ev.add (k := .fr) (Ev.mul (k := .fr) (by first | exact Ev.dat (k := .fr) 6 rfl | exact Ev.dat (k := .st) 6 rfl | exact Ev.dat (k := .vw) 6 rfl | exact Ev.arg 6 rfl | exact Ev.vw (Ev.arg 6 rfl) | exact Ev.own 6 rfl) (Ev.int (k := .fr)) ?_) (by first | exact Ev.dat (k := .fr) 2 rfl | exact Ev.dat (k := .st) 2 rfl | exact Ev.dat (k := .vw) 2 rfl | exact Ev.arg 2 rfl | exact Ev.vw (Ev.arg 2 rfl) | exact Ev.own 2 rfl)) (Ev.pow (k := .fr) (Ev.int (k := .fr)) (Ev.int (k := .fr)) ⟨by decide, by decide, by decide⟩) ?_)))) ?_
    · have := facF_b (cs.take i)
      have := pow60
      exact wide_mul (a := 200) (b := 20) (by omega) (by decide) (by decide) (by decide) (by decide)
    · decide
    · exact ⟨.inl rfl, .inl rfl, .inr (.inl rfl), .inl rfl, .inl rfl, .inl rfl, .inl (by rw [e1, facF_step]; rfl), .inl rfl, .inl rfl, .inl rfl, .inl rfl, .inl rfl, trivial⟩
  rw [List.length_map, List.take_length]
  refine Sxs.cons (Sx.set 7 sc_law.nd (Ev.listOf B.list_ (by first | exact Ei.own (k := .fr) 3 rfl | exact Ev.ei (Ev.dat (k := .fr) 3 rfl) | exact Ev.ei (Ev.dat (k := .st) 3 rfl) | exact Ev.ei (Ev.arg 3 rfl)))) ?_
  refine Sxs.cons (Sx.forStay (k := .fr) PassesOwn.never rfl (Wk.tup (k := .fr) (by decide) (Ev.tup (k := .fr) (Ea.cons (k := .fr) (Ev.int (k := .fr)) (Ea.cons (k := .fr) (by first | exact Ev.dat (k := .fr) 6 rfl | exact Ev.dat (k := .st) 6 rfl | exact Ev.dat (k := .vw) 6 rfl | exact Ev.arg 6 rfl | exact Ev.vw (Ev.arg 6 rfl) | exact Ev.own 6 rfl) Ea.nil)) (by exact (by decide : 2 ≤ 100000)))) fun i d hd => ?_) (Sxs.one (Sx.ret (Ev.bl (k := .fr))))
  obtain ⟨v, rfl, hv1, hv2⟩ : ∃ v : Int, d = .int v ∧ 1 ≤ v ∧ v ≤ 10 ^ 60 := by
    match i, hd with
    | 0, h => cases h; exact ⟨1, rfl, by decide, by decide⟩
    | 1, h => cases h; exact ⟨_, rfl, facF_b cs⟩
  have hT := fac_mul hs hL hv.1 hv1 hv2
  have hB := fac_mul hs hL hv.2 hv1 hv2
  have hpos : 1 * 1 ≤ (val L).2 * v := Int.mul_le_mul hbot hv1 (by decide) (by omega)
  have hnat : ((((val L).2 * v).toNat : Nat) : Int) = (val L).2 * v := by omega
  refine ⟨_, _, _, Gx.sc trivial (Gx.name 8 sc_law.nd), .nx, ?_⟩
  refine Sxs.wk (es := [.arg (.list (ns.map .int)), .dat (.list (cs.map .int)), .unk, .dat (.list (L.map .int)), .dat (.int (val L).1), .dat (.int (val L).2), .dat (.int (facF cs)), .dat (.list (L.map .int)), .dat (.int v), .unk, .unk, .dat (pairD (val L))]) ?_ ⟨.inl rfl, .inl rfl, .inl rfl, .inl rfl, .inl rfl, .inl rfl, .inl rfl, .inl rfl, .inr (.inl rfl), .inl rfl, .inl rfl, .inr (.inl rfl), trivial⟩
  refine Sxs.cons (Sx.forStay (k := .fr) PassesOwn.never rfl (Wk.range1 (k := .fr) B.range_ (Ev.int (k := .fr)) (by decide) (by decide)) fun j e he => ?_) ?_
  · obtain ⟨u, rfl⟩ : ∃ u : Int, e = .int u := by
      unfold rngD at he
      rw [List.getElem?_map] at he
      cases hh : (List.range (Int.toNat 2))[j]? with
      | none => rw [hh] at he; cases he
      | some z => rw [hh] at he; cases he; exact ⟨_, rfl⟩
    refine ⟨_, _, _, Gx.sc trivial (Gx.name 9 sc_law.nd), .nx, ?_⟩
    refine Sxs.wk (es := [.arg (.list (ns.map .int)), .dat (.list (cs.map .int)), .unk, .dat (.list (L.map .int)), .dat (.int (val L).1), .dat (.int (val L).2), .dat (.int (facF cs)), .dat (.list (L.map .int)), .dat (.int v), .dat (.int u), .own (L.map .int ++ [.int 5]), .unk]) ?_ ⟨.inl rfl, .inl rfl, .inl rfl, .inl rfl, .inl rfl, .inl rfl, .inl rfl, .inl rfl, .inl rfl, .inr (.inl rfl), .inr (.inl rfl), .inl rfl, trivial⟩
    refine Sxs.cons (Sx.setN 10 sc_law.nd (En.is (En.callF D_chain_of.1 (hr.mono (by decide)) (Ea.consV (Ev.mul (k := .fr) (Ev.dat (k := .fr) 4 rfl) (Ev.dat (k := .fr) 8 rfl) hT.1) (Ea.consV (Ev.mul (k := .fr) (Ev.dat (k := .fr) 5 rfl) (Ev.dat (k := .fr) 8 rfl) hB.1) Ea.nil)) ⟨_, ((val L).2 * v).toNat, by rw [hnat], by omega, by have := hB.2; omega⟩) (show (euc ((val L).1 * v) ((val L).2 * v).toNat).map PyData.int = L.map .int by rw [euc_val hv1 hc.ne hc.pos hc.last]))) ?_
    refine Sxs.cons (Sx.skip (Et.is (Et.not (Et.val (Ev.callF (k := .fr) D__law_list_of.1 (hr.mono (by decide)) (Ea.consV (Ev.own 10 rfl) (Ea.consV (Ev.dat (k := .fr) 3 rfl) Ea.nil)) ⟨L, L, rfl, by omega⟩))) ?_)) (Sxs.one (Sx.append 10 rfl (Ev.int (k := .fr)) (by rw [List.length_map]; omega)))
    rw [ints_map, decide_eq_true rfl]
    rfl
  obtain ⟨q0, r0, rfl⟩ : ∃ q0 r0, L = q0 :: r0 := by
    cases L with
    | nil => exact (hc.ne rfl).elim
    | cons q0 r0 => exact ⟨q0, r0, rfl⟩
  have hall : (r0.map PyData.int).all okQ = true := by
    rw [okQ_ints]
    exact List.all_eq_true.mpr fun x hx => decide_eq_true (hc.pos x hx)
  have epair : ∀ a b : Int, PyData.eqv (.tuple [.int a, .int b]) (.tuple [.int a, .int b]) = true := fun a b => by simp [PyData.eqv, PyData.eqvAll]
  have spair : ∀ a b : Int, SeqAt.shaped (.tuple [.int a, .int b]) = true := fun a b => shaped_of (by simp [PyData.canLay0, PyData.canLayAll0]) (by simp [PyData.depth, PyData.depthAll])
  refine Sxs.cons (Sx.set 11 sc_law.nd (Ev.callF (k := .fr) D_fraction_of.1 (hr.mono (by decide)) (Ea.consV (Ev.dat (k := .fr) 7 rfl) Ea.nil) ⟨_, rfl, hSz, hc⟩ (by show pairD (val (ints? (.list ((q0 :: r0).map .int)))) = _; rw [ints_map]))) ?_
  refine' Sxs.cons (Sx.skip (Et.is (Ew.et (Ew.or (Et.not (Et.val (Ev.isi (k := .fr) B.isinstance_ (by first | exact Ev.dat (k := .fr) 11 rfl | exact Ev.dat (k := .st) 11 rfl | exact Ev.dat (k := .vw) 11 rfl | exact Ev.arg 11 rfl | exact Ev.vw (Ev.arg 11 rfl) | exact Ev.own 11 rfl) B.tuple_ (T := "tuple") (by first | exact isi_it | exact isi_bt | exact isi_lt | exact isi_tt | exact isi_st | exact isi_nt) (by decide +kernel)))) fun _ => (Ew.or (Et.ne  hr (by first | exact Ev.dat (k := .fr) 11 rfl | exact Ev.dat (k := .st) 11 rfl | exact Ev.dat (k := .vw) 11 rfl | exact Ev.arg 11 rfl | exact Ev.vw (Ev.arg 11 rfl) | exact Ev.own 11 rfl) (Ev.tup (k := .vw) (Ea.cons (k := .vw) (by first | exact Ev.dat (k := .fr) 4 rfl | exact Ev.dat (k := .st) 4 rfl | exact Ev.dat (k := .vw) 4 rfl | exact Ev.arg 4 rfl | exact Ev.vw (Ev.arg 4 rfl) | exact Ev.own 4 rfl) (Ea.cons (k := .vw) (by first | exact Ev.dat (k := .fr) 5 rfl | exact Ev.dat (k := .st) 5 rfl | exact Ev.dat (k := .vw) 5 rfl | exact Ev.arg 5 rfl | exact Ev.vw (Ev.arg 5 rfl) | exact Ev.own 5 rfl) Ea.nil)) (by exact (by decide : 2 ≤ 100000))) ?_ ?_ ?_) fun _ => (Ew.or (Et.not (Et.val (Ev.callF (k := .fr) D__law_whole.1 (hr.mono (by decide)) (Ea.consV (Ev.ixTi (k := .fr) (by first | exact Ev.dat (k := .fr) 11 rfl | exact Ev.dat (k := .st) 11 rfl | exact Ev.dat (k := .vw) 11 rfl | exact Ev.arg 11 rfl | exact Ev.vw (Ev.arg 11 rfl) | exact Ev.own 11 rfl) (Ev.int (k := .fr)) at0) Ea.nil) (by exact ⟨_, rfl, trivial⟩)))) fun _ => (Ew.or1 (Et.not (Et.val (Ev.callF (k := .fr) D__law_whole.1 (hr.mono (by decide)) (Ea.consV (Ev.ixTi (k := .fr) (by first | exact Ev.dat (k := .fr) 11 rfl | exact Ev.dat (k := .st) 11 rfl | exact Ev.dat (k := .vw) 11 rfl | exact Ev.arg 11 rfl | exact Ev.vw (Ev.arg 11 rfl) | exact Ev.own 11 rfl) (Ev.int (k := .fr)) at1) Ea.nil) (by exact ⟨_, rfl, trivial⟩))))))))) ?_)) ?_
  · exact false
  · exact spair _ _
  · exact spair _ _
  · exact congrArg not (epair _ _)
  · rfl
  have hch : chD (.list ((q0 :: r0).map .int)) = true := chD_ok hc
  have hbe : begD (.list ((q0 :: r0).map .int)) = decide (0 ≤ q0) := by
    show (decide (0 ≤ q0) && (r0.map PyData.int).all okQ) = _
    rw [hall, Bool.and_true]
  refine' Sxs.cons (Sx.skip (Et.is (Ew.et (Ew.or (Et.notB  (Ev.callF (k := .fr) D_is_chain.1 (hr.mono (by decide)) (Ea.consV (by first | exact Ev.dat (k := .fr) 7 rfl | exact Ev.dat (k := .st) 7 rfl | exact Ev.dat (k := .vw) 7 rfl | exact Ev.arg 7 rfl | exact Ev.vw (Ev.arg 7 rfl) | exact Ev.own 7 rfl) Ea.nil) (by exact ⟨_, rfl⟩)) (Ev.bl (k := .fr))) fun _ => (Ew.or (Et.not (Et.val (Ev.isi (k := .fr) B.isinstance_ (Ev.callF (k := .vw) D_is_begun.1 (hr.mono (by decide)) (Ea.consV (by first | exact Ev.dat (k := .fr) 7 rfl | exact Ev.dat (k := .st) 7 rfl | exact Ev.dat (k := .vw) 7 rfl | exact Ev.arg 7 rfl | exact Ev.vw (Ev.arg 7 rfl) | exact Ev.own 7 rfl) Ea.nil) (by exact ⟨_, rfl⟩)) B.bool_ (T := "bool") (by first | exact isi_ib | exact isi_bb | exact isi_lb | exact isi_tb | exact isi_sb | exact isi_nb) (by decide +kernel)))) fun _ => (Ew.or1 (Et.ne  hr (by first | exact Ev.dat (k := .fr) 7 rfl | exact Ev.dat (k := .st) 7 rfl | exact Ev.dat (k := .vw) 7 rfl | exact Ev.arg 7 rfl | exact Ev.vw (Ev.arg 7 rfl) | exact Ev.own 7 rfl) (by first | exact Ev.dat (k := .fr) 3 rfl | exact Ev.dat (k := .st) 3 rfl | exact Ev.dat (k := .vw) 3 rfl | exact Ev.arg 3 rfl | exact Ev.vw (Ev.arg 3 rfl) | exact Ev.own 3 rfl) ?_ ?_ ?_))))) ?_)) ?_
  · exact false
  · exact shaped_ints _
  · exact shaped_ints _
  · rw [eqv_ints, decide_eq_true rfl]; rfl
  · rw [hch]
    rfl
  refine' Sxs.one (Sx.skip (Et.is (Et.ne  hr (Ev.callF (k := .vw) D_is_begun.1 (hr.mono (by decide)) (Ea.consV (by first | exact Ev.dat (k := .fr) 7 rfl | exact Ev.dat (k := .st) 7 rfl | exact Ev.dat (k := .vw) 7 rfl | exact Ev.arg 7 rfl | exact Ev.vw (Ev.arg 7 rfl) | exact Ev.own 7 rfl) Ea.nil) (by exact ⟨_, rfl⟩)) (Ev.ge (k := .vw) (Ev.ixLi (k := .fr) (by first | exact Ei.own (k := .fr) 3 rfl | exact Ev.ei (Ev.dat (k := .fr) 3 rfl) | exact Ev.ei (Ev.dat (k := .st) 3 rfl) | exact Ev.ei (Ev.arg 3 rfl)) (Ev.int (k := .fr)) at0) (Ev.int (k := .fr))) ?_ ?_ ?_) ?_))
  · exact false
  · exact shaped_bool
  · exact shaped_bool
  · show (!PyData.eqv (.bool (begD (.list ((q0 :: r0).map .int)))) (.bool (decide (0 ≤ q0)))) = false
    rw [hbe, eqv_bool, decide_eq_true rfl]; rfl
  · rfl
end
theorem all_mk {l : PySem.W.OpenLaw} {w : World} {K : PySem.W.Frag} {h : Heap} {mg : Str → Option Value} {fa f0 f1 f2 f3 f4 f5 f6 f7 f8 f9 f10 f11 f12 : Addr} (X : K.In h) (G : h.Ns mainGlobals mg) (hfa : mg "law" = some (.ref fa))
    {od0 an0 od1 an1 od2 an2 od3 an3 od4 an4 od5 an5 od6 an6 od7 an7 od8 an8 od9 an9 od10 an10 od11 an11 od12 an12 : Option Addr} {sl0 sl1 sl2 sl3 sl4 sl5 sl6 sl7 sl8 sl9 sl10 sl11 sl12 : Array (Option Value)} {oc0 kV0 dc0 pm0 cd0 ct0 oc1 kV1 dc1 pm1 cd1 ct1 oc2 kV2 dc2 pm2 cd2 ct2 oc3 kV3 dc3 pm3 cd3 ct3 oc4 kV4 dc4 pm4 cd4 ct4 oc5 kV5 dc5 pm5 cd5 ct5 oc6 kV6 dc6 pm6 cd6 ct6 oc7 kV7 dc7 pm7 cd7 ct7 oc8 kV8 dc8 pm8 cd8 ct8 oc9 kV9 dc9 pm9 cd9 ct9 oc10 kV10 dc10 pm10 cd10 ct10 oc11 kV11 dc11 pm11 cd11 ct11 oc12 kV12 dc12 pm12 cd12 ct12 : Value}
    (a0 : PySem.W.nsIn K mainGlobals "is_whole_number" = some (some (.ref f0))) (l0 : K.lookup f0 = some ⟨oc0, od0, .func (PySem.W.fnOf "is_whole_number" "is_whole_number" (defArgs s_is_whole_number) (defBody s_is_whole_number) (defScope s_is_whole_number) .none kV0 dc0 pm0 an0 cd0 ct0), sl0⟩) (c0 : PySem.W.codeIn K cd0 "is_whole_number" = true) (k0 : PySem.W.keepIn K (.ref f0) = true)
    (a1 : PySem.W.nsIn K mainGlobals "_are_later_quotients" = some (some (.ref f1))) (l1 : K.lookup f1 = some ⟨oc1, od1, .func (PySem.W.fnOf "_are_later_quotients" "_are_later_quotients" (defArgs s__are_later_quotients) (defBody s__are_later_quotients) (defScope s__are_later_quotients) .none kV1 dc1 pm1 an1 cd1 ct1), sl1⟩) (c1 : PySem.W.codeIn K cd1 "_are_later_quotients" = true) (k1 : PySem.W.keepIn K (.ref f1) = true)
    (a2 : PySem.W.nsIn K mainGlobals "is_chain" = some (some (.ref f2))) (l2 : K.lookup f2 = some ⟨oc2, od2, .func (PySem.W.fnOf "is_chain" "is_chain" (defArgs s_is_chain) (defBody s_is_chain) (defScope s_is_chain) .none kV2 dc2 pm2 an2 cd2 ct2), sl2⟩) (c2 : PySem.W.codeIn K cd2 "is_chain" = true) (k2 : PySem.W.keepIn K (.ref f2) = true)
    (a3 : PySem.W.nsIn K mainGlobals "is_begun" = some (some (.ref f3))) (l3 : K.lookup f3 = some ⟨oc3, od3, .func (PySem.W.fnOf "is_begun" "is_begun" (defArgs s_is_begun) (defBody s_is_begun) (defScope s_is_begun) .none kV3 dc3 pm3 an3 cd3 ct3), sl3⟩) (c3 : PySem.W.codeIn K cd3 "is_begun" = true) (k3 : PySem.W.keepIn K (.ref f3) = true)
    (a4 : PySem.W.nsIn K mainGlobals "value_of" = some (some (.ref f4))) (l4 : K.lookup f4 = some ⟨oc4, od4, .func (PySem.W.fnOf "value_of" "value_of" (defArgs s_value_of) (defBody s_value_of) (defScope s_value_of) .none kV4 dc4 pm4 an4 cd4 ct4), sl4⟩) (c4 : PySem.W.codeIn K cd4 "value_of" = true) (k4 : PySem.W.keepIn K (.ref f4) = true)
    (a5 : PySem.W.nsIn K mainGlobals "fraction_of" = some (some (.ref f5))) (l5 : K.lookup f5 = some ⟨oc5, od5, .func (PySem.W.fnOf "fraction_of" "fraction_of" (defArgs s_fraction_of) (defBody s_fraction_of) (defScope s_fraction_of) .none kV5 dc5 pm5 an5 cd5 ct5), sl5⟩) (c5 : PySem.W.codeIn K cd5 "fraction_of" = true) (k5 : PySem.W.keepIn K (.ref f5) = true)
    (a6 : PySem.W.nsIn K mainGlobals "chain_of" = some (some (.ref f6))) (l6 : K.lookup f6 = some ⟨oc6, od6, .func (PySem.W.fnOf "chain_of" "chain_of" (defArgs s_chain_of) (defBody s_chain_of) (defScope s_chain_of) .none kV6 dc6 pm6 an6 cd6 ct6), sl6⟩) (c6 : PySem.W.codeIn K cd6 "chain_of" = true) (k6 : PySem.W.keepIn K (.ref f6) = true)
    (a7 : PySem.W.nsIn K mainGlobals "_law_mixed" = some (some (.ref f7))) (l7 : K.lookup f7 = some ⟨oc7, od7, .func (PySem.W.fnOf "_law_mixed" "_law_mixed" (defArgs s__law_mixed) (defBody s__law_mixed) (defScope s__law_mixed) .none kV7 dc7 pm7 an7 cd7 ct7), sl7⟩) (c7 : PySem.W.codeIn K cd7 "_law_mixed" = true) (k7 : PySem.W.keepIn K (.ref f7) = true)
    (a8 : PySem.W.nsIn K mainGlobals "_law_quotient" = some (some (.ref f8))) (l8 : K.lookup f8 = some ⟨oc8, od8, .func (PySem.W.fnOf "_law_quotient" "_law_quotient" (defArgs s__law_quotient) (defBody s__law_quotient) (defScope s__law_quotient) .none kV8 dc8 pm8 an8 cd8 ct8), sl8⟩) (c8 : PySem.W.codeIn K cd8 "_law_quotient" = true) (k8 : PySem.W.keepIn K (.ref f8) = true)
    (a9 : PySem.W.nsIn K mainGlobals "_law_worth" = some (some (.ref f9))) (l9 : K.lookup f9 = some ⟨oc9, od9, .func (PySem.W.fnOf "_law_worth" "_law_worth" (defArgs s__law_worth) (defBody s__law_worth) (defScope s__law_worth) .none kV9 dc9 pm9 an9 cd9 ct9), sl9⟩) (c9 : PySem.W.codeIn K cd9 "_law_worth" = true) (k9 : PySem.W.keepIn K (.ref f9) = true)
    (a10 : PySem.W.nsIn K mainGlobals "_law_whole" = some (some (.ref f10))) (l10 : K.lookup f10 = some ⟨oc10, od10, .func (PySem.W.fnOf "_law_whole" "_law_whole" (defArgs s__law_whole) (defBody s__law_whole) (defScope s__law_whole) .none kV10 dc10 pm10 an10 cd10 ct10), sl10⟩) (c10 : PySem.W.codeIn K cd10 "_law_whole" = true) (k10 : PySem.W.keepIn K (.ref f10) = true)
    (a11 : PySem.W.nsIn K mainGlobals "_law_list_of" = some (some (.ref f11))) (l11 : K.lookup f11 = some ⟨oc11, od11, .func (PySem.W.fnOf "_law_list_of" "_law_list_of" (defArgs s__law_list_of) (defBody s__law_list_of) (defScope s__law_list_of) .none kV11 dc11 pm11 an11 cd11 ct11), sl11⟩) (c11 : PySem.W.codeIn K cd11 "_law_list_of" = true) (k11 : PySem.W.keepIn K (.ref f11) = true)
    (a12 : PySem.W.nsIn K mainGlobals "law" = some (some (.ref f12))) (l12 : K.lookup f12 = some ⟨oc12, od12, .func (PySem.W.fnOf "law" "law" (defArgs s_law) (defBody s_law) (defScope s_law) .none kV12 dc12 pm12 an12 cd12 ct12), sl12⟩) (c12 : PySem.W.codeIn K cd12 "law" = true) (k12 : PySem.W.keepIn K (.ref f12) = true)
    (z_type : PySem.W.nsIn K mainGlobals "type" = some none)
    (z_list : PySem.W.nsIn K mainGlobals "list" = some none)
    (z_len : PySem.W.nsIn K mainGlobals "len" = some none)
    (z_int : PySem.W.nsIn K mainGlobals "int" = some none)
    (z_bool : PySem.W.nsIn K mainGlobals "bool" = some none)
    (z_tuple : PySem.W.nsIn K mainGlobals "tuple" = some none)
    (z_isinstance : PySem.W.nsIn K mainGlobals "isinstance" = some none)
    (z_divmod : PySem.W.nsIn K mainGlobals "divmod" = some none)
    (z_reversed : PySem.W.nsIn K mainGlobals "reversed" = some none)
    (z_range : PySem.W.nsIn K mainGlobals "range" = some none)
    : ∃ fd : FuncData, (∀ (s : Shared) (v : Value), BindsTo s fd ⟨[v], []⟩ [("_law_script", v)]) ∧ ∀ base : Heap, K.In base → base.Ns mainGlobals mg → FnOk l.prog w K mg base CX0 6 fa fd ["_law_script"] (spF K Script) := by
  have e := hfa.symm.trans (PySem.W.mg_of X G a12)
  cases e
  have B : Bn mg := ⟨PySem.W.mg_none_of X G z_type, PySem.W.mg_none_of X G z_list, PySem.W.mg_none_of X G z_len, PySem.W.mg_none_of X G z_int, PySem.W.mg_none_of X G z_bool, PySem.W.mg_none_of X G z_tuple, PySem.W.mg_none_of X G z_isinstance, PySem.W.mg_none_of X G z_divmod, PySem.W.mg_none_of X G z_reversed, PySem.W.mg_none_of X G z_range⟩
  refine ⟨PySem.W.fnOf "law" "law" (defArgs s_law) (defBody s_law) (defScope s_law) .none kV12 dc12 pm12 an12 cd12 ct12, fun s v => .of_eq rfl, fun base _ _ => ?_⟩
  have F0 := fun_mk (st := s_is_whole_number) l0 c0 k0
  have b0 := F0.binds (ps := ["thing"]) fun _ _ _ _ _ _ us hl => match us, hl with | [_], _ => rfl
  have D_is_whole_number : Def_is_whole_number l.prog w K mg base := ⟨dfn (ok_is_whole_number (P := l.prog) (w := w) (base := base) F0 B) (PySem.W.mg_of X G a0) k0 b0⟩
  have F1 := fun_mk (st := s__are_later_quotients) l1 c1 k1
  have b1 := F1.binds (ps := ["things"]) fun _ _ _ _ _ _ us hl => match us, hl with | [_], _ => rfl
  have D__are_later_quotients : Def__are_later_quotients l.prog w K mg base := ⟨dfn (ok__are_later_quotients (P := l.prog) (w := w) (base := base) F1 B D_is_whole_number) (PySem.W.mg_of X G a1) k1 b1⟩
  have F2 := fun_mk (st := s_is_chain) l2 c2 k2
  have b2 := F2.binds (ps := ["thing"]) fun _ _ _ _ _ _ us hl => match us, hl with | [_], _ => rfl
  have D_is_chain : Def_is_chain l.prog w K mg base := ⟨dfn (ok_is_chain (P := l.prog) (w := w) (base := base) F2 B D_is_whole_number D__are_later_quotients) (PySem.W.mg_of X G a2) k2 b2⟩
  have F3 := fun_mk (st := s_is_begun) l3 c3 k3
  have b3 := F3.binds (ps := ["thing"]) fun _ _ _ _ _ _ us hl => match us, hl with | [_], _ => rfl
  have D_is_begun : Def_is_begun l.prog w K mg base := ⟨dfn (ok_is_begun (P := l.prog) (w := w) (base := base) F3 B D_is_whole_number D__are_later_quotients) (PySem.W.mg_of X G a3) k3 b3⟩
  have F4 := fun_mk (st := s_value_of) l4 c4 k4
  have b4 := F4.binds (ps := ["quotients"]) fun _ _ _ _ _ _ us hl => match us, hl with | [_], _ => rfl
  have D_value_of : Def_value_of l.prog w K mg base := ⟨dfn (ok_value_of (P := l.prog) (w := w) (base := base) F4 B) (PySem.W.mg_of X G a4) k4 b4⟩
  have F5 := fun_mk (st := s_fraction_of) l5 c5 k5
  have b5 := F5.binds (ps := ["chain"]) fun _ _ _ _ _ _ us hl => match us, hl with | [_], _ => rfl
  have D_fraction_of : Def_fraction_of l.prog w K mg base := ⟨dfn (ok_fraction_of (P := l.prog) (w := w) (base := base) F5 B D_is_chain D_value_of) (PySem.W.mg_of X G a5) k5 b5⟩
  have F6 := fun_mk (st := s_chain_of) l6 c6 k6
  have b6 := F6.binds (ps := ["top", "bottom"]) fun _ _ _ _ _ _ us hl => match us, hl with | [_, _], _ => rfl
  have D_chain_of : Def_chain_of l.prog w K mg base := ⟨dfn (ok_chain_of (P := l.prog) (w := w) (base := base) F6 B D_is_whole_number) (PySem.W.mg_of X G a6) k6 b6⟩
  have F7 := fun_mk (st := s__law_mixed) l7 c7 k7
  have b7 := F7.binds (ps := ["_law_cell", "_law_k"]) fun _ _ _ _ _ _ us hl => match us, hl with | [_, _], _ => rfl
  have D__law_mixed : Def__law_mixed l.prog w K mg base := ⟨dfn (ok__law_mixed (P := l.prog) (w := w) (base := base) F7) (PySem.W.mg_of X G a7) k7 b7⟩
  have F8 := fun_mk (st := s__law_quotient) l8 c8 k8
  have b8 := F8.binds (ps := ["_law_cell"]) fun _ _ _ _ _ _ us hl => match us, hl with | [_], _ => rfl
  have D__law_quotient : Def__law_quotient l.prog w K mg base := ⟨dfn (ok__law_quotient (P := l.prog) (w := w) (base := base) F8) (PySem.W.mg_of X G a8) k8 b8⟩
  have F9 := fun_mk (st := s__law_worth) l9 c9 k9
  have b9 := F9.binds (ps := ["_law_quotients"]) fun _ _ _ _ _ _ us hl => match us, hl with | [_], _ => rfl
  have D__law_worth : Def__law_worth l.prog w K mg base := ⟨dfn (ok__law_worth (P := l.prog) (w := w) (base := base) F9) (PySem.W.mg_of X G a9) k9 b9⟩
  have F10 := fun_mk (st := s__law_whole) l10 c10 k10
  have b10 := F10.binds (ps := ["_law_found"]) fun _ _ _ _ _ _ us hl => match us, hl with | [_], _ => rfl
  have D__law_whole : Def__law_whole l.prog w K mg base := ⟨dfn (ok__law_whole (P := l.prog) (w := w) (base := base) F10 B) (PySem.W.mg_of X G a10) k10 b10⟩
  have F11 := fun_mk (st := s__law_list_of) l11 c11 k11
  have b11 := F11.binds (ps := ["_law_found", "_law_due"]) fun _ _ _ _ _ _ us hl => match us, hl with | [_, _], _ => rfl
  have D__law_list_of : Def__law_list_of l.prog w K mg base := ⟨dfn (ok__law_list_of (P := l.prog) (w := w) (base := base) F11 B D__law_whole) (PySem.W.mg_of X G a11) k11 b11⟩
  have F12 := fun_mk (st := s_law) l12 c12 k12
  exact ok_law F12 B D__law_mixed D__law_quotient D__law_worth D__law_whole D__law_list_of D_chain_of D_fraction_of D_is_chain D_is_begun
end My
open PySem PySem.W PyProof.Rows
set_option maxRecDepth 100000 in
set_option maxHeartbeats 0 in
theorem PySem.Challenge.cw_chainsum_k01_chains_and_fractions_holds : PySem.Challenge.rw_chainsum_k01_chains_and_fractions.Holds := by
  w_on; o_law; k_head; (case hw => w_witness2)
  k_fill
  refine Dn.walk_law (l := PySem.Challenge.rw_chainsum_k01_chains_and_fractions) 6 "_law_script" rfl rfl ⟨rfl, by decide, by decide⟩ (fun w h Y => PySem.W.kIn_of Y) ?F
  case F =>
    intro w mg fa h KX G hmg
    refine' My.all_mk KX G hmg ?a0 ?l0 ?c0 ?k0 ?a1 ?l1 ?c1 ?k1 ?a2 ?l2 ?c2 ?k2 ?a3 ?l3 ?c3 ?k3 ?a4 ?l4 ?c4 ?k4 ?a5 ?l5 ?c5 ?k5 ?a6 ?l6 ?c6 ?k6 ?a7 ?l7 ?c7 ?k7 ?a8 ?l8 ?c8 ?k8 ?a9 ?l9 ?c9 ?k9 ?a10 ?l10 ?c10 ?k10 ?a11 ?l11 ?c11 ?k11 ?a12 ?l12 ?c12 ?k12 ?z_type ?z_list ?z_len ?z_int ?z_bool ?z_tuple ?z_isinstance ?z_divmod ?z_reversed ?z_range
    (case a0 => k_is)
    (case l0 => k_is)
    (case c0 => k_is)
    (case k0 => k_is)
    (case a1 => k_is)
    (case l1 => k_is)
    (case c1 => k_is)
    (case k1 => k_is)
    (case a2 => k_is)
    (case l2 => k_is)
    (case c2 => k_is)
    (case k2 => k_is)
    (case a3 => k_is)
    (case l3 => k_is)
    (case c3 => k_is)
    (case k3 => k_is)
    (case a4 => k_is)
    (case l4 => k_is)
    (case c4 => k_is)
    (case k4 => k_is)
    (case a5 => k_is)
    (case l5 => k_is)
    (case c5 => k_is)
    (case k5 => k_is)
    (case a6 => k_is)
    (case l6 => k_is)
    (case c6 => k_is)
    (case k6 => k_is)
    (case a7 => k_is)
    (case l7 => k_is)
    (case c7 => k_is)
    (case k7 => k_is)
    (case a8 => k_is)
    (case l8 => k_is)
    (case c8 => k_is)
    (case k8 => k_is)
    (case a9 => k_is)
    (case l9 => k_is)
    (case c9 => k_is)
    (case k9 => k_is)
    (case a10 => k_is)
    (case l10 => k_is)
    (case c10 => k_is)
    (case k10 => k_is)
    (case a11 => k_is)
    (case l11 => k_is)
    (case c11 => k_is)
    (case k11 => k_is)
    (case a12 => k_is)
    (case l12 => k_is)
    (case c12 => k_is)
    (case k12 => k_is)
    (case z_type => k_is)
    (case z_list => k_is)
    (case z_len => k_is)
    (case z_int => k_is)
    (case z_bool => k_is)
    (case z_tuple => k_is)
    (case z_isinstance => k_is)
    (case z_divmod => k_is)
    (case z_reversed => k_is)
    (case z_range => k_is)
