import PyProof.Rows.All
import Wide.All
import OpenK.AllK
import Wide.FinOn
import HandS.ForMost
import HandS.Flow
import HandS.Wide
import HandS.TupAny
import HandS.IsInst
import HandS.Flt
import HandS.RaiseMore
import PyProof.ReprText
import PyProof.ReprRoads
import HandS.Conv
import HandS.Zip
import KE.KTupSum
import HandS.Property
import HandS.More
import KE.GoesMore
import KE.GoesEnum
import HandS.SetFor
import HandS.Strs
import HandS.TryOnly
import HandS.ExcInit
import HandS.ExcField
import KE.KExcIs
import HandS.ExcIs
import PySem.Challenge.RW_mostpulled_k24_gains_of_steps
set_option Elab.async false
set_option linter.all false
set_option maxRecDepth 100000
set_option maxHeartbeats 4000000
/-! DL: a layer over HandS in which a reading speaks of data alone: the heap is hidden behind «what is data stays data». -/
namespace DL
open PySem L2

/-! ### data in the heap; B is the bag of draws; a list of a def's own may grow while its slot says «mut» -/
inductive DV where
  | bag
  | dat (d : PyData)
  | grow (l : List PyData)
  /-- the exception at a that an except suite holds: its class, its dict, its fields -/
  | exc (a : Addr) (cls : Value) (d : Option Addr) (fs : List (Str × PyData))

/-- a board: an object of the class at C with a size and a list of terms, as data -/
abbrev brdD (C : Addr) (n : Int) (ds : List PyData) : PyData := .dict [(.int (Int.ofNat C), .int n), (.none, .list ds)]
mutual
inductive Dt (M : Addr → Prop) (H : Hp) : V → PyData → Prop
  | non : Dt M H .non .none
  | bl (b : Bool) : Dt M H (.bl b) (.bool b)
  | int (i : Int) : Dt M H (.int i) (.int i)
  | str (x : Str) : Dt M H (.str x) (.str x)
  | lst {a : Addr} {xs : List V} {ds : List PyData} : ¬ M a → H a = some (.lst xs) → DtA M H xs ds → Dt M H (.ref a) (.list ds)
  | tup {a : Addr} {xs : List V} {ds : List PyData} : ¬ M a → H a = some (.tup xs) → DtA M H xs ds → Dt M H (.ref a) (.tuple ds)
  | brd {p dx C a : Addr} {n : Int} {xs : List V} {ds : List PyData} : ¬ M p → ¬ M dx → H p = some (.ins C dx [("_size", .int n), ("_terms", .ref a)]) → H dx = some (.own p) → ¬ M a → H a = some (.lst xs) → DtA M H xs ds →
      Dt M H (.ref p) (.dict [(.int (Int.ofNat C), .int n), (.none, .list ds)])
inductive DtA (M : Addr → Prop) (H : Hp) : List V → List PyData → Prop
  | nil : DtA M H [] []
  | cons {v : V} {vs : List V} {d : PyData} {ds : List PyData} : Dt M H v d → DtA M H vs ds → DtA M H (v :: vs) (d :: ds)
end

/-- what is data stays data -/
def Stay (M : Addr → Prop) (H : Hp) (M' : Addr → Prop) (H' : Hp) : Prop := ∀ a o, ¬ M a → H a = some o → ¬ M' a ∧ H' a = some o
theorem Stay.refl {M : Addr → Prop} {H : Hp} : Stay M H M H := fun _ _ n e => ⟨n, e⟩
theorem Stay.trans {M M1 M2 : Addr → Prop} {H H1 H2 : Hp} (k : Stay M H M1 H1) (k2 : Stay M1 H1 M2 H2) : Stay M H M2 H2 := fun a o n e => k2 a o (k a o n e).1 (k a o n e).2
theorem Stay.less {M M' : Addr → Prop} {H : Hp} (h : ∀ a, M' a → M a) : Stay M H M' H := fun a o n e => ⟨fun z => n (h a z), e⟩
theorem Dt.map {M M' : Addr → Prop} {H H' : Hp} (k : Stay M H M' H') {v : V} {d : PyData} (h : Dt M H v d) : Dt M' H' v d :=
  Dt.rec (motive_1 := fun v d _ => Dt M' H' v d) (motive_2 := fun vs ds _ => DtA M' H' vs ds) .non (fun b => .bl b) (fun i => .int i) (fun x => .str x)
    (fun n e _ ih => .lst (k _ _ n e).1 (k _ _ n e).2 ih) (fun n e _ ih => .tup (k _ _ n e).1 (k _ _ n e).2 ih)
    (fun n n2 e e2 n3 e3 _ ih => .brd (k _ _ n e).1 (k _ _ n2 e2).1 (k _ _ n e).2 (k _ _ n2 e2).2 (k _ _ n3 e3).1 (k _ _ n3 e3).2 ih) .nil (fun _ _ ih ih2 => .cons ih ih2) h

theorem DtA.map {M M' : Addr → Prop} {H H' : Hp} (k : Stay M H M' H') : ∀ {ds : List PyData} {vs : List V}, DtA M H vs ds → DtA M' H' vs ds
  | [], _, h => by cases h; exact .nil
  | d :: ds, _, h => by
    cases h with
    | cons h1 h2 => exact .cons (h1.map k) (DtA.map k h2)

/-- where the bag's cells stand -/
def bagq (B : Addr) (H : Hp) : Option Addr := match H B with
  | some (.lst [_, _, _, .ref q]) => some q
  | _ => none
/-- all but the bag is as it was -/
structure Keep (M : Addr → Prop) (B : Addr) (H H' : Hp) : Prop where
  k : ∀ b o, b ≠ B → H b = some o → H' b = some o
  q : ∀ q, bagq B H = some q → bagq B H' = some q
theorem Keep.refl {M : Addr → Prop} {B : Addr} {H : Hp} : Keep M B H H := ⟨fun _ _ _ e => e, fun _ e => e⟩
theorem Keep.trans {M : Addr → Prop} {B : Addr} {H H1 H2 : Hp} (a : Keep M B H H1) (b : Keep M B H1 H2) : Keep M B H H2 := ⟨fun c o n e => b.k c o n (a.k c o n e), fun q e => b.q q (a.q q e)⟩
theorem Keep.any {M M' : Addr → Prop} {B : Addr} {H H' : Hp} (k : Keep M B H H') : Keep M' B H H' := ⟨k.k, k.q⟩
theorem bagq_upd {B : Addr} {H : Hp} {p : Addr} {o : HO} (h : p ≠ B) : bagq B (upd H p o) = bagq B H := by
  unfold bagq
  rw [upd_ne h.symm]
theorem bagq_some {B q : Addr} {H : Hp} (h : bagq B H = some q) : ∃ o, H B = some o := by
  unfold bagq at h
  split at h
  · rename_i e
    exact ⟨_, e⟩
  · cases h
theorem Keep.new {M : Addr → Prop} {B : Addr} {H : Hp} {p : Addr} {o : HO} (hp : H p = none) : Keep M B H (upd H p o) := ⟨fun b u _ e => by
  rw [upd_ne (ne_of_none e hp)]
  exact e, fun q e => by
  obtain ⟨u, e2⟩ := bagq_some e
  rw [bagq_upd (ne_of_none e2 hp).symm]
  exact e⟩
theorem Keep.at {M : Addr → Prop} {B : Addr} (m : M B) {H : Hp} {o : HO} (h : ∀ q, bagq B H = some q → bagq B (upd H B o) = some q) : Keep M B H (upd H B o) := ⟨fun b u n e => by
  rw [upd_ne n]
  exact e, h⟩
theorem Keep.stay {M : Addr → Prop} {B : Addr} {H H' : Hp} (m : M B) (k : Keep M B H H') : Stay M H M H' := fun a o n e => ⟨n, k.k a o (fun z => n (by rw [z]; exact m)) e⟩

theorem Dt.keep {M : Addr → Prop} {B : Addr} {H H' : Hp} {d : PyData} {v : V} (h : Dt M H v d) (m : M B) (k : Keep M B H H') : Dt M H' v d := h.map (k.stay m)
theorem DtA.keep {M : Addr → Prop} {B : Addr} {H H' : Hp} {ds : List PyData} {vs : List V} (h : DtA M H vs ds) (m : M B) (k : Keep M B H H') : DtA M H' vs ds := h.map (k.stay m)
mutual
theorem Dt.dp {K : PySem.W.Frag} {M : Addr → Prop} {H : Hp} : ∀ {d : PyData} {v : V}, d.hasDict = false → Dt M H v d → Dp K H v d
  | .none, _, _, h => by cases h; exact .non
  | .bool _, _, _, h => by cases h; exact .bl _
  | .int _, _, _, h => by cases h; exact .int _
  | .str _, _, _, h => by cases h; exact .str _
  | .list ds, _, n, h => by
    cases h with
    | lst _ e a => exact .lst (SqL.of e) (DtA.dp (by simpa only [PyData.hasDict] using n) a)
  | .tuple ds, _, n, h => by
    cases h with
    | tup _ e a => exact .tup (SqT.of e) (DtA.dp (by simpa only [PyData.hasDict] using n) a)
  | .dict _, _, n, h => by simp only [PyData.hasDict] at n; cases n
theorem DtA.dp {K : PySem.W.Frag} {M : Addr → Prop} {H : Hp} : ∀ {ds : List PyData} {vs : List V}, PyData.hasDictAll ds = false → DtA M H vs ds → DpAll K H vs ds
  | [], _, _, h => by cases h; exact .nil
  | d :: ds, _, n, h => by
    simp only [PyData.hasDictAll, Bool.or_eq_false_iff] at n
    cases h with
    | cons h1 h2 => exact .cons (Dt.dp n.1 h1) (DtA.dp n.2 h2)
end
theorem DtA.length {M : Addr → Prop} {H : Hp} : ∀ {ds : List PyData} {vs : List V}, DtA M H vs ds → vs.length = ds.length
  | [], _, h => by cases h; rfl
  | d :: ds, _, h => by
    cases h with
    | cons h1 h2 => rw [List.length_cons, List.length_cons, DtA.length h2]
theorem DtA.append {M : Addr → Prop} {H : Hp} : ∀ {ds es : List PyData} {vs us : List V}, DtA M H vs ds → DtA M H us es → DtA M H (vs ++ us) (ds ++ es)
  | [], _, _, _, h, g => by cases h; exact g
  | d :: ds, _, _, _, h, g => by
    cases h with
    | cons h1 h2 => exact .cons h1 (DtA.append h2 g)
theorem DtA.drop {M : Addr → Prop} {H : Hp} : ∀ (n : Nat) {ds : List PyData} {vs : List V}, DtA M H vs ds → DtA M H (vs.drop n) (ds.drop n)
  | 0, _, _, h => h
  | n + 1, [], _, h => by cases h; exact .nil
  | n + 1, d :: ds, _, h => by
    cases h with
    | cons h1 h2 => exact DtA.drop n h2
theorem DtA.take {M : Addr → Prop} {H : Hp} : ∀ (n : Nat) {ds : List PyData} {vs : List V}, DtA M H vs ds → DtA M H (vs.take n) (ds.take n)
  | 0, _, _, _ => .nil
  | n + 1, [], _, h => by cases h; exact .nil
  | n + 1, d :: ds, _, h => by
    cases h with
    | cons h1 h2 => exact .cons h1 (DtA.take n h2)
theorem DtA.get {M : Addr → Prop} {H : Hp} : ∀ (n : Nat) {ds : List PyData} {vs : List V} {d : PyData}, DtA M H vs ds → ds[n]? = some d → ∃ v, vs[n]? = some v ∧ Dt M H v d
  | _, [], _, _, _, e => by simp at e
  | 0, d :: ds, _, _, h, e => by
    cases h with
    | cons h1 h2 =>
      simp at e
      subst e
      exact ⟨_, rfl, h1⟩
  | n + 1, d :: ds, _, _, h, e => by
    cases h with
    | cons h1 h2 => exact DtA.get n h2 (by simpa using e)
theorem DtA.getV {M : Addr → Prop} {H : Hp} : ∀ (n : Nat) {ds : List PyData} {vs : List V} {v : V}, DtA M H vs ds → vs[n]? = some v → ∃ d, ds[n]? = some d ∧ Dt M H v d
  | n, [], _, _, h, e => by cases h; simp at e
  | 0, d :: ds, _, _, h, e => by
    cases h with
    | cons h1 h2 =>
      simp at e
      subst e
      exact ⟨_, rfl, h1⟩
  | n + 1, d :: ds, _, _, h, e => by
    cases h with
    | cons h1 h2 => exact DtA.getV n h2 (by simpa using e)
theorem DtA.replicate {M : Addr → Prop} {H : Hp} {ds : List PyData} {vs : List V} (h : DtA M H vs ds) : ∀ n, DtA M H (List.replicate n vs).flatten (List.replicate n ds).flatten
  | 0 => .nil
  | n + 1 => by
    rw [List.replicate_succ, List.replicate_succ, List.flatten_cons, List.flatten_cons]
    exact h.append (DtA.replicate h n)
theorem DtA.ints {M : Addr → Prop} {H : Hp} : ∀ ns : List Int, DtA M H (ns.map V.int) (ns.map PyData.int)
  | [] => .nil
  | n :: ns => .cons (.int n) (DtA.ints ns)

/-- the bag: [great rest, seed, place, cells] -/
def BagAt (M : Addr → Prop) (B : Addr) (H : Hp) : Prop := ∃ (b0 b1 b2 : Int) (q : Addr) (ns : List Int), H B = some (.lst [.int b0, .int b1, .int b2, .ref q]) ∧ ¬ M q ∧ H q = some (.lst (ns.map V.int)) ∧
  0 ≤ b0 ∧ 0 ≤ b1 ∧ b1 < 2147483647 ∧ 0 ≤ b2 ∧ ∀ n ∈ ns, (0 : Int) ≤ n
/-- the bag, and where the def began: what might change then, and the heap -/
structure Gr where
  a : Addr
  M0 : Addr → Prop
  H0 : Hp
  M1 : Addr → Prop
  H1 : Hp
instance : Coe Gr Addr := ⟨Gr.a⟩
instance : Inhabited Gr := ⟨⟨0, fun _ => False, fun _ => none, fun _ => False, fun _ => none⟩⟩
/-- from where a def began to here: only the bag and lists of its own have changed -/
structure Grd (B : Gr) (M : Addr → Prop) (H : Hp) : Prop where
  g0 : ∀ a, B.M0 a → ∃ o, B.H0 a = some o
  m0 : B.M0 B.a
  sub : ∀ a, B.M0 a → M a
  keep : Keep B.M0 B.a B.H0 H
  stay : ∀ a o, ¬ B.M0 a → B.H0 a = some o → ¬ M a
  st : Stay B.M1 B.H1 M H
  al : ∀ a o, B.H1 a = some o → ∃ u, H a = some u
def Good0 (M : Addr → Prop) (B : Addr) (H : Hp) : Prop := M B ∧ (∀ a, M a → ∃ o, H a = some o) ∧ BagAt M B H
def Good (M : Addr → Prop) (B : Gr) (H : Hp) : Prop := M B.a ∧ (∀ a, M a → ∃ o, H a = some o) ∧ BagAt M B.a H ∧ Grd B M H
theorem Good.z {M : Addr → Prop} {B : Gr} {H : Hp} (g : Good M B H) : Good0 M B.a H := ⟨g.1, g.2.1, g.2.2.1⟩
theorem Good.d {M : Addr → Prop} {B : Gr} {H : Hp} (g : Good M B H) : Grd B M H := g.2.2.2
theorem Good0.start {M : Addr → Prop} {b : Addr} {H : Hp} (g : Good0 M b H) : Good M ⟨b, M, H, M, H⟩ H := ⟨g.1, g.2.1, g.2.2, g.2.1, g.1, fun _ h => h, Keep.refl, fun _ _ n _ => n, Stay.refl, fun _ o e => ⟨o, e⟩⟩
theorem Good.expr {M : Addr → Prop} {B : Gr} {H H' : Hp} (g : Good M B H) (g' : Good0 M B.a H') (k : Keep M B.a H H') : Good M B H' := ⟨g'.1, g'.2.1, g'.2.2, g.d.g0, g.d.m0, g.d.sub, g.d.keep.trans k.any, g.d.stay, g.d.st.trans (k.stay g.1), fun a o e => by
  by_cases z : a = B.a
  · rw [z]
    exact g'.2.1 _ g'.1
  · obtain ⟨u, hu⟩ := g.d.al a o e
    exact ⟨u, k.k a u z hu⟩⟩
theorem Good.own {M : Addr → Prop} {B : Gr} {H : Hp} (g : Good M B H) {a : Addr} (h : B.H0 a = none) : ¬ B.M0 a := fun m => by
  obtain ⟨o, e⟩ := g.d.g0 a m
  rw [h] at e
  cases e
theorem Good.fresh0 {M : Addr → Prop} {B : Gr} {H : Hp} (g : Good M B H) {p : Addr} (hp : H p = none) : B.H0 p = none := by
  cases q : B.H0 p with
  | none => rfl
  | some u =>
    by_cases z : p = B.a
    · obtain ⟨o, e⟩ := g.2.1 B.a g.1
      rw [z, e] at hp
      cases hp
    · have := g.d.keep.k p u z q
      rw [hp] at this
      cases this
theorem Good.fresh1 {M : Addr → Prop} {B : Gr} {H : Hp} (g : Good M B H) {p : Addr} (hp : H p = none) : B.H1 p = none := by
  cases q : B.H1 p with
  | none => rfl
  | some u =>
    obtain ⟨u2, e⟩ := g.d.al p u q
    rw [hp] at e
    cases e
theorem Good.ne {M : Addr → Prop} {B : Gr} {H : Hp} (g : Good M B H) {p : Addr} (hp : H p = none) : ¬ M p := fun m => by
  obtain ⟨o, h⟩ := g.2.1 p m
  rw [h] at hp
  cases hp
theorem Good.new {M : Addr → Prop} {B : Gr} {H : Hp} (g : Good M B H) {p : Addr} {o : HO} (hp : H p = none) : Good M B (upd H p o) := by
  obtain ⟨m, md, ⟨b0, b1, b2, q, ns, h1, h2, h3, h4⟩, d⟩ := g
  refine ⟨m, fun a ma => ?_, ⟨b0, b1, b2, q, ns, by rw [upd_ne (ne_of_none h1 hp)]; exact h1, h2, by rw [upd_ne (ne_of_none h3 hp)]; exact h3, h4⟩, d.g0, d.m0, d.sub, d.keep.trans (Keep.new hp), d.stay, d.st.trans ((Keep.new (M := M) hp).stay m), fun a u e => by
    obtain ⟨u2, e2⟩ := d.al a u e
    exact ⟨u2, by rw [upd_ne (ne_of_none e2 hp)]; exact e2⟩⟩
  obtain ⟨u, e⟩ := md a ma
  exact ⟨u, by rw [upd_ne (ne_of_none e hp)]; exact e⟩
theorem Dt.newL {M : Addr → Prop} {B : Gr} {H : Hp} (g : Good M B H) {p : Addr} (hp : H p = none) {xs : List V} {ds : List PyData} (h : DtA M H xs ds) : Dt M (upd H p (.lst xs)) (.ref p) (.list ds) :=
  .lst (g.ne hp) upd_same (h.map ((Keep.new (B := B) hp).stay g.1))
theorem Dt.newT {M : Addr → Prop} {B : Gr} {H : Hp} (g : Good M B H) {p : Addr} (hp : H p = none) {xs : List V} {ds : List PyData} (h : DtA M H xs ds) : Dt M (upd H p (.tup xs)) (.ref p) (.tuple ds) :=
  .tup (g.ne hp) upd_same (h.map ((Keep.new (B := B) hp).stay g.1))
theorem BagAt.less {M M' : Addr → Prop} {B : Addr} {H : Hp} (b : BagAt M B H) (h : ∀ a, M' a → M a) : BagAt M' B H := by
  obtain ⟨b0, b1, b2, q, ns, h1, h2, h3, h4⟩ := b
  exact ⟨b0, b1, b2, q, ns, h1, fun z => h2 (h q z), h3, h4⟩
theorem Good.less {M M' : Addr → Prop} {B : Gr} {H : Hp} (g : Good M B H) (h : ∀ a, M' a → M a) (hs : ∀ a, B.M0 a → M' a) : Good M' B H :=
  ⟨hs _ g.d.m0, fun a ma => g.2.1 a (h a ma), g.2.2.1.less h, g.d.g0, g.d.m0, hs, g.d.keep, fun a o n e m => g.d.stay a o n e (h a m), g.d.st.trans (Stay.less h), g.d.al⟩
/-- where the def began, at its end -/
theorem Good.back {M : Addr → Prop} {B : Gr} {H : Hp} (g : Good M B H) : Good0 B.M0 B.a H := (g.less g.d.sub fun _ h => h).z
/-- with the cells where they were, the wider set of what may change is good again -/
theorem Good.more {M M' : Addr → Prop} {B : Gr} {H H' : Hp} (g : Good M B H) (k : Keep M B.a H H') (g' : Good M' B H') : Good M B H' := by
  obtain ⟨m, md, ⟨b0, b1, b2, q, ns, h1, h2, h3, h4⟩, d⟩ := g
  obtain ⟨m', md', ⟨c0, c1, c2, q', ns', h1', h2', h3', h4'⟩, d'⟩ := g'
  have e1 : bagq B.a H = some q := by
    unfold bagq
    rw [h1]
  have e2 := k.q q e1
  unfold bagq at e2
  rw [h1'] at e2
  cases e2
  refine ⟨m, fun a ma => ?_, ⟨c0, c1, c2, q, ns', h1', h2, h3', h4'⟩, d.g0, d.m0, d.sub, d'.keep, d.stay, fun a o n e => ⟨(d.st a o n e).1, (d'.st a o n e).2⟩, d'.al⟩
  by_cases e : a = B.a
  · rw [e]
    exact ⟨_, h1'⟩
  · obtain ⟨o, eo⟩ := md a ma
    exact ⟨o, k.k a o e eo⟩

/-- an exception's fields -/
inductive FldA (M : Addr → Prop) (H : Hp) : List (Str × V) → List (Str × PyData) → Prop
  | nil : FldA M H [] []
  | cons {f : Str} {v : V} {d : PyData} {r : List (Str × V)} {q : List (Str × PyData)} : Dt M H v d → FldA M H r q → FldA M H ((f, v) :: r) ((f, d) :: q)
theorem FldA.map {M M' : Addr → Prop} {H H' : Hp} (k : Stay M H M' H') : ∀ {vs : List (Str × V)} {fs : List (Str × PyData)}, FldA M H vs fs → FldA M' H' vs fs
  | _, _, .nil => .nil
  | _, _, .cons h t => .cons (h.map k) (FldA.map k t)
def XD (M : Addr → Prop) (H : Hp) (d : Option Addr) (fs : List (Str × PyData)) : Prop := (d = none ∧ fs = []) ∨ ∃ dd vs, d = some dd ∧ ¬ M dd ∧ H dd = some (.xd vs) ∧ FldA M H vs fs
theorem XD.map {M M' : Addr → Prop} {H H' : Hp} (k : Stay M H M' H') {d : Option Addr} {fs : List (Str × PyData)} (h : XD M H d fs) : XD M' H' d fs := by
  rcases h with ⟨e1, e2⟩ | ⟨dd, vs, e, n, eh, a⟩
  · exact .inl ⟨e1, e2⟩
  · exact .inr ⟨dd, vs, e, (k _ _ n eh).1, (k _ _ n eh).2, a.map k⟩

/-! ### slots -/
inductive DvR (M : Addr → Prop) (B : Gr) (H : Hp) : V → DV → Prop
  | bag : DvR M B H (.ref B) .bag
  | dat {v : V} {d : PyData} : Dt M H v d → DvR M B H v (.dat d)
  | grow {a : Addr} {xs : List V} {l : List PyData} : M a → a ≠ B → B.H0 a = none → H a = some (.lst xs) → DtA M H xs l → DvR M B H (.ref a) (.grow l)
  | exc {a : Addr} {cls : Value} {d : Option Addr} {fs : List (Str × PyData)} : XD M H d fs → DvR M B H (.ref a) (.exc a cls d fs)
theorem DvR.keep {M : Addr → Prop} {B : Gr} {H H' : Hp} (m : M B) (k : Keep M B H H') {v : V} {x : DV} (h : DvR M B H v x) : DvR M B H' v x := by
  cases h with
  | bag => exact .bag
  | dat h => exact .dat (h.map (k.stay m))
  | grow ma n z e h => exact .grow ma n z (k.k _ _ n e) (h.map (k.stay m))
  | exc h => exact .exc (h.map (k.stay m))
inductive SlotR (M : Addr → Prop) (B : Gr) (H : Hp) : Option V → Option DV → Prop
  | non (o : Option V) : SlotR M B H o none
  | som {v : V} {x : DV} : DvR M B H v x → SlotR M B H (some v) (some x)
theorem SlotR.keep {M : Addr → Prop} {B : Gr} {H H' : Hp} (m : M B) (k : Keep M B H H') {v : Option V} {x : Option DV} (h : SlotR M B H v x) : SlotR M B H' v x := by
  cases h with
  | non => exact .non _
  | som h => exact .som (h.keep m k)
abbrev DEnv := List (Option DV)
inductive EnvAt (M : Addr → Prop) (B : Gr) (H : Hp) : St → DEnv → Prop
  | nil : EnvAt M B H [] []
  | cons {o : Option V} {x : Option DV} {σ : St} {ds : DEnv} : SlotR M B H o x → EnvAt M B H σ ds → EnvAt M B H (o :: σ) (x :: ds)
theorem EnvAt.keep {M : Addr → Prop} {B : Gr} {H H' : Hp} (m : M B) (k : Keep M B H H') : ∀ {σ : St} {ds : DEnv}, EnvAt M B H σ ds → EnvAt M B H' σ ds
  | _, _, .nil => .nil
  | _, _, .cons h t => .cons (h.keep m k) (EnvAt.keep m k t)
theorem EnvAt.get {M : Addr → Prop} {B : Gr} {H : Hp} : ∀ {σ : St} {ds : DEnv} (i : Nat) {x : DV}, EnvAt M B H σ ds → ds[i]? = some (some x) → ∃ v, σ[i]? = some (some v) ∧ DvR M B H v x
  | _, _, _, _, .nil, e => by simp at e
  | _, _, 0, x, .cons h t, e => by
    simp at e
    subst e
    cases h with
    | som h => exact ⟨_, rfl, h⟩
  | _, _, i + 1, x, .cons h t, e => EnvAt.get i t (by simpa using e)
theorem EnvAt.set {M : Addr → Prop} {B : Gr} {H : Hp} {v : V} {x : DV} (h : DvR M B H v x) : ∀ {σ : St} {ds : DEnv} (i : Nat), EnvAt M B H σ ds → EnvAt M B H (σ.set i (some v)) (ds.set i (some x))
  | _, _, _, .nil => .nil
  | _, _, 0, .cons _ t => .cons (.som h) t
  | _, _, i + 1, .cons g t => .cons g (EnvAt.set h i t)
theorem EnvAt.unset {M : Addr → Prop} {B : Gr} {H : Hp} {o : Option V} : ∀ {σ : St} {ds : DEnv} (i : Nat), EnvAt M B H σ ds → EnvAt M B H (σ.set i o) (ds.set i none)
  | _, _, _, .nil => .nil
  | _, _, 0, .cons _ t => .cons (.non _) t
  | _, _, i + 1, .cons g t => .cons g (EnvAt.unset i t)
def wipeD (ds : DEnv) : List Nat → DEnv
  | [] => ds
  | v :: vs => (wipeD ds vs).set v none
theorem EnvAt.wipe {M : Addr → Prop} {B : Gr} {H : Hp} {σ : St} {ds : DEnv} (h : EnvAt M B H σ ds) : ∀ vs : List Nat, EnvAt M B H (L2.wipe σ vs) (wipeD ds vs)
  | [] => h
  | v :: vs => EnvAt.unset v (EnvAt.wipe h vs)
inductive ArgsAt (M : Addr → Prop) (B : Gr) (H : Hp) : List V → List DV → Prop
  | nil : ArgsAt M B H [] []
  | cons {v : V} {x : DV} {vs : List V} {xs : List DV} : DvR M B H v x → (∀ l, x ≠ .grow l) → ArgsAt M B H vs xs → ArgsAt M B H (v :: vs) (x :: xs)
theorem ArgsAt.length {M : Addr → Prop} {B : Gr} {H : Hp} : ∀ {vs : List V} {xs : List DV}, ArgsAt M B H vs xs → vs.length = xs.length
  | _, _, .nil => rfl
  | _, _, .cons _ _ t => by rw [List.length_cons, List.length_cons, ArgsAt.length t]
theorem ArgsAt.env {M : Addr → Prop} {B : Gr} {H : Hp} : ∀ {vs : List V} {xs : List DV}, ArgsAt M B H vs xs → EnvAt M B H (vs.map some) (xs.map some)
  | _, _, .nil => .nil
  | _, _, .cons h _ t => .cons (.som h) (ArgsAt.env t)
theorem EnvAt.append {M : Addr → Prop} {B : Gr} {H : Hp} : ∀ {σ σ' : St} {ds ds' : DEnv}, EnvAt M B H σ ds → EnvAt M B H σ' ds' → EnvAt M B H (σ ++ σ') (ds ++ ds')
  | _, _, _, _, .nil, g => g
  | _, _, _, _, .cons h t, g => .cons h (EnvAt.append t g)
theorem EnvAt.nones {M : Addr → Prop} {B : Gr} {H : Hp} : ∀ n, EnvAt M B H (List.replicate n none) (List.replicate n none)
  | 0 => .nil
  | n + 1 => .cons (.non _) (EnvAt.nones n)
def dstart (N : List Str) (xs : List DV) : DEnv := xs.map some ++ List.replicate (N.length - xs.length) none
theorem ArgsAt.start {M : Addr → Prop} {B : Gr} {H : Hp} {vs : List V} {xs : List DV} (h : ArgsAt M B H vs xs) (N : List Str) : EnvAt M B H (L2.start N vs) (dstart N xs) := by
  unfold L2.start dstart
  rw [h.length]
  exact h.env.append (EnvAt.nones _)

theorem ArgsAt.noMut {M : Addr → Prop} {B : Gr} {H : Hp} : ∀ {vs : List V} {xs : List DV}, ArgsAt M B H vs xs → ∀ (n i : Nat) l, (xs.map some ++ List.replicate n none)[i]? ≠ some (some (DV.grow l))
  | _, _, .nil => fun n i l e => by
    rw [List.map_nil, List.nil_append, List.getElem?_replicate] at e
    split at e <;> cases e
  | _, _, .cons _ nm t => fun n i l e => by
    cases i with
    | zero =>
      rw [List.map_cons, List.cons_append, List.getElem?_cons_zero] at e
      cases e
      exact nm l rfl
    | succ i =>
      rw [List.map_cons, List.cons_append, List.getElem?_cons_succ] at e
      exact ArgsAt.noMut t n i l e
/-- a slot's list that may change, read where what is read is flat -/
def flatD : PyData → Bool
  | .none => true
  | .bool _ => true
  | .int _ => true
  | .str _ => true
  | _ => false
theorem flat_any {M M' : Addr → Prop} {H : Hp} {v : V} {d : PyData} (f : flatD d = true) (h : Dt M H v d) : Dt M' H v d := by
  cases h with
  | non => exact .non
  | bl b => exact .bl b
  | int i => exact .int i
  | str x => exact .str x
  | lst _ _ _ => cases f
  | tup _ _ _ => cases f
  | brd _ _ _ _ _ _ _ => cases f

/-! ### readings over data -/
abbrev TDE := DEnv → (PyData → Prop) → Prop
/-- what may follow a value -/
def Cont (M : Addr → Prop) (B : Gr) (H : Hp) (Q : PyData → Prop) (R : VK) : Prop := ∀ v H' d, Good M B H' → Keep M B H H' → Dt M H' v d → Q d → R v H'
theorem Cont.keep {M : Addr → Prop} {B : Gr} {H H' : Hp} {Q : PyData → Prop} {R : VK} (c : Cont M B H Q R) (k : Keep M B H H') : Cont M B H' Q R := fun v H2 d g k2 h q => c v H2 d g (k.trans k2) h q
def SE (B : Gr) (te : TE) (t : TDE) : Prop := ∀ (M : Addr → Prop) σ H ds Q R, Good M B H → EnvAt M B H σ ds → t ds Q → Cont M B H Q R → te σ H R
structure PD (X : Cx) (B : Gr) (e : Expr) (te : TE) (t : TDE) : Prop where
  pe : PE X e te
  se : SE B te t

def dVar (i : Nat) : TDE := fun ds Q => match ds[i]? with
  | some (some (.dat d)) => Q d
  | _ => False
def dC (d : PyData) : TDE := fun _ Q => Q d
theorem se_var {B : Gr} {i : Nat} : SE B (tVar i) (dVar i) := fun M σ H ds Q R g e h c => by
  unfold dVar at h
  split at h
  · rename_i d hd
    obtain ⟨v, hv, r⟩ := e.get i hd
    cases r with
    | dat r => exact ⟨v, hv, c v H d g Keep.refl r h⟩
  · exact h.elim
theorem se_c {B : Gr} {v : V} {d : PyData} (hv : ∀ M H, Dt M H v d) : SE B (tC v) (dC d) := fun M σ H ds Q R g e h c => c v H d g Keep.refl (hv M H) h

section
variable {X : Cx} {M : Addr → Prop} {B : Gr} {pos : Pos}
theorem d_var (i : Nat) {x : Str} (hN : X.N[i]? = some x := by rfl) (hv : Vis X.env.scope x := by first | exact Or.inl rfl | exact Or.inr (Or.inl rfl) | exact Or.inr (Or.inr rfl)) (hd : (x == ("__debug__" : Str)) = false := by decide)
    (hcd : (x == ("__classdict__" : Str)) = false := by decide) : PD X B (.Name x pos) (tVar i) (dVar i) := ⟨pe_var hN hv hd hcd, se_var⟩
theorem d_int {i j} : PD X B (.Constant (.int i) j pos) (tC (.int i)) (dC (.int i)) := ⟨pe_int, se_c fun _ _ => .int i⟩
theorem d_bl {b j} : PD X B (.Constant (.bool b) j pos) (tC (.bl b)) (dC (.bool b)) := ⟨pe_bl, se_c fun _ _ => .bl b⟩
theorem d_non {j} : PD X B (.Constant .none j pos) (tC .non) (dC .none) := ⟨pe_non, se_c fun _ _ => .non⟩
theorem d_str {x j} : PD X B (.Constant (.str x) j pos) (tC (.str x)) (dC (.str x)) := ⟨pe_str, se_c fun _ _ => .str x⟩
end

/-! ### operators -/
abbrev D2 := PyData → PyData → (PyData → Prop) → Prop
def RD (B : Gr) (r2 : R2) (r : D2) : Prop := ∀ (M : Addr → Prop) x y dx dy H Q R, Good M B H → Dt M H x dx → Dt M H y dy → r dx dy Q → Cont M B H Q R → r2 x y H R
def dOp (r : D2) (a b : TDE) : TDE := fun ds Q => a ds fun x => b ds fun y => r x y Q
theorem se_op {B : Gr} {r2 : R2} {r : D2} {ta tb : TE} {a b : TDE} (hr : RD B r2 r) (ha : SE B ta a) (hb : SE B tb b) : SE B (tOp r2 ta tb) (dOp r a b) := fun M σ H ds Q R g e h c => by
  refine ha M σ H ds _ _ g e h fun x H1 dx g1 k1 hx q1 => ?_
  refine hb M σ H1 ds _ _ g1 (e.keep g.1 k1) q1 fun y H2 dy g2 k2 hy q2 => ?_
  exact hr M x y dx dy H2 Q R g2 (hx.keep g.1 k2) hy q2 (c.keep (k1.trans k2))
theorem d_op {X : Cx} {B : Gr} {op : Operator} {a b : Expr} {ta tb : TE} {da db : TDE} {pos : Pos} {r2 : R2} {r : D2} (ho : OpR X (binaryOp op) r2) (hr : RD B r2 r) (ha : PD X B a ta da) (hb : PD X B b tb db) :
    PD X B (.BinOp a op b pos) (tOp r2 ta tb) (dOp r da db) := ⟨pe_op ho ha.pe hb.pe, se_op hr ha.se hb.se⟩

def dSize (n : Nat) : Prop := n ≤ 1000000
theorem dSize.le {n : Nat} (h : dSize n) : n ≤ sizeLine := Nat.le_trans h (by rw [sizeLine_eq]; decide)
def rAdd : D2 := fun x y Q => match x, y with
  | .int i, .int j => Q (.int (i + j))
  | .list a, .list b => dSize (a.length + b.length) ∧ Q (.list (a ++ b))
  | .tuple a, .tuple b => dSize (a.length + b.length) ∧ Q (.tuple (a ++ b))
  | .str a, .str b => dSize (a.length + b.length) ∧ Q (.str (a ++ b))
  | _, _ => False
/-! #### + - * // % ** -/
def rAddV (K : PySem.W.Frag) : R2 := fun x y H Q =>
  (∃ i j, x = .int i ∧ y = .int j ∧ Q (.int (i + j)) H) ∨ (rCat x y H Q) ∨ rCatA K x y H Q ∨ (∃ i j, x = .str i ∧ y = .str j ∧ i.length + j.length ≤ sizeLine ∧ Q (.str (i ++ j)) H)
theorem op_addV {X : Cx} : OpR X (binaryOp .Add) (rAddV X.K) := OpR.or op_add (OpR.or op_cat (OpR.or op_catA op_add_str))
theorem rd_add {B : Gr} {K : PySem.W.Frag} : RD B (rAddV K) rAdd := by
  intro M x y dx dy H Q R g hx hy h c
  cases dx <;> cases dy <;> first | exact h.elim | skip
  · rename_i i j
    cases hx
    cases hy
    exact .inl ⟨i, j, rfl, rfl, c _ H _ g Keep.refl (.int _) h⟩
  · rename_i i j
    cases hx
    cases hy
    exact .inr (.inr (.inr ⟨i, j, rfl, rfl, h.1.le, c _ H _ g Keep.refl (.str _) h.2⟩))
  · rename_i a b
    cases hx with
    | lst n1 e1 a1 =>
      cases hy with
      | lst n2 e2 a2 =>
        refine .inr (.inl ⟨_, _, _, _, rfl, rfl, e1, e2, (by rw [a1.length, a2.length]; exact h.1.le), fun p hp => ?_⟩)
        exact c _ _ _ (g.new hp) (Keep.new hp) (Dt.newL g hp (a1.append a2)) h.2
  · rename_i a b
    cases hx with
    | tup n1 e1 a1 =>
      cases hy with
      | tup n2 e2 a2 =>
        refine .inr (.inr (.inl ⟨_, _, _, _, rfl, rfl, SqT.of e1, SqT.of e2, (by rw [a1.length, a2.length]; exact h.1.le), fun z => ?_, fun z z2 => ?_, fun _ _ p hp => ?_⟩))
        · subst z
          cases a1
          exact c _ H _ g Keep.refl (.tup n2 e2 a2) h.2
        · subst z2
          cases a2
          exact c _ H _ g Keep.refl (.tup n1 e1 (by rw [List.append_nil]; exact a1)) h.2
        · exact c _ _ _ (g.new hp) (Keep.new hp) (Dt.newT g hp (a1.append a2)) h.2
def rSub : D2 := fun x y Q => match x, y with
  | .int i, .int j => Q (.int (i - j))
  | _, _ => False
theorem rd_sub {B : Gr} : RD B (rI0 fun i j => .int (i - j)) rSub := by
  intro M x y dx dy H Q R g hx hy h c
  cases dx <;> cases dy <;> first | exact h.elim | skip
  cases hx
  cases hy
  exact ⟨_, _, rfl, rfl, c _ H _ g Keep.refl (.int _) h⟩
/-- a product: each factor of at most 300000 bits -/
def rMul : D2 := fun x y Q => match x, y with
  | .int i, .int j => CMulW i j ∧ Q (.int (i * j))
  | .list a, .int k => 0 ≤ k ∧ k < 1000 ∧ a.length ≤ 1000 ∧ Q (.list (List.replicate k.toNat a).flatten)
  | _, _ => False
theorem op_mulV {X : Cx} : OpR X (binaryOp .Mult) (fun x y H Q => rI CMulW (fun i j => .int (i * j)) x y H Q ∨ rRep x y H Q) := OpR.or op_mulW op_rep
theorem rd_mul {B : Gr} : RD B (fun x y H Q => rI CMulW (fun i j => .int (i * j)) x y H Q ∨ rRep x y H Q) rMul := by
  intro M x y dx dy H Q R g hx hy h c
  cases dx <;> cases dy <;> first | exact h.elim | skip
  · cases hx
    cases hy
    exact .inl ⟨_, _, rfl, rfl, h.1, c _ H _ g Keep.refl (.int _) h.2⟩
  · rename_i a k
    cases hy
    cases hx with
    | lst n1 e1 a1 =>
      obtain ⟨k0, k1, ka, q⟩ := h
      have hl := a1.length
      have hs : sizeLine = 16777216 := sizeLine_eq
      have hm : a.length * k.toNat ≤ 1000 * 1000 := Nat.mul_le_mul ka (by omega)
      refine .inr ⟨_, _, _, rfl, rfl, e1, by omega, by omega, by rw [hl]; omega, fun p hp => ?_⟩
      exact c _ _ _ (g.new hp) (Keep.new hp) (Dt.newL g hp (a1.replicate _)) q
def rFdiv : D2 := fun x y Q => match x, y with
  | .int i, .int j => 0 < j ∧ j < 2 ^ 1000 ∧ Q (.int (i / j))
  | _, _ => False
theorem rd_fdiv {B : Gr} : RD B (rI CDivW fun i j => .int (i / j)) rFdiv := by
  intro M x y dx dy H Q R g hx hy h c
  cases dx <;> cases dy <;> first | exact h.elim | skip
  cases hx
  cases hy
  obtain ⟨h0, h1, q⟩ := h
  refine ⟨_, _, rfl, rfl, wide_div h0 (b := 1000) ?_ (by decide) (by decide), c _ H _ g Keep.refl (.int _) q⟩
  have e : ((2 : Int) ^ 1000) = (((2 : Nat) ^ 1000 : Nat) : Int) := by rfl
  rw [e] at h1
  generalize (2 : Nat) ^ 1000 = m at h1 ⊢
  omega
def rMod : D2 := fun x y Q => match x, y with
  | .int i, .int j => 0 < j ∧ Q (.int (i % j))
  | _, _ => False
theorem rd_mod {B : Gr} : RD B (rI (fun _ j => 0 < j) fun i j => .int (i % j)) rMod := by
  intro M x y dx dy H Q R g hx hy h c
  cases dx <;> cases dy <;> first | exact h.elim | skip
  cases hx
  cases hy
  exact ⟨_, _, rfl, rfl, h.1, c _ H _ g Keep.refl (.int _) h.2⟩
def rPow : D2 := fun x y Q => match x, y with
  | .int i, .int j => CPow i j ∧ Q (.int (i ^ j.toNat))
  | _, _ => False
theorem rd_pow {B : Gr} : RD B (rI CPow fun i j => .int (i ^ j.toNat)) rPow := by
  intro M x y dx dy H Q R g hx hy h c
  cases dx <;> cases dy <;> first | exact h.elim | skip
  cases hx
  cases hy
  exact ⟨_, _, rfl, rfl, h.1, c _ H _ g Keep.refl (.int _) h.2⟩

/-! #### one place -/
def dUn (r : PyData → (PyData → Prop) → Prop) (a : TDE) : TDE := fun ds Q => a ds fun x => r x Q
def rNeg : PyData → (PyData → Prop) → Prop := fun x Q => match x with
  | .int i => Q (.int (-i))
  | _ => False
theorem d_neg {X : Cx} {B : Gr} {a : Expr} {ta : TE} {da : TDE} {pos : Pos} (ha : PD X B a ta da) : PD X B (.UnaryOp .USub a pos) (tUn (rU fun i => .int (-i)) ta) (dUn rNeg da) :=
  ⟨pe_un un_neg ha.pe, fun M σ H ds Q R g e h c => ha.se M σ H ds _ _ g e h fun x H1 dx g1 k1 hx q1 => by
    cases dx <;> first | exact q1.elim | skip
    cases hx
    exact ⟨_, rfl, c _ H1 _ g1 k1 (.int _) q1⟩⟩

/-! #### comparisons -/
def rEqA : D2 := fun x y Q => match x, y with
  | .str s, .str t => Q (.bool (decide (s = t)))
  | x, y => SeqAt.shaped x = true ∧ SeqAt.shaped y = true ∧ Q (.bool (PyData.eqv x y))
def rNeA : D2 := fun x y Q => match x, y with
  | .str s, .str t => Q (.bool (!decide (s = t)))
  | x, y => SeqAt.shaped x = true ∧ SeqAt.shaped y = true ∧ Q (.bool (!PyData.eqv x y))
def rEqV (K : PySem.W.Frag) : R2 := fun x y H Q => rEq x y H Q ∨ rEqD K x y H Q
def rNeV (K : PySem.W.Frag) : R2 := fun x y H Q => rNe x y H Q ∨ rNeD K x y H Q
theorem op_eqV {X : Cx} (hu : X.A.units + 64 < cLine) : OpR X (compareOp .Eq) (rEqV X.K) := OpR.or op_eq (op_eqD hu)
theorem op_neV {X : Cx} (hu : X.A.units + 64 < cLine) : OpR X (compareOp .NotEq) (rNeV X.K) := OpR.or op_ne (op_neD hu)
theorem str_dec {s t : Str} : decide (V.str s = V.str t) = decide (s = t) := by
  rw [Bool.eq_iff_iff]
  simp
theorem rd_eq {B : Gr} {K : PySem.W.Frag} : RD B (rEqV K) rEqA := by
  intro M x y dx dy H Q R g hx hy h c
  unfold rEqA at h
  split at h
  · cases hx
    cases hy
    exact .inl ⟨rfl, by rw [str_dec]; exact c _ H _ g Keep.refl (.bl _) h⟩
  · exact .inr ⟨_, _, Dt.dp (PyData.hasDict_of_canLay _ (SeqAt.canLay_of_shaped h.1)) hx, Dt.dp (PyData.hasDict_of_canLay _ (SeqAt.canLay_of_shaped h.2.1)) hy, h.1, h.2.1, c _ H _ g Keep.refl (.bl _) h.2.2⟩
theorem rd_ne {B : Gr} {K : PySem.W.Frag} : RD B (rNeV K) rNeA := by
  intro M x y dx dy H Q R g hx hy h c
  unfold rNeA at h
  split at h
  · cases hx
    cases hy
    exact .inl ⟨rfl, by rw [str_dec]; exact c _ H _ g Keep.refl (.bl _) h⟩
  · exact .inr ⟨_, _, Dt.dp (PyData.hasDict_of_canLay _ (SeqAt.canLay_of_shaped h.1)) hx, Dt.dp (PyData.hasDict_of_canLay _ (SeqAt.canLay_of_shaped h.2.1)) hy, h.1, h.2.1, c _ H _ g Keep.refl (.bl _) h.2.2⟩
def rCmpI (p : Int → Int → Bool) : D2 := fun x y Q => match x, y with
  | .int i, .int j => Q (.bool (p i j))
  | _, _ => False
theorem rd_cmpI {B : Gr} {p : Int → Int → Bool} : RD B (rI0 fun i j => .bl (p i j)) (rCmpI p) := by
  intro M x y dx dy H Q R g hx hy h c
  cases dx <;> cases dy <;> first | exact h.elim | skip
  cases hx
  cases hy
  exact ⟨_, _, rfl, rfl, c _ H _ g Keep.refl (.bl _) h⟩
def isNone : PyData → Bool
  | .none => true
  | _ => false
theorem Dt.isNone {M : Addr → Prop} {H : Hp} {v : V} {d : PyData} (h : Dt M H v d) : decide (v = .non) = isNone d := by
  cases h <;> rfl
def rIsNo : D2 := fun x y Q => y = .none ∧ Q (.bool (isNone x))
def rNotNo : D2 := fun x y Q => y = .none ∧ Q (.bool (!isNone x))
theorem rd_isN {B : Gr} : RD B (fun x y H Q => y = .non ∧ Q (.bl (decide (x = .non))) H) rIsNo := by
  intro M x y dx dy H Q R g hx hy h c
  obtain ⟨rfl, q⟩ := h
  cases hy
  exact ⟨rfl, by rw [hx.isNone]; exact c _ H _ g Keep.refl (.bl _) q⟩
theorem rd_notN {B : Gr} : RD B (fun x y H Q => y = .non ∧ Q (.bl (!decide (x = .non))) H) rNotNo := by
  intro M x y dx dy H Q R g hx hy h c
  obtain ⟨rfl, q⟩ := h
  cases hy
  exact ⟨rfl, by rw [hx.isNone]; exact c _ H _ g Keep.refl (.bl _) q⟩
def eqD : PyData → PyData → Bool
  | .none, .none => true
  | .bool a, .bool b => a == b
  | .bool a, .int b => (if a then 1 else 0) == b
  | .int a, .bool b => a == (if b then 1 else 0)
  | .int a, .int b => a == b
  | .str a, .str b => a == b
  | _, _ => false
def inD (x : PyData) (ys : List PyData) : Bool := ys.any fun y => eqD y x
theorem Dt.flat {M : Addr → Prop} {H : Hp} {v : V} {d : PyData} (h : Dt M H v d) : flatV v = flatD d := by
  cases h <;> rfl
theorem Dt.eqV {M : Addr → Prop} {H : Hp} {v u : V} {d e : PyData} (h : Dt M H v d) (k : Dt M H u e) : eqV v u = eqD d e := by
  cases h <;> cases k <;> rfl
theorem DtA.flat {M : Addr → Prop} {H : Hp} : ∀ {ds : List PyData} {vs : List V}, DtA M H vs ds → vs.all flatV = ds.all flatD
  | [], _, h => by cases h; rfl
  | d :: ds, _, h => by
    cases h with
    | cons h1 h2 => rw [List.all_cons, List.all_cons, h1.flat, DtA.flat h2]
theorem DtA.inV {M : Addr → Prop} {H : Hp} {v : V} {d : PyData} (h : Dt M H v d) : ∀ {ds : List PyData} {vs : List V}, DtA M H vs ds → inV v vs = inD d ds
  | [], _, h => by cases h; rfl
  | d :: ds, _, h' => by
    cases h' with
    | cons h1 h2 =>
      have := DtA.inV h h2
      unfold L2.inV inD at *
      rw [List.any_cons, List.any_cons, h1.eqV h, this]
def rInD (neg : Bool) : D2 := fun x y Q => match y with
  | .list ys => flatD x = true ∧ ys.all flatD = true ∧ Q (.bool (if neg then !inD x ys else inD x ys))
  | .tuple ys => flatD x = true ∧ ys.all flatD = true ∧ Q (.bool (if neg then !inD x ys else inD x ys))
  | _ => False
theorem rd_in {B : Gr} {K : PySem.W.Frag} {neg : Bool} : RD B (rIn K neg) (rInD neg) := by
  intro M x y dx dy H Q R g hx hy h c
  cases dy <;> first | exact h.elim | skip
  · cases hy with
    | lst n e a => exact ⟨_, _, rfl, .inl (SqL.of e), by rw [hx.flat]; exact h.1, by rw [a.flat]; exact h.2.1, by rw [a.inV hx]; exact c _ H _ g Keep.refl (.bl _) h.2.2⟩
  · cases hy with
    | tup n e a => exact ⟨_, _, rfl, .inr (SqT.of e), by rw [hx.flat]; exact h.1, by rw [a.flat]; exact h.2.1, by rw [a.inV hx]; exact c _ H _ g Keep.refl (.bl _) h.2.2⟩
theorem d_cmp {X : Cx} {B : Gr} {op : CmpOp} {a b : Expr} {ta tb : TE} {da db : TDE} {pos : Pos} {r2 : R2} {r : D2} (ho : OpR X (compareOp op) r2) (hr : RD B r2 r) (ha : PD X B a ta da) (hb : PD X B b tb db) (hm : behindInMarks op b = false) :
    PD X B (.Compare a [op] [b] pos) (tOp r2 ta tb) (dOp r da db) := ⟨pe_cmpR ho ha.pe hb.pe hm, se_op hr ha.se hb.se⟩
def dChain (r r' : D2) (a b c : TDE) : TDE := fun ds Q => a ds fun x => b ds fun y => r x y fun z => match z with
  | .bool true => c ds fun w => r' y w Q
  | .bool false => Q (.bool false)
  | _ => False
theorem d_chain {X : Cx} {B : Gr} {op op' : CmpOp} {a b c : Expr} {ta tb tc : TE} {da db dc : TDE} {pos : Pos} {r2 r2' : R2} {r r' : D2} (ho : OpR X (compareOp op) r2) (ho' : OpR X (compareOp op') r2') (hr : RD B r2 r) (hr' : RD B r2' r')
    (ha : PD X B a ta da) (hb : PD X B b tb db) (hc : PD X B c tc dc) (hm : lastMarks [op, op'] [b, c] = false := by with_unfolding_all rfl) : PD X B (.Compare a [op, op'] [b, c] pos) (tChain r2 r2' ta tb tc) (dChain r r' da db dc) :=
  ⟨pe_chain ho ho' ha.pe hb.pe hc.pe hm, fun M σ H ds Q R g e h k => by
    refine ha.se M σ H ds _ _ g e h fun x H1 dx g1 k1 hx q1 => ?_
    refine hb.se M σ H1 ds _ _ g1 (e.keep g.1 k1) q1 fun y H2 dy g2 k2 hy q2 => ?_
    refine hr M x y dx dy H2 _ _ g2 (hx.keep g.1 k2) hy q2 fun z H3 dz g3 k3 hz q3 => ?_
    cases dz <;> first | exact q3.elim | skip
    rename_i bb
    cases hz
    refine ⟨bb, rfl, ?_⟩
    cases bb with
    | false => exact iteF (k _ H3 _ g3 (k1.trans (k2.trans k3)) (.bl _) q3)
    | true =>
      refine iteT ?_
      refine hc.se M σ H3 ds _ _ g3 (e.keep g.1 (k1.trans (k2.trans k3))) q3 fun w H4 dw g4 k4 hw q4 => ?_
      exact hr' M y w dy dw H4 Q R g4 ((hy.keep g.1 k3).keep g.1 k4) hw q4 (k.keep (k1.trans (k2.trans (k3.trans k4))))⟩

/-! #### subscripts and slices -/
theorem DtA.atI {M : Addr → Prop} {H : Hp} {ds : List PyData} {vs : List V} {d : PyData} {i : Int} (h : DtA M H vs ds) (e : atI ds i = some d) : ∃ v, atI vs i = some v ∧ Dt M H v d := by
  unfold L2.atI at e ⊢
  rw [h.length]
  cases q : ixN ds.length i with
  | none => rw [q] at e; cases e
  | some j =>
    rw [q] at e
    obtain ⟨v, hv, r⟩ := DtA.get j h e
    exact ⟨v, hv, r⟩
def rIx : D2 := fun x y Q => match x, y with
  | .list l, .int i => ∃ d, atI l i = some d ∧ Q d
  | .tuple l, .int i => ∃ d, atI l i = some d ∧ Q d
  | .str z, .int i => dSize z.length ∧ ∃ c, atI z.cps.toList i = some c ∧ Q (.str ⟨#[c]⟩)
  | _, _ => False
theorem rd_ix {B : Gr} {K : PySem.W.Frag} : RD B (fun x y H Q => rIxL K x y H Q ∨ rIxT K x y H Q ∨ rIxS x y H Q) rIx := by
  intro M x y dx dy H Q R g hx hy h c
  cases dx <;> cases dy <;> first | exact h.elim | skip
  · cases hx
    cases hy
    obtain ⟨hz, ch, e, q⟩ := h
    exact .inr (.inr ⟨_, _, ch, rfl, rfl, hz.le, e, c _ H _ g Keep.refl (.str _) q⟩)
  · cases hy
    cases hx with
    | lst n e a =>
      obtain ⟨d, hd, q⟩ := h
      obtain ⟨v, hv, r⟩ := a.atI hd
      exact .inl ⟨_, _, _, v, rfl, rfl, SqL.of e, hv, c _ H _ g Keep.refl r q⟩
  · cases hy
    cases hx with
    | tup n e a =>
      obtain ⟨d, hd, q⟩ := h
      obtain ⟨v, hv, r⟩ := a.atI hd
      exact .inr (.inl ⟨_, _, _, v, rfl, rfl, SqT.of e, hv, c _ H _ g Keep.refl r q⟩)
theorem d_ix {X : Cx} {B : Gr} {a b : Expr} {ta tb : TE} {da db : TDE} {pos : Pos} (ha : PD X B a ta da) (hb : PD X B b tb db) (hs : PlainIx b := by exact fun _ _ => rfl) :
    PD X B (.Subscript a b pos) (tOp (fun x y H Q => rIxL X.K x y H Q ∨ rIxT X.K x y H Q ∨ rIxS x y H Q) ta tb) (dOp rIx da db) := ⟨pe_ix (IxR.or ix_list (IxR.or ix_tup ix_str)) ha.pe hb.pe hs, se_op rd_ix ha.se hb.se⟩
abbrev TDO := DEnv → (Option Int → Prop) → Prop
structure PDO (X : Cx) (B : Gr) (e : Option Expr) (te : TO) (t : TDO) : Prop where
  po : PO X e te
  so : ∀ (M : Addr → Prop) σ H ds Q (R : Option Int → Hp → Prop), Good M B H → EnvAt M B H σ ds → t ds Q → (∀ o H', Good M B H' → Keep M B H H' → Q o → R o H') → te σ H R
theorem do_none {X : Cx} {B : Gr} : PDO X B none tNoPart (fun _ Q => Q none) := ⟨po_none, fun _ _ H _ _ _ g _ h c => c none H g Keep.refl h⟩
def dPart (a : TDE) : TDO := fun ds Q => a ds fun x => match x with
  | .int i => Q (some i)
  | _ => False
theorem do_some {X : Cx} {B : Gr} {e : Expr} {te : TE} {d : TDE} (h : PD X B e te d) : PDO X B (some e) (tPart te) (dPart d) :=
  ⟨po_some h.pe, fun M σ H ds Q R g e hq c => h.se M σ H ds _ _ g e hq fun x H1 dx g1 k1 hx q1 => by
    cases dx <;> first | exact q1.elim | skip
    cases hx
    exact ⟨_, rfl, c _ H1 g1 k1 q1⟩⟩
def cutD (xs : List PyData) (lo hi : Option Int) : List PyData := (xs.drop (HT.sIx xs.length 0 lo)).take (HT.sIx xs.length xs.length hi - HT.sIx xs.length 0 lo)
theorem DtA.cut {M : Addr → Prop} {H : Hp} {ds : List PyData} {vs : List V} (h : DtA M H vs ds) (lo hi : Option Int) : DtA M H (cutV vs lo hi) (cutD ds lo hi) := by
  unfold cutV cutD
  rw [h.length]
  exact DtA.take _ (DtA.drop _ h)
def rSlD : PyData → Option Int → Option Int → (PyData → Prop) → Prop := fun x lo hi Q => match x with
  | .list l => Q (.list (cutD l lo hi))
  | .tuple l => Q (.tuple (cutD l lo hi))
  | .str z => dSize z.length ∧ Q (.str (cutS z lo hi))
  | _ => False
def dSl (te : TDE) (tl th : TDO) : TDE := fun ds Q => te ds fun x => tl ds fun l => th ds fun u => rSlD x l u Q
theorem d_slice {X : Cx} {B : Gr} {a : Expr} {lo hi : Option Expr} {ta : TE} {tl th : TO} {da : TDE} {dl dh : TDO} {pos p2 : Pos} (ha : PD X B a ta da) (hl : PDO X B lo tl dl) (hh : PDO X B hi th dh) :
    PD X B (.Subscript a (.Slice lo hi none p2) pos) (tSl (fun x l u H Q => rSlL X.K x l u H Q ∨ rSlA X.K x l u H Q ∨ rSlS x l u H Q) ta tl th) (dSl da dl dh) :=
  ⟨pe_slice (SlR.or sl_list (SlR.or sl_tupA sl_str)) ha.pe hl.po hh.po, fun M σ H ds Q R g e h c => by
    refine ha.se M σ H ds _ _ g e h fun x H1 dx g1 k1 hx q1 => ?_
    refine hl.so M σ H1 ds _ _ g1 (e.keep g.1 k1) q1 fun l H2 g2 k2 q2 => ?_
    refine hh.so M σ H2 ds _ _ g2 (e.keep g.1 (k1.trans k2)) q2 fun u H3 g3 k3 q3 => ?_
    have c' := c.keep (k1.trans (k2.trans k3))
    have hx' := (hx.keep g.1 k2).keep g.1 k3
    cases dx <;> first | exact q3.elim | skip
    · cases hx'
      exact .inr (.inr ⟨_, rfl, q3.1.le, c' _ H3 _ g3 Keep.refl (.str _) q3.2⟩)
    · cases hx' with
      | lst n e a => exact .inl ⟨_, _, rfl, SqL.of e, fun p hp => c' _ _ _ (g3.new hp) (Keep.new hp) (Dt.newL g3 hp (a.cut _ _)) q3⟩
    · rename_i ll
      cases hx' with
      | @tup a xs ds n e a =>
        refine .inr (.inl ⟨_, _, rfl, SqT.of e, fun w => ?_, fun _ p hp => c' _ _ _ (g3.new hp) (Keep.new hp) (Dt.newT g3 hp (a.cut _ _)) q3⟩)
        refine c' _ H3 _ g3 Keep.refl (.tup n e ?_) q3
        have hc := a.cut l u
        have e2 : cutV xs l u = xs := by
          unfold cutV
          rw [w.1, w.2, Nat.sub_zero, List.drop_zero, List.take_length]
        rw [e2] at hc
        exact hc⟩
end DL
namespace DL
open PySem L2

/-! ### items: of displays, of built-ins; arguments of defs -/
abbrev TDL := DEnv → (List PyData → Prop) → Prop
abbrev TDA := DEnv → (List DV → Prop) → Prop
structure PDL (X : Cx) (B : Gr) (es : List Expr) (ta : TA) (t : TDL) : Prop where
  pa : PA X es ta
  sl : ∀ (M : Addr → Prop) σ H ds Q (R : List V → Hp → Prop), Good M B H → EnvAt M B H σ ds → t ds Q → (∀ vs H' l, Good M B H' → Keep M B H H' → DtA M H' vs l → Q l → R vs H') → ta σ H R
structure PDA (X : Cx) (B : Gr) (es : List Expr) (ta : TA) (t : TDA) : Prop where
  pa : PA X es ta
  sa : ∀ (M : Addr → Prop) σ H ds Q (R : List V → Hp → Prop), Good M B H → EnvAt M B H σ ds → t ds Q → (∀ vs H' xs, Good M B H' → Keep M B H H' → ArgsAt M B H' vs xs → Q xs → R vs H') → ta σ H R
theorem ArgsAt.keep {M : Addr → Prop} {B : Gr} {H H' : Hp} (m : M B) (k : Keep M B H H') : ∀ {vs : List V} {xs : List DV}, ArgsAt M B H vs xs → ArgsAt M B H' vs xs
  | _, _, .nil => .nil
  | _, _, .cons h n t => .cons (h.keep m k) n (ArgsAt.keep m k t)
def dNil : TDL := fun _ Q => Q []
def dCons (a : TDE) (r : TDL) : TDL := fun ds Q => a ds fun x => r ds fun xs => Q (x :: xs)
def aNil : TDA := fun _ Q => Q []
def aCons (a : TDE) (r : TDA) : TDA := fun ds Q => a ds fun x => r ds fun xs => Q (.dat x :: xs)
/-- a name as an argument: data, or the bag -/
def aVar (i : Nat) (r : TDA) : TDA := fun ds Q => match ds[i]? with
  | some (some .bag) => r ds fun xs => Q (.bag :: xs)
  | some (some (.dat d)) => r ds fun xs => Q (.dat d :: xs)
  | _ => False
section
variable {X : Cx} {B : Gr} {e : Expr} {es : List Expr} {te : TE} {ta : TA} {d : TDE} {pos : Pos}
theorem dl_nil : PDL X B [] tNil dNil := ⟨pa_nil, fun M σ H ds Q R g e h c => c [] H [] g Keep.refl .nil h⟩
theorem dl_cons {t : TDL} (ha : PD X B e te d) (hr : PDL X B es ta t) (hs : starEach (e :: es) X.env = (false, eval e X.env) :: starEach es X.env := by rfl) : PDL X B (e :: es) (tCons te ta) (dCons d t) :=
  ⟨pa_cons ha.pe hr.pa hs, fun M σ H ds Q R g en h c => by
    refine ha.se M σ H ds _ _ g en h fun x H1 dx g1 k1 hx q1 => ?_
    refine hr.sl M σ H1 ds _ _ g1 (en.keep g.1 k1) q1 fun vs H2 l g2 k2 hl q2 => ?_
    exact c (x :: vs) H2 (dx :: l) g2 (k1.trans k2) (.cons (hx.keep g.1 k2) hl) q2⟩
theorem da_nil : PDA X B [] tNil aNil := ⟨pa_nil, fun M σ H ds Q R g e h c => c [] H [] g Keep.refl .nil h⟩
theorem da_cons {t : TDA} (ha : PD X B e te d) (hr : PDA X B es ta t) (hs : starEach (e :: es) X.env = (false, eval e X.env) :: starEach es X.env := by rfl) : PDA X B (e :: es) (tCons te ta) (aCons d t) :=
  ⟨pa_cons ha.pe hr.pa hs, fun M σ H ds Q R g en h c => by
    refine ha.se M σ H ds _ _ g en h fun x H1 dx g1 k1 hx q1 => ?_
    refine hr.sa M σ H1 ds _ _ g1 (en.keep g.1 k1) q1 fun vs H2 l g2 k2 hl q2 => ?_
    exact c (x :: vs) H2 (.dat dx :: l) g2 (k1.trans k2) (.cons (.dat (hx.keep g.1 k2)) (fun _ z => nomatch z) hl) q2⟩
theorem da_var {t : TDA} {x : Str} (i : Nat) (hr : PDA X B es ta t) (hN : X.N[i]? = some x := by rfl) (hv : Vis X.env.scope x := by first | exact Or.inl rfl | exact Or.inr (Or.inl rfl) | exact Or.inr (Or.inr rfl)) (hd : (x == ("__debug__" : Str)) = false := by decide)
    (hcd : (x == ("__classdict__" : Str)) = false := by decide) (hs : starEach (.Name x pos :: es) X.env = (false, eval (.Name x pos) X.env) :: starEach es X.env := by rfl) : PDA X B (.Name x pos :: es) (tCons (tVar i) ta) (aVar i t) :=
  ⟨pa_cons (pe_var hN hv hd hcd) hr.pa hs, fun M σ H ds Q R g en h c => by
    unfold aVar at h
    split at h
    · rename_i hy
      obtain ⟨v, hv, r⟩ := en.get i hy
      refine ⟨v, hv, ?_⟩
      refine hr.sa M σ H ds _ _ g en h fun vs H2 l g2 k2 hl q2 => ?_
      exact c (v :: vs) H2 (.bag :: l) g2 k2 (.cons (r.keep g.1 k2) (fun _ z => nomatch z) hl) q2
    · rename_i y hy
      obtain ⟨v, hv, r⟩ := en.get i hy
      refine ⟨v, hv, ?_⟩
      refine hr.sa M σ H ds _ _ g en h fun vs H2 l g2 k2 hl q2 => ?_
      exact c (v :: vs) H2 (.dat y :: l) g2 k2 (.cons (r.keep g.1 k2) (fun _ z => nomatch z) hl) q2
    · exact h.elim⟩

/-! ### displays -/
def dTup (t : TDL) : TDE := fun ds Q => t ds fun l => dSize l.length ∧ Q (.tuple l)
def dLst (t : TDL) : TDE := fun ds Q => t ds fun l => dSize l.length ∧ Q (.list l)
theorem d_tup {x1} {t : TDL} (h : PDL X B es ta t) : PD X B (.Tuple es x1 pos) (tTup ta) (dTup t) :=
  ⟨pe_tup h.pa, fun M σ H ds Q R g en hq c => h.sl M σ H ds _ _ g en hq fun vs H1 l g1 k1 hl q1 =>
    ⟨by rw [hl.length]; exact q1.1.le, fun p hp => c _ _ _ (g1.new hp) (k1.trans (Keep.new hp)) (Dt.newT g1 hp hl) q1.2⟩⟩
theorem d_lst {t : TDL} (h : PDL X B es ta t) : PD X B (.List es pos) (tLst ta) (dLst t) :=
  ⟨pe_lst h.pa, fun M σ H ds Q R g en hq c => h.sl M σ H ds _ _ g en hq fun vs H1 l g1 k1 hl q1 =>
    ⟨by rw [hl.length]; exact q1.1.le, fun p hp => c _ _ _ (g1.new hp) (k1.trans (Keep.new hp)) (Dt.newL g1 hp hl) q1.2⟩⟩

/-! ### built-ins by their values -/
abbrev DC := List PyData → (PyData → Prop) → Prop
def RDC (B : Gr) (r : List V → Hp → VK → Prop) (d : DC) : Prop := ∀ (M : Addr → Prop) vs l H Q R, Good M B H → DtA M H vs l → d l Q → Cont M B H Q R → r vs H R
def dCB (r : DC) (t : TDL) : TDE := fun ds Q => t ds fun l => r l Q
theorem se_cb {r : List V → Hp → VK → Prop} {rd : DC} {t : TDL} {ta : TA} (hr : RDC B r rd) (h : PDL X B es ta t) : SE B (tCB r ta) (dCB rd t) := fun M σ H ds Q R g en hq c =>
  h.sl M σ H ds _ _ g en hq fun vs H1 l g1 k1 hl q1 => hr M vs l H1 Q R g1 hl q1 (c.keep k1)
theorem d_callB {x : Str} {p : Pos} {id : String} {r : List V → Hp → VK → Prop} {rd : DC} {t : TDL} (hc : CallR X (.builtin id) r) (hr : RDC B r rd) (hg : Gl X x) (hm : X.mg x = none) (hv : bootBuiltins x = some (.builtin id)) (ha : PDL X B (e :: es) ta t) (hn : x ≠ "__name__" := by decide)
    (hdb : (x == ("__debug__" : Str)) = false := by decide) (he : starEach (e :: es) X.env = (false, eval e X.env) :: starEach es X.env := by rfl) (hpl : (backTo pos (starEach es X.env)).any (·.1) = false := by rfl) :
    PD X B (.Call (.Name x p) (e :: es) [] pos) (tCB r ta) (dCB rd t) := ⟨pe_callB hc hg hm hv ha.pa hn hdb he hpl, se_cb hr ha⟩
theorem d_callTy {x : Str} {p : Pos} {T : String} {r : List V → Hp → VK → Prop} {rd : DC} {t : TDL} (hc : CallR X (.type T) r) (hr : RDC B r rd) (hg : Gl X x) (hm : X.mg x = none) (hv : bootBuiltins x = some (.type T)) (ha : PDL X B (e :: es) ta t) (hn : x ≠ "__name__" := by decide)
    (hdb : (x == ("__debug__" : Str)) = false := by decide) (he : starEach (e :: es) X.env = (false, eval e X.env) :: starEach es X.env := by rfl) (hpl : (backTo pos (starEach es X.env)).any (·.1) = false := by rfl) :
    PD X B (.Call (.Name x p) (e :: es) [] pos) (tCB r ta) (dCB rd t) := ⟨pe_callTy hc hg hm hv ha.pa hn hdb he hpl, se_cb hr ha⟩
end
/-- len -/
def cLen : DC := fun l Q => match l with
  | [.list a] => Q (.int a.length)
  | [.tuple a] => Q (.int a.length)
  | [.str z] => dSize z.length ∧ Q (.int z.length)
  | _ => False
def rLenV (K : PySem.W.Frag) : List V → Hp → VK → Prop := fun xs H Q => (∃ p ys, xs = [.ref p] ∧ (SqL K H p ys ∨ SqT K H p ys) ∧ Q (.int ys.length) H) ∨ (∃ z, xs = [.str z] ∧ z.length ≤ sizeLine ∧ Q (.int z.length) H)
theorem CallR.or2 {X : Cx} {f : Value} {r r' : List V → Hp → VK → Prop} (h : CallR X f r) (h' : CallR X f r') : CallR X f (fun xs H Q => r xs H Q ∨ r' xs H Q) := by
  intro pins s σ H xs us Q I r h
  rcases h with h1 | h1
  · exact h pins s σ H xs us Q I r h1
  · exact h' pins s σ H xs us Q I r h1
theorem call_lenV {X : Cx} : CallR X (.builtin "len") (rLenV X.K) := CallR.or2 call_len_seq call_len_str
theorem rdc_len {B : Gr} {K : PySem.W.Frag} : RDC B (rLenV K) cLen := by
  intro M vs l H Q R g hl h c
  unfold cLen at h
  split at h
  · cases hl with
    | cons h1 h2 =>
      cases h2
      cases h1 with
      | lst n e a => exact .inl ⟨_, _, rfl, .inl (SqL.of e), by rw [a.length]; exact c _ H _ g Keep.refl (.int _) h⟩
  · cases hl with
    | cons h1 h2 =>
      cases h2
      cases h1 with
      | tup n e a => exact .inl ⟨_, _, rfl, .inr (SqT.of e), by rw [a.length]; exact c _ H _ g Keep.refl (.int _) h⟩
  · cases hl with
    | cons h1 h2 =>
      cases h2
      cases h1
      exact .inr ⟨_, rfl, h.1.le, c _ H _ g Keep.refl (.int _) h.2⟩
  · exact h.elim
def cMax2 : DC := fun l Q => match l with
  | [.int i, .int j] => Q (.int (if j > i then j else i))
  | _ => False
def cMin2 : DC := fun l Q => match l with
  | [.int i, .int j] => Q (.int (if j < i then j else i))
  | _ => False
theorem rdc_max2 {B : Gr} : RDC B (fun xs H Q => ∃ i j, xs = [.int i, .int j] ∧ Q (.int (if j > i then j else i)) H) cMax2 := by
  intro M vs l H Q R g hl h c
  unfold cMax2 at h
  split at h
  · cases hl with
    | cons h1 h2 =>
      cases h2 with
      | cons h3 h4 =>
        cases h4
        cases h1
        cases h3
        exact ⟨_, _, rfl, c _ H _ g Keep.refl (.int _) h⟩
  · exact h.elim
theorem rdc_min2 {B : Gr} : RDC B (fun xs H Q => ∃ i j, xs = [.int i, .int j] ∧ Q (.int (if j < i then j else i)) H) cMin2 := by
  intro M vs l H Q R g hl h c
  unfold cMin2 at h
  split at h
  · cases hl with
    | cons h1 h2 =>
      cases h2 with
      | cons h3 h4 =>
        cases h4
        cases h1
        cases h3
        exact ⟨_, _, rfl, c _ H _ g Keep.refl (.int _) h⟩
  · exact h.elim
def cInt : DC := fun l Q => match l with
  | [.int i] => Q (.int i)
  | [.bool b] => Q (.int (if b then 1 else 0))
  | _ => False
theorem rdc_int {B : Gr} : RDC B (fun xs H Q => (∃ i, xs = [.int i] ∧ Q (.int i) H) ∨ ∃ k, xs = [.bl k] ∧ Q (.int (if k then 1 else 0)) H) cInt := by
  intro M vs l H Q R g hl h c
  unfold cInt at h
  split at h
  · cases hl with
    | cons h1 h2 =>
      cases h2
      cases h1
      exact .inl ⟨_, rfl, c _ H _ g Keep.refl (.int _) h⟩
  · cases hl with
    | cons h1 h2 =>
      cases h2
      cases h1
      exact .inr ⟨_, rfl, c _ H _ g Keep.refl (.int _) h⟩
  · exact h.elim
def cAbs : DC := fun l Q => match l with
  | [.int i] => Q (.int (if i < 0 then -i else i))
  | _ => False
theorem rdc_abs {B : Gr} : RDC B (fun xs H Q => ∃ i, xs = [.int i] ∧ Q (.int (if i < 0 then -i else i)) H) cAbs := by
  intro M vs l H Q R g hl h c
  unfold cAbs at h
  split at h
  · cases hl with
    | cons h1 h2 =>
      cases h2
      cases h1
      exact ⟨_, rfl, c _ H _ g Keep.refl (.int _) h⟩
  · exact h.elim
def cTuple : DC := fun l Q => match l with
  | [.list a] => Q (.tuple a)
  | [.tuple a] => Q (.tuple a)
  | _ => False
def cList : DC := fun l Q => match l with
  | [.list a] => Q (.list a)
  | [.tuple a] => Q (.list a)
  | _ => False
theorem rdc_tuple {B : Gr} {K : PySem.W.Frag} : RDC B (fun xs H Q => ∃ p ys, xs = [.ref p] ∧ ((SqL K H p ys ∧ ∀ l, H l = none → Q (.ref l) (upd H l (.tup ys))) ∨ (SqT K H p ys ∧ Q (.ref p) H))) cTuple := by
  intro M vs l H Q R g hl h c
  unfold cTuple at h
  split at h
  · cases hl with
    | cons h1 h2 =>
      cases h2
      cases h1 with
      | lst n e a => exact ⟨_, _, rfl, .inl ⟨SqL.of e, fun p hp => c _ _ _ (g.new hp) (Keep.new hp) (Dt.newT g hp a) h⟩⟩
  · cases hl with
    | cons h1 h2 =>
      cases h2
      cases h1 with
      | tup n e a => exact ⟨_, _, rfl, .inr ⟨SqT.of e, c _ H _ g Keep.refl (.tup n e a) h⟩⟩
  · exact h.elim
theorem rdc_list {B : Gr} {K : PySem.W.Frag} : RDC B (fun xs H Q => ∃ p ys, xs = [.ref p] ∧ (SqL K H p ys ∨ SqT K H p ys) ∧ ∀ l, H l = none → Q (.ref l) (upd H l (.lst ys))) cList := by
  intro M vs l H Q R g hl h c
  unfold cList at h
  split at h
  · cases hl with
    | cons h1 h2 =>
      cases h2
      cases h1 with
      | lst n e a => exact ⟨_, _, rfl, .inl (SqL.of e), fun p hp => c _ _ _ (g.new hp) (Keep.new hp) (Dt.newL g hp a) h⟩
  · cases hl with
    | cons h1 h2 =>
      cases h2
      cases h1 with
      | tup n e a => exact ⟨_, _, rfl, .inr (SqT.of e), fun p hp => c _ _ _ (g.new hp) (Keep.new hp) (Dt.newL g hp a) h⟩
  · exact h.elim

/-! ### tests -/
abbrev TDT := DEnv → (Bool → Prop) → Prop
structure PDT (X : Cx) (B : Gr) (e : Expr) (tt : TT) (t : TDT) : Prop where
  pt : PT X e tt
  st : ∀ (M : Addr → Prop) σ H ds Q (R : Bool → Hp → Prop), Good M B H → EnvAt M B H σ ds → t ds Q → (∀ b H', Good M B H' → Keep M B H H' → Q b → R b H') → tt σ H R
structure PDW (X : Cx) (B : Gr) (e : Expr) (tt : TT) (t : TDT) : Prop where
  pw : PW X e tt
  st : ∀ (M : Addr → Prop) σ H ds Q (R : Bool → Hp → Prop), Good M B H → EnvAt M B H σ ds → t ds Q → (∀ b H', Good M B H' → Keep M B H H' → Q b → R b H') → tt σ H R
/-- a value's truth -/
def truD (x : PyData) (Q : Bool → Prop) : Prop := match x with
  | .none => Q false
  | .bool b => Q b
  | .int i => Q (i != 0)
  | .str z => dSize z.length ∧ Q ((z.length : Int) != 0)
  | .list l => Q (!l.isEmpty)
  | .tuple l => Q (!l.isEmpty)
  | .dict _ => False
def dTru (a : TDE) : TDT := fun ds Q => a ds fun x => truD x Q
section
variable {X : Cx} {B : Gr} {e : Expr} {te : TE} {d : TDE} {pos : Pos}
theorem isEmpty_len {α β : Type} {l : List α} {m : List β} (h : l.length = m.length) : l.isEmpty = m.isEmpty := by
  cases l <;> cases m <;> first | rfl | (simp at h)
theorem dt_val (h : PD X B e te d) (he : ∀ whole, isTrue e X.env whole = (do let v ← whole; standAt e.pos; holding [v] (truthy v)) := by intro _; rfl) :
    PDT X B e (fun σ H Q => te σ H fun x H' => ∃ k, TruV X.K x H' k ∧ Q k H') (dTru d) :=
  ⟨pt_truth h.pe he, fun M σ H ds Q R g en hq c => h.se M σ H ds _ _ g en hq fun x H1 dx g1 k1 hx q1 => by
    cases hx with
    | non => exact ⟨_, rfl, c _ H1 g1 k1 q1⟩
    | bl b => exact ⟨_, rfl, c _ H1 g1 k1 q1⟩
    | int i => exact ⟨_, rfl, c _ H1 g1 k1 q1⟩
    | str z => exact ⟨_, ⟨q1.1.le, rfl⟩, c _ H1 g1 k1 q1.2⟩
    | lst n e a => exact ⟨_, .inl ⟨_, SqL.of e, rfl⟩, c _ H1 g1 k1 (by rw [isEmpty_len a.length]; exact q1)⟩
    | tup n e a => exact ⟨_, .inr (.inl ⟨_, SqT.of e, rfl⟩), c _ H1 g1 k1 (by rw [isEmpty_len a.length]; exact q1)⟩
    | brd _ _ _ _ _ _ _ => exact q1.elim⟩
variable {a b : Expr} {rest : List Expr} {tA tB' : TT} {dA dB : TDT}
def dAndT (t u : TDT) : TDT := fun ds Q => t ds fun c => (c = true → u ds Q) ∧ (c = false → Q false)
def dOrT (t u : TDT) : TDT := fun ds Q => t ds fun c => (c = true → Q true) ∧ (c = false → u ds Q)
def dNotT (t : TDT) : TDT := fun ds Q => t ds fun c => Q (!c)
theorem dw_and1 (ha : PDT X B a tA dA) : PDW X B (.BoolOp .And [a] pos) tA dA := ⟨pw_and1 ha.pt, ha.st⟩
theorem dw_or1 (ha : PDT X B a tA dA) : PDW X B (.BoolOp .Or [a] pos) tA dA := ⟨pw_or1 ha.pt, ha.st⟩
theorem dw_and (ha : PDT X B a tA dA) (hb : PDW X B (.BoolOp .And (b :: rest) pos) tB' dB) : PDW X B (.BoolOp .And (a :: b :: rest) pos) (tAnd tA tB') (dAndT dA dB) :=
  ⟨pw_and ha.pt hb.pw, fun M σ H ds Q R g en hq c => ha.st M σ H ds _ _ g en hq fun k H1 g1 k1 q1 => by
    cases k with
    | true => exact iteT (hb.st M σ H1 ds _ _ g1 (en.keep g.1 k1) (q1.1 rfl) fun k' H2 g2 k2 q2 => c k' H2 g2 (k1.trans k2) q2)
    | false => exact iteF (c false H1 g1 k1 (q1.2 rfl))⟩
theorem dw_or (ha : PDT X B a tA dA) (hb : PDW X B (.BoolOp .Or (b :: rest) pos) tB' dB) : PDW X B (.BoolOp .Or (a :: b :: rest) pos) (tOr tA tB') (dOrT dA dB) :=
  ⟨pw_or ha.pt hb.pw, fun M σ H ds Q R g en hq c => ha.st M σ H ds _ _ g en hq fun k H1 g1 k1 q1 => by
    cases k with
    | true => exact iteT (c true H1 g1 k1 (q1.1 rfl))
    | false => exact iteF (hb.st M σ H1 ds _ _ g1 (en.keep g.1 k1) (q1.2 rfl) fun k' H2 g2 k2 q2 => c k' H2 g2 (k1.trans k2) q2)⟩
theorem dt_w {tt : TT} {t : TDT} (h : PDW X B a tt t) : PDT X B a tt t := ⟨h.pw.pt, h.st⟩
theorem dt_not (ha : PDT X B a tA dA) : PDT X B (.UnaryOp .Not a pos) (tNot tA) (dNotT dA) :=
  ⟨pt_not ha.pt, fun M σ H ds Q R g en hq c => ha.st M σ H ds _ _ g en hq fun k H1 g1 k1 q1 => c (!k) H1 g1 k1 q1⟩
/-- and, or, not as values: all but the last True or False -/
def asB (x : PyData) (Q : Bool → Prop) : Prop := match x with
  | .bool b => Q b
  | _ => False
def dAndV (t u : TDE) : TDE := fun ds Q => t ds fun x => asB x fun c => (c = true → u ds Q) ∧ (c = false → Q (.bool false))
def dOrV (t u : TDE) : TDE := fun ds Q => t ds fun x => asB x fun c => (c = true → Q (.bool true)) ∧ (c = false → u ds Q)
def dNotV (t : TDE) : TDE := fun ds Q => t ds fun x => asB x fun c => Q (.bool (!c))
theorem asB_of {M : Addr → Prop} {H : Hp} {v : V} {x : PyData} {Q : Bool → Prop} (h : Dt M H v x) (q : asB x Q) : ∃ b, v = .bl b ∧ Q b := by
  cases h <;> first | exact ⟨_, rfl, q⟩ | exact (show False from q).elim
variable {ta tb : TE} {da db : TDE}
theorem d_one {op} (h : PD X B a ta da) : PD X B (.BoolOp op [a] pos) ta da := ⟨pe_one h.pe, h.se⟩
theorem d_and (ha : PD X B a ta da) (hb : PD X B (.BoolOp .And (b :: rest) pos) tb db) : PD X B (.BoolOp .And (a :: b :: rest) pos) (tAndV ta tb) (dAndV da db) :=
  ⟨pe_and ha.pe hb.pe, fun M σ H ds Q R g en hq c => ha.se M σ H ds _ _ g en hq fun x H1 dx g1 k1 hx q1 => by
    obtain ⟨k, rfl, q2⟩ := asB_of hx q1
    refine ⟨k, rfl, ?_⟩
    cases k with
    | true => exact iteT (hb.se M σ H1 ds _ _ g1 (en.keep g.1 k1) (q2.1 rfl) (c.keep k1))
    | false => exact iteF (c _ H1 _ g1 k1 (.bl _) (q2.2 rfl))⟩
theorem d_or (ha : PD X B a ta da) (hb : PD X B (.BoolOp .Or (b :: rest) pos) tb db) : PD X B (.BoolOp .Or (a :: b :: rest) pos) (tOrV ta tb) (dOrV da db) :=
  ⟨pe_or ha.pe hb.pe, fun M σ H ds Q R g en hq c => ha.se M σ H ds _ _ g en hq fun x H1 dx g1 k1 hx q1 => by
    obtain ⟨k, rfl, q2⟩ := asB_of hx q1
    refine ⟨k, rfl, ?_⟩
    cases k with
    | true => exact iteT (c _ H1 _ g1 k1 (.bl _) (q2.1 rfl))
    | false => exact iteF (hb.se M σ H1 ds _ _ g1 (en.keep g.1 k1) (q2.2 rfl) (c.keep k1))⟩
theorem d_not (ha : PD X B a ta da) : PD X B (.UnaryOp .Not a pos) (tNotV ta) (dNotV da) :=
  ⟨pe_not ha.pe, fun M σ H ds Q R g en hq c => ha.se M σ H ds _ _ g en hq fun x H1 dx g1 k1 hx q1 => by
    obtain ⟨k, rfl, q2⟩ := asB_of hx q1
    exact ⟨k, rfl, c _ H1 _ g1 k1 (.bl _) q2⟩⟩
def dIfE (t : TDT) (a b : TDE) : TDE := fun ds Q => t ds fun c => (c = true → a ds Q) ∧ (c = false → b ds Q)
theorem d_if {c : Expr} (hc : PDT X B c tA dA) (ha : PD X B a ta da) (hb : PD X B b tb db) : PD X B (.IfExp c a b pos) (tIf tA ta tb) (dIfE dA da db) :=
  ⟨pe_ifExp hc.pt ha.pe hb.pe, fun M σ H ds Q R g en hq k => hc.st M σ H ds _ _ g en hq fun t H1 g1 k1 q1 => by
    cases t with
    | true => exact iteT (ha.se M σ H1 ds _ _ g1 (en.keep g.1 k1) (q1.1 rfl) (k.keep k1))
    | false => exact iteF (hb.se M σ H1 ds _ _ g1 (en.keep g.1 k1) (q1.2 rfl) (k.keep k1))⟩
end

/-! ### a list that grows, read where the answer is flat -/
def lessA (M : Addr → Prop) (a : Addr) : Addr → Prop := fun b => M b ∧ b ≠ a
theorem DvR.lessA {M : Addr → Prop} {B : Gr} {H : Hp} {a : Addr} {v : V} {x : DV} (h : DvR M B H v x) (n : ∀ l, x = .grow l → v ≠ .ref a) : DvR (lessA M a) B H v x := by
  cases h with
  | bag => exact .bag
  | dat h => exact .dat (h.map (Stay.less fun b z => z.1))
  | grow ma nb hz e h => exact .grow ⟨ma, fun z => n _ rfl (by rw [z])⟩ nb hz e (h.map (Stay.less fun b z => z.1))
  | exc h => exact .exc (h.map (Stay.less fun b z => z.1))
theorem EnvAt.of {M : Addr → Prop} {B : Gr} {H : Hp} : ∀ {σ : L2.St} {ds : DEnv}, σ.length = ds.length → (∀ (i : Nat) (x : DV), ds[i]? = some (some x) → ∃ v, σ[i]? = some (some v) ∧ DvR M B H v x) → EnvAt M B H σ ds
  | [], [], _, _ => .nil
  | [], _ :: _, e, _ => nomatch e
  | _ :: _, [], e, _ => nomatch e
  | o :: σ, x :: ds, e, h => by
    refine .cons ?_ (EnvAt.of (by simpa using e) fun i x hx => by simpa using h (i + 1) x (by simpa using hx))
    cases x with
    | none => exact .non _
    | some x =>
      obtain ⟨v, hv, r⟩ := h 0 x rfl
      simp at hv
      rw [hv]
      exact .som r
theorem EnvAt.length {M : Addr → Prop} {B : Gr} {H : Hp} : ∀ {σ : L2.St} {ds : DEnv}, EnvAt M B H σ ds → σ.length = ds.length
  | _, _, .nil => rfl
  | _, _, .cons _ t => by rw [List.length_cons, List.length_cons, EnvAt.length t]
/-- what grows at slot i stands still while nothing else is looked at -/
theorem EnvAt.freeze {M : Addr → Prop} {B : Gr} {H : Hp} {σ : L2.St} {ds : DEnv} {i : Nat} {l : List PyData} (en : EnvAt M B H σ ds) (hi : ds[i]? = some (some (.grow l))) :
    ∃ a, σ[i]? = some (some (.ref a)) ∧ M a ∧ a ≠ B ∧ B.H0 a = none ∧ EnvAt (lessA M a) B H σ ((ds.map fun o => match o with | some (.grow _) => none | o => o).set i (some (.dat (.list l)))) := by
  obtain ⟨v, hv, r⟩ := en.get i hi
  cases r with
  | grow ma nb hz e h =>
    rename_i a xs
    refine ⟨a, hv, ma, nb, hz, EnvAt.of (by rw [List.length_set, List.length_map]; exact en.length) fun j x hx => ?_⟩
    by_cases e2 : i = j
    · subst e2
      have hlt : i < (ds.map fun o => match o with | some (.grow _) => none | o => o).length := by
        rw [List.length_map]
        exact (List.getElem?_eq_some_iff.mp hi).1
      rw [List.getElem?_set_self hlt] at hx
      cases hx
      exact ⟨_, hv, .dat (.lst (fun z => z.2 rfl) e (h.map (Stay.less fun b z => z.1)))⟩
    · rw [List.getElem?_set_ne e2, List.getElem?_map] at hx
      cases q : ds[j]? with
      | none => rw [q] at hx; cases hx
      | some o =>
        rw [q] at hx
        cases o with
        | none => cases hx
        | some y =>
          cases y with
          | bag =>
            cases hx
            obtain ⟨u, hu, ru⟩ := en.get j q
            exact ⟨u, hu, ru.lessA fun l z => nomatch z⟩
          | dat d =>
            cases hx
            obtain ⟨u, hu, ru⟩ := en.get j q
            exact ⟨u, hu, ru.lessA fun l z => nomatch z⟩
          | grow l => cases hx
          | exc b c d fs =>
            cases hx
            obtain ⟨u, hu, ru⟩ := en.get j q
            exact ⟨u, hu, ru.lessA fun l z => nomatch z⟩
def frz (i : Nat) (l : List PyData) (ds : DEnv) : DEnv := (ds.map fun o => match o with | some (.grow _) => none | o => o).set i (some (.dat (.list l)))
def dPeek (i : Nat) (t : TDE) : TDE := fun ds Q => match ds[i]? with
  | some (some (.grow l)) => t (frz i l ds) fun d => flatD d = true ∧ Q d
  | _ => False
theorem d_peek {X : Cx} {B : Gr} {e : Expr} {te : TE} {d : TDE} (i : Nat) (h : PD X B e te d) : PD X B e te (dPeek i d) := ⟨h.pe, fun M σ H ds Q R g en q c => by
  unfold dPeek at q
  split at q
  · rename_i l hl
    obtain ⟨a, ha, ma, nb, hz, en2⟩ := en.freeze hl
    refine h.se (lessA M a) σ H _ _ _ (g.less (fun b z => z.1) fun b hb => ⟨g.d.sub b hb, fun z => g.own hz (by rw [← z]; exact hb)⟩) en2 q fun v H' d g' k' hd q' => ?_
    exact c v H' d (g.more k'.any g') k'.any (flat_any q'.1 hd) q'.2
  · exact q.elim⟩
def tPeek (i : Nat) (t : TDT) : TDT := fun ds Q => match ds[i]? with
  | some (some (.grow l)) => t (frz i l ds) Q
  | _ => False
theorem dt_peek {X : Cx} {B : Gr} {e : Expr} {te : TT} {d : TDT} (i : Nat) (h : PDT X B e te d) : PDT X B e te (tPeek i d) := ⟨h.pt, fun M σ H ds Q R g en q c => by
  unfold tPeek at q
  split at q
  · rename_i l hl
    obtain ⟨a, ha, ma, nb, hz, en2⟩ := en.freeze hl
    refine h.st (lessA M a) σ H _ _ _ (g.less (fun b z => z.1) fun b hb => ⟨g.d.sub b hb, fun z => g.own hz (by rw [← z]; exact hb)⟩) en2 q fun b H' g' k' q' => ?_
    exact c b H' (g.more k'.any g') k'.any q'
  · exact q.elim⟩
end DL
namespace DL
open PySem PySem.Spec PyProof.Rows L2

/-! ### a def's promise where nothing that guards a repr is under way (A.guards = some []) -/
structure FnG (P : Program) (w : World) (K : PySem.W.Frag) (mg : Str → Option Value) (base : Heap) (k : Nat) (f : Addr) (fd : FuncData) (ps : List Str) (sp : Sp) : Prop where
  len : ∀ vs H Q E, sp vs H Q E → vs.length = ps.length
  run : ∀ (A : Around) (outer : List Env) (s : Shared) (H : Hp) (args : Args) (us : List Value) (vs : List V) (Q : VK), A.guards = some [] → Room k A → Env0 P w K mg base A outer s H → BindsTo s fd args (ps.zip us) → Vals vs us → sp vs H Q E0 →
    codeAny (model P w) A (.call (.ref f) args) (CR CX0 outer P w H s Q E0) s
theorem FnG.of {P : Program} {w : World} {K : PySem.W.Frag} {mg : Str → Option Value} {base : Heap} {k : Nat} {f : Addr} {fd : FuncData} {ps : List Str} {sp : Sp} (F : FnOk P w K mg base CX0 k f fd ps sp) : FnG P w K mg base k f fd ps sp :=
  ⟨F.len, fun A outer s H args us vs Q _ hr e0 hb r h => F.run A outer s H args us vs Q E0 hr e0 hb r h⟩
theorem FnG.mono {P : Program} {w : World} {K : PySem.W.Frag} {mg : Str → Option Value} {base : Heap} {j k : Nat} {f : Addr} {fd : FuncData} {ps : List Str} {sp : Sp} (F : FnG P w K mg base j f fd ps sp) (h : j ≤ k) : FnG P w K mg base k f fd ps sp :=
  ⟨F.len, fun A outer s H args us vs Q hg hr => F.run A outer s H args us vs Q hg (hr.mono h)⟩

section
variable {X : Cx} {k : Nat} {f : Addr} {fd : FuncData} {ps : List Str} {sp : Sp} {x : Str} {p pos : Pos} {e : Expr} {es : List Expr} {t : TA}
theorem run_fnG {pins : List (Addr × Obj)} {σ : L2.St} {H : Hp} {s : Shared} {Q : VK} {us : List Value} {vs : List V} (F : FnG X.prog X.w X.K X.mg X.base k f fd ps sp) (hG : X.A.guards = some []) (hr : Room k X.A) (hb : Binds X.K fd ps [])
    (I : Inv X pins σ H s) (r : Vals vs us) (h : sp vs H Q E0) : wpAny (model X.prog X.w) X.A (call (.ref f) us) (EP X pins σ Q) X.xe s := by
  have n : us.length = ps.length := r.length.symm.trans (F.len _ _ _ _ h)
  have b := hb s us I.kIn (by rw [List.append_nil]; exact n)
  rw [List.append_nil] at b
  refine wpAny_call (codeAny_mono (F.run X.A X.stack s H ⟨us, []⟩ us vs Q hG hr I.env0 b r h) fun o s' z => ?_)
  cases o with
  | error _ => exact z.elim
  | ok fl => cases fl with
    | ret u => exact I.after z
    | _ => exact False.elim z
theorem pe_callG (F : FnG X.prog X.w X.K X.mg X.base k f fd ps sp) (hG : X.A.guards = some []) (hr : Room k X.A) (hb : Binds X.K fd ps []) (hg : Gl X x) (hm : X.mg x = some (.ref f)) (hk : PySem.W.keepIn X.K (.ref f) = true)
    (ha : PA X (e :: es) t) (hdb : (x == ("__debug__" : Str)) = false := by decide) (he : starEach (e :: es) X.env = (false, eval e X.env) :: starEach es X.env := by rfl) (hpl : (backTo pos (starEach es X.env)).any (·.1) = false := by rfl) :
    PE X (.Call (.Name x p) (e :: es) [] pos) (fun σ H Q => t σ H fun vs H1 => sp vs H1 Q E0) :=
  ⟨fun pins s σ H Q I h => wpAny_Call_Name_kw (ld_glob I hg hm (PySem.W.callWith_K (h₀ := X.base) I.ok.mod.kin hk
    (thn (ha.run pos pins s σ H _ I h) fun us s1 ⟨_, _, I1, r, q⟩ => ⟨I1.kIn, run_fnG F hG hr hb I1 r q⟩) he hpl) hdb)⟩
end

/-! ### a def by its body -/
theorem fn_ofG {P : Program} {w : World} {K : PySem.W.Frag} {mg : Str → Option Value} {base : Heap} {k : Nat} {f : Addr} {fd : FuncData} {x qual : Str} {st : Stmt} {N ps : List Str} {sp : Sp} (F : Fun K x qual st f fd) (S : FnScope N ps (defScope st))
    (len : ∀ vs H Q E, sp vs H Q E → vs.length = ps.length)
    (body : ∀ (cdv : Value) (A : Around) (outer : List Env) (s : Shared) (H : Hp) (vs : List V) (Q : VK), A.guards = some [] → Room k (A.deeper (envOfC qual (defScope st) s.heap.objs.size f cdv)) → sp vs H Q E0 →
      ∃ t, PSs (cxOf CX0 P w K mg base N qual (defScope st) f cdv A outer s H E0).nox (defBody st) t ∧ t { nx := fun _ H' => Q .non H', rt := Q } (start N vs) H) : FnG P w K mg base (k + 1) f fd ps sp := by
  obtain ⟨oc, od, kV, doc, pm, an, cdv, ct, osl, rfl, lk, hcd⟩ := F.ex
  refine ⟨len, fun A outer s H args us vs Q hG hr e0 hb r hs => ?_⟩
  have kin : K.In s.heap := e0.mod.kin.keeps fun b o e => (e0.bs b o e).1
  have lim : s.heap.NoLimit := e0.mod.nolimit.keeps fun b o e => (e0.bs b o e).1
  have kinds : ∀ y ∈ ps.zip us, (defScope st).names.lookup y.1 = some .local ∨ ((defScope st).names.lookup y.1 = some .cell ∧ ((cellsFrom (s.heap.objs.size + 1) (defScope st).names []).lookup y.1).isSome = true) := by
    rintro ⟨n, v⟩ m
    exact (S.par n (List.of_mem_zip m).1).imp_right fun q => ⟨q, PySem.W.cellsFrom_some _ _ _ (.inl q)⟩
  refine codeAny_call_function hr.depth (kin _ _ lk) rfl S.co S.gen rfl (PySem.W.codeRec_of kin hcd) (hb _ _ _ _ (wpAny_newFunctionEnv_cells S.kind kinds fun env eqv s1 ic => ?_))
  subst eqv
  obtain ⟨t, ht, q⟩ := body cdv A outer s H vs Q hG (hr.deeper _) hs
  refine ⟨lim.keeps ic.toInCall.keep, codeAny_func (wpAny_mono (ht.nox.run [] s1 (start N vs) H _ (inv_start S hr.hd e0 (len _ _ _ _ hs) r ic) q) (fun fl s' z => ?_) fun _ _ z => z)⟩
  cases fl with
  | ret u =>
    obtain ⟨v, _, H', J, rv, qv⟩ := z
    exact ⟨v, H', J.os, J.bare, J.base, J.hok, rv, qv⟩
  | next =>
    obtain ⟨_, H', J, qv⟩ := z
    exact ⟨V.non, H', J.os, J.bare, J.base, J.hok, rfl, qv⟩
  | _ => exact z.elim fun _ y => y.elim fun _ y => y.2.elim

/-! ### the end of a law's row -/
theorem law_callG {P : Program} {w : World} {K : PySem.W.Frag} {mg mb : Str → Option Value} {k : Nat} {fa a : Addr} {fd : FuncData} {x : Str} {sp : Sp} {s₁ : Shared} {vs : List Value} {ns : List Int}
    (kin : K.In s₁.heap) (hns : s₁.heap.Ns mainGlobals mg) (hb : s₁.heap.Ns builtinsNs mb) (hbb : ∀ x : Str, x ≠ "__name__" → mb x = bootBuiltins x) (lim : s₁.heap.NoLimit) (hg : s₁.gens = #[])
    (ha : s₁.heap.get? a = some { cls := .type "list", data := .seq vs.toArray }) (hi : IntsAre vs ns) (hl : ns.length ≤ sizeLine) (hr : Room k callerA)
    (F : ∀ base : Heap, K.In base → base.Ns mainGlobals mg → FnG P w K mg base k fa fd [x] sp) (hbind : ∀ (s : Shared) (u : Value), BindsTo s fd ⟨[u], []⟩ [(x, u)])
    (hsp : ∀ H : Hp, SqL K H a (ns.map V.int) → sp [.ref a] H (fun v _ => v = .bl true) E0) :
    codeAny (model P w) callerA (.call (.ref fa) ⟨[.ref a], []⟩) (fun r s' => r = .ok (.ret (.bool true)) ∧ OldK s₁.heap s'.heap ∧ s'.os = s₁.os ∧ AllBare s'.gens) s₁ := by
  have rv := vals_ints hi
  -- what is tracked at the start: the script, unless it is an object of the module's own
  obtain ⟨H, only, seq, hok, hk⟩ : ∃ H : Hp, (∀ b o, H b = some o → b = a ∧ o = .frz { cls := .type "list", data := .seq vs.toArray } (.lst (ns.map V.int))) ∧ SqL K H a (ns.map V.int) ∧ HOk P w H s₁.heap ∧ (∀ b o, H b = some o → K.lookup b = none) := by
    cases q : K.lookup a with
    | some o =>
      have e := kin a o q
      rw [ha] at e
      cases e
      refine ⟨fun _ => none, fun b o z => (nomatch z), .inr ⟨_, vs.toArray, _, q, rfl, rfl, rfl, ?_, by simpa using rv⟩, fun b u z => (nomatch z), fun b o z => (nomatch z)⟩
      rw [List.size_toArray, hi.length]
      exact hl
    | none =>
      have at_a : ∀ b o, (if b = a then some (HO.frz { cls := .type "list", data := .seq vs.toArray } (.lst (ns.map V.int))) else none) = some o → b = a ∧ o = .frz { cls := .type "list", data := .seq vs.toArray } (.lst (ns.map V.int)) := by
        intro b o z
        by_cases c : b = a
        · rw [if_pos c] at z
          exact ⟨c, (Option.some.inj z).symm⟩
        · rw [if_neg c] at z
          cases z
      refine ⟨fun b => if b = a then some (.frz { cls := .type "list", data := .seq vs.toArray } (.lst (ns.map V.int))) else none, at_a, .inl (.inr ⟨_, if_pos rfl⟩), fun b o z => ?_, fun b o z => ?_⟩
      · obtain ⟨rfl, rfl⟩ := at_a b o z
        exact ⟨ha, by rw [List.length_map]; exact hl, vs, _, rv, ha⟩
      · rw [(at_a b o z).1]
        exact q
  have noD : ∀ {b : Addr} {o : Obj} {es : Array DictEntry} {ep : Nat}, s₁.heap.get? b = some o → o.data = .dict es ep → H b = none := by
    intro b o es ep e d
    cases q : H b with
    | none => rfl
    | some u =>
      rw [(only b u q).1, ha] at e
      cases e
      exact Data.noConfusion d
  have toB : ∀ {b : Addr} {m : Str → Option Value}, s₁.heap.Ns b m → (hidT s₁.heap H).Ns b m := fun ⟨o, es, ep, e, d, r⟩ => ⟨o, es, ep, hidT_get e (noD e d), d, r⟩
  have kinB : K.In (hidT s₁.heap H) := fun b o e => hidT_get (kin b o e) (by
    cases q : H b with
    | none => rfl
    | some u =>
      rw [hk b u q] at e
      cases e)
  have limB : (hidT s₁.heap H).NoLimit := let ⟨mc, h1, h2⟩ := lim; ⟨mc, toB h1, h2⟩
  have env : Env0 P w K mg (hidT s₁.heap H) callerA [] s₁ H := ⟨rfl, ⟨kinB, toB hns, ⟨mb, toB hb, hbb⟩, limB⟩, fun b o e => of_hidT e, Nat.le_of_eq (hidT_size _ _), trivial, fun b m => (nomatch m), hok, .of_eq hg⟩
  refine codeAny_mono ((F _ kinB (toB hns)).run callerA [] s₁ H ⟨[.ref a], []⟩ [.ref a] [.ref a] _ rfl hr env (hbind s₁ (.ref a)) (.cons rfl .nil) (hsp H seq)) fun r s' z => ?_
  cases r with
  | error _ => exact z.elim
  | ok fl => cases fl with
    | next => exact False.elim z
    | brk => exact False.elim z
    | cont => exact False.elim z
    | ret u =>
    obtain ⟨v, H', os, bare, un, hok', rel, q⟩ := z
    subst q
    obtain rfl : u = Value.bool true := rel
    refine ⟨rfl, OldK.of_keep fun b o e => ?_, os, bare⟩
    cases c : H b with
    | none => exact un.keep b o e c (fun m => (nomatch m)) (fun m => (nomatch m))
    | some u =>
      obtain ⟨rfl, rfl⟩ := only b u c
      have e1 := (hok b _ c).1
      rw [e] at e1
      cases e1
      exact (hok' b _ (un.frzs b _ _ c)).1
theorem walk_ofG {l : PySem.W.OpenLaw} {n k : Nat} {q : Program} {loose : List Str} {XP : (Str → Option Value) → Heap → Prop} {YP : World → Heap → Prop} {d : DefRec} {K : Params → PySem.W.Frag} {sp : PySem.W.Frag → Sp} {x : Str}
    (hn : l.most = some n) (hn2 : n ≤ sizeLine) (hdf : d.params.defaults = []) (hr : Room k callerA)
    (hY : ∀ (w : World) (h : Heap), YP w h → (K w.params).In h)
    (F : ∀ (w : World) (mg : Str → Option Value) (fa : Addr) (h : Heap), (K w.params).In h → h.Ns mainGlobals mg → mg d.name = some (.ref fa) →
      ∃ fd : FuncData, (∀ (s : Shared) (u : Value), BindsTo s fd ⟨[u], []⟩ [(x, u)]) ∧
        ∀ base : Heap, (K w.params).In base → base.Ns mainGlobals mg → FnG l.prog w (K w.params) mg base k fa fd [x] (sp (K w.params)))
    (hsp : ∀ (K : PySem.W.Frag) (H : Hp) (a : Addr) (ns : List Int), ns.length ≤ n → SqL K H a (ns.map V.int) → sp K [.ref a] H (fun v _ => v = .bl true) E0) :
    PySem.W.WalkO q loose XP YP l.row.toRowW d [] (fun f vs => PySem.call f vs) :=
  Att.attach_call hn hdf fun w s₀ s₁ mg mb fa o pm cd doc a vs ns G Y ho hd hcd hmg hobj hints hlen hg =>
    let ⟨fd, hb, hF⟩ := F w mg fa _ (hY w _ Y) G.T.g hmg
    law_callG (hY w _ Y) G.T.g G.T.b G.T.builtins G.T.nolimit hg hobj hints (Nat.le_trans hlen hn2) hr hF hb fun H hS => hsp _ H a ns hlen hS
end DL
namespace DL
open PySem L2

/-! ### what a def is worth over data -/
/-- what a def's call is worth: from the arguments to what is wanted of its answer -/
abbrev DR := List DV → (PyData → Prop) → Prop
def spD (R : DR) : Sp := fun vs H Q _ => ∃ (M : Addr → Prop) (B : Gr) (xs : List DV) (Qd : PyData → Prop), ArgsAt M B H vs xs ∧ Good M B H ∧ R xs Qd ∧ Cont M B H Qd Q
def dCall (R : DR) (t : TDA) : TDE := fun ds Q => t ds fun xs => R xs Q
section
variable {X : Cx} {B : Gr} {k : Nat} {f : Addr} {fd : FuncData} {ps : List Str} {R : DR} {x : Str} {p pos : Pos} {e : Expr} {es : List Expr} {t : TA} {d : TDA}
theorem d_call (F : FnG X.prog X.w X.K X.mg X.base k f fd ps (spD R)) (hG : X.A.guards = some []) (hr : Room k X.A) (hb : Binds X.K fd ps []) (hm : X.mg x = some (.ref f)) (hk : PySem.W.keepIn X.K (.ref f) = true) (hg : Gl X x)
    (ha : PDA X B (e :: es) t d) (hdb : (x == ("__debug__" : Str)) = false := by decide) (he : starEach (e :: es) X.env = (false, eval e X.env) :: starEach es X.env := by rfl) (hpl : (backTo pos (starEach es X.env)).any (·.1) = false := by rfl) :
    PD X B (.Call (.Name x p) (e :: es) [] pos) (fun σ H Q => t σ H fun vs H1 => spD R vs H1 Q E0) (dCall R d) :=
  ⟨pe_callG F hG hr hb hg hm hk ha.pa hdb he hpl, fun M σ H ds Q W g en h c => ha.sa M σ H ds _ _ g en h fun vs H1 xs g1 k1 a1 q1 => ⟨M, B, xs, Q, a1, g1, q1, c.keep k1⟩⟩
end

/-! ### statements -/
structure DEnds where
  nx : DEnv → Prop
  rt : PyData → Prop
  bk : DEnv → Prop
  ct : DEnv → Prop
abbrev TDS := DEnds → DEnv → Prop
/-- from where a def began to here -/
structure Ent (B : Gr) (M : Addr → Prop) (H : Hp) : Prop where
  g : Good M B H
theorem Ent.expr {M : Addr → Prop} {B : Gr} {H H' : Hp} (_ : Ent B M H) (g : Good M B H') (_ : Keep M B H H') : Ent B M H' := ⟨g⟩
/-- which slots hold lists that grow: each its own, made since the def began -/
structure EnvO (M : Addr → Prop) (B : Gr) (H : Hp) (σ : L2.St) (ds : DEnv) : Prop where
  at_ : EnvAt M B H σ ds
  own : ∀ (i : Nat) l a, ds[i]? = some (some (DV.grow l)) → σ[i]? = some (some (V.ref a)) → B.H0 a = none
  inj : ∀ (i j : Nat) l l' a, ds[i]? = some (some (DV.grow l)) → ds[j]? = some (some (DV.grow l')) → σ[i]? = some (some (V.ref a)) → σ[j]? = some (some (V.ref a)) → i = j
def Sub (σ : L2.St) (ds : DEnv) (σ' : L2.St) (ds' : DEnv) : Prop := ∀ (j : Nat) l, ds'[j]? = some (some (DV.grow l)) → ds[j]? = some (some (DV.grow l)) ∧ σ'[j]? = σ[j]?
theorem Sub.refl {σ : L2.St} {ds : DEnv} : Sub σ ds σ ds := fun _ _ e => ⟨e, rfl⟩
theorem Sub.trans {σ σ1 σ2 : L2.St} {ds ds1 ds2 : DEnv} (h : Sub σ ds σ1 ds1) (g : Sub σ1 ds1 σ2 ds2) : Sub σ ds σ2 ds2 := fun j l e => ⟨(h j l (g j l e).1).1, (g j l e).2.trans (h j l (g j l e).1).2⟩
theorem Sub.set {σ : L2.St} {ds : DEnv} {i : Nat} {v : V} {d : PyData} : Sub σ ds (σ.set i (some v)) (ds.set i (some (.dat d))) := fun j l e => by
  by_cases z : i = j
  · subst z
    by_cases hl : i < ds.length
    · rw [List.getElem?_set_self hl] at e
      cases e
    · rw [List.getElem?_eq_none (by rw [List.length_set]; omega)] at e
      cases e
  · rw [List.getElem?_set_ne z] at e
    exact ⟨e, List.getElem?_set_ne z⟩
theorem EnvO.sub {M : Addr → Prop} {B : Gr} {H H' : Hp} {σ σ' : L2.St} {ds ds' : DEnv} (e : EnvO M B H σ ds) (h : EnvAt M B H' σ' ds') (u : Sub σ ds σ' ds') : EnvO M B H' σ' ds' :=
  ⟨h, fun i l a hd hs => e.own i l a (u i l hd).1 ((u i l hd).2 ▸ hs), fun i j l l' a h1 h2 h3 h4 => e.inj i j l l' a (u i l h1).1 (u j l' h2).1 ((u i l h1).2 ▸ h3) ((u j l' h2).2 ▸ h4)⟩
theorem EnvO.expr {M : Addr → Prop} {B : Gr} {H H' : Hp} {σ : L2.St} {ds : DEnv} (e : EnvO M B H σ ds) (m : M B) (k : Keep M B H H') : EnvO M B H' σ ds := e.sub (e.at_.keep m k) Sub.refl
def ContE (B : Gr) (M : Addr → Prop) (H : Hp) (P : DEnv → Prop) (R : L2.St → Hp → Prop) : Prop :=
  ∀ M' σ' H' ds', Ent B M' H' → Stay M H M' H' → EnvO M' B H' σ' ds' → P ds' → R σ' H'
theorem ContE.stay {M M1 : Addr → Prop} {B : Gr} {H H1 : Hp} {P : DEnv → Prop} {R : L2.St → Hp → Prop} (c : ContE B M H P R) (k : Stay M H M1 H1) : ContE B M1 H1 P R :=
  fun M' σ' H' ds' e s o q => c M' σ' H' ds' e (k.trans s) o q
/-- what is returned, where the def began -/
def ContR (B : Gr) (Q : PyData → Prop) (R : VK) : Prop := ∀ v H' d, Good0 B.M0 B.a H' → Keep B.M0 B.a B.H0 H' → Dt B.M0 H' v d → Q d → R v H'
structure ContS (B : Gr) (M : Addr → Prop) (H : Hp) (DD : DEnds) (D : Ends) : Prop where
  nx : ContE B M H DD.nx D.nx
  rt : ContR B DD.rt D.rt
  bk : ContE B M H DD.bk D.bk
  ct : ContE B M H DD.ct D.ct
theorem ContS.stay {M M1 : Addr → Prop} {B : Gr} {H H1 : Hp} {DD : DEnds} {D : Ends} (c : ContS B M H DD D) (k : Stay M H M1 H1) : ContS B M1 H1 DD D := ⟨c.nx.stay k, c.rt, c.bk.stay k, c.ct.stay k⟩
/-- what is returned -/
theorem ContR.back {M : Addr → Prop} {B : Gr} {H : Hp} {Q : PyData → Prop} {R : VK} (c : ContR B Q R) (_ : Ent B M H) : Cont M B H Q R := fun v H' d g _ h q => c v H' d g.back g.d.keep (h.map (Stay.less g.d.sub)) q
def SS (B : Gr) (ts : TS) (t : TDS) : Prop := ∀ (M : Addr → Prop) σ H ds DD D, Ent B M H → EnvO M B H σ ds → t DD ds → ContS B M H DD D → ts D σ H
structure PDS (X : Cx) (B : Gr) (st : Stmt) (ts : TS) (t : TDS) : Prop where
  ps : PS X st ts
  ss : SS B ts t
structure PDSs (X : Cx) (B : Gr) (st : List Stmt) (ts : TS) (t : TDS) : Prop where
  ps : PSs X st ts
  ss : SS B ts t
section
variable {X : Cx} {B : Gr} {st : Stmt} {rest : List Stmt} {ts us : TS} {t u : TDS} {e : Expr} {te : TE} {d : TDE} {pos : Pos}
def sNext : TDS := fun DD ds => DD.nx ds
def sSeq (t u : TDS) : TDS := fun DD ds => t { DD with nx := u DD } ds
theorem ds_nil : PDSs X B [] tNext sNext := ⟨pss_nil, fun M σ H ds DD D e o h c => c.nx M σ H ds e Stay.refl o h⟩
theorem ds_one (h : PDS X B st ts t) : PDSs X B [st] ts t := ⟨pss_one h.ps, h.ss⟩
theorem ds_cons (h1 : PDS X B st ts t) (h2 : PDSs X B rest us u) : PDSs X B (st :: rest) (tSeq ts us) (sSeq t u) :=
  ⟨pss_cons h1.ps h2.ps, fun M σ H ds DD D e o h c => h1.ss M σ H ds _ _ e o h
    ⟨fun M' σ' H' ds' e' k' o' q => h2.ss M' σ' H' ds' DD D e' o' q (c.stay k'), c.rt, c.bk, c.ct⟩⟩
def sBreak : TDS := fun DD ds => DD.bk ds
def sCont : TDS := fun DD ds => DD.ct ds
theorem ds_pass : PDS X B (.Pass pos) tNext sNext := ⟨ps_pass, fun M σ H ds DD D e o h c => c.nx M σ H ds e Stay.refl o h⟩
theorem ds_break : PDS X B (.Break pos) tBreak sBreak := ⟨ps_break, fun M σ H ds DD D e o h c => c.bk M σ H ds e Stay.refl o h⟩
theorem ds_continue : PDS X B (.Continue pos) tCont sCont := ⟨ps_continue, fun M σ H ds DD D e o h c => c.ct M σ H ds e Stay.refl o h⟩
theorem ds_doc {x j pos'} : PDS X B (.Expr (.Constant (.str x) j pos) pos') tNext sNext := ⟨ps_doc, fun M σ H ds DD D e o h c => c.nx M σ H ds e Stay.refl o h⟩
def sRet (d : TDE) : TDS := fun DD ds => d ds DD.rt
theorem ds_ret (h : PD X B e te d) : PDS X B (.Return (some e) pos) (tRet te) (sRet d) := ⟨ps_ret h.pe, fun M σ H ds DD D e o q c => h.se M σ H ds _ _ e.g o.at_ q (c.rt.back e)⟩
def sIf (c : TDT) (t u : TDS) : TDS := fun DD ds => c ds fun b => (b = true → t DD ds) ∧ (b = false → u DD ds)
theorem ds_if {c : Expr} {a b : List Stmt} {tc : TT} {dc : TDT} (hc : PDT X B c tc dc) (ha : PDSs X B a ts t) (hb : PDSs X B b us u) : PDS X B (.If c a b pos) (tIfS tc ts us) (sIf dc t u) :=
  ⟨ps_if hc.pt ha.ps hb.ps, fun M σ H ds DD D e o q c => hc.st M σ H ds _ _ e.g o.at_ q fun k H1 g1 k1 q1 => by
    cases k with
    | true => exact iteT (ha.ss M σ H1 ds DD D (e.expr g1 k1) (o.expr e.g.1 k1) (q1.1 rfl) (c.stay (k1.stay e.g.1)))
    | false => exact iteF (hb.ss M σ H1 ds DD D (e.expr g1 k1) (o.expr e.g.1 k1) (q1.2 rfl) (c.stay (k1.stay e.g.1)))⟩

/-! ### targets -/
abbrev TDG := PyData → DEnv → (DEnv → Prop) → Prop
/-- a target that stores at the slots `is` alone -/
structure PDG (X : Cx) (B : Gr) (tg : Expr) (is : List Nat) (tt : TG) (t : TDG) : Prop where
  pg : PG X tg tt
  sg : ∀ (M : Addr → Prop) v d σ H ds Q (R : L2.St → Hp → Prop), Good M B H → EnvAt M B H σ ds → Dt M H v d → t d ds Q → (∀ σ' ds', EnvAt M B H σ' ds' → σ'.length = σ.length → (∀ j, j ∉ is → σ'[j]? = σ[j]?) → Sub σ ds σ' ds' → Q ds' → R σ' H) → tt v σ H R
structure PDGs (X : Cx) (B : Gr) (tg : List Expr) (is : List Nat) (tt : TGs) (t : List PyData → DEnv → (DEnv → Prop) → Prop) : Prop where
  pg : PGs X tg tt
  sg : ∀ (M : Addr → Prop) vs l σ H ds Q (R : L2.St → Hp → Prop), Good M B H → EnvAt M B H σ ds → DtA M H vs l → t l ds Q → (∀ σ' ds', EnvAt M B H σ' ds' → σ'.length = σ.length → (∀ j, j ∉ is → σ'[j]? = σ[j]?) → Sub σ ds σ' ds' → Q ds' → R σ' H) → tt vs σ H R
def dgName (i : Nat) : TDG := fun d ds Q => Q (ds.set i (some (.dat d)))
theorem dg_name {i : Nat} {x : Str} (hN : X.N.Nodup) (hi : X.N[i]? = some x) (hx : Loc X.env.scope x) (hf : X.fn x = true ∨ X.env.scope.names.lookup x = some .local := by first | exact .inl rfl | exact .inr rfl | assumption) : PDG X B (.Name x pos) [i] (gName i) (dgName i) :=
  ⟨pg_name hN hi hx hf, fun M v d σ H ds Q R g en h q c => c _ _ (EnvAt.set (.dat h) i en) (by rw [List.length_set]) (fun j hj => by
    rw [List.getElem?_set_ne]
    intro z
    exact hj (by rw [z]; exact List.mem_singleton.mpr rfl)) Sub.set q⟩
def dgNil : List PyData → DEnv → (DEnv → Prop) → Prop := fun l ds Q => match l with
  | [] => Q ds
  | _ => False
def dgCons (t : TDG) (u : List PyData → DEnv → (DEnv → Prop) → Prop) : List PyData → DEnv → (DEnv → Prop) → Prop := fun l ds Q => match l with
  | d :: r => t d ds fun ds' => u r ds' Q
  | [] => False
theorem dgs_nil : PDGs X B [] [] gNil dgNil := ⟨pgs_nil, fun M vs l σ H ds Q R g en h q c => by
  cases h with
  | nil => exact ⟨rfl, c σ ds en rfl (fun _ _ => rfl) Sub.refl q⟩
  | cons _ _ => exact (show False from q).elim⟩
theorem dgs_cons {a : Expr} {as : List Expr} {is js : List Nat} {tt : TG} {tts : TGs} {t : TDG} {u : List PyData → DEnv → (DEnv → Prop) → Prop} (h1 : PDG X B a is tt t) (h2 : PDGs X B as js tts u)
    (hp : PGs X (a :: as) (gCons tt tts)) : PDGs X B (a :: as) (is ++ js) (gCons tt tts) (dgCons t u) :=
  ⟨hp, fun M vs l σ H ds Q R g en h q c => by
    cases h with
    | nil => exact (show False from q).elim
    | @cons v vs d l hd hl =>
      refine ⟨v, vs, rfl, h1.sg M v d σ H ds _ _ g en hd q fun σ1 ds1 e1 n1 j1 u1 q1 => ?_⟩
      refine h2.sg M vs l σ1 H ds1 _ _ g e1 hl q1 fun σ2 ds2 e2 n2 j2 u2 q2 => ?_
      refine c σ2 ds2 e2 (n2.trans n1) (fun j hj => ?_) (u1.trans u2) q2
      rw [j2 j fun z => hj (List.mem_append_right _ z), j1 j fun z => hj (List.mem_append_left _ z)]⟩
def dgTup (n : Nat) (u : List PyData → DEnv → (DEnv → Prop) → Prop) : TDG := fun d ds Q => match d with
  | .tuple l => l.length = n ∧ u l ds Q
  | _ => False
theorem dg_tup {es : List Expr} {k n : Nat} {is : List Nat} {tts : TGs} {u : List PyData → DEnv → (DEnv → Prop) → Prop} (hc : X.calm = true) (h : PDGs X B es is tts u)
    (hn : (assignEach es X.env).length = n := by rfl) (hst : (assignEach es X.env).findIdx? (·.1) = none := by rfl) : PDG X B (.Tuple es k pos) is (gTup X.K n tts) (dgTup n u) :=
  ⟨pg_tup hc h.pg hn hst, fun M v d σ H ds Q R g en hd q c => by
    cases hd with
    | tup nm e a => exact ⟨_, _, rfl, SqT.of e, a.length.trans q.1, h.sg M _ _ σ H ds _ _ g en a q.2 c⟩
    | _ => exact (show False from q).elim⟩
def sAsg (d : TDE) (g : TDG) : TDS := fun DD ds => d ds fun x => g x ds DD.nx
theorem se_asg {is : List Nat} {tg : Expr} {tt : TG} {tdg : TDG} (h : SE B te d) (hg : PDG X B tg is tt tdg) : SS B (tAsg te tt) (sAsg d tdg) := fun M σ H ds DD D e o q c =>
  h M σ H ds _ _ e.g o.at_ q fun v H1 x g1 k1 hx q1 => hg.sg M v x σ H1 ds _ _ g1 (o.at_.keep e.g.1 k1) hx q1 fun σ' ds' e' _ _ u q2 => c.nx M σ' H1 ds' (e.expr g1 k1) (k1.stay e.g.1) (o.sub e' u) q2
theorem ds_set {i : Nat} {x : Str} {pos' : Pos} (hN : X.N.Nodup) (hi : X.N[i]? = some x) (hx : Loc X.env.scope x) (he : PD X B e te d) (hs : swapsWith e (some (.Name x pos')) pos.line X.env = pure false := by rfl) (hf : X.fn x = true ∨ X.env.scope.names.lookup x = some .local := by first | exact .inl rfl | exact .inr rfl | assumption) :
    PDS X B (.Assign [.Name x pos'] e pos) (tAsg te (gName i)) (sAsg d (dgName i)) := ⟨ps_set hN hi hx he.pe hs hf, se_asg he.se (dg_name (X := X) (pos := pos') hN hi hx hf)⟩
theorem ds_asg {is : List Nat} {tg : Expr} {tt : TG} {tdg : TDG} (he : PD X B e te d) (hg : PDG X B tg is tt tdg) (hs : swapsWithSole [tg] e pos.line X.env = pure false := by rfl) (hw : swappedStores [tg] e X.env = pure none := by rfl)
    (h1 : (assignEach [tg] X.env).map (·.2) = [assign tg X.env] := by rfl) : PDS X B (.Assign [tg] e pos) (tAsg te tt) (sAsg d tdg) := ⟨ps_asg he.pe hg.pg hs hw h1, se_asg he.se hg⟩
/-- a, b = x, y -/
def sPar (i j : Nat) (t : TDL) : TDS := fun DD ds => t ds fun l => match l with
  | [a, b] => DD.nx ((ds.set i (some (.dat a))).set j (some (.dat b)))
  | _ => False
theorem ds_par {i j : Nat} {x y : Str} {a b : Expr} {ta : TA} {px py pt : Pos} {kt k2 pt2} {l : TDL} (hc : X.calm = true) (hN : X.N.Nodup) (hi : X.N[i]? = some x) (hj : X.N[j]? = some y) (hij : i ≠ j)
    (hx : X.env.scope.names.lookup x = some .local) (hy : X.env.scope.names.lookup y = some .local) (ha : PDL X B [a, b] ta l)
    (hw : swappedStores [.Tuple [.Name x px, .Name y py] kt pt] (.Tuple [a, b] k2 pt2) X.env = pure (some [x, y]))
    (hs : swapsWithSole [.Tuple [.Name x px, .Name y py] kt pt] (.Tuple [a, b] k2 pt2) pos.line X.env = pure false := by rfl) :
    PDS X B (.Assign [.Tuple [.Name x px, .Name y py] kt pt] (.Tuple [a, b] k2 pt2) pos) (tPar i j ta) (sPar i j l) :=
  ⟨ps_par hc hN hi hj hij hx hy ha.pa hw hs, fun M σ H ds DD D e o q c => ha.sl M σ H ds _ _ e.g o.at_ q fun vs H1 l' g1 k1 hl q1 => by
    cases hl with
    | nil => exact (show False from q1).elim
    | cons h1 t1 => cases t1 with
      | nil => exact (show False from q1).elim
      | cons h2 t2 => cases t2 with
        | nil => exact ⟨_, _, rfl, c.nx M _ H1 _ (e.expr g1 k1) (k1.stay e.g.1) (o.sub (EnvAt.set (.dat h2) j (EnvAt.set (.dat h1) i (o.at_.keep e.g.1 k1))) (Sub.trans Sub.set Sub.set)) q1⟩
        | cons _ _ => exact (show False from q1).elim⟩
/-- x op= e, ints -/
def sAugI (i : Nat) (op : Int → Int → Int) (a : TDE) : TDS := fun DD ds => match ds[i]? with
  | some (some (.dat (.int n))) => a ds fun y => match y with
    | .int m => DD.nx (ds.set i (some (.dat (.int (op n m)))))
    | _ => False
  | _ => False
theorem ds_augI {i : Nat} {x : Str} {op : Operator} {f : Int → Int → Int} {pos' : Pos} (hN : X.N.Nodup) (hi : X.N[i]? = some x) (hx : Loc X.env.scope x) (he : PD X B e te d) (ho : PIp X op (ipI f)) (hf : X.fn x = true ∨ X.env.scope.names.lookup x = some .local := by first | exact .inl rfl | exact .inr rfl | assumption) :
    PDS X B (.AugAssign (.Name x pos') op e pos) (tAug i te (ipI f)) (sAugI i f d) :=
  ⟨ps_aug hN hi hx he.pe ho hf, fun M σ H ds DD D e o q c => by
    unfold sAugI at q
    split at q
    · rename_i n hn
      obtain ⟨v, hv, r⟩ := o.at_.get i hn
      cases r with
      | dat r =>
        cases r
        refine ⟨_, hv, he.se M σ H ds _ _ e.g o.at_ q fun y H1 dy g1 k1 hy q1 => ?_⟩
        cases dy <;> first | exact q1.elim | skip
        cases hy
        exact ⟨_, _, rfl, rfl, c.nx M _ H1 _ (e.expr g1 k1) (k1.stay e.g.1) (o.sub (EnvAt.set (.dat (.int _)) i (o.at_.keep e.g.1 k1)) Sub.set) q1⟩
    · exact q.elim⟩

/-! ### what is walked -/
/-- the walk J gives these items, as long as what is data stays data; it may make new objects -/
def ItOk (M : Addr → Prop) (B : Gr) (H : Hp) (J : It) (items : List PyData) : Prop := ∀ M2 H2, Good M2 B H2 → Stay M H M2 H2 → ∀ i, (i = items.length → J.stop i H2) ∧
  (i < items.length → J.go i H2 ∧ ∀ x H3, J.yld i H2 x H3 → Good M2 B H3 ∧ Keep M2 B H2 H3 ∧ ∃ d, items[i]? = some d ∧ Dt M2 H3 x d)
structure PDI (X : Cx) (B : Gr) (tg iter : Expr) (wi : TI) (t : TDL) : Prop where
  pi : PI X tg iter wi
  si : ∀ (M : Addr → Prop) σ H ds Q (R : It → Hp → Prop), Good M B H → EnvAt M B H σ ds → t ds Q → (∀ J H' l, Good M B H' → Keep M B H H' → ItOk M B H' J l → l.length ≤ sizeLine → Q l → R J H') → wi σ H R
def diSeq (a : TDE) : TDL := fun ds Q => a ds fun x => match x with
  | .list l => dSize l.length ∧ Q l
  | .tuple l => dSize l.length ∧ Q l
  | _ => False
theorem it_list {M : Addr → Prop} {B : Gr} {K : PySem.W.Frag} {H : Hp} {a : Addr} {xs : List V} {l : List PyData} (n : ¬ M a) (e : H a = some (.lst xs)) (h : DtA M H xs l) : ItOk M B H (Itl K a) l := fun M2 H2 g2 k i => by
  have e2 := (k _ _ n e).2
  refine ⟨fun hi => ⟨xs, SqL.of e2, by rw [h.length]; omega⟩, fun hi => ?_⟩
  obtain ⟨v, hv, r⟩ := DtA.get i h (List.getElem?_eq_getElem hi)
  refine ⟨⟨xs, v, SqL.of e2, hv⟩, fun x H3 ⟨z, y⟩ => ?_⟩
  have hx := y xs (SqL.of e2)
  rw [hv] at hx
  cases hx
  subst z
  exact ⟨g2, Keep.refl, _, List.getElem?_eq_getElem hi, r.map k⟩
theorem it_tup {M : Addr → Prop} {B : Gr} {K : PySem.W.Frag} {H : Hp} {a : Addr} {xs : List V} {l : List PyData} (n : ¬ M a) (e : H a = some (.tup xs)) (h : DtA M H xs l) : ItOk M B H (Itt K a) l := fun M2 H2 g2 k i => by
  have e2 := (k _ _ n e).2
  refine ⟨fun hi => ⟨xs, SqT.of e2, by rw [h.length]; omega⟩, fun hi => ?_⟩
  obtain ⟨v, hv, r⟩ := DtA.get i h (List.getElem?_eq_getElem hi)
  refine ⟨⟨xs, v, SqT.of e2, hv⟩, fun x H3 ⟨z, y⟩ => ?_⟩
  have hx := y xs (SqT.of e2)
  rw [hv] at hx
  cases hx
  subst z
  exact ⟨g2, Keep.refl, _, List.getElem?_eq_getElem hi, r.map k⟩
def diLst (a : TDE) : TDL := fun ds Q => a ds fun x => match x with
  | .list l => dSize l.length ∧ Q l
  | _ => False
def diTup (a : TDE) : TDL := fun ds Q => a ds fun x => match x with
  | .tuple l => dSize l.length ∧ Q l
  | _ => False
theorem di_list {tg : Expr} (h : PD X B e te d) : PDI X B tg e (iList X.K te) (diLst d) :=
  ⟨pi_list h.pe, fun M σ H ds Q R g en q c => h.se M σ H ds _ _ g en q fun v H1 x g1 k1 hx q1 => by
    cases hx with
    | lst n e a => exact ⟨_, rfl, ⟨_, SqL.of e⟩, c _ H1 _ g1 k1 (it_list n e a) q1.1.le q1.2⟩
    | _ => exact (show False from q1).elim⟩
theorem di_tup {tg : Expr} (h : PD X B e te d) : PDI X B tg e (iTup X.K te) (diTup d) :=
  ⟨pi_tup h.pe, fun M σ H ds Q R g en q c => h.se M σ H ds _ _ g en q fun v H1 x g1 k1 hx q1 => by
    cases hx with
    | tup n e a => exact ⟨_, rfl, ⟨_, SqT.of e⟩, c _ H1 _ g1 k1 (it_tup n e a) q1.1.le q1.2⟩
    | _ => exact (show False from q1).elim⟩
def rangeD (lo : Int) (n : Nat) : List PyData := (List.range n).map fun (i : Nat) => PyData.int (lo + (i : Int))
theorem rangeD_len (lo : Int) (n : Nat) : (rangeD lo n).length = n := by
  unfold rangeD
  rw [List.length_map, List.length_range]
theorem it_range {M : Addr → Prop} {B : Gr} {H : Hp} (lo : Int) (n : Nat) : ItOk M B H (Itr lo n) (rangeD lo n) := fun M2 H2 g2 k i => by
  rw [rangeD_len]
  refine ⟨fun hi => Nat.le_of_eq hi.symm, fun hi => ⟨hi, fun x H3 y => ?_⟩⟩
  obtain ⟨rfl, rfl⟩ := y
  refine ⟨g2, Keep.refl, PyData.int (lo + (i : Int)), ?_, .int _⟩
  unfold rangeD
  rw [List.getElem?_map, List.getElem?_range hi]
  rfl
def diR1 (t : TDL) : TDL := fun ds Q => t ds fun l => match l with
  | [.int j] => j < 1000000 ∧ -1000000 < j ∧ Q (rangeD 0 j.toNat)
  | _ => False
def diR2 (t : TDL) : TDL := fun ds Q => t ds fun l => match l with
  | [.int i, .int j] => -(2 ^ 62) ≤ i ∧ i < 2 ^ 62 ∧ -(2 ^ 62) ≤ j ∧ j < 2 ^ 62 ∧ j - i < 1000000 ∧ Q (rangeD i (j - i).toNat)
  | _ => False
theorem di_range1 {tg a : Expr} {ta : TA} {p : Pos} {l : TDL} (hg : Gl X "range") (hm : X.mg "range" = none) (ha : PDL X B [a] ta l) (hs : starEach [a] X.env = [(false, eval a X.env)] := by rfl) : PDI X B tg (.Call (.Name "range" p) [a] [] pos) (iRng1 ta) (diR1 l) :=
  ⟨pi_range1 hg hm ha.pa hs, fun M σ H ds Q R g en q c => ha.sl M σ H ds _ _ g en q fun vs H1 l' g1 k1 hl q1 => by
    cases hl with
    | nil => exact (show False from q1).elim
    | cons h1 t1 => cases t1 with
      | nil =>
        cases h1 with
        | int j =>
          obtain ⟨b1, b2, q2⟩ := q1
          have hs : sizeLine = 16777216 := sizeLine_eq
          exact ⟨j, rfl, by omega, by omega, c _ H1 _ g1 k1 (it_range 0 j.toNat) (by rw [rangeD_len]; omega) q2⟩
        | _ => exact (show False from q1).elim
      | cons _ _ => cases h1 <;> exact (show False from q1).elim⟩
theorem di_range2 {tg a b : Expr} {ta : TA} {p : Pos} {l : TDL} (hg : Gl X "range") (hm : X.mg "range" = none) (ha : PDL X B [a, b] ta l) (hs : starEach [a, b] X.env = [(false, eval a X.env), (false, eval b X.env)] := by rfl) (hs2 : starEach [b] X.env = [(false, eval b X.env)] := by rfl) :
    PDI X B tg (.Call (.Name "range" p) [a, b] [] pos) (iRng2 ta) (diR2 l) :=
  ⟨pi_range2 hg hm ha.pa hs hs2, fun M σ H ds Q R g en q c => ha.sl M σ H ds _ _ g en q fun vs H1 l' g1 k1 hl q1 => by
    cases hl with
    | nil => exact (show False from q1).elim
    | cons h1 t1 => cases t1 with
      | nil => cases h1 <;> exact (show False from q1).elim
      | cons h2 t2 => cases t2 with
        | cons _ _ => cases h1 <;> cases h2 <;> exact (show False from q1).elim
        | nil =>
          cases h1 with
          | int i =>
            cases h2 with
            | int j =>
              obtain ⟨b1, b2, b3, b4, b5, q2⟩ := q1
              have hs : sizeLine = 16777216 := sizeLine_eq
              exact ⟨i, j, rfl, ⟨b1, b2, b3, b4⟩, c _ H1 _ g1 k1 (it_range i (j - i).toNat) (by rw [rangeD_len]; omega) q2⟩
            | _ => exact (show False from q1).elim
          | _ => cases h2 <;> exact (show False from q1).elim⟩

/-! ### for -/
def forW (g : TDG) (b : TDS) (DD : DEnds) : List PyData → DEnv → Prop
  | [], ds => DD.nx ds
  | x :: r, ds => g x ds fun ds' => b { nx := forW g b DD r, rt := DD.rt, bk := DD.nx, ct := forW g b DD r } ds'
def sFor (t : TDL) (g : TDG) (b : TDS) : TDS := fun DD ds => t ds fun l => forW g b DD l ds
theorem drop_at {α : Type} {l : List α} {i : Nat} {x : α} (h : l[i]? = some x) : l.drop i = x :: l.drop (i + 1) := by
  obtain ⟨hi, e⟩ := List.getElem?_eq_some_iff.mp h
  rw [← e]
  exact List.drop_eq_getElem_cons hi
theorem ds_for {iter tg : Expr} {body : List Stmt} {wi : TI} {is : List Nat} {tt : TG} {tdg : TDG} {l : TDL} (hp : PassesOwn (model X.prog X.w) X.A X.env X.xe) (hc : X.calm = true) (hi : PDI X B tg iter wi l) (hg : PDG X B tg is tt tdg) (hb : PDSs X B body ts t)
    (hs : ∀ x, foldedSetIterable iter X.env x = pure x := by intro _; rfl) : PDS X B (.For tg iter body [] pos) (tFor wi tt ts) (sFor l tdg t) :=
  ⟨ps_for hp hc hi.pi hg.pg hb.ps hs, fun M σ H ds DD D e o q c => hi.si M σ H ds _ _ e.g o.at_ q fun J H1 items g1 k1 ok _ q1 => by
    refine ⟨fun i m σ' H' => m = items.length - i ∧ i ≤ items.length ∧ ∃ M' ds', Ent B M' H' ∧ Stay M H1 M' H' ∧ EnvO M' B H' σ' ds' ∧ forW tdg t DD (items.drop i) ds', ⟨_, rfl, Nat.zero_le _, M, ds, e.expr g1 k1, Stay.refl, o.expr e.g.1 k1, by rw [List.drop_zero]; exact q1⟩, ?_⟩
    rintro i m σ' H' ⟨rfl, hle, M', ds', e', k', o', w'⟩
    by_cases hlt : i < items.length
    · obtain ⟨go, yl⟩ := (ok M' H' e'.g k' i).2 hlt
      refine .inr ⟨go, fun σ2 H2 => ∃ M2 ds2, Ent B M2 H2 ∧ Stay M H1 M2 H2 ∧ EnvO M2 B H2 σ2 ds2 ∧ forW tdg t DD (items.drop (i + 1)) ds2, fun σ2 H2 z => ⟨items.length - (i + 1), by omega, rfl, hlt, z⟩, fun x H3 y => ?_⟩
      obtain ⟨g3, k3, dx, hx, rx⟩ := yl x H3 y
      rw [drop_at hx] at w'
      have o3 := o'.expr e'.g.1 k3
      have s3 : Stay M H1 M' H3 := k'.trans (k3.stay e'.g.1)
      refine hg.sg M' x dx σ' H3 ds' _ _ g3 o3.at_ rx w' fun σ3 ds3 e3 _ _ u3 w3 => ?_
      have kk : ContE B M' H3 (forW tdg t DD (items.drop (i + 1))) (fun σ2 H2 => ∃ M2 ds2, Ent B M2 H2 ∧ Stay M H1 M2 H2 ∧ EnvO M2 B H2 σ2 ds2 ∧ forW tdg t DD (items.drop (i + 1)) ds2) :=
        fun M4 σ4 H4 ds4 e4 k4 o4 w4 => ⟨M4, ds4, e4, s3.trans k4, o4, w4⟩
      exact hb.ss M' σ3 H3 ds3 _ _ (e'.expr g3 k3) (o3.sub e3 u3) w3 ⟨kk, c.rt, c.nx.stay ((k1.stay e.g.1).trans s3), kk⟩
    · have z := ok M' H' e'.g k' i
      refine .inl ⟨z.1 (by omega), ?_⟩
      rw [List.drop_eq_nil_of_le (by omega)] at w'
      exact c.nx M' σ' H' ds' e' ((k1.stay e.g.1).trans k') o' w'⟩
end
end DL
namespace DL
open PySem L2

/-! ### [e for x in l if t] -/
abbrev wM (M : Addr → Prop) (D : Addr) : Addr → Prop := fun a => M a ∨ a = D
theorem stay_addM {M : Addr → Prop} {H : Hp} {D : Addr} (hD : H D = none) : Stay M H (wM M D) H := fun a o n e => ⟨fun z => z.elim n (ne_of_none e hD), e⟩
theorem stay_updD {M : Addr → Prop} {H : Hp} {D : Addr} {o : HO} (m : M D) : Stay M H M (upd H D o) := fun a u n e => ⟨n, by rw [upd_ne (fun z => n (by rw [z]; exact m))]; exact e⟩
theorem stay_lessM {M : Addr → Prop} {H : Hp} {D : Addr} : Stay (wM M D) H M H := Stay.less fun _ => .inl
theorem Dt.addM {M : Addr → Prop} {H : Hp} {D : Addr} (hD : H D = none) {d : PyData} {v : V} (h : Dt M H v d) : Dt (wM M D) H v d := h.map (stay_addM hD)
theorem DtA.addM {M : Addr → Prop} {H : Hp} {D : Addr} (hD : H D = none) {d : List PyData} {v : List V} (h : DtA M H v d) : DtA (wM M D) H v d := h.map (stay_addM hD)
theorem Dt.updD {M : Addr → Prop} {H : Hp} {D : Addr} {o : HO} (m : M D) {d : PyData} {v : V} (h : Dt M H v d) : Dt M (upd H D o) v d := h.map (stay_updD m)
theorem DtA.updD {M : Addr → Prop} {H : Hp} {D : Addr} {o : HO} (m : M D) {d : List PyData} {v : List V} (h : DtA M H v d) : DtA M (upd H D o) v d := h.map (stay_updD m)
theorem Dt.lessM {M : Addr → Prop} {H : Hp} {D : Addr} {d : PyData} {v : V} (h : Dt (wM M D) H v d) : Dt M H v d := h.map stay_lessM
theorem DtA.lessM {M : Addr → Prop} {H : Hp} {D : Addr} {d : List PyData} {v : List V} (h : DtA (wM M D) H v d) : DtA M H v d := h.map stay_lessM
theorem DvR.addM {M : Addr → Prop} {B : Gr} {H : Hp} {D : Addr} (hD : H D = none) {v : V} {x : DV} (h : DvR M B H v x) : DvR (wM M D) B H v x := by
  cases h with
  | bag => exact .bag
  | dat h => exact .dat (h.addM hD)
  | grow ma nb z e h => exact .grow (.inl ma) nb z e (h.addM hD)
  | exc h => exact .exc (h.map (stay_addM hD))
theorem EnvAt.addM {M : Addr → Prop} {B : Gr} {H : Hp} {D : Addr} (hD : H D = none) : ∀ {σ : L2.St} {ds : DEnv}, EnvAt M B H σ ds → EnvAt (wM M D) B H σ ds
  | _, _, .nil => .nil
  | _, _, .cons h t => .cons (by
    cases h with
    | non => exact .non _
    | som h => exact .som (h.addM hD)) (EnvAt.addM hD t)
theorem Good.addM {M : Addr → Prop} {B : Gr} {H : Hp} (g : Good M B H) {D : Addr} {o : HO} (hD : H D = none) : Good (wM M D) B (upd H D o) := by
  have f0 := g.fresh0 hD
  obtain ⟨m, md, ⟨b0, b1, b2, q, ns, h1, h2, h3, h4⟩, d⟩ := g
  have st0 : ∀ a u, ¬ B.M0 a → B.H0 a = some u → ¬ wM M D a := fun a u n e z => by
    rcases z with z | w
    · exact d.stay a u n e z
    · rw [w, f0] at e
      cases e
  have st1 : Stay M H (wM M D) (upd H D o) := fun a u n e => ⟨fun z => z.elim n (ne_of_none e hD), by rw [upd_ne (ne_of_none e hD)]; exact e⟩
  refine ⟨.inl m, fun a ma => ?_, ⟨b0, b1, b2, q, ns, by rw [upd_ne (ne_of_none h1 hD)]; exact h1, fun z => z.elim h2 (ne_of_none h3 hD), by rw [upd_ne (ne_of_none h3 hD)]; exact h3, h4⟩, d.g0, d.m0, fun a ma => .inl (d.sub a ma), d.keep.trans (Keep.new hD), st0, d.st.trans st1, fun a u e => ?_⟩
  · rcases ma with ma | rfl
    · obtain ⟨u, e⟩ := md a ma
      exact ⟨u, by rw [upd_ne (ne_of_none e hD)]; exact e⟩
    · exact ⟨o, upd_same⟩
  · obtain ⟨u2, e2⟩ := d.al a u e
    exact ⟨u2, by rw [upd_ne (ne_of_none e2 hD)]; exact e2⟩
theorem al_upd {H : Hp} {D a : Addr} {o u : HO} (e : H a = some u) : ∃ u2, (upd H D o) a = some u2 := by
  by_cases z : a = D
  · exact ⟨o, by rw [z]; exact upd_same⟩
  · exact ⟨u, by rw [upd_ne z]; exact e⟩
theorem Good.updD {M : Addr → Prop} {B : Gr} {H : Hp} (g : Good M B H) {D : Addr} {o : HO} (m : M D) (nb : D ≠ B) (f0 : B.H0 D = none) : Good M B (upd H D o) := by
  obtain ⟨mB, md, ⟨b0, b1, b2, q, ns, h1, h2, h3, h4⟩, d⟩ := g
  refine ⟨mB, fun a ma => ?_, ⟨b0, b1, b2, q, ns, by rw [upd_ne nb.symm]; exact h1, h2, by rw [upd_ne (fun z => h2 (by rw [z]; exact m))]; exact h3, h4⟩, d.g0, d.m0, d.sub, ⟨fun b u n e => ?_, fun q' hq => by rw [bagq_upd nb]; exact d.keep.q q' hq⟩, d.stay, d.st.trans (stay_updD m), fun a u e => ?_⟩
  · obtain ⟨u, q⟩ := md a ma
    exact al_upd q
  · rw [upd_ne (fun z => by rw [z, f0] at e; cases e)]
    exact d.keep.k b u n e
  · obtain ⟨u2, e2⟩ := d.al a u e
    exact al_upd e2
theorem Good.lessM {M : Addr → Prop} {B : Gr} {H : Hp} {D : Addr} (hs : ∀ a, B.M0 a → M a) (g : Good (wM M D) B H) : Good M B H := g.less (fun _ => .inl) hs

abbrev lcW (g : TDG) (tt : TDT) (te : TDE) (ds : DEnv) : List PyData → List PyData → (PyData → Prop) → Prop :=
  fun l => l.rec (motive := fun _ => List PyData → (PyData → Prop) → Prop) (fun acc Q => Q (.list acc)) fun x _ ih acc Q => g x ds fun ds' => tt ds' fun b => (b = true → te ds' fun y => ih (acc ++ [y]) Q) ∧ (b = false → ih acc Q)
def dLc (l : TDL) (g : TDG) (tt : TDT) (te : TDE) (vs : List Nat) : TDE := fun ds Q => l ds fun items => lcW g tt te (wipeD ds vs) items [] Q
theorem wipe_get (σ : L2.St) (j : Nat) : ∀ vs : List Nat, (L2.wipe σ vs)[j]? = if j ∈ vs then (σ[j]?).map (fun _ => none) else σ[j]?
  | [] => by simp [L2.wipe]
  | v :: vs => by
    unfold L2.wipe
    by_cases e : v = j
    · subst e
      rw [if_pos (List.mem_cons_self ..)]
      by_cases h : v < σ.length
      · rw [List.getElem?_set_self (by rw [wipe_length]; exact h), List.getElem?_eq_getElem h]
        rfl
      · rw [List.getElem?_eq_none (by rw [List.length_set, wipe_length]; omega), List.getElem?_eq_none (by omega)]
        rfl
    · rw [List.getElem?_set_ne e, wipe_get σ j vs]
      have : (j ∈ v :: vs) ↔ j ∈ vs := by
        rw [List.mem_cons]
        exact ⟨fun z => z.elim (fun w => absurd w.symm e) id, .inr⟩
      simp only [this]
theorem wipe_eq {σ σ' : L2.St} {is vs : List Nat} (hl : σ'.length = σ.length) (h : ∀ j, j ∉ is → σ'[j]? = σ[j]?) (hs : ∀ j ∈ is, j ∈ vs) : L2.wipe σ' vs = L2.wipe σ vs := by
  refine List.ext_getElem? fun j => ?_
  rw [wipe_get, wipe_get]
  by_cases m : j ∈ vs
  · rw [if_pos m, if_pos m]
    by_cases z : j < σ.length
    · rw [List.getElem?_eq_getElem z, List.getElem?_eq_getElem (by rw [hl]; exact z)]
      rfl
    · rw [List.getElem?_eq_none (by omega), List.getElem?_eq_none (by omega)]
  · rw [if_neg m, if_neg m]
    exact h j fun z => m (hs j z)
theorem wipe_idem (σ : L2.St) (vs : List Nat) : L2.wipe (L2.wipe σ vs) vs = L2.wipe σ vs :=
  wipe_eq (is := vs) (wipe_length σ vs) (fun j hj => by rw [wipe_get, if_neg hj]) fun j hj => hj
section
variable {X : Cx} {B : Gr} {pos : Pos}
theorem se_lc {elt tg iter : Expr} {wi : TI} {tt : TG} {tT : TT} {te : TE} {l : TDL} {g : TDG} {t : TDT} {d : TDE} {is vs : List Nat}
    (hi : PDI X B tg iter wi l) (hg : ∀ (M : Addr → Prop) v d σ H ds Q (R : L2.St → Hp → Prop), Good M B H → EnvAt M B H σ ds → Dt M H v d → g d ds Q → (∀ σ' ds', EnvAt M B H σ' ds' → σ'.length = σ.length → (∀ j, j ∉ is → σ'[j]? = σ[j]?) → Sub σ ds σ' ds' → Q ds' → R σ' H) → tt v σ H R)
    (ht : ∀ (M : Addr → Prop) σ H ds Q (R : Bool → Hp → Prop), Good M B H → EnvAt M B H σ ds → t ds Q → (∀ b H', Good M B H' → Keep M B H H' → Q b → R b H') → tT σ H R)
    (he : SE B te d) (hv : ∀ j ∈ is, j ∈ vs) : SE B (tLc wi tt tT te vs) (dLc l g t d vs) := fun M σ H ds Q R g0 en q c => by
  refine hi.si M σ H ds _ _ g0 en q fun J H1 items g1 k1 ok hsz q1 D hD => ?_
  have mB : M B := g1.1
  have nb : D ≠ B := fun z => by
    obtain ⟨o, e⟩ := g1.2.1 B mB
    rw [z, e] at hD
    cases hD
  have en1 : EnvAt (wM M D) B H1 (L2.wipe σ vs) (wipeD ds vs) := ((en.keep g0.1 k1).wipe vs).addM hD
  refine ⟨fun i m H' => m = items.length - i ∧ i ≤ items.length ∧ Good (wM M D) B H' ∧ Keep M B H1 H' ∧ (∃ us acc, H' D = some (.lst us) ∧ us.length ≤ i ∧ DtA (wM M D) H' us acc ∧ lcW g t d (wipeD ds vs) (items.drop i) acc Q),
    ⟨_, rfl, Nat.zero_le _, g1.addM hD, Keep.new hD, [], [], upd_same, Nat.le_refl _, .nil, by rw [List.drop_zero]; exact q1⟩, ?_⟩
  rintro i m H' ⟨rfl, hle, g', k', us, acc, hL, hu, hA, w'⟩
  have stay : ∀ {b : Addr} {o : HO}, H1 b = some o → b ≠ D := fun e => ne_of_none e hD
  have st1 : Stay M H1 (wM M D) H' := fun a o n e => ⟨fun z => z.elim n (stay e), k'.k a o (fun z => n (by rw [z]; exact mB)) e⟩
  by_cases hlt : i < items.length
  · obtain ⟨go, yl⟩ := (ok (wM M D) H' g' st1 i).2 hlt
    refine .inr ⟨go, fun H2 => i + 1 ≤ items.length ∧ Good (wM M D) B H2 ∧ Keep M B H1 H2 ∧ (∃ us acc, H2 D = some (.lst us) ∧ us.length ≤ i + 1 ∧ DtA (wM M D) H2 us acc ∧ lcW g t d (wipeD ds vs) (items.drop (i + 1)) acc Q), fun H2 z => ⟨items.length - (i + 1), by omega, rfl, z⟩, fun x H3 y => ?_⟩
    obtain ⟨g3, k3, dx, hx, rx⟩ := yl x H3 y
    rw [drop_at hx] at w'
    have kD : Keep (wM M D) B H1 H3 := k'.any.trans k3
    have mD : wM M D B := .inl mB
    have hL3 : H3 D = some (.lst us) := k3.k D _ nb hL
    have hA3 := hA.keep mD k3
    refine hg (wM M D) x dx _ H3 _ _ _ g3 (en1.keep mD kD) rx w' fun σ3 ds3 e3 l3 j3 _ w3 => ?_
    refine ⟨(wipe_eq l3 j3 hv).trans (wipe_idem σ vs), ?_⟩
    refine ht (wM M D) σ3 H3 ds3 _ _ g3 e3 w3 fun b H4 g4 k4 w4 => ?_
    have keepD : ∀ {Ha Hb : Hp} {o : HO}, Keep (wM M D) B Ha Hb → Ha D = some o → Hb D = some o := fun k e => k.k D _ nb e
    cases b with
    | false => exact iteF ⟨hlt, g4, (kD.trans k4).any, us, acc, keepD k4 hL3, by omega, hA3.keep mD k4, w4.2 rfl⟩
    | true =>
      refine iteT ?_
      refine he (wM M D) σ3 H4 ds3 _ _ g4 (e3.keep mD k4) (w4.1 rfl) fun v H5 dv g5 k5 hd5 w5 => ?_
      have hL5 := keepD k5 (keepD k4 hL3)
      have kk := (kD.trans k4).trans k5
      refine ⟨us, hL5, by omega, hlt, g5.updD (.inr rfl) nb (g1.fresh0 hD), ⟨fun b o n e => ?_, fun q e => by rw [bagq_upd nb]; exact kk.q q e⟩, us ++ [v], acc ++ [dv], upd_same, by rw [List.length_append, List.length_singleton]; omega,
        DtA.updD (.inr rfl) (((hA3.keep mD k4).keep mD k5).append (.cons hd5 .nil)), w5⟩
      rw [upd_ne (stay e)]
      exact kk.k b o n e
  · refine .inl ⟨(ok (wM M D) H' g' st1 i).1 (by omega), ?_⟩
    rw [List.drop_eq_nil_of_le (by omega)] at w'
    exact c (.ref D) H' _ (g'.lessM g1.d.sub) (k1.trans k') (.lst (fun z => by
      obtain ⟨o, e⟩ := g1.2.1 D z
      rw [hD] at e
      cases e) hL hA.lessM) w'
theorem d_lc {elt tg iter : Expr} {ifs : List Expr} {scope : Scope} {own : List (Str × Nat)} {wi : TI} {tt : TG} {tT : TT} {te : TE} {l : TDL} {g : TDG} {t : TDT} {d : TDE} {is : List Nat} (hc : X.calm = true) (hN : X.N.Nodup) (hi : PDI X B tg iter wi l) (ok : BlkOk X.N X.env.scope scope own)
    (hg : ∀ (s : Shared) (H : Hp) (C : Addr) (cl : List (Str × Addr)) (fp : List Addr), PDG (X.blk s H scope (compEnvC scope cl C X.env) fp) B tg is tt g)
    (ht : ∀ (s : Shared) (H : Hp) (C : Addr) (cl : List (Str × Addr)) (fp : List Addr), PTs (X.blk s H scope (compEnvC scope cl C X.env) fp) ifs tT)
    (hts : ∀ (M : Addr → Prop) σ H ds Q (R : Bool → Hp → Prop), Good M B H → EnvAt M B H σ ds → t ds Q → (∀ b H', Good M B H' → Keep M B H H' → Q b → R b H') → tT σ H R)
    (he : ∀ (s : Shared) (H : Hp) (C : Addr) (cl : List (Str × Addr)) (fp : List Addr), PD (X.blk s H scope (compEnvC scope cl C X.env) fp) B elt te d)
    (hv : ∀ j ∈ is, j ∈ own.map (·.2)) (hs : ∀ x, foldedSetIterable iter X.env x = pure x := by intro _; rfl) :
    PD X B (.ListComp elt [⟨tg, iter, ifs, 0⟩] scope pos) (tLc wi tt tT te (own.map (·.2))) (dLc l g t d (own.map (·.2))) :=
  ⟨pe_lc hc hN hi.pi ok (fun s H C cl fp => (hg s H C cl fp).pg) ht (fun s H C cl fp => (he s H C cl fp).pe) hs,
    se_lc (elt := elt) hi (hg X.s_0 X.H_0 0 [] []).sg hts (he X.s_0 X.H_0 0 [] []).se hv⟩
/-- y = [..] on one line -/
theorem ds_setLc {i : Nat} {y : Str} {py : Pos} {elt tg iter : Expr} {ifs : List Expr} {scope : Scope} {own : List (Str × Nat)} {spos : Pos} {wi : TI} {tt : TG} {tT : TT} {te : TE} {l : TDL} {g : TDG} {t : TDT} {d : TDE} {is : List Nat} (hc : X.calm = true) (hN : X.N.Nodup) (hy : X.N[i]? = some y) (hyl : X.env.scope.names.lookup y = some .local)
    (hsw : swapsWith (.ListComp elt [⟨tg, iter, ifs, 0⟩] scope pos) (some (.Name y py)) spos.line X.env = pure true) (hi : PDI X B tg iter wi l) (ok : BlkOk X.N X.env.scope scope own)
    (hg : ∀ (s : Shared) (H : Hp) (C : Addr) (cl : List (Str × Addr)) (fp : List Addr), PDG (X.blk s H scope (compEnvC scope cl C X.env) fp) B tg is tt g)
    (ht : ∀ (s : Shared) (H : Hp) (C : Addr) (cl : List (Str × Addr)) (fp : List Addr), PTs (X.blk s H scope (compEnvC scope cl C X.env) fp) ifs tT)
    (hts : ∀ (M : Addr → Prop) σ H ds Q (R : Bool → Hp → Prop), Good M B H → EnvAt M B H σ ds → t ds Q → (∀ b H', Good M B H' → Keep M B H H' → Q b → R b H') → tT σ H R)
    (he : ∀ (s : Shared) (H : Hp) (C : Addr) (cl : List (Str × Addr)) (fp : List Addr), PD (X.blk s H scope (compEnvC scope cl C X.env) fp) B elt te d)
    (hv : ∀ j ∈ is, j ∈ own.map (·.2)) (hs : ∀ x, foldedSetIterable iter X.env x = pure x := by intro _; rfl) :
    PDS X B (.Assign [.Name y py] (.ListComp elt [⟨tg, iter, ifs, 0⟩] scope pos) spos) (tAsg (tLc wi tt tT te (own.map (·.2))) (gName i)) (sAsg (dLc l g t d (own.map (·.2))) (dgName i)) :=
  ⟨ps_setLc hc hN hy hyl hsw hi.pi ok (fun s H C cl fp => (hg s H C cl fp).pg) ht (fun s H C cl fp => (he s H C cl fp).pe) hs, fun M σ H ds DD D e o q c =>
    se_lc (elt := elt) hi (hg X.s_0 X.H_0 0 [] []).sg hts (he X.s_0 X.H_0 0 [] []).se hv M σ H ds _ _ e.g o.at_ q fun v H1 x g1 k1 hx q1 => c.nx M _ H1 _ (e.expr g1 k1) (k1.stay e.g.1) (o.sub (EnvAt.set (.dat hx) i (o.at_.keep e.g.1 k1)) Sub.set) q1⟩
def dYes : TDT := fun _ Q => Q true
theorem st_yes (M : Addr → Prop) (σ : L2.St) (H : Hp) (ds : DEnv) (Q : Bool → Prop) (R : Bool → Hp → Prop) (g : Good M B H) (_ : EnvAt M B H σ ds) (h : dYes ds Q) (c : ∀ b H', Good M B H' → Keep M B H H' → Q b → R b H') : tYes σ H R := c true H g Keep.refl h
end

/-! ### repr -/
def cRepr : DC := fun l Q => match l with
  | [d] => d.hasDict = false ∧ d.showable = true ∧ d.depth ≤ 60 ∧ dSize d.shown.length ∧ Q (.str d.shown)
  | _ => False
def rReprV (K : PySem.W.Frag) : List V → Hp → VK → Prop := fun xs H Q => ∃ v d, xs = [v] ∧ Dp K H v d ∧ d.showable = true ∧ d.depth ≤ 60 ∧ d.shown.length ≤ sizeLine ∧ Q (.str d.shown) H
mutual
theorem noDict {K : PySem.W.Frag} {H : Hp} : ∀ {d : PyData} {v : V}, Dp K H v d → d.hasDict = false
  | .none, _, _ => by simp only [PyData.hasDict]
  | .bool _, _, _ => by simp only [PyData.hasDict]
  | .int _, _, _ => by simp only [PyData.hasDict]
  | .str _, _, _ => by simp only [PyData.hasDict]
  | .list ds, _, h => by
    cases h with
    | lst _ a =>
      simp only [PyData.hasDict]
      exact noDictA a
  | .tuple ds, _, h => by
    cases h with
    | tup _ a =>
      simp only [PyData.hasDict]
      exact noDictA a
  | .dict _, _, h => by cases h
theorem noDictA {K : PySem.W.Frag} {H : Hp} : ∀ {ds : List PyData} {vs : List V}, DpAll K H vs ds → PyData.hasDictAll ds = false
  | [], _, _ => by simp only [PyData.hasDictAll]
  | d :: ds, _, h => by
    cases h with
    | cons h1 h2 =>
      simp only [PyData.hasDictAll, noDict h1, noDictA h2]
      rfl
end
theorem call_reprV {X : Cx} (hG : X.A.guards = some []) (hu : X.A.units + 64 < cLine) : CallR X (.builtin "repr") (rReprV X.K) := by
  intro pins s σ H xs us Q I r h
  obtain ⟨v, d, rfl, hd, hs, hdp, hz, q⟩ := h
  obtain ⟨u, rfl, rv⟩ := vals1 r
  cases hd with
  | non =>
    cases rv
    refine PySem.P.repr_of_none ⟨.str _, H, I.tok _, ⟨_, rfl⟩, ?_⟩
    rw [PyData.shown_none] at q
    exact q
  | bl b =>
    cases rv
    refine PySem.P.repr_of_bool ⟨.str _, H, I.tok _, ⟨_, rfl⟩, ?_⟩
    rw [PyData.shown_bool] at q
    exact q
  | int i =>
    obtain ⟨t, rfl⟩ := rv
    have h1 : i.natAbs.log2 < 1920 := by simpa [PyData.showable] using hs
    refine PySem.P.repr_of_int h1 ⟨.str _, H, I.tok _, ⟨_, rfl⟩, ?_⟩
    rw [PyData.shown_int] at q
    exact q
  | str z =>
    obtain ⟨t, rfl⟩ := rv
    rw [PyData.shown_str] at q hz
    exact PySem.P.repr_of_str ⟨.str _, H, I.tok _, ⟨_, rfl⟩, q⟩ hz
  | @lst a xs ds e ea =>
    cases rv
    obtain ⟨as, rd⟩ := Dp.reads I (.list ds) (.ref a) (.ref a) (.lst e ea) rfl
    exact repr_of_reads' rd hs (PyData.noDict_hsm (noDict (Dp.lst e ea))) hG (by omega) (fun _ _ e => e) (fun h' u tk k => ⟨.str _, H, I.kept k, ⟨_, rfl⟩, q⟩) hz
  | @tup a xs ds e ea =>
    cases rv
    obtain ⟨as, rd⟩ := Dp.reads I (.tuple ds) (.ref a) (.ref a) (.tup e ea) rfl
    exact repr_of_reads' rd hs (PyData.noDict_hsm (noDict (Dp.tup e ea))) hG (by omega) (fun _ _ e => e) (fun h' u tk k => ⟨.str _, H, I.kept k, ⟨_, rfl⟩, q⟩) hz
theorem rdc_repr {B : Gr} {K : PySem.W.Frag} : RDC B (rReprV K) cRepr := by
  intro M vs l H Q R g hl h c
  unfold cRepr at h
  split at h
  · cases hl with
    | cons h1 h2 =>
      cases h2
      exact ⟨_, _, rfl, Dt.dp h.1 h1, h.2.1, h.2.2.1, h.2.2.2.1.le, c _ H _ g Keep.refl (.str _) h.2.2.2.2⟩
  · exact h.elim

/-! ### a def by its body's reading over data -/
theorem ArgsAt.re {M : Addr → Prop} {B : Gr} {M0 : Addr → Prop} {H H0 : Hp} : ∀ {vs : List V} {xs : List DV}, ArgsAt M B H vs xs → ArgsAt M ⟨B.a, M0, H0, M0, H0⟩ H vs xs
  | _, _, .nil => .nil
  | _, _, .cons h n t => .cons (by
    cases h with
    | bag => exact .bag
    | dat h => exact .dat h
    | exc h => exact .exc h
    | grow _ _ _ _ _ => exact absurd rfl (n _)) n (ArgsAt.re t)
/-- what a body's rules ask of their context -/
structure CxD (k : Nat) (X : Cx) : Prop where
  room : Room k X.A
  guards : X.A.guards = some []
theorem fn_D {P : Program} {w : World} {K : PySem.W.Frag} {mg : Str → Option Value} {base : Heap} {k : Nat} {f : Addr} {fd : FuncData} {x qual : Str} {st : Stmt} {N ps : List Str} {R : DR} (F : Fun K x qual st f fd) (S : FnScope N ps (defScope st))
    (len : ∀ xs Q, R xs Q → xs.length = ps.length)
    (body : ∀ (cdv : Value) (A : Around) (outer : List Env) (s : Shared) (H : Hp) (B : Gr), CxD k (cxOf CX0 P w K mg base N qual (defScope st) f cdv A outer s H E0).nox →
      ∃ ts t, PDSs (cxOf CX0 P w K mg base N qual (defScope st) f cdv A outer s H E0).nox B (defBody st) ts t ∧ ∀ xs Q, R xs Q → t { nx := fun _ => Q .none, rt := Q, bk := fun _ => False, ct := fun _ => False } (dstart N xs)) :
    FnG P w K mg base (k + 1) f fd ps (spD R) := by
  refine fn_ofG F S (fun vs H Q E h => ?_) fun cdv A outer s H vs Q hG hr h => ?_
  · obtain ⟨M, B, xs, Qd, ha, _, hR, _⟩ := h
    rw [ha.length]
    exact len xs Qd hR
  · obtain ⟨M, B, xs, Qd, ha, g, hR, c⟩ := h
    obtain ⟨ts, t, hb, ht⟩ := body cdv A outer s H ⟨B.a, M, H, M, H⟩ ⟨hr, hG⟩
    refine ⟨ts, hb.ps, hb.ss M _ H _ _ _ ⟨g.z.start⟩ ⟨ha.re.start N, fun i l a e => absurd e (ha.noMut _ i l), fun i j l l' a e => absurd e (ha.noMut _ i l)⟩ (ht xs Qd hR)
      ⟨fun M' σ' H' ds' e' _ _ q => c .non H' .none (g.expr e'.g.back e'.g.d.keep) e'.g.d.keep .non q, fun v H' d g' k' h' q => c v H' d (g.expr g' k') k' h' q, fun _ _ _ _ _ _ _ q => q.elim, fun _ _ _ _ _ _ _ q => q.elim⟩⟩
end DL
namespace DL
open PySem L2

/-! ### xs[i] op= e -/
def rGetL (K : PySem.W.Frag) : V → V → Hp → VK → Prop := fun o i H Q => ∃ p xs v, ∃ k : Nat, o = .ref p ∧ i = .int k ∧ SqL K H p xs ∧ xs[k]? = some v ∧ Q v H
theorem get_list {X : Cx} : PGet X (rGetL X.K) := by
  intro pins s σ H o i ov iv Q I ro ri h
  obtain ⟨p, xs, v, k, rfl, rfl, hp, hk, q⟩ := h
  cases ro
  obtain ⟨t, rfl⟩ := ri
  obtain ⟨its, r, pl, hz⟩ := I.list hp
  obtain ⟨u, eu, ru⟩ := r.get hk
  have hlt := (List.getElem?_eq_some_iff.mp hk).1
  have h63 := line63
  exact wpAny_getItem_list pl.isList (Int.natCast_nonneg k) (by omega) (by rw [Int.toNat_natCast]; simpa using eu) ⟨v, H, I, ru, q⟩

/-! ### the bag's own state, written out -/
abbrev bagL (b0 b1 b2 : Int) (q : Addr) : HO := .lst [.int b0, .int b1, .int b2, .ref q]
structure BagOk (M : Addr → Prop) (B q : Addr) (ns : List Int) (H : Hp) : Prop where
  m : M B
  dom : ∀ a, M a → ∃ o, H a = some o
  nq : ¬ M q
  cells : H q = some (.lst (ns.map V.int))
  nn : ∀ n ∈ ns, (0 : Int) ≤ n
theorem BagOk.ne {M : Addr → Prop} {B q : Addr} {ns : List Int} {H : Hp} (b : BagOk M B q ns H) : q ≠ B := fun z => b.nq (by rw [z]; exact b.m)
theorem BagOk.good {M : Addr → Prop} {B q : Addr} {ns : List Int} {H : Hp} {b0 b1 b2 : Int} (b : BagOk M B q ns H) (h0 : 0 ≤ b0) (h1 : 0 ≤ b1) (h2 : b1 < 2147483647) (h3 : 0 ≤ b2) : Good0 M B (upd H B (bagL b0 b1 b2 q)) := by
  refine ⟨b.m, fun a ma => ?_, b0, b1, b2, q, ns, upd_same, b.nq, by rw [upd_ne b.ne]; exact b.cells, h0, h1, h2, h3, b.nn⟩
  by_cases e : a = B
  · exact ⟨_, by rw [e]; exact upd_same⟩
  · obtain ⟨o, q⟩ := b.dom a ma
    exact ⟨o, by rw [upd_ne e]; exact q⟩
theorem Good.ok {M : Addr → Prop} {B : Gr} {H : Hp} (g : Good M B H) : ∃ b0 b1 b2 q ns, BagOk M B.a q ns H ∧ H = upd H B.a (bagL b0 b1 b2 q) ∧ 0 ≤ b0 ∧ 0 ≤ b1 ∧ b1 < 2147483647 ∧ 0 ≤ b2 := by
  obtain ⟨m, md, ⟨b0, b1, b2, q, ns, h1, h2, h3, h4, h5, h6, h7, h8⟩, _⟩ := g
  refine ⟨b0, b1, b2, q, ns, ⟨m, md, h2, h3, h8⟩, ?_, h4, h5, h6, h7⟩
  funext a
  unfold upd
  split
  · rename_i e
    rw [e]
    exact h1
  · rfl
/-- a draw below m -/
def takeR : DR := fun xs Q => ∃ m : Int, xs = [.bag, .dat (.int m)] ∧ 0 < m ∧ m < 2 ^ 1000 ∧ ∀ v : Int, 0 ≤ v → v < m → Q (.int v)
theorem first_lt {b1 : Int} : 0 ≤ (b1 + 1) * 39373 % 1000000007 ∧ (b1 + 1) * 39373 % 1000000007 < 1000000007 := ⟨Int.emod_nonneg _ (by decide), Int.emod_lt_of_pos _ (by decide)⟩
end DL
namespace DL
open PySem L2
section
variable {X : Cx} {B : Gr}
theorem dgs_consA {a : Expr} {as : List Expr} {is js : List Nat} {tt : TG} {tts : TGs} {t : TDG} {u : List PyData → DEnv → (DEnv → Prop) → Prop} (h1 : PDG X B a is tt t) (h2 : PDGs X B as js tts u)
    (hs : (assignEach (a :: as) X.env).map (·.2) = assign a X.env :: (assignEach as X.env).map (·.2) := by rfl) : PDGs X B (a :: as) (is ++ js) (gCons tt tts) (dgCons t u) := dgs_cons h1 h2 (pgs_cons h1.pg h2.pg hs)
/-- what is walked: a list or a tuple -/
def iSeq (K : PySem.W.Frag) (tl : TE) : TI := fun σ H R => tl σ H fun x H1 => ∃ a, x = .ref a ∧ ((∃ xs, SqL K H1 a xs ∧ R (Itl K a) H1) ∨ (∃ xs, SqT K H1 a xs ∧ R (Itt K a) H1))
theorem pi_seq {tg l : Expr} {tl : TE} (hl : PE X l tl) : PI X tg l (iSeq X.K tl) := by
  refine ⟨fun pins s σ H R I h => thn (hl.run pins s σ H _ I h) fun v s1 ⟨x, H1, I1, r1, a, e, q⟩ => ?_⟩
  subst e
  cases r1
  have ends : ∀ (o : Obj) b, b ∈ [s1.heap.objs.size] → FpOk X pins H1 b := fun _ b hb => by
    rw [List.mem_singleton.mp hb]
    exact I1.fpOk (Nat.le_refl _) (I1.hok.fresh (Nat.le_refl _))
  rcases q with ⟨xs, hq, q⟩ | ⟨xs, hq, q⟩
  · obtain ⟨its, _, p, _⟩ := I1.list hq
    refine wpAny_pyIter_list p.isList ⟨_, [s1.heap.objs.size], _, _, H1, rfl, I1.kept (t' := s1.toks) (fun b o e => Heap.get?_push_of_some _ e), turn_list a _, ⟨_, Heap.get?_push_size _ rfl, rfl, rfl⟩, fun b hb => ends default b hb, q⟩
  · obtain ⟨its, _, p, _⟩ := I1.tuple hq
    refine wpAny_pyIter_tuple (show s1.heap.IsTuple a its.toArray from p) ⟨_, [s1.heap.objs.size], _, _, H1, rfl, I1.kept (t' := s1.toks) (fun b o e => Heap.get?_push_of_some _ e), turn_tuple a _, ⟨_, Heap.get?_push_size _ rfl, rfl, rfl⟩, fun b hb => ends default b hb, q⟩
theorem di_seq {tg e : Expr} {te : TE} {d : TDE} (h : PD X B e te d) : PDI X B tg e (iSeq X.K te) (diSeq d) :=
  ⟨pi_seq h.pe, fun M σ H ds Q R g en q c => h.se M σ H ds _ _ g en q fun v H1 x g1 k1 hx q1 => by
    cases hx with
    | lst n e a => exact ⟨_, rfl, .inl ⟨_, SqL.of e, c _ H1 _ g1 k1 (it_list n e a) q1.1.le q1.2⟩⟩
    | tup n e a => exact ⟨_, rfl, .inr ⟨_, SqT.of e, c _ H1 _ g1 k1 (it_tup n e a) q1.1.le q1.2⟩⟩
    | _ => exact (show False from q1).elim⟩
end
def cMax3 : DC := fun l Q => match l with
  | [.int i, .int j, .int k] => Q (.int (if (if i < j then j else i) < k then k else if i < j then j else i))
  | _ => False
theorem nu3 (i j k : Int) : nuMax3 (.int i) (.int j) (.int k) = some (.int (if (if i < j then j else i) < k then k else if i < j then j else i)) := by
  have two : ∀ a b : Int, nuMax2 (.int a) (.int b) = some (.int (if a < b then b else a)) := fun a b => by
    by_cases h : a < b <;> simp [nuMax2, nuLt, nuCB, h]
  unfold nuMax3
  rw [two, Option.bind_some, two]
theorem rdc_max3 {B : Gr} : RDC B (rNuC3 nuMax3) cMax3 := by
  intro M vs l H Q R g hl h c
  unfold cMax3 at h
  split at h
  · cases hl with
    | cons h1 t1 => cases t1 with
      | cons h2 t2 => cases t2 with
        | cons h3 t3 =>
          cases t3
          cases h1
          cases h2
          cases h3
          exact ⟨_, _, _, _, rfl, nu3 _ _ _, c _ H _ g Keep.refl (.int _) h⟩
  · exact h.elim
def boolsOf : List PyData → Option (List Bool)
  | [] => some []
  | .bool b :: r => (boolsOf r).map (b :: ·)
  | _ => none
theorem DtA.bools {M : Addr → Prop} {H : Hp} : ∀ {l : List PyData} {vs : List V} {bs : List Bool}, DtA M H vs l → boolsOf l = some bs → vs = bs.map V.bl
  | [], _, bs, h, e => by
    cases h
    cases e
    rfl
  | d :: l, _, bs, h, e => by
    cases h with
    | cons h1 h2 =>
      cases d <;> first | cases e | skip
      cases h1
      rename_i b
      unfold boolsOf at e
      cases q : boolsOf l with
      | none => rw [q] at e; cases e
      | some cs =>
        rw [q] at e
        cases e
        rw [DtA.bools h2 q]
        rfl
def cAll : DC := fun l Q => match l with
  | [.list a] => ∃ bs, boolsOf a = some bs ∧ Q (.bool (bs.all id))
  | _ => False
theorem rdc_all {B : Gr} {K : PySem.W.Frag} : RDC B (rAll K) cAll := by
  intro M vs l H Q R g hl h c
  unfold cAll at h
  split at h
  · cases hl with
    | cons h1 t1 =>
      cases t1
      cases h1 with
      | lst n e a =>
        obtain ⟨bs, hb, q⟩ := h
        rw [a.bools hb] at e
        exact ⟨_, bs, rfl, SqL.of e, c _ H _ g Keep.refl (.bl _) q⟩
  · exact h.elim

/-! ### the text by places -/
structure DefAt (K : PySem.W.Frag) (mg : Str → Option Value) (x : Str) (st : Stmt) (ps : List Str) (f : Addr) (fd : FuncData) : Prop where
  fn : Fun K x x st f fd
  bd : Binds K fd ps []
  mg : mg x = some (.ref f)
theorem DefAt.mk' {K : PySem.W.Frag} {mg : Str → Option Value} {h : Heap} (X : K.In h) (G : h.Ns mainGlobals mg) {x : Str} {st : Stmt} {ps : List Str} {f : Addr} {oc : Value} {od an : Option Addr} {osl : Array (Option Value)} {kV doc pm cdv ct : Value}
    (n : PySem.W.nsIn K mainGlobals x = some (some (.ref f))) (l : K.lookup f = some ⟨oc, od, .func (PySem.W.fnOf x x (defArgs st) (defBody st) (defScope st) .none kV doc pm an cdv ct), osl⟩) (c : PySem.W.codeIn K cdv x = true) (k : PySem.W.keepIn K (.ref f) = true)
    (b : ∀ us : List Value, us.length = ps.length → bindArgs (PySem.W.fnOf x x (defArgs st) (defBody st) (defScope st) .none kV doc pm an cdv ct) ⟨us, []⟩ = pure (ps.zip us)) :
    DefAt K mg x st ps f (PySem.W.fnOf x x (defArgs st) (defBody st) (defScope st) .none kV doc pm an cdv ct) := ⟨fun_mk l c k, .all b, PySem.W.mg_of X G n⟩
end DL
namespace DL
open PySem L2
section
variable {X : Cx} {B : Gr} {a b c : Expr} {ta tb tc : TE} {da db dc : TDE} {pos : Pos} {r2 r2' : R2} {r r' : D2}
/-- a comparison as a test -/
def dTest (t : TDE) : TDT := fun ds Q => t ds fun x => asB x Q
theorem st_test {te : TE} {t : TDE} (h : SE B te t) (M : Addr → Prop) (σ : L2.St) (H : Hp) (ds : DEnv) (Q : Bool → Prop) (R : Bool → Hp → Prop) (g : Good M B H) (en : EnvAt M B H σ ds) (q : dTest t ds Q) (c : ∀ b H', Good M B H' → Keep M B H H' → Q b → R b H') : tTest te σ H R :=
  h M σ H ds _ _ g en q fun v H1 x g1 k1 hx q1 => by
    obtain ⟨k, rfl, q2⟩ := asB_of hx q1
    exact ⟨k, rfl, c k H1 g1 k1 q2⟩
theorem dt_cmp {op : CmpOp} (ho : OpR X (compareOp op) r2) (hr : RD B r2 r) (ha : PD X B a ta da) (hb : PD X B b tb db) (hm : behindInMarks op b = false) :
    PDT X B (.Compare a [op] [b] pos) (tTest (tOp r2 ta tb)) (dTest (dOp r da db)) := ⟨pt_cmpR ho ha.pe hb.pe hm, st_test (se_op hr ha.se hb.se)⟩
theorem dt_chain {op op' : CmpOp} (ho : OpR X (compareOp op) r2) (ho' : OpR X (compareOp op') r2') (hr : RD B r2 r) (hr' : RD B r2' r') (ha : PD X B a ta da) (hb : PD X B b tb db) (hc : PD X B c tc dc) (hm : lastMarks [op, op'] [b, c] = false := by with_unfolding_all rfl) :
    PDT X B (.Compare a [op, op'] [b, c] pos) (tTest (tChain r2 r2' ta tb tc)) (dTest (dChain r r' da db dc)) :=
  ⟨pt_chain ho ho' ha.pe hb.pe hc.pe hm, st_test (d_chain (pos := pos) ho ho' hr hr' ha hb hc hm).se⟩
end
end DL
namespace DL
open PySem L2

/-! ### the readings' values, by the forms of data -/
theorem szr {n : Nat} (h : Nat.ble n 1000000 = true := by rfl) : dSize n := Nat.le_of_ble_eq_true h
section
variable {Q : PyData → Prop} {i j : Int} {a b c : Bool} {l m : List PyData} {x y z : PyData}
theorem v_add : DL.rAdd (.int i) (.int j) Q = Q (.int (i + j)) := rfl
theorem v_addL : DL.rAdd (.list l) (.list m) Q = (dSize (l.length + m.length) ∧ Q (.list (l ++ m))) := rfl
theorem v_addT : DL.rAdd (.tuple l) (.tuple m) Q = (dSize (l.length + m.length) ∧ Q (.tuple (l ++ m))) := rfl
theorem v_sub : DL.rSub (.int i) (.int j) Q = Q (.int (i - j)) := rfl
theorem v_mul : DL.rMul (.int i) (.int j) Q = (CMulW i j ∧ Q (.int (i * j))) := rfl
theorem v_mulL : DL.rMul (.list l) (.int j) Q = (0 ≤ j ∧ j < 1000 ∧ l.length ≤ 1000 ∧ Q (.list (List.replicate j.toNat l).flatten)) := rfl
theorem v_fdiv : DL.rFdiv (.int i) (.int j) Q = (0 < j ∧ j < 2 ^ 1000 ∧ Q (.int (i / j))) := rfl
theorem v_mod : DL.rMod (.int i) (.int j) Q = (0 < j ∧ Q (.int (i % j))) := rfl
theorem v_pow : DL.rPow (.int i) (.int j) Q = (CPow i j ∧ Q (.int (i ^ j.toNat))) := rfl
theorem v_neg : DL.rNeg (.int i) Q = Q (.int (-i)) := rfl
theorem v_cmp {p : Int → Int → Bool} : rCmpI p (.int i) (.int j) Q = Q (.bool (p i j)) := rfl
theorem v_eqI : rEqA (.int i) (.int j) Q = Q (.bool (i == j)) := by
  unfold rEqA
  exact propext ⟨fun h => h.2.2, fun h => ⟨rfl, rfl, h⟩⟩
theorem v_neI : rNeA (.int i) (.int j) Q = Q (.bool (!(i == j))) := by
  unfold rNeA
  exact propext ⟨fun h => h.2.2, fun h => ⟨rfl, rfl, h⟩⟩
theorem v_eqB : rEqA (.bool a) (.bool b) Q = Q (.bool (a == b)) := by
  unfold rEqA
  exact propext ⟨fun h => h.2.2, fun h => ⟨rfl, rfl, h⟩⟩
theorem v_neB : rNeA (.bool a) (.bool b) Q = Q (.bool (!(a == b))) := by
  unfold rNeA
  exact propext ⟨fun h => h.2.2, fun h => ⟨rfl, rfl, h⟩⟩
theorem v_eqS {s t : Str} : rEqA (.str s) (.str t) Q = Q (.bool (decide (s = t))) := rfl
theorem v_neS {s t : Str} : rNeA (.str s) (.str t) Q = Q (.bool (!decide (s = t))) := rfl
theorem v_isN : rIsNo .none .none Q = Q (.bool true) := by
  unfold rIsNo
  exact propext ⟨fun h => h.2, fun h => ⟨rfl, h⟩⟩
theorem v_isI : rIsNo (.int i) .none Q = Q (.bool false) := by
  unfold rIsNo
  exact propext ⟨fun h => h.2, fun h => ⟨rfl, h⟩⟩
theorem v_notN : rNotNo .none .none Q = Q (.bool false) := by
  unfold rNotNo
  exact propext ⟨fun h => h.2, fun h => ⟨rfl, h⟩⟩
theorem v_notI : rNotNo (.int i) .none Q = Q (.bool true) := by
  unfold rNotNo
  exact propext ⟨fun h => h.2, fun h => ⟨rfl, h⟩⟩
theorem v_inT {neg : Bool} : rInD neg x (.tuple l) Q = (flatD x = true ∧ l.all flatD = true ∧ Q (.bool (if neg then !inD x l else inD x l))) := rfl
theorem v_inL {neg : Bool} : rInD neg x (.list l) Q = (flatD x = true ∧ l.all flatD = true ∧ Q (.bool (if neg then !inD x l else inD x l))) := rfl
theorem v_ixT : DL.rIx (.tuple l) (.int i) Q = ∃ d, atI l i = some d ∧ Q d := rfl
theorem v_ixL : DL.rIx (.list l) (.int i) Q = ∃ d, atI l i = some d ∧ Q d := rfl
theorem v_slT {lo hi : Option Int} : rSlD (.tuple l) lo hi Q = Q (.tuple (cutD l lo hi)) := rfl
theorem v_slL {lo hi : Option Int} : rSlD (.list l) lo hi Q = Q (.list (cutD l lo hi)) := rfl
theorem v_lenT : cLen [.tuple l] Q = Q (.int l.length) := rfl
theorem v_lenL : cLen [.list l] Q = Q (.int l.length) := rfl
theorem v_max2 : cMax2 [.int i, .int j] Q = Q (.int (if j > i then j else i)) := rfl
theorem v_min2 : cMin2 [.int i, .int j] Q = Q (.int (if j < i then j else i)) := rfl
theorem v_max3 {k : Int} : cMax3 [.int i, .int j, .int k] Q = Q (.int (if (if i < j then j else i) < k then k else if i < j then j else i)) := rfl
theorem v_intI : cInt [.int i] Q = Q (.int i) := rfl
theorem v_intB : cInt [.bool a] Q = Q (.int (if a then 1 else 0)) := rfl
theorem v_abs : cAbs [.int i] Q = Q (.int (if i < 0 then -i else i)) := rfl
theorem v_tupL : cTuple [.list l] Q = Q (.tuple l) := rfl
theorem v_tupT : cTuple [.tuple l] Q = Q (.tuple l) := rfl
theorem v_lstL : cList [.list l] Q = Q (.list l) := rfl
theorem v_lstT : cList [.tuple l] Q = Q (.list l) := rfl
theorem v_asB {P : Bool → Prop} : asB (.bool a) P = P a := rfl
theorem v_truB {P : Bool → Prop} : truD (.bool a) P = P a := rfl
theorem v_truI {P : Bool → Prop} : truD (.int i) P = P (i != 0) := rfl
theorem v_truN {P : Bool → Prop} : truD .none P = P false := rfl
theorem v_part {ds : DEnv} {P : Option Int → Prop} {k : Int} : dPart (dC (.int k)) ds P = P (some k) := rfl
theorem v_partV {ds : DEnv} {P : Option Int → Prop} {t : TDE} : dPart t ds P = t ds (fun x => match x with
  | .int i => P (some i)
  | _ => False) := rfl
theorem v_flN : flatD .none = true := rfl
theorem v_flB : flatD (.bool a) = true := rfl
theorem v_flI : flatD (.int i) = true := rfl
theorem v_flS {s : Str} : flatD (.str s) = true := rfl
theorem v_tup {ds : DEnv} {P : DEnv → Prop} {n : Nat} {u : List PyData → DEnv → (DEnv → Prop) → Prop} : dgTup n u (.tuple l) ds P = (l.length = n ∧ u l ds P) := rfl
theorem v_gcons {t : TDG} {u : List PyData → DEnv → (DEnv → Prop) → Prop} {ds : DEnv} {P : DEnv → Prop} : dgCons t u (x :: l) ds P = t x ds fun ds' => u l ds' P := rfl
theorem v_gnil {ds : DEnv} {P : DEnv → Prop} : dgNil [] ds P = P ds := rfl
theorem v_seqL {ds : DEnv} {P : List PyData → Prop} : diSeq (dC (.list l)) ds P = (dSize l.length ∧ P l) := rfl
theorem v_if {p q : Prop} : ((a = true → p) ∧ (a = false → q)) = if a = true then p else q := by
  cases a <;> simp
end
theorem atI_lt {α : Type} {l : List α} {i : Int} (h0 : 0 ≤ i) (h1 : i < l.length) : atI l i = l[i.toNat]? := by
  obtain ⟨n, rfl⟩ := Int.eq_ofNat_of_zero_le h0
  have : n < l.length := by omega
  rw [atI_nat (List.getElem?_eq_getElem this), Int.toNat_natCast, List.getElem?_eq_getElem this]
theorem atI_ints {ss : List Int} {i : Int} (h0 : 0 ≤ i) (h1 : i < ss.length) : atI (ss.map PyData.int) i = some (.int (ss.getD i.toNat 0)) := by
  rw [atI_lt h0 (by rw [List.length_map]; exact h1), List.getElem?_map]
  have h2 : i.toNat < ss.length := by omega
  rw [List.getElem?_eq_getElem h2, List.getD_eq_getElem?_getD, List.getElem?_eq_getElem h2]
  rfl
theorem forW_nil {g : TDG} {b : TDS} {DD : DEnds} {ds : DEnv} : forW g b DD [] ds = DD.nx ds := rfl
theorem forW_cons {g : TDG} {b : TDS} {DD : DEnds} {ds : DEnv} {x : PyData} {r : List PyData} : forW g b DD (x :: r) ds = g x ds fun ds' => b { nx := forW g b DD r, rt := DD.rt, bk := DD.nx, ct := forW g b DD r } ds' := rfl
/-- a loop by what holds between its turns -/
theorem forW_inv {g : TDG} {b : TDS} {DD : DEnds} (I : DEnv → Prop) (P : PyData → Prop) (turn : ∀ (x : PyData) (N : DEnv → Prop) (ds : DEnv), P x → I ds → (∀ ds', I ds' → N ds') → g x ds fun ds' => b { nx := N, rt := DD.rt, bk := DD.nx, ct := N } ds') (fin : ∀ ds, I ds → DD.nx ds) :
    ∀ (l : List PyData) (ds : DEnv), (∀ x ∈ l, P x) → I ds → forW g b DD l ds
  | [], ds, _, h => fin ds h
  | x :: r, ds, hp, h => turn x _ ds (hp x (List.mem_cons_self ..)) h fun ds' h' => forW_inv I P turn fin r ds' (fun y hy => hp y (List.mem_cons_of_mem _ hy)) h'
/-- a comprehension without tests whose elements satisfy P -/
theorem lcW_all {g : TDG} {te : TDE} {ds : DEnv} (P : PyData → Prop) : ∀ (l acc : List PyData) (Q : PyData → Prop), (∀ x ∈ l, ∀ (N : PyData → Prop), (∀ y, P y → N y) → g x ds fun ds' => te ds' N) → (∀ z ∈ acc, P z) → (∀ r : List PyData, r.length = acc.length + l.length → (∀ z ∈ r, P z) → Q (.list r)) →
    lcW g dYes te ds l acc Q
  | [], acc, Q, _, ha, hq => hq acc rfl ha
  | x :: l, acc, Q, h, ha, hq => by
    have e : lcW g dYes te ds (x :: l) acc Q = g x ds fun ds' => (true = true → te ds' fun y => lcW g dYes te ds l (acc ++ [y]) Q) ∧ (true = false → lcW g dYes te ds l acc Q) := rfl
    rw [e]
    have e2 : (fun ds' => (true = true → te ds' fun y => lcW g dYes te ds l (acc ++ [y]) Q) ∧ (true = false → lcW g dYes te ds l acc Q)) = fun ds' => te ds' fun y => lcW g dYes te ds l (acc ++ [y]) Q := by
      funext ds'
      simp
    rw [e2]
    refine h x (List.mem_cons_self ..) _ fun y hy => lcW_all P l (acc ++ [y]) Q (fun z hz => h z (List.mem_cons_of_mem _ hz)) (fun z hz => ?_) fun r hr => hq r (by simp only [List.length_append, List.length_cons, List.length_nil] at hr ⊢; omega)
    rcases List.mem_append.mp hz with hz | hz
    · exact ha z hz
    · rw [List.mem_singleton.mp hz]
      exact hy
/-- ints out of a list whose items are ints -/
theorem ints_of {P : Int → Prop} : ∀ l : List PyData, (∀ z ∈ l, ∃ i, z = PyData.int i ∧ P i) → ∃ ns : List Int, l = ns.map PyData.int ∧ ∀ n ∈ ns, P n
  | [], _ => ⟨[], rfl, fun _ h => nomatch h⟩
  | z :: l, h => by
    obtain ⟨i, rfl, hi⟩ := h z (List.mem_cons_self ..)
    obtain ⟨ns, rfl, hn⟩ := ints_of l fun y hy => h y (List.mem_cons_of_mem _ hy)
    refine ⟨i :: ns, rfl, fun n hn' => ?_⟩
    rcases List.mem_cons.mp hn' with rfl | hn'
    · exact hi
    · exact hn n hn'
theorem shownI (i : Int) : (PyData.int i).shown = ((toString i : String) : Str) := PyData.shown_int i
/-- data whose repr may be taken, that may be compared -/
structure OkD (d : PyData) : Prop where
  sh : SeqAt.shaped d = true
  sw : d.showable = true
  dp : d.depth ≤ 60
  sz : dSize d.shown.length
theorem OkD.nd {d : PyData} (h : OkD d) : d.hasDict = false := PyData.hasDict_of_canLay _ (SeqAt.canLay_of_shaped h.sh)
def alikeR : DR := fun xs Q => ∃ d, xs = [.dat d, .dat d] ∧ OkD d ∧ Q (.bool true)
theorem mulW {i j : Int} (hi : i.natAbs < 2 ^ 400 := by omega) (hj : j.natAbs < 2 ^ 400 := by omega) : CMulW i j := wide_mul (a := 400) (b := 400) hi hj (by decide) (by decide) (by decide)
end DL
namespace DL
open PySem L2
def spBag (K : PySem.W.Frag) : Sp := fun vs H Q _ => ∃ (a : Addr) (ns : List Int), vs = [.ref a] ∧ SqL K H a (ns.map V.int) ∧ ns.length ≤ 63 ∧
  ∀ (B q : Addr) (ms : List Int) (H' : Hp), H' B = some (bagL 0 1234567891 0 q) → q ≠ B → H' q = some (.lst (ms.map V.int)) → (∀ m ∈ ms, (0 : Int) ≤ m) → Q (.ref B) H'
def spLaw (K : PySem.W.Frag) : Sp := fun vs H Q _ => ∃ (a : Addr) (ns : List Int), vs = [.ref a] ∧ SqL K H a (ns.map V.int) ∧ ns.length ≤ 63 ∧ ∀ H', Q (.bl true) H'
def ifBody : Stmt → List Stmt
  | .If _ a _ _ => a
  | _ => []
end DL
namespace DL
open PySem L2
theorem alike_eq {d : PyData} {Q : PyData → Prop} (ok : OkD d) (h : Q (.bool true)) : rEqA d d Q := by
  have e : PyData.eqv d d = true := SeqAt.eqv_refl d (SeqAt.canLay_of_shaped ok.sh)
  unfold rEqA
  split
  · rw [decide_eq_true rfl]
    exact h
  · exact ⟨ok.sh, ok.sh, by rw [e]; exact h⟩
end DL
namespace DL
open PySem L2
theorem v_par {i j : Nat} {a b : TDE} {DD : DEnds} {ds : DEnv} : sPar i j (dCons a (dCons b dNil)) DD ds = a ds (fun x => b ds fun y => DD.nx ((ds.set i (some (.dat x))).set j (some (.dat y)))) := rfl
end DL
namespace DL
open PySem L2

/-! ### terms -/
inductive Tm where
  | wish (d l h f : Int) | tie (d o l h f : Int) | stop (d l h : Int) | bar (d o l h : Int)
namespace Tm
def items : Tm → List PyData
  | wish d l h f => [.str "wish", .int d, .int l, .int h, .int f]
  | tie d o l h f => [.str "tie", .int d, .int o, .int l, .int h, .int f]
  | stop d l h => [.str "stop", .int d, .int l, .int h]
  | bar d o l h => [.str "bar", .int d, .int o, .int l, .int h]
def py (t : Tm) : PyData := .tuple t.items
def two : Tm → Bool
  | tie .. => true
  | bar .. => true
  | _ => false
def soft : Tm → Bool
  | tie .. => true
  | wish .. => true
  | _ => false
def dial : Tm → Int
  | wish d .. => d
  | tie d .. => d
  | stop d .. => d
  | bar d .. => d
def oth : Tm → PyData
  | tie _ o .. => .int o
  | bar _ o .. => .int o
  | _ => .none
def frc : Tm → PyData
  | tie _ _ _ _ f => .int f
  | wish _ _ _ f => .int f
  | _ => .none
def low : Tm → Int
  | wish _ l .. => l
  | tie _ _ l .. => l
  | stop _ l _ => l
  | bar _ _ l _ => l
def high : Tm → Int
  | wish _ _ h _ => h
  | tie _ _ _ h _ => h
  | stop _ _ h => h
  | bar _ _ _ h => h
def put (t : Tm) (l h : Int) : Tm := match t with
  | wish d _ _ f => wish d l h f
  | tie d o _ _ f => tie d o l h f
  | stop d _ _ => stop d l h
  | bar d o _ _ => bar d o l h
def In (t : Tm) (n : Nat) : Prop := match t with
  | wish d .. => 0 ≤ d ∧ d < n
  | stop d .. => 0 ≤ d ∧ d < n
  | tie d o .. => (0 ≤ d ∧ d < n) ∧ (0 ≤ o ∧ o < n)
  | bar d o .. => (0 ≤ d ∧ d < n) ∧ (0 ≤ o ∧ o < n)
def at_ (ss : List Int) (i : Int) : Int := ss.getD i.toNat 0
def arg (t : Tm) (ss : List Int) : Int := match t with
  | wish d .. => at_ ss d
  | stop d .. => at_ ss d
  | tie d o .. => at_ ss d - at_ ss o
  | bar d o .. => at_ ss d - at_ ss o
def dist (t : Tm) (v : Int) : Int := if v < t.low then t.low - v else if t.high < v then v - t.high else 0
end Tm

theorem inTB_w : inD (.str "wish") [.str "tie", .str "bar"] = false := by decide +kernel
theorem inTB_t : inD (.str "tie") [.str "tie", .str "bar"] = true := by decide +kernel
theorem inTB_s : inD (.str "stop") [.str "tie", .str "bar"] = false := by decide +kernel
theorem inTB_b : inD (.str "bar") [.str "tie", .str "bar"] = true := by decide +kernel
theorem inWT_w : inD (.str "wish") [.str "wish", .str "tie"] = true := by decide +kernel
theorem inWT_t : inD (.str "tie") [.str "wish", .str "tie"] = true := by decide +kernel
theorem inWT_s : inD (.str "stop") [.str "wish", .str "tie"] = false := by decide +kernel
theorem inWT_b : inD (.str "bar") [.str "wish", .str "tie"] = false := by decide +kernel
section
variable {α : Type} {a b c d e f : α} {l : List α}
theorem atI_0 : atI (a :: l) 0 = some a := atI_nat (j := 0) rfl
theorem atI_1 : atI (a :: b :: l) 1 = some b := atI_nat (j := 1) rfl
theorem atI_2 : atI (a :: b :: c :: l) 2 = some c := atI_nat (j := 2) rfl
theorem atI_3 : atI (a :: b :: c :: d :: l) 3 = some d := atI_nat (j := 3) rfl
theorem atI_4 : atI (a :: b :: c :: d :: e :: l) 4 = some e := atI_nat (j := 4) rfl
theorem atI_5 : atI (a :: b :: c :: d :: e :: f :: l) 5 = some f := atI_nat (j := 5) rfl
theorem atI_m4 : atI [a, b, c, d] (-1) = some d := rfl
theorem atI_m5 : atI [a, b, c, d, e] (-1) = some e := rfl
theorem atI_m6 : atI [a, b, c, d, e, f] (-1) = some f := rfl
end
section
variable {a b c d e f : PyData}
theorem cut4_24 : cutD [a, b, c, d] (some 2) (some 4) = [c, d] := rfl
theorem cut5_24 : cutD [a, b, c, d, e] (some 2) (some 4) = [c, d] := rfl
theorem cut5_35 : cutD [a, b, c, d, e] (some 3) (some 5) = [d, e] := rfl
theorem cut6_35 : cutD [a, b, c, d, e, f] (some 3) (some 5) = [d, e] := rfl
end
/-- an item of a written list at a place that is drawn -/
theorem atI_all {P : PyData → Prop} {l : List PyData} {i : Int} (h0 : 0 ≤ i) (h1 : i < l.length) (h : ∀ x ∈ l, P x) : ∃ d, atI l i = some d ∧ P d := by
  have h2 : i.toNat < l.length := by omega
  exact ⟨l[i.toNat], by rw [atI_lt h0 h1, List.getElem?_eq_getElem h2], h _ (List.getElem_mem h2)⟩
theorem ix_pt {ss : List Int} {i : Int} {Q : PyData → Prop} (h0 : 0 ≤ i) (h1 : i < ss.length) (h : Q (.int (Tm.at_ ss i))) : ∃ d, atI (ss.map PyData.int) i = some d ∧ Q d := ⟨_, atI_ints h0 h1, h⟩

/-! #### data that may be compared and shown -/
theorem okI {i : Int} (h : i.natAbs < 2 ^ 900) : OkD (.int i) := by
  have hl : i.natAbs.log2 < 900 := PySem.Flt.log2_lt_of (by decide) h
  refine ⟨rfl, ?_, Nat.zero_le _, ?_⟩
  · simp only [PyData.showable, decide_eq_true_eq]
    omega
  · rw [PyData.shown_int]
    have e := int_text_length_le (a := i) (k := 900) (by decide) hl
    show (Str.ofString (toString i)).length ≤ 1000000
    rw [ofString_length]
    omega
/-- an int below 10 ^ 200 in size -/
def Mid (i : Int) : Prop := -(10 ^ 200) < i ∧ i < 10 ^ 200
theorem Mid.ok {i : Int} (h : Mid i) : OkD (.int i) := okI (by
  have e : (10 : Int) ^ 200 = ((10 ^ 200 : Nat) : Int) := by rfl
  have l : (10 : Nat) ^ 200 < 2 ^ 900 := by decide +kernel
  obtain ⟨h1, h2⟩ := h
  rw [e] at h1 h2
  generalize (10 : Nat) ^ 200 = a at *
  generalize (2 : Nat) ^ 900 = b at *
  omega)
end DL
namespace DL
open PySem L2
theorem lt_big {m : Int} (h : m < 1000000000) : m < 2 ^ 1000 := by
  have e : ((2 : Int) ^ 1000) = (((2 : Nat) ^ 1000 : Nat) : Int) := by rfl
  have l : (1000000000 : Nat) < 2 ^ 1000 := by decide +kernel
  rw [e]
  generalize (2 : Nat) ^ 1000 = b at *
  omega
theorem atI_ex {P K : PyData → Prop} {l : List PyData} {i : Int} (h0 : 0 ≤ i) (h1 : i < l.length) (hp : ∀ x ∈ l, P x) (hk : ∀ x, P x → K x) : ∃ d, atI l i = some d ∧ K d :=
  let ⟨d, e, p⟩ := atI_all h0 h1 hp
  ⟨d, e, hk d p⟩
theorem cp {i j : Int} (h : (decide (0 ≤ j) && decide (j ≤ 1000000) && decide (i.natAbs < 2 ^ 64)) = true := by decide) : CPow i j := by
  simp only [Bool.and_eq_true, decide_eq_true_eq] at h
  exact ⟨h.1.1, h.1.2, h.2⟩
theorem p18 : (10 : Int) ^ Int.toNat 18 = 1000000000000000000 := by decide
theorem p9 : (10 : Int) ^ Int.toNat 9 = 1000000000 := by decide
theorem p38 : (10 : Int) ^ Int.toNat 38 = 100000000000000000000000000000000000000 := by decide
theorem p18' : (10 : Int) ^ 18 = 1000000000000000000 := by decide
end DL
namespace DL
open PySem L2
theorem ix_pm {ss : List Int} {i : Int} {Q : PyData → Prop} (h0 : 0 ≤ i) (h1 : i < ((ss.map PyData.int).length : Int)) (h : Q (.int (Tm.at_ ss i))) : ∃ d, atI (ss.map PyData.int) i = some d ∧ Q d :=
  ix_pt h0 (by rw [List.length_map] at h1; exact h1) h
theorem Tm.arg_mid {t : Tm} {ss : List Int} {b : Int} (h : t.In ss.length) (hs : ∀ x ∈ ss, -b < x ∧ x < b) : -(2 * b) < t.arg ss ∧ t.arg ss < 2 * b := by
  have get : ∀ i : Int, 0 ≤ i ∧ i < ss.length → -b < at_ ss i ∧ at_ ss i < b := fun i hi => by
    have h2 : i.toNat < ss.length := by omega
    unfold at_
    rw [List.getD_eq_getElem?_getD, List.getElem?_eq_getElem h2]
    exact hs _ (List.getElem_mem h2)
  cases t with
  | wish d l h' f =>
    have := get d h
    simp only [arg]
    omega
  | stop d l h' =>
    have := get d h
    simp only [arg]
    omega
  | tie d o l h' f =>
    have h1 := get d h.1
    have h2 := get o h.2
    simp only [arg]
    omega
  | bar d o l h' =>
    have h1 := get d h.1
    have h2 := get o h.2
    simp only [arg]
    omega
theorem Tm.dist_le {t : Tm} {v b : Int} (h1 : -b < v ∧ v < b) (h2 : -b < t.low ∧ t.low < b) (h3 : -b < t.high ∧ t.high < b) : -(2 * b) < t.dist v ∧ t.dist v < 2 * b := by
  unfold dist
  split
  · omega
  · split <;> omega
end DL
namespace DL
theorem szr0 {n : Nat} (h : n ≤ 1000000) : dSize n := h
end DL
namespace DL
open PySem L2
theorem CxD.blk {k : Nat} {X : Cx} (c : CxD k X) (s : Shared) (H : Hp) (C : Addr) (cl : List (Str × Addr)) (fp : List Addr) {scope : Scope} : CxD k (X.blk s H scope (compEnvC scope cl C X.env) fp) := ⟨c.room, c.guards⟩
end DL
namespace DL
open PySem L2
/-! ### the same rules, the written part by its own name (in a comprehension's element nothing may hang on the block) -/
section
variable {X : Cx} {K : PySem.W.Frag} {B : Gr} {pos : Pos}
theorem op_addK (K : PySem.W.Frag) (hK : X.K = K := by rfl) : OpR X (binaryOp .Add) (rAddV K) := by
  subst hK
  exact op_addV
theorem op_eqK (K : PySem.W.Frag) (hu : X.A.units + 64 < cLine) (hK : X.K = K := by rfl) : OpR X (compareOp .Eq) (rEqV K) := by
  subst hK
  exact op_eqV hu
theorem op_neK (K : PySem.W.Frag) (hu : X.A.units + 64 < cLine) (hK : X.K = K := by rfl) : OpR X (compareOp .NotEq) (rNeV K) := by
  subst hK
  exact op_neV hu
theorem op_inK (K : PySem.W.Frag) (hK : X.K = K := by rfl) : OpR X (compareOp .In) (rIn K false) := by
  subst hK
  exact op_in_seq
theorem op_notInK (K : PySem.W.Frag) (hK : X.K = K := by rfl) : OpR X (compareOp .NotIn) (rIn K true) := by
  subst hK
  exact op_notIn_seq
theorem call_lenK (K : PySem.W.Frag) (hK : X.K = K := by rfl) : CallR X (.builtin "len") (rLenV K) := by
  subst hK
  exact call_lenV
theorem call_tupleK (K : PySem.W.Frag) (hK : X.K = K := by rfl) : CallR X (.type "tuple") (fun xs H Q => ∃ p ys, xs = [.ref p] ∧ ((SqL K H p ys ∧ ∀ l, H l = none → Q (.ref l) (upd H l (.tup ys))) ∨ (SqT K H p ys ∧ Q (.ref p) H))) := by
  subst hK
  exact call_tuple_of
theorem call_listK (K : PySem.W.Frag) (hK : X.K = K := by rfl) : CallR X (.type "list") (fun xs H Q => ∃ p ys, xs = [.ref p] ∧ (SqL K H p ys ∨ SqT K H p ys) ∧ ∀ l, H l = none → Q (.ref l) (upd H l (.lst ys))) := by
  subst hK
  exact call_list_of
theorem call_reprK (K : PySem.W.Frag) (hG : X.A.guards = some []) (hu : X.A.units + 64 < cLine) (hK : X.K = K := by rfl) : CallR X (.builtin "repr") (rReprV K) := by
  subst hK
  exact call_reprV hG hu
theorem call_allK (K : PySem.W.Frag) (hc : X.calm = true) (hK : X.K = K := by rfl) : CallR X (.builtin "all") (rAll K) := by
  subst hK
  exact cr_all hc
abbrev rIxK (K : PySem.W.Frag) : R2 := fun x y H Q => rIxL K x y H Q ∨ rIxT K x y H Q ∨ rIxS x y H Q
theorem d_ixK (K : PySem.W.Frag) {a b : Expr} {ta tb : TE} {da db : TDE} (ha : PD X B a ta da) (hb : PD X B b tb db) (hs : PlainIx b := by exact fun _ _ => rfl) (hK : X.K = K := by rfl) :
    PD X B (.Subscript a b pos) (tOp (rIxK K) ta tb) (dOp DL.rIx da db) := by
  subst hK
  exact d_ix ha hb hs
abbrev rSlK (K : PySem.W.Frag) : V → Option Int → Option Int → Hp → VK → Prop := fun x l u H Q => rSlL K x l u H Q ∨ rSlA K x l u H Q ∨ rSlS x l u H Q
theorem d_sliceK (K : PySem.W.Frag) {a : Expr} {lo hi : Option Expr} {ta : TE} {tl th : TO} {da : TDE} {dl dh : TDO} {p2 : Pos} (ha : PD X B a ta da) (hl : PDO X B lo tl dl) (hh : PDO X B hi th dh) (hK : X.K = K := by rfl) :
    PD X B (.Subscript a (.Slice lo hi none p2) pos) (tSl (rSlK K) ta tl th) (dSl da dl dh) := by
  subst hK
  exact d_slice ha hl hh
theorem dt_valK (K : PySem.W.Frag) {e : Expr} {te : TE} {d : TDE} (h : PD X B e te d) (he : ∀ whole, isTrue e X.env whole = (do let v ← whole; standAt e.pos; holding [v] (truthy v)) := by intro _; rfl) (hK : X.K = K := by rfl) :
    PDT X B e (fun σ H Q => te σ H fun x H' => ∃ k, TruV K x H' k ∧ Q k H') (dTru d) := by
  subst hK
  exact dt_val h he
end
end DL
namespace DL
open PySem L2
/-! ### tuples and lists of leaves may be compared and shown -/
structure Leaf (d : PyData) : Prop where
  lay : d.canLay0 = true
  dp : d.depth = 0
  sw : d.showable = true
  sz : d.shown.length ≤ 2000
theorem leafI {i : Int} (h : Mid i) : Leaf (.int i) := by
  have e : (10 : Int) ^ 200 = ((10 ^ 200 : Nat) : Int) := by rfl
  have l : (10 : Nat) ^ 200 < 2 ^ 900 := by decide +kernel
  have b : i.natAbs < 2 ^ 900 := by
    obtain ⟨h1, h2⟩ := h
    rw [e] at h1 h2
    generalize (10 : Nat) ^ 200 = a at *
    generalize (2 : Nat) ^ 900 = b at *
    omega
  have hl : i.natAbs.log2 < 900 := PySem.Flt.log2_lt_of (by decide) b
  refine ⟨rfl, rfl, ?_, ?_⟩
  · simp only [PyData.showable, decide_eq_true_eq]
    omega
  · rw [PyData.shown_int]
    have e := int_text_length_le (a := i) (k := 900) (by decide) hl
    show (Str.ofString (toString i)).length ≤ 2000
    rw [ofString_length]
    omega
theorem leaf_all : ∀ {l : List PyData}, (∀ x ∈ l, Leaf x) → PyData.canLayAll0 l = true ∧ PyData.depthAll l = 0 ∧ PyData.showableAll l = true ∧ ((PyData.shownAll l).map (·.length)).sum ≤ 2000 * l.length
  | [], _ => by simp [PyData.canLayAll0, PyData.depthAll, PyData.showableAll, PyData.shownAll]
  | x :: l, h => by
    obtain ⟨h1, h2, h3, h4⟩ := leaf_all (l := l) fun y hy => h y (List.mem_cons_of_mem _ hy)
    have hx := h x (List.mem_cons_self ..)
    refine ⟨?_, ?_, ?_, ?_⟩
    · simp only [PyData.canLayAll0, hx.lay, h1, Bool.and_self]
    · simp only [PyData.depthAll, hx.dp, h2, Nat.max_self]
    · simp only [PyData.showableAll, hx.sw, h3, Bool.and_self]
    · simp only [PyData.shownAll_cons, List.map_cons, List.sum_cons, List.length_cons]
      have := hx.sz
      omega
theorem okTup {l : List PyData} (h : ∀ x ∈ l, Leaf x) (hl : l.length ≤ 400) : OkD (.tuple l) := by
  obtain ⟨h1, h2, h3, h4⟩ := leaf_all h
  have hd : (PyData.tuple l).depth = 1 := by simp only [PyData.depth, h2]
  refine ⟨?_, ?_, by rw [hd]; decide, ?_⟩
  · unfold SeqAt.shaped
    rw [hd]
    simp only [PyData.canLay0, h1, Bool.true_and]
    decide
  · simp only [PyData.showable, h3]
  · have e : (PyData.tuple l).shown = tupleText (PyData.shownAll l) := by simp only [PyData.shown]
    have b := tupleText_len_le (PyData.shownAll l)
    have c := PyData.shownAll_length l
    show (PyData.tuple l).shown.length ≤ 1000000
    rw [e]
    omega
theorem okLst {l : List PyData} (h : ∀ x ∈ l, Leaf x) (hl : l.length ≤ 400) : OkD (.list l) := by
  obtain ⟨h1, h2, h3, h4⟩ := leaf_all h
  have hd : (PyData.list l).depth = 1 := by simp only [PyData.depth, h2]
  refine ⟨?_, ?_, by rw [hd]; decide, ?_⟩
  · unfold SeqAt.shaped
    rw [hd]
    simp only [PyData.canLay0, h1, Bool.true_and]
    decide
  · simp only [PyData.showable, h3]
  · have e : (PyData.list l).shown = listText (PyData.shownAll l) := by simp only [PyData.shown]
    have b := listText_len_le (PyData.shownAll l)
    have c := PyData.shownAll_length l
    show (PyData.list l).shown.length ≤ 1000000
    rw [e]
    omega
theorem leafN : Leaf .none := ⟨rfl, rfl, rfl, by decide +kernel⟩
theorem leafB (b : Bool) : Leaf (.bool b) := ⟨rfl, rfl, rfl, by cases b <;> decide +kernel⟩
theorem leaf_wish : Leaf (.str "wish") := ⟨by decide +kernel, rfl, rfl, by decide +kernel⟩
theorem leaf_tie : Leaf (.str "tie") := ⟨by decide +kernel, rfl, rfl, by decide +kernel⟩
theorem leaf_stop : Leaf (.str "stop") := ⟨by decide +kernel, rfl, rfl, by decide +kernel⟩
theorem leaf_bar : Leaf (.str "bar") := ⟨by decide +kernel, rfl, rfl, by decide +kernel⟩
theorem cut_len (l : List PyData) (lo hi : Option Int) : (cutD l lo hi).length ≤ l.length := by
  unfold cutD
  rw [List.length_take, List.length_drop]
  omega
theorem two_eq {a b d : PyData} (h1 : a = d) (h2 : b = d) : [DV.dat a, DV.dat b] = [DV.dat d, DV.dat d] := by
  rw [h1, h2]
theorem eqv3 {a b c d : Int} (h1 : a = d) (h2 : b = d) (h3 : c = d) : (!PyData.eqv (.list [.int a, .int b, .int c]) (.list [.int d, .int d, .int d])) = false := by
  subst h1 h2 h3
  simp [PyData.eqv, PyData.eqvAll]
namespace Tm
/-- a force is from 1 to m -/
def Fr (t : Tm) (m : Int) : Prop := match t with
  | wish _ _ _ f => 1 ≤ f ∧ f ≤ m
  | tie _ _ _ _ f => 1 ≤ f ∧ f ≤ m
  | _ => True
/-- all its numbers are of a middle size -/
def Mids (t : Tm) : Prop := match t with
  | wish d l h f => Mid d ∧ Mid l ∧ Mid h ∧ Mid f
  | tie d o l h f => Mid d ∧ Mid o ∧ Mid l ∧ Mid h ∧ Mid f
  | stop d l h => Mid d ∧ Mid l ∧ Mid h
  | bar d o l h => Mid d ∧ Mid o ∧ Mid l ∧ Mid h
theorem ok {t : Tm} (h : t.Mids) : OkD t.py := by
  cases t with
  | wish d l h' f =>
    refine okTup (fun x hx => ?_) (by simp [Tm.items])
    simp only [Tm.items, List.mem_cons, List.not_mem_nil, or_false] at hx
    obtain ⟨h1, h2, h3, h4⟩ := h
    rcases hx with rfl | rfl | rfl | rfl | rfl <;> first | exact leaf_wish | (apply leafI; assumption)
  | tie d o l h' f =>
    refine okTup (fun x hx => ?_) (by simp [Tm.items])
    simp only [Tm.items, List.mem_cons, List.not_mem_nil, or_false] at hx
    obtain ⟨h1, h2, h3, h4, h5⟩ := h
    rcases hx with rfl | rfl | rfl | rfl | rfl | rfl <;> first | exact leaf_tie | (apply leafI; assumption)
  | stop d l h' =>
    refine okTup (fun x hx => ?_) (by simp [Tm.items])
    simp only [Tm.items, List.mem_cons, List.not_mem_nil, or_false] at hx
    obtain ⟨h1, h2, h3⟩ := h
    rcases hx with rfl | rfl | rfl | rfl <;> first | exact leaf_stop | (apply leafI; assumption)
  | bar d o l h' =>
    refine okTup (fun x hx => ?_) (by simp [Tm.items])
    simp only [Tm.items, List.mem_cons, List.not_mem_nil, or_false] at hx
    obtain ⟨h1, h2, h3, h4⟩ := h
    rcases hx with rfl | rfl | rfl | rfl | rfl <;> first | exact leaf_bar | (apply leafI; assumption)
theorem mids_put {t : Tm} (h : t.Mids) {l u : Int} (hl : Mid l) (hu : Mid u) : (t.put l u).Mids := by
  cases t with
  | wish d _ _ f => exact ⟨h.1, hl, hu, h.2.2.2⟩
  | tie d o _ _ f => exact ⟨h.1, h.2.1, hl, hu, h.2.2.2.2⟩
  | stop d _ _ => exact ⟨h.1, hl, hu⟩
  | bar d o _ _ => exact ⟨h.1, h.2.1, hl, hu⟩
theorem mids_of {t : Tm} {n : Nat} {m : Int} (hi : t.In n) (hn : n < 1000000) (hf : t.Fr m) (hm : m < 1000000) (hl : Mid t.low) (hu : Mid t.high) : t.Mids := by
  have md : ∀ d : Int, 0 ≤ d ∧ d < n → Mid d := fun d hd => ⟨by omega, by omega⟩
  cases t with
  | wish d _ _ f => exact ⟨md _ hi, hl, hu, ⟨by have := hf.1; omega, by have := hf.2; omega⟩⟩
  | tie d o _ _ f => exact ⟨md _ hi.1, md _ hi.2, hl, hu, ⟨by have := hf.1; omega, by have := hf.2; omega⟩⟩
  | stop d _ _ => exact ⟨md _ hi, hl, hu⟩
  | bar d o _ _ => exact ⟨md _ hi.1, md _ hi.2, hl, hu⟩
theorem put_low {t : Tm} {l u : Int} : (t.put l u).low = l := by cases t <;> rfl
theorem put_high {t : Tm} {l u : Int} : (t.put l u).high = u := by cases t <;> rfl
theorem put_put {t : Tm} {l u l' u' : Int} : (t.put l u).put l' u' = t.put l' u' := by cases t <;> rfl
theorem put_self {t : Tm} : t.put t.low t.high = t := by cases t <;> rfl
theorem cut_put {t : Tm} {l u : Int} : PyData.tuple (cutD t.items none (some ((t.items.length : Int) - 2 - if (!isNone t.frc) = true then 1 else 0)) ++ [.int l, .int u] ++ cutD t.items (some ((t.items.length : Int) - 2 - (if (!isNone t.frc) = true then 1 else 0) + 2)) none) = (t.put l u).py := by
  cases t <;> rfl
theorem items_len {t : Tm} : t.items.length ≤ 6 := by cases t <;> exact Nat.le_of_ble_eq_true rfl
theorem dist_mir {t : Tm} {v : Int} (h : t.low ≤ t.high) : (t.put (-t.high) (-t.low)).dist (-v) = t.dist v := by
  unfold dist
  rw [put_low, put_high]
  split <;> split <;> (try split) <;> (try split) <;> omega
theorem dist_mov {t : Tm} {v b : Int} : (t.put (t.low + b) (t.high + b)).dist (v + b) = t.dist v := by
  unfold dist
  rw [put_low, put_high]
  split <;> split <;> (try split) <;> (try split) <;> omega
end Tm
theorem sz_cut1 {t : Tm} {lo hi : Option Int} {x y : PyData} : dSize ((cutD t.items lo hi).length + [x, y].length) := by
  have h1 := cut_len t.items lo hi
  have h2 := t.items_len
  show _ + 2 ≤ 1000000
  omega
theorem sz_cut2 {t : Tm} {lo hi lo' hi' : Option Int} {x y : PyData} : dSize ((cutD t.items lo hi ++ [x, y]).length + (cutD t.items lo' hi').length) := by
  have h1 := cut_len t.items lo hi
  have h2 := t.items_len
  have h3 := cut_len t.items lo' hi'
  rw [List.length_append]
  show (cutD t.items lo hi).length + 2 + (cutD t.items lo' hi').length ≤ 1000000
  omega
end DL
namespace DL
open PySem L2
theorem by_ex (i F l h : Int) (h1 : -F ≤ l) (h2 : l ≤ h) (h3 : h ≤ F) : ∃ b, (if (if i > -F - l then i else -F - l) < F - h then (if i > -F - l then i else -F - l) else F - h) = b ∧ -F - l ≤ b ∧ b ≤ F - h := by
  have e : -F - l ≤ (if i > -F - l then i else -F - l) := by split <;> omega
  generalize (if i > -F - l then i else -F - l) = m at *
  refine ⟨_, rfl, ?_, ?_⟩ <;> split <;> omega
theorem by_mid {i F l h : Int} (e : F = 1000000000000000000) (h1 : -(10 ^ 18) ≤ l) (h2 : l ≤ h) (h3 : h ≤ 10 ^ 18) : Mid (l + (if (if i > -F - l then i else -F - l) < F - h then (if i > -F - l then i else -F - l) else F - h)) ∧ Mid (h + (if (if i > -F - l then i else -F - l) < F - h then (if i > -F - l then i else -F - l) else F - h)) := by
  obtain ⟨b, eb, b0, b1⟩ := by_ex i F l h (by omega) h2 (by omega)
  rw [eb]
  exact ⟨⟨by omega, by omega⟩, ⟨by omega, by omega⟩⟩
theorem two_arg {a d : PyData} {i : Int} (h : a = d) : [DV.dat a, DV.dat (.int i)] = [DV.dat d, DV.dat (.int i)] := by
  rw [h]
theorem Tm.back {t : Tm} {b : Int} : ((t.put (t.low + b) (t.high + b)).put ((t.put (t.low + b) (t.high + b)).low + -b) ((t.put (t.low + b) (t.high + b)).high + -b)).py = t.py := by
  rw [Tm.put_put, Tm.put_low, Tm.put_high, show t.low + b + -b = t.low by omega, show t.high + b + -b = t.high by omega, Tm.put_self]
theorem sh3 {a b c : Int} (ha : Mid a) (hb : Mid b) (hc : Mid c) : SeqAt.shaped (.list [.int a, .int b, .int c]) = true := (okLst (l := [.int a, .int b, .int c]) (fun x hx => by
  simp only [List.mem_cons, List.not_mem_nil, or_false] at hx
  rcases hx with rfl | rfl | rfl <;> apply leafI <;> assumption) (by simp)).1
end DL
namespace DL
open PySem L2
/-! ### isinstance(x, T), T a built-in type -/
def tyD : PyData → String
  | .none => "NoneType"
  | .bool _ => "bool"
  | .int _ => "int"
  | .str _ => "str"
  | .list _ => "list"
  | .tuple _ => "tuple"
  | .dict _ => "dict"
theorem tyx {K : PySem.W.Frag} {M : Addr → Prop} {H : Hp} {v : V} {d : PyData} (h : Dt M H v d) (nd : ∀ kvs, d ≠ .dict kvs) : TyX K H v (.type (tyD d)) := by
  cases h with
  | non => exact .base .non
  | bl b => exact .base (.bl b)
  | int i => exact .base (.int i)
  | str x => exact .base (.str x)
  | lst n e a => exact .base (.lst e)
  | tup n e a => exact .base (.tup e)
  | brd _ _ _ _ _ _ _ => exact absurd rfl (nd _)
def OkIsi (f : PyData → Option Bool) (T : String) : Prop := ∀ d b, f d = some b → (∀ kvs, d ≠ .dict kvs) ∧ kitB (tyD d) T = some b
def isInt : PyData → Option Bool
  | .int _ => some true
  | .bool _ => some true
  | .dict _ => none
  | _ => some false
def isBool : PyData → Option Bool
  | .bool _ => some true
  | .dict _ => none
  | _ => some false
def isTup : PyData → Option Bool
  | .tuple _ => some true
  | .dict _ => none
  | _ => some false
def isLst : PyData → Option Bool
  | .list _ => some true
  | .dict _ => none
  | _ => some false
def isStr : PyData → Option Bool
  | .str _ => some true
  | .dict _ => none
  | _ => some false
theorem okInt : OkIsi isInt "int" := fun d b h => by cases d <;> cases h <;> (refine ⟨(fun _ z => nomatch z), ?_⟩; simp only [tyD]; decide +kernel)
theorem okBool : OkIsi isBool "bool" := fun d b h => by cases d <;> cases h <;> (refine ⟨(fun _ z => nomatch z), ?_⟩; simp only [tyD]; decide +kernel)
theorem okTupI : OkIsi isTup "tuple" := fun d b h => by cases d <;> cases h <;> (refine ⟨(fun _ z => nomatch z), ?_⟩; simp only [tyD]; decide +kernel)
theorem okLstI : OkIsi isLst "list" := fun d b h => by cases d <;> cases h <;> (refine ⟨(fun _ z => nomatch z), ?_⟩; simp only [tyD]; decide +kernel)
theorem okStrI : OkIsi isStr "str" := fun d b h => by cases d <;> cases h <;> (refine ⟨(fun _ z => nomatch z), ?_⟩; simp only [tyD]; decide +kernel)
def dIsi (f : PyData → Option Bool) (t : TDE) : TDE := fun ds Q => t ds fun d => match f d with
  | some b => Q (.bool b)
  | none => False
section
variable {X : Cx} {B : Gr} {p p2 p3 pos : Pos} {e a b : Expr} {te ta tb : TE} {td da db : TDE}
theorem d_isi (K : PySem.W.Frag) {x : Str} {T : String} {f : PyData → Option Bool} (ok : OkIsi f T) (he : PD X B e te td) (hg : Gl X "isinstance") (hm : X.mg "isinstance" = none) (hgT : Gl X x) (hmT : X.mg x = none) (hv : bootBuiltins x = some (.type T))
    (hK : X.K = K := by rfl) (hn : x ≠ "__name__" := by decide) (hd : (x == ("__debug__" : Str)) = false := by decide)
    (hs : starEach [e, .Name x p2] X.env = (false, eval e X.env) :: starEach [.Name x p2] X.env := by rfl) :
    PD X B (.Call (.Name "isinstance" p) [e, .Name x p2] [] pos) (tCB (rIsi K) (tCons te (tCons (tC (.ty T)) tNil))) (dIsi f td) := by
  subst hK
  refine ⟨pe_callB call_isi hg hm PyProof.Rows.boot_isinstance (pa_cons he.pe (pa_cons (pe_bltn hgT hmT hv rfl hn hd) pa_nil rfl) hs) (by decide) (by decide) hs rfl, fun M σ H ds Q R g en q c => he.se M σ H ds _ _ g en q fun v H1 d g1 k1 hd q1 => ?_⟩
  show rIsi X.K [v, .ty T] H1 R
  revert q1
  cases ef : f d with
  | none => exact fun z => z.elim
  | some b => exact fun z => ⟨v, .ty T, .type (tyD d), .type T, b, rfl, .ty T, tyx hd (ok d b ef).1, kit_ty (ok d b ef).2, c _ H1 _ g1 k1 (.bl b) z⟩
theorem rg_dta {M : Addr → Prop} {H : Hp} {lo : Int} : ∀ l : List Nat, DtA M H (l.map fun i => V.int (lo + (i : Nat))) (l.map fun (i : Nat) => PyData.int (lo + (i : Int)))
  | [] => .nil
  | n :: ns => .cons (.int _) (rg_dta ns)
def dLRg2 (da db : TDE) : TDE := fun ds Q => da ds fun x => db ds fun y => match x, y with
  | .int a, .int b => RgOk a b ∧ Q (.list (rangeD a (b - a).toNat))
  | _, _ => False
theorem d_listRg2 (hc : X.calm = true) (hg : Gl X "list") (hm : X.mg "list" = none) (hg2 : Gl X "range") (hm2 : X.mg "range" = none) (ha : PD X B a ta da) (hb : PD X B b tb db)
    (na : starEach [.Call (.Name "range" p2) [a, b] [] p3] X.env = (false, eval (.Call (.Name "range" p2) [a, b] [] p3) X.env) :: starEach [] X.env := by rfl)
    (n1 : starEach [a, b] X.env = (false, eval a X.env) :: starEach [b] X.env := by rfl) (n2 : starEach [b] X.env = (false, eval b X.env) :: starEach [] X.env := by rfl) (n3 : (backTo p3 (starEach [b] X.env)).any (·.1) = false := by rfl) :
    PD X B (.Call (.Name "list" p) [.Call (.Name "range" p2) [a, b] [] p3] [] pos) (tLstRg (tRg2 ta tb)) (dLRg2 da db) := by
  refine ⟨pe_listRg hc hg hm (prg_2 hg2 hm2 ha.pe hb.pe n1 n2 n3) na, fun M σ H ds Q R g en q c => ha.se M σ H ds _ _ g en q fun v H1 x g1 k1 hx q1 => hb.se M σ H1 ds _ _ g1 (en.keep g.1 k1) q1 fun w H2 y g2 k2 hy q2 => ?_⟩
  cases hx <;> cases hy <;> first | exact (show False from q2).elim | skip
  rename_i i j
  obtain ⟨q3, q4⟩ := (show RgOk i j ∧ Q (.list (rangeD i (j - i).toNat)) from q2)
  exact ⟨i, j, rfl, rfl, q3, fun l hl => c _ _ _ (g2.new hl) ((k1.trans k2).trans (Keep.new hl)) (Dt.newL g2 hl (rg_dta _)) q4⟩
end
end DL
namespace DL
open PySem L2
/-! ### pulls of a term -/
namespace Tm
def dn (t : Tm) : PyData := match t with
  | tie _ _ _ _ f => .int (-f)
  | wish _ _ _ f => .int (-f)
  | _ => .none
def up (t : Tm) : PyData := match t with
  | tie _ _ _ _ f => .int f
  | wish _ _ _ f => .int f
  | _ => .none
def fit (t : Tm) (v : Int) : PyData := if v < t.low then .tuple [t.up, t.up] else if t.high < v then .tuple [t.dn, t.dn] else .tuple [if v = t.high then t.dn else .int 0, if v = t.low then t.up else .int 0]
end Tm
/-- an end of a range of pulls -/
def Endp (d : PyData) : Prop := d = .none ∨ ∃ i : Int, d = .int i ∧ -30 ≤ i ∧ i ≤ 30
def leE (d : PyData) (p : Int) : Bool := match d with
  | .int i => decide (i ≤ p)
  | _ => true
def geE (d : PyData) (p : Int) : Bool := match d with
  | .int i => decide (p ≤ i)
  | _ => true
def hasForceR : DR := fun xs Q => ∃ t : Tm, xs = [.dat t.py] ∧ Q (.bool t.soft)
def strongR : DR := fun xs Q => ∃ t : Tm, xs = [.dat t.py] ∧ Q (.tuple [t.dn, t.up])
def fitR : DR := fun xs Q => ∃ (t : Tm) (v : Int), xs = [.dat t.py, .dat (.int v)] ∧ ∀ a b, t.fit v = .tuple [a, b] → Q (.tuple [a, b])
def wholeR : DR := fun xs Q => ∃ i l h : Int, xs = [.dat (.int i), .dat (.int l), .dat (.int h)] ∧ Q (.bool (decide (l ≤ i) && decide (i ≤ h)))
def withinR : DR := fun xs Q => ∃ (a b : PyData) (p : Int), xs = [.dat (.tuple [a, b]), .dat (.int p)] ∧ Endp a ∧ Endp b ∧ Q (.bool (leE a p && geE b p))
def kindsR : DR := fun xs Q => ∃ a b : PyData, xs = [.dat (.tuple [a, b])] ∧ Endp a ∧ Endp b ∧ Q (.bool true)
def Tm.fitB (t : Tm) (v p : Int) : Bool := if v < t.low then leE t.up p && geE t.up p else if t.high < v then leE t.dn p && geE t.dn p else leE (if v = t.high then t.dn else .int 0) p && geE (if v = t.low then t.up else .int 0) p
/-- what the law says a pull must be, told by the ends -/
def fitsR : DR := fun xs Q => ∃ (t : Tm) (v p : Int), xs = [.dat t.py, .dat (.int v), .dat (.int p)] ∧ t.low ≤ t.high ∧ (t.soft = false → t.low ≤ v ∧ v ≤ t.high) ∧ t.Fr 30 ∧ Q (.bool (t.fitB v p))
end DL
namespace DL
open PySem L2
theorem all_true : ∀ {r : List PyData}, (∀ z ∈ r, z = .bool true) → ∃ bs, boolsOf r = some bs ∧ bs.all id = true
  | [], _ => ⟨[], rfl, rfl⟩
  | x :: r, h => by
    obtain ⟨bs, e, e2⟩ := all_true (r := r) fun z hz => h z (List.mem_cons_of_mem _ hz)
    obtain rfl := h x (List.mem_cons_self ..)
    refine ⟨true :: bs, ?_, ?_⟩
    · show (boolsOf r).map (true :: ·) = some (true :: bs)
      rw [e]
      rfl
    · simpa using e2
theorem q_eq {Q : PyData → Prop} {a b : Bool} (h : Q (.bool a)) (e : a = b) : Q (.bool b) := e ▸ h
theorem q_d {Q : PyData → Prop} {a b : PyData} (h : Q a) (e : a = b) : Q b := e ▸ h
theorem eqvI {i j : Int} : PyData.eqv (.int i) (.int j) = (i == j) := rfl
end DL

namespace DL
open PySem L2
theorem fit_tup (t : Tm) (v : Int) : ∃ a b, t.fit v = .tuple [a, b] := by
  unfold Tm.fit
  split
  · exact ⟨_, _, rfl⟩
  · split <;> exact ⟨_, _, rfl⟩
theorem q_fit {Q : PyData → Prop} {t : Tm} {v : Int} (h : ∀ a b, t.fit v = .tuple [a, b] → Q (.tuple [a, b])) : Q (t.fit v) := by
  obtain ⟨a, b, e⟩ := fit_tup t v
  rw [e]
  exact h a b e
theorem leq_eq {f p : Int} : (decide (f ≤ p) && decide (p ≤ f)) = (p == f) := by
  rw [Bool.eq_iff_iff]
  simp only [Bool.and_eq_true, decide_eq_true_eq, beq_iff_eq]
  omega
theorem e_lo {f v u p : Int} : leE (if v = u then .int (-f) else .int 0) p = decide ((-f * if (v == u) = true then 1 else 0) ≤ p) := by
  by_cases a : v = u <;> simp [a, leE]
theorem e_hi {f v u p : Int} : geE (if v = u then .int f else .int 0) p = decide (p ≤ f * if (v == u) = true then 1 else 0) := by
  by_cases a : v = u <;> simp [a, geE]
theorem fits_hard {Q : PyData → Prop} {l h v p : Int} (lh : l ≤ h) (v0 : l ≤ v) (v1 : v ≤ h) (H : Q (.bool (leE (if v = h then .none else .int 0) p && geE (if v = l then .none else .int 0) p))) :
    (match PyData.bool (decide (l < v)) with
      | PyData.bool true => if decide (v < h) = true then Q (PyData.bool (p == 0)) else if (l == h) = true then Q (PyData.bool true) else if (v == l) = true then Q (PyData.bool (decide (0 ≤ p))) else Q (PyData.bool (decide (p ≤ 0)))
      | PyData.bool false => if (l == h) = true then Q (PyData.bool true) else if (v == l) = true then Q (PyData.bool (decide (0 ≤ p))) else Q (PyData.bool (decide (p ≤ 0)))
      | _ => False) := by
  have k1 : leE (if v = h then .none else .int 0) p = (decide (v = h) || decide (0 ≤ p)) := by
    by_cases a : v = h
    · rw [if_pos a, decide_eq_true a]
      rfl
    · rw [if_neg a, decide_eq_false a]
      rfl
  have k2 : geE (if v = l then .none else .int 0) p = (decide (v = l) || decide (p ≤ 0)) := by
    by_cases a : v = l
    · rw [if_pos a, decide_eq_true a]
      rfl
    · rw [if_neg a, decide_eq_false a]
      rfl
  rw [k1, k2] at H
  by_cases a : l < v
  · rw [decide_eq_true a]
    show if decide (v < h) = true then _ else _
    simp only [decide_eq_true_eq, beq_iff_eq]
    split
    · refine q_eq H ?_
      rw [Bool.eq_iff_iff]
      simp only [Bool.and_eq_true, Bool.or_eq_true, decide_eq_true_eq, beq_iff_eq]
      omega
    · split
      · refine q_eq H ?_
        rw [Bool.eq_iff_iff]
        simp only [Bool.and_eq_true, Bool.or_eq_true, decide_eq_true_eq, iff_true]
        omega
      · split <;> (refine q_eq H ?_; rw [Bool.eq_iff_iff]; simp only [Bool.and_eq_true, Bool.or_eq_true, decide_eq_true_eq]; omega)
  · rw [decide_eq_false a]
    show if (l == h) = true then _ else _
    simp only [beq_iff_eq]
    split
    · refine q_eq H ?_
      rw [Bool.eq_iff_iff]
      simp only [Bool.and_eq_true, Bool.or_eq_true, decide_eq_true_eq, iff_true]
      omega
    · split <;> (refine q_eq H ?_; rw [Bool.eq_iff_iff]; simp only [Bool.and_eq_true, Bool.or_eq_true, decide_eq_true_eq]; omega)
namespace Tm
theorem up_endp {t : Tm} (h : t.Fr 30) : Endp t.up := by
  cases t with
  | wish d l u f => exact .inr ⟨f, rfl, by have := h.1; omega, h.2⟩
  | tie d o l u f => exact .inr ⟨f, rfl, by have := h.1; omega, h.2⟩
  | stop d l u => exact .inl rfl
  | bar d o l u => exact .inl rfl
theorem dn_endp {t : Tm} (h : t.Fr 30) : Endp t.dn := by
  cases t with
  | wish d l u f => exact .inr ⟨-f, rfl, by have := h.2; omega, by have := h.1; omega⟩
  | tie d o l u f => exact .inr ⟨-f, rfl, by have := h.2; omega, by have := h.1; omega⟩
  | stop d l u => exact .inl rfl
  | bar d o l u => exact .inl rfl
theorem zero_endp : Endp (.int 0) := .inr ⟨0, rfl, by decide, by decide⟩
theorem fit_facts {t : Tm} {v : Int} {a b : PyData} (hf : t.Fr 30) (e : t.fit v = .tuple [a, b]) : Endp a ∧ Endp b ∧ ∀ p, (leE a p && geE b p) = t.fitB v p := by
  have u := up_endp hf
  have d := dn_endp hf
  unfold fit at e
  unfold fitB
  split at e
  · rename_i h1
    simp only [PyData.tuple.injEq, List.cons.injEq, and_true] at e
    obtain ⟨rfl, rfl⟩ := e
    exact ⟨u, u, fun p => by rw [if_pos h1]⟩
  · rename_i h1
    split at e
    · rename_i h2
      simp only [PyData.tuple.injEq, List.cons.injEq, and_true] at e
      obtain ⟨rfl, rfl⟩ := e
      exact ⟨d, d, fun p => by rw [if_neg h1, if_pos h2]⟩
    · rename_i h2
      simp only [PyData.tuple.injEq, List.cons.injEq, and_true] at e
      obtain ⟨rfl, rfl⟩ := e
      refine ⟨?_, ?_, fun p => by rw [if_neg h1, if_neg h2]⟩
      · split
        · exact d
        · exact zero_endp
      · split
        · exact u
        · exact zero_endp
theorem neg_ends {t : Tm} {p : Int} : leE t.up (-p) = geE t.dn p ∧ geE t.up (-p) = leE t.dn p ∧ leE t.dn (-p) = geE t.up p ∧ geE t.dn (-p) = leE t.up p := by
  cases t <;> simp only [up, dn, leE, geE, and_self] <;> refine ⟨?_, ?_, ?_, ?_⟩ <;> rw [Bool.eq_iff_iff] <;> simp only [decide_eq_true_eq] <;> omega
theorem put_up {t : Tm} {l u : Int} : (t.put l u).up = t.up := by cases t <;> rfl
theorem put_dn {t : Tm} {l u : Int} : (t.put l u).dn = t.dn := by cases t <;> rfl
theorem put_fr {t : Tm} {l u m : Int} (h : t.Fr m) : (t.put l u).Fr m := by cases t <;> exact h
theorem fitB_mir {t : Tm} {v p : Int} (hl : t.low ≤ t.high) : (t.put (-t.high) (-t.low)).fitB (-v) (-p) = t.fitB v p := by
  obtain ⟨n1, n2, n3, n4⟩ := neg_ends (t := t) (p := p)
  have z1 : leE (.int 0) (-p) = geE (.int 0) p := by
    simp only [leE, geE]
    rw [Bool.eq_iff_iff]
    simp only [decide_eq_true_eq]
    omega
  have z2 : geE (.int 0) (-p) = leE (.int 0) p := by
    simp only [leE, geE]
    rw [Bool.eq_iff_iff]
    simp only [decide_eq_true_eq]
    omega
  unfold fitB
  rw [put_low, put_high, put_up, put_dn]
  by_cases h1 : v < t.low
  · rw [if_neg (show ¬ -v < -t.high by omega), if_pos (show -t.low < -v by omega), if_pos h1, n3, n4, Bool.and_comm]
  · by_cases h2 : t.high < v
    · rw [if_pos (show -v < -t.high by omega), if_neg h1, if_pos h2, n1, n2, Bool.and_comm]
    · rw [if_neg (show ¬ -v < -t.high by omega), if_neg (show ¬ -t.low < -v by omega), if_neg h1, if_neg h2]
      have a1 : leE (if -v = -t.low then t.dn else .int 0) (-p) = geE (if v = t.low then t.up else .int 0) p := by
        by_cases a : v = t.low
        · rw [if_pos a, if_pos (by omega), n3]
        · rw [if_neg a, if_neg (by omega), z1]
      have a2 : geE (if -v = -t.high then t.up else .int 0) (-p) = leE (if v = t.high then t.dn else .int 0) p := by
        by_cases a : v = t.high
        · rw [if_pos a, if_pos (by omega), n2]
        · rw [if_neg a, if_neg (by omega), z2]
      rw [a1, a2, Bool.and_comm]
end Tm
end DL
namespace DL
open PySem L2
theorem Tm.kind0 (t : Tm) : ∃ s, atI t.items 0 = some (.str s) ∧ inD (.str s) [.str "wish", .str "tie"] = t.soft := by
  cases t
  · exact ⟨_, atI_0, inWT_w⟩
  · exact ⟨_, atI_0, inWT_t⟩
  · exact ⟨_, atI_0, inWT_s⟩
  · exact ⟨_, atI_0, inWT_b⟩
theorem ne_bb {x y : Bool} (h : x = y) : (!PyData.eqv (.bool x) (.bool y)) = false := by
  subst h
  cases x <;> rfl
theorem mem_ints {x : PyData} {lo : Int} {n : Nat} {l : List PyData} (h : x ∈ rangeD lo n ++ l) (hl : ∀ y ∈ l, ∃ i : Int, y = .int i) : ∃ i : Int, x = .int i := by
  rcases List.mem_append.mp h with h | h
  · obtain ⟨i, _, e⟩ := List.mem_map.mp h
    exact ⟨_, e.symm⟩
  · exact hl x h
end DL
namespace DL
open PySem L2
/-- a loop that gives False back at the first item that is bad -/
theorem forW_any {g : TDG} {b : TDS} {DD : DEnds} (I : DEnv → Prop) (P : PyData → Prop) (bad : PyData → Bool)
    (turn : ∀ (x : PyData) (N : DEnv → Prop) (ds : DEnv), P x → I ds → (bad x = true → DD.rt (.bool false)) → (bad x = false → ∀ ds', I ds' → N ds') → g x ds fun ds' => b { nx := N, rt := DD.rt, bk := DD.nx, ct := N } ds') :
    ∀ (l : List PyData) (ds : DEnv), (∀ x ∈ l, P x) → I ds → (l.any bad = true → DD.rt (.bool false)) → (l.any bad = false → ∀ ds, I ds → DD.nx ds) → forW g b DD l ds
  | [], ds, _, h, _, n => n rfl ds h
  | x :: r, ds, hp, h, y, n => turn x _ ds (hp x (List.mem_cons_self ..)) h (fun e => y (by rw [List.any_cons, e, Bool.true_or])) fun e ds' h' =>
      forW_any I P bad turn r ds' (fun y hy => hp y (List.mem_cons_of_mem _ hy)) h' (fun e2 => y (by rw [List.any_cons, e2, Bool.or_true])) fun e2 => n (by rw [List.any_cons, e, e2]; rfl)
namespace Tm
/-- the distance lies under every line by the ends: from below and above -/
theorem dist_ge {t : Tm} {o : Int} (hl : t.low ≤ t.high) : t.low - o ≤ t.dist o ∧ o - t.high ≤ t.dist o ∧ 0 ≤ t.dist o := by
  unfold dist
  split
  · omega
  · split <;> omega
theorem dist_lo {t : Tm} {v : Int} (h : v < t.low) : t.dist v = t.low - v := by
  unfold dist
  rw [if_pos h]
theorem dist_hi {t : Tm} {v : Int} (h : ¬ v < t.low) (h2 : t.high < v) : t.dist v = v - t.high := by
  unfold dist
  rw [if_neg h, if_pos h2]
theorem dist_in {t : Tm} {v : Int} (h : ¬ v < t.low) (h2 : ¬ t.high < v) : t.dist v = 0 := by
  unfold dist
  rw [if_neg h, if_neg h2]
end Tm
theorem mul_le {f a b : Int} (hf : 0 ≤ f) (h : a ≤ b) : f * a ≤ f * b := Int.mul_le_mul_of_nonneg_left h hf
/-- a pull that fits is a slope of force times distance -/
theorem slope_ok {l h f v p o D : Int} (lh : l ≤ h) (f1 : 1 ≤ f) (d1 : l - o ≤ D) (d2 : o - h ≤ D) (d3 : 0 ≤ D) {E : Int}
    (H : (v < l ∧ E = l - v ∧ p = f) ∨ (h < v ∧ E = v - h ∧ p = -f) ∨ (l ≤ v ∧ v ≤ h ∧ E = 0 ∧ (if v = h then -f else 0) ≤ p ∧ p ≤ (if v = l then f else 0))) : ¬ f * D < f * E - p * (o - v) := by
  rcases H with ⟨a, rfl, rfl⟩ | ⟨a, rfl, rfl⟩ | ⟨a, b, rfl, q1, q2⟩
  · have := mul_le (f := p) (by omega) d1
    have e : p * (l - v) - p * (o - v) = p * (l - o) := by rw [← Int.mul_sub]; congr 1; omega
    omega
  · have := mul_le (f := f) (by omega) d2
    have e : f * (v - h) - -f * (o - v) = f * (o - h) := by rw [Int.neg_mul, Int.sub_neg, ← Int.mul_add]; congr 1; omega
    omega
  · rw [Int.mul_zero]
    have fd := Int.mul_nonneg (a := f) (b := D) (by omega) d3
    rcases Int.lt_trichotomy o v with c | c | c
    · -- o < v: - p (o - v) = p (v - o) ≤ q2 (v - o)
      have e : -(p * (o - v)) = (v - o) * p := by rw [← Int.mul_neg, Int.mul_comm]; congr 1; omega
      split at q2
      · rename_i e2
        have m := mul_le (f := v - o) (by omega) q2
        have m2 := mul_le (f := f) (by omega) d1
        have e3 : (v - o) * f = f * (l - o) := by rw [Int.mul_comm, e2]
        omega
      · have m := mul_le (f := v - o) (by omega) q2
        rw [Int.mul_zero] at m
        omega
    · have e : p * (o - v) = 0 := by rw [c, Int.sub_self, Int.mul_zero]
      omega
    · have e : -(p * (o - v)) = (o - v) * -p := by rw [Int.mul_neg, Int.mul_comm]
      split at q1
      · rename_i e2
        have m := mul_le (f := o - v) (by omega) (show -p ≤ f by omega)
        have m2 := mul_le (f := f) (by omega) d2
        have e3 : (o - v) * f = f * (o - h) := by rw [Int.mul_comm, e2]
        omega
      · have m := mul_le (f := o - v) (by omega) (show -p ≤ 0 by omega)
        rw [Int.mul_zero] at m
        omega
end DL
namespace DL
open PySem L2
theorem slope_no {f v p l h D1 D2 E : Int} (f1 : 1 ≤ f)
    (H : (v < l ∧ E = l - v ∧ D1 = l - v + 1 ∧ D2 = l - v - 1 ∧ p ≠ f) ∨ (h < v ∧ E = v - h ∧ D1 = v - h - 1 ∧ D2 = v - h + 1 ∧ p ≠ -f) ∨ (E = 0 ∧ D1 = (if v = l then 1 else 0) ∧ D2 = (if v = h then 1 else 0) ∧ ¬ ((if v = h then -f else 0) ≤ p ∧ p ≤ (if v = l then f else 0)))) :
    f * D1 < f * E - p * (v - 1 - v) ∨ f * D2 < f * E - p * (v + 1 - v) := by
  have e1 : p * (v - 1 - v) = -p := by rw [show v - 1 - v = -1 by omega]; omega
  have e2 : p * (v + 1 - v) = p := by rw [show v + 1 - v = 1 by omega]; omega
  rw [e1, e2]
  rcases H with ⟨a, rfl, rfl, rfl, q⟩ | ⟨a, rfl, rfl, rfl, q⟩ | ⟨rfl, rfl, rfl, q⟩
  · have m1 : f * (l - v + 1) = f * (l - v) + f := by rw [Int.mul_add, Int.mul_one]
    have m2 : f * (l - v - 1) = f * (l - v) - f := by rw [Int.mul_sub, Int.mul_one]
    omega
  · have m1 : f * (v - h - 1) = f * (v - h) - f := by rw [Int.mul_sub, Int.mul_one]
    have m2 : f * (v - h + 1) = f * (v - h) + f := by rw [Int.mul_add, Int.mul_one]
    omega
  · rw [Int.mul_zero]
    by_cases a : v = l <;> by_cases b : v = h <;> simp only [a, b, if_true, if_false] at q ⊢ <;> (try simp only [Int.mul_one, Int.mul_zero]) <;> (try split at q) <;> (try split) <;> omega
namespace Tm
def cost (t : Tm) (v : Int) : PyData := match t with
  | wish _ _ _ f => .int (f * t.dist v)
  | tie _ _ _ _ f => .int (f * t.dist v)
  | _ => if 0 < t.dist v then .none else .int 0
/-- another argument that shows that p is no slope at v -/
def bad (t : Tm) (v p : Int) (x : PyData) : Bool := match x with
  | .int o => match t with
    | wish _ _ _ f => decide (f * t.dist o < f * t.dist v - p * (o - v))
    | tie _ _ _ _ f => decide (f * t.dist o < f * t.dist v - p * (o - v))
    | _ => !decide (0 < t.dist o) && decide (0 < 0 - p * (o - v))
  | _ => false
end Tm
def costR : DR := fun xs Q => ∃ (t : Tm) (v : Int), xs = [.dat t.py, .dat (.int v)] ∧ t.low ≤ t.high ∧ t.Fr 30 ∧ (-(10 ^ 30) < t.dist v ∧ t.dist v < 10 ^ 30) ∧ ∀ d, t.cost v = d → Q d
def slopeR : DR := fun xs Q => ∃ (t : Tm) (v p : Int), xs = [.dat t.py, .dat (.int v), .dat (.int p)] ∧ t.low ≤ t.high ∧ t.Fr 30 ∧ -(10 ^ 18) ≤ t.low ∧ t.high ≤ 10 ^ 18 ∧ (-(10 ^ 19) < v ∧ v < 10 ^ 19) ∧ (-100 < p ∧ p < 100) ∧ (t.soft = false → t.low ≤ v ∧ v ≤ t.high) ∧ Q (.bool (t.fitB v p))
end DL

namespace DL
open PySem L2
theorem soft_no {l u f v p o D E : Int} {B : Bool} (lh : l ≤ u) (f1 : 1 ≤ f) (hB : B = (if v < l then leE (.int f) p && geE (.int f) p else if u < v then leE (.int (-f)) p && geE (.int (-f)) p else leE (if v = u then .int (-f) else .int 0) p && geE (if v = l then .int f else .int 0) p))
    (d1 : l - o ≤ D) (d2 : o - u ≤ D) (d3 : 0 ≤ D) (hE : E = if v < l then l - v else if u < v then v - u else 0) (b : B = true) : ¬ f * D < f * E - p * (o - v) := by
  rw [hB] at b
  refine slope_ok lh f1 d1 d2 d3 ?_
  by_cases h1 : v < l
  · rw [if_pos h1] at b hE
    rw [show (leE (.int f) p && geE (.int f) p) = (p == f) from leq_eq] at b
    exact .inl ⟨h1, hE, eq_of_beq b⟩
  · by_cases h2 : u < v
    · rw [if_neg h1, if_pos h2] at b hE
      rw [show (leE (.int (-f)) p && geE (.int (-f)) p) = (p == -f) from leq_eq] at b
      exact .inr (.inl ⟨h2, hE, eq_of_beq b⟩)
    · rw [if_neg h1, if_neg h2] at b hE
      rw [e_lo, e_hi] at b
      simp only [Bool.and_eq_true, decide_eq_true_eq, beq_iff_eq] at b
      refine .inr (.inr ⟨by omega, by omega, hE, ?_, ?_⟩)
      · have := b.1
        split at this <;> split <;> omega
      · have := b.2
        split at this <;> split <;> omega
theorem soft_yes {l u f v p D1 D2 E : Int} {B : Bool} (lh : l ≤ u) (f1 : 1 ≤ f) (hB : B = (if v < l then leE (.int f) p && geE (.int f) p else if u < v then leE (.int (-f)) p && geE (.int (-f)) p else leE (if v = u then .int (-f) else .int 0) p && geE (if v = l then .int f else .int 0) p))
    (hE : E = if v < l then l - v else if u < v then v - u else 0) (h1 : D1 = if v - 1 < l then l - (v - 1) else if u < v - 1 then v - 1 - u else 0) (h2 : D2 = if v + 1 < l then l - (v + 1) else if u < v + 1 then v + 1 - u else 0) (b : B = false) : f * D1 < f * E - p * (v - 1 - v) ∨ f * D2 < f * E - p * (v + 1 - v) := by
  rw [hB] at b
  refine slope_no (l := l) (h := u) f1 ?_
  by_cases a1 : v < l
  · rw [if_pos a1] at b hE
    rw [if_pos (by omega)] at h1
    rw [show (leE (.int f) p && geE (.int f) p) = (p == f) from leq_eq] at b
    refine .inl ⟨a1, hE, by omega, ?_, ne_of_beq_false b⟩
    rw [h2]
    split
    · omega
    · split <;> omega
  · by_cases a2 : u < v
    · rw [if_neg a1, if_pos a2] at b hE
      rw [if_neg (by omega), if_pos (by omega)] at h2
      rw [show (leE (.int (-f)) p && geE (.int (-f)) p) = (p == -f) from leq_eq] at b
      refine .inr (.inl ⟨a2, hE, ?_, by omega, ne_of_beq_false b⟩)
      rw [h1]
      split
      · omega
      · split <;> omega
    · rw [if_neg a1, if_neg a2] at b hE
      rw [e_lo, e_hi] at b
      refine .inr (.inr ⟨hE, ?_, ?_, fun z => ?_⟩)
      · rw [h1]
        split <;> split <;> (try split) <;> omega
      · rw [h2]
        split <;> split <;> (try split) <;> omega
      · rw [Bool.and_eq_false_iff] at b
        simp only [decide_eq_false_iff_not, beq_iff_eq] at b
        obtain ⟨z1, z2⟩ := z
        rcases b with b | b
        · split at b <;> split at z1 <;> omega
        · split at b <;> split at z2 <;> omega
end DL
namespace DL
open PySem L2
theorem hard_key {l u v p : Int} (hv : l ≤ v ∧ v ≤ u) : (if v < l then leE .none p && geE .none p else if u < v then leE .none p && geE .none p else leE (if v = u then .none else .int 0) p && geE (if v = l then .none else .int 0) p) = ((decide (v = u) || decide (0 ≤ p)) && (decide (v = l) || decide (p ≤ 0))) := by
  rw [if_neg (by omega), if_neg (by omega)]
  by_cases a : v = u
  · by_cases b : v = l
    · rw [if_pos a, if_pos b, decide_eq_true a, decide_eq_true b]
      rfl
    · rw [if_pos a, if_neg b, decide_eq_true a, decide_eq_false b]
      rfl
  · by_cases b : v = l
    · rw [if_neg a, if_pos b, decide_eq_false a, decide_eq_true b]
      rfl
    · rw [if_neg a, if_neg b, decide_eq_false a, decide_eq_false b]
      rfl
theorem hard_no {l u v p o D : Int} (lh : l ≤ u) (hv : l ≤ v ∧ v ≤ u) (b : (if v < l then leE .none p && geE .none p else if u < v then leE .none p && geE .none p else leE (if v = u then .none else .int 0) p && geE (if v = l then .none else .int 0) p) = true) (ge : l - o ≤ D ∧ o - u ≤ D ∧ 0 ≤ D) : (!decide (0 < D) && decide (0 < 0 - p * (o - v))) = false := by
  rw [hard_key hv] at b
  simp only [Bool.and_eq_true, Bool.or_eq_true, decide_eq_true_eq] at b
  by_cases d : 0 < D
  · rw [decide_eq_true d]
    rfl
  · have q : ¬ 0 < 0 - p * (o - v) := by
      rcases Int.lt_trichotomy o v with c | c | c
      · have m := mul_le (f := v - o) (by omega) (show p ≤ 0 by omega)
        rw [Int.mul_zero] at m
        have e : -(p * (o - v)) = (v - o) * p := by rw [← Int.mul_neg, Int.mul_comm]; congr 1; omega
        omega
      · have e : p * (o - v) = 0 := by rw [c, Int.sub_self, Int.mul_zero]
        omega
      · have m := mul_le (f := o - v) (by omega) (show -p ≤ 0 by omega)
        rw [Int.mul_zero] at m
        have e : -(p * (o - v)) = (o - v) * -p := by rw [Int.mul_neg, Int.mul_comm]
        omega
    rw [decide_eq_false q, Bool.and_false]
theorem hard_yes {l u v p D1 D2 : Int} (lh : l ≤ u) (hv : l ≤ v ∧ v ≤ u) (b : (if v < l then leE .none p && geE .none p else if u < v then leE .none p && geE .none p else leE (if v = u then .none else .int 0) p && geE (if v = l then .none else .int 0) p) = false)
    (h1 : D1 = if v - 1 < l then l - (v - 1) else if u < v - 1 then v - 1 - u else 0) (h2 : D2 = if v + 1 < l then l - (v + 1) else if u < v + 1 then v + 1 - u else 0) : (!decide (0 < D1) && decide (0 < 0 - p * (v - 1 - v))) = true ∨ (!decide (0 < D2) && decide (0 < 0 - p * (v + 1 - v))) = true := by
  rw [hard_key hv] at b
  have e1 : p * (v - 1 - v) = -p := by rw [show v - 1 - v = -1 by omega]; omega
  have e2 : p * (v + 1 - v) = p := by rw [show v + 1 - v = 1 by omega]; omega
  rw [e1, e2]
  rw [Bool.and_eq_false_iff] at b
  simp only [Bool.or_eq_false_iff, decide_eq_false_iff_not] at b
  simp only [Bool.and_eq_true, Bool.not_eq_true', decide_eq_false_iff_not, decide_eq_true_eq]
  rcases b with b | b
  · refine .inr ⟨?_, by omega⟩
    rw [h2]
    split
    · omega
    · split <;> omega
  · refine .inl ⟨?_, by omega⟩
    rw [h1]
    split
    · omega
    · split <;> omega
namespace Tm
theorem bad_no {t : Tm} {v p : Int} (lh : t.low ≤ t.high) (hf : t.Fr 30) (hst : t.soft = false → t.low ≤ v ∧ v ≤ t.high) (b : t.fitB v p = true) : ∀ x, t.bad v p x = false := by
  intro x
  cases x with
  | int o =>
    have ge := dist_ge (t := t) (o := o) lh
    cases t with
    | wish d l u f => exact decide_eq_false (soft_no (l := l) (u := u) lh hf.1 rfl ge.1 ge.2.1 ge.2.2 rfl b)
    | tie d o' l u f => exact decide_eq_false (soft_no (l := l) (u := u) lh hf.1 rfl ge.1 ge.2.1 ge.2.2 rfl b)
    | stop d l u => exact hard_no (l := l) (u := u) lh (hst rfl) b ge
    | bar d o' l u => exact hard_no (l := l) (u := u) lh (hst rfl) b ge
  | _ => rfl
theorem bad_yes {t : Tm} {v p : Int} (lh : t.low ≤ t.high) (hf : t.Fr 30) (hst : t.soft = false → t.low ≤ v ∧ v ≤ t.high) (b : t.fitB v p = false) : t.bad v p (.int (v - 1)) = true ∨ t.bad v p (.int (v + 1)) = true := by
  cases t with
  | wish d l u f => exact (soft_yes (l := l) (u := u) lh hf.1 rfl rfl rfl rfl b).imp decide_eq_true decide_eq_true
  | tie d o' l u f => exact (soft_yes (l := l) (u := u) lh hf.1 rfl rfl rfl rfl b).imp decide_eq_true decide_eq_true
  | stop d l u => exact hard_yes (l := l) (u := u) lh (hst rfl) b rfl rfl
  | bar d o' l u => exact hard_yes (l := l) (u := u) lh (hst rfl) b rfl rfl
end Tm
end DL
namespace DL
open PySem L2
/-! ### lists that grow -/
/-- an expression that makes a new list -/
def SF (B : Gr) (te : TE) (t : TDL) : Prop := ∀ (M : Addr → Prop) σ H ds Q (R : VK), Good M B H → EnvAt M B H σ ds → t ds Q →
  (∀ p xs l H1, Good M B H1 → Keep M B H H1 → H1 p = none → DtA M H1 xs l → Q l → R (.ref p) (upd H1 p (.lst xs))) → te σ H R
structure PDF (X : Cx) (B : Gr) (e : Expr) (te : TE) (t : TDL) : Prop where
  pe : PE X e te
  sf : SF B te t
section
variable {X : Cx} {B : Gr} {e a b : Expr} {es : List Expr} {te : TE} {ta tb : TA} {pos : Pos}
def fLst (t : TDL) : TDL := fun ds Q => t ds fun l => dSize l.length ∧ Q l
theorem df_lst {t : TDL} (h : PDL X B es ta t) : PDF X B (.List es pos) (tLst ta) (fLst t) :=
  ⟨pe_lst h.pa, fun M σ H ds Q R g en hq c => h.sl M σ H ds _ _ g en hq fun vs H1 l g1 k1 hl q1 => ⟨by rw [hl.length]; exact q1.1.le, fun p hp => c _ _ _ _ g1 k1 hp hl q1.2⟩⟩
theorem EnvAt.updG {M : Addr → Prop} {B : Gr} {H : Hp} {σ : L2.St} {ds : DEnv} {i : Nat} {a : Addr} {xs : List V} {l : List PyData} (en : EnvAt M B H σ ds) (ma : M a) (nb : a ≠ B) (f0 : B.H0 a = none) (hi : σ[i]? = some (some (.ref a))) (hx : DtA M H xs l)
    (inj : ∀ (j : Nat) l', ds[j]? = some (some (DV.grow l')) → σ[j]? = some (some (V.ref a)) → j = i) : EnvAt M B (upd H a (.lst xs)) σ (ds.set i (some (.grow l))) := by
  refine EnvAt.of (by rw [List.length_set]; exact en.length) fun j x hj => ?_
  by_cases z : i = j
  · subst z
    by_cases hl : i < ds.length
    · rw [List.getElem?_set_self hl] at hj
      cases hj
      exact ⟨_, hi, .grow ma nb f0 upd_same (hx.updD ma)⟩
    · rw [List.getElem?_eq_none (by rw [List.length_set]; omega)] at hj
      cases hj
  · rw [List.getElem?_set_ne z] at hj
    obtain ⟨v, hv, r⟩ := en.get j hj
    refine ⟨v, hv, ?_⟩
    cases r with
    | bag => exact .bag
    | dat r => exact .dat (r.updD ma)
    | exc r => exact .exc (r.map (stay_updD ma))
    | grow mb nb2 f2 eb hb => exact .grow mb nb2 f2 (by rw [upd_ne (fun w => z (inj j _ hj (by rw [← w]; exact hv)).symm)]; exact eb) (hb.updD ma)
/-- a new list goes to slot i -/
theorem ContE.new {M : Addr → Prop} {B : Gr} {H1 : Hp} {P : DEnv → Prop} {R : L2.St → Hp → Prop} {σ : L2.St} {ds : DEnv} {i : Nat} {p : Addr} {l : List PyData} {xs : List V} (c : ContE B M H1 P R) (e1 : Ent B M H1) (o1 : EnvO M B H1 σ ds)
    (hp : H1 p = none) (hl : DtA M H1 xs l) (q1 : P (ds.set i (some (.grow l)))) : R (σ.set i (some (.ref p))) (upd H1 p (.lst xs)) := by
    have g1 := e1.g
    have nB : p ≠ B := fun z => by
      obtain ⟨u, hu⟩ := g1.2.1 B g1.1
      rw [z, hu] at hp
      cases hp
    have h0 := g1.fresh0 hp
    refine c (wM M p) _ _ _ ⟨g1.addM hp⟩ (fun a u n ha => ⟨fun z => z.elim n (ne_of_none ha hp), by rw [upd_ne (ne_of_none ha hp)]; exact ha⟩) ?_ q1
    have ea : EnvAt (wM M p) B (upd H1 p (.lst xs)) σ ds := (o1.at_.addM hp).keep (.inl g1.1) (Keep.new hp)
    have old : ∀ (j : Nat) l', ds[j]? = some (some (DV.grow l')) → σ[j]? ≠ some (some (V.ref p)) := fun j l' hj hv => by
      obtain ⟨v, hv2, r⟩ := o1.at_.get j hj
      rw [hv] at hv2
      cases hv2
      cases r with
      | grow ma nb f e h =>
        rw [hp] at e
        cases e
    have lt : ∀ {l' : List PyData}, (ds.set i (some (DV.grow l)))[i]? = some (some (DV.grow l')) → i < ds.length := fun {l'} h => by
      by_cases z : i < ds.length
      · exact z
      · rw [List.getElem?_eq_none (by rw [List.length_set]; omega)] at h
        cases h
    refine ⟨EnvAt.set (.grow (.inr rfl) nB h0 upd_same ((hl.addM hp).keep (.inl g1.1) (Keep.new hp))) i ea, fun j l' a hj hv => ?_, fun j k l1 l2 a h1 h2 h3 h4 => ?_⟩
    · by_cases z : i = j
      · subst z
        rw [List.getElem?_set_self (by rw [ea.length]; exact lt hj)] at hv
        cases hv
        exact h0
      · rw [List.getElem?_set_ne z] at hj hv
        exact o1.own j l' a hj hv
    · by_cases z : i = j
      · by_cases z2 : i = k
        · rw [← z, ← z2]
        · subst z
          rw [List.getElem?_set_self (by rw [ea.length]; exact lt h1)] at h3
          cases h3
          rw [List.getElem?_set_ne z2] at h2 h4
          exact absurd h4 (old k _ h2)
      · by_cases z2 : i = k
        · subst z2
          rw [List.getElem?_set_self (by rw [ea.length]; exact lt h2)] at h4
          cases h4
          rw [List.getElem?_set_ne z] at h1 h3
          exact absurd h3 (old j _ h1)
        · rw [List.getElem?_set_ne z] at h1 h3
          rw [List.getElem?_set_ne z2] at h2 h4
          exact o1.inj j k l1 l2 a h1 h2 h3 h4
/-- x = a new list -/
def sNew (i : Nat) (t : TDL) : TDS := fun DD ds => t ds fun l => DD.nx (ds.set i (some (.grow l)))
theorem ds_new {i : Nat} {x : Str} {pos' : Pos} {t : TDL} (hN : X.N.Nodup) (hi : X.N[i]? = some x) (hx : Loc X.env.scope x) (he : PDF X B e te t) (hs : swapsWith e (some (.Name x pos')) pos.line X.env = pure false := by rfl) (hf : X.fn x = true ∨ X.env.scope.names.lookup x = some .local := by first | exact .inl rfl | exact .inr rfl | assumption) :
    PDS X B (.Assign [.Name x pos'] e pos) (tAsg te (gName i)) (sNew i t) := ⟨ps_set hN hi hx he.pe hs hf, fun M σ H ds DD D en o q c =>
    he.sf M σ H ds _ _ en.g o.at_ q fun p xs l H1 g1 k1 hp hl q1 =>
    (c.nx.stay (k1.stay en.g.1)).new (en.expr g1 k1) (o.expr en.g.1 k1) hp hl q1⟩
/-- x, y = data, a new list -/
def sParDN (i j : Nat) (d : TDE) (t : TDL) : TDS := fun DD ds => d ds fun x => t ds fun l => DD.nx ((ds.set i (some (.dat x))).set j (some (.grow l)))
theorem ds_parDN {i j : Nat} {x y : Str} {te2 : TE} {d : TDE} {t : TDL} {px py pt : Pos} {kt k2 pt2} (hc : X.calm = true) (hN : X.N.Nodup) (hi : X.N[i]? = some x) (hj : X.N[j]? = some y) (hij : i ≠ j)
    (hx : X.env.scope.names.lookup x = some .local) (hy : X.env.scope.names.lookup y = some .local) (ha : PD X B a te d) (hb : PDF X B b te2 t)
    (hw : swappedStores [.Tuple [.Name x px, .Name y py] kt pt] (.Tuple [a, b] k2 pt2) X.env = pure (some [x, y]))
    (hs : swapsWithSole [.Tuple [.Name x px, .Name y py] kt pt] (.Tuple [a, b] k2 pt2) pos.line X.env = pure false := by rfl)
    (h1 : starEach [a, b] X.env = (false, eval a X.env) :: starEach [b] X.env := by rfl) (h2 : starEach [b] X.env = (false, eval b X.env) :: starEach [] X.env := by rfl) :
    PDS X B (.Assign [.Tuple [.Name x px, .Name y py] kt pt] (.Tuple [a, b] k2 pt2) pos) (tPar i j (tCons te (tCons te2 tNil))) (sParDN i j d t) :=
  ⟨ps_par hc hN hi hj hij hx hy (pa_cons ha.pe (pa_cons hb.pe pa_nil h2) h1) hw hs, fun M σ H ds DD D en o q c =>
    ha.se M σ H ds _ _ en.g o.at_ q fun v H1 x g1 k1 hx q1 => hb.sf M σ H1 ds _ _ g1 (o.at_.keep en.g.1 k1) q1 fun p xs l H2 g2 k2 hp hl q2 => by
      have kk := k1.trans k2
      have o2 := o.expr en.g.1 kk
      exact ⟨_, _, rfl, (c.nx.stay (kk.stay en.g.1)).new (σ := σ.set i (some v)) (en.expr g2 kk) (o2.sub (EnvAt.set (.dat (hx.keep en.g.1 k2)) i o2.at_) Sub.set) hp hl q2⟩⟩
/-- a change of what grows at slot i -/
theorem ContE.grow {M : Addr → Prop} {B : Gr} {H : Hp} {P : DEnv → Prop} {R : L2.St → Hp → Prop} {σ : L2.St} {ds : DEnv} {i : Nat} {a : Addr} {l l' : List PyData} {xs : List V} (c : ContE B M H P R) (e : Ent B M H) (o : EnvO M B H σ ds)
    (hi : ds[i]? = some (some (.grow l))) (hv : σ[i]? = some (some (.ref a))) (ma : M a) (nb : a ≠ B) (hx : DtA M H xs l') (q : P (ds.set i (some (.grow l')))) : R σ (upd H a (.lst xs)) := by
  have h0 := o.own i l a hi hv
  have lt : i < ds.length := (List.getElem?_eq_some_iff.mp hi).1
  have same : ∀ (j : Nat) l', (ds.set i (some (DV.grow l')))[j]? = some (some (DV.grow l')) ∨ True := fun _ _ => .inr trivial
  refine c M σ _ _ ⟨e.g.updD ma nb h0⟩ (stay_updD ma) ⟨o.at_.updG ma nb h0 hv hx fun j l2 hj hs => o.inj j i l2 l a hj hi hs hv, fun j l2 b hj hs => ?_, fun j k l1 l2 b h1 h2 h3 h4 => ?_⟩ q
  · by_cases z : i = j
    · subst z
      rw [hv] at hs
      cases hs
      exact h0
    · rw [List.getElem?_set_ne z] at hj
      exact o.own j l2 b hj hs
  · have old : ∀ (j : Nat) l2, (ds.set i (some (DV.grow l')))[j]? = some (some (DV.grow l2)) → ∃ l3, ds[j]? = some (some (DV.grow l3)) := fun j l2 hj => by
      by_cases z : i = j
      · subst z
        exact ⟨l, hi⟩
      · rw [List.getElem?_set_ne z] at hj
        exact ⟨l2, hj⟩
    obtain ⟨m1, e1⟩ := old j l1 h1
    obtain ⟨m2, e2⟩ := old k l2 h2
    exact o.inj j k m1 m2 b e1 e2 h3 h4
/-- x.append(e) -/
def sApp (i : Nat) (t : TDE) : TDS := fun DD ds => match ds[i]? with
  | some (some (.grow l)) => t ds fun d => dSize (l.length + 1) ∧ DD.nx (ds.set i (some (.grow (l ++ [d]))))
  | _ => False
theorem grow_get {M : Addr → Prop} {B : Gr} {H : Hp} {σ : L2.St} {ds : DEnv} {i : Nat} {l : List PyData} (en : EnvAt M B H σ ds) (hi : ds[i]? = some (some (.grow l))) : ∃ a xs, σ[i]? = some (some (.ref a)) ∧ M a ∧ a ≠ B ∧ H a = some (.lst xs) ∧ DtA M H xs l := by
  obtain ⟨v, hv, r⟩ := en.get i hi
  cases r with
  | grow ma nb f e h => exact ⟨_, _, hv, ma, nb, e, h⟩
theorem ds_app {st : Stmt} {d : TDE} (i : Nat) (he : PD X B e te d) (hp : PE X e te → PS X st (tDrop (tBM X.K "list" rAppend (tVar i) (tCons te tNil)))) : PDS X B st (tDrop (tBM X.K "list" rAppend (tVar i) (tCons te tNil))) (sApp i d) :=
  ⟨hp he.pe, fun M σ H ds DD D en o q c => by
    unfold sApp at q
    split at q
    · rename_i l hl
      obtain ⟨a, xs, hv, ma, nb, ea, ha⟩ := grow_get o.at_ hl
      refine ⟨_, hv, .inl ⟨rfl, xs, SqL.of ea⟩, ?_⟩
      refine he.se M σ H ds _ _ en.g o.at_ q fun v H1 d g1 k1 hd q1 => ?_
      refine ⟨a, xs, v, rfl, rfl, k1.k a _ nb ea, ?_, ?_⟩
      · have hs : sizeLine = 16777216 := sizeLine_eq
        have h1 := ha.length
        have h2 : l.length + 1 ≤ 1000000 := q1.1
        omega
      · exact (c.nx.stay (k1.stay en.g.1)).grow (en.expr g1 k1) (o.expr en.g.1 k1) hl hv ma nb ((ha.keep en.g.1 k1).append (.cons hd .nil)) q1.2
    · exact q.elim⟩
/-- x[k] = e -/
def sPut (i : Nat) (tk t : TDE) : TDS := fun DD ds => match ds[i]? with
  | some (some (.grow l)) => t ds fun d => tk ds fun k => match k with
    | .int k => ∃ j, ixN l.length k = some j ∧ DD.nx (ds.set i (some (.grow (l.set j d))))
    | _ => False
  | _ => False
theorem DtA.set {M : Addr → Prop} {H : Hp} {v : V} {d : PyData} (h : Dt M H v d) : ∀ (j : Nat) {ds : List PyData} {vs : List V}, DtA M H vs ds → DtA M H (vs.set j v) (ds.set j d)
  | _, _, _, .nil => .nil
  | 0, _, _, .cons _ t => .cons h t
  | j + 1, _, _, .cons g t => .cons g (DtA.set h j t)
theorem ds_put {st : Stmt} {ek : Expr} {tk : TE} {d dk : TDE} (i : Nat) (he : PD X B e te d) (hk : PD X B ek tk dk) (hp : PE X e te → PE X ek tk → PS X st (tAsg te (gSub (tVar i) tk rSetL))) : PDS X B st (tAsg te (gSub (tVar i) tk rSetL)) (sPut i dk d) :=
  ⟨hp he.pe hk.pe, fun M σ H ds DD D en o q c => by
    unfold sPut at q
    split at q
    · rename_i l hl
      obtain ⟨a, xs, hv, ma, nb, ea, ha⟩ := grow_get o.at_ hl
      refine he.se M σ H ds _ _ en.g o.at_ q fun v H1 d g1 k1 hd q1 => ?_
      refine ⟨_, hv, ?_⟩
      refine hk.se M σ H1 ds _ _ g1 (o.at_.keep en.g.1 k1) q1 fun w H2 x g2 k2 hx q2 => ?_
      cases x <;> first | exact q2.elim | skip
      cases hx
      obtain ⟨j, hj, q3⟩ := q2
      have kk := k1.trans k2
      refine ⟨a, xs, _, j, rfl, rfl, kk.k a _ nb ea, by rw [ha.length]; exact hj, ?_⟩
      exact (c.nx.stay (kk.stay en.g.1)).grow (en.expr g2 kk) (o.expr en.g.1 kk) hl hv ma nb (DtA.set (hd.keep en.g.1 k2) j (ha.keep en.g.1 kk)) q3
    · exact q.elim⟩
/-- x[k] op= e, ints -/
def sAugP (i : Nat) (op : Int → Int → Int) (tk t : TDE) : TDS := fun DD ds => match ds[i]? with
  | some (some (.grow l)) => tk ds fun k => match k with
    | .int k => ∃ (j : Nat) (n : Int), k = j ∧ l[j]? = some (.int n) ∧ t ds fun y => match y with
      | .int m => DD.nx (ds.set i (some (.grow (l.set j (.int (op n m))))))
      | _ => False
    | _ => False
  | _ => False
theorem ds_augP {st : Stmt} {ek : Expr} {tk : TE} {d dk : TDE} {op : Int → Int → Int} (i : Nat) (he : PD X B e te d) (hk : PD X B ek tk dk) (hp : PE X e te → PE X ek tk → PS X st (tAugS (tVar i) tk te (rGetL X.K) (ipI op) rSetL)) :
    PDS X B st (tAugS (tVar i) tk te (rGetL X.K) (ipI op) rSetL) (sAugP i op dk d) :=
  ⟨hp he.pe hk.pe, fun M σ H ds DD D en o q c => by
    unfold sAugP at q
    split at q
    · rename_i l hl
      obtain ⟨a, xs, hv, ma, nb, ea, ha⟩ := grow_get o.at_ hl
      refine ⟨_, hv, ?_⟩
      refine hk.se M σ H ds _ _ en.g o.at_ q fun w H1 x g1 k1 hx q1 => ?_
      cases x <;> first | exact q1.elim | skip
      cases hx
      obtain ⟨j, n, rfl, hj, q2⟩ := q1
      have ha1 := ha.keep en.g.1 k1
      obtain ⟨v, hv1, r1⟩ := DtA.get j ha1 hj
      cases r1
      refine ⟨a, xs, _, j, rfl, rfl, SqL.of (k1.k a _ nb ea), hv1, ?_⟩
      refine he.se M σ H1 ds _ _ g1 (o.at_.keep en.g.1 k1) q2 fun u H2 y g2 k2 hy q3 => ?_
      cases y <;> first | exact q3.elim | skip
      cases hy
      have kk := k1.trans k2
      refine ⟨_, _, rfl, rfl, a, xs, _, j, rfl, rfl, kk.k a _ nb ea, ?_, ?_⟩
      · rw [ha.length]
        have := (List.getElem?_eq_some_iff.mp hj).1
        unfold L2.ixN
        rw [if_pos (Int.natCast_nonneg j)]
        simp [this]
      exact (c.nx.stay (kk.stay en.g.1)).grow (en.expr g2 kk) (o.expr en.g.1 kk) hl hv ma nb (DtA.set (.int _) j (ha.keep en.g.1 kk)) q3
    · exact q.elim⟩
/-- from here on the list at slot i stands still -/
def sFrz (i : Nat) (t : TDS) : TDS := fun DD ds => match ds[i]? with
  | some (some (.grow l)) => t DD (ds.set i (some (.dat (.list l))))
  | _ => False
theorem ds_frz {sts : List Stmt} {ts : TS} {t : TDS} (i : Nat) (h : PDSs X B sts ts t) : PDSs X B sts ts (sFrz i t) :=
  ⟨h.ps, fun M σ H ds DD D en o q c => by
    unfold sFrz at q
    split at q
    · rename_i l hl
      obtain ⟨a, xs, hv, ma, nb, ea, ha⟩ := grow_get o.at_ hl
      have h0 := o.own i l a hl hv
      have na : ∀ b, B.M0 b → b ≠ a := fun b hb z => en.g.own h0 (by rw [← z]; exact hb)
      have ls : Stay M H (lessA M a) H := Stay.less fun b z => z.1
      have lt : i < ds.length := (List.getElem?_eq_some_iff.mp hl).1
      have old : ∀ (j : Nat) l', (ds.set i (some (DV.dat (.list l))))[j]? = some (some (DV.grow l')) → ds[j]? = some (some (DV.grow l')) ∧ i ≠ j := fun j l' hj => by
        by_cases z : i = j
        · subst z
          rw [List.getElem?_set_self lt] at hj
          cases hj
        · rw [List.getElem?_set_ne z] at hj
          exact ⟨hj, z⟩
      refine h.ss (lessA M a) σ H _ DD D ⟨en.g.less (fun b z => z.1) fun b hb => ⟨en.g.d.sub b hb, na b hb⟩⟩ ⟨EnvAt.of (by rw [List.length_set]; exact o.at_.length) fun j x hx => ?_, fun j l' b hj hs => o.own j l' b (old j l' hj).1 hs, fun j k l1 l2 b h1 h2 h3 h4 => o.inj j k l1 l2 b (old j l1 h1).1 (old k l2 h2).1 h3 h4⟩ q (c.stay ls)
      by_cases z : i = j
      · subst z
        rw [List.getElem?_set_self lt] at hx
        cases hx
        exact ⟨_, hv, .dat (.lst (fun z => z.2 rfl) ea (ha.map ls))⟩
      · rw [List.getElem?_set_ne z] at hx
        obtain ⟨v, hv2, r⟩ := o.at_.get j hx
        refine ⟨v, hv2, r.lessA fun l' e w => ?_⟩
        subst e w
        exact z (o.inj i j l l' a hl hx hv hv2)
    · exact q.elim⟩
end
end DL
namespace DL
open PySem L2 PyProof.Rows
/-! ### sum, max, min of ints; zip; enumerate -/
def rSumT (K : PySem.W.Frag) : List V → Hp → VK → Prop := fun vs H Q => ∃ (a : Addr) (ns : List Int), vs = [V.ref a] ∧ SqT K H a (ns.map V.int) ∧ Q (.int ns.sum) H
theorem cr_sumT {X : Cx} (hc : X.calm = true) : CallR X (.builtin "sum") (rSumT X.K) := by
  intro pins s σ H vs us Q I r h
  obtain ⟨a, ns, rfl, hs, q⟩ := h
  obtain ⟨its, rv, p, _⟩ := I.tuple hs
  rw [Vals.ref1 r]
  have hi := rv.ints
  obtain ⟨xs, e⟩ := hi.allInts.items
  have hn : numsOf (intItems xs).toList = ns := by rw [← e]; exact hi.numsOf
  rw [nums_intItems] at hn
  have p' : s.heap.IsTuple a its.toArray := p
  rw [e] at p'
  refine PySem.W.ktm_sumG (I.ok.hd hc) p' fun h' tk t' hk => ?_
  rw [preSum_eq, List.take_of_length_le (by simp), hn]
  exact ⟨.int _, H, I.kept hk, ⟨_, rfl⟩, q⟩
theorem DtA.intsV {M : Addr → Prop} {H : Hp} : ∀ {ns : List Int} {vs : List V}, DtA M H vs (ns.map PyData.int) → vs = ns.map V.int
  | [], _, h => by cases h; rfl
  | n :: ns, _, h => by
    cases h with
    | cons h1 h2 =>
      cases h1
      rw [DtA.intsV h2]
      rfl
def rSumV (K : PySem.W.Frag) : List V → Hp → VK → Prop := fun xs H Q => rSum K xs H Q ∨ rSumT K xs H Q
theorem call_sumK {X : Cx} (K : PySem.W.Frag) (hc : X.calm = true) (hK : X.K = K := by rfl) : CallR X (.builtin "sum") (rSumV K) := by
  subst hK
  exact CallR.or2 (cr_sum hc) (cr_sumT hc)
theorem call_maxLK {X : Cx} (K : PySem.W.Frag) (hc : X.calm = true) (hK : X.K = K := by rfl) : CallR X (.builtin "max") (rMax K) := by
  subst hK
  exact cr_max hc
theorem call_minLK {X : Cx} (K : PySem.W.Frag) (hc : X.calm = true) (hK : X.K = K := by rfl) : CallR X (.builtin "min") (rMin K) := by
  subst hK
  exact cr_min hc
def cSum : DC := fun l Q => match l with
  | [.list a] => ∃ ns : List Int, a = ns.map .int ∧ Q (.int ns.sum)
  | [.tuple a] => ∃ ns : List Int, a = ns.map .int ∧ Q (.int ns.sum)
  | _ => False
theorem rdc_sum {B : Gr} {K : PySem.W.Frag} : RDC B (rSumV K) cSum := by
  intro M vs l H Q R g hl h c
  unfold cSum at h
  split at h
  · cases hl with
    | cons h1 t1 =>
      cases t1
      obtain ⟨ns, rfl, q⟩ := h
      cases h1 with
      | lst n e a => exact .inl ⟨_, ns, rfl, SqL.of (by rw [e, a.intsV]), c _ H _ g Keep.refl (.int _) q⟩
  · cases hl with
    | cons h1 t1 =>
      cases t1
      obtain ⟨ns, rfl, q⟩ := h
      cases h1 with
      | tup n e a => exact .inr ⟨_, ns, rfl, SqT.of (by rw [e, a.intsV]), c _ H _ g Keep.refl (.int _) q⟩
  · exact h.elim
def cMaxL : DC := fun l Q => match l with
  | [.list a] => ∃ ns : List Int, a = ns.map .int ∧ 0 < ns.length ∧ ∀ m, m ∈ ns → (∀ y ∈ ns, y ≤ m) → Q (.int m)
  | _ => False
def cMinL : DC := fun l Q => match l with
  | [.list a] => ∃ ns : List Int, a = ns.map .int ∧ 0 < ns.length ∧ ∀ m, m ∈ ns → (∀ y ∈ ns, m ≤ y) → Q (.int m)
  | _ => False
theorem rdc_maxL {B : Gr} {K : PySem.W.Frag} : RDC B (rMax K) cMaxL := by
  intro M vs l H Q R g hl h c
  unfold cMaxL at h
  split at h
  · cases hl with
    | cons h1 t1 =>
      cases t1
      obtain ⟨ns, rfl, n0, q⟩ := h
      cases h1 with
      | lst n e a => exact ⟨_, ns, rfl, SqL.of (by rw [e, a.intsV]), n0, fun m hm hy => c _ H _ g Keep.refl (.int _) (q m hm hy)⟩
  · exact h.elim
theorem rdc_minL {B : Gr} {K : PySem.W.Frag} : RDC B (rMin K) cMinL := by
  intro M vs l H Q R g hl h c
  unfold cMinL at h
  split at h
  · cases hl with
    | cons h1 t1 =>
      cases t1
      obtain ⟨ns, rfl, n0, q⟩ := h
      cases h1 with
      | lst n e a => exact ⟨_, ns, rfl, SqL.of (by rw [e, a.intsV]), n0, fun m hm hy => c _ H _ g Keep.refl (.int _) (q m hm hy)⟩
  · exact h.elim
def zipD (a b : List PyData) : List PyData := (a.zip b).map fun p => .tuple [p.1, p.2]
theorem zipD_len (a b : List PyData) : (zipD a b).length = min a.length b.length := by
  unfold zipD
  rw [List.length_map, List.length_zip]
theorem zipD_at {a b : List PyData} {i : Nat} {x y : PyData} (h1 : a[i]? = some x) (h2 : b[i]? = some y) : (zipD a b)[i]? = some (.tuple [x, y]) := by
  unfold zipD
  rw [List.getElem?_map, (List.getElem?_zip_eq_some (z := (x, y))).mpr ⟨h1, h2⟩]
  rfl
theorem it_zip {M : Addr → Prop} {B : Gr} {K : PySem.W.Frag} {H : Hp} {a b : Addr} {xs ys : List V} {l m : List PyData} (n : ¬ M a) (e : H a = some (.lst xs)) (h : DtA M H xs l) (n2 : ¬ M b) (e2 : H b = some (.lst ys)) (h2 : DtA M H ys m) : ItOk M B H (Itz K a b) (zipD l m) := fun M2 H2 g2 k i => by
  have ea := (k _ _ n e).2
  have eb := (k _ _ n2 e2).2
  rw [zipD_len]
  refine ⟨fun hi => ⟨xs, ys, SqL.of ea, SqL.of eb, by rw [h.length, h2.length]; omega⟩, fun hi => ?_⟩
  have l1 : i < l.length := by omega
  have l2 : i < m.length := by omega
  obtain ⟨v, hv, r⟩ := DtA.get i h (List.getElem?_eq_getElem l1)
  obtain ⟨u, hu, r2⟩ := DtA.get i h2 (List.getElem?_eq_getElem l2)
  refine ⟨⟨xs, ys, v, u, SqL.of ea, SqL.of eb, hv, hu⟩, fun x H3 ⟨T, x', y', ex, hT, eH, f1, f2⟩ => ?_⟩
  have q1 := f1 xs (SqL.of ea)
  rw [hv] at q1
  cases q1
  have q2 := f2 ys (SqL.of eb)
  rw [hu] at q2
  cases q2
  subst ex eH
  exact ⟨g2.new hT, Keep.new hT, _, zipD_at (List.getElem?_eq_getElem l1) (List.getElem?_eq_getElem l2), Dt.newT g2 hT (.cons (r.map k) (.cons (r2.map k) .nil))⟩
theorem it_zipT {M : Addr → Prop} {B : Gr} {K : PySem.W.Frag} {H : Hp} {a b : Addr} {xs ys : List V} {l m : List PyData} (n : ¬ M a) (e : H a = some (.tup xs)) (h : DtA M H xs l) (n2 : ¬ M b) (e2 : H b = some (.tup ys)) (h2 : DtA M H ys m) : ItOk M B H (RZ.ItzT K a b) (zipD l m) := fun M2 H2 g2 k i => by
  have ea := (k _ _ n e).2
  have eb := (k _ _ n2 e2).2
  rw [zipD_len]
  refine ⟨fun hi => ⟨xs, ys, SqT.of ea, SqT.of eb, by rw [h.length, h2.length]; omega⟩, fun hi => ?_⟩
  have l1 : i < l.length := by omega
  have l2 : i < m.length := by omega
  obtain ⟨v, hv, r⟩ := DtA.get i h (List.getElem?_eq_getElem l1)
  obtain ⟨u, hu, r2⟩ := DtA.get i h2 (List.getElem?_eq_getElem l2)
  refine ⟨⟨xs, ys, v, u, SqT.of ea, SqT.of eb, hv, hu⟩, fun x H3 ⟨T, x', y', ex, hT, eH, f1, f2⟩ => ?_⟩
  have q1 := f1 xs (SqT.of ea)
  rw [hv] at q1
  cases q1
  have q2 := f2 ys (SqT.of eb)
  rw [hu] at q2
  cases q2
  subst ex eH
  exact ⟨g2.new hT, Keep.new hT, _, zipD_at (List.getElem?_eq_getElem l1) (List.getElem?_eq_getElem l2), Dt.newT g2 hT (.cons (r.map k) (.cons (r2.map k) .nil))⟩
def diZip (t : TDL) : TDL := fun ds Q => t ds fun l => match l with
  | [.list a, .list b] => dSize a.length ∧ Q (zipD a b)
  | [.tuple a, .tuple b] => dSize a.length ∧ Q (zipD a b)
  | _ => False
theorem di_zip (K : PySem.W.Frag) {X : Cx} {B : Gr} {e e2 : Expr} {ta : TA} {p pos tpos : Pos} {elts : List Expr} {kk : Nat} {l : TDL} (hg : Gl X "zip") (hm : X.mg "zip" = none) (ha : PDL X B [e, e2] ta l)
    (hs : starEach [e, e2] X.env = (false, eval e X.env) :: starEach [e2] X.env := by rfl) (hpl : (backTo pos (starEach [e2] X.env)).any (·.1) = false := by rfl) (hK : X.K = K := by rfl) :
    PDI X B (.Tuple elts kk tpos) (.Call (.Name "zip" p) [e, e2] [] pos) (RZ.iZipA K ta) (diZip l) := by
  subst hK
  refine ⟨RZ.pi_zipA hg hm ha.pa hs hpl, fun M σ H ds Q R g en q c => ha.sl M σ H ds _ _ g en q fun vs H1 l' g1 k1 hl q1 => ?_⟩
  split at q1
  · cases hl with
    | cons h1 t1 => cases t1 with
      | cons h2 t2 =>
        cases t2
        cases h1 with
        | lst n e a =>
          cases h2 with
          | lst n2 e2 a2 => exact ⟨_, _, _, _, rfl, .inl ⟨SqL.of e, SqL.of e2, c _ H1 _ g1 k1 (it_zip n e a n2 e2 a2) (by rw [zipD_len]; exact Nat.le_trans (Nat.min_le_left _ _) q1.1.le) q1.2⟩⟩
  · cases hl with
    | cons h1 t1 => cases t1 with
      | cons h2 t2 =>
        cases t2
        cases h1 with
        | tup n e a =>
          cases h2 with
          | tup n2 e2 a2 => exact ⟨_, _, _, _, rfl, .inr ⟨SqT.of e, SqT.of e2, c _ H1 _ g1 k1 (it_zipT n e a n2 e2 a2) (by rw [zipD_len]; exact Nat.le_trans (Nat.min_le_left _ _) q1.1.le) q1.2⟩⟩
  · exact q1.elim
def enumD (l : List PyData) : List PyData := zipD (rangeD 0 l.length) l
theorem rangeD_at {lo : Int} {n i : Nat} (h : i < n) : (rangeD lo n)[i]? = some (.int (lo + (i : Int))) := by
  unfold rangeD
  rw [List.getElem?_map, List.getElem?_range h]
  rfl
theorem enumD_at {l : List PyData} {i : Nat} {x : PyData} (h : l[i]? = some x) : (enumD l)[i]? = some (.tuple [.int i, x]) := by
  have hi := (List.getElem?_eq_some_iff.mp h).1
  have := zipD_at (rangeD_at (lo := 0) hi) h
  rw [Int.zero_add] at this
  exact this
theorem enumD_len (l : List PyData) : (enumD l).length = l.length := by
  unfold enumD
  rw [zipD_len, rangeD_len, Nat.min_self]
/-! ### loops by places, comprehensions by a map -/
theorem forW_at {g : TDG} {b : TDS} {DD : DEnds} {l : List PyData} (I : Nat → DEnv → Prop) (turn : ∀ (i : Nat) (x : PyData) (N : DEnv → Prop) (ds : DEnv), l[i]? = some x → I i ds → (∀ ds', I (i + 1) ds' → N ds') → g x ds fun ds' => b { nx := N, rt := DD.rt, bk := DD.nx, ct := N } ds')
    (fin : ∀ ds, I l.length ds → DD.nx ds) {ds : DEnv} (h : I 0 ds) : forW g b DD l ds := by
  have key : ∀ (r : List PyData) (k : Nat) (ds : DEnv), l.drop k = r → k ≤ l.length → I k ds → forW g b DD r ds := by
    intro r
    induction r with
    | nil =>
      intro k ds hd hk hI
      have : k = l.length := by
        have := List.drop_eq_nil_iff.mp hd
        omega
      subst this
      exact fin ds hI
    | cons x r ih =>
      intro k ds hd hk hI
      have hlt : k < l.length := by
        rcases Nat.lt_or_ge k l.length with z | z
        · exact z
        · rw [List.drop_eq_nil_of_le z] at hd
          cases hd
      have hx : l[k]? = some x := by
        have := congrArg (fun z => z[0]?) hd
        simpa using this
      have hr : l.drop (k + 1) = r := by
        have e := List.drop_eq_getElem_cons hlt
        rw [hd] at e
        injection e with _ e2
        exact e2.symm
      exact turn k x _ ds hx hI fun ds' h' => ih (k + 1) ds' hr hlt h'
  exact key l 0 ds rfl (Nat.zero_le _) h
theorem forW_range {g : TDG} {b : TDS} {DD : DEnds} {lo : Int} {n : Nat} (I : Nat → DEnv → Prop) (turn : ∀ (i : Nat) (N : DEnv → Prop) (ds : DEnv), i < n → I i ds → (∀ ds', I (i + 1) ds' → N ds') → g (.int (lo + (i : Int))) ds fun ds' => b { nx := N, rt := DD.rt, bk := DD.nx, ct := N } ds')
    (fin : ∀ ds, I n ds → DD.nx ds) {ds : DEnv} (h : I 0 ds) : forW g b DD (rangeD lo n) ds :=
  forW_at I (fun i x N ds hx hI hN => by
    have hi : i < n := by
      have := (List.getElem?_eq_some_iff.mp hx).1
      rw [rangeD_len] at this
      exact this
    rw [rangeD_at hi] at hx
    cases hx
    exact turn i N ds hi hI hN) (fun ds hI => fin ds (by rw [rangeD_len] at hI; exact hI)) h
theorem lcW_map {g : TDG} {te : TDE} {ds : DEnv} (F : PyData → PyData) : ∀ (l acc : List PyData) (Q : PyData → Prop), (∀ x ∈ l, ∀ (N : PyData → Prop), N (F x) → g x ds fun ds' => te ds' N) → Q (.list (acc ++ l.map F)) → lcW g dYes te ds l acc Q
  | [], acc, Q, _, hq => by
    rw [List.map_nil, List.append_nil] at hq
    exact hq
  | x :: l, acc, Q, h, hq => by
    have e : lcW g dYes te ds (x :: l) acc Q = g x ds fun ds' => (true = true → te ds' fun y => lcW g dYes te ds l (acc ++ [y]) Q) ∧ (true = false → lcW g dYes te ds l acc Q) := rfl
    rw [e]
    have e2 : (fun ds' => (true = true → te ds' fun y => lcW g dYes te ds l (acc ++ [y]) Q) ∧ (true = false → lcW g dYes te ds l acc Q)) = fun ds' => te ds' fun y => lcW g dYes te ds l (acc ++ [y]) Q := by
      funext ds'
      simp
    rw [e2]
    refine h x (List.mem_cons_self ..) _ (lcW_map F l (acc ++ [F x]) Q (fun z hz => h z (List.mem_cons_of_mem _ hz)) ?_)
    rw [List.append_assoc]
    exact hq
/-- with a test -/
theorem lcW_filter {g : TDG} {tt : TDT} {te : TDE} {ds : DEnv} (p : PyData → Bool) (F : PyData → PyData) : ∀ (l acc : List PyData) (Q : PyData → Prop),
    (∀ x ∈ l, ∀ (N1 N2 : Prop) (N : PyData → Prop), (p x = true → N (F x)) → (p x = false → N2) → g x ds fun ds' => tt ds' fun b => (b = true → te ds' N) ∧ (b = false → N2)) → Q (.list (acc ++ (l.filter p).map F)) → lcW g tt te ds l acc Q
  | [], acc, Q, _, hq => by
    rw [List.filter_nil, List.map_nil, List.append_nil] at hq
    exact hq
  | x :: l, acc, Q, h, hq => by
    have e : lcW g tt te ds (x :: l) acc Q = g x ds fun ds' => tt ds' fun b => (b = true → te ds' fun y => lcW g tt te ds l (acc ++ [y]) Q) ∧ (b = false → lcW g tt te ds l acc Q) := rfl
    rw [e]
    have hl := fun z hz => h z (List.mem_cons_of_mem x hz)
    refine h x (List.mem_cons_self ..) True _ _ (fun hp => ?_) fun hp => ?_
    · refine lcW_filter p F l (acc ++ [F x]) Q hl ?_
      rw [List.filter_cons_of_pos hp, List.map_cons] at hq
      rw [List.append_assoc]
      exact hq
    · refine lcW_filter p F l acc Q hl ?_
      rw [List.filter_cons_of_neg (by rw [hp]; exact Bool.false_ne_true)] at hq
      exact hq
theorem lt_big2 {m : Int} (h : m < 10 ^ 200) : m < 2 ^ 1000 := by
  have e : ((2 : Int) ^ 1000) = (((2 : Nat) ^ 1000 : Nat) : Int) := by rfl
  have e1 : (10 : Int) ^ 200 = ((10 ^ 200 : Nat) : Int) := by rfl
  have l : (10 : Nat) ^ 200 < 2 ^ 1000 := by decide +kernel
  rw [e]
  rw [e1] at h
  generalize (2 : Nat) ^ 1000 = b at *
  generalize (10 : Nat) ^ 200 = a at *
  omega
/-- the greatest of some -/
def IsMax (ns : List Int) (m : Int) : Prop := m ∈ ns ∧ ∀ y ∈ ns, y ≤ m
theorem IsMax.uniq {ns : List Int} {a b : Int} (h : IsMax ns a) (g : IsMax ns b) : a = b := Int.le_antisymm (g.2 a h.1) (h.2 b g.1)

theorem dg_tup2 (K : PySem.W.Frag) {X : Cx} {B : Gr} {x y : Str} {p1 p2 pos : Pos} {k : Nat} (i j : Nat) (hc : X.calm = true) (hN : X.N.Nodup) (hi : X.N[i]? = some x) (hj : X.N[j]? = some y) (hx : Loc X.env.scope x) (hy : Loc X.env.scope y)
    (hf : X.fn x = true ∨ X.env.scope.names.lookup x = some .local) (hf2 : X.fn y = true ∨ X.env.scope.names.lookup y = some .local) (hK : X.K = K := by rfl) :
    PDG X B (.Tuple [.Name x p1, .Name y p2] k pos) ([i] ++ ([j] ++ [])) (gTup K 2 (gCons (gName i) (gCons (gName j) gNil))) (dgTup 2 (dgCons (dgName i) (dgCons (dgName j) dgNil))) := by
  subst hK
  exact dg_tup hc (dgs_consA (dg_name hN hi hx hf) (dgs_consA (dg_name hN hj hy hf2) dgs_nil))
end DL
namespace DL
open PySem PySem.Spec L2 PyProof.Rows
/-! ### methods, makings and properties where nothing guards a repr -/
def tMethG (C : Addr) (m : Str) (sp : Sp) (ta : TE) (t : TA) : TE := fun σ H Q => ta σ H fun x H1 => ∃ a dx fs, x = .ref a ∧ H1 a = some (.ins C dx fs) ∧ fs.lookup m = none ∧ t σ H1 fun vs H2 => sp (x :: vs) H2 Q E0
def tMakeG (C : Addr) (sp : Sp) (t : TA) : TE := fun σ H Q => t σ H fun vs H1 => ∀ x dx, H1 x = none → H1 dx = none → dx ≠ x → sp (.ref x :: vs) (upd (upd H1 dx (.own x)) x (.ins C dx [])) (fun v H2 => v = .non ∧ Q (.ref x) H2) E0
def tPropG (C : Addr) (sp : Sp) (ta : TE) : TE := fun σ H Q => ta σ H fun x H1 => ∃ a dx fs, x = .ref a ∧ H1 a = some (.ins C dx fs) ∧ sp [.ref a] H1 Q E0
section
variable {X : Cx} {k : Nat} {f C g : Addr} {fd : FuncData} {ps : List Str} {sp : Sp} {x m : Str} {p pos apos : Pos} {e o : Expr} {es : List Expr} {ta : TE} {t : TA}
/-- how many are handed in -/
theorem FnG.args {vs : List V} {us : List Value} {H : Hp} {Q : VK} (F : FnG X.prog X.w X.K X.mg X.base k f fd ps sp) (h : sp vs H Q E0) (r : Vals vs us) : us.length = ps.length := (r.length.symm).trans (F.len _ _ _ _ h)
/-- the method's own call behind its receiver and its arguments -/
abbrev CallForm (o : Expr) (m : Str) (apos pos : Pos) (as : List Expr) (env : Env) (pl : Sem Bool) : Prop :=
  eval (.Call (.Attribute o m apos) as [] pos) env = (do
    let r ← eval o env
    standAt apos.atName
    let b ← holding [r] (getMethod r m pl)
    callWith pos b.1 b.2 (backTo pos (starEach as env)) (backToKw pos (keywordEach [] env)))
theorem pe_methG {pl : Sem Bool} (he : PE X o ta) (c : Cls X.K C) (hm : Meth X.K C m f) (F : FnG X.prog X.w X.K X.mg X.base k f fd ps sp) (hG : X.A.guards = some []) (hr : Room k X.A) (hb : Binds X.K fd ps []) (ha : PA X (e :: es) t)
    (hst : starEach (e :: es) X.env = (false, eval e X.env) :: starEach es X.env := by rfl) (hpl : (backTo pos (starEach es X.env)).any (·.1) = false := by rfl)
    (ht : CallForm o m apos pos (e :: es) X.env pl := by rfl) :
    PE X (.Call (.Attribute o m apos) (e :: es) [] pos) (tMethG C m sp ta t) := by
  constructor
  intro pins s σ H Q I h
  apply PySem.W.methodCall_KW (pl := pl) _ ht
  refine thn (he.run pins s σ H _ I h) ?_
  rintro u s1 ⟨x, H1, I1, rx, a, dx, fs, rfl, ea, l, hq⟩
  cases rx
  apply getmeth_ok I1 ea c hm l
  apply PySem.W.callWith_K (first := [.ref a]) (h₀ := X.base) I.ok.mod.kin hm.kp _ hst hpl
  refine thn (ha.run pos pins s1 σ H1 _ I1 hq) ?_
  rintro us s2 ⟨vs, H2, I2, r, hq2⟩
  exact ⟨I2.kIn, run_fnG (us := .ref a :: us) (vs := .ref a :: vs) F hG hr hb I2 (.cons rfl r) hq2⟩
theorem pe_methG0 {pl : Sem Bool} (he : PE X o ta) (c : Cls X.K C) (hm : Meth X.K C m f) (F : FnG X.prog X.w X.K X.mg X.base k f fd ps sp) (hG : X.A.guards = some []) (hr : Room k X.A) (hb : Binds X.K fd ps [])
    (ht : CallForm o m apos pos [] X.env pl := by rfl) : PE X (.Call (.Attribute o m apos) [] [] pos) (tMethG C m sp ta tNil) := by
  constructor
  intro pins s σ H Q I h
  apply PySem.W.methodCall_KW (pl := pl) _ ht
  refine thn (he.run pins s σ H _ I h) ?_
  rintro u s1 ⟨x, H1, I1, rx, a, dx, fs, rfl, ea, l, hq⟩
  cases rx
  apply getmeth_ok I1 ea c hm l
  have go := run_fnG (us := [.ref a]) (vs := [.ref a]) F hG hr hb I1 (.cons rfl .nil) hq
  exact PySem.W.callWith_K0 (first := [.ref a]) I1.kIn hm.kp go
/-- a new instance, then its __init__ -/
theorem made_G {pins : List (Addr × Obj)} {σ : L2.St} {H : Hp} {s : Shared} {Q : VK} {us : List Value} {vs : List V} (M : Mk X.K C f) (F : FnG X.prog X.w X.K X.mg X.base k f fd ps sp) (hG : X.A.guards = some []) (hr : Room (k + 1) X.A) (hb : Binds X.K fd ps [])
    (I : Inv X pins σ H s) (r : Vals vs us) (h : ∀ y dx, H y = none → H dx = none → dx ≠ y → sp (.ref y :: vs) (upd (upd H dx (.own y)) y (.ins C dx [])) (fun v H2 => v = .non ∧ Q (.ref y) H2) E0) :
    wpAny (model X.prog X.w) X.A (call (.ref C) us) (EP X pins σ Q) X.xe s := by
  obtain ⟨n, hn⟩ : ∃ n, n = s.heap.objs.size := ⟨_, rfl⟩
  have want := h (n + 1) n (by rw [hn]; exact I.hok.fresh (Nat.le_succ _)) (by rw [hn]; exact I.hok.fresh (Nat.le_refl _)) (Nat.ne_of_lt (Nat.lt_succ_self n))
  subst hn
  have J := Inv.made (C := C) I
  have rr : Vals (V.ref (s.heap.objs.size + 1) :: vs) (Value.ref (s.heap.objs.size + 1) :: us) := .cons rfl r
  have bind := hb _ (Value.ref (s.heap.objs.size + 1) :: us) J.kIn (by rw [List.append_nil]; exact F.args want rr)
  rw [List.append_nil] at bind
  have body := F.run (X.A.under (.builtin "type.__call__" ⟨.ref C :: us, []⟩)) X.stack _ _ ⟨_, []⟩ _ _ _ hG (hr.make C us []) (J.env0.make C us []) bind rr want
  apply wpAny_call
  refine make_map (f := f) I.kIn M.makes M.init (beq_iff_eq.mp M.fn) (codeAny_mono body ?_)
  rintro (er | fl) s' z
  · exact z.elim
  · cases fl <;> first | exact False.elim z | skip
    obtain ⟨v, H', I3, rv, rfl, q3⟩ := J.after z
    exact ⟨rv, V.ref (s.heap.objs.size + 1), H', I3, rfl, q3⟩
theorem pe_makeG (M : Mk X.K C f) (F : FnG X.prog X.w X.K X.mg X.base k f fd ps sp) (hG : X.A.guards = some []) (hr : Room (k + 1) X.A) (hb : Binds X.K fd ps []) (hm : X.mg x = some (.ref C)) (hg : Gl X x)
    (ha : PA X (e :: es) t) (hdb : (x == ("__debug__" : Str)) = false := by decide) (he : starEach (e :: es) X.env = (false, eval e X.env) :: starEach es X.env := by rfl) (hpl : (backTo pos (starEach es X.env)).any (·.1) = false := by rfl) :
    PE X (.Call (.Name x p) (e :: es) [] pos) (tMakeG C sp t) := by
  constructor
  intro pins s σ H Q I h
  apply wpAny_Call_Name_kw
  apply ld_glob I hg hm _ hdb
  apply PySem.W.callWith_K (h₀ := X.base) I.ok.mod.kin M.kp _ he hpl
  refine thn (ha.run pos pins s σ H _ I h) ?_
  rintro us s1 ⟨vs, H1, I1, r, hq⟩
  exact ⟨I1.kIn, made_G M F hG hr hb I1 r hq⟩
theorem pe_propG {pr : Addr} {nm : Str} (he : PE X e ta) (c : Cls X.K C) (hp : PropOf X.K C nm pr g) (F : FnG X.prog X.w X.K X.mg X.base k g fd ps sp) (hG : X.A.guards = some []) (hr : Room (k + 1) X.A) (hb : Binds X.K fd ps [])
    (hab : attributeBase e nm X.env (eval e X.env) = eval e X.env := by rfl) : PE X (.Attribute e nm pos) (tPropG C sp ta) := by
  constructor
  intro pins s σ H Q I h
  refine attr_of hab (thn (he.run pins s σ H _ I h) ?_)
  rintro u s1 ⟨x, H1, I1, rx, a, dx, fs, rfl, ea, hq⟩
  cases rx
  obtain ⟨_, O, -⟩ := ins_get I1.hok ea
  obtain ⟨_, J, -⟩ := O.look
  obtain ⟨rest, hrec⟩ := hp.rec_
  obtain ⟨cd, isc, -⟩ := PySem.W.any_some c.hd
  have plain := PySem.W.plainGet_of (c.get nm)
  have J2 := I1.tok (s1.toks + 1)
  have one : Vals [V.ref a] [Value.ref a] := .cons rfl .nil
  have bind := hb _ [.ref a] J2.kIn (by rw [List.append_nil]; exact F.args hq one)
  rw [List.append_nil] at bind
  have body := F.run X.A.in1 X.stack _ H1 ⟨[.ref a], []⟩ _ _ Q hG hr.in1 J2.env0.in1 bind one hq
  refine PySem.W.get_bind I1.kIn J plain.1 (PySem.W.findObj_data (by rw [isc]; rfl) hp.at_ hp.get hp.tak) plain.2 (wpAny_call (PySem.W.prop_get (s := { s1 with toks := s1.toks + 1 }) I1.kIn hrec (codeAny_mono body ?_)))
  rintro (er | fl) s' z
  · exact False.elim z
  · cases fl <;> first | exact False.elim z | skip
    rename_i u
    obtain ⟨v, H', I3, rv, q3⟩ := J2.after z
    show wpAny _ _ (handedOut u) _ _ _
    rw [PySem.W.handedOut_of (handed_of rv)]
    exact wpAny_pure ⟨v, H', I3, rv, q3⟩
end
end DL
namespace DL
open PySem L2 PyProof.Rows
/-! ### boards as data: fields, methods, the property, the making -/
theorem ne_ts : (("_terms" : Str) == ("_size" : Str)) = false := by decide +kernel
theorem lk_size {v u : V} : ([(("_size" : Str), v), (("_terms" : Str), u)] : List (Str × V)).lookup ("_size" : Str) = some v := by
  simp [List.lookup]
theorem lk_terms {v u : V} : ([(("_size" : Str), v), (("_terms" : Str), u)] : List (Str × V)).lookup ("_terms" : Str) = some u := by
  simp [List.lookup, ne_ts]
theorem lk_no {v u : V} {m : Str} (h : (m == ("_size" : Str)) = false) (h2 : (m == ("_terms" : Str)) = false) : ([(("_size" : Str), v), (("_terms" : Str), u)] : List (Str × V)).lookup m = none := by
  simp [List.lookup, h, h2]
def dFldS (C : Addr) (t : TDE) : TDE := fun ds Q => t ds fun d => ∃ n l, d = brdD C n l ∧ Q (.int n)
def dFldT (C : Addr) (t : TDE) : TDE := fun ds Q => t ds fun d => ∃ n l, d = brdD C n l ∧ Q (.list l)
def dMeth (C : Addr) (R : DR) (t : TDE) (ta : TDA) : TDE := fun ds Q => t ds fun d => ∃ n l, d = brdD C n l ∧ ta ds fun xs => R (.dat (brdD C n l) :: xs) Q
def dProp (C : Addr) (R : DR) (t : TDE) : TDE := fun ds Q => t ds fun d => ∃ n l, d = brdD C n l ∧ R [.dat (brdD C n l)] Q
section
variable {X : Cx} {B : Gr} {k : Nat} {f C : Addr} {fd : FuncData} {ps : List Str} {R : DR} {x m : Str} {p pos apos : Pos} {e o : Expr} {es : List Expr} {te : TE} {t : TA} {d : TDE} {da : TDA}
theorem d_fldS (K : PySem.W.Frag) (cl : Cls K C) (na : NoAttr K C "_size") (he : PD X B e te d) (hb : attributeBase e "_size" X.env (eval e X.env) = eval e X.env := by rfl) (hK : X.K = K := by rfl) : PD X B (.Attribute e "_size" pos) (tFld K te "_size") (dFldS C d) := by
  subst hK
  refine ⟨pe_fld he.pe hb, fun M σ H ds Q R g en q c => he.se M σ H ds _ _ g en q fun v H1 d1 g1 k1 hd q1 => ?_⟩
  obtain ⟨n, l, rfl, q2⟩ := q1
  cases hd with
  | brd n1 n2 e1 e2 n3 e3 a => exact ⟨_, C, _, _, _, rfl, e1, cl, na, lk_size, c _ H1 _ g1 k1 (.int _) q2⟩
theorem d_fldT (K : PySem.W.Frag) (cl : Cls K C) (na : NoAttr K C "_terms") (he : PD X B e te d) (hb : attributeBase e "_terms" X.env (eval e X.env) = eval e X.env := by rfl) (hK : X.K = K := by rfl) : PD X B (.Attribute e "_terms" pos) (tFld K te "_terms") (dFldT C d) := by
  subst hK
  refine ⟨pe_fld he.pe hb, fun M σ H ds Q R g en q c => he.se M σ H ds _ _ g en q fun v H1 d1 g1 k1 hd q1 => ?_⟩
  obtain ⟨n, l, rfl, q2⟩ := q1
  cases hd with
  | brd n1 n2 e1 e2 n3 e3 a => exact ⟨_, C, _, _, _, rfl, e1, cl, na, lk_terms, c _ H1 _ g1 k1 (.lst n3 e3 a) q2⟩
theorem d_meth {pl : Sem Bool} (cl : Cls X.K C) (hm : Meth X.K C m f) (F : FnG X.prog X.w X.K X.mg X.base k f fd ps (spD R)) (hG : X.A.guards = some []) (hr : Room k X.A) (hb : Binds X.K fd ps []) (he : PD X B o te d) (ha : PDA X B (e :: es) t da)
    (h1 : (m == ("_size" : Str)) = false := by decide +kernel) (h2 : (m == ("_terms" : Str)) = false := by decide +kernel)
    (hst : starEach (e :: es) X.env = (false, eval e X.env) :: starEach es X.env := by rfl) (hpl : (backTo pos (starEach es X.env)).any (·.1) = false := by rfl)
    (ht : CallForm o m apos pos (e :: es) X.env pl := by rfl) :
    PD X B (.Call (.Attribute o m apos) (e :: es) [] pos) (tMethG C m (spD R) te t) (dMeth C R d da) :=
  ⟨pe_methG (pl := pl) he.pe cl hm F hG hr hb ha.pa hst hpl ht, fun M σ H ds Q W g en q c => he.se M σ H ds _ _ g en q fun v H1 d1 g1 k1 hd q1 => by
    obtain ⟨n, l, rfl, q2⟩ := q1
    have hd' := hd
    cases hd with
    | brd n1 n2 e1 e2 n3 e3 a =>
      refine ⟨_, _, _, rfl, e1, lk_no h1 h2, ha.sa M σ H1 ds _ _ g1 (en.keep g.1 k1) q2 fun vs H2 xs g2 k2 a2 q3 => ?_⟩
      exact ⟨M, B, _, Q, .cons (.dat (hd'.keep g1.1 k2)) (fun _ z => nomatch z) a2, g2, q3, c.keep (k1.trans k2)⟩⟩
theorem d_meth0 {pl : Sem Bool} (cl : Cls X.K C) (hm : Meth X.K C m f) (F : FnG X.prog X.w X.K X.mg X.base k f fd ps (spD R)) (hG : X.A.guards = some []) (hr : Room k X.A) (hb : Binds X.K fd ps []) (he : PD X B o te d)
    (h1 : (m == ("_size" : Str)) = false := by decide +kernel) (h2 : (m == ("_terms" : Str)) = false := by decide +kernel)
    (ht : CallForm o m apos pos [] X.env pl := by rfl) :
    PD X B (.Call (.Attribute o m apos) [] [] pos) (tMethG C m (spD R) te tNil) (dProp C R d) :=
  ⟨pe_methG0 (pl := pl) he.pe cl hm F hG hr hb ht, fun M σ H ds Q W g en q c => he.se M σ H ds _ _ g en q fun v H1 d1 g1 k1 hd q1 => by
    obtain ⟨n, l, rfl, q2⟩ := q1
    have hd' := hd
    cases hd with
    | brd n1 n2 e1 e2 n3 e3 a => exact ⟨_, _, _, rfl, e1, lk_no h1 h2, M, B, _, Q, .cons (.dat hd') (fun _ z => nomatch z) .nil, g1, q2, c.keep k1⟩⟩
theorem d_prop {pr : Addr} {nm : Str} (cl : Cls X.K C) (hp : PropOf X.K C nm pr f) (F : FnG X.prog X.w X.K X.mg X.base k f fd ps (spD R)) (hG : X.A.guards = some []) (hr : Room (k + 1) X.A) (hb : Binds X.K fd ps []) (he : PD X B e te d)
    (hab : attributeBase e nm X.env (eval e X.env) = eval e X.env := by rfl) : PD X B (.Attribute e nm pos) (tPropG C (spD R) te) (dProp C R d) :=
  ⟨pe_propG he.pe cl hp F hG hr hb hab, fun M σ H ds Q W g en q c => he.se M σ H ds _ _ g en q fun v H1 d1 g1 k1 hd q1 => by
    obtain ⟨n, l, rfl, q2⟩ := q1
    have hd' := hd
    cases hd with
    | brd n1 n2 e1 e2 n3 e3 a => exact ⟨_, _, _, rfl, e1, M, B, _, Q, .cons (.dat hd') (fun _ z => nomatch z) .nil, g1, q2, c.keep k1⟩⟩
/-- what __init__ promises of a size and a list of terms that a board may have -/
def spInit (C : Addr) (ok : Int → List PyData → Prop) : Sp := fun vs H Q _ => ∃ (M : Addr → Prop) (B : Gr) (x dx : Addr) (vt : V) (n : Int) (l : List PyData), vs = [.ref x, .int n, vt] ∧ Good M B H ∧ (B.H0 x = none ∧ B.H1 x = none) ∧ ¬ M x ∧ ¬ M dx ∧ x ≠ dx ∧ H x = some (.ins C dx []) ∧ H dx = some (.own x) ∧ Dt M H vt (.list l) ∧ ok n l ∧
  ∀ a xs H', Good M B H' → (∀ (b : Addr) o, b ≠ B.a → b ≠ x → H b = some o → H' b = some o) → (∀ q, bagq B.a H = some q → bagq B.a H' = some q) → H' x = some (.ins C dx [("_size", .int n), ("_terms", .ref a)]) → ¬ M a → H' a = some (.lst xs) → DtA M H' xs l → Q .non H'
def dMake (C : Addr) (ok : Int → List PyData → Prop) (t : TDL) : TDE := fun ds Q => t ds fun l => match l with
  | [.int n, .list ts] => ok n ts ∧ Q (brdD C n ts)
  | _ => False
theorem d_make {ok : Int → List PyData → Prop} {l : TDL} (Mk' : Mk X.K C f) (F : FnG X.prog X.w X.K X.mg X.base k f fd ps (spInit C ok)) (hG : X.A.guards = some []) (hr : Room (k + 1) X.A) (hb : Binds X.K fd ps []) (hm : X.mg x = some (.ref C)) (hg : Gl X x)
    (ha : PDL X B (e :: es) t l) (hdb : (x == ("__debug__" : Str)) = false := by decide) (he : starEach (e :: es) X.env = (false, eval e X.env) :: starEach es X.env := by rfl) (hpl : (backTo pos (starEach es X.env)).any (·.1) = false := by rfl) :
    PD X B (.Call (.Name x p) (e :: es) [] pos) (tMakeG C (spInit C ok) t) (dMake C ok l) :=
  ⟨pe_makeG Mk' F hG hr hb hm hg ha.pa hdb he hpl, fun M σ H ds Q W g en q c => ha.sl M σ H ds _ _ g en q fun vs H1 l' g1 k1 hl q1 => by
    split at q1
    · rename_i n ts
      cases hl with
      | cons h1 t1 => cases t1 with
        | cons h2 t2 =>
          cases t2
          cases h1
          intro y dx hy hdx ne
          have gd := g1.new (o := .own y) hdx
          have hy2 : (upd H1 dx (.own y)) y = none := by rw [upd_ne ne.symm]; exact hy
          have gy := gd.new (o := .ins C dx []) hy2
          have ks : Keep M B H1 (upd (upd H1 dx (.own y)) y (.ins C dx [])) := (Keep.new hdx).trans (Keep.new hy2)
          have ny : ¬ M y := g1.ne hy
          have nd : ¬ M dx := g1.ne hdx
          have yB : y ≠ B := fun z => ny (by rw [z]; exact g1.1)
          refine ⟨M, B, y, dx, _, n, ts, rfl, gy, ⟨gd.fresh0 hy2, gd.fresh1 hy2⟩, ny, nd, ne.symm, upd_same, by rw [upd_ne ne]; exact upd_same, h2.keep g1.1 ks, q1.1, fun a xs H' g' kp kq e1 n3 e3 hx => ⟨rfl, ?_⟩⟩
          refine c _ H' _ g' (k1.trans ⟨fun b o nb hb => ?_, fun q' hq => kq q' (ks.q q' hq)⟩) (.brd ny nd e1 ?_ n3 e3 hx) q1.2
          · exact kp b o nb (ne_of_none hb hy) (ks.k b o nb hb)
          · refine kp dx _ (fun z => nd (by rw [z]; exact g1.1)) ne ?_
            rw [upd_ne ne]
            exact upd_same
    · exact q1.elim⟩
/-- comprehensions with one test -/
theorem d_lc1 {elt tg iter tst : Expr} {scope : Scope} {own : List (Str × Nat)} {wi : TI} {tt : TG} {tT : TT} {te : TE} {l : TDL} {g : TDG} {t : TDT} {d : TDE} {is : List Nat} (hc : X.calm = true) (hN : X.N.Nodup) (hi : PDI X B tg iter wi l) (ok : BlkOk X.N X.env.scope scope own)
    (hg : ∀ (s : Shared) (H : Hp) (C : Addr) (cl : List (Str × Addr)) (fp : List Addr), PDG (X.blk s H scope (compEnvC scope cl C X.env) fp) B tg is tt g)
    (ht : ∀ (s : Shared) (H : Hp) (C : Addr) (cl : List (Str × Addr)) (fp : List Addr), PDT (X.blk s H scope (compEnvC scope cl C X.env) fp) B tst tT t)
    (he : ∀ (s : Shared) (H : Hp) (C : Addr) (cl : List (Str × Addr)) (fp : List Addr), PD (X.blk s H scope (compEnvC scope cl C X.env) fp) B elt te d)
    (hv : ∀ j ∈ is, j ∈ own.map (·.2)) (hs : ∀ x, foldedSetIterable iter X.env x = pure x := by intro _; rfl) :
    PD X B (.ListComp elt [⟨tg, iter, [tst], 0⟩] scope pos) (tLc wi tt tT te (own.map (·.2))) (dLc l g t d (own.map (·.2))) :=
  d_lc (elt := elt) (ifs := [tst]) (pos := pos) hc hN hi ok hg (fun s H C cl fp => pts_one (ht s H C cl fp).pt) (ht X.s_0 X.H_0 0 [] []).st he hv hs
theorem ds_setLc1 {i : Nat} {y : Str} {py : Pos} {elt tg iter tst : Expr} {scope : Scope} {own : List (Str × Nat)} {spos : Pos} {wi : TI} {tt : TG} {tT : TT} {te : TE} {l : TDL} {g : TDG} {t : TDT} {d : TDE} {is : List Nat} (hc : X.calm = true) (hN : X.N.Nodup) (hy : X.N[i]? = some y) (hyl : X.env.scope.names.lookup y = some .local)
    (hsw : swapsWith (.ListComp elt [⟨tg, iter, [tst], 0⟩] scope pos) (some (.Name y py)) spos.line X.env = pure true) (hi : PDI X B tg iter wi l) (ok : BlkOk X.N X.env.scope scope own)
    (hg : ∀ (s : Shared) (H : Hp) (C : Addr) (cl : List (Str × Addr)) (fp : List Addr), PDG (X.blk s H scope (compEnvC scope cl C X.env) fp) B tg is tt g)
    (ht : ∀ (s : Shared) (H : Hp) (C : Addr) (cl : List (Str × Addr)) (fp : List Addr), PDT (X.blk s H scope (compEnvC scope cl C X.env) fp) B tst tT t)
    (he : ∀ (s : Shared) (H : Hp) (C : Addr) (cl : List (Str × Addr)) (fp : List Addr), PD (X.blk s H scope (compEnvC scope cl C X.env) fp) B elt te d)
    (hv : ∀ j ∈ is, j ∈ own.map (·.2)) (hs : ∀ x, foldedSetIterable iter X.env x = pure x := by intro _; rfl) :
    PDS X B (.Assign [.Name y py] (.ListComp elt [⟨tg, iter, [tst], 0⟩] scope pos) spos) (tAsg (tLc wi tt tT te (own.map (·.2))) (gName i)) (sAsg (dLc l g t d (own.map (·.2))) (dgName i)) :=
  ds_setLc hc hN hy hyl hsw hi ok hg (fun s H C cl fp => pts_one (ht s H C cl fp).pt) (ht X.s_0 X.H_0 0 [] []).st he hv hs
end
end DL
namespace DL
open PySem L2 PyProof.Rows
/-! ### enumerate; what is never reached; the table of lengths -/
theorem it_enum {M : Addr → Prop} {B : Gr} {K : PySem.W.Frag} {H : Hp} {a : Addr} {xs : List V} {l : List PyData} (n : ¬ M a) (e : H a = some (.lst xs)) (h : DtA M H xs l) : ItOk M B H (Ite K a) (enumD l) := fun M2 H2 g2 k i => by
  have ea := (k _ _ n e).2
  rw [enumD_len]
  refine ⟨fun hi => ⟨xs, SqL.of ea, by rw [h.length]; omega⟩, fun hi => ?_⟩
  obtain ⟨v, hv, r⟩ := DtA.get i h (List.getElem?_eq_getElem hi)
  refine ⟨⟨xs, v, SqL.of ea, hv⟩, fun x H3 ⟨T, y, ex, hT, eH, f1⟩ => ?_⟩
  have q1 := f1 xs (SqL.of ea)
  rw [hv] at q1
  cases q1
  subst ex eH
  exact ⟨g2.new hT, Keep.new hT, _, enumD_at (List.getElem?_eq_getElem hi), Dt.newT g2 hT (.cons (.int _) (.cons (r.map k) .nil))⟩
def diEnum (t : TDL) : TDL := fun ds Q => t ds fun l => match l with
  | [.list a] => dSize a.length ∧ Q (enumD a)
  | _ => False
section
variable {X : Cx} {B : Gr} {a : Expr} {ta : TE} {da : TDE} {p pos : Pos}
theorem di_enum (K : PySem.W.Frag) {e : Expr} {ta : TA} {tpos : Pos} {elts : List Expr} {kk : Nat} {l : TDL} (hg : Gl X "enumerate") (hm : X.mg "enumerate" = none) (ha : PDL X B [e] ta l)
    (hs : starEach [e] X.env = (false, eval e X.env) :: starEach [] X.env := by rfl) (hK : X.K = K := by rfl) :
    PDI X B (.Tuple elts kk tpos) (.Call (.Name "enumerate" p) [e] [] pos) (iEnum K ta) (diEnum l) := by
  subst hK
  refine ⟨pi_enum hg hm ha.pa hs, fun M σ H ds Q R g en q c => ha.sl M σ H ds _ _ g en q fun vs H1 l' g1 k1 hl q1 => ?_⟩
  split at q1
  · cases hl with
    | cons h1 t1 =>
      cases t1
      cases h1 with
      | lst n e a => exact ⟨_, _, rfl, SqL.of e, c _ H1 _ g1 k1 (it_enum n e a) (by rw [enumD_len]; exact q1.1.le) q1.2⟩
  · exact q1.elim
def sNever : TDS := fun _ _ => False
theorem ds_never {st : Stmt} : PDS X B st (fun _ _ _ => False) sNever := ⟨ps_never, fun M σ H ds DD D e o h c => h⟩
namespace Tm
def word : Tm → Str
  | wish .. => "wish"
  | tie .. => "tie"
  | stop .. => "stop"
  | bar .. => "bar"
def dials : Tm → List PyData
  | wish d .. => [.int d]
  | tie d o .. => [.int d, .int o]
  | stop d .. => [.int d]
  | bar d o .. => [.int d, .int o]
/-- its dials are two -/
def Diff : Tm → Prop
  | tie d o .. => d ≠ o
  | bar d o .. => d ≠ o
  | _ => True
structure Good (t : Tm) (n : Nat) : Prop where
  inn : t.In n
  dif : t.Diff
  lh : t.low ≤ t.high
  lo : -(10 ^ 18) ≤ t.low
  hi : t.high ≤ 10 ^ 18
  fr : t.Fr 30
end Tm
/-- at d: the table of how many items a term has -/
structure LenAt (K : PySem.W.Frag) (w : World) (d : Addr) : Prop where
  at_ : ∃ es n, K.lookup d = some ⟨.type "dict", none, .dict es n, #[]⟩ ∧ PySem.W.KeysLit w.params es.toList
  low : (d == sysModules) = false
  wish : ∃ t, PySem.W.nsIn K d "wish" = some (some (.int 5 t))
  tie : ∃ t, PySem.W.nsIn K d "tie" = some (some (.int 6 t))
  stop : ∃ t, PySem.W.nsIn K d "stop" = some (some (.int 4 t))
  bar : ∃ t, PySem.W.nsIn K d "bar" = some (some (.int 5 t))
theorem LenAt.len {K : PySem.W.Frag} {w : World} {d : Addr} (L : LenAt K w d) (t : Tm) : ∃ u, PySem.W.nsIn K d t.word = some (some (.int t.items.length u)) := by
  cases t
  · exact L.wish
  · exact L.tie
  · exact L.stop
  · exact L.bar
def dInLen (t : TDE) : TDE := fun ds Q => t ds fun d => ∃ tm : Tm, d = .str tm.word ∧ Q (.bool true)
def dIxLen (t : TDE) : TDE := fun ds Q => t ds fun d => ∃ tm : Tm, d = .str tm.word ∧ Q (.int tm.items.length)
abbrev rInKd (K : PySem.W.Frag) (d : Addr) : R2 := fun x y H Q => ∃ (z : Str) (r : Option Value), x = .str z ∧ y = .ref d ∧ PySem.W.nsIn K d z = some r ∧ Q (.bl r.isSome) H
theorem d_inLen (K : PySem.W.Frag) {d : Addr} (L : LenAt X.K X.w d) (ha : PD X B a ta da) (hg : Gl X "TERMS") (hm : X.mg "TERMS" = some (.ref d)) (hK : X.K = K := by rfl) (hb : behindInMarks .In (.Name "TERMS" p) = false := by rfl) :
    PD X B (.Compare a [.In] [.Name "TERMS" p] pos) (tOp (rInKd K d) ta (tC (.ref d))) (dInLen da) := by
  subst hK
  obtain ⟨es, n, hl, hk⟩ := L.at_
  refine ⟨pe_cmpR (op_in_kd ⟨hl, hk, L.low⟩) ha.pe (pe_glob hg hm rfl) hb, fun M σ H ds Q R g en q c => ha.se M σ H ds _ _ g en q fun v H1 x g1 k1 hx q1 => ?_⟩
  obtain ⟨tm, rfl, q2⟩ := q1
  cases hx
  obtain ⟨u, e⟩ := L.len tm
  exact ⟨_, _, rfl, rfl, e, c _ H1 _ g1 k1 (.bl true) q2⟩
abbrev rNotInKd (K : PySem.W.Frag) (d : Addr) : R2 := fun x y H Q => ∃ (z : Str) (r : Option Value), x = .str z ∧ y = .ref d ∧ PySem.W.nsIn K d z = some r ∧ Q (.bl (!r.isSome)) H
def dNotInLen (t : TDE) : TDE := fun ds Q => t ds fun d => ∃ tm : Tm, d = .str tm.word ∧ Q (.bool false)
theorem d_notInLen (K : PySem.W.Frag) {d : Addr} (L : LenAt X.K X.w d) (ha : PD X B a ta da) (hg : Gl X "TERMS") (hm : X.mg "TERMS" = some (.ref d)) (hK : X.K = K := by rfl) (hb : behindInMarks .NotIn (.Name "TERMS" p) = false := by rfl) :
    PD X B (.Compare a [.NotIn] [.Name "TERMS" p] pos) (tOp (rNotInKd K d) ta (tC (.ref d))) (dNotInLen da) := by
  subst hK
  obtain ⟨es, n, hl, hk⟩ := L.at_
  refine ⟨pe_cmpR (op_notIn_kd ⟨hl, hk, L.low⟩) ha.pe (pe_glob hg hm rfl) hb, fun M σ H ds Q R g en q c => ha.se M σ H ds _ _ g en q fun v H1 x g1 k1 hx q1 => ?_⟩
  obtain ⟨tm, rfl, q2⟩ := q1
  cases hx
  obtain ⟨u, e⟩ := L.len tm
  exact ⟨_, _, rfl, rfl, e, c _ H1 _ g1 k1 (.bl false) q2⟩
theorem dt_notInLen (K : PySem.W.Frag) {d : Addr} (L : LenAt X.K X.w d) (ha : PD X B a ta da) (hg : Gl X "TERMS") (hm : X.mg "TERMS" = some (.ref d)) (hK : X.K = K := by rfl) (hb : behindInMarks .NotIn (.Name "TERMS" p) = false := by rfl) :
    PDT X B (.Compare a [.NotIn] [.Name "TERMS" p] pos) (tTest (tOp (rNotInKd K d) ta (tC (.ref d)))) (dTest (dNotInLen da)) := by
  have h := d_notInLen (pos := pos) K L ha hg hm hK hb
  subst hK
  obtain ⟨es, n, hl, hk⟩ := L.at_
  exact ⟨pt_cmpR (op_notIn_kd ⟨hl, hk, L.low⟩) ha.pe (pe_glob hg hm rfl) hb, st_test h.se⟩
theorem d_ixLen (K : PySem.W.Frag) {d : Addr} (L : LenAt X.K X.w d) (ha : PD X B a ta da) (hg : Gl X "TERMS") (hm : X.mg "TERMS" = some (.ref d)) (hs : PlainIx a := by exact fun _ _ => rfl) (hK : X.K = K := by rfl) :
    PD X B (.Subscript (.Name "TERMS" p) a pos) (tOp (rIxD K X.w) (tC (.ref d)) ta) (dIxLen da) := by
  subst hK
  obtain ⟨es, n, hl, hk⟩ := L.at_
  refine ⟨pe_ix ix_kdict (pe_glob hg hm rfl) ha.pe hs, fun M σ H ds Q R g en q c => ha.se M σ H ds _ _ g en q fun v H1 x g1 k1 hx q1 => ?_⟩
  obtain ⟨tm, rfl, q2⟩ := q1
  cases hx
  obtain ⟨u, e⟩ := L.len tm
  exact ⟨_, _, .int _, rfl, rfl, ⟨es, n, _, hl, hk, e, ⟨_, rfl⟩⟩, c _ H1 _ g1 k1 (.int _) q2⟩
end
/-- a size and terms that a board may have -/
def BrdOk (n : Int) (l : List PyData) : Prop := 1 ≤ n ∧ n ≤ 8 ∧ l.length ≤ 24 ∧ ∃ ts : List Tm, l = ts.map Tm.py ∧ ∀ t ∈ ts, t.Good n.toNat
/-- a method by its place -/
structure MethAt (K : PySem.W.Frag) (C : Addr) (x qual : Str) (st : Stmt) (ps : List Str) (f : Addr) (fd : FuncData) : Prop where
  fn : Fun K x qual st f fd
  bd : Binds K fd ps []
  me : Meth K C x f
theorem MethAt.mk' {K : PySem.W.Frag} {C : Addr} {x qual : Str} {st : Stmt} {ps : List Str} {f : Addr} {oc : Value} {od an : Option Addr} {osl : Array (Option Value)} {kV doc pm cdv ct : Value}
    (a : PySem.W.findIn K (.ref C) x = some (some (.ref f))) (i : PySem.W.isFn K (.ref f) = true) (l : K.lookup f = some ⟨oc, od, .func (PySem.W.fnOf x qual (defArgs st) (defBody st) (defScope st) .none kV doc pm an cdv ct), osl⟩) (c : PySem.W.codeIn K cdv qual = true) (k : PySem.W.keepIn K (.ref f) = true)
    (b : ∀ us : List Value, us.length = ps.length → bindArgs (PySem.W.fnOf x qual (defArgs st) (defBody st) (defScope st) .none kV doc pm an cdv ct) ⟨us, []⟩ = pure (ps.zip us)) :
    MethAt K C x qual st ps f (PySem.W.fnOf x qual (defArgs st) (defBody st) (defScope st) .none kV doc pm an cdv ct) := ⟨fun_mk l c k, .all b, ⟨a, i, k⟩⟩
end DL
namespace DL
open PySem L2 PyProof.Rows
def ifTest : Stmt → Expr
  | .If c _ _ _ => c
  | _ => .Constant .none 0 ⟨0, 0, 0, 0⟩
theorem init_flds {v u : V} : putF "_terms" u (putF "_size" v []) = ([("_size", v), ("_terms", u)] : List (Str × V)) := by
  show (if ("_size" : Str) = "_terms" then [(("_size" : Str), u)] else (("_size" : Str), v) :: putF "_terms" u []) = ([("_size", v), ("_terms", u)] : List (Str × V))
  rw [if_neg (by decide +kernel)]
  rfl
/-- data does not lean on an instance that is being made -/
theorem Dt.mapX {M M' : Addr → Prop} {H H' : Hp} {x : Addr} (hx : ∃ C dx, H x = some (.ins C dx [])) (k : ∀ a o, a ≠ x → ¬ M a → H a = some o → ¬ M' a ∧ H' a = some o) {v : V} {d : PyData} (h : Dt M H v d) : Dt M' H' v d := by
  obtain ⟨C, dx, hx⟩ := hx
  have nl : ∀ {a : Addr} {xs : List V}, H a = some (.lst xs) → a ≠ x := fun e z => by
    rw [z, hx] at e
    cases e
  have nt : ∀ {a : Addr} {xs : List V}, H a = some (.tup xs) → a ≠ x := fun e z => by
    rw [z, hx] at e
    cases e
  have no : ∀ {a p : Addr}, H a = some (.own p) → a ≠ x := fun e z => by
    rw [z, hx] at e
    cases e
  have ni : ∀ {a c e : Addr} {f : Str × V} {fs : List (Str × V)}, H a = some (.ins c e (f :: fs)) → a ≠ x := fun e z => by
    rw [z, hx] at e
    cases e
  exact Dt.rec (motive_1 := fun v d _ => Dt M' H' v d) (motive_2 := fun vs ds _ => DtA M' H' vs ds) .non (fun b => .bl b) (fun i => .int i) (fun x => .str x)
    (fun n e _ ih => .lst (k _ _ (nl e) n e).1 (k _ _ (nl e) n e).2 ih) (fun n e _ ih => .tup (k _ _ (nt e) n e).1 (k _ _ (nt e) n e).2 ih)
    (fun n n2 e e2 n3 e3 _ ih => .brd (k _ _ (ni e) n e).1 (k _ _ (no e2) n2 e2).1 (k _ _ (ni e) n e).2 (k _ _ (no e2) n2 e2).2 (k _ _ (nl e3) n3 e3).1 (k _ _ (nl e3) n3 e3).2 ih) .nil (fun _ _ ih ih2 => .cons ih ih2) h
theorem DtA.mapX {M M' : Addr → Prop} {H H' : Hp} {x : Addr} (hx : ∃ C dx, H x = some (.ins C dx [])) (k : ∀ a o, a ≠ x → ¬ M a → H a = some o → ¬ M' a ∧ H' a = some o) : ∀ {ds : List PyData} {vs : List V}, DtA M H vs ds → DtA M' H' vs ds
  | [], _, h => by cases h; exact .nil
  | d :: ds, _, h => by
    cases h with
    | cons h1 h2 => exact .cons (h1.mapX hx k) (DtA.mapX hx k h2)
end DL
namespace DL
open PySem L2 PyProof.Rows

theorem lcW_mapOf {α : Type} {g : TDG} {te : TDE} {ds : DEnv} (f F : α → PyData) : ∀ (ts : List α) (acc : List PyData) (Q : PyData → Prop), (∀ t ∈ ts, ∀ (N : PyData → Prop), N (F t) → g (f t) ds fun ds' => te ds' N) → Q (.list (acc ++ ts.map F)) → lcW g dYes te ds (ts.map f) acc Q
  | [], acc, Q, _, hq => by
    rw [List.map_nil, List.append_nil] at hq
    exact hq
  | t :: ts, acc, Q, h, hq => by
    have e : lcW g dYes te ds ((t :: ts).map f) acc Q = g (f t) ds fun ds' => (true = true → te ds' fun y => lcW g dYes te ds (ts.map f) (acc ++ [y]) Q) ∧ (true = false → lcW g dYes te ds (ts.map f) acc Q) := rfl
    rw [e]
    have e2 : (fun ds' => (true = true → te ds' fun y => lcW g dYes te ds (ts.map f) (acc ++ [y]) Q) ∧ (true = false → lcW g dYes te ds (ts.map f) acc Q)) = fun ds' => te ds' fun y => lcW g dYes te ds (ts.map f) (acc ++ [y]) Q := by
      funext ds'
      simp
    rw [e2]
    refine h t (List.mem_cons_self ..) _ (lcW_mapOf f F ts (acc ++ [F t]) Q (fun z hz => h z (List.mem_cons_of_mem _ hz)) ?_)
    rw [List.append_assoc]
    exact hq
theorem lcW_filterOf {α : Type} {g : TDG} {tt : TDT} {te : TDE} {ds : DEnv} (f : α → PyData) (p : α → Bool) (F : α → PyData) : ∀ (ts : List α) (acc : List PyData) (Q : PyData → Prop),
    (∀ t ∈ ts, ∀ (N2 : Prop) (N : PyData → Prop), (p t = true → N (F t)) → (p t = false → N2) → g (f t) ds fun ds' => tt ds' fun b => (b = true → te ds' N) ∧ (b = false → N2)) → Q (.list (acc ++ (ts.filter p).map F)) → lcW g tt te ds (ts.map f) acc Q
  | [], acc, Q, _, hq => by
    rw [List.filter_nil, List.map_nil, List.append_nil] at hq
    exact hq
  | t :: ts, acc, Q, h, hq => by
    have e : lcW g tt te ds ((t :: ts).map f) acc Q = g (f t) ds fun ds' => tt ds' fun b => (b = true → te ds' fun y => lcW g tt te ds (ts.map f) (acc ++ [y]) Q) ∧ (b = false → lcW g tt te ds (ts.map f) acc Q) := rfl
    rw [e]
    have hl := fun z hz => h z (List.mem_cons_of_mem t hz)
    refine h t (List.mem_cons_self ..) _ _ (fun hp => ?_) fun hp => ?_
    · refine lcW_filterOf f p F ts (acc ++ [F t]) Q hl ?_
      rw [List.filter_cons_of_pos hp, List.map_cons] at hq
      rw [List.append_assoc]
      exact hq
    · refine lcW_filterOf f p F ts acc Q hl ?_
      rw [List.filter_cons_of_neg (by rw [hp]; exact Bool.false_ne_true)] at hq
      exact hq
theorem enumD_map {α : Type} {f : α → PyData} {ts : List α} {i : Nat} {x : PyData} (h : (enumD (ts.map f))[i]? = some x) : ∃ t, ts[i]? = some t ∧ x = .tuple [.int i, f t] := by
  have hi := (List.getElem?_eq_some_iff.mp h).1
  rw [enumD_len, List.length_map] at hi
  refine ⟨ts[i], List.getElem?_eq_getElem hi, ?_⟩
  have e := enumD_at (l := ts.map f) (i := i) (x := f ts[i]) (by rw [List.getElem?_map, List.getElem?_eq_getElem hi]; rfl)
  rw [e] at h
  exact (Option.some.inj h).symm
namespace Tm
def force : Tm → Int
  | wish _ _ _ f => f
  | tie _ _ _ _ f => f
  | _ => 0
/-- it is a stop or bar that the standing leaves -/
def gone (t : Tm) (ss : List Int) : Bool := !t.soft && (t.dist (t.arg ss) != 0)
end Tm
/-- the least index of a stop or bar that is left, from k on -/
def leftFrom (ss : List Int) : Nat → List Tm → PyData
  | _, [] => .none
  | k, t :: ts => if t.gone ss then .int k else leftFrom ss (k + 1) ts
def leftV (ts : List Tm) (ss : List Int) : PyData := leftFrom ss 0 ts
def strainFrom (ss : List Int) : Int → List Tm → PyData
  | tot, [] => .int tot
  | tot, t :: ts => if t.gone ss then .none else strainFrom ss (if t.soft then tot + t.force * t.dist (t.arg ss) else tot) ts
def strainV (ts : List Tm) (ss : List Int) : PyData := strainFrom ss 0 ts
def costs (ts : List Tm) (ss : List Int) : List Int := (ts.filter Tm.soft).map fun t => t.force * t.dist (t.arg ss)
theorem strain_left (ss : List Int) : ∀ (ts : List Tm) (k : Nat) (tot : Int), strainFrom ss tot ts = if isNone (leftFrom ss k ts) = true then .int (tot + (costs ts ss).sum) else .none
  | [], k, tot => by simp [strainFrom, leftFrom, isNone, costs]
  | t :: ts, k, tot => by
    unfold strainFrom leftFrom
    by_cases g : t.gone ss = true
    · rw [if_pos g, if_pos g]
      rfl
    · rw [if_neg g, if_neg g, strain_left ss ts (k + 1)]
      cases hs : t.soft with
      | true =>
        have e : (costs (t :: ts) ss).sum = t.force * t.dist (t.arg ss) + (costs ts ss).sum := by
          unfold costs
          rw [List.filter_cons_of_pos hs, List.map_cons, List.sum_cons]
        rw [e, if_pos rfl, Int.add_assoc]
      | false =>
        have e : costs (t :: ts) ss = costs ts ss := by
          unfold costs
          rw [List.filter_cons_of_neg (by rw [hs]; exact Bool.false_ne_true)]
        rw [e, if_neg Bool.false_ne_true]
/-- what a term's strain asks -/
structure Tm.Fair (t : Tm) (n : Nat) : Prop where
  inn : t.In n
  lh : t.low ≤ t.high
  lo : -(10 ^ 20) ≤ t.low
  hi : t.high ≤ 10 ^ 20
  fr : t.Fr 30
theorem Tm.Good.fair {t : Tm} {n : Nat} (g : t.Good n) : t.Fair n := ⟨g.inn, g.lh, by have := g.lo; omega, by have := g.hi; omega, g.fr⟩
/-- a board's terms at a standing: all fair, the settings not too great -/
structure Fine (ts : List Tm) (ss : List Int) : Prop where
  len : ts.length ≤ 24
  good : ∀ t ∈ ts, t.Fair ss.length
  mid : ∀ x ∈ ss, -(10 ^ 60) < x ∧ x < 10 ^ 60
theorem Fine.dist {ts : List Tm} {ss : List Int} (h : Fine ts ss) {t : Tm} (ht : t ∈ ts) : 0 ≤ t.dist (t.arg ss) ∧ t.dist (t.arg ss) < 4 * 10 ^ 60 := by
  have g := h.good t ht
  have a := Tm.arg_mid g.inn h.mid
  have l := g.lh
  have l0 := g.lo
  have l1 := g.hi
  have d := Tm.dist_ge (t := t) (o := t.arg ss) l
  unfold Tm.dist at d ⊢
  split
  · omega
  · split <;> omega
theorem Fine.force {ts : List Tm} {ss : List Int} (h : Fine ts ss) {t : Tm} (ht : t ∈ ts) : 0 ≤ t.force ∧ t.force ≤ 30 := by
  have g := (h.good t ht).fr
  cases t with
  | wish d l u f => exact ⟨by have := g.1; show 0 ≤ f; omega, g.2⟩
  | tie d o l u f => exact ⟨by have := g.1; show 0 ≤ f; omega, g.2⟩
  | stop d l u => exact ⟨by show (0 : Int) ≤ 0; omega, by show (0 : Int) ≤ 30; omega⟩
  | bar d o l u => exact ⟨by show (0 : Int) ≤ 0; omega, by show (0 : Int) ≤ 30; omega⟩
theorem ne0 {i : Int} : (!PyData.eqv (.int i) (.int 0)) = (i != 0) := by
  rw [eqvI]
  rfl
def leftR (C : Addr) : DR := fun xs Q => ∃ n ts ss, xs = [.dat (brdD C n (ts.map Tm.py)), .dat (.tuple (ss.map .int))] ∧ Fine ts ss ∧ Q (leftV ts ss)
def strainR (C : Addr) : DR := fun xs Q => ∃ n ts ss, xs = [.dat (brdD C n (ts.map Tm.py)), .dat (.tuple (ss.map .int))] ∧ Fine ts ss ∧ Q (strainV ts ss)
def lawLeftR : DR := fun xs Q => ∃ ts ss, xs = [.dat (.list (ts.map Tm.py)), .dat (.tuple (ss.map .int))] ∧ Fine ts ss ∧ Q (leftV ts ss)
def lawStrainR : DR := fun xs Q => ∃ ts ss, xs = [.dat (.list (ts.map Tm.py)), .dat (.tuple (ss.map .int))] ∧ Fine ts ss ∧ Q (strainV ts ss)
theorem get_map {α : Type} {f : α → PyData} {ts : List α} {i : Nat} {x : PyData} (h : (ts.map f)[i]? = some x) : ∃ t, ts[i]? = some t ∧ x = f t := by
  rw [List.getElem?_map] at h
  cases e : ts[i]? with
  | none => rw [e] at h; cases h
  | some t => rw [e] at h; exact ⟨t, rfl, (Option.some.inj h).symm⟩
/-- a stop or bar contains the standing -/
def Tm.Holds (t : Tm) (ss : List Int) : Prop := t.soft = false → t.low ≤ t.arg ss ∧ t.arg ss ≤ t.high
theorem Tm.Holds.gone {t : Tm} {ss : List Int} (h : t.Holds ss) : t.gone ss = false := by
  unfold Tm.gone
  cases e : t.soft with
  | true => rfl
  | false =>
    obtain ⟨h1, h2⟩ := h e
    have d : t.dist (t.arg ss) = 0 := Tm.dist_in (by omega) (by omega)
    rw [d]
    rfl
/-- a standing whose settings are near a value -/
def Near (mid : Int) (ss : List Int) : Prop := -(10 ^ 18 - 50) ≤ mid ∧ mid ≤ 10 ^ 18 - 50 ∧ ∀ x ∈ ss, mid - 9 ≤ x ∧ x ≤ mid + 9
theorem Near.at_ {mid : Int} {ss : List Int} (h : Near mid ss) {d : Int} (d0 : 0 ≤ d) (d1 : d < ss.length) : mid - 9 ≤ Tm.at_ ss d ∧ Tm.at_ ss d ≤ mid + 9 := by
  have h2 : d.toNat < ss.length := by omega
  unfold Tm.at_
  rw [List.getD_eq_getElem?_getD, List.getElem?_eq_getElem h2]
  exact h.2.2 _ (List.getElem_mem h2)
theorem Near.one {mid : Int} {ss : List Int} (h : Near mid ss) {d : Int} (d0 : 0 ≤ d) (d1 : d < ss.length) : -(10 ^ 18) ≤ Tm.at_ ss d ∧ Tm.at_ ss d ≤ 10 ^ 18 := by
  have a := h.at_ d0 d1
  have b := h.1
  have c := h.2.1
  omega
theorem Near.two {mid : Int} {ss : List Int} (h : Near mid ss) {d o : Int} (d0 : 0 ≤ d) (d1 : d < ss.length) (o0 : 0 ≤ o) (o1 : o < ss.length) : -(10 ^ 18) ≤ Tm.at_ ss d - Tm.at_ ss o ∧ Tm.at_ ss d - Tm.at_ ss o ≤ 10 ^ 18 := by
  have a := h.at_ d0 d1
  have b := h.at_ o0 o1
  omega
theorem other_dial {d k n : Int} (d0 : 0 ≤ d) (d1 : d < n) (k0 : 0 ≤ k) (k1 : k < n - 1) : 0 ≤ (d + 1 + k) % n ∧ (d + 1 + k) % n < n ∧ (d + 1 + k) % n ≠ d := by
  have n0 : 0 < n := by omega
  refine ⟨Int.emod_nonneg _ (by omega), Int.emod_lt_of_pos _ n0, fun e => ?_⟩
  have q : (d + 1 + k) % n + n * ((d + 1 + k) / n) = d + 1 + k := by first | exact Int.emod_add_mul_ediv _ _ | exact Int.emod_add_ediv' _ _
  rw [e] at q
  -- n * c = 1 + k, from 1 to n - 1
  have c : n * ((d + 1 + k) / n) = 1 + k := by omega
  have c0 : 0 < (d + 1 + k) / n := by
    by_cases z0 : 0 < (d + 1 + k) / n
    · exact z0
    · have z : (d + 1 + k) / n ≤ 0 := by omega
      have := Int.mul_le_mul_of_nonneg_left z (show 0 ≤ n by omega)
      omega
  have := Int.mul_le_mul_of_nonneg_left (show 1 ≤ (d + 1 + k) / n by omega) (show 0 ≤ n by omega)
  omega
theorem terms_of {P : Tm → Prop} : ∀ l : List PyData, (∀ z ∈ l, ∃ t : Tm, z = t.py ∧ P t) → ∃ ts : List Tm, l = ts.map Tm.py ∧ ∀ t ∈ ts, P t
  | [], _ => ⟨[], rfl, fun _ h => nomatch h⟩
  | z :: l, h => by
    obtain ⟨t, rfl, ht⟩ := h z (List.mem_cons_self ..)
    obtain ⟨ts, rfl, hts⟩ := terms_of l fun y hy => h y (List.mem_cons_of_mem _ hy)
    refine ⟨t :: ts, rfl, fun u hu => ?_⟩
    rcases List.mem_cons.mp hu with rfl | hu
    · exact ht
    · exact hts u hu
theorem left_none {ss : List Int} : ∀ {ts : List Tm} (k : Nat), (∀ t ∈ ts, t.gone ss = false) → leftFrom ss k ts = .none
  | [], k, _ => rfl
  | t :: ts, k, h => by
    unfold leftFrom
    rw [h t (List.mem_cons_self ..), if_neg Bool.false_ne_true]
    exact left_none (k + 1) fun u hu => h u (List.mem_cons_of_mem _ hu)
theorem left_cases {ss : List Int} : ∀ {ts : List Tm} (k : Nat), leftFrom ss k ts = .none ∨ ∃ i : Nat, leftFrom ss k ts = .int i ∧ i < k + ts.length
  | [], k => .inl rfl
  | t :: ts, k => by
    unfold leftFrom
    split
    · exact .inr ⟨k, rfl, by simp⟩
    · rcases left_cases (ss := ss) (ts := ts) (k + 1) with e | ⟨i, e, hi⟩
      · exact .inl e
      · exact .inr ⟨i, e, by simp at hi ⊢; omega⟩
theorem sum_le {b : Int} : ∀ {l : List Int}, (∀ x ∈ l, 0 ≤ x ∧ x ≤ b) → 0 ≤ l.sum ∧ l.sum ≤ l.length * b
  | [], _ => by simp
  | x :: l, h => by
    have h1 := h x (List.mem_cons_self ..)
    have h2 := sum_le (l := l) fun y hy => h y (List.mem_cons_of_mem _ hy)
    rw [List.sum_cons, List.length_cons]
    have e : ((l.length + 1 : Nat) : Int) * b = l.length * b + b := by
      rw [Int.natCast_add, Int.add_mul]
      simp
    rw [e]
    omega
theorem Fine.costs {ts : List Tm} {ss : List Int} (h : Fine ts ss) : 0 ≤ (DL.costs ts ss).sum ∧ (DL.costs ts ss).sum ≤ 10 ^ 70 := by
  have hb : ∀ x ∈ DL.costs ts ss, 0 ≤ x ∧ x ≤ 120 * 10 ^ 60 := fun x hx => by
    unfold DL.costs at hx
    obtain ⟨t, ht, rfl⟩ := List.mem_map.mp hx
    have hm := (List.mem_filter.mp ht).1
    have d := h.dist hm
    have f := h.force hm
    refine ⟨Int.mul_nonneg f.1 d.1, ?_⟩
    have := Int.mul_le_mul f.2 (show t.dist (t.arg ss) ≤ 4 * 10 ^ 60 by omega) d.1 (by decide)
    omega
  have l : (DL.costs ts ss).length ≤ 24 := by
    unfold DL.costs
    rw [List.length_map]
    exact Nat.le_trans (List.length_filter_le _ _) h.len
  have s := sum_le hb
  refine ⟨s.1, ?_⟩
  have := Int.mul_le_mul_of_nonneg_right (show ((DL.costs ts ss).length : Int) ≤ 24 by omega) (show (0 : Int) ≤ 120 * 10 ^ 60 by decide)
  omega
theorem leaf_left {ts : List Tm} {ss : List Int} (h : Fine ts ss) : Leaf (leftV ts ss) := by
  have l := h.len
  rcases left_cases (ss := ss) (ts := ts) 0 with e | ⟨i, e, hi⟩
  · unfold leftV
    rw [e]
    exact leafN
  · unfold leftV
    rw [e]
    exact leafI ⟨by omega, by omega⟩
theorem strain_cases (ts : List Tm) (ss : List Int) : (isNone (leftV ts ss) = true ∧ strainV ts ss = .int (costs ts ss).sum) ∨ (isNone (leftV ts ss) = false ∧ strainV ts ss = .none) := by
  have e0 := strain_left ss ts 0 0
  unfold strainV
  rw [e0, show leftFrom ss 0 ts = leftV ts ss from rfl]
  cases e : isNone (leftV ts ss) with
  | true => exact .inl ⟨rfl, by rw [if_pos rfl, Int.zero_add]⟩
  | false => exact .inr ⟨rfl, rfl⟩
theorem leaf_strain {ts : List Tm} {ss : List Int} (h : Fine ts ss) : Leaf (strainV ts ss) := by
  have c := h.costs
  rcases strain_cases ts ss with ⟨_, e⟩ | ⟨_, e⟩
  · rw [e]
    exact leafI ⟨by omega, by omega⟩
  · rw [e]
    exact leafN
/-- a standing of a size -/
def OkS (n : Nat) (x : PyData) : Prop := ∃ tt : List Int, x = .tuple (tt.map .int) ∧ tt.length = n ∧ ∀ x ∈ tt, -(10 ^ 60) < x ∧ x < 10 ^ 60
/-! ### boards made of others -/
def Tm.mir (t : Tm) : Tm := t.put (-t.high) (-t.low)
def Tm.mov (t : Tm) (b : Int) : Tm := t.put (t.low + b) (t.high + b)
theorem Tm.mir_mir (t : Tm) : t.mir.mir = t := by
  unfold Tm.mir
  rw [Tm.put_put, Tm.put_low, Tm.put_high, Int.neg_neg, Int.neg_neg, Tm.put_self]
def negs (ss : List Int) : List Int := ss.map fun x => -x
theorem at_neg (ss : List Int) (i : Int) : Tm.at_ (negs ss) i = -Tm.at_ ss i := by
  unfold Tm.at_ negs
  rw [List.getD_eq_getElem?_getD, List.getD_eq_getElem?_getD, List.getElem?_map]
  cases ss[i.toNat]? <;> simp
theorem Tm.arg_mir (t : Tm) (ss : List Int) : t.mir.arg (negs ss) = -t.arg ss := by
  cases t <;> simp only [Tm.mir, Tm.put, Tm.arg, at_neg] <;> omega
theorem Tm.mir_soft (t : Tm) : t.mir.soft = t.soft := by cases t <;> rfl
theorem Tm.mir_force (t : Tm) : t.mir.force = t.force := by cases t <;> rfl
theorem Tm.mir_dist {t : Tm} (h : t.low ≤ t.high) (ss : List Int) : t.mir.dist (t.mir.arg (negs ss)) = t.dist (t.arg ss) := by
  rw [Tm.arg_mir]
  exact Tm.dist_mir h
theorem strain_mir {ss : List Int} : ∀ {ts : List Tm} (tot : Int), (∀ t ∈ ts, t.low ≤ t.high) → strainFrom (negs ss) tot (ts.map Tm.mir) = strainFrom ss tot ts
  | [], tot, _ => rfl
  | t :: ts, tot, h => by
    have ht := h t (List.mem_cons_self ..)
    have eg : t.mir.gone (negs ss) = t.gone ss := by
      unfold Tm.gone
      rw [Tm.mir_soft, Tm.mir_dist ht]
    rw [List.map_cons]
    unfold strainFrom
    rw [eg, Tm.mir_soft, Tm.mir_force, Tm.mir_dist ht]
    split
    · rfl
    · exact strain_mir _ fun u hu => h u (List.mem_cons_of_mem _ hu)
theorem Tm.Fair.mir {t : Tm} {n : Nat} (h : t.Fair n) : t.mir.Fair n := by
  obtain ⟨a, b, c, d, e⟩ := h
  refine ⟨by cases t <;> exact a, ?_, ?_, ?_, by cases t <;> exact e⟩ <;> unfold Tm.mir <;> (try rw [Tm.put_low]) <;> (try rw [Tm.put_high]) <;> omega
theorem Tm.Fair.mov {t : Tm} {n : Nat} {b : Int} (h : t.Fair n) (h1 : -(10 ^ 19) ≤ b) (h2 : b ≤ 10 ^ 19) (h3 : -(10 ^ 18) ≤ t.low) (h4 : t.high ≤ 10 ^ 18) : (t.mov b).Fair n := by
  obtain ⟨a, b', c, d, e⟩ := h
  refine ⟨by cases t <;> exact a, ?_, ?_, ?_, by cases t <;> exact e⟩ <;> unfold Tm.mov <;> (try rw [Tm.put_low]) <;> (try rw [Tm.put_high]) <;> omega
end DL
/-! ### zip of a tuple and a list -/
namespace DL
open PySem PySem.Spec L2 PyProof.Rows
/-- at each turn: the i-th of the tuple at a and of the list at b, in a new pair -/
def ItzM (K : PySem.W.Frag) (a b : Addr) : It where
  go := fun i H => ∃ xs ys x y, SqT K H a xs ∧ SqL K H b ys ∧ xs[i]? = some x ∧ ys[i]? = some y
  yld := fun i H v H' => ∃ p x y, v = .ref p ∧ H p = none ∧ H' = upd H p (.tup [x, y]) ∧ (∀ xs, SqT K H a xs → xs[i]? = some x) ∧ ∀ ys, SqL K H b ys → ys[i]? = some y
  stop := fun i H => ∃ xs ys, SqT K H a xs ∧ SqL K H b ys ∧ i = min xs.length ys.length
theorem sep_of {z TI TO i1 i2 a b : Addr} (D : ZipApart z TI TO i1 i2 a b) : ZipSep2 z TI TO i1 i2 [i1, a] [i2, b] := by
  have d := D
  obtain ⟨_, _, _, _, _, _, _, _, _, _, _, _, _, _, _, _, _, _⟩ := D
  constructor <;> first | assumption | exact List.mem_cons_self .. | (simp only [List.mem_cons, List.not_mem_nil, or_false, not_or]; first | exact .inl rfl | (constructor <;> first | assumption | (apply Ne.symm; assumption)))
theorem turn_zipM {P : Program} {w : World} {K : PySem.W.Frag} {elts : List Expr} {kk : Nat} {tpos : Pos} {a b z TI TO i1 i2 : Addr} (D : ZipApart z TI TO i1 i2 a b) :
    Turn P w K (.Tuple elts kk tpos) (ItzM K a b) [z, TI, TO, i1, i2] z fun i h => IsZip h z TI TO .none ∧ IsPair h TI (.ref i1) (.ref i2) ∧ (∃ x y, IsPair h TO x y) ∧ h.IsTupleIter i1 a i ∧ h.IsListIter i2 b i := by
  have five : ∀ {q : Addr → Prop}, q z → q TI → q TO → q i1 → q i2 → ∀ c ∈ [z, TI, TO, i1, i2], q c := fun h1 h2 h3 h4 h5 c hc => by
    simp only [List.mem_cons, List.not_mem_nil, or_false] at hc
    rcases hc with rfl | rfl | rfl | rfl | rfl <;> assumption
  have S := sep_of D
  refine ⟨List.mem_cons_self .., fun i h st => ?_, fun i h h' st kp => ?_, ?_, ?_, fun A i s Q E st h => wpAny_pyIter_zip st.1 h⟩
  · obtain ⟨hz, hTI, ⟨x, y, hTO⟩, ⟨o1, e1, _, d1⟩, ⟨o2, e2, _, d2⟩⟩ := st
    exact five (q := fun c => ∃ o, h.get? c = some o ∧ ∀ v, o.data ≠ .cell v) ⟨_, hz, fun _ => nofun⟩ ⟨_, hTI, fun _ => nofun⟩ ⟨_, hTO, fun _ => nofun⟩ ⟨o1, e1, fun _ q => by rw [d1] at q; cases q⟩ ⟨o2, e2, fun _ q => by rw [d2] at q; cases q⟩
  · obtain ⟨hz, hTI, ⟨x, y, hTO⟩, h1, h2⟩ := st
    exact ⟨kp z (by simp) _ hz, kp TI (by simp) _ hTI, ⟨x, y, kp TO (by simp) _ hTO⟩, h1.at (kp i1 (by simp)), h2.at (kp i2 (by simp))⟩
  · rintro X rfl rfl rfl hc i pins s σ H E I hf ⟨hz, hTI, ⟨x0, y0, hTO⟩, h1, h2⟩ ⟨xs, ys, x, y, hqx, hqy, hx, hy⟩
    obtain ⟨its, rv, p1, _⟩ := I.tuple hqx
    obtain ⟨jts, rw2, p2, _⟩ := I.list hqy
    obtain ⟨u, hu, ru⟩ := rv.get hx
    obtain ⟨v, hv, rv2⟩ := rw2.get hy
    have lt1 : i < its.toArray.size := by rw [List.size_toArray]; exact (List.getElem?_eq_some_iff.mp hu).1
    have lt2 : i < jts.toArray.size := by rw [List.size_toArray]; exact (List.getElem?_eq_some_iff.mp hv).1
    have hh : X.A.in1.handled = none := I.ok.hd hc
    refine wpAny_pyNext_zipD2_item S (Draws.tuple hh i1 a D.l1i1 its.toArray) (Draws.list hh i2 b D.l2i2 jts.toArray) hz hTI hTO ⟨h1, p1⟩ ⟨h2, p2.isList⟩ lt1 lt2 ?_
    intro u' v' h' tk eu ev hz' hTO' st1 st2 hp hsz kept
    obtain rfl : u = u' := by
      have : its.toArray[i]? = some u := by simpa using hu
      rw [this] at eu
      exact Option.some.inj eu
    obtain rfl : v = v' := by
      have : jts.toArray[i]? = some v := by simpa using hv
      rw [this] at ev
      exact Option.some.inj ev
    refine ⟨_, rfl, wpAny_letOwnedTupleGo_zip (s := { s with heap := h', toks := tk }) hz' fun h2' hz2 sb => ?_⟩
    have oldlt : ∀ c ∈ [z, TI, TO, i1, i2], c < s.heap.objs.size := five (q := fun c => c < s.heap.objs.size) (Heap.lt_size hz) (Heap.lt_size hTI) (Heap.lt_size hTO) (by obtain ⟨_, e, _⟩ := h1; exact Heap.lt_size e) (by obtain ⟨_, e, _⟩ := h2; exact Heap.lt_size e)
    have up : ∀ c o, c ≠ z → h'.get? c = some o → h2'.get? c = some o := fun c o n e => (sb.2 c n).trans e
    have pair : h2'.get? s.heap.objs.size = some { cls := .type "tuple", data := .seq #[u, v] } := up _ _ (Nat.ne_of_gt (Heap.lt_size hz)) hp
    have made : ObjOk X.prog X.w (upd H s.heap.objs.size (.tup [x, y])) h2' s.heap.objs.size (.tup [x, y]) := ⟨(by show 2 ≤ sizeLine; rw [sizeLine_eq]; decide), [u, v], .cons ru (.cons rv2 .nil), ⟨_, pair, rfl, _, rfl⟩⟩
    have J : Inv X pins σ (upd H s.heap.objs.size (.tup [x, y])) { s with heap := h2', toks := tk } := by
      refine I.turnedNew (ch := [z, TI, TO, i1, i2]) (fun c o nc e => ?_) hf (Nat.le_refl _) made
      simp only [List.mem_cons, List.not_mem_nil, or_false, not_or] at nc
      exact up c o nc.1 (kept c o nc.1 nc.2.2.1 nc.2.2.2.1 nc.2.2.2.2 e)
    refine ⟨.ref s.heap.objs.size, _, J, rfl, ⟨_, x, y, rfl, I.hok.fresh (Nat.le_refl _), rfl, fun l hl => ?_, fun l hl => ?_⟩, ⟨hz2, up _ _ D.TIz (kept _ _ D.TIz D.TITO D.TIi1 D.TIi2 hTI), ⟨u, v, up _ _ D.TOz hTO'⟩, st1.1.at fun o e => up _ o D.i1z e, st2.1.at fun o e => up _ o D.i2z e⟩, fun c hcm => ?_⟩
    · rw [I.tuple_inj hl hqx]
      exact hx
    · rw [I.list_inj hl hqy]
      exact hy
    · rw [upd_ne (Nat.ne_of_lt (oldlt c hcm))]
      exact (hf c hcm).1
  · rintro X rfl rfl rfl hc i pins s σ H E I hf ⟨hz, hTI, ⟨x0, y0, hTO⟩, h1, h2⟩ ⟨xs, ys, hqx, hqy, hend⟩
    obtain ⟨its, rv, p1, _⟩ := I.tuple hqx
    obtain ⟨jts, rw2, p2, _⟩ := I.list hqy
    have hh : X.A.in1.handled = none := I.ok.hd hc
    have n1 : xs.length = its.toArray.size := by rw [List.size_toArray, rv.length]
    have n2 : ys.length = jts.toArray.size := by rw [List.size_toArray, rw2.length]
    refine wpAny_pyNext_zipD2_end S (Draws.tuple hh i1 a D.l1i1 its.toArray) (Draws.list hh i2 b D.l2i2 jts.toArray) hz hTI hTO ⟨h1, p1⟩ ⟨h2, p2.isList⟩ (by omega) (by omega) (by omega) fun h' tk kept => ⟨rfl, I.turnedL (ch := [z, TI, TO, i1, i2]) (fun c o nc e => ?_) hf⟩
    simp only [List.mem_cons, List.not_mem_nil, or_false, not_or] at nc
    exact kept c o nc.1 nc.2.2.1 nc.2.2.2.1 nc.2.2.2.2 e
def iZipM (K : PySem.W.Frag) (ta : TA) : TI := fun σ H R => ta σ H fun vs H1 => ∃ a b xs ys, vs = [.ref a, .ref b] ∧ SqT K H1 a xs ∧ SqL K H1 b ys ∧ R (ItzM K a b) H1
theorem pi_zipM {X : Cx} {e e2 : Expr} {ta : TA} {p pos tpos : Pos} {elts : List Expr} {kk : Nat} (hg : Gl X "zip") (hm : X.mg "zip" = none) (ha : PA X [e, e2] ta)
    (hs : starEach [e, e2] X.env = (false, eval e X.env) :: starEach [e2] X.env := by rfl) (hpl : (backTo pos (starEach [e2] X.env)).any (·.1) = false := by rfl) :
    PI X (.Tuple elts kk tpos) (.Call (.Name "zip" p) [e, e2] [] pos) (iZipM X.K ta) := by
  constructor
  intro pins s σ H R I h
  refine Call_ (ld_blt I hg hm PyProof.Rows.boot_zip (PyProof.Rows.callWith_type1 (thn (ha.run pos pins s σ H _ I h) ?_) hs hpl))
  rintro us s1 ⟨vs, H1, I1, r1, a, b, xs, ys, rfl, hqx, hqy, hq⟩
  cases r1 with
  | cons r t =>
    cases t with
    | cons r2 t2 =>
      cases t2
      cases r
      cases r2
      obtain ⟨its, rv, p1, _⟩ := I1.tuple hqx
      obtain ⟨jts, rw2, p2, _⟩ := I1.list hqy
      have la : a < s1.heap.objs.size := by
        obtain ⟨_, e, _⟩ := id p1
        exact Heap.lt_size e
      have D := PySem.W.ktu_apart s1.heap.objs.size a b la p2.lt
      refine zip_begins2 (begins_tuple a its.toArray) (begins_list b jts.toArray) p1 p2.isList fun h' hz hTI hTO g1 g2 hsz kept => wpAny_pyIter_zip hz ?_
      have I2 : Inv X pins σ H1 { s1 with heap := h' } := I1.kept (t' := s1.toks) kept
      refine ⟨_, [s1.heap.objs.size + 4, s1.heap.objs.size + 2, s1.heap.objs.size + 3, s1.heap.objs.size, s1.heap.objs.size + 1], _, _, H1, rfl, I2, turn_zipM D, ⟨hz, hTI, ⟨_, _, hTO⟩, ⟨_, g1, rfl, rfl⟩, ⟨_, g2, rfl, rfl⟩⟩, fun c hc => ?_, hq⟩
      have le : s1.heap.objs.size ≤ c := by
        simp only [List.mem_cons, List.not_mem_nil, or_false] at hc
        rcases hc with rfl | rfl | rfl | rfl | rfl <;> first | exact Nat.le_add_right _ _ | exact Nat.le_refl _
      exact I1.fpOk le (I1.hok.fresh le)
theorem it_zipM {M : Addr → Prop} {B : Gr} {K : PySem.W.Frag} {H : Hp} {a b : Addr} {xs ys : List V} {l m : List PyData} (n : ¬ M a) (e : H a = some (.tup xs)) (h : DtA M H xs l) (n2 : ¬ M b) (e2 : H b = some (.lst ys)) (h2 : DtA M H ys m) : ItOk M B H (ItzM K a b) (zipD l m) := fun M2 H2 g2 k i => by
  have ea := (k _ _ n e).2
  have eb := (k _ _ n2 e2).2
  rw [zipD_len]
  refine ⟨fun hi => ⟨xs, ys, SqT.of ea, SqL.of eb, by rw [h.length, h2.length]; exact hi⟩, fun hi => ?_⟩
  have l1 : i < l.length := by omega
  have l2 : i < m.length := by omega
  obtain ⟨v, hv, r⟩ := DtA.get i h (List.getElem?_eq_getElem l1)
  obtain ⟨u, hu, r2⟩ := DtA.get i h2 (List.getElem?_eq_getElem l2)
  refine ⟨⟨xs, ys, v, u, SqT.of ea, SqL.of eb, hv, hu⟩, fun x H3 ⟨T, x', y', ex, hT, eH, f1, f2⟩ => ?_⟩
  have q1 := f1 xs (SqT.of ea)
  rw [hv] at q1
  cases q1
  have q2 := f2 ys (SqL.of eb)
  rw [hu] at q2
  cases q2
  subst ex eH
  exact ⟨g2.new hT, Keep.new hT, _, zipD_at (List.getElem?_eq_getElem l1) (List.getElem?_eq_getElem l2), Dt.newT g2 hT (.cons (r.map k) (.cons (r2.map k) .nil))⟩
def diZipM (t : TDL) : TDL := fun ds Q => t ds fun l => match l with
  | [.tuple a, .list b] => dSize a.length ∧ Q (zipD a b)
  | _ => False
theorem di_zipM (K : PySem.W.Frag) {X : Cx} {B : Gr} {e e2 : Expr} {ta : TA} {p pos tpos : Pos} {elts : List Expr} {kk : Nat} {l : TDL} (hg : Gl X "zip") (hm : X.mg "zip" = none) (ha : PDL X B [e, e2] ta l)
    (hs : starEach [e, e2] X.env = (false, eval e X.env) :: starEach [e2] X.env := by rfl) (hpl : (backTo pos (starEach [e2] X.env)).any (·.1) = false := by rfl) (hK : X.K = K := by rfl) :
    PDI X B (.Tuple elts kk tpos) (.Call (.Name "zip" p) [e, e2] [] pos) (iZipM K ta) (diZipM l) := by
  subst hK
  refine ⟨pi_zipM hg hm ha.pa hs hpl, fun M σ H ds Q R g en q c => ha.sl M σ H ds _ _ g en q fun vs H1 l' g1 k1 hl q1 => ?_⟩
  split at q1
  · cases hl with
    | cons h1 t1 => cases t1 with
      | cons h2 t2 =>
        cases t2
        cases h1 with
        | tup n e a =>
          cases h2 with
          | lst n2 e2 a2 => exact ⟨_, _, _, _, rfl, SqT.of e, SqL.of e2, c _ H1 _ g1 k1 (it_zipM n e a n2 e2 a2) (by rw [zipD_len]; exact Nat.le_trans (Nat.min_le_left _ _) q1.1.le) q1.2⟩
  · exact q1.elim
end DL
namespace DL
open PySem L2 PyProof.Rows
section
variable {X : Cx} {B : Gr} {pos : Pos}
/-- x, y = [], [] -/
def sParNN (i j : Nat) : TDS := fun DD ds => DD.nx ((ds.set i (some (.grow []))).set j (some (.grow [])))
theorem ds_parNN {i j : Nat} {x y : Str} {px py pt p1 p2 : Pos} {kt k2 pt2} (hc : X.calm = true) (hN : X.N.Nodup) (hi : X.N[i]? = some x) (hj : X.N[j]? = some y) (hij : i ≠ j)
    (hx : X.env.scope.names.lookup x = some .local) (hy : X.env.scope.names.lookup y = some .local)
    (hw : swappedStores [.Tuple [.Name x px, .Name y py] kt pt] (.Tuple [.List [] p1, .List [] p2] k2 pt2) X.env = pure (some [x, y]))
    (hs : swapsWithSole [.Tuple [.Name x px, .Name y py] kt pt] (.Tuple [.List [] p1, .List [] p2] k2 pt2) pos.line X.env = pure false := by rfl)
    (h1 : starEach [.List [] p1, .List [] p2] X.env = (false, eval (.List [] p1) X.env) :: starEach [.List [] p2] X.env := by rfl) (h2 : starEach [.List [] p2] X.env = (false, eval (.List [] p2) X.env) :: starEach [] X.env := by rfl) :
    PDS X B (.Assign [.Tuple [.Name x px, .Name y py] kt pt] (.Tuple [.List [] p1, .List [] p2] k2 pt2) pos) (tPar i j (tCons (tLst tNil) (tCons (tLst tNil) tNil))) (sParNN i j) :=
  ⟨ps_par hc hN hi hj hij hx hy (pa_cons (pe_lst pa_nil) (pa_cons (pe_lst pa_nil) pa_nil h2) h1) hw hs, fun M σ H ds DD D en o q c => by
    refine ⟨Nat.zero_le _, fun p hp => ⟨Nat.zero_le _, fun p' hp' => ⟨_, _, rfl, ?_⟩⟩⟩
    have first : ContE B M H (fun ds' => ds' = ds.set i (some (.grow []))) (fun σ' H' => ∃ M' ds', Ent B M' H' ∧ Stay M H M' H' ∧ EnvO M' B H' σ' ds' ∧ ds' = ds.set i (some (.grow []))) :=
      fun M' σ' H' ds' e s o' z => ⟨M', ds', e, s, o', z⟩
    obtain ⟨M', ds', e', s', o', rfl⟩ := first.new (i := i) (p := p) (l := []) (xs := []) en o hp .nil rfl
    exact (c.nx.stay s').new (i := j) (l := []) (xs := []) e' o' hp' .nil q⟩
end
theorem inD_int {i : Int} : ∀ {ns : List Int}, inD (.int i) (ns.map PyData.int) = decide (i ∈ ns)
  | [] => rfl
  | n :: ns => by
    have ih := inD_int (i := i) (ns := ns)
    unfold inD at ih ⊢
    rw [List.map_cons, List.any_cons, ih, Bool.eq_iff_iff]
    simp only [eqD, Bool.or_eq_true, beq_iff_eq, decide_eq_true_eq, List.mem_cons]
    exact ⟨fun h => h.imp Eq.symm id, fun h => h.imp Eq.symm id⟩
theorem flat_ints (ns : List Int) : (ns.map PyData.int).all flatD = true := by
  rw [List.all_eq_true]
  intro x hx
  obtain ⟨i, _, rfl⟩ := List.mem_map.mp hx
  rfl
/-- how many of the numbers are at most g -/
def cnt (ns : List Int) (g : Int) : Int := ((ns.filter fun n => decide (n ≤ g)).length : Nat)
theorem cnt_le_aux : ∀ (g : Nat) (ns : List Int), ns.Nodup → (∀ n ∈ ns, 1 ≤ n) → (ns.filter fun n => decide (n ≤ (g : Int))).length ≤ g
  | 0, ns, _, h => by
    rw [List.filter_eq_nil_iff.mpr]
    · exact Nat.le_refl _
    · intro n hn
      have := h n hn
      simp only [decide_eq_true_eq]
      omega
  | g + 1, ns, nd, h => by
    have one : ∀ (l : List Int), l.Nodup → (l.filter fun n => decide (n ≤ ((g + 1 : Nat) : Int))).length ≤ (l.filter fun n => decide (n ≤ (g : Int))).length + (if ((g + 1 : Nat) : Int) ∈ l then 1 else 0) := by
      intro l
      induction l with
      | nil => intro _; exact Nat.zero_le _
      | cons a l ih =>
        intro nd
        obtain ⟨na, nl⟩ := List.nodup_cons.mp nd
        have ih := ih nl
        by_cases e : a = ((g + 1 : Nat) : Int)
        · subst e
          rw [List.filter_cons_of_pos (by simp), List.filter_cons_of_neg (by simp only [decide_eq_true_eq]; omega), if_pos (List.mem_cons_self ..)]
          rw [if_neg na] at ih
          simp only [List.length_cons]
          omega
        · have m : (((g + 1 : Nat) : Int) ∈ a :: l) ↔ (((g + 1 : Nat) : Int) ∈ l) := by
            rw [List.mem_cons]
            exact ⟨fun z => z.elim (fun w => absurd w.symm e) id, .inr⟩
          simp only [m]
          by_cases c : a ≤ (g : Int)
          · rw [List.filter_cons_of_pos (by simp only [decide_eq_true_eq]; omega), List.filter_cons_of_pos (by simpa using c)]
            simp only [List.length_cons]
            omega
          · rw [List.filter_cons_of_neg (by simp only [decide_eq_true_eq]; omega), List.filter_cons_of_neg (by simpa using c)]
            exact ih
    have := one ns nd
    have ih := cnt_le_aux g ns nd h
    split at this <;> omega
theorem cnt_le {ns : List Int} {g : Int} (nd : ns.Nodup) (h : ∀ n ∈ ns, 1 ≤ n) : 0 ≤ cnt ns g ∧ (cnt ns g ≤ g ∨ (g ≤ 0 ∧ cnt ns g = 0)) := by
  refine ⟨Int.natCast_nonneg _, ?_⟩
  rcases Int.lt_or_le g 1 with z | z
  · refine .inr ⟨by omega, ?_⟩
    unfold cnt
    rw [List.filter_eq_nil_iff.mpr]
    · rfl
    · intro n hn
      have := h n hn
      simp only [decide_eq_true_eq]
      omega
  · refine .inl ?_
    have := cnt_le_aux g.toNat ns nd h
    unfold cnt
    rw [Int.toNat_of_nonneg (by omega)] at this
    omega
/-! ### nested data that may be compared and shown -/
structure Shp (d : PyData) (dep sz : Nat) : Prop where
  lay : d.canLay0 = true
  dp : d.depth ≤ dep
  sw : d.showable = true
  sz : d.shown.length ≤ sz
theorem Leaf.shp {d : PyData} (h : Leaf d) : Shp d 0 2000 := ⟨h.lay, Nat.le_of_eq h.dp, h.sw, h.sz⟩
theorem Shp.all {dep sz : Nat} : ∀ {l : List PyData}, (∀ x ∈ l, Shp x dep sz) → PyData.canLayAll0 l = true ∧ PyData.depthAll l ≤ dep ∧ PyData.showableAll l = true ∧ ((PyData.shownAll l).map (·.length)).sum ≤ sz * l.length
  | [], _ => by simp [PyData.canLayAll0, PyData.depthAll, PyData.showableAll, PyData.shownAll]
  | x :: l, h => by
    obtain ⟨h1, h2, h3, h4⟩ := Shp.all (l := l) fun y hy => h y (List.mem_cons_of_mem _ hy)
    have hx := h x (List.mem_cons_self ..)
    refine ⟨?_, ?_, ?_, ?_⟩
    · simp only [PyData.canLayAll0, hx.lay, h1, Bool.and_self]
    · simp only [PyData.depthAll]
      have := hx.dp
      omega
    · simp only [PyData.showableAll, hx.sw, h3, Bool.and_self]
    · simp only [PyData.shownAll_cons, List.map_cons, List.sum_cons, List.length_cons]
      have := hx.sz
      have e : sz * (l.length + 1) = sz * l.length + sz := Nat.mul_succ ..
      rw [e]
      omega
theorem Shp.tup {dep sz n : Nat} {l : List PyData} (h : ∀ x ∈ l, Shp x dep sz) (hl : l.length ≤ n) : Shp (.tuple l) (dep + 1) (sz * n + 2 * n + 3) := by
  obtain ⟨h1, h2, h3, h4⟩ := Shp.all h
  refine ⟨?_, ?_, ?_, ?_⟩
  · simp only [PyData.canLay0, h1]
  · simp only [PyData.depth]
    omega
  · simp only [PyData.showable, h3]
  · have e : (PyData.tuple l).shown = tupleText (PyData.shownAll l) := by simp only [PyData.shown]
    have b := tupleText_len_le (PyData.shownAll l)
    have c := PyData.shownAll_length l
    have m : sz * l.length ≤ sz * n := Nat.mul_le_mul_left _ hl
    rw [e]
    omega
theorem Shp.lst {dep sz n : Nat} {l : List PyData} (h : ∀ x ∈ l, Shp x dep sz) (hl : l.length ≤ n) : Shp (.list l) (dep + 1) (sz * n + 2 * n + 3) := by
  obtain ⟨h1, h2, h3, h4⟩ := Shp.all h
  refine ⟨?_, ?_, ?_, ?_⟩
  · simp only [PyData.canLay0, h1]
  · simp only [PyData.depth]
    omega
  · simp only [PyData.showable, h3]
  · have e : (PyData.list l).shown = listText (PyData.shownAll l) := by simp only [PyData.shown]
    have b := listText_len_le (PyData.shownAll l)
    have c := PyData.shownAll_length l
    have m : sz * l.length ≤ sz * n := Nat.mul_le_mul_left _ hl
    rw [e]
    omega
theorem Shp.ok {d : PyData} {dep sz : Nat} (h : Shp d dep sz) (h1 : dep ≤ 60) (h2 : sz ≤ 1000000) : OkD d := by
  have hd := h.dp
  refine ⟨?_, h.sw, by omega, Nat.le_trans h.sz h2⟩
  unfold SeqAt.shaped
  rw [h.lay, Bool.true_and, decide_eq_true_eq]
  omega
theorem eqv_rfl {d : PyData} (h : OkD d) : PyData.eqv d d = true := SeqAt.eqv_refl d (SeqAt.canLay_of_shaped h.sh)
end DL
namespace DL
open PySem PySem.Spec L2 PyProof.Rows
/-! ### == of instances by their own __eq__; isinstance of the class; range with a step -/
def rEqI (C : Addr) (sp : Sp) : R2 := fun x y H Q => ∃ a b dx dy fs gs, x = .ref a ∧ y = .ref b ∧ H a = some (.ins C dx fs) ∧ H b = some (.ins C dy gs) ∧ sp [.ref a, .ref b] H (fun v H' => (∃ k, v = .bl k) ∧ Q v H') E0
section
variable {X : Cx} {B : Gr} {n : Nat} {f C : Addr} {fd : FuncData} {ps : List Str} {sp : Sp} {pos p p2 : Pos} {a b e : Expr} {ta tb te : TE} {da db td : TDE}
theorem op_eqI (F : FnG X.prog X.w X.K X.mg X.base n f fd ps sp) (hG : X.A.guards = some []) (hr : Room n X.A) (hb : Binds X.K fd ps []) (m : Meth X.K C "__eq__" f) : OpR X (compareOp .Eq) (rEqI C sp) := by
  rintro pins s σ H x y v u Q I rx ry ⟨a, b, dx, dy, fs, gs, rfl, rfl, ha, hb', hsp⟩
  cases rx
  cases ry
  obtain ⟨_, J, -⟩ := ins_get I.hok ha
  obtain ⟨_, J', -⟩ := ins_get I.hok hb'
  obtain ⟨_, L1, -⟩ := J.look
  obtain ⟨_, L2', -⟩ := J'.look
  obtain ⟨_, fr⟩ := I.fr
  have go := run_fnG (us := [.ref a, .ref b]) (vs := [.ref a, .ref b]) F hG hr hb I (.cons rfl (.cons rfl .nil)) hsp
  show wpAny _ _ (richCompare .Eq (.ref a) (.ref b)) _ _ _
  refine PySem.W.cmp_K (op := .Eq) (tb := .ref C) hr.units0 fr I.ok.mod.kin L1 L2'.type (by simp [PySem.W.notFirst]) m.at_ m.fn (wpAny_mono go (fun w s' z => ?_) fun _ _ q => q)
  obtain ⟨v, H', J2, rv, ⟨k, rfl⟩, q⟩ := z
  cases rv
  exact ⟨.bl k, H', J2, rfl, q⟩
end
end DL
namespace DL
open PySem PySem.Spec L2 PyProof.Rows
/-- what isinstance asks of the class -/
structure IsiC (K : PySem.W.Frag) (C : Addr) : Prop where
  ha : PySem.W.findIn K (.ref C) "__class__" = some (some (.builtin "object.__class__"))
  hn : PySem.W.specialIn K (.builtin "object.__class__") "__get__" = some (some (.builtin "getset_descriptor.__get__"))
  htk : PySem.W.takesIn K (.builtin "object.__class__") = some true
  hm : PySem.W.mroIn K C (.type "object") = some true
  kit : PySem.W.kitOne K (.ref C) (.ref C) = some true
def dEqB (C : Addr) (R : DR) (a b : TDE) : TDE := fun ds Q => a ds fun x => b ds fun y => ∃ n l m k, x = brdD C n l ∧ y = brdD C m k ∧ R [.dat (brdD C n l), .dat (brdD C m k)] fun d => (∃ k, d = .bool k) ∧ Q d
def dIsiB (C : Addr) (t : TDE) : TDE := fun ds Q => t ds fun d => ∃ n l, d = brdD C n l ∧ Q (.bool true)
section
variable {X : Cx} {B : Gr} {n : Nat} {f C : Addr} {fd : FuncData} {ps : List Str} {R : DR} {pos p p2 : Pos} {a b e : Expr} {ta tb te : TE} {da db td : TDE}
theorem d_eqB (F : FnG X.prog X.w X.K X.mg X.base n f fd ps (spD R)) (hG : X.A.guards = some []) (hr : Room n X.A) (hb : Binds X.K fd ps []) (m : Meth X.K C "__eq__" f) (h1 : PD X B a ta da) (h2 : PD X B b tb db) (hm : behindInMarks .Eq b = false := by exact nomark _) :
    PD X B (.Compare a [.Eq] [b] pos) (tOp (rEqI C (spD R)) ta tb) (dEqB C R da db) :=
  ⟨pe_cmpR (op_eqI F hG hr hb m) h1.pe h2.pe hm, fun M σ H ds Q W g en q c => h1.se M σ H ds _ _ g en q fun v H1 x g1 k1 hx q1 => h2.se M σ H1 ds _ _ g1 (en.keep g.1 k1) q1 fun u H2 y g2 k2 hy q2 => by
    obtain ⟨n, l, m, k, rfl, rfl, q3⟩ := q2
    have hx2 := hx.keep g1.1 k2
    have hxd := hx2
    have hyd := hy
    cases hx2 with
    | brd n1 n2 e1 e2 n3 e3 a1 =>
      cases hy with
      | brd n4 n5 e4 e5 n6 e6 a2 =>
        refine ⟨_, _, _, _, _, _, rfl, rfl, e1, e4, M, B, _, _, .cons (.dat hxd) (fun _ z => nomatch z) (.cons (.dat hyd) (fun _ z => nomatch z) .nil), g2, q3, fun w H3 d g3 k3 hd z => ?_⟩
        obtain ⟨⟨kk, rfl⟩, z⟩ := z
        cases hd
        exact ⟨⟨kk, rfl⟩, c _ H3 _ g3 (k1.trans (k2.trans k3)) (.bl kk) z⟩⟩
theorem dt_eqB (F : FnG X.prog X.w X.K X.mg X.base n f fd ps (spD R)) (hG : X.A.guards = some []) (hr : Room n X.A) (hb : Binds X.K fd ps []) (m : Meth X.K C "__eq__" f) (h1 : PD X B a ta da) (h2 : PD X B b tb db) (hm : behindInMarks .Eq b = false := by exact nomark _) :
    PDT X B (.Compare a [.Eq] [b] pos) (tTest (tOp (rEqI C (spD R)) ta tb)) (dTest (dEqB C R da db)) :=
  ⟨pt_cmpR (op_eqI F hG hr hb m) h1.pe h2.pe hm, st_test (d_eqB (pos := pos) F hG hr hb m h1 h2 hm).se⟩
theorem d_isiB (K : PySem.W.Frag) {x : Str} (cl : Cls K C) (ic : IsiC K C) (he : PD X B e te td) (hg : Gl X "isinstance") (hm : X.mg "isinstance" = none) (hgT : Gl X x) (hmT : X.mg x = some (.ref C))
    (hK : X.K = K := by rfl) (hd : (x == ("__debug__" : Str)) = false := by decide) (hs : starEach [e, .Name x p2] X.env = (false, eval e X.env) :: starEach [.Name x p2] X.env := by rfl) :
    PD X B (.Call (.Name "isinstance" p) [e, .Name x p2] [] pos) (tCB (rIsi K) (tCons te (tCons (tC (.ref C)) tNil))) (dIsiB C td) := by
  subst hK
  refine ⟨pe_callB call_isi hg hm PyProof.Rows.boot_isinstance (pa_cons he.pe (pa_cons (pe_glob hgT hmT rfl hd) pa_nil rfl) hs) (by decide) (by decide) hs rfl, fun M σ H ds Q R g en q c => he.se M σ H ds _ _ g en q fun v H1 d g1 k1 hd q1 => ?_⟩
  obtain ⟨n, l, rfl, q2⟩ := q1
  cases hd with
  | brd n1 n2 e1 e2 n3 e3 a => exact ⟨_, _, _, _, true, rfl, .own C, .base (.ins e1 cl ic.ha ic.hn ic.htk ic.hm), ic.kit, c _ H1 _ g1 k1 (.bl true) q2⟩
def rangeS (lo c : Int) (n : Nat) : List PyData := (List.range n).map fun (i : Nat) => PyData.int (lo + (i : Int) * c)
theorem it_rangeS {M : Addr → Prop} {B : Gr} {H : Hp} (lo c : Int) (n : Nat) : ItOk M B H (Itc lo c n) (rangeS lo c n) := fun M2 H2 g2 k i => by
  have hl : (rangeS lo c n).length = n := by unfold rangeS; rw [List.length_map, List.length_range]
  rw [hl]
  refine ⟨fun hi => Nat.le_of_eq hi.symm, fun hi => ⟨hi, fun x H3 y => ?_⟩⟩
  obtain ⟨rfl, rfl⟩ := y
  refine ⟨g2, Keep.refl, _, ?_, .int _⟩
  unfold rangeS
  rw [List.getElem?_map, List.getElem?_range hi]
  rfl
def diR3 (t : TDL) : TDL := fun ds Q => t ds fun l => match l with
  | [.int i, .int j, .int c] => ∃ n, RgC i j c n ∧ n ≤ 1000000 ∧ Q (rangeS i c n)
  | _ => False
theorem di_range3 {tg a b c : Expr} {ta : TA} {p : Pos} {l : TDL} (hg : Gl X "range") (hm : X.mg "range" = none) (ha : PDL X B [a, b, c] ta l)
    (hs : starEach [a, b, c] X.env = (false, eval a X.env) :: starEach [b, c] X.env := by rfl) (hpl : (backTo pos (starEach [b, c] X.env)).any (·.1) = false := by rfl) : PDI X B tg (.Call (.Name "range" p) [a, b, c] [] pos) (iRng3 ta) (diR3 l) :=
  ⟨pi_range3 hg hm ha.pa hs hpl, fun M σ H ds Q R g en q k => ha.sl M σ H ds _ _ g en q fun vs H1 l' g1 k1 hl q1 => by
    split at q1
    · obtain ⟨n, rg, n0, q2⟩ := q1
      cases hl with
      | cons h1 t1 => cases t1 with
        | cons h2 t2 => cases t2 with
          | cons h3 t3 =>
            cases t3
            cases h1
            cases h2
            cases h3
            refine ⟨_, _, _, n, rfl, rg, k _ H1 _ g1 k1 (it_rangeS _ _ n) ?_ q2⟩
            unfold rangeS
            rw [List.length_map, List.length_range, sizeLine_eq]
            omega
    · exact q1.elim⟩
end
/-! ### slices of mapped lists -/
theorem cut_to {α : Type} {f : α → PyData} {ts : List α} {i : Nat} : cutD (ts.map f) none (some (i : Int)) = (ts.take i).map f := by
  unfold cutD
  rw [HT.sIx_none, HT.sIx_nat, List.drop_zero, Nat.sub_zero, ← List.map_take]
  congr 1
  rw [List.length_map]
  rcases Nat.le_total i ts.length with h | h
  · rw [Nat.min_eq_left h]
  · rw [Nat.min_eq_right h, List.take_of_length_le h, List.take_length]
theorem cut_from {α : Type} {f : α → PyData} {ts : List α} {i : Nat} : cutD (ts.map f) (some (i : Int)) none = (ts.drop i).map f := by
  unfold cutD
  rw [HT.sIx_none, HT.sIx_nat, ← List.map_drop, ← List.map_take]
  congr 1
  rw [List.length_map]
  rcases Nat.le_total i ts.length with h | h
  · rw [Nat.min_eq_left h]
    rw [List.take_of_length_le (by rw [List.length_drop]; exact Nat.le_refl _)]
  · rw [Nat.min_eq_right h, List.drop_length, List.drop_eq_nil_of_le h, List.take_nil]
end DL
namespace DL
open PySem L2 PyProof.Rows
theorem Good.updI {M : Addr → Prop} {B : Gr} {x : Addr} {H : Hp} {C dx : Addr} {fs : List (Str × V)} {o : HO} (g : Good M B H) (nx : ¬ M x) (xB : x ≠ B) (e : H x = some (.ins C dx fs)) (f0 : B.H0 x = none) (f1 : B.H1 x = none) : Good M B (upd H x o) := by
  obtain ⟨m, md, ⟨b0, b1, b2, q, ns, h1, h2, h3, h4⟩, d⟩ := g
  have qx : q ≠ x := fun z => by
    rw [z, e] at h3
    cases h3
  refine ⟨m, fun a ma => ?_, ⟨b0, b1, b2, q, ns, by rw [upd_ne xB.symm]; exact h1, h2, by rw [upd_ne qx]; exact h3, h4⟩, d.g0, d.m0, d.sub, ⟨fun b u n hb => ?_, fun q' hq => by rw [bagq_upd xB]; exact d.keep.q q' hq⟩, d.stay, fun b u n hb => ⟨(d.st b u n hb).1, by rw [upd_ne (fun z => by rw [z, f1] at hb; cases hb)]; exact (d.st b u n hb).2⟩, fun b u hb => by
    obtain ⟨u2, e2⟩ := d.al b u hb
    exact al_upd e2⟩
  · obtain ⟨u, hu⟩ := md a ma
    exact ⟨u, by rw [upd_ne (fun z => nx (by rw [← z]; exact ma))]; exact hu⟩
  · rw [upd_ne (fun z => by rw [z, f0] at hb; cases hb)]
    exact d.keep.k b u n hb
theorem with_flds {v u u' : V} : putF "_terms" u' ([("_size", v), ("_terms", u)] : List (Str × V)) = ([("_size", v), ("_terms", u')] : List (Str × V)) := by
  show (if ("_size" : Str) = "_terms" then _ else (("_size" : Str), v) :: (if ("_terms" : Str) = "_terms" then [(("_terms" : Str), u')] else (("_terms" : Str), u) :: putF "_terms" u' [])) = ([("_size", v), ("_terms", u')] : List (Str × V))
  rw [if_neg (by decide +kernel), if_pos rfl]
def withR (C : Addr) : DR := fun xs Q => ∃ (n : Int) (l l2 : List PyData), xs = [.dat (brdD C n l), .dat (.list l2)] ∧ 1 ≤ n ∧ n ≤ 8 ∧ Q (brdD C n l2)
def alsoR (C : Addr) : DR := fun xs Q => ∃ (n : Int) (ts : List Tm) (t : Tm), xs = [.dat (brdD C n (ts.map Tm.py)), .dat t.py] ∧ 1 ≤ n ∧ n ≤ 8 ∧ ts.length ≤ 1000 ∧ Q (brdD C n ((ts ++ [t]).map Tm.py))
def withoutR (C : Addr) : DR := fun xs Q => ∃ (n : Int) (ts : List Tm) (i : Nat), xs = [.dat (brdD C n (ts.map Tm.py)), .dat (.int i)] ∧ 1 ≤ n ∧ n ≤ 8 ∧ ts.length ≤ 1000 ∧ Q (brdD C n ((ts.take i ++ ts.drop (i + 1)).map Tm.py))
def brdMovR (C : Addr) : DR := fun xs Q => ∃ (n : Int) (ts : List Tm) (i : Nat) (b : Int) (t : Tm), xs = [.dat (brdD C n (ts.map Tm.py)), .dat (.int i), .dat (.int b)] ∧ ts[i]? = some t ∧ 1 ≤ n ∧ n ≤ 8 ∧ ts.length ≤ 1000 ∧ Q (brdD C n ((ts.take i ++ [t.mov b] ++ ts.drop (i + 1)).map Tm.py))
def brdMirR (C : Addr) : DR := fun xs Q => ∃ (n : Int) (ts : List Tm), xs = [.dat (brdD C n (ts.map Tm.py))] ∧ 1 ≤ n ∧ n ≤ 8 ∧ ts.length ≤ 1000 ∧ Q (brdD C n ((ts.map Tm.mir).map Tm.py))
def brdTermsR (C : Addr) : DR := fun xs Q => ∃ (n : Int) (l : List PyData), xs = [.dat (brdD C n l)] ∧ Q (.list l)
def brdSizeR (C : Addr) : DR := fun xs Q => ∃ (n : Int) (l : List PyData), xs = [.dat (brdD C n l)] ∧ Q (.int n)
def brdEqR (C : Addr) : DR := fun xs Q => ∃ (n : Int) (l : List PyData), xs = [.dat (brdD C n l), .dat (brdD C n l)] ∧ OkD (.list l) ∧ Q (.bool true)
theorem cut_from1 {α : Type} {f : α → PyData} {ts : List α} {i : Nat} : cutD (ts.map f) (some ((i : Int) + 1)) none = (ts.drop (i + 1)).map f := cut_from (i := i + 1)
/-- a step of six -/
theorem rg6 {o m : Int} (o0 : 0 ≤ o) (o1 : o < 100) (m0 : 0 ≤ m) (m1 : m < 100) : ∃ n : Nat, RgC o m 6 n ∧ n ≤ 100 ∧ ∀ k : Nat, k < n → o + (k : Int) * 6 < m := by
  refine ⟨(Builtin.Range.rangeSize o m 6).toNat, ⟨by decide, by decide, ?_, ?_⟩, ?_, ?_⟩
  · have fit : ∀ i : Int, 0 ≤ i → i < 1000 → Builtin.Range.rangeFitsLong i = true := fun i h0 h1 => by
      unfold Builtin.Range.rangeFitsLong
      rw [Bool.and_eq_true, decide_eq_true_eq, decide_eq_true_eq]
      omega
    have sz : 0 ≤ Builtin.Range.rangeSize o m 6 ∧ Builtin.Range.rangeSize o m 6 < 1000 := by
      unfold Builtin.Range.rangeSize
      rw [if_pos (by decide)]
      split <;> omega
    unfold Builtin.Range.small
    rw [fit o o0 (by omega), fit m m0 (by omega), fit 6 (by decide) (by decide), fit _ sz.1 sz.2, if_pos (by decide), fit (m + (6 - 1)) (by omega) (by omega), Bool.or_true]
    rfl
  · unfold Builtin.Range.rangeSize
    rw [if_pos (by decide)]
    split <;> omega
  · unfold Builtin.Range.rangeSize
    rw [if_pos (by decide)]
    split <;> omega
  · intro k hk
    unfold Builtin.Range.rangeSize at hk
    rw [if_pos (by decide)] at hk
    split at hk <;> omega
def toldOnR (C : Addr) : DR := fun xs Q => ∃ (n : Int) (ts : List Tm) (ss : List Int), xs = [.bag, .dat (brdD C n (ts.map Tm.py)), .dat (.list (ts.map Tm.py)), .dat (.tuple (ss.map .int))] ∧ 1 ≤ n ∧ n ≤ 8 ∧ ss.length < 1000 ∧ Fine ts ss ∧ (∀ t ∈ ts, -(10 ^ 18) ≤ t.low ∧ t.high ≤ 10 ^ 18) ∧ Q (.bool true)
/-- terms may be compared and shown -/
theorem Tm.Fair.items {t : Tm} {n : Nat} (h : t.Fair n) (hn : n < 1000) : ∀ x ∈ t.items, Leaf x := by
  have m : t.Mids := Tm.mids_of h.inn (by omega) h.fr (by decide) ⟨by have := h.lo; omega, by have := h.lh; have := h.hi; omega⟩ ⟨by have := h.lh; have := h.lo; omega, by have := h.hi; omega⟩
  intro x hx
  cases t with
  | wish d l h' f =>
    simp only [Tm.items, List.mem_cons, List.not_mem_nil, or_false] at hx
    obtain ⟨h1, h2, h3, h4⟩ := m
    rcases hx with rfl | rfl | rfl | rfl | rfl <;> first | exact leaf_wish | (apply leafI; assumption)
  | tie d o l h' f =>
    simp only [Tm.items, List.mem_cons, List.not_mem_nil, or_false] at hx
    obtain ⟨h1, h2, h3, h4, h5⟩ := m
    rcases hx with rfl | rfl | rfl | rfl | rfl | rfl <;> first | exact leaf_tie | (apply leafI; assumption)
  | stop d l h' =>
    simp only [Tm.items, List.mem_cons, List.not_mem_nil, or_false] at hx
    obtain ⟨h1, h2, h3⟩ := m
    rcases hx with rfl | rfl | rfl | rfl <;> first | exact leaf_stop | (apply leafI; assumption)
  | bar d o l h' =>
    simp only [Tm.items, List.mem_cons, List.not_mem_nil, or_false] at hx
    obtain ⟨h1, h2, h3, h4⟩ := m
    rcases hx with rfl | rfl | rfl | rfl | rfl <;> first | exact leaf_bar | (apply leafI; assumption)
theorem shpTerms {ts : List Tm} {n : Nat} (hl : ts.length ≤ 24) (hn : n < 1000) (h : ∀ t ∈ ts, t.Fair n) : Shp (.list (ts.map Tm.py)) 2 ((2000 * 6 + 2 * 6 + 3) * 24 + 2 * 24 + 3) :=
  Shp.lst (dep := 1) (fun x hx => by
    obtain ⟨t, ht, rfl⟩ := List.mem_map.mp hx
    exact Shp.tup (dep := 0) (n := 6) (fun y hy => ((h t ht).items hn y hy).shp) t.items_len) (by rw [List.length_map]; exact hl)
theorem okTerms {ts : List Tm} {n : Nat} (hl : ts.length ≤ 24) (hn : n < 1000) (h : ∀ t ∈ ts, t.Fair n) : OkD (.list (ts.map Tm.py)) := (shpTerms hl hn h).ok (by decide) (by decide)
theorem ne_list {a b : List PyData} {Q : PyData → Prop} (ok : OkD (.list a)) (e : b = a) (h : Q (.bool false)) : rNeA (.list a) (.list b) Q := by
  subst e
  refine ⟨ok.sh, ok.sh, ?_⟩
  rw [eqv_rfl ok]
  exact h
theorem cut_out {α : Type} {f : α → PyData} {ts : List α} {k : Nat} : cutD (ts.map f) none (some (k : Int)) ++ cutD (ts.map f) (some ((k : Int) + 1)) none = (ts.take k ++ ts.drop (k + 1)).map f := by
  rw [cut_to, cut_from1, List.map_append]
theorem cut_put2 {α : Type} {f : α → PyData} {ts : List α} {k : Nat} {u : α} : cutD (ts.map f) none (some (k : Int)) ++ [f u] ++ cutD (ts.map f) (some ((k : Int) + 1)) none = (ts.take k ++ [u] ++ ts.drop (k + 1)).map f := by
  rw [cut_to, cut_from1, List.map_append, List.map_append]
  rfl
theorem Shp.mono {d : PyData} {a b m n : Nat} (h : Shp d a m) (h1 : a ≤ b) (h2 : m ≤ n) : Shp d b n := ⟨h.lay, Nat.le_trans h.dp h1, h.sw, Nat.le_trans h.sz h2⟩
theorem okSizeTerms {ts : List Tm} {n : Nat} {i : Int} (hi : Mid i) (hl : ts.length ≤ 24) (hn : n < 1000) (h : ∀ t ∈ ts, t.Fair n) : OkD (.list [.int i, .list (ts.map Tm.py)]) :=
  (Shp.lst (dep := 2) (sz := (2000 * 6 + 2 * 6 + 3) * 24 + 2 * 24 + 3) (n := 2) (fun x hx => by
    simp only [List.mem_cons, List.not_mem_nil, or_false] at hx
    rcases hx with rfl | rfl
    · exact (leafI hi).shp.mono (by decide) (by decide)
    · exact shpTerms hl hn h) (by simp)).ok (by decide) (by decide)
/-- boards of a size and the terms that they should have -/
def Pairs (C : Addr) (n : Int) (ss : List Int) (F D : List PyData) : Prop := F.length ≤ 100 ∧ ∀ x ∈ zipD F D, ∃ us : List Tm, x = .tuple [brdD C n (us.map Tm.py), .list (us.map Tm.py)] ∧ Fine us ss
theorem zipD_cons {a b : PyData} {F D : List PyData} : zipD (a :: F) (b :: D) = .tuple [a, b] :: zipD F D := rfl
theorem zipD_nil : zipD [] [] = [] := rfl
theorem negs_py (uu : List Int) : uu.map (fun x => PyData.int (-x)) = (negs uu).map .int := by
  unfold negs
  rw [List.map_map]
  rfl
theorem Fine.mir {ts : List Tm} {ss : List Int} (h : Fine ts ss) : Fine (ts.map Tm.mir) (negs ss) := ⟨by rw [List.length_map]; exact h.len, fun t ht => by
  obtain ⟨u, hu, rfl⟩ := List.mem_map.mp ht
  unfold negs
  rw [List.length_map]
  exact (h.good u hu).mir, fun x hx => by
  obtain ⟨y, hy, rfl⟩ := List.mem_map.mp hx
  have := h.mid y hy
  omega⟩
end DL
/-! ### enumerate of a tuple -/
namespace DL
open PySem PySem.Spec L2 PyProof.Rows
theorem meets_enum1 {v : Value} {o : Obj} {H : Heap → Prop} (B : Begins v o H) :
    Meets (Builtin.«enumerate.__new__» ⟨[.type "enumerate", v], []⟩) (fun _ R s => H s.heap ∧
      R (.ok (.ret (.ref (s.heap.push o).objs.size))) { s with heap := (s.heap.push o).push { cls := .type "enumerate", data := .fields #[.none, .bool false, .ref s.heap.objs.size, rawInt 0, .none, .none] } }) :=
  .of_wp fun prog w A R s h => by
    obtain ⟨hp, g, d, tk, os⟩ := s
    obtain ⟨h1, h⟩ := h
    have hsub := sub_enumerate
    have q1 : ∀ {A' : Around} {E : Value → Shared → Prop} {Q : Value → Shared → Prop}, Q (.ref hp.objs.size) ⟨hp.push o, g, d, tk, os⟩ → wpAny (model prog w) A' (pyIter v) Q E ⟨hp, g, d, tk, os⟩ :=
      fun q => B.iter prog w _ _ ⟨hp, g, d, tk, os⟩ _ h1 q
    wp_walk using q1
    refine wpAny_stack_any fun st => wpAny_pure ?_
    split
    · rename_i c _ _ _ _ _
      cases (c == Value.type "enumerate")
      · wp_walk using q1
        exact ⟨_, rfl, h⟩
      · wp_walk using q1
        exact ⟨_, rfl, h⟩
    · wp_walk using q1
      exact ⟨_, rfl, h⟩
theorem enum_begins1 {prog : Program} {w : World} {A : Around} {E : Value → Shared → Prop} {s : Shared} {v : Value} {o : Obj} {H : Heap → Prop} {Q : Value → Shared → Prop} (B : Begins v o H) (h1 : H s.heap)
    (h : ∀ h', IsEnum h' (s.heap.objs.size + 1) s.heap.objs.size 0 .none → h'.get? s.heap.objs.size = some o → h'.objs.size = s.heap.objs.size + 2 →
      (∀ b o, s.heap.get? b = some o → h'.get? b = some o) → Q (.ref (s.heap.objs.size + 1)) { s with heap := h' }) :
    wpAny (model prog w) A (call (.type "enumerate") [v]) Q E s := by
  refine callType_new F.called_enumerate (by decide) (F.typeCall_enumerate_1 _) (F.newCall_enumerate_1 _) (fun obj => F.args_object_init_2 obj _) F.entry_enumerate_new
    (meets_enum1 B) ⟨h1, ?_⟩
  have hz : (s.heap.push o).objs.size = s.heap.objs.size + 1 := Heap.size_push ..
  show _ ∧ _
  rw [hz]
  have he : IsEnum ((s.heap.push o).push { cls := .type "enumerate", data := .fields #[.none, .bool false, .ref s.heap.objs.size, rawInt 0, .none, .none] }) (s.heap.objs.size + 1) s.heap.objs.size 0 .none := by
    have := Heap.get?_push_size (s.heap.push o) (o := { cls := .type "enumerate", data := .fields #[.none, .bool false, .ref s.heap.objs.size, rawInt 0, .none, .none] }) rfl
    rw [hz] at this; exact this
  refine ⟨⟨_, he, rfl⟩, h _ he (Heap.get?_push_of_some _ (Heap.get?_push_size _ B.free)) (by rw [Heap.size_push, hz]) fun b o x => Heap.get?_push_of_some _ (Heap.get?_push_of_some _ x)⟩
/-- the tuple at a, each item with its index in a new pair -/
def IteT (K : PySem.W.Frag) (a : Addr) : It :=
  ⟨fun i H => ∃ (xs : List V) (x : V), SqT K H a xs ∧ xs[i]? = some x, fun i H v H' => ∃ T x, v = .ref T ∧ H T = none ∧ H' = upd H T (.tup [.int (i : Nat), x]) ∧ ∀ xs, SqT K H a xs → xs[i]? = some x, fun i H => ∃ xs : List V, SqT K H a xs ∧ xs.length = i⟩
theorem turn_enumT {P : Program} {w : World} {K : PySem.W.Frag} {elts : List Expr} {kk : Nat} {tpos : Pos} (a e it : Addr) (hai : a ≠ it) (hei : e ≠ it) (hea : e ≠ a) :
    Turn P w K (.Tuple elts kk tpos) (IteT K a) [e, it] e (fun i h => (∃ old, IsEnum h e it ((i : Nat) : Int) old) ∧ h.IsTupleIter it a i) where
  mem := by simp
  obj := fun i h st b hb => by
    obtain ⟨⟨old, he⟩, ⟨o, ho, hc, hd⟩⟩ := st
    have e' : b = e ∨ b = it := by simpa using hb
    rcases e' with z | z
    · rw [z]; exact ⟨_, he, fun v q => nomatch q⟩
    · rw [z]; exact ⟨o, ho, fun v q => by rw [hd] at q; cases q⟩
  keep := fun i h h' st k => let ⟨⟨old, he⟩, hi⟩ := st; ⟨⟨old, k e (by simp) _ he⟩, hi.at fun o q => k it (by simp) o q⟩
  item := by
    intro X hP hw hK hc i pins s σ H E I hf st hg
    subst hP hw hK
    obtain ⟨⟨old, he⟩, hit⟩ := st
    obtain ⟨xs, x, hq, hx⟩ := hg
    obtain ⟨its, rv, p, hz⟩ := I.tuple hq
    obtain ⟨u, hu, ru⟩ := rv.get hx
    have hel : e < s.heap.objs.size := Heap.lt_size he
    have hil : it < s.heap.objs.size := by obtain ⟨_, q, _⟩ := hit; exact Heap.lt_size q
    have hh : X.A.in1.handled = none := I.ok.hd hc
    have lt1 : i < its.toArray.size := by rw [List.size_toArray]; exact (List.getElem?_eq_some_iff.mp hu).1
    refine wpAny_pyNext_enum_itemD (Draws.tuple hh it a hai its.toArray) he ⟨hit, p⟩ lt1 hei (by simp [hei, hea]) fun u' h' tk eu ho st1 hT hsz hk => ?_
    obtain rfl : u = u' := by
      have : its.toArray[i]? = some u := by simpa using hu
      rw [this] at eu
      exact Option.some.inj eu
    refine ⟨_, rfl, wpAny_letOwnedTupleGo_enum (s := { s with heap := h', toks := tk + 1 }) ho fun h'' he' sb => ?_⟩
    have hT2 : h''.get? s.heap.objs.size = some { cls := .type "tuple", data := .seq #[.int i tk, u] } := (sb.2 _ (Nat.ne_of_gt hel)).trans hT
    have new : ObjOk X.prog X.w (upd H s.heap.objs.size (.tup [.int (i : Nat), x])) h'' s.heap.objs.size (.tup [.int (i : Nat), x]) :=
      ⟨by show 2 ≤ sizeLine; decide, [.int i tk, u], .cons ⟨_, rfl⟩ (.cons ru .nil), ⟨_, hT2, rfl, _, rfl⟩⟩
    have I1 : Inv X pins σ (upd H s.heap.objs.size (.tup [.int (i : Nat), x])) { s with heap := h'', toks := tk + 1 } :=
      I.turnedNew (ch := [e, it]) (fun b ob hb q => (sb.2 b (fun z => hb (by simp [z]))).trans (hk b ob (fun z => hb (by simp [z])) (fun z => hb (by simp [z])) q)) hf (Nat.le_refl _) new
    refine ⟨.ref s.heap.objs.size, _, I1, rfl, ⟨_, x, rfl, I.hok.fresh (Nat.le_refl _), rfl, fun ys hy => by rw [I.tuple_inj hy hq]; exact hx⟩, ⟨⟨u, ?_⟩, st1.1.at fun o q => (sb.2 it (Ne.symm hei)).trans q⟩, fun b hb => ?_⟩
    · have e1 : ((i + 1 : Nat) : Int) = (i : Int) + 1 := by omega
      rw [e1]; exact he'
    · have hb' : b < s.heap.objs.size := by
        have e' : b = e ∨ b = it := by simpa using hb
        rcases e' with z | z
        · rw [z]; exact hel
        · rw [z]; exact hil
      rw [upd_ne (Nat.ne_of_lt hb')]
      exact (hf b hb).1
  done := by
    intro X hP hw hK hc i pins s σ H E I hf st hg
    subst hP hw hK
    obtain ⟨⟨old, he⟩, hit⟩ := st
    obtain ⟨xs, hq, hx⟩ := hg
    obtain ⟨its, rv, p, hz⟩ := I.tuple hq
    obtain ⟨f0, f1, f2, f3, f4, f5⟩ := hf it (by simp)
    have hl := rv.length
    have hh : X.A.in1.handled = none := I.ok.hd hc
    have n1 : i = its.toArray.size := by rw [List.size_toArray, ← hx, rv.length]
    subst n1
    exact wpAny_pyNext_enum_endD (Draws.tuple hh it a hai its.toArray) he ⟨hit, p⟩ fun h' eb => ⟨rfl, I.turned (t' := s.toks) (fun b o hb q => eb b o hb q) f0 f1 f3 f4 f5⟩
  self := fun A i s Q E st h => let ⟨⟨_, he⟩, _⟩ := st; wpAny_pyIter_enum he h
def iEnumT (K : PySem.W.Frag) (ta : TA) : TI := fun σ H R => ta σ H fun vs H1 => ∃ a xs, vs = [.ref a] ∧ SqT K H1 a xs ∧ R (IteT K a) H1
theorem pi_enumT {X : Cx} {e : Expr} {ta : TA} {p pos tpos : Pos} {elts : List Expr} {kk : Nat} (hg : Gl X "enumerate") (hm : X.mg "enumerate" = none) (ha : PA X [e] ta) (hs : starEach [e] X.env = [(false, eval e X.env)] := by rfl) :
    PI X (.Tuple elts kk tpos) (.Call (.Name "enumerate" p) [e] [] pos) (iEnumT X.K ta) := by
  refine ⟨fun pins s σ H R I h => ?_⟩
  refine Call_ (ld_blt I hg hm boot_enumerate (PyProof.Rows.callWith_type1 (thn (ha.run pos pins s σ H _ I h) fun us s1 ⟨vs, H1, I1, r1, q1⟩ => ?_) hs rfl))
  obtain ⟨a, xs, ex, hq, q⟩ := q1
  subst ex
  cases r1 with
  | cons r rr =>
    cases rr
    cases r
    obtain ⟨its, rv, p', hz⟩ := I1.tuple hq
    have la : a < s1.heap.objs.size := by
      obtain ⟨_, e, _⟩ := id p'
      exact Heap.lt_size e
    refine enum_begins1 (begins_tuple a its.toArray) p' fun h' he hit hsz hk => wpAny_pyIter_enum he ?_
    have I2 : Inv X pins σ H1 { s1 with heap := h' } := I1.kept (t' := s1.toks) hk
    refine ⟨s1.heap.objs.size + 1, [s1.heap.objs.size + 1, s1.heap.objs.size], _, _, H1, rfl, I2, turn_enumT a (s1.heap.objs.size + 1) s1.heap.objs.size (Nat.ne_of_lt la) (Nat.succ_ne_self _) (Ne.symm (Nat.ne_of_lt (Nat.lt_succ_of_lt la))), ⟨⟨.none, he⟩, ⟨_, hit, rfl, rfl⟩⟩, fun b hb => ?_, q⟩
    have e' : b = s1.heap.objs.size + 1 ∨ b = s1.heap.objs.size := by simpa using hb
    have hle : s1.heap.objs.size ≤ b := by
      rcases e' with z | z
      · rw [z]; exact Nat.le_add_right _ _
      · rw [z]; exact Nat.le_refl _
    exact I1.fpOk hle (I1.hok.fresh hle)
theorem it_enumT {M : Addr → Prop} {B : Gr} {K : PySem.W.Frag} {H : Hp} {a : Addr} {xs : List V} {l : List PyData} (n : ¬ M a) (e : H a = some (.tup xs)) (h : DtA M H xs l) : ItOk M B H (IteT K a) (enumD l) := fun M2 H2 g2 k i => by
  have ea := (k _ _ n e).2
  rw [enumD_len]
  refine ⟨fun hi => ⟨xs, SqT.of ea, by rw [h.length]; omega⟩, fun hi => ?_⟩
  obtain ⟨v, hv, r⟩ := DtA.get i h (List.getElem?_eq_getElem hi)
  refine ⟨⟨xs, v, SqT.of ea, hv⟩, fun x H3 ⟨T, y, ex, hT, eH, f1⟩ => ?_⟩
  have q1 := f1 xs (SqT.of ea)
  rw [hv] at q1
  cases q1
  subst ex eH
  exact ⟨g2.new hT, Keep.new hT, _, enumD_at (List.getElem?_eq_getElem hi), Dt.newT g2 hT (.cons (.int _) (.cons (r.map k) .nil))⟩
def diEnumT (t : TDL) : TDL := fun ds Q => t ds fun l => match l with
  | [.tuple a] => dSize a.length ∧ Q (enumD a)
  | _ => False
theorem di_enumT (K : PySem.W.Frag) {X : Cx} {B : Gr} {e : Expr} {ta : TA} {p pos tpos : Pos} {elts : List Expr} {kk : Nat} {l : TDL} (hg : Gl X "enumerate") (hm : X.mg "enumerate" = none) (ha : PDL X B [e] ta l)
    (hs : starEach [e] X.env = (false, eval e X.env) :: starEach [] X.env := by rfl) (hK : X.K = K := by rfl) :
    PDI X B (.Tuple elts kk tpos) (.Call (.Name "enumerate" p) [e] [] pos) (iEnumT K ta) (diEnumT l) := by
  subst hK
  refine ⟨pi_enumT hg hm ha.pa hs, fun M σ H ds Q R g en q c => ha.sl M σ H ds _ _ g en q fun vs H1 l' g1 k1 hl q1 => ?_⟩
  split at q1
  · cases hl with
    | cons h1 t1 =>
      cases t1
      cases h1 with
      | tup n e a => exact ⟨_, _, rfl, SqT.of e, c _ H1 _ g1 k1 (it_enumT n e a) (by rw [enumD_len]; exact q1.1.le) q1.2⟩
  · exact q1.elim
end DL
/-! ### a call as a statement; steps and gains -/
namespace DL
open PySem L2
section
variable {X : Cx} {B : Gr} {e : Expr} {te : TE} {d : TDE} {pos : Pos}
def sDrop (d : TDE) : TDS := fun DD ds => d ds fun _ => DD.nx ds
theorem ds_expr (h : PD X B e te d) (hs : swapsWith e none pos.line X.env = pure false := by rfl) : PDS X B (.Expr e pos) (tDrop te) (sDrop d) :=
  ⟨ps_expr h.pe hs, fun M σ H ds DD D e o q c => h.se M σ H ds _ _ e.g o.at_ q fun v H1 x g1 k1 hx q1 => c.nx M σ H1 ds (e.expr g1 k1) (k1.stay e.g.1) (o.expr e.g.1 k1) q1⟩
end
/-- each dial of the group moved by b -/
def stepV (ss gs : List Int) (b : Int) : List Int := ss.mapIdx fun i s => if (i : Int) ∈ gs then s + b else s
theorem stepV_len {ss gs : List Int} {b : Int} : (stepV ss gs b).length = ss.length := by
  unfold stepV
  rw [List.length_mapIdx]
theorem enum_py {ss : List Int} {f : Nat → Int → Int} {F : PyData → PyData} (hF : ∀ (i : Nat) (s : Int), F (.tuple [.int i, .int s]) = .int (f i s)) : (enumD (ss.map PyData.int)).map F = (ss.mapIdx f).map PyData.int := by
  apply List.ext_getElem?
  intro i
  rw [List.getElem?_map, List.getElem?_map, List.getElem?_mapIdx]
  cases e : ss[i]? with
  | none =>
    have h : (enumD (ss.map PyData.int))[i]? = none := by
      rw [List.getElem?_eq_none_iff, enumD_len, List.length_map]
      exact List.getElem?_eq_none_iff.mp e
    rw [h]
    rfl
  | some s =>
    have h : (enumD (ss.map PyData.int))[i]? = some (.tuple [.int i, .int s]) := enumD_at (by rw [List.getElem?_map, e]; rfl)
    rw [h]
    show some (F (.tuple [.int i, .int s])) = _
    rw [hF]
    rfl
theorem range_py {ss : List Int} {n : Nat} {f : Nat → Int → Int} {F : PyData → PyData} (hn : n = ss.length) (hF : ∀ (i : Nat) (s : Int), ss[i]? = some s → F (.int i) = .int (f i s)) : (rangeD 0 n).map F = (ss.mapIdx f).map PyData.int := by
  subst hn
  apply List.ext_getElem?
  intro i
  rw [List.getElem?_map, List.getElem?_map, List.getElem?_mapIdx]
  cases e : ss[i]? with
  | none =>
    have h : (rangeD 0 ss.length)[i]? = none := by
      rw [List.getElem?_eq_none_iff, rangeD_len]
      exact List.getElem?_eq_none_iff.mp e
    rw [h]
    rfl
  | some s =>
    obtain ⟨hi, _⟩ := List.getElem?_eq_some_iff.mp e
    have h : (rangeD 0 ss.length)[i]? = some (.int i) := by
      rw [rangeD_at hi]
      congr 2
      omega
    rw [h]
    show some (F (.int i)) = _
    rw [hF i s e]
    rfl
def stepR : DR := fun xs Q => ∃ (ss gs : List Int) (w k : Int), xs = [.dat (.tuple (ss.map .int)), .dat (.int w), .dat (.list (gs.map .int)), .dat (.int k)] ∧ ss.length < 1000 ∧ w.natAbs < 2 ^ 300 ∧ k.natAbs < 2 ^ 300 ∧ Q (.tuple ((stepV ss gs (w * k)).map .int))
def lawStepR : DR := fun xs Q => ∃ (ss gs : List Int) (w : Int), xs = [.dat (.tuple (ss.map .int)), .dat (.int w), .dat (.list (gs.map .int))] ∧ ss.length < 1000 ∧ w.natAbs < 2 ^ 300 ∧ Q (.tuple ((stepV ss gs w).map .int))
/-- what a step from ss to tt gains -/
def gainV (ts : List Tm) (ss tt : List Int) : PyData := if isNone (leftV ts tt) = true then .int ((costs ts ss).sum - (costs ts tt).sum) else .none
def allowedR (C : Addr) : DR := fun xs Q => ∃ (n : Int) (ts : List Tm) (ss : List Int), xs = [.dat (brdD C n (ts.map Tm.py)), .dat (.tuple (ss.map .int))] ∧ Fine ts ss ∧ isNone (leftV ts ss) = true ∧ Q .none
def gainR (C : Addr) : DR := fun xs Q => ∃ (n : Int) (ts : List Tm) (ss gs : List Int) (w : Int), xs = [.dat (brdD C n (ts.map Tm.py)), .dat (.tuple (ss.map .int)), .dat (.int w), .dat (.list (gs.map .int))] ∧ Fine ts ss ∧ Fine ts (stepV ss gs w) ∧ ss.length < 1000 ∧ w.natAbs < 2 ^ 300 ∧ isNone (leftV ts ss) = true ∧ Q (gainV ts ss (stepV ss gs w))
def lawGainR : DR := fun xs Q => ∃ (ts : List Tm) (ss gs : List Int) (w : Int), xs = [.dat (.list (ts.map Tm.py)), .dat (.tuple (ss.map .int)), .dat (.int w), .dat (.list (gs.map .int))] ∧ Fine ts ss ∧ Fine ts (stepV ss gs w) ∧ ss.length < 1000 ∧ w.natAbs < 2 ^ 300 ∧ isNone (leftV ts ss) = true ∧ Q (gainV ts ss (stepV ss gs w))
theorem gain_sub {ts : List Tm} {ss tt : List Int} {Q : PyData → Prop} (h : Q (gainV ts ss tt)) : (isNone (leftV ts tt) = true ∧ strainV ts tt = .int (costs ts tt).sum ∧ Q (.int ((costs ts ss).sum - (costs ts tt).sum))) ∨ (isNone (leftV ts tt) = false ∧ strainV ts tt = .none ∧ Q .none) := by
  rcases strain_cases ts tt with ⟨e1, e2⟩ | ⟨e1, e2⟩
  · refine .inl ⟨e1, e2, ?_⟩
    unfold gainV at h
    rw [e1, if_pos rfl] at h
    exact h
  · refine .inr ⟨e1, e2, ?_⟩
    unfold gainV at h
    rw [e1, if_neg Bool.false_ne_true] at h
    exact h
theorem strain_at {ts : List Tm} {ss : List Int} (h : isNone (leftV ts ss) = true) : strainV ts ss = .int (costs ts ss).sum := by
  rcases strain_cases ts ss with ⟨_, e2⟩ | ⟨e1, _⟩
  · exact e2
  · rw [h] at e1
    cases e1
end DL
/-! ### steps and gains: the mathematics -/
namespace DL
open PySem L2
/-- 1 for a dial of the group -/
def bit (gs : List Int) (i : Int) : Int := if i ∈ gs then 1 else 0
theorem at_step {ss gs : List Int} {b i : Int} (h0 : 0 ≤ i) (h1 : i < ss.length) : Tm.at_ (stepV ss gs b) i = Tm.at_ ss i + (if i ∈ gs then b else 0) := by
  have h2 : i.toNat < ss.length := by omega
  have e : ((i.toNat : Nat) : Int) = i := by omega
  unfold Tm.at_ stepV
  rw [List.getD_eq_getElem?_getD, List.getD_eq_getElem?_getD, List.getElem?_mapIdx, List.getElem?_eq_getElem h2]
  show (if ((i.toNat : Nat) : Int) ∈ gs then ss[i.toNat] + b else ss[i.toNat]) = ss[i.toNat] + (if i ∈ gs then b else 0)
  rw [e]
  split <;> omega
theorem step_congr {ss gs hs : List Int} {b : Int} (h : ∀ i : Int, i ∈ gs ↔ i ∈ hs) : stepV ss gs b = stepV ss hs b := by
  unfold stepV
  congr 1
  funext i s
  simp only [h]
theorem step_nil {ss : List Int} {b : Int} : stepV ss [] b = ss := by
  apply List.ext_getElem?
  intro i
  unfold stepV
  rw [List.getElem?_mapIdx]
  cases ss[i]? <;> simp
/-- back with a part: the step with the rest -/
theorem step_back {ss gs hs rs : List Int} {b : Int} (h1 : ∀ i : Int, i ∈ hs → i ∈ gs) (h2 : ∀ i : Int, i ∈ rs ↔ i ∈ gs ∧ i ∉ hs) : stepV (stepV ss gs b) hs (-b) = stepV ss rs b := by
  apply List.ext_getElem?
  intro i
  unfold stepV
  rw [List.getElem?_mapIdx, List.getElem?_mapIdx, List.getElem?_mapIdx]
  cases ss[i]? with
  | none => rfl
  | some s =>
    show some (if (i : Int) ∈ hs then (if (i : Int) ∈ gs then s + b else s) + -b else if (i : Int) ∈ gs then s + b else s) = some (if (i : Int) ∈ rs then s + b else s)
    congr 1
    by_cases a : (i : Int) ∈ hs
    · rw [if_pos a, if_pos (h1 _ a), if_neg (fun z => ((h2 _).mp z).2 a)]
      omega
    · rw [if_neg a]
      by_cases c : (i : Int) ∈ gs
      · rw [if_pos c, if_pos ((h2 _).mpr ⟨c, a⟩)]
      · rw [if_neg c, if_neg (fun z => c ((h2 _).mp z).1)]
theorem step_negs {ss gs : List Int} {b : Int} : stepV (negs ss) gs (-b) = negs (stepV ss gs b) := by
  apply List.ext_getElem?
  intro i
  unfold stepV negs
  rw [List.getElem?_mapIdx, List.getElem?_map, List.getElem?_map, List.getElem?_mapIdx]
  cases ss[i]? with
  | none => rfl
  | some s =>
    show some (if (i : Int) ∈ gs then -s + -b else -s) = some (-(if (i : Int) ∈ gs then s + b else s))
    congr 1
    split <;> omega
theorem arg_step {t : Tm} {ss gs : List Int} {b : Int} (h : t.In ss.length) : t.arg (stepV ss gs b) = t.arg ss + match t with
    | .wish d .. => (if d ∈ gs then b else 0)
    | .stop d .. => (if d ∈ gs then b else 0)
    | .tie d o .. => (if d ∈ gs then b else 0) - (if o ∈ gs then b else 0)
    | .bar d o .. => (if d ∈ gs then b else 0) - (if o ∈ gs then b else 0) := by
  cases t with
  | wish d l u f => exact at_step h.1 h.2
  | stop d l u => exact at_step h.1 h.2
  | tie d o l u f =>
    show Tm.at_ _ d - Tm.at_ _ o = _
    rw [at_step h.1.1 h.1.2, at_step h.2.1 h.2.2]
    show _ = Tm.at_ ss d - Tm.at_ ss o + ((if d ∈ gs then b else 0) - (if o ∈ gs then b else 0))
    omega
  | bar d o l u =>
    show Tm.at_ _ d - Tm.at_ _ o = _
    rw [at_step h.1.1 h.1.2, at_step h.2.1 h.2.2]
    show _ = Tm.at_ ss d - Tm.at_ ss o + ((if d ∈ gs then b else 0) - (if o ∈ gs then b else 0))
    omega
theorem dist_sub {t : Tm} {ss g1 g2 gu gi : List Int} {b : Int} (lh : t.low ≤ t.high) (h : t.In ss.length) (hb : b = 1 ∨ b = -1) (hu : ∀ i : Int, i ∈ gu ↔ i ∈ g1 ∨ i ∈ g2) (hi : ∀ i : Int, i ∈ gi ↔ i ∈ g1 ∧ i ∈ g2) :
    t.dist (t.arg (stepV ss gu b)) + t.dist (t.arg (stepV ss gi b)) ≤ t.dist (t.arg (stepV ss g1 b)) + t.dist (t.arg (stepV ss g2 b)) := by
  rw [arg_step h, arg_step h, arg_step h, arg_step h]
  have two : ∀ v d o : Int, t.dist (v + ((if d ∈ gu then b else 0) - (if o ∈ gu then b else 0))) + t.dist (v + ((if d ∈ gi then b else 0) - (if o ∈ gi then b else 0))) ≤ t.dist (v + ((if d ∈ g1 then b else 0) - (if o ∈ g1 then b else 0))) + t.dist (v + ((if d ∈ g2 then b else 0) - (if o ∈ g2 then b else 0))) := fun v d o => by
    simp only [hu, hi]
    unfold Tm.dist
    by_cases d1 : d ∈ g1 <;> by_cases d2 : d ∈ g2 <;> by_cases o1 : o ∈ g1 <;> by_cases o2 : o ∈ g2 <;> simp only [d1, d2, o1, o2, or_true, or_false, true_or, false_or, and_true, and_false, true_and, false_and, if_true, if_false] <;> rcases hb with rfl | rfl <;> (repeat' split) <;> omega
  have one : ∀ v d : Int, t.dist (v + (if d ∈ gu then b else 0)) + t.dist (v + (if d ∈ gi then b else 0)) ≤ t.dist (v + (if d ∈ g1 then b else 0)) + t.dist (v + (if d ∈ g2 then b else 0)) := fun v d => by
    simp only [hu, hi]
    by_cases d1 : d ∈ g1 <;> by_cases d2 : d ∈ g2 <;> simp only [d1, d2, or_true, or_false, true_or, false_or, and_true, and_false, true_and, false_and, if_true, if_false, or_self, and_self] <;> omega
  cases t with
  | wish d l u f => exact one _ d
  | stop d l u => exact one _ d
  | tie d o l u f => exact two _ d o
  | bar d o l u => exact two _ d o
theorem left_iff {ss : List Int} : ∀ {ts : List Tm} {k : Nat}, isNone (leftFrom ss k ts) = true ↔ ∀ t ∈ ts, t.gone ss = false
  | [], k => ⟨(fun _ _ h => nomatch h), fun _ => rfl⟩
  | t :: ts, k => by
    unfold leftFrom
    cases g : t.gone ss with
    | true =>
      rw [if_pos rfl]
      exact ⟨(fun z => nomatch z), fun z => by rw [z t (List.mem_cons_self ..)] at g; cases g⟩
    | false =>
      rw [if_neg Bool.false_ne_true, left_iff (ts := ts)]
      exact ⟨fun z u hu => by
        rcases List.mem_cons.mp hu with rfl | hu
        · exact g
        · exact z u hu, fun z u hu => z u (List.mem_cons_of_mem _ hu)⟩
/-- where steps with two groups are possible, so are those with both and with the common dials -/
theorem left_sub {ts : List Tm} {ss g1 g2 gu gi : List Int} {b : Int} (hf : ∀ t ∈ ts, t.low ≤ t.high ∧ t.In ss.length) (hb : b = 1 ∨ b = -1) (hu : ∀ i : Int, i ∈ gu ↔ i ∈ g1 ∨ i ∈ g2) (hi : ∀ i : Int, i ∈ gi ↔ i ∈ g1 ∧ i ∈ g2)
    (l1 : isNone (leftV ts (stepV ss g1 b)) = true) (l2 : isNone (leftV ts (stepV ss g2 b)) = true) : isNone (leftV ts (stepV ss gu b)) = true ∧ isNone (leftV ts (stepV ss gi b)) = true := by
  have both : ∀ t ∈ ts, t.gone (stepV ss gu b) = false ∧ t.gone (stepV ss gi b) = false := fun t ht => by
    have a1 := left_iff.mp l1 t ht
    have a2 := left_iff.mp l2 t ht
    obtain ⟨lh, inn⟩ := hf t ht
    have d := dist_sub lh inn hb hu hi
    have p1 := (Tm.dist_ge (t := t) (o := t.arg (stepV ss gu b)) lh)
    have p2 := (Tm.dist_ge (t := t) (o := t.arg (stepV ss gi b)) lh)
    unfold Tm.gone at *
    cases hs : t.soft with
    | true => exact ⟨rfl, rfl⟩
    | false =>
      rw [hs] at a1 a2
      have e1 : t.dist (t.arg (stepV ss g1 b)) = 0 := by simpa using a1
      have e2 : t.dist (t.arg (stepV ss g2 b)) = 0 := by simpa using a2
      have q1 : 0 ≤ t.dist (t.arg (stepV ss gu b)) := by unfold Tm.dist; split <;> (try split) <;> omega
      have q2 : 0 ≤ t.dist (t.arg (stepV ss gi b)) := by unfold Tm.dist; split <;> (try split) <;> omega
      have z1 : t.dist (t.arg (stepV ss gu b)) = 0 := by omega
      have z2 : t.dist (t.arg (stepV ss gi b)) = 0 := by omega
      rw [z1, z2]
      exact ⟨rfl, rfl⟩
  exact ⟨left_iff.mpr fun t ht => (both t ht).1, left_iff.mpr fun t ht => (both t ht).2⟩
theorem costs_cons {ss : List Int} {t : Tm} {ts : List Tm} : (costs (t :: ts) ss).sum = (if t.soft = true then t.force * t.dist (t.arg ss) else 0) + (costs ts ss).sum := by
  unfold costs
  cases hs : t.soft with
  | true => rw [List.filter_cons_of_pos hs, List.map_cons, List.sum_cons, if_pos rfl]
  | false => rw [List.filter_cons_of_neg (by rw [hs]; exact Bool.false_ne_true), if_neg Bool.false_ne_true, Int.zero_add]
theorem costs_sub {ss g1 g2 gu gi : List Int} {b : Int} (hb : b = 1 ∨ b = -1) (hu : ∀ i : Int, i ∈ gu ↔ i ∈ g1 ∨ i ∈ g2) (hi : ∀ i : Int, i ∈ gi ↔ i ∈ g1 ∧ i ∈ g2) : ∀ {ts : List Tm}, (∀ t ∈ ts, (t.low ≤ t.high ∧ t.In ss.length) ∧ 0 ≤ t.force) →
    (costs ts (stepV ss gu b)).sum + (costs ts (stepV ss gi b)).sum ≤ (costs ts (stepV ss g1 b)).sum + (costs ts (stepV ss g2 b)).sum
  | [], _ => by simp [costs]
  | t :: ts, h => by
    have ih := costs_sub hb hu hi (ts := ts) fun u hu' => h u (List.mem_cons_of_mem _ hu')
    obtain ⟨⟨lh, inn⟩, f0⟩ := h t (List.mem_cons_self ..)
    have d := dist_sub lh inn hb hu hi
    rw [costs_cons, costs_cons, costs_cons, costs_cons]
    split
    · have m := Int.mul_le_mul_of_nonneg_left d f0
      rw [Int.mul_add, Int.mul_add] at m
      omega
    · omega
theorem Fine.step {ts : List Tm} {ss gs : List Int} {b : Int} (h : Fine ts ss) (hs : ∀ x ∈ ss, -(10 ^ 50) < x ∧ x < 10 ^ 50) (hb : b = 1 ∨ b = -1) : Fine ts (stepV ss gs b) := by
  refine ⟨h.len, fun t ht => by rw [stepV_len]; exact h.good t ht, fun x hx => ?_⟩
  obtain ⟨i, hi⟩ := List.getElem?_of_mem hx
  unfold stepV at hi
  rw [List.getElem?_mapIdx] at hi
  cases e : ss[i]? with
  | none => rw [e] at hi; cases hi
  | some s =>
    rw [e] at hi
    have q := Option.some.inj hi
    have m := hs s (List.mem_of_getElem? e)
    have q2 : (if (i : Int) ∈ gs then s + b else s) = x := q
    split at q2 <;> omega
theorem left_mir {ss : List Int} {ts : List Tm} (h : ∀ t ∈ ts, t.low ≤ t.high) : isNone (leftV (ts.map Tm.mir) (negs ss)) = isNone (leftV ts ss) := by
  have g : ∀ t ∈ ts, t.mir.gone (negs ss) = t.gone ss := fun t ht => by
    unfold Tm.gone
    rw [Tm.mir_soft, Tm.mir_dist (h t ht)]
  rw [Bool.eq_iff_iff]
  show isNone (leftFrom _ 0 _) = true ↔ isNone (leftFrom _ 0 _) = true
  rw [left_iff, left_iff]
  exact ⟨fun z t ht => by rw [← g t ht]; exact z _ (List.mem_map.mpr ⟨t, ht, rfl⟩), fun z t ht => by
    obtain ⟨u, hu, rfl⟩ := List.mem_map.mp ht
    rw [g u hu]
    exact z u hu⟩
theorem costs_mir {ss : List Int} : ∀ {ts : List Tm}, (∀ t ∈ ts, t.low ≤ t.high) → (costs (ts.map Tm.mir) (negs ss)).sum = (costs ts ss).sum
  | [], _ => rfl
  | t :: ts, h => by
    rw [List.map_cons, costs_cons, costs_cons, Tm.mir_soft, Tm.mir_force, Tm.mir_dist (h t (List.mem_cons_self ..)), costs_mir fun u hu => h u (List.mem_cons_of_mem _ hu)]
theorem gain_mir {ss gs : List Int} {ts : List Tm} {b : Int} (h : ∀ t ∈ ts, t.low ≤ t.high) : gainV (ts.map Tm.mir) (negs ss) (stepV (negs ss) gs (-b)) = gainV ts ss (stepV ss gs b) := by
  unfold gainV
  rw [step_negs, left_mir h, costs_mir h, costs_mir h]
end DL
/-! ### groups; gains of none -/
namespace DL
open PySem L2
structure Grp (gs : List Int) : Prop where
  len : gs.length ≤ 8
  mid : ∀ d ∈ gs, 0 ≤ d ∧ d < 8
theorem Grp.ok {gs : List Int} (h : Grp gs) : OkD (.list (gs.map .int)) := okLst (fun x hx => by
  obtain ⟨d, hd, rfl⟩ := List.mem_map.mp hx
  have := h.mid d hd
  exact leafI ⟨by omega, by omega⟩) (by rw [List.length_map]; have := h.len; omega)
theorem gain_self {ts : List Tm} {ss : List Int} (h : isNone (leftV ts ss) = true) : gainV ts ss ss = .int 0 := by
  unfold gainV
  rw [h, if_pos rfl, Int.sub_self]
theorem gain_int {ts : List Tm} {ss tt : List Int} (h : isNone (leftV ts tt) = true) : gainV ts ss tt = .int ((costs ts ss).sum - (costs ts tt).sum) := by
  unfold gainV
  rw [h, if_pos rfl]
theorem gain_non {ts : List Tm} {ss tt : List Int} (h : isNone (leftV ts tt) = false) : gainV ts ss tt = .none := by
  unfold gainV
  rw [h, if_neg Bool.false_ne_true]
theorem step_mid {ss gs : List Int} {A b : Int} (hs : ∀ x ∈ ss, -A < x ∧ x < A) (hb : b = 1 ∨ b = -1) : ∀ x ∈ stepV ss gs b, -(A + 1) < x ∧ x < A + 1 := fun x hx => by
  obtain ⟨i, hi⟩ := List.getElem?_of_mem hx
  unfold stepV at hi
  rw [List.getElem?_mapIdx] at hi
  cases e : ss[i]? with
  | none => rw [e] at hi; cases hi
  | some s =>
    rw [e] at hi
    have q := Option.some.inj hi
    have m := hs s (List.mem_of_getElem? e)
    have q2 : (if (i : Int) ∈ gs then s + b else s) = x := q
    split at q2 <;> omega
/-- a board at an allowed standing, a way -/
structure Sit (ts : List Tm) (ss : List Int) (w : Int) : Prop where
  fine : Fine ts ss
  mid : ∀ x ∈ ss, -(10 ^ 40) < x ∧ x < 10 ^ 40
  way : w = 1 ∨ w = -1
  len : ss.length < 1000
  al : isNone (leftV ts ss) = true
theorem dist_back {t : Tm} {ss g p r : List Int} {b : Int} (lh : t.low ≤ t.high) (h : t.In ss.length) (hb : b = 1 ∨ b = -1) (hp : ∀ i : Int, i ∈ p → i ∈ g) (hr : ∀ i : Int, i ∈ r ↔ i ∈ g ∧ i ∉ p) :
    t.dist (t.arg (stepV ss r b)) + t.dist (t.arg ss) ≤ t.dist (t.arg (stepV ss g b)) + t.dist (t.arg (stepV ss p (-b))) := by
  rw [arg_step h, arg_step h, arg_step h]
  have two : ∀ v d o : Int, t.dist (v + ((if d ∈ r then b else 0) - (if o ∈ r then b else 0))) + t.dist v ≤ t.dist (v + ((if d ∈ g then b else 0) - (if o ∈ g then b else 0))) + t.dist (v + ((if d ∈ p then -b else 0) - (if o ∈ p then -b else 0))) := fun v d o => by
    have hd := hp d
    have ho := hp o
    simp only [hr]
    unfold Tm.dist
    by_cases d1 : d ∈ g <;> by_cases d2 : d ∈ p <;> by_cases o1 : o ∈ g <;> by_cases o2 : o ∈ p <;> (first | exact absurd (hd d2) d1 | exact absurd (ho o2) o1 | skip) <;> simp only [d1, d2, o1, o2, not_true, not_false_eq_true, or_true, or_false, true_or, false_or, and_true, and_false, true_and, false_and, if_true, if_false] <;> rcases hb with rfl | rfl <;> (repeat' split) <;> omega
  have one : ∀ v d : Int, t.dist (v + (if d ∈ r then b else 0)) + t.dist v ≤ t.dist (v + (if d ∈ g then b else 0)) + t.dist (v + (if d ∈ p then -b else 0)) := fun v d => by
    have hd := hp d
    simp only [hr]
    unfold Tm.dist
    by_cases d1 : d ∈ g <;> by_cases d2 : d ∈ p <;> (first | exact absurd (hd d2) d1 | skip) <;> simp only [d1, d2, not_true, not_false_eq_true, or_true, or_false, true_or, false_or, and_true, and_false, true_and, false_and, if_true, if_false] <;> rcases hb with rfl | rfl <;> (repeat' split) <;> omega
  cases t with
  | wish d l u f => exact one _ d
  | stop d l u => exact one _ d
  | tie d o l u f => exact two _ d o
  | bar d o l u => exact two _ d o
theorem gone_zero {t : Tm} {ss : List Int} (hs : t.soft = false) : t.gone ss = false ↔ t.dist (t.arg ss) = 0 := by
  unfold Tm.gone
  rw [hs]
  simp
theorem left_back {ts : List Tm} {ss g p r : List Int} {b : Int} (hf : ∀ t ∈ ts, t.low ≤ t.high ∧ t.In ss.length) (hb : b = 1 ∨ b = -1) (hp : ∀ i : Int, i ∈ p → i ∈ g) (hr : ∀ i : Int, i ∈ r ↔ i ∈ g ∧ i ∉ p)
    (l1 : isNone (leftV ts (stepV ss g b)) = true) (l2 : isNone (leftV ts (stepV ss p (-b))) = true) : isNone (leftV ts (stepV ss r b)) = true := by
  refine left_iff.mpr fun t ht => ?_
  have a1 := left_iff.mp l1 t ht
  have a2 := left_iff.mp l2 t ht
  obtain ⟨lh, inn⟩ := hf t ht
  have d := dist_back lh inn hb hp hr
  cases hs : t.soft with
  | true =>
    unfold Tm.gone
    rw [hs]
    rfl
  | false =>
    rw [gone_zero hs] at a1 a2 ⊢
    have q1 : 0 ≤ t.dist (t.arg (stepV ss r b)) := by unfold Tm.dist; split <;> (try split) <;> omega
    have q2 : 0 ≤ t.dist (t.arg ss) := by unfold Tm.dist; split <;> (try split) <;> omega
    omega
theorem costs_back {ss g p r : List Int} {b : Int} (hb : b = 1 ∨ b = -1) (hp : ∀ i : Int, i ∈ p → i ∈ g) (hr : ∀ i : Int, i ∈ r ↔ i ∈ g ∧ i ∉ p) : ∀ {ts : List Tm}, (∀ t ∈ ts, (t.low ≤ t.high ∧ t.In ss.length) ∧ 0 ≤ t.force) →
    (costs ts (stepV ss r b)).sum + (costs ts ss).sum ≤ (costs ts (stepV ss g b)).sum + (costs ts (stepV ss p (-b))).sum
  | [], _ => by simp [costs]
  | t :: ts, h => by
    have ih := costs_back hb hp hr (ts := ts) fun u hu' => h u (List.mem_cons_of_mem _ hu')
    obtain ⟨⟨lh, inn⟩, f0⟩ := h t (List.mem_cons_self ..)
    have d := dist_back lh inn hb hp hr
    rw [costs_cons, costs_cons, costs_cons, costs_cons]
    split
    · have m := Int.mul_le_mul_of_nonneg_left d f0
      rw [Int.mul_add, Int.mul_add] at m
      omega
    · omega
theorem Grp.filter {gs : List Int} (h : Grp gs) (f : Int → Bool) : Grp (gs.filter f) := ⟨Nat.le_trans (List.length_filter_le _ _) h.len, fun d hd => h.mid d (List.mem_filter.mp hd).1⟩
def orNoneR (C : Addr) : DR := fun xs Q => ∃ (n : Int) (ts : List Tm) (ss gs : List Int) (w : Int), xs = [.dat (brdD C n (ts.map Tm.py)), .dat (.tuple (ss.map .int)), .dat (.int w), .dat (.list (gs.map .int))] ∧ Fine ts ss ∧ (∀ x ∈ ss, -(10 ^ 50) < x ∧ x < 10 ^ 50) ∧ (w = 1 ∨ w = -1) ∧ ss.length < 1000 ∧ isNone (leftV ts ss) = true ∧ Grp gs ∧ Q (gainV ts ss (stepV ss gs w))
def backR (C : Addr) : DR := fun xs Q => ∃ (n : Int) (ts : List Tm) (ss one part : List Int) (w : Int), xs = [.dat (brdD C n (ts.map Tm.py)), .dat (.tuple (ss.map .int)), .dat (.int w), .dat (.list (one.map .int)), .dat (.list (part.map .int))] ∧ Sit ts ss w ∧ Grp one ∧ Grp part ∧ (∀ d ∈ part, d ∈ one) ∧ Q (.bool true)
end DL
/-! ### set(list of ints), sorted(set(..)); a list unpacked; or between values -/
namespace DL
open PySem PySem.Spec L2 PyProof.Rows
/-- a set with nothing in it yet -/
abbrev setE (w : World) : Obj := ⟨.type "set", none, .set #[] 0 (.fresh 0 0 (!w.params.followText "set-order")), #[]⟩
section
variable {P : Program} {w : World} {A : Around} {E : Value → Shared → Prop} {s : Shared}
theorem setL_fill {S l : Addr} {items : Array Value} {ns : List Int} {R : Result → Shared → Prop} (hh : A.in1.handled = none) (hS : s.heap.get? S = some (setE w)) (hl : s.heap.IsList l items) (hi : IntsAre items.toList ns) (hb : ns.length + 1 < scanBound)
    (h : ∀ (h' : Heap) (t c : Nat), SetR w h' S (fun j => decide (j ∈ ns)) c → c ≤ ns.length → (∀ b o, b ≠ S → s.heap.get? b = some o → h'.get? b = some o) → R (.ok (.ret .none)) { s with heap := h', toks := t }) :
    codeAny (model P w) A (.builtin "set.update.loop" ⟨[.ref S, .ref s.heap.objs.size], []⟩) R { s with heap := s.heap.push ⟨.type "list_iterator", none, .fields #[.ref l, .int 0 0], #[]⟩ } := by
  have hz : items.size = ns.length := by have q := IntsAre.length hi; rwa [Array.length_toList] at q
  have sI : S < s.heap.objs.size := Heap.lt_size hS
  have lI : l < s.heap.objs.size := let ⟨_, e, _⟩ := hl; Heap.lt_size e
  have Sl : S ≠ l := fun z => by
    obtain ⟨o, e, c, _⟩ := hl
    rw [← z, hS] at e
    cases e
    exact absurd (Value.type.inj c) (by decide)
  have val : ∀ (i : Nat) (v : Value), items[i]? = some v → ∃ k t, ns[i]? = some k ∧ v = .int k t := fun i v hv => by
    have lt : i < ns.length := hz ▸ (Array.getElem?_eq_some_iff.mp hv).1
    obtain ⟨t, e⟩ := IntsAre.int_at hi i v (by rw [Array.getElem?_toList]; exact hv)
    refine ⟨ns[i], t, List.getElem?_eq_getElem lt, e.trans ?_⟩
    rw [List.getD_eq_getElem?_getD, List.getElem?_eq_getElem lt]
    rfl
  have nf : S ∉ [s.heap.objs.size, l] := fun z => by
    rcases List.mem_cons.mp z with z | z
    · exact absurd z (Nat.ne_of_lt sI)
    · exact Sl (List.mem_singleton.mp z)
  refine set_update_ints (Walks.list hh s.heap.objs.size l (Nat.ne_of_lt lI) items).toS S nf ns hz hb val items.size 0 _ rfl (Nat.zero_le _) ⟨⟨_, Heap.get?_push_size _ rfl, rfl, rfl⟩, hl.push _⟩ ⟨0, Nat.le_refl 0, setR_new_at (Heap.get?_push_of_some _ hS)⟩ ?_
  rintro ⟨h', g', d', t', o'⟩ c hm hc hR
  obtain rfl : g' = s.gens := hm.gens
  obtain rfl : d' = s.drawn := hm.drawn
  obtain rfl : o' = s.os := hm.os
  refine h h' t' c hR (hz ▸ hc) fun b o hb2 e => hm.heap b o (fun z => ?_) (Heap.get?_push_of_some _ e)
  rcases List.mem_cons.mp z with z | z
  · exact hb2 z
  · exact absurd (List.mem_singleton.mp z) (Nat.ne_of_lt (Heap.lt_size e))
theorem setL_init {S l : Addr} {items : Array Value} {ns : List Int} (hh : A.handled = none) (hS : s.heap.get? S = some (setE w)) (hl : s.heap.IsList l items) (hi : IntsAre items.toList ns) (hb : ns.length + 1 < scanBound) {Q : PySem.Fin → Shared → Prop}
    (h : ∀ (h' : Heap) (t c : Nat), SetR w h' S (fun j => decide (j ∈ ns)) c → c ≤ ns.length → (∀ b o, b ≠ S → s.heap.get? b = some o → h'.get? b = some o) → Q (.done (.ret .none)) { s with heap := h', toks := t }) :
    wpAny (model P w) A (Builtin.«set.__init__» ⟨[.ref S, .ref l], []⟩) Q E s := by
  have hT : s.TypeIs (.ref S) "set" := ⟨_, hS, rfl⟩
  obtain ⟨⟨c0, d0, x0, sl0⟩, hol, hcl, nl, hdl⟩ := id hl
  cases hcl
  cases hdl
  have ne := (show (Value.type "list" == Value.type "dict") = false by decide)
  have f1 := F.sub_list_set
  have f2 := F.sub_list_frozenset
  unfold Builtin.«set.__init__» noKeywords Builtin.Frozenset.updateFrom
  generalize hP : pyIter = PI
  wp_walk
  subst hP
  refine wpAny_pyIter_list hl (wpAny_bind (wpAny_runValue ?_))
  refine setL_fill (A := A) (by simp [hh]) hS hl hi hb fun h' t c hR hc k => ?_
  show wpAny _ _ _ _ _ _
  refine wpAny_pure ?_
  show wpAny _ _ (ret Value.none) _ _ _
  exact wpAny_pure (h h' t c hR hc k)
/-- set(xs), xs a list of ints -/
theorem setL_call {l : Addr} {items : Array Value} {ns : List Int} {Q : Value → Shared → Prop} (hh : A.handled = none) (hl : s.heap.IsList l items) (hi : IntsAre items.toList ns) (hb : ns.length + 1 < scanBound)
    (h : ∀ (h' : Heap) (t c : Nat), SetR w h' s.heap.objs.size (fun j => decide (j ∈ ns)) c → c ≤ ns.length → (∀ b o, s.heap.get? b = some o → h'.get? b = some o) → Q (.ref s.heap.objs.size) { s with heap := h', toks := t }) :
    wpAny (model P w) A (call (.type "set") [.ref l]) Q E s := by
  have f0 := F.called_set
  obtain ⟨c0, tl, f1⟩ := f0.mro
  have f2 := f0.made
  have f3 := f0.sub
  have f4 := f0.notType
  have f5 := f0.canCreate
  have f6 := F.typeCall_set_1 (.ref l)
  refine wpAny_call (codeAny_of_tree (show wpAny _ _ (callAny (.type "set") _) _ _ _ from wpAny_pure ⟨Code.quiet_builtin _ (by decide +kernel), codeAny_builtin F.entry_type_call ?_⟩))
  rw [Around.under_plain (weight_type_call_type "set" [.ref l] []) rfl]
  repeat (any_goals (first | assumption | wp_step))
  refine codeAny_mono (code_set_led1 (.ref l) (E := E) (Q₁ := fun x s1 => x = .ref s.heap.objs.size ∧ s1 = { s with heap := s.heap.push (setE w) }) ⟨rfl, rfl⟩) fun r s1 hr => ?_
  rcases r with _ | (x | _ | _ | _) <;> first | exact hr | exact hr.elim | skip
  obtain ⟨rfl, rfl⟩ := hr
  have hS : (s.heap.push (setE w)).get? s.heap.objs.size = some (setE w) := Heap.get?_push_size _ rfl
  have hT : Shared.TypeIs { s with heap := s.heap.push (setE w) } (.ref s.heap.objs.size) "set" := ⟨_, hS, rfl⟩
  have g1 := f0.init.lookup
  have g2 := f0.init.bind (.ref s.heap.objs.size)
  repeat (any_goals (first | assumption | wp_step))
  refine codeAny_mono (codeAny_call_builtin (R := wants (fun r s2 => r = .none ∧ ∃ h' t c, s2 = { s with heap := h', toks := t } ∧ SetR w h' s.heap.objs.size (fun j => decide (j ∈ ns)) c ∧ c ≤ ns.length ∧ (∀ b o, s.heap.get? b = some o → h'.get? b = some o)) E)
    f0.init.plain F.entry_set_init (check_set_init_1 hT (setL_init (s := { s with heap := s.heap.push (setE w) }) (by simp [hh]) hS (hl.push _) hi hb fun h' t c hR hc k => ?_))) fun r s2 hr => ?_
  · exact ⟨rfl, h', t, c, rfl, hR, hc, fun b o e => k b o (Nat.ne_of_lt (Heap.lt_size e)) (Heap.get?_push_of_some _ e)⟩
  · rcases r with _ | (x | _ | _ | _) <;> first | exact hr | exact hr.elim | skip
    obtain ⟨rfl, h', t, c, rfl, hR, hc, k⟩ := hr
    repeat (any_goals (first | assumption | wp_step))
    exact h _ _ _ hR hc k
end
section
variable {X : Cx}
def rSetL (K : PySem.W.Frag) (w : World) : List V → Hp → VK → Prop := fun xs H Q => ∃ (a : Addr) (ns : List Int), xs = [.ref a] ∧ SqL K H a (ns.map V.int) ∧ ns.length ≤ 4000 ∧ ∀ (p : Addr) (c : Nat), H p = none → c ≤ ns.length → Q (.ref p) (upd H p (SetO w p (fun j => decide (j ∈ ns)) c))
theorem cr_setL (hc : X.calm = true) : CallR X (.type "set") (rSetL X.K X.w) := by
  intro pins s σ H xs us Q I r h
  obtain ⟨a, ns, rfl, hq, hn, q⟩ := h
  rw [Vals.ref1 r]
  obtain ⟨its, rv, pl, hz⟩ := I.list hq
  refine setL_call (I.ok.hd hc) pl.isList (ns := ns) (by simpa using rv.ints) (by unfold scanBound; omega) fun h' t c hR hcn k => ?_
  exact ⟨.ref _, _, I.laid (t' := t) k (Nat.le_refl _) (setO_new hR), rfl, q _ c (I.hok.fresh (Nat.le_refl _)) hcn⟩
/-- sorted(set(xs)) -/
def dSortSet (t : TDE) : TDE := fun ds Q => t ds fun d => ∃ ns : List Int, d = .list (ns.map .int) ∧ ns.length < 64 ∧ ∀ ms : List Int, ms.Pairwise (· < ·) → (∀ k : Int, k ∈ ms ↔ k ∈ ns) → ms.length ≤ ns.length → Q (.list (ms.map .int))
theorem intL {M : Addr → Prop} {H : Hp} : ∀ {ns : List Int} {vs : List V}, DtA M H vs (ns.map .int) → vs = ns.map V.int
  | [], _, h => by cases h; rfl
  | n :: ns, _, h => by
    cases h with
    | cons h1 h2 =>
      cases h1
      rw [intL h2]
      rfl
theorem d_sortSet (K : PySem.W.Frag) {B : Gr} {e : Expr} {te : TE} {td : TDE} {p p2 q pos : Pos} (he : PD X B e te td) (hc : X.calm = true) (hg : Gl X "sorted") (hm : X.mg "sorted" = none) (hg2 : Gl X "set") (hm2 : X.mg "set" = none)
    (hs : starEach [e] X.env = (false, eval e X.env) :: starEach [] X.env := by rfl) (hs2 : starEach [.Call (.Name "set" p2) [e] [] q] X.env = (false, eval (.Call (.Name "set" p2) [e] [] q) X.env) :: starEach [] X.env := by rfl) (hK : X.K = K := by rfl) :
    PD X B (.Call (.Name "sorted" p) [.Call (.Name "set" p2) [e] [] q] [] pos) (tCB (rSortedSet X.w) (tCons (tCB (rSetL K X.w) (tCons te tNil)) tNil)) (dSortSet td) := by
  subst hK
  refine ⟨pe_callB (cr_sortedSet hc) hg hm boot_sorted (pa_cons (pe_callTy (cr_setL hc) hg2 hm2 boot_set (pa_cons he.pe pa_nil hs) (by decide) (by decide) hs rfl) pa_nil hs2) (by decide) (by decide) hs2 rfl, fun M σ H ds Q R g en qq c => ?_⟩
  refine he.se M σ H ds _ _ g en qq fun v H1 d g1 k1 hd q1 => ?_
  obtain ⟨ns, rfl, h64, q2⟩ := q1
  cases hd with
  | lst n e a =>
    have e1 := e
    rw [intL a] at e1
    refine ⟨_, ns, rfl, SqL.of e1, by omega, fun p c hp hcn => ⟨p, _, c, rfl, upd_same, by omega, fun ms p2 pw hm hl hp2 => ?_⟩⟩
    have g2 := g1.new (o := SetO X.w p (fun j => decide (j ∈ ns)) c) hp
    refine ‹Cont M B H Q R› _ _ _ (g2.new hp2) ((k1.trans (Keep.new hp)).trans (Keep.new hp2)) (Dt.newL g2 hp2 (DtA.ints ms)) (q2 ms pw (fun k => ?_) (by omega))
    rw [hm k]
    simp
/-! ### e or f, by the first one's truth -/
def dOrX (t u : TDE) : TDE := fun ds Q => t ds fun x => truD x fun c => (c = true → Q x) ∧ (c = false → u ds Q)
theorem tru_of {K : PySem.W.Frag} {M : Addr → Prop} {H : Hp} {v : V} {x : PyData} {P : Bool → Prop} (h : Dt M H v x) (q : truD x P) : ∃ k, TruV K v H k ∧ P k := by
  cases h with
  | non => exact ⟨_, rfl, q⟩
  | bl b => exact ⟨_, rfl, q⟩
  | int i => exact ⟨_, rfl, q⟩
  | str z => exact ⟨_, ⟨q.1.le, rfl⟩, q.2⟩
  | lst n e a => exact ⟨_, .inl ⟨_, SqL.of e, rfl⟩, by rw [isEmpty_len a.length]; exact q⟩
  | tup n e a => exact ⟨_, .inr (.inl ⟨_, SqT.of e, rfl⟩), by rw [isEmpty_len a.length]; exact q⟩
  | brd _ _ _ _ _ _ _ => exact q.elim
theorem d_orX (K : PySem.W.Frag) {B : Gr} {a b : Expr} {ta tb : TE} {da db : TDE} {rest : List Expr} {pos : Pos} (ha : PD X B a ta da) (hb : PD X B (.BoolOp .Or (b :: rest) pos) tb db) (hK : X.K = K := by rfl) :
    PD X B (.BoolOp .Or (a :: b :: rest) pos) (tOrT K ta tb) (dOrX da db) := by
  subst hK
  refine ⟨pe_orT ha.pe hb.pe, fun M σ H ds Q R g en q c => ha.se M σ H ds _ _ g en q fun x H1 dx g1 k1 hx q1 => ?_⟩
  obtain ⟨k, hk, q2⟩ := tru_of (K := X.K) hx q1
  refine ⟨k, hk, ?_⟩
  cases k with
  | true => exact iteT (c _ H1 _ g1 k1 hx (q2.1 rfl))
  | false => exact iteF (hb.se M σ H1 ds _ _ g1 (en.keep g.1 k1) (q2.2 rfl) (c.keep k1))
/-! ### a, b, .. = a list -/
def dgLst (n : Nat) (u : List PyData → DEnv → (DEnv → Prop) → Prop) : TDG := fun d ds Q => match d with
  | .list l => l.length = n ∧ u l ds Q
  | _ => False
theorem dg_lst (K : PySem.W.Frag) {B : Gr} {es : List Expr} {k n : Nat} {is : List Nat} {tts : TGs} {pos : Pos} {u : List PyData → DEnv → (DEnv → Prop) → Prop} (hc : X.calm = true) (h : PDGs X B es is tts u) (hK : X.K = K := by rfl)
    (hn : (assignEach es X.env).length = n := by rfl) (hst : (assignEach es X.env).findIdx? (·.1) = none := by rfl) : PDG X B (.Tuple es k pos) is (gLst K n tts) (dgLst n u) := by
  subst hK
  exact ⟨pg_lst hc h.pg hn hst, fun M v d σ H ds Q R g en hd q c => by
    cases hd with
    | lst nm e a => exact ⟨_, _, rfl, SqL.of e, a.length.trans q.1, h.sg M _ _ σ H ds _ _ g en a q.2 c⟩
    | _ => exact (show False from q).elim⟩
end
end DL
namespace DL
open PySem L2
/-- a comprehension whose elements satisfy P, some left out -/
theorem lcW_any {g : TDG} {tt : TDT} {te : TDE} {ds : DEnv} (P : PyData → Prop) : ∀ (l acc : List PyData) (Q : PyData → Prop), (∀ x ∈ l, ∀ (N2 : Prop) (N : PyData → Prop), (∀ y, P y → N y) → N2 → g x ds fun ds' => tt ds' fun b => (b = true → te ds' N) ∧ (b = false → N2)) →
    (∀ z ∈ acc, P z) → (∀ r : List PyData, r.length ≤ acc.length + l.length → (∀ z ∈ r, P z) → Q (.list r)) → lcW g tt te ds l acc Q
  | [], acc, Q, _, ha, hq => hq acc (Nat.le_refl _) ha
  | x :: l, acc, Q, h, ha, hq => by
    have e : lcW g tt te ds (x :: l) acc Q = g x ds fun ds' => tt ds' fun b => (b = true → te ds' fun y => lcW g tt te ds l (acc ++ [y]) Q) ∧ (b = false → lcW g tt te ds l acc Q) := rfl
    rw [e]
    have hl := fun z hz => h z (List.mem_cons_of_mem x hz)
    refine h x (List.mem_cons_self ..) _ _ (fun y hy => lcW_any P l (acc ++ [y]) Q hl (fun z hz => ?_) fun r hr => hq r ?_) (lcW_any P l acc Q hl ha fun r hr => hq r ?_)
    · rcases List.mem_append.mp hz with hz | hz
      · exact ha z hz
      · rw [List.mem_singleton.mp hz]
        exact hy
    · simp only [List.length_append, List.length_cons, List.length_nil] at hr ⊢
      omega
    · simp only [List.length_cons]
      omega
theorem asc_len : ∀ {l : List Int} {lo hi : Int}, l.Pairwise (· < ·) → (∀ x ∈ l, lo ≤ x ∧ x < hi) → (l.length : Int) ≤ max 0 (hi - lo)
  | [], _, _, _, _ => by
    simp only [List.length_nil]
    omega
  | x :: l, lo, hi, hp, h => by
    obtain ⟨h1, h2⟩ := List.pairwise_cons.mp hp
    have hx := h x (List.mem_cons_self ..)
    have ih := asc_len (lo := x + 1) (hi := hi) h2 fun y hy => by
      have a := h1 y hy
      have b := h y (List.mem_cons_of_mem _ hy)
      omega
    rw [List.length_cons]
    omega
theorem Grp.union {a b ms : List Int} (ha : Grp a) (hb : Grp b) (hp : ms.Pairwise (· < ·)) (hm : ∀ k : Int, k ∈ ms ↔ k ∈ a ++ b) : Grp ms := by
  have mid : ∀ d ∈ ms, 0 ≤ d ∧ d < 8 := fun d hd => by
    rcases List.mem_append.mp ((hm d).mp hd) with h | h
    · exact ha.mid d h
    · exact hb.mid d h
  have l := asc_len hp mid
  exact ⟨by omega, mid⟩
def pairR (C : Addr) : DR := fun xs Q => ∃ (n : Int) (ts : List Tm) (ss one other : List Int) (w : Int), xs = [.dat (brdD C n (ts.map Tm.py)), .dat (.tuple (ss.map .int)), .dat (.int w), .dat (.list (one.map .int)), .dat (.list (other.map .int))] ∧ Sit ts ss w ∧ Grp one ∧ Grp other ∧ Q (.bool true)
theorem okN : OkD .none := ⟨rfl, rfl, Nat.zero_le _, Nat.le_trans leafN.sz (by decide)⟩
theorem ne_self {d : PyData} {Q : PyData → Prop} (ok : OkD d) (h : Q (.bool false)) : rNeA d d Q := by
  have e : PyData.eqv d d = true := eqv_rfl ok
  unfold rNeA
  split
  · rw [decide_eq_true rfl]
    exact h
  · exact ⟨ok.sh, ok.sh, by rw [e]; exact h⟩
theorem gain_ok {ts : List Tm} {ss tt : List Int} (h1 : Fine ts ss) (h2 : Fine ts tt) : OkD (gainV ts ss tt) := by
  have c1 := h1.costs
  have c2 := h2.costs
  unfold gainV
  split
  · exact Mid.ok ⟨by omega, by omega⟩
  · exact okN
end DL
/-! ### exceptions: a def that may raise, its call, raise, try -/
namespace DL
open PySem PySem.Spec L2 PyProof.Rows
/-- what is wanted of an exception: by its class and its fields -/
abbrev XKD := Value → List (Str × PyData) → Prop
abbrev DRX := List DV → (PyData → Prop) → XKD → Prop
/-- .. with the slots of the frame -/
abbrev WD := DEnv → XKD
def ContX (M : Addr → Prop) (B : Gr) (H : Hp) (Ed : XKD) (E : XK) : Prop := ∀ cls d H' fs, Good M B H' → Keep M B H H' → XD M H' d fs → Ed cls fs → E cls d H'
def spX (R : DRX) : Sp := fun vs H Q E => ∃ (M : Addr → Prop) (B : Gr) (xs : List DV) (Qd : PyData → Prop) (Ed : XKD), ArgsAt M B H vs xs ∧ Good M B H ∧ R xs Qd Ed ∧ Cont M B H Qd Q ∧ ContX M B H Ed E
structure FnX (P : Program) (w : World) (K : PySem.W.Frag) (mg : Str → Option Value) (base : Heap) (k : Nat) (f : Addr) (fd : FuncData) (ps : List Str) (sp : Sp) : Prop where
  len : ∀ vs H Q E, sp vs H Q E → vs.length = ps.length
  run : ∀ (A : Around) (outer : List Env) (s : Shared) (H : Hp) (args : Args) (us : List Value) (vs : List V) (Q : VK) (E : XK), A.guards = some [] → Room k A → Env0 P w K mg base A outer s H → BindsTo s fd args (ps.zip us) → Vals vs us → sp vs H Q E →
    codeAny (model P w) A (.call (.ref f) args) (CR (L2.CX P w) outer P w H s Q E) s
theorem FnX.mono {P : Program} {w : World} {K : PySem.W.Frag} {mg : Str → Option Value} {base : Heap} {j k : Nat} {f : Addr} {fd : FuncData} {ps : List Str} {sp : Sp} (F : FnX P w K mg base j f fd ps sp) (h : j ≤ k) : FnX P w K mg base k f fd ps sp :=
  ⟨F.len, fun A outer s H args us vs Q E hg hr => F.run A outer s H args us vs Q E hg (hr.mono h)⟩
theorem FnX.imp {P : Program} {w : World} {K : PySem.W.Frag} {mg : Str → Option Value} {base : Heap} {k : Nat} {f : Addr} {fd : FuncData} {ps : List Str} {sp sp' : Sp} (F : FnX P w K mg base k f fd ps sp) (h : ∀ vs H Q E, sp' vs H Q E → sp vs H Q E) : FnX P w K mg base k f fd ps sp' :=
  ⟨fun vs H Q E z => F.len vs H Q E (h _ _ _ _ z), fun A outer s H args us vs Q E hg hr e b r z => F.run A outer s H args us vs Q E hg hr e b r (h _ _ _ _ z)⟩
/-- a def that may raise, called where it raises nothing -/
theorem FnX.calm {P : Program} {w : World} {K : PySem.W.Frag} {mg : Str → Option Value} {base : Heap} {k : Nat} {f : Addr} {fd : FuncData} {ps : List Str} {R : DRX} (F : FnX P w K mg base k f fd ps (spX R)) : FnG P w K mg base k f fd ps (spD fun xs Q => R xs Q fun _ _ => False) :=
  ⟨fun vs H Q E ⟨M, B, xs, Qd, a, g, r, c⟩ => F.len vs H Q (fun _ _ _ => False) ⟨M, B, xs, Qd, fun _ _ => False, a, g, r, c, fun _ _ _ _ _ _ _ z => z⟩, fun A outer s H args us vs Q hg hr e b rv ⟨M, B, xs, Qd, a, g, r, c⟩ =>
    codeAny_mono (F.run A outer s H args us vs Q (fun _ _ _ => False) hg hr e b rv ⟨M, B, xs, Qd, fun _ _ => False, a, g, r, c, fun _ _ _ _ _ _ _ z => z⟩) fun o s' z => by
      cases o with
      | ok fl => cases fl <;> exact z
      | error er =>
        obtain ⟨_, _, _, _, _, _, _, _, _, _, _, _, z⟩ := z
        exact z⟩
theorem fn_ofX {P : Program} {w : World} {K : PySem.W.Frag} {mg : Str → Option Value} {base : Heap} {k : Nat} {f : Addr} {fd : FuncData} {x qual : Str} {st : Stmt} {N ps : List Str} {sp : Sp} (F : Fun K x qual st f fd) (S : FnScope N ps (defScope st))
    (len : ∀ vs H Q E, sp vs H Q E → vs.length = ps.length)
    (body : ∀ (cdv : Value) (A : Around) (outer : List Env) (s : Shared) (H : Hp) (vs : List V) (Q : VK) (E : XK), A.guards = some [] → Room k (A.deeper (envOfC qual (defScope st) s.heap.objs.size f cdv)) → sp vs H Q E →
      ∃ t, PSs (cxOf (L2.CX P w) P w K mg base N qual (defScope st) f cdv A outer s H E) (defBody st) t ∧ t { nx := fun _ H' => Q .non H', rt := Q } (start N vs) H) : FnX P w K mg base (k + 1) f fd ps sp := by
  obtain ⟨oc, od, kV, doc, pm, an, cdv, ct, osl, rfl, lk, hcd⟩ := F.ex
  refine ⟨len, fun A outer s H args us vs Q E hG hr e0 hb r hs => ?_⟩
  have kin : K.In s.heap := e0.mod.kin.keeps fun b o e => (e0.bs b o e).1
  have lim : s.heap.NoLimit := e0.mod.nolimit.keeps fun b o e => (e0.bs b o e).1
  have kinds : ∀ y ∈ ps.zip us, (defScope st).names.lookup y.1 = some .local ∨ ((defScope st).names.lookup y.1 = some .cell ∧ ((cellsFrom (s.heap.objs.size + 1) (defScope st).names []).lookup y.1).isSome = true) := by
    rintro ⟨n, v⟩ m
    exact (S.par n (List.of_mem_zip m).1).imp_right fun q => ⟨q, PySem.W.cellsFrom_some _ _ _ (.inl q)⟩
  refine codeAny_call_function hr.depth (kin _ _ lk) rfl S.co S.gen rfl (PySem.W.codeRec_of kin hcd) (hb _ _ _ _ (wpAny_newFunctionEnv_cells S.kind kinds fun env eqv s1 ic => ?_))
  subst eqv
  obtain ⟨t, ht, q⟩ := body cdv A outer s H vs Q E hG (hr.deeper _) hs
  refine ⟨lim.keeps ic.toInCall.keep, codeAny_func (wpAny_mono (ht.run [] s1 (start N vs) H _ (inv_start S hr.hd e0 (len _ _ _ _ hs) r ic) q) (fun fl s' z => ?_) fun _ _ z => z)⟩
  cases fl with
  | ret u =>
    obtain ⟨v, _, H', J, rv, qv⟩ := z
    exact ⟨v, H', J.os, J.bare, J.base, J.hok, rv, qv⟩
  | next =>
    obtain ⟨_, H', J, qv⟩ := z
    exact ⟨V.non, H', J.os, J.bare, J.base, J.hok, rfl, qv⟩
  | _ => exact z.elim fun _ y => y.elim fun _ y => y.2.elim
/-- what becomes of an exception, over data -/
structure TkD (X : Cx) (B : Gr) (W : WX) (Wd : WD) : Prop where
  tk : Takes X W
  rel : ∀ (M : Addr → Prop) σ H ds cls d fs, Good M B H → EnvAt M B H σ ds → XD M H d fs → Wd ds cls fs → W cls d σ H
structure CxX (k : Nat) (X : Cx) (B : Gr) (W : WX) (Wd : WD) : Prop extends CxD k X where
  tkd : TkD X B W Wd
  pass : PassesOwn (model X.prog X.w) X.A X.env X.xe
  hs : X.stack = X.env :: X.outer
  hf : X.env.frame = some X.env.locals
  hex : X.ex = []
/-- a def that may raise, by its body's reading over data -/
theorem fn_DX {P : Program} {w : World} {K : PySem.W.Frag} {mg : Str → Option Value} {base : Heap} {k : Nat} {f : Addr} {fd : FuncData} {x qual : Str} {st : Stmt} {N ps : List Str} {R : DRX} (F : Fun K x qual st f fd) (S : FnScope N ps (defScope st))
    (len : ∀ xs Q Ed, R xs Q Ed → xs.length = ps.length)
    (body : ∀ (cdv : Value) (A : Around) (outer : List Env) (s : Shared) (H : Hp) (E : XK) (B : Gr) (W : WX) (Ed : XKD), CxX k (cxOf (L2.CX P w) P w K mg base N qual (defScope st) f cdv A outer s H E) B W (fun _ => Ed) →
      ∃ ts t, PDSs (cxOf (L2.CX P w) P w K mg base N qual (defScope st) f cdv A outer s H E) B (defBody st) ts t ∧ ∀ xs Q, R xs Q Ed → t { nx := fun _ => Q .none, rt := Q, bk := fun _ => False, ct := fun _ => False } (dstart N xs)) :
    FnX P w K mg base (k + 1) f fd ps (spX R) := by
  refine fn_ofX F S (fun vs H Q E h => ?_) fun cdv A outer s H vs Q E hG hr h => ?_
  · obtain ⟨M, B, xs, Qd, Ed, ha, _, hR, _⟩ := h
    rw [ha.length]
    exact len xs Qd Ed hR
  · obtain ⟨M, B, xs, Qd, Ed, ha, g, hR, c, cx⟩ := h
    obtain ⟨ts, t, hb, ht⟩ := body cdv A outer s H E ⟨B.a, M, H, M, H⟩ _ Ed { room := hr, guards := hG, tkd := ⟨takes_of rfl rfl rfl rfl, fun M' σ H' ds cls d fs g' _ hx hd => cx cls d H' fs (g.expr g'.back g'.d.keep) g'.d.keep (hx.map (Stay.less g'.d.sub)) hd⟩, pass := passes_of rfl, hs := rfl, hf := rfl, hex := rfl }
    refine ⟨ts, hb.ps, hb.ss M _ H _ _ _ ⟨g.z.start⟩ ⟨ha.re.start N, fun i l a e => absurd e (ha.noMut _ i l), fun i j l l' a e => absurd e (ha.noMut _ i l)⟩ (ht xs Qd hR)
      ⟨fun M' σ' H' ds' e' _ _ q => c .non H' .none (g.expr e'.g.back e'.g.d.keep) e'.g.d.keep .non q, fun v H' d g' k' h' q => c v H' d (g.expr g' k') k' h' q, fun _ _ _ _ _ _ _ q => q.elim, fun _ _ _ _ _ _ _ q => q.elim⟩⟩
section
variable {X : Cx} {B : Gr} {W : WX} {Wd : WD} {k : Nat} {f : Addr} {fd : FuncData} {ps : List Str} {R : DRX} {sp : Sp} {x : Str} {p pos : Pos} {e : Expr} {es : List Expr} {t : TA} {d : TDA}
/-! #### a call that may raise -/
theorem run_fnX {pins : List (Addr × Obj)} {σ : L2.St} {H : Hp} {s : Shared} {Q : VK} {us : List Value} {vs : List V} (F : FnX X.prog X.w X.K X.mg X.base k f fd ps sp) (hG : X.A.guards = some []) (hr : Room k X.A) (hb : Binds X.K fd ps []) (tk : Takes X W)
    (I : Inv X pins σ H s) (r : Vals vs us) (h : sp vs H Q (fun cls d H' => W cls d σ H')) : wpAny (model X.prog X.w) X.A (call (.ref f) us) (EP X pins σ Q) X.xe s := by
  have n : us.length = ps.length := r.length.symm.trans (F.len _ _ _ _ h)
  have b := hb s us I.kIn (by rw [List.append_nil]; exact n)
  rw [List.append_nil] at b
  refine wpAny_call (codeAny_mono (F.run X.A X.stack s H ⟨us, []⟩ us vs Q _ hG hr I.env0 b r h) fun o s' z => ?_)
  cases o with
  | error er => exact tk er s' (XE.of_call I (fun _ _ _ h => h) z)
  | ok fl => cases fl with
    | ret u => exact I.after z
    | _ => exact False.elim z
def dCallX (R : DRX) (Wd : WD) (t : TDA) : TDE := fun ds Q => t ds fun xs => R xs Q (Wd ds)
theorem d_callX (F : FnX X.prog X.w X.K X.mg X.base k f fd ps (spX R)) (hG : X.A.guards = some []) (hr : Room k X.A) (tk : TkD X B W Wd) (hb : Binds X.K fd ps []) (hm : X.mg x = some (.ref f)) (hk : PySem.W.keepIn X.K (.ref f) = true) (hg : Gl X x)
    (ha : PDA X B (e :: es) t d) (hdb : (x == ("__debug__" : Str)) = false := by decide) (he : starEach (e :: es) X.env = (false, eval e X.env) :: starEach es X.env := by rfl) (hpl : (backTo pos (starEach es X.env)).any (·.1) = false := by rfl) :
    PD X B (.Call (.Name x p) (e :: es) [] pos) (fun σ H Q => t σ H fun vs H1 => spX R vs H1 Q fun cls d H' => W cls d σ H') (dCallX R Wd d) :=
  ⟨⟨fun pins s σ H Q I h => wpAny_Call_Name_kw (ld_glob I hg hm (PySem.W.callWith_K (h₀ := X.base) I.ok.mod.kin hk
    (thn (ha.pa.run pos pins s σ H _ I h) fun us s1 ⟨_, _, I1, r, q⟩ => ⟨I1.kIn, run_fnX F hG hr hb tk.tk I1 r q⟩) he hpl) hdb)⟩,
  fun M σ H ds Q R' g en h c => ha.sa M σ H ds _ _ g en h fun vs H1 xs g1 k1 a1 q1 => ⟨M, B, xs, Q, Wd ds, a1, g1, q1, c.keep k1, fun cls d H' fs g' k' hx hw => tk.rel M σ H' ds cls d fs g' ((en.keep g.1 k1).keep g1.1 k') hx hw⟩⟩
/-! #### raise -/
/-- what the __init__ of an error's class with one field promises -/
def spErr (K : PySem.W.Frag) (fld : Str) : Sp := fun vs H Q _ => ∃ (a C : Addr) (v : V), vs = [.ref a, v] ∧ OexC K C ∧ PySem.W.findIn K (.ref C) fld = some none ∧ H a = some (exo a C none) ∧ ∀ dx, H dx = none → dx ≠ a → Q .non (upd (upd H dx (exd dx [(fld, v)])) a (exo a C (some dx)))
theorem fn_err {P : Program} {w : World} {K : PySem.W.Frag} {mg : Str → Option Value} {base : Heap} {k : Nat} {f : Addr} {qual fld : Str} {params : Arguments} {body : List Stmt} {scope : Scope} {dV kV doc pm cdv ct oc : Value} {an od : Option Addr} {osl : Array (Option Value)} {N ps : List Str}
    (lk : K.lookup f = some ⟨oc, od, .func (PySem.W.fnOf "__init__" qual params body scope dV kV doc pm an cdv ct), osl⟩) (hcd : PySem.W.codeIn K cdv qual = true) (S : FnScope N ps scope) (h2 : ps.length = 2)
    (hb : ∀ (A : Around) (outer : List Env) (s : Shared) (H : Hp) (E : XK), PSs (cxOf CX0 P w K mg base N qual scope f cdv A outer s H E) body (tOst K fld (tVar 0) (tVar 1))) (hN : 2 ≤ N.length) :
    FnOk P w K mg base CX0 (k + 1) f (PySem.W.fnOf "__init__" qual params body scope dV kV doc pm an cdv ct) ps (spErr K fld) := by
  refine fn_of lk hcd S (fun vs H Q E h => ?_) fun A outer s H vs Q E hr h => ⟨_, hb A outer s H E, ?_⟩
  · obtain ⟨a, C, v, rfl, _⟩ := h
    rw [h2]
    rfl
  · obtain ⟨a, C, v, rfl, T, hno, ea, q⟩ := h
    exact ⟨v, rfl, .ref a, rfl, a, C, rfl, T, hno, .inl ⟨ea, fun dx n ne => q dx n ne⟩⟩
def sRaise1 (C : Addr) (fld : Str) (Wd : WD) (t : TDL) : TDS := fun _ ds => t ds fun l => match l with
  | [v] => Wd ds (.ref C) [(fld, v)]
  | _ => False
theorem ds_raise1 {C fI : Addr} {fld : Str} {dl : TDL} {pos' : Pos} (hc : X.calm = true) (T : OexC X.K C) (iC : PySem.W.findIn X.K (.ref C) "__init__" = some (some (.ref fI))) (tI : PySem.W.typeIn X.K (.ref fI) = some (.type "function")) (hno : PySem.W.findIn X.K (.ref C) fld = some none)
    (F1 : FnOk X.prog X.w X.K X.mg X.base CX0 k fI fd ps (spErr X.K fld)) (hr : Room (k + 1) X.A) (hb : Binds X.K fd ps []) (tk : TkD X B W Wd) (hm : X.mg x = some (.ref C)) (hg : Gl X x) (ha : PDL X B [e] t dl)
    (hdb : (x == ("__debug__" : Str)) = false := by decide) (he : starEach [e] X.env = (false, eval e X.env) :: starEach [] X.env := by rfl) :
    PDS X B (.Raise (some (.Call (.Name x p) [e] [] pos)) none pos') (fun _ σ H => tMkO C (spErr X.K fld) [] t σ H fun cls d H' => W cls d σ H') (sRaise1 C fld Wd dl) :=
  ⟨ps_raise hc tk.tk (pmk_oex T iC tI F1 hr hb .nil (fun _ _ _ _ _ _ _ z => z.elim) hg hm ha.pa hdb he rfl), fun M σ H ds DD D en o q c => ha.sl M σ H ds _ _ en.g o.at_ q fun vs H1 l g1 k1 hl q1 => by
    have e1 := o.at_.keep en.g.1 k1
    cases hl with
    | nil => exact (show False from q1).elim
    | @cons v _ dv _ h1 t1 => cases t1 with
      | cons _ _ => exact (show False from q1).elim
      | nil =>
        refine ⟨Nat.le_of_ble_eq_true rfl, fun a hn => ⟨a, C, v, rfl, T, hno, upd_same, fun dx hdx ne => ⟨rfl, dx, [(fld, v)], upd_same, ?_, ?_, ?_⟩⟩⟩
        · rw [upd_ne ne, upd_same]
        · rw [upd_ne ne] at hdx
          exact hdx
        · have hd1 : H1 dx = none := by rw [upd_ne ne] at hdx; exact hdx
          have eH : upd (del (upd (upd (upd H1 a (exo a C none)) dx (exd dx [(fld, v)])) a (exo a C (some dx))) a) dx (.xd [(fld, v)]) = upd H1 dx (.xd [(fld, v)]) := by
            funext b
            by_cases z : b = dx
            · rw [z, upd_same, upd_same]
            · rw [upd_ne z, upd_ne z]
              by_cases y : b = a
              · rw [y, del_same, hn]
              · rw [del_ne y, upd_ne y, upd_ne z, upd_ne y]
          rw [eH]
          have kn : Keep M B.a H1 (upd H1 dx (.xd [(fld, v)])) := Keep.new hd1
          exact tk.rel M σ _ ds _ _ _ (g1.new hd1) (e1.keep g1.1 kn) (.inr ⟨dx, [(fld, v)], rfl, g1.ne hd1, upd_same, .cons (h1.keep g1.1 kn) .nil⟩) q1⟩
end
end DL
/-! ### try .. except C as n; isinstance of what is caught, its fields -/
namespace DL
open PySem PySem.Spec L2 PyProof.Rows
/-! #### another ground with the same bag and the same beginning -/
theorem DvR.regr {M : Addr → Prop} {B B' : Gr} {H : Hp} (ha : B.a = B'.a) (h0 : B.H0 = B'.H0) {v : V} {x : DV} (h : DvR M B H v x) : DvR M B' H v x := by
  cases h with
  | bag =>
    rw [ha]
    exact .bag
  | dat h => exact .dat h
  | grow m n z e a => exact .grow m (by rw [← ha]; exact n) (by rw [← h0]; exact z) e a
  | exc h => exact .exc h
theorem EnvAt.regr {M : Addr → Prop} {B B' : Gr} {H : Hp} (ha : B.a = B'.a) (h0 : B.H0 = B'.H0) : ∀ {σ : L2.St} {ds : DEnv}, EnvAt M B H σ ds → EnvAt M B' H σ ds
  | _, _, .nil => .nil
  | _, _, .cons h t => .cons (by
    cases h with
    | non => exact .non _
    | som h => exact .som (h.regr ha h0)) (EnvAt.regr ha h0 t)
theorem EnvO.regr {M : Addr → Prop} {B B' : Gr} {H : Hp} (ha : B.a = B'.a) (h0 : B.H0 = B'.H0) {σ : L2.St} {ds : DEnv} (o : EnvO M B H σ ds) : EnvO M B' H σ ds := ⟨o.at_.regr ha h0, fun i l a e1 e2 => by rw [← h0]; exact o.own i l a e1 e2, o.inj⟩
/-- the ground of a try's body -/
abbrev Gr.tr (B : Gr) (M : Addr → Prop) (H : Hp) : Gr := { B with M1 := M, H1 := H }
theorem Good.toTr {M : Addr → Prop} {B : Gr} {H : Hp} (g : Good M B H) : Good M (B.tr M H) H := ⟨g.1, g.2.1, g.2.2.1, g.d.g0, g.d.m0, g.d.sub, g.d.keep, g.d.stay, Stay.refl, fun _ o e => ⟨o, e⟩⟩
theorem Good.ofTr {M M' : Addr → Prop} {B : Gr} {H H' : Hp} (g : Good M B H) (g' : Good M' (B.tr M H) H') : Good M' B H' := ⟨g'.1, g'.2.1, g'.2.2.1, g'.d.g0, g'.d.m0, g'.d.sub, g'.d.keep, g'.d.stay, g.d.st.trans g'.d.st, fun a o e => by
  obtain ⟨u, hu⟩ := g.d.al a o e
  exact g'.d.al a u hu⟩
/-- lists that grow are forgotten -/
def dropG (ds : DEnv) : DEnv := ds.map fun o => match o with
  | some (.grow _) => none
  | o => o
theorem EnvAt.dropG {M : Addr → Prop} {B : Gr} {H : Hp} : ∀ {σ : L2.St} {ds : DEnv}, EnvAt M B H σ ds → EnvAt M B H σ (DL.dropG ds)
  | _, _, .nil => .nil
  | _, _, .cons h t => .cons (by
    cases h with
    | non => exact .non _
    | som h => cases h with
      | bag => exact .som .bag
      | dat h => exact .som (.dat h)
      | grow _ _ _ _ _ => exact .non _
      | exc h => exact .som (.exc h)) (EnvAt.dropG t)
theorem dropG_no (ds : DEnv) (i : Nat) (l : List PyData) : (DL.dropG ds)[i]? ≠ some (some (.grow l)) := fun e => by
  unfold DL.dropG at e
  rw [List.getElem?_map] at e
  cases q : ds[i]? with
  | none => rw [q] at e; cases e
  | some o =>
    rw [q] at e
    cases o with
    | none => cases e
    | some x => cases x <;> cases e
theorem EnvO.of_no {M : Addr → Prop} {B : Gr} {H : Hp} {σ : L2.St} {ds : DEnv} (h : EnvAt M B H σ ds) (n : ∀ (i : Nat) l, ds[i]? ≠ some (some (.grow l))) : EnvO M B H σ ds := ⟨h, fun i l a e _ => absurd e (n i l), fun i j l l' a e => absurd e (n i l)⟩
theorem Sub.unset {σ : L2.St} {ds : DEnv} {i : Nat} {o : Option V} : Sub σ ds (σ.set i o) (ds.set i none) := fun j l e => by
  by_cases z : i = j
  · subst z
    by_cases hl : i < ds.length
    · rw [List.getElem?_set_self hl] at e
      cases e
    · rw [List.getElem?_eq_none (by rw [List.length_set]; omega)] at e
      cases e
  · rw [List.getElem?_set_ne z] at e
    exact ⟨e, List.getElem?_set_ne z⟩
def noName (i : Nat) (DD : DEnds) : DEnds := { nx := fun ds => DD.nx (ds.set i none), rt := DD.rt, bk := fun ds => DD.bk (ds.set i none), ct := fun ds => DD.ct (ds.set i none) }
/-- what the clause wishes of an exception, over data -/
def wdAs (K : PySem.W.Frag) (cv : Value) (i : Nat) (su : Addr → Value → Option Addr → TDS) (Wo : WD) (DD : DEnds) : WD := fun ds cls fs =>
  ∃ b, PySem.W.exmOne K cls cv = some b ∧ (b = true → ∀ a d, su a cls d (noName i DD) ((dropG ds).set i (some (.exc a cls d fs)))) ∧ (b = false → Wo ds cls fs)
def sTryAs (K : PySem.W.Frag) (cv : Value) (i : Nat) (td : WD → TDS) (su : Addr → Value → Option Addr → TDS) (Wo : WD) : TDS := fun DD ds => td (wdAs K cv i su Wo DD) DD ds
section
variable {X : Cx} {k : Nat} {W : WX} {Wo : WD} {x n : Str} {cv : Value} {i : Nat} {body suite : List Stmt} {b₀ : Stmt} {np pos pos' : Pos} {tb : WX → TS} {td : WD → TDS} {ts : Addr → Value → Option Addr → TS} {su : Addr → Value → Option Addr → TDS}
theorem tr_any {B : Gr} {Wd : WD} (c : CxX k X B W Wo) (W' : WX) (B' : Gr) (Wd' : WD) (rel : ∀ (M : Addr → Prop) σ H ds cls d fs, Good M B' H → EnvAt M B' H σ ds → XD M H d fs → Wd' ds cls fs → W' cls d σ H) :
    ∃ xe, CxX k (X.tr [] xe) B' W' Wd' := by
  let xe : Value → Shared → Prop := fun e s' => wpAny (model X.prog X.w) X.A (leaving X.env e) (fun _ s'' => L2.CX X.prog X.w X.outer X.H_0 X.s_0 (fun _ _ _ => True) e s'') (fun _ _ => False) s'
  exact ⟨xe, { room := c.room, guards := c.guards, tkd := ⟨fun u s' y => XE.leave (X := X.tr [] xe) (W := W') (E := fun _ _ _ => True) c.hs c.hf c.hex (fun _ _ _ _ _ => trivial) y, rel⟩, pass := passes_of (X := X.tr [] xe) rfl, hs := c.hs, hf := c.hf, hex := c.hex }⟩
theorem ds_tryAs {B : Gr} (c : CxX k X B W Wo) (hN : X.N.Nodup) (hi : X.N[i]? = some n) (hln : X.env.kindOf n = some .local) (hc : Names X x cv)
    (hb : ∀ (B' : Gr) (W' : WX) (Wd' : WD) (pn : List (Addr × Obj)) (xe : Value → Shared → Prop), CxX k (X.tr pn xe) B' W' Wd' → PDSs (X.tr pn xe) B' body (tb W') (td Wd'))
    (hsu : ∀ (a : Addr) (oe : Obj) (cls : Value) (d : Option Addr) (pn : List (Addr × Obj)), Zc cls d oe → (∃ vs, oe.data = .fields vs) → PDSs (X.suite a ((a, oe) :: pn)) B (b₀ :: suite) (ts a cls d) (su a cls d)) :
    PDS X B (.Try body [.ExceptHandler (some (.Name x np)) (some n) (b₀ :: suite) pos'] [] [] pos) (fun D σ H => tb (wAs X.K cv i ts W D) D σ H) (sTryAs X.K cv i td su Wo) :=
  ⟨ps_try_as c.hs c.hf hN hi hln hc c.tkd.tk (fun W' pn xe tk pass => (hb default W' (fun _ _ _ => False) pn xe { room := c.room, guards := c.guards, tkd := ⟨tk, fun _ _ _ _ _ _ _ _ _ _ z => z.elim⟩, pass := pass, hs := c.hs, hf := c.hf, hex := c.hex }).ps) (fun a oe cls d pn hz hf => (hsu a oe cls d pn hz hf).ps),
  fun M σ H ds DD D en o q cs => by
    have rel : ∀ (M' : Addr → Prop) σ' H' ds' cls d fs, Good M' (B.tr M H) H' → EnvAt M' (B.tr M H) H' σ' ds' → XD M' H' d fs → wdAs X.K cv i su Wo DD ds' cls fs → wAs X.K cv i ts W D cls d σ' H' := by
      rintro M' σ' H' ds' cls d fs g' en' hx ⟨b, hb1, hy, hno⟩
      have g2 := en.g.ofTr g'
      have e2 : EnvAt M' B H' σ' ds' := en'.regr (B := B.tr M H) (B' := B) rfl rfl
      have st : Stay M H M' H' := g'.d.st
      refine ⟨b, hb1, fun z a ha => ?_, fun z => c.tkd.rel M' σ' H' ds' cls d fs g2 e2 hx (hno z)⟩
      have no : ∀ (j : Nat) l, ((dropG ds').set i (some (DV.exc a cls d fs)))[j]? ≠ some (some (.grow l)) := fun j l e => by
        by_cases y : i = j
        · subst y
          by_cases hl : i < (dropG ds').length
          · rw [List.getElem?_set_self hl] at e
            cases e
          · rw [List.getElem?_eq_none (by rw [List.length_set]; omega)] at e
            cases e
        · rw [List.getElem?_set_ne y] at e
          exact dropG_no ds' j l e
      have back : ∀ {P : DEnv → Prop} {R : L2.St → Hp → Prop}, ContE B M H P R → ContE B M' H' (fun ds2 => P (ds2.set i none)) (fun σ2 H2 => R (σ2.set i none) H2) := fun {P R} cc M2 σ2 H2 ds2 en2 st2 o2 q2 =>
        cc M2 (σ2.set i none) H2 (ds2.set i none) en2 (st.trans st2) (o2.sub (EnvAt.unset i o2.at_) Sub.unset) q2
      exact (hsu a { cls := cls, dict := d, data := .fields #[] } cls d [] ⟨rfl, rfl⟩ ⟨_, rfl⟩).ss M' (σ'.set i (some (.ref a))) H' _ (noName i DD) _ ⟨g2⟩ (EnvO.of_no (EnvAt.set (.exc hx) i e2.dropG) no) (hy z a d) ⟨back cs.nx, cs.rt, back cs.bk, back cs.ct⟩
    obtain ⟨xe, cx⟩ := tr_any (Wd := Wo) c (wAs X.K cv i ts W D) (B.tr M H) (wdAs X.K cv i su Wo DD) rel
    have cc : ∀ {P : DEnv → Prop} {R : L2.St → Hp → Prop}, ContE B M H P R → ContE (B.tr M H) M H P R := fun {P R} cc M2 σ2 H2 ds2 en2 st2 o2 q2 => cc M2 σ2 H2 ds2 ⟨en.g.ofTr en2.g⟩ st2 (o2.regr (B := B.tr M H) (B' := B) rfl rfl) q2
    exact (hb (B.tr M H) _ _ [] xe cx).ss M σ H ds DD D ⟨en.g.toTr⟩ (o.regr (B := B) (B' := B.tr M H) rfl rfl) q ⟨cc cs.nx, cs.rt, cc cs.bk, cc cs.ct⟩⟩
end
/-! #### what is caught -/
section
variable {X : Cx} {a : Addr} {oe : Obj} {cls : Value} {d : Option Addr} {pn : List (Addr × Obj)} {B : Gr} {n x x2 : Str} {i : Nat} {p p1 p2 p3 pos : Pos} {cv cv2 : Value}
theorem exc_inst {pins : List (Addr × Obj)} {σ : L2.St} {H : Hp} {s : Shared} {D : Addr} (hz : Zc (.ref D) d oe) (hf : ∃ vs, oe.data = .fields vs) (hd : d = none ∨ ∃ dd fs, d = some dd ∧ H dd = some (.xd fs)) (I : Inv (X.suite a ((a, oe) :: pn)) pins σ H s) :
    ∃ od, PySem.W.InstAt s.heap a oe D od := by
  obtain ⟨hget, _⟩ := I.pin (a, oe) (List.mem_append.mpr (.inl List.mem_cons_self))
  obtain ⟨vs, hv⟩ := hf
  have nc : PySem.W.notCls oe := by
    unfold PySem.W.notCls
    rw [hv]
  rcases hd with rfl | ⟨dd, fs, rfl, e⟩
  · exact ⟨none, hget, hz.1, nc, by rw [hz.2]; trivial⟩
  · obtain ⟨mA, hns, -⟩ := (show ObjOk X.prog X.w H s.heap dd (.xd fs) from I.hok dd _ e)
    obtain ⟨od, ho, -⟩ := lookIn_ns hns
    exact ⟨some od, hget, hz.1, nc, by rw [hz.2]; exact ho⟩
def rIsX (K : PySem.W.Frag) (D a : Addr) (d : Option Addr) : List V → Hp → VK → Prop := fun xs H Q => (d = none ∨ ∃ dd fs, d = some dd ∧ H dd = some (.xd fs)) ∧ ((∃ (c : V) (cv : Value) (b : Bool), xs = [.ref a, c] ∧ (∀ u, RelV c u → u = cv) ∧ PySem.W.kitOne K (.ref D) cv = some b ∧ Q (.bl b) H) ∨
  ∃ (t : Addr) (cs : List Addr) (b : Bool), xs = [.ref a, .ref t] ∧ SqT K H t (cs.map V.ref) ∧ PySem.W.kitAny K (.ref D) (cs.map Value.ref) = some b ∧ Q (.bl b) H)
theorem refs_eq : ∀ {cs : List Addr} {us : List Value}, Vals (cs.map V.ref) us → us = cs.map Value.ref
  | [], _, h => by cases h; rfl
  | c :: cs, _, h => by
    cases h with
    | cons r t =>
      cases r
      rw [refs_eq t]
      rfl
theorem call_isX {D : Addr} (C : L2.ExcC X.K D) (hz : Zc (.ref D) d oe) (hf : ∃ vs, oe.data = .fields vs) : CallR (X.suite a ((a, oe) :: pn)) (.builtin "isinstance") (rIsX X.K D a d) := by
  intro pins s σ H xs us Q I r h
  obtain ⟨hd, h⟩ := h
  obtain ⟨od, J⟩ := exc_inst hz hf hd I
  have Z := PySem.W.kitx_exc (x := a) (ox := oe) (od := od) (by obtain ⟨cd, hc, _⟩ := PySem.W.any_some C.hd; rw [hc]; rfl) C.hg C.hk C.hs C.ha C.hn C.ht C.hm
  rcases h with ⟨c, cv, b, rfl, hcv, e, q⟩ | ⟨t, cs, b, rfl, hq, e, q⟩
  · cases r with
    | cons rx rr =>
      cases rr with
      | cons rt rr =>
        cases rr
        cases rx
        have ec := hcv _ rt
        subst ec
        exact PySem.W.kia_one Z I.kIn J e (fun z => nomatch z) fun tk => ⟨.bl b, H, I.kept (t' := tk) fun _ _ z => z, rfl, q⟩
  · cases r with
    | cons rx rr =>
      cases rr with
      | cons rt rr =>
        cases rr
        cases rx
        cases rt
        obtain ⟨its, rv, ⟨⟨tc, tdd, tdt, tsl⟩, et, hc, nn, hd2⟩, _⟩ := I.tuple hq
        cases hc
        cases hd2
        rw [← refs_eq rv] at e
        exact PySem.W.kia_tup Z I.kIn J et e (fun z => nomatch z) fun tk => ⟨.bl b, H, I.kept (t' := tk) fun _ _ z => z, rfl, q⟩
theorem xd_dict {M : Addr → Prop} {H : Hp} {d : Option Addr} {fs : List (Str × PyData)} (h : XD M H d fs) : d = none ∨ ∃ dd fs, d = some dd ∧ H dd = some (.xd fs) := by
  rcases h with ⟨e, _⟩ | ⟨dd, vs, e, _, eh, _⟩
  · exact .inl e
  · exact .inr ⟨dd, vs, e, eh⟩
def dIsX (K : PySem.W.Frag) (i : Nat) (a : Addr) (cls : Value) (d : Option Addr) (cv : Value) : TDE := fun ds Q => ∃ fs b, ds[i]? = some (some (.exc a cls d fs)) ∧ PySem.W.kitOne K cls cv = some b ∧ Q (.bool b)
def dIsXT (K : PySem.W.Frag) (i : Nat) (a : Addr) (cls : Value) (d : Option Addr) (cs : List Addr) : TDE := fun ds Q => ∃ fs b, ds[i]? = some (some (.exc a cls d fs)) ∧ PySem.W.kitAny K cls (cs.map Value.ref) = some b ∧ Q (.bool b)
end
end DL
/-! ### isinstance(e, ..), e.f in an except suite -/
namespace DL
open PySem PySem.Spec L2 PyProof.Rows
def tCl : List Addr → TA
  | [] => tNil
  | c :: cs => tCons (tC (.ref c)) (tCl cs)
theorem tCl_of {σ : L2.St} {H : Hp} {R : List V → Hp → Prop} : ∀ {cs : List Addr}, R (cs.map V.ref) H → tCl cs σ H R
  | [], h => h
  | c :: cs, h => tCl_of (cs := cs) (R := fun vs H' => R (.ref c :: vs) H') h
/-- classes of the program, one behind the other -/
structure PCl (X : Cx) (es : List Expr) (cs : List Addr) : Prop where
  pa : PA X es (tCl cs)
def rIsC (K : PySem.W.Frag) (cls : Value) (a : Addr) (d : Option Addr) : List V → Hp → VK → Prop := fun xs H Q => ∃ D, cls = .ref D ∧ L2.ExcC K D ∧ rIsX K D a d xs H Q
def dIs (K : PySem.W.Frag) (i : Nat) (a : Addr) (cls : Value) (d : Option Addr) (cv : Value) : TDE := fun ds Q => ∃ fs b D, ds[i]? = some (some (.exc a cls d fs)) ∧ cls = .ref D ∧ L2.ExcC K D ∧ PySem.W.kitOne K (.ref D) cv = some b ∧ Q (.bool b)
def dIsT (K : PySem.W.Frag) (i : Nat) (a : Addr) (cls : Value) (d : Option Addr) (cs : List Addr) : TDE := fun ds Q => ∃ fs b D, ds[i]? = some (some (.exc a cls d fs)) ∧ cls = .ref D ∧ L2.ExcC K D ∧ PySem.W.kitAny K (.ref D) (cs.map Value.ref) = some b ∧ Q (.bool b)
def dXf (i : Nat) (a C : Addr) (cls : Value) (d : Option Addr) (f : Str) : TDE := fun ds Q => ∃ fs v, ds[i]? = some (some (.exc a cls d fs)) ∧ cls = .ref C ∧ fs.lookup f = some v ∧ Q v
section
variable {X : Cx} {B : Gr} {a : Addr} {oe : Obj} {cls : Value} {d : Option Addr} {pn : List (Addr × Obj)} {x : Str} {es : List Expr} {cs : List Addr} {c : Addr} {p p1 p2 p3 pos : Pos} {T : String}
theorem pcl_nil : PCl X [] [] := ⟨pa_nil⟩
theorem pcl_cons (hg : Gl X x) (hm : X.mg x = some (.ref c)) (h : PCl X es cs) (hd : (x == ("__debug__" : Str)) = false := by decide) (hs : starEach (.Name x p :: es) X.env = (false, eval (.Name x p) X.env) :: starEach es X.env := by rfl) : PCl X (.Name x p :: es) (c :: cs) :=
  ⟨pa_cons (pe_glob hg hm rfl hd) h.pa hs⟩
theorem call_isC (hz : Zc cls d oe) (hf : ∃ vs, oe.data = .fields vs) : CallR (X.suite a ((a, oe) :: pn)) (.builtin "isinstance") (rIsC X.K cls a d) := by
  intro pins s σ H xs us Q I r h
  obtain ⟨D, e, C, h⟩ := h
  subst e
  exact call_isX C hz hf pins s σ H xs us Q I r h
theorem exc_get (i : Nat) {M : Addr → Prop} {H : Hp} {σ : L2.St} {ds : DEnv} {fs : List (Str × PyData)} (en : EnvAt M B H σ ds) (e : ds[i]? = some (some (.exc a cls d fs))) : σ[i]? = some (some (.ref a)) ∧ XD M H d fs := by
  obtain ⟨v, hv, r⟩ := en.get i e
  cases r with
  | exc h => exact ⟨hv, h⟩
theorem d_isC (i : Nat) {n : Str} (hz : Zc cls d oe) (hf : ∃ vs, oe.data = .fields vs) (hv : PE (X.suite a ((a, oe) :: pn)) (.Name n p1) (tVar i)) (hg : Gl X "isinstance") (hm : X.mg "isinstance" = none) (hg2 : Gl X x) (hm2 : X.mg x = some (.ref c))
    (hd : (x == ("__debug__" : Str)) = false := by decide) (hs : starEach [.Name n p1, .Name x p2] X.env = (false, eval (.Name n p1) X.env) :: starEach [.Name x p2] X.env := by rfl) (hs2 : starEach [.Name x p2] X.env = (false, eval (.Name x p2) X.env) :: starEach [] X.env := by rfl) :
    PD (X.suite a ((a, oe) :: pn)) B (.Call (.Name "isinstance" p) [.Name n p1, .Name x p2] [] pos) (tCB (rIsC X.K cls a d) (tCons (tVar i) (tCons (tC (.ref c)) tNil))) (dIs X.K i a cls d (.ref c)) :=
  ⟨pe_callB (X := X.suite a ((a, oe) :: pn)) (call_isC hz hf) hg hm PyProof.Rows.boot_isinstance (pa_cons hv (pa_cons (pe_glob (X := X.suite a ((a, oe) :: pn)) hg2 hm2 rfl hd) pa_nil hs2) hs) (by decide) (by decide) hs rfl, fun M σ H ds Q R g en q c' => by
    obtain ⟨fs, b, D, e, ec, C, hk, q⟩ := q
    obtain ⟨hv, hx⟩ := exc_get i en e
    exact ⟨_, hv, D, ec, C, xd_dict hx, .inl ⟨_, .ref c, b, rfl, fun u z => z, hk, c' _ H _ g Keep.refl (.bl b) q⟩⟩⟩
theorem d_isB (i : Nat) {n : Str} (hz : Zc cls d oe) (hf : ∃ vs, oe.data = .fields vs) (hv : PE (X.suite a ((a, oe) :: pn)) (.Name n p1) (tVar i)) (hg : Gl X "isinstance") (hm : X.mg "isinstance" = none) (hg2 : Gl X x) (hm2 : X.mg x = none) (hb : bootBuiltins x = some (.type T))
    (hd : (x == ("__debug__" : Str)) = false := by decide) (hn : x ≠ "__name__" := by decide) (hs : starEach [.Name n p1, .Name x p2] X.env = (false, eval (.Name n p1) X.env) :: starEach [.Name x p2] X.env := by rfl) (hs2 : starEach [.Name x p2] X.env = (false, eval (.Name x p2) X.env) :: starEach [] X.env := by rfl) :
    PD (X.suite a ((a, oe) :: pn)) B (.Call (.Name "isinstance" p) [.Name n p1, .Name x p2] [] pos) (tCB (rIsC X.K cls a d) (tCons (tVar i) (tCons (tC (.ty T)) tNil))) (dIs X.K i a cls d (.type T)) :=
  ⟨pe_callB (X := X.suite a ((a, oe) :: pn)) (call_isC hz hf) hg hm PyProof.Rows.boot_isinstance (pa_cons hv (pa_cons (pe_bltn (X := X.suite a ((a, oe) :: pn)) hg2 hm2 hb rfl hn hd) pa_nil hs2) hs) (by decide) (by decide) hs rfl, fun M σ H ds Q R g en q c' => by
    obtain ⟨fs, b, D, e, ec, C, hk, q⟩ := q
    obtain ⟨hv, hx⟩ := exc_get i en e
    exact ⟨_, hv, D, ec, C, xd_dict hx, .inl ⟨_, .type T, b, rfl, fun u z => z, hk, c' _ H _ g Keep.refl (.bl b) q⟩⟩⟩
theorem d_isT (i : Nat) {n : Str} {k2} (hz : Zc cls d oe) (hf : ∃ vs, oe.data = .fields vs) (hv : PE (X.suite a ((a, oe) :: pn)) (.Name n p1) (tVar i)) (hg : Gl X "isinstance") (hm : X.mg "isinstance" = none) (hc : PCl (X.suite a ((a, oe) :: pn)) es cs) (hl : cs.length ≤ 100)
    (hs : starEach [.Name n p1, .Tuple es k2 p2] X.env = (false, eval (.Name n p1) X.env) :: starEach [.Tuple es k2 p2] X.env := by rfl) (hs2 : starEach [.Tuple es k2 p2] X.env = (false, eval (.Tuple es k2 p2) X.env) :: starEach [] X.env := by rfl) :
    PD (X.suite a ((a, oe) :: pn)) B (.Call (.Name "isinstance" p) [.Name n p1, .Tuple es k2 p2] [] pos) (tCB (rIsC X.K cls a d) (tCons (tVar i) (tCons (tTup (tCl cs)) tNil))) (dIsT X.K i a cls d cs) :=
  ⟨pe_callB (X := X.suite a ((a, oe) :: pn)) (call_isC hz hf) hg hm PyProof.Rows.boot_isinstance (pa_cons hv (pa_cons (pe_tup hc.pa) pa_nil hs2) hs) (by decide) (by decide) hs rfl, fun M σ H ds Q R g en q c' => by
    obtain ⟨fs, b, D, e, ec, C, hk, q⟩ := q
    obtain ⟨hv, hx⟩ := exc_get i en e
    refine ⟨_, hv, tCl_of ⟨by rw [List.length_map, sizeLine_eq]; omega, fun t ht => ⟨D, ec, C, xd_dict (hx.map ((Keep.new ht).stay g.1)), .inr ⟨t, cs, b, rfl, SqT.of upd_same, hk, c' _ _ _ (g.new ht) (Keep.new ht) (.bl b) q⟩⟩⟩⟩⟩
theorem fld_at {M : Addr → Prop} {H : Hp} {f : Str} {v : PyData} : ∀ {vs : List (Str × V)} {fs : List (Str × PyData)}, FldA M H vs fs → fs.lookup f = some v → ∃ u, vs.lookup f = some u ∧ Dt M H u v
  | _, _, .nil, e => by cases e
  | _, _, .cons (f := g) h t, e => by
    rw [List.lookup_cons] at e ⊢
    split at e
    · cases e
      exact ⟨_, rfl, h⟩
    · exact fld_at t e
theorem d_xf (i : Nat) {n f : Str} {C : Addr} (T : XfC X.K C) (hno : PySem.W.findIn X.K (.ref C) f = some none) (hz : Zc cls d oe) (hf : ∃ vs, oe.data = .fields vs) (hv : PE (X.suite a ((a, oe) :: pn)) (.Name n p1) (tVar i))
    (hb : attributeBase (.Name n p1) f X.env (eval (.Name n p1) X.env) = eval (.Name n p1) X.env := by rfl) :
    PD (X.suite a ((a, oe) :: pn)) B (.Attribute (.Name n p1) f pos) (tXf a cls d C f (tVar i)) (dXf i a C cls d f) :=
  ⟨pe_xf T hno hz hf hv hb, fun M σ H ds Q R g en q c' => by
    obtain ⟨fs, v, e, ec, el, q⟩ := q
    obtain ⟨hv, hx⟩ := exc_get i en e
    rcases hx with ⟨_, rfl⟩ | ⟨dd, vs, ed, _, eh, fa⟩
    · cases el
    · obtain ⟨u, hu, hd⟩ := fld_at fa el
      exact ⟨_, hv, rfl, ec, dd, vs, u, ed, eh, hu, c' _ H _ g Keep.refl hd q⟩⟩
end
end DL
namespace DL
open PySem PySem.Spec L2 PyProof.Rows
theorem fn_errF {P : Program} {w : World} {K : PySem.W.Frag} {mg : Str → Option Value} {base : Heap} {k : Nat} {f : Addr} {fd : FuncData} {qual fld : Str} {st : Stmt} {N ps : List Str} (F : Fun K "__init__" qual st f fd) (S : FnScope N ps (defScope st)) (h2 : ps.length = 2) (hN : 2 ≤ N.length)
    (hb : ∀ (cdv : Value) (A : Around) (outer : List Env) (s : Shared) (H : Hp) (E : XK), PSs (cxOf CX0 P w K mg base N qual (defScope st) f cdv A outer s H E) (defBody st) (tOst K fld (tVar 0) (tVar 1))) :
    FnOk P w K mg base CX0 (k + 1) f fd ps (spErr K fld) := by
  obtain ⟨oc, od, kV, doc, pm, an, cdv, ct, osl, rfl, lk, hcd⟩ := F.ex
  exact fn_err lk hcd S h2 (hb cdv) hN
end DL
namespace DL
open PySem L2
def allowedX (C E : Addr) : DRX := fun xs Q Ed => ∃ (n : Int) (ts : List Tm) (ss : List Int), xs = [.dat (brdD C n (ts.map Tm.py)), .dat (.tuple (ss.map .int))] ∧ Fine ts ss ∧ (isNone (leftV ts ss) = true → Q .none) ∧ (isNone (leftV ts ss) = false → Ed (.ref E) [("at", leftV ts ss)])
def gainX (C E : Addr) : DRX := fun xs Q Ed => ∃ (n : Int) (ts : List Tm) (ss gs : List Int) (w : Int), xs = [.dat (brdD C n (ts.map Tm.py)), .dat (.tuple (ss.map .int)), .dat (.int w), .dat (.list (gs.map .int))] ∧ Fine ts ss ∧ Fine ts (stepV ss gs w) ∧ ss.length < 1000 ∧ w.natAbs < 2 ^ 300 ∧
  (isNone (leftV ts ss) = true → Q (gainV ts ss (stepV ss gs w))) ∧ (isNone (leftV ts ss) = false → Ed (.ref E) [("at", leftV ts ss)])
def toldV (ts : List Tm) (ss tt : List Int) : PyData := if isNone (leftV ts ss) = true then .tuple [.str "gain", gainV ts ss tt] else .tuple [.str "left", leftV ts ss]
def toldX (C : Addr) : DRX := fun xs Q _ => ∃ (n : Int) (ts : List Tm) (ss gs : List Int) (w : Int), xs = [.dat (brdD C n (ts.map Tm.py)), .dat (.tuple (ss.map .int)), .dat (.int w), .dat (.list (gs.map .int))] ∧ Fine ts ss ∧ Fine ts (stepV ss gs w) ∧ ss.length < 1000 ∧ w.natAbs < 2 ^ 300 ∧ Q (toldV ts ss (stepV ss gs w))
end DL
namespace DL
open PySem L2
section
variable {X : Cx} {B : Gr} {a : Expr} {ta : TE} {da : TDE} {p p2 p3 pos : Pos}
def dLRg1 (da : TDE) : TDE := fun ds Q => da ds fun x => match x with
  | .int b => RgOk 0 b ∧ Q (.list (rangeD 0 (b - 0).toNat))
  | _ => False
theorem d_listRg1 (hc : X.calm = true) (hg : Gl X "list") (hm : X.mg "list" = none) (hg2 : Gl X "range") (hm2 : X.mg "range" = none) (ha : PD X B a ta da)
    (na : starEach [.Call (.Name "range" p2) [a] [] p3] X.env = (false, eval (.Call (.Name "range" p2) [a] [] p3) X.env) :: starEach [] X.env := by rfl)
    (n1 : starEach [a] X.env = (false, eval a X.env) :: starEach [] X.env := by rfl) :
    PD X B (.Call (.Name "list" p) [.Call (.Name "range" p2) [a] [] p3] [] pos) (tLstRg (tRg1 ta)) (dLRg1 da) := by
  refine ⟨pe_listRg hc hg hm (prg_1 hg2 hm2 ha.pe n1) na, fun M σ H ds Q R g en q c => ha.se M σ H ds _ _ g en q fun v H1 x g1 k1 hx q1 => ?_⟩
  cases hx <;> first | exact (show False from q1).elim | skip
  rename_i j
  obtain ⟨q3, q4⟩ := (show RgOk 0 j ∧ Q (.list (rangeD 0 (j - 0).toNat)) from q1)
  exact ⟨j, rfl, q3, fun l hl => c _ _ _ (g1.new hl) (k1.trans (Keep.new hl)) (Dt.newL g1 hl (rg_dta _)) q4⟩
end
theorem or_grp {Q : PyData → Prop} {ds : DEnv} {gs : List Int} (hg : Grp gs) (h : ∀ hs : List Int, Grp hs → Q (.list (hs.map .int))) : truD (PyData.list (gs.map PyData.int)) fun c => (c = true → Q (.list (gs.map .int))) ∧ (c = false → dLst (dCons (dC (.int 0)) dNil) ds Q) :=
  ⟨fun _ => h gs hg, fun _ => ⟨by unfold dSize; simp, h [0] ⟨by decide, fun d hd => by rw [List.mem_singleton.mp hd]; decide⟩⟩⟩
theorem range_grp {n : Nat} (hn : n ≤ 8) : ∃ gs : List Int, rangeD 0 n = gs.map .int ∧ Grp gs := by
  refine ⟨(List.range n).map fun (i : Nat) => (0 : Int) + (i : Int), by unfold rangeD; rw [List.map_map]; rfl, by rw [List.length_map, List.length_range]; exact hn, fun d hd => ?_⟩
  obtain ⟨i, hi, rfl⟩ := List.mem_map.mp hd
  have := List.mem_range.mp hi
  omega
theorem told_ok {ts : List Tm} {ss tt : List Int} (h1 : Fine ts ss) (h2 : Fine ts tt) : OkD (toldV ts ss tt) := by
  have c1 := h1.costs
  have c2 := h2.costs
  have str : ∀ z : Str, z = "gain" ∨ z = "left" → Leaf (.str z) := fun z hz => by
    rcases hz with rfl | rfl
    · exact ⟨by decide +kernel, by decide +kernel, by decide +kernel, by rw [PyData.shown_str]; decide +kernel⟩
    · exact ⟨by decide +kernel, by decide +kernel, by decide +kernel, by rw [PyData.shown_str]; decide +kernel⟩
  unfold toldV
  split
  · refine okTup (fun x hx => ?_) (by simp)
    simp only [List.mem_cons, List.not_mem_nil, or_false] at hx
    rcases hx with rfl | rfl
    · exact str _ (.inl rfl)
    · unfold gainV
      split
      · exact leafI ⟨by omega, by omega⟩
      · exact leafN
  · refine okTup (fun x hx => ?_) (by simp)
    simp only [List.mem_cons, List.not_mem_nil, or_false] at hx
    rcases hx with rfl | rfl
    · exact str _ (.inr rfl)
    · exact leaf_left h1
end DL
namespace DL
open PySem PySem.W
theorem kitR {K : Frag} {c C : Addr} {b : Bool} (hn : ((Value.ref c) == (Value.ref C)) = false) (hd : hasDictIn K C = true) (ht : typeIn K (.ref C) = some (.type "type")) (h : subIn K (.ref c) (.ref C) = some b) : kitOne K (.ref c) (.ref C) = some b := by
  obtain ⟨cd, hc, _⟩ := any_some hd
  have e : ((clsIn K C).isSome && typeIn K (.ref C) == some (.type "type")) = true := by rw [hc, ht] <;> rfl
  unfold kitOne kitCls
  rw [hn, if_neg Bool.false_ne_true]
  show (if ((clsIn K C).isSome && typeIn K (.ref C) == some (.type "type")) = true then subIn K (.ref c) (.ref C) else none) = some b
  rw [if_pos e]
  exact h
theorem kitT {K : Frag} {c : Addr} {T : String} {b : Bool} (hm : kitMeta T = true) (h : subIn K (.ref c) (.type T) = some b) : kitOne K (.ref c) (.type T) = some b := by
  unfold kitOne kitCls
  rw [if_neg (show ¬ (Value.ref c == Value.type T) = true from fun z => by simp at z)]
  show (if kitMeta T = true then subIn K (.ref c) (.type T) else none) = some b
  rw [if_pos hm]
  exact h
end DL
namespace k24
open PySem L2 DL
def top (i : Nat) : Stmt := PySem.Challenge.pw_mostpulled_k24_gains_of_steps.main.body.getD i (.Pass ⟨0, 0, 0, 0⟩)

local macro_rules | `(tactic| walk_at "dx") => `(tactic| try simp -implicitDefEqProofs only [sSeq, sNext, sRet, sIf, sAsg, sPar, sAugI, sFor, sBreak, sCont, dgName, v_tup, v_gcons, v_gnil, dVar, dC, dOp, dUn, dChain, dTup, dLst, dNil, dCons, aNil, aCons, aVar, dCall, dCB, dSl, v_part, dPart, dAndV, dOrV, dNotV, dIfE, dTru, dTest, dAndT, dOrT, dNotT, dLc, diSeq, diR1, diR2,
  v_add, v_addL, v_addT, v_sub, v_mul, v_mulL, v_fdiv, v_mod, v_pow, v_neg, v_cmp, v_eqI, v_neI, v_eqB, v_neB, v_eqS, v_neS, v_isN, v_isI, v_notN, v_notI, v_inT, v_inL, v_ixT, v_ixL, v_slT, v_slL, v_lenT, v_lenL, v_max2, v_min2, v_max3, v_intI, v_intB, v_abs, v_tupL, v_tupT, v_lstL, v_lstT, v_asB, v_truB, v_truI, v_truN, v_flN, v_flB, v_flI, v_flS, v_if,
  cRepr, cAll, dIsi, isInt, isBool, isTup, wipeD, dstart, List.map_cons, List.map_nil, List.length_cons, List.length_nil, List.cons_append, List.nil_append, List.replicate_zero, List.replicate_succ, List.getElem?_cons_zero, List.getElem?_cons_succ, List.set_cons_zero, List.set_cons_succ, List.all_cons, List.all_nil, Bool.and_self,
  Nat.sub_self, Nat.reduceSub, Nat.reduceAdd, Int.reduceAdd, Int.reduceSub, Int.reduceMul, Int.reduceNeg, Int.reduceBEq, Int.reduceEq, Int.reduceLT, Int.reduceBNe, decide_true, decide_false, List.append_nil, true_and, and_true, true_implies, forall_const, Bool.false_eq_true, Bool.true_eq_false, if_true, if_false, Bool.not_true, Bool.not_false])

abbrev cs24_17 : Scope := { kind := .function, names := [(".0", .«local»), ("dial", .«local»), ("setting", .«local»), ("by", .free), ("group", .free)], isGenerator := false, isCoroutine := false, more := [] }
abbrev cs24_17c : Scope := { kind := .function, names := [(".0", .«local»), ("dial", .«local»), ("setting", .«local»), ("by", .cell), ("group", .cell)], isGenerator := false, isCoroutine := false, more := [] }
abbrev cs72_15 : Scope := { kind := .function, names := [(".0", .«local»), ("part", .«local»), ("is_dial", .globalImplicit), ("size", .free)], isGenerator := false, isCoroutine := false, more := [] }
abbrev cs72_15c : Scope := { kind := .function, names := [(".0", .«local»), ("part", .«local»), ("is_dial", .globalImplicit), ("size", .cell)], isGenerator := false, isCoroutine := false, more := [] }
abbrev cs118_17 : Scope := { kind := .function, names := [(".0", .«local»), ("term", .«local»), ("has_force", .globalImplicit)], isGenerator := false, isCoroutine := false, more := [] }
abbrev cs118_17c : Scope := { kind := .function, names := [(".0", .«local»), ("term", .«local»), ("has_force", .globalImplicit)], isGenerator := false, isCoroutine := false, more := [] }
abbrev cs119_19 : Scope := { kind := .function, names := [(".0", .«local»), ("term", .«local»), ("distance", .globalImplicit), ("argument", .globalImplicit), ("standing", .free)], isGenerator := false, isCoroutine := false, more := [] }
abbrev cs119_19c : Scope := { kind := .function, names := [(".0", .«local»), ("term", .«local»), ("distance", .globalImplicit), ("argument", .globalImplicit), ("standing", .cell)], isGenerator := false, isCoroutine := false, more := [] }
abbrev cs138_15 : Scope := { kind := .function, names := [(".0", .«local»), ("term", .«local»), ("is_term", .globalImplicit), ("size", .free)], isGenerator := false, isCoroutine := false, more := [] }
abbrev cs138_15c : Scope := { kind := .function, names := [(".0", .«local»), ("term", .«local»), ("is_term", .globalImplicit), ("size", .cell)], isGenerator := false, isCoroutine := false, more := [] }
abbrev cs141_30 : Scope := { kind := .function, names := [(".0", .«local»), ("_law_cell", .«local»), ("abs", .globalImplicit)], isGenerator := false, isCoroutine := false, more := [] }
abbrev cs141_30c : Scope := { kind := .function, names := [(".0", .«local»), ("_law_cell", .«local»), ("abs", .globalImplicit)], isGenerator := false, isCoroutine := false, more := [] }
abbrev cs184_17 : Scope := { kind := .function, names := [(".0", .«local»), ("_law_dial", .«local»), ("int", .globalImplicit), ("_law_group", .free), ("_law_standing_here", .free), ("_law_way", .free)], isGenerator := false, isCoroutine := false, more := [] }
abbrev cs184_17c : Scope := { kind := .function, names := [(".0", .«local»), ("_law_dial", .«local»), ("int", .globalImplicit), ("_law_group", .cell), ("_law_standing_here", .cell), ("_law_way", .cell)], isGenerator := false, isCoroutine := false, more := [] }
abbrev cs192_17 : Scope := { kind := .function, names := [(".0", .«local»), ("_law_dial", .«local»), ("_law_number", .globalImplicit), ("_law_bag_here", .free), ("_law_middle", .free), ("_law_scale", .free)], isGenerator := false, isCoroutine := false, more := [] }
abbrev cs192_17c : Scope := { kind := .function, names := [(".0", .«local»), ("_law_dial", .«local»), ("_law_number", .globalImplicit), ("_law_bag_here", .cell), ("_law_middle", .cell), ("_law_scale", .cell)], isGenerator := false, isCoroutine := false, more := [] }
abbrev cs212_11 : Scope := { kind := .function, names := [(".0", .«local»), ("_law_one", .«local»), ("_law_term", .globalImplicit), ("_law_bag_here", .free), ("_law_most", .free), ("_law_scale", .free), ("_law_standing_here", .free), ("_law_stops", .free)], isGenerator := false, isCoroutine := false, more := [] }
abbrev cs212_11c : Scope := { kind := .function, names := [(".0", .«local»), ("_law_one", .«local»), ("_law_term", .globalImplicit), ("_law_bag_here", .cell), ("_law_most", .cell), ("_law_scale", .cell), ("_law_standing_here", .cell), ("_law_stops", .cell)], isGenerator := false, isCoroutine := false, more := [] }
abbrev cs236_35 : Scope := { kind := .function, names := [(".0", .«local»), ("_law_setting", .«local»), ("_law_number", .globalImplicit), ("_law_bag_here", .free)], isGenerator := false, isCoroutine := false, more := [] }
abbrev cs236_35c : Scope := { kind := .function, names := [(".0", .«local»), ("_law_setting", .«local»), ("_law_number", .globalImplicit), ("_law_bag_here", .cell)], isGenerator := false, isCoroutine := false, more := [] }
abbrev cs237_74 : Scope := { kind := .function, names := [(".0", .«local»), ("_law_dial", .«local»), ("_law_take", .globalImplicit), ("_law_bag_here", .free)], isGenerator := false, isCoroutine := false, more := [] }
abbrev cs237_74c : Scope := { kind := .function, names := [(".0", .«local»), ("_law_dial", .«local»), ("_law_take", .globalImplicit), ("_law_bag_here", .cell)], isGenerator := false, isCoroutine := false, more := [] }
abbrev s0 : Stmt := top 7
abbrev N0 : List Str := ["board", "standing", "at"]
theorem sc0 : FnScope N0 ["board", "standing"] (defScope s0) := ⟨rfl, rfl, rfl, by decide +kernel, rfl, by decide +kernel, by decide +kernel⟩
abbrev s1 : Stmt := top 8
abbrev N1 : List Str := ["standing", "way", "group", "times", "by", "dial", "setting"]
theorem sc1 : FnScope N1 ["standing", "way", "group", "times"] (defScope s1) := ⟨rfl, rfl, rfl, by decide +kernel, rfl, by decide +kernel, by decide +kernel⟩
abbrev s2 : Stmt := top 9
abbrev N2 : List Str := ["board", "standing", "way", "group", "after"]
theorem sc2 : FnScope N2 ["board", "standing", "way", "group"] (defScope s2) := ⟨rfl, rfl, rfl, by decide +kernel, rfl, by decide +kernel, by decide +kernel⟩
abbrev s3 : Stmt := top 11
abbrev N3 : List Str := ["term"]
theorem sc3 : FnScope N3 ["term"] (defScope s3) := ⟨rfl, rfl, rfl, by decide +kernel, rfl, by decide +kernel, by decide +kernel⟩
abbrev s4 : Stmt := top 12
abbrev N4 : List Str := ["term"]
theorem sc4 : FnScope N4 ["term"] (defScope s4) := ⟨rfl, rfl, rfl, by decide +kernel, rfl, by decide +kernel, by decide +kernel⟩
abbrev s5 : Stmt := top 13
abbrev N5 : List Str := ["term"]
theorem sc5 : FnScope N5 ["term"] (defScope s5) := ⟨rfl, rfl, rfl, by decide +kernel, rfl, by decide +kernel, by decide +kernel⟩
abbrev s6 : Stmt := top 14
abbrev N6 : List Str := ["term", "at"]
theorem sc6 : FnScope N6 ["term"] (defScope s6) := ⟨rfl, rfl, rfl, by decide +kernel, rfl, by decide +kernel, by decide +kernel⟩
abbrev s7 : Stmt := top 15
abbrev N7 : List Str := ["term", "standing"]
theorem sc7 : FnScope N7 ["term", "standing"] (defScope s7) := ⟨rfl, rfl, rfl, by decide +kernel, rfl, by decide +kernel, by decide +kernel⟩
abbrev s8 : Stmt := top 16
abbrev N8 : List Str := ["term", "argument", "low", "high"]
theorem sc8 : FnScope N8 ["term", "argument"] (defScope s8) := ⟨rfl, rfl, rfl, by decide +kernel, rfl, by decide +kernel, by decide +kernel⟩
abbrev s9 : Stmt := top 17
abbrev N9 : List Str := ["term"]
theorem sc9 : FnScope N9 ["term"] (defScope s9) := ⟨rfl, rfl, rfl, by decide +kernel, rfl, by decide +kernel, by decide +kernel⟩
abbrev s10 : Stmt := top 20
abbrev N10 : List Str := ["thing"]
theorem sc10 : FnScope N10 ["thing"] (defScope s10) := ⟨rfl, rfl, rfl, by decide +kernel, rfl, by decide +kernel, by decide +kernel⟩
abbrev s11 : Stmt := top 21
abbrev N11 : List Str := ["thing"]
theorem sc11 : FnScope N11 ["thing"] (defScope s11) := ⟨rfl, rfl, rfl, by decide +kernel, rfl, by decide +kernel, by decide +kernel⟩
abbrev s12 : Stmt := top 22
abbrev N12 : List Str := ["thing"]
theorem sc12 : FnScope N12 ["thing"] (defScope s12) := ⟨rfl, rfl, rfl, by decide +kernel, rfl, by decide +kernel, by decide +kernel⟩
abbrev s13 : Stmt := top 23
abbrev N13 : List Str := ["thing", "size"]
theorem sc13 : FnScope N13 ["thing", "size"] (defScope s13) := ⟨rfl, rfl, rfl, by decide +kernel, rfl, by decide +kernel, by decide +kernel⟩
abbrev s14 : Stmt := top 24
abbrev N14 : List Str := ["thing", "size", "word"]
theorem sc14 : FnScope N14 ["thing", "size"] (defScope s14) := ⟨rfl, rfl, rfl, by decide +kernel, rfl, by decide +kernel, by decide +kernel⟩
abbrev s15 : Stmt := top 25
abbrev N15 : List Str := ["thing"]
theorem sc15 : FnScope N15 ["thing"] (defScope s15) := ⟨rfl, rfl, rfl, by decide +kernel, rfl, by decide +kernel, by decide +kernel⟩
abbrev s16 : Stmt := top 26
abbrev N16 : List Str := ["parts", "size", "part"]
theorem sc16 : FnScope N16 ["parts", "size"] (defScope s16) := ⟨rfl, rfl, rfl, by decide +kernel, rfl, by decide +kernel, by decide +kernel⟩
abbrev s17 : Stmt := top 27
abbrev N17 : List Str := ["parts", "low", "high"]
theorem sc17 : FnScope N17 ["parts"] (defScope s17) := ⟨rfl, rfl, rfl, by decide +kernel, rfl, by decide +kernel, by decide +kernel⟩
abbrev s18 : Stmt := top 30
abbrev N18 : List Str := ["thing", "size", "term"]
theorem sc18 : FnScope N18 ["thing", "size"] (defScope s18) := ⟨rfl, rfl, rfl, by decide +kernel, rfl, by decide +kernel, by decide +kernel⟩
abbrev s19 : Stmt := top 32
abbrev N19 : List Str := ["_law_script", "_law_cell"]
theorem sc19 : FnScope N19 ["_law_script"] (defScope s19) := ⟨rfl, rfl, rfl, by decide +kernel, rfl, by decide +kernel, by decide +kernel⟩
abbrev s20 : Stmt := top 33
abbrev N20 : List Str := ["_law_bag_here", "_law_many", "_law_first", "_law_second", "_law_cell", "_law_value"]
theorem sc20 : FnScope N20 ["_law_bag_here", "_law_many"] (defScope s20) := ⟨rfl, rfl, rfl, by decide +kernel, rfl, by decide +kernel, by decide +kernel⟩
abbrev s21 : Stmt := top 34
abbrev N21 : List Str := ["_law_found", "_law_due"]
theorem sc21 : FnScope N21 ["_law_found", "_law_due"] (defScope s21) := ⟨rfl, rfl, rfl, by decide +kernel, rfl, by decide +kernel, by decide +kernel⟩
abbrev s22 : Stmt := top 35
abbrev N22 : List Str := ["_law_term_here", "_law_begin", "_law_other"]
theorem sc22 : FnScope N22 ["_law_term_here"] (defScope s22) := ⟨rfl, rfl, rfl, by decide +kernel, rfl, by decide +kernel, by decide +kernel⟩
abbrev s23 : Stmt := top 36
abbrev N23 : List Str := ["_law_term_here", "_law_standing_here", "_law_dial", "_law_other", "_law_low", "_law_high", "_law_force"]
theorem sc23 : FnScope N23 ["_law_term_here", "_law_standing_here"] (defScope s23) := ⟨rfl, rfl, rfl, by decide +kernel, rfl, by decide +kernel, by decide +kernel⟩
abbrev s24 : Stmt := top 37
abbrev N24 : List Str := ["_law_term_here", "_law_value", "_law_low", "_law_high"]
theorem sc24 : FnScope N24 ["_law_term_here", "_law_value"] (defScope s24) := ⟨rfl, rfl, rfl, by decide +kernel, rfl, by decide +kernel, by decide +kernel⟩
abbrev s25 : Stmt := top 38
abbrev N25 : List Str := ["_law_terms_here", "_law_standing_here", "_law_total", "_law_term_here", "_law_far_here", "_law_force"]
theorem sc25 : FnScope N25 ["_law_terms_here", "_law_standing_here"] (defScope s25) := ⟨rfl, rfl, rfl, by decide +kernel, rfl, by decide +kernel, by decide +kernel⟩
abbrev s26 : Stmt := top 39
abbrev N26 : List Str := ["_law_standing_here", "_law_way", "_law_group", "_law_dial"]
theorem sc26 : FnScope N26 ["_law_standing_here", "_law_way", "_law_group"] (defScope s26) := ⟨rfl, rfl, rfl, by decide +kernel, rfl, by decide +kernel, by decide +kernel⟩
abbrev s27 : Stmt := top 40
abbrev N27 : List Str := ["_law_terms_here", "_law_standing_here", "_law_way", "_law_group", "_law_later"]
theorem sc27 : FnScope N27 ["_law_terms_here", "_law_standing_here", "_law_way", "_law_group"] (defScope s27) := ⟨rfl, rfl, rfl, by decide +kernel, rfl, by decide +kernel, by decide +kernel⟩
abbrev s28 : Stmt := top 41
abbrev N28 : List Str := ["_law_bag_here", "_law_scale"]
theorem sc28 : FnScope N28 ["_law_bag_here", "_law_scale"] (defScope s28) := ⟨rfl, rfl, rfl, by decide +kernel, rfl, by decide +kernel, by decide +kernel⟩
abbrev s29 : Stmt := top 42
abbrev N29 : List Str := ["_law_bag_here", "_law_size", "_law_scale", "_law_middle", "_law_dial"]
theorem sc29 : FnScope N29 ["_law_bag_here", "_law_size", "_law_scale"] (defScope s29) := ⟨rfl, rfl, rfl, by decide +kernel, rfl, by decide +kernel, by decide +kernel⟩
abbrev s30 : Stmt := top 43
abbrev N30 : List Str := ["_law_bag_here", "_law_value", "_law_scale", "_law_inside", "_law_low", "_law_high"]
theorem sc30 : FnScope N30 ["_law_bag_here", "_law_value", "_law_scale", "_law_inside"] (defScope s30) := ⟨rfl, rfl, rfl, by decide +kernel, rfl, by decide +kernel, by decide +kernel⟩
abbrev s31 : Stmt := top 44
abbrev N31 : List Str := ["_law_bag_here", "_law_standing_here", "_law_scale", "_law_most", "_law_stops", "_law_force", "_law_other", "_law_size", "_law_way", "_law_dial", "_law_inside", "_law_low", "_law_high"]
theorem sc31 : FnScope N31 ["_law_bag_here", "_law_standing_here", "_law_scale", "_law_most", "_law_stops"] (defScope s31) := ⟨rfl, rfl, rfl, by decide +kernel, rfl, by decide +kernel, by decide +kernel⟩
abbrev s32 : Stmt := top 45
abbrev N32 : List Str := ["_law_bag_here", "_law_standing_here", "_law_scale", "_law_many", "_law_stops", "_law_most", "_law_one"]
theorem sc32 : FnScope N32 ["_law_bag_here", "_law_standing_here", "_law_scale", "_law_many", "_law_stops"] (defScope s32) := ⟨rfl, rfl, rfl, by decide +kernel, rfl, by decide +kernel, by decide +kernel⟩
abbrev s33 : Stmt := top 46
abbrev N33 : List Str := ["_law_terms_here", "_law_standing_here", "_law_at", "_law_far_here", "_law_force"]
theorem sc33 : FnScope N33 ["_law_terms_here", "_law_standing_here"] (defScope s33) := ⟨rfl, rfl, rfl, by decide +kernel, rfl, by decide +kernel, by decide +kernel⟩
abbrev s34 : Stmt := top 47
abbrev N34 : List Str := ["_law_board", "_law_standing_here", "_law_way", "_law_group", "e"]
theorem sc34 : FnScope N34 ["_law_board", "_law_standing_here", "_law_way", "_law_group"] (defScope s34) := ⟨rfl, rfl, rfl, by decide +kernel, rfl, by decide +kernel, by decide +kernel⟩
abbrev s35 : Stmt := top 48
abbrev N35 : List Str := ["_law_script", "_law_bag_here", "_law_k", "_law_size", "_law_standing_here", "_law_terms_here", "_law_board", "_law_turn", "_law_other", "_law_groups", "_law_group", "_law_due", "_law_way", "_law_left_here", "_law_shown", "_law_dial", "_law_setting"]
theorem sc35 : FnScope N35 ["_law_script"] (defScope s35) := ⟨rfl, rfl, rfl, by decide +kernel, rfl, by decide +kernel, by decide +kernel⟩
abbrev s36 : Stmt := inClass (top 29) 0
abbrev N36 : List Str := ["self", "size", "terms"]
theorem sc36 : FnScope N36 ["self", "size", "terms"] (defScope s36) := ⟨rfl, rfl, rfl, by decide +kernel, rfl, by decide +kernel, by decide +kernel⟩
abbrev s37 : Stmt := inClass (top 29) 2
abbrev N37 : List Str := ["self"]
theorem sc37 : FnScope N37 ["self"] (defScope s37) := ⟨rfl, rfl, rfl, by decide +kernel, rfl, by decide +kernel, by decide +kernel⟩
abbrev s38 : Stmt := inClass (top 29) 4
abbrev N38 : List Str := ["self", "other"]
theorem sc38 : FnScope N38 ["self", "other"] (defScope s38) := ⟨rfl, rfl, rfl, by decide +kernel, rfl, by decide +kernel, by decide +kernel⟩
abbrev s39 : Stmt := inClass (top 29) 6
abbrev N39 : List Str := ["self"]
theorem sc39 : FnScope N39 ["self"] (defScope s39) := ⟨rfl, rfl, rfl, by decide +kernel, rfl, by decide +kernel, by decide +kernel⟩
abbrev s40 : Stmt := inClass (top 29) 7
abbrev N40 : List Str := ["self", "standing", "at", "term"]
theorem sc40 : FnScope N40 ["self", "standing"] (defScope s40) := ⟨rfl, rfl, rfl, by decide +kernel, rfl, by decide +kernel, by decide +kernel⟩
abbrev s41 : Stmt := inClass (top 29) 8
abbrev N41 : List Str := ["self", "standing", "forced", "term"]
theorem sc41 : FnScope N41 ["self", "standing"] (defScope s41) := ⟨rfl, rfl, rfl, by decide +kernel, rfl, by decide +kernel, by decide +kernel⟩
abbrev t2 : Stmt := inClass (top 4) 0
theorem te2 : FnScope ["self", "at"] ["self", "at"] (defScope t2) := ⟨rfl, rfl, rfl, by decide +kernel, rfl, by decide +kernel, by decide +kernel⟩
structure Txt (w : World) (K : PySem.W.Frag) (mg : Str → Option Value) (C L : Addr) (f : Nat → Addr) (fd : Nat → FuncData) (e ei : Nat → Addr) (fe : Nat → FuncData) : Prop where
  e_PullError : mg "PullError" = some (.ref (e 0))
  e_Wrong : mg "Wrong" = some (.ref (e 1))
  e_NotAllowed : mg "NotAllowed" = some (.ref (e 2))
  e_NoneAllowed : mg "NoneAllowed" = some (.ref (e 3))
  ox_NotAllowed : OexC K (e 2)
  in_NotAllowed : PySem.W.findIn K (.ref (e 2)) "__init__" = some (some (.ref (ei 2)))
  ty_NotAllowed : PySem.W.typeIn K (.ref (ei 2)) = some (.type "function")
  no_NotAllowed : PySem.W.findIn K (.ref (e 2)) "at" = some none
  xi_NotAllowed : Fun K "__init__" "NotAllowed.__init__" t2 (ei 2) (fe 2)
  xb_NotAllowed : Binds K (fe 2) ["self", "at"] []
  xc_NotAllowed : L2.ExcC K (e 2)
  xf_NotAllowed : XfC K (e 2)
  xm_NotAllowed_PullError : PySem.W.exmOne K (.ref (e 2)) (.ref (e 0)) = some true
  xk_NotAllowed_NotAllowed : PySem.W.kitOne K (.ref (e 2)) (.ref (e 2)) = some true
  xk_NotAllowed_NoneAllowed : PySem.W.kitOne K (.ref (e 2)) (.ref (e 3)) = some false
  xk_NotAllowed_Wrong : PySem.W.kitOne K (.ref (e 2)) (.ref (e 1)) = some false
  xk_NotAllowed_ValueError : PySem.W.kitOne K (.ref (e 2)) (.type "ValueError") = some true
  cl : Cls K C
  nS : NoAttr K C "_size"
  nT : NoAttr K C "_terms"
  mgC : mg "Board" = some (.ref C)
  isi : IsiC K C
  mL : mg "TERMS" = some (.ref L)
  len : LenAt K w L
  d0 : DefAt K mg "check_allowed" s0 ["board", "standing"] (f 0) (fd 0)
  d1 : DefAt K mg "stepped" s1 ["standing", "way", "group", "times"] (f 1) (fd 1)
  d2 : DefAt K mg "gain" s2 ["board", "standing", "way", "group"] (f 2) (fd 2)
  d3 : DefAt K mg "has_other" s3 ["term"] (f 3) (fd 3)
  d4 : DefAt K mg "has_force" s4 ["term"] (f 4) (fd 4)
  d5 : DefAt K mg "dials_of" s5 ["term"] (f 5) (fd 5)
  d6 : DefAt K mg "ends_of" s6 ["term"] (f 6) (fd 6)
  d7 : DefAt K mg "argument" s7 ["term", "standing"] (f 7) (fd 7)
  d8 : DefAt K mg "distance" s8 ["term", "argument"] (f 8) (fd 8)
  d9 : DefAt K mg "_low_at" s9 ["term"] (f 9) (fd 9)
  d10 : DefAt K mg "is_integer" s10 ["thing"] (f 10) (fd 10)
  d11 : DefAt K mg "is_value" s11 ["thing"] (f 11) (fd 11)
  d12 : DefAt K mg "is_force" s12 ["thing"] (f 12) (fd 12)
  d13 : DefAt K mg "is_dial" s13 ["thing", "size"] (f 13) (fd 13)
  d14 : DefAt K mg "is_term" s14 ["thing", "size"] (f 14) (fd 14)
  d15 : DefAt K mg "_word" s15 ["thing"] (f 15) (fd 15)
  d16 : DefAt K mg "_are_dials" s16 ["parts", "size"] (f 16) (fd 16)
  d17 : DefAt K mg "_are_ends" s17 ["parts"] (f 17) (fd 17)
  d18 : DefAt K mg "_are_terms" s18 ["thing", "size"] (f 18) (fd 18)
  d19 : DefAt K mg "_law_bag" s19 ["_law_script"] (f 19) (fd 19)
  d20 : DefAt K mg "_law_take" s20 ["_law_bag_here", "_law_many"] (f 20) (fd 20)
  d21 : DefAt K mg "_law_alike" s21 ["_law_found", "_law_due"] (f 21) (fd 21)
  d22 : DefAt K mg "_law_parts" s22 ["_law_term_here"] (f 22) (fd 22)
  d23 : DefAt K mg "_law_argument" s23 ["_law_term_here", "_law_standing_here"] (f 23) (fd 23)
  d24 : DefAt K mg "_law_far" s24 ["_law_term_here", "_law_value"] (f 24) (fd 24)
  d25 : DefAt K mg "_law_strain" s25 ["_law_terms_here", "_law_standing_here"] (f 25) (fd 25)
  d26 : DefAt K mg "_law_stepped" s26 ["_law_standing_here", "_law_way", "_law_group"] (f 26) (fd 26)
  d27 : DefAt K mg "_law_gain" s27 ["_law_terms_here", "_law_standing_here", "_law_way", "_law_group"] (f 27) (fd 27)
  d28 : DefAt K mg "_law_number" s28 ["_law_bag_here", "_law_scale"] (f 28) (fd 28)
  d29 : DefAt K mg "_law_standing" s29 ["_law_bag_here", "_law_size", "_law_scale"] (f 29) (fd 29)
  d30 : DefAt K mg "_law_range" s30 ["_law_bag_here", "_law_value", "_law_scale", "_law_inside"] (f 30) (fd 30)
  d31 : DefAt K mg "_law_term" s31 ["_law_bag_here", "_law_standing_here", "_law_scale", "_law_most", "_law_stops"] (f 31) (fd 31)
  d32 : DefAt K mg "_law_terms" s32 ["_law_bag_here", "_law_standing_here", "_law_scale", "_law_many", "_law_stops"] (f 32) (fd 32)
  d33 : DefAt K mg "_law_left" s33 ["_law_terms_here", "_law_standing_here"] (f 33) (fd 33)
  d34 : DefAt K mg "_law_told" s34 ["_law_board", "_law_standing_here", "_law_way", "_law_group"] (f 34) (fd 34)
  d35 : DefAt K mg "law" s35 ["_law_script"] (f 35) (fd 35)
  i36 : Fun K "__init__" "Board.__init__" s36 (f 36) (fd 36)
  ib : Binds K (fd 36) ["self", "size", "terms"] []
  mkC : Mk K C (f 36)
  d37 : Fun K "size" "Board.size" s37 (f 37) (fd 37)
  b37 : Binds K (fd 37) ["self"] []
  p37 : PropOf K C "size" (f 1037) (f 37)
  m38 : MethAt K C "__eq__" "Board.__eq__" s38 ["self", "other"] (f 38) (fd 38)
  m39 : MethAt K C "terms" "Board.terms" s39 ["self"] (f 39) (fd 39)
  m40 : MethAt K C "left" "Board.left" s40 ["self", "standing"] (f 40) (fd 40)
  m41 : MethAt K C "strain" "Board.strain" s41 ["self", "standing"] (f 41) (fd 41)
  b_ValueError : mg "ValueError" = none
  b_abs : mg "abs" = none
  b_all : mg "all" = none
  b_bool : mg "bool" = none
  b_enumerate : mg "enumerate" = none
  b_int : mg "int" = none
  b_isinstance : mg "isinstance" = none
  b_len : mg "len" = none
  b_list : mg "list" = none
  b_max : mg "max" = none
  b_min : mg "min" = none
  b_range : mg "range" = none
  b_repr : mg "repr" = none
  b_str : mg "str" = none
  b_sum : mg "sum" = none
  b_tuple : mg "tuple" = none

def hasOtherR : DR := fun xs Q => ∃ t : Tm, xs = [.dat t.py] ∧ Q (.bool t.two)
def lowAtR : DR := fun xs Q => ∃ t : Tm, xs = [.dat t.py] ∧ Q (.int (if t.two then 3 else 2))
def endsR : DR := fun xs Q => ∃ t : Tm, xs = [.dat t.py] ∧ Q (.tuple [.int t.low, .int t.high])
def argR : DR := fun xs Q => ∃ (t : Tm) (ss : List Int), xs = [.dat t.py, .dat (.tuple (ss.map .int))] ∧ t.In ss.length ∧ Q (.int (t.arg ss))
def distR : DR := fun xs Q => ∃ (t : Tm) (v : Int), xs = [.dat t.py, .dat (.int v)] ∧ t.low ≤ t.high ∧ Q (.int (t.dist v))
def partsR : DR := fun xs Q => ∃ t : Tm, xs = [.dat t.py] ∧ Q (.tuple [.int t.dial, t.oth, .int t.low, .int t.high, t.frc])
def numR : DR := fun xs Q => ∃ s : Int, xs = [.bag, .dat (.int s)] ∧ 0 ≤ s ∧ s < 10 ^ 50 ∧ ∀ v : Int, -s ≤ v → v ≤ s → Q (.int v)
def standR2 : DR := fun xs Q => ∃ n s : Int, xs = [.bag, .dat (.int n), .dat (.int s)] ∧ 0 ≤ n ∧ n < 1000 ∧ 0 ≤ s ∧ s < 1000 ∧ ∀ (mid : Int) (ss : List Int), -(10 ^ 18 - 50) ≤ mid → mid ≤ 10 ^ 18 - 50 → ss.length = n.toNat → (∀ x ∈ ss, mid - s ≤ x ∧ x ≤ mid + s) → Q (.tuple (ss.map .int))
def rangeR2 : DR := fun xs Q => ∃ (v s : Int) (b : Bool), xs = [.bag, .dat (.int v), .dat (.int s), .dat (.bool b)] ∧ 0 < s ∧ s < 1000 ∧ ∀ l h : Int, l ≤ h → -(10 ^ 18) ≤ l → h ≤ 10 ^ 18 → (b = true → -(10 ^ 18) ≤ v → v ≤ 10 ^ 18 → l ≤ v ∧ v ≤ h) → Q (.tuple [.int l, .int h])
def termR2 : DR := fun xs Q => ∃ (mid : Int) (ss : List Int) (s m : Int) (b : Bool), xs = [.bag, .dat (.tuple (ss.map .int)), .dat (.int s), .dat (.int m), .dat (.bool b)] ∧ Near mid ss ∧ 0 < s ∧ s < 1000 ∧ 0 < m ∧ m ≤ 30 ∧ 0 < ss.length ∧ ss.length < 1000 ∧ ∀ t : Tm, t.Good ss.length → t.Holds ss → Q t.py
def dialsR : DR := fun xs Q => ∃ t : Tm, xs = [.dat t.py] ∧ Q (.tuple t.dials)
def isIntR : DR := fun xs Q => ∃ i : Int, xs = [.dat (.int i)] ∧ Q (.bool true)
def isValR : DR := fun xs Q => ∃ i : Int, xs = [.dat (.int i)] ∧ -(10 ^ 18) ≤ i ∧ i ≤ 10 ^ 18 ∧ Q (.bool true)
def isForceR : DR := fun xs Q => ∃ i : Int, xs = [.dat (.int i)] ∧ 1 ≤ i ∧ i ≤ 30 ∧ Q (.bool true)
def isDialR : DR := fun xs Q => ∃ i n : Int, xs = [.dat (.int i), .dat (.int n)] ∧ 0 ≤ i ∧ i < n ∧ Q (.bool true)
def wordR : DR := fun xs Q => ∃ t : Tm, xs = [.dat t.py] ∧ Q (.str t.word)
def areDialsR : DR := fun xs Q => ∃ (t : Tm) (n : Int), xs = [.dat (.tuple t.dials), .dat (.int n)] ∧ t.In n.toNat ∧ t.Diff ∧ Q (.bool true)
def areEndsR : DR := fun xs Q => ∃ l h : Int, xs = [.dat (.tuple [.int l, .int h])] ∧ l ≤ h ∧ -(10 ^ 18) ≤ l ∧ h ≤ 10 ^ 18 ∧ Q (.bool true)
def isTermR : DR := fun xs Q => ∃ (t : Tm) (n : Int), xs = [.dat t.py, .dat (.int n)] ∧ t.Good n.toNat ∧ Q (.bool true)
def areTermsR : DR := fun xs Q => ∃ (ts : List Tm) (n : Int), xs = [.dat (.list (ts.map Tm.py)), .dat (.int n)] ∧ ts.length ≤ 24 ∧ (∀ t ∈ ts, t.Good n.toNat) ∧ Q (.bool true)
def termsR : DR := fun xs Q => ∃ (mid : Int) (ss : List Int) (s many : Int) (b : Bool), xs = [.bag, .dat (.tuple (ss.map .int)), .dat (.int s), .dat (.int many), .dat (.bool b)] ∧ Near mid ss ∧ 0 < s ∧ s < 1000 ∧ 0 ≤ many ∧ many ≤ 24 ∧ 0 < ss.length ∧ ss.length < 1000 ∧ ∀ ts : List Tm, (ts.length : Int) ≤ many → (∀ t ∈ ts, t.Good ss.length ∧ t.Holds ss) → Q (.list (ts.map Tm.py))
section
variable {P : Program} {w : World} {K : PySem.W.Frag} {mg : Str → Option Value} {base : Heap} {C L : Addr} {f : Nat → Addr} {fd : Nat → FuncData} {e ei : Nat → Addr} {fe : Nat → FuncData}
theorem err_NotAllowed (T : Txt w K mg C L f fd e ei fe) : FnOk P w K mg base CX0 1 (ei 2) (fe 2) ["self", "at"] (spErr K "at") := fn_errF T.xi_NotAllowed te2 rfl (by decide) fun _ _ _ _ _ _ => pss_one (ps_ost (pv 0) (pv 1))
theorem ok_1 (T : Txt w K mg C L f fd e ei fe) : FnG P w K mg base 1 (f 1) (fd 1) ["standing", "way", "group", "times"] (spD stepR) := by
  have S := sc1
  refine fn_D T.d1.fn S (fun xs Q h => ?_) fun cdv A outer s H B c => ⟨_, _, (ds_cons (ds_set (i := 4) S.nd rfl (by first | exact Or.inl rfl | exact Or.inr rfl) (d_op op_mulV rd_mul (d_var 1) (d_var 3)))
      (ds_one (ds_ret (d_callTy (call_tupleK K) rdc_tuple (by rfl) T.b_tuple (by decide +kernel) (dl_cons (d_lc (own := [("dial", 5), ("setting", 6)]) rfl S.nd (di_enumT K (by rfl) T.b_enumerate (dl_cons (d_var 0) dl_nil)) (blkOk_by (N := N1) (sc := defScope s1) (by decide +kernel)) (fun _ _ _ _ _ => (dg_tup2 K 5 6 rfl S.nd rfl rfl (by first | exact Or.inl rfl | exact Or.inr rfl) (by first | exact Or.inl rfl | exact Or.inr rfl) (by first | exact Or.inl rfl | exact Or.inr rfl) (by first | exact Or.inl rfl | exact Or.inr rfl))) (fun _ _ _ _ _ => pts_nil) (fun M σ H ds Q R g e h c => st_yes M σ H ds Q R g e h c) (fun s' H' C cl fp => (d_if (dt_cmp (op_inK K) (rd_in) (d_var 5) (d_var 2) (by rfl)) (d_op (op_addK K) rd_add (d_var 6) (d_var 4)) (d_var 6))) (by decide)) dl_nil))))), fun xs Q h => ?_⟩
  · obtain ⟨ss, gs, w, k, rfl, _⟩ := h
    rfl
  · obtain ⟨ss, gs, w, k, rfl, len, hw, hk, h⟩ := h
    refine ⟨mulW (by omega) (by omega), szr0 (by rw [List.length_map]; omega), lcW_map (fun x => match x with
      | .tuple [.int i, .int s] => .int (if i ∈ gs then s + w * k else s)
      | _ => .none) _ _ _ (fun x hx N hN => ?_) ?_⟩
    · obtain ⟨i, hi⟩ := List.getElem?_of_mem hx
      obtain ⟨s, hs, rfl⟩ := enumD_map (ts := ss) (f := PyData.int) hi
      refine ⟨rfl, rfl, flat_ints gs, ?_⟩
      show asB (.bool (inD _ _)) _
      rw [inD_int]
      have hN : N (.int (if (i : Int) ∈ gs then s + w * k else s)) := hN
      refine ⟨fun z => ?_, fun z => ?_⟩
      · rw [if_pos (of_decide_eq_true z)] at hN
        exact hN
      · rw [if_neg (of_decide_eq_false z)] at hN
        exact hN
    rw [List.nil_append, enum_py (f := fun i s => if (i : Int) ∈ gs then s + w * k else s) (fun i s => rfl)]
    exact h
theorem ok_3 (T : Txt w K mg C L f fd e ei fe) : FnG P w K mg base 1 (f 3) (fd 3) ["term"] (spD hasOtherR) := by
  have S := sc3
  refine fn_D T.d3.fn S (fun xs Q h => ?_) fun cdv A outer s H B c => ⟨_, _, (ds_one (ds_ret (d_cmp (op_inK K) (rd_in) (d_ixK K (d_var 0) d_int) (d_tup (dl_cons d_str (dl_cons d_str dl_nil))) (by rfl)))), fun xs Q h => ?_⟩
  · obtain ⟨t, rfl, _⟩ := h
    rfl
  · obtain ⟨t, rfl, h⟩ := h
    cases t <;> (simp only [Tm.py, Tm.items]; walk_at "dx"; simp only [atI_0, Option.some.injEq, exists_eq_left', inTB_w, inTB_t, inTB_s, inTB_b, v_flS, true_and]; exact ⟨szr, h⟩)
theorem ok_4 (T : Txt w K mg C L f fd e ei fe) : FnG P w K mg base 1 (f 4) (fd 4) ["term"] (spD hasForceR) := by
  have S := sc4
  refine fn_D T.d4.fn S (fun xs Q h => ?_) fun cdv A outer s H B c => ⟨_, _, (ds_one (ds_ret (d_cmp (op_inK K) (rd_in) (d_ixK K (d_var 0) d_int) (d_tup (dl_cons d_str (dl_cons d_str dl_nil))) (by rfl)))), fun xs Q h => ?_⟩
  · obtain ⟨t, rfl, _⟩ := h
    rfl
  · obtain ⟨t, rfl, h⟩ := h
    cases t <;> (simp only [Tm.py, Tm.items]; walk_at "dx"; simp only [atI_0, Option.some.injEq, exists_eq_left', inWT_w, inWT_t, inWT_s, inWT_b, v_flS, true_and]; exact ⟨szr, h⟩)
theorem ok_10 (T : Txt w K mg C L f fd e ei fe) : FnG P w K mg base 1 (f 10) (fd 10) ["thing"] (spD isIntR) := by
  have S := sc10
  refine fn_D T.d10.fn S (fun xs Q h => ?_) fun cdv A outer s H B c => ⟨_, _, (ds_one (ds_ret (d_and (d_isi K okInt (d_var 0) (by rfl) T.b_isinstance (by rfl) T.b_int (by decide +kernel)) (d_one (d_not (d_isi K okBool (d_var 0) (by rfl) T.b_isinstance (by rfl) T.b_bool (by decide +kernel))))))), fun xs Q h => ?_⟩
  · obtain ⟨i, rfl, _⟩ := h
    rfl
  · obtain ⟨i, rfl, h⟩ := h
    exact ⟨fun _ => h, (fun z => nomatch z)⟩
theorem ok_15 (T : Txt w K mg C L f fd e ei fe) : FnG P w K mg base 1 (f 15) (fd 15) ["thing"] (spD wordR) := by
  have S := sc15
  refine fn_D T.d15.fn S (fun xs Q h => ?_) fun cdv A outer s H B c => ⟨_, _, (ds_cons (ds_if (dt_w (dw_or (dt_not (dt_valK K (d_isi K okTupI (d_var 0) (by rfl) T.b_isinstance (by rfl) T.b_tuple (by decide +kernel)))) (dw_or (dt_cmp (op_eqK K c.room.units) rd_eq (d_callB (call_lenK K) rdc_len (by rfl) T.b_len (by decide +kernel) (dl_cons (d_var 0) dl_nil)) d_int (nomark _)) (dw_or1 (dt_not (dt_valK K (d_isi K okStrI (d_ixK K (d_var 0) d_int) (by rfl) T.b_isinstance (by rfl) T.b_str (by decide +kernel)))))))) (ds_one (ds_ret d_str)) ds_nil)
      (ds_one (ds_ret (d_ixK K (d_var 0) d_int)))), fun xs Q h => ?_⟩
  · obtain ⟨t, rfl, _⟩ := h
    rfl
  · obtain ⟨t, rfl, h⟩ := h
    have e0 : PyData.eqv (.int t.items.length) (.int 0) = false := by cases t <;> rfl
    have w0 : atI t.items 0 = some (.str t.word) := by cases t <;> rfl
    refine ⟨(fun z => nomatch z), fun _ => ⟨rfl, rfl, ⟨fun z => absurd (e0.symm.trans z) Bool.false_ne_true, fun _ => ⟨_, w0, ⟨(fun z => nomatch z), fun _ => ⟨_, w0, h⟩⟩⟩⟩⟩⟩
theorem ok_19 (T : Txt w K mg C L f fd e ei fe) : FnG P w K mg base 1 (f 19) (fd 19) ["_law_script"] (spBag K) := by
  have S := sc19
  refine fn_ofG T.d19.fn S (fun vs H Q E h => ?_) fun cdv A outer s H vs Q hG hr h => ?_
  · obtain ⟨a, ns, rfl, _⟩ := h
    rfl
  obtain ⟨a, ns, rfl, hS, hlen, k⟩ := h
  refine ⟨_, pss_one (ps_ret (pe_lst (pa_cons pe_int (pa_cons pe_int (pa_cons pe_int (pa_cons (pe_lc (own := [("_law_cell", 1)]) (g := gName 1) (tt := tYes) rfl S.nd
    (pi_list (pe_slice sl_list (pv 0) po_none (po_some pe_int))) (blkOk_by (N := N19) (sc := defScope s19) (by decide +kernel)) (fun _ _ _ _ _ => pg_name (i := 1) S.nd rfl (Or.inl rfl)) (fun _ _ _ _ _ => pts_nil)
    (fun _ _ _ _ _ => pe_callB call_abs (by rfl) T.b_abs (by decide +kernel) (pa_cons (pv 1) pa_nil))) pa_nil)))))), ?_⟩
  refine ⟨_, rfl, _, rfl, a, _, rfl, hS, fun p hp => ⟨p, rfl, ⟨_, SqL.of upd_same⟩, fun D hD => ?_⟩⟩
  have hpD : p ≠ D := fun z => by
    rw [← z, upd_same] at hD
    cases hD
  have cl : (cutV (ns.map V.int) none (some 63)).length ≤ 63 := Nat.le_trans (cutV_length _ _ _) (by rw [List.length_map]; exact hlen)
  refine lc_list (K := K) (a := p) (xs := cutV (ns.map V.int) none (some 63)) (fun i H2 => H2 p = some (.lst (cutV (ns.map V.int) none (some 63))) ∧ ∃ ms : List Int, H2 D = some (.lst (ms.map V.int)) ∧ ms.length ≤ i ∧ ∀ m ∈ ms, (0 : Int) ≤ m)
    ⟨by rw [upd_ne hpD]; exact upd_same, [], upd_same, Nat.le_refl _, fun _ z => nomatch z⟩ (fun i H2 _ h => SqL.of h.1) ?_ ?_
  · rintro i y H2 hy ⟨e1, ms, e2, hm, nn⟩
    have hi : i < 63 := Nat.lt_of_lt_of_le (List.getElem?_eq_some_iff.mp hy).1 cl
    obtain ⟨v, rfl⟩ : ∃ v, y = V.int v := by
      have mem : y ∈ ns.map V.int := List.mem_of_mem_drop (List.mem_of_mem_take (List.mem_of_getElem? hy))
      obtain ⟨v, _, e⟩ := List.mem_map.mp mem
      exact ⟨v, e.symm⟩
    refine ⟨rfl, ?_⟩
    refine ⟨_, rfl, _, rfl, ms.map V.int, e2, ?_, ?_, ms ++ [if v < 0 then -v else v], ?_, ?_, fun z hz => ?_⟩
    · have hs : sizeLine = 16777216 := sizeLine_eq
      rw [List.length_map]
      omega
    · rw [upd_ne hpD]
      exact e1
    · rw [upd_same, List.map_append]
      rfl
    · rw [List.length_append, List.length_singleton]
      omega
    · rcases List.mem_append.mp hz with hz | hz
      · exact nn z hz
      · rw [List.mem_singleton.mp hz]
        split <;> omega
  · rintro H2 ⟨e1, ms, e2, hm, nn⟩
    refine ⟨by show 4 ≤ sizeLine; rw [sizeLine_eq]; decide, fun B hB => ?_⟩
    have nD : D ≠ B := ne_of_none e2 hB
    exact k B D ms _ upd_same nD (by rw [upd_ne nD]; exact e2) nn
theorem ok_20 (T : Txt w K mg C L f fd e ei fe) : FnG P w K mg base 1 (f 20) (fd 20) ["_law_bag_here", "_law_many"] (spD takeR) := by
  have S := sc20
  refine fn_ofG T.d20.fn S (fun vs H Q E h => ?_) fun cdv A outer s H vs Q hG hr h => ?_
  · obtain ⟨M, B, xs, Qd, ha, _, ⟨m, rfl, _⟩, _⟩ := h
    exact ha.length
  obtain ⟨M, B, xs, Qd, ha, g, ⟨m, rfl, m0, m1, hq⟩, c⟩ := h
  obtain ⟨b0, b1, b2, q, ns, ok, eH, h0, h1, h2, h3⟩ := id g.ok
  cases ha with
  | cons r1 _ t1 => cases t1 with
    | cons r2 _ t2 =>
    cases t2
    cases r1
    cases r2 with
    | dat r2 =>
    cases r2
    -- the state behind the first if
    obtain ⟨u, hu, ru⟩ : ∃ u, PSs (cxOf CX0 P w K mg base N20 "_law_take" (defScope s20) (f 20) cdv A outer s H E0).nox ((defBody s20).drop 1) u ∧
        ∀ (c0 c1 c2 : Int) (o2 o3 o4 o5 : Option V), 0 ≤ c0 → 0 ≤ c1 → c1 < 2147483647 → 0 ≤ c2 → u { nx := fun _ H' => Q .non H', rt := Q } [some (.ref B), some (.int m), o2, o3, o4, o5] (upd H B (bagL c0 c1 c2 q)) := by
      refine ⟨_, pss_cons (ps_if (pt_cmpR op_gt (pe_ix ix_list (pv 0) pe_int (fun _ _ => rfl)) pe_int (nomark _))
          (pss_cons (ps_set (i := 5) S.nd rfl (Or.inl rfl) (pe_op op_mod (pe_ix ix_list (pv 0) pe_int (fun _ _ => rfl)) (pv 1)))
          (pss_cons (ps_asg (pe_op op_fdivW (pe_ix ix_list (pv 0) pe_int (fun _ _ => rfl)) (pv 1)) (pg_sub (pv 0) pe_int set_list)) (pss_one (ps_ret (pv 5))))) pss_nil)
        (pss_cons (ps_set (i := 2) S.nd rfl (Or.inl rfl) (pe_op op_mod (pe_op op_mul (pe_op op_add (pe_ix ix_list (pv 0) pe_int (fun _ _ => rfl)) pe_int) pe_int) pe_int))
        (pss_cons (ps_set (i := 3) S.nd rfl (Or.inl rfl) (pe_op op_mod (pe_op op_mul (pe_op op_mod (pe_op op_mul (pv 2) (pv 2)) pe_int) pe_int) pe_int))
        (pss_cons (ps_if (pt_cmpR op_gt (pv 1) pe_int (nomark _)) (pss_one (ps_ret (pe_op op_mod (pe_op op_add (pe_op op_mul (pv 3) pe_int) (pv 2)) (pv 1)))) pss_nil)
        (pss_one (ps_ret (pe_op op_mod (pe_op op_fdiv (pv 3) pe_int) (pv 1))))))), ?_⟩
      intro c0 c1 c2 o2 o3 o4 o5 k0 k1 k2 k3
      have back : ∀ (v : Int) (d0 : Int), 0 ≤ d0 → 0 ≤ v → v < m → Q (.int v) (upd H B (bagL d0 c1 c2 q)) := fun v d0 hd hv hm => have kk : Keep M B.a H (upd H B.a (bagL d0 c1 c2 q)) := (Keep.at ok.m fun q' e' => by
        unfold bagq at e' ⊢
        rw [eH, upd_same] at e'
        rw [upd_same]
        exact e')
        c _ _ _ (g.expr (ok.good hd k1 k2 k3) kk) kk (.int v) (hq v hv hm)
      have rem : ∀ x : Int, 0 ≤ x % m ∧ x % m < m := fun x => ⟨Int.emod_nonneg _ (by omega), Int.emod_lt_of_pos _ m0⟩
      refine ⟨_, rfl, B, _, _, _, rfl, rfl, SqL.of upd_same, rfl, _, _, rfl, rfl, _, rfl, ite2 (fun hc => ?_) fun hc => ?_⟩
      · refine ⟨_, rfl, B, _, _, _, rfl, rfl, SqL.of upd_same, rfl, _, rfl, _, _, rfl, rfl, m0, ?_⟩
        refine ⟨_, rfl, B, _, _, _, rfl, rfl, SqL.of upd_same, rfl, _, rfl, _, _, rfl, rfl, wide_div m0 (b := 1000) ?_ (by decide) (by decide), ?_⟩
        · have e : ((2 : Int) ^ 1000) = (((2 : Nat) ^ 1000 : Nat) : Int) := by rfl
          rw [e] at m1
          generalize (2 : Nat) ^ 1000 = mm at m1 ⊢
          omega
        refine ⟨_, rfl, B, _, _, 0, rfl, rfl, upd_same, rfl, _, rfl, ?_⟩
        rw [upd_upd]
        exact back _ _ (Int.ediv_nonneg k0 (by omega)) (rem c0).1 (rem c0).2
      · have fl : 0 ≤ (c1 + 1) * 39373 % 1000000007 ∧ (c1 + 1) * 39373 % 1000000007 < 1000000007 := ⟨Int.emod_nonneg _ (by decide), Int.emod_lt_of_pos _ (by decide)⟩
        refine ⟨_, rfl, B, _, _, _, rfl, rfl, SqL.of upd_same, rfl, _, _, rfl, rfl, _, _, rfl, rfl, .inr ⟨by decide, by decide⟩, _, _, rfl, rfl, (by show (0 : Int) < 1000000007; decide), ?_⟩
        generalize (c1 + 1) * 39373 % 1000000007 = v1 at fl
        have sl : ∀ x : Int, 0 ≤ x % 998244353 ∧ x % 998244353 < 998244353 := fun x => ⟨Int.emod_nonneg _ (by decide), Int.emod_lt_of_pos _ (by decide)⟩
        refine ⟨_, rfl, _, rfl, _, _, rfl, rfl, .inl ⟨by omega, by omega⟩, _, _, rfl, rfl, (by show (0 : Int) < 998244353; decide), _, _, rfl, rfl, .inr ⟨by decide, by decide⟩, _, _, rfl, rfl, (by show (0 : Int) < 998244353; decide), ?_⟩
        have s2 := sl (v1 * v1 % 998244353 * 30011)
        generalize v1 * v1 % 998244353 * 30011 % 998244353 = v2 at s2
        refine ⟨_, rfl, _, _, rfl, rfl, _, rfl, ite2 (fun hm => ?_) fun hm => ?_⟩
        · exact ⟨_, rfl, _, _, rfl, rfl, .inr ⟨by decide, by decide⟩, _, rfl, _, _, rfl, rfl, _, rfl, _, _, rfl, rfl, m0, back _ _ k0 (rem _).1 (rem _).2⟩
        · exact ⟨_, rfl, _, _, rfl, rfl, ⟨by decide, by decide⟩, _, rfl, _, _, rfl, rfl, m0, back _ _ k0 (rem _).1 (rem _).2⟩
    -- behind the cell is drawn
    obtain ⟨u2, hu2, ru2⟩ : ∃ u2, PSs (cxOf CX0 P w K mg base N20 "_law_take" (defScope s20) (f 20) cdv A outer s H E0).nox ((ifBody ((defBody s20).getD 0 (.Pass ⟨0, 0, 0, 0⟩))).drop 2) u2 ∧
        ∀ (cell : Int) (o2 o3 o5 : Option V), 0 ≤ cell → b0 = 0 → u2 { nx := u { nx := fun _ H' => Q .non H', rt := Q }, rt := Q } [some (.ref B), some (.int m), o2, o3, some (.int cell), o5] (upd H B (bagL b0 b1 b2 q)) := by
      refine ⟨_, pss_cons (ps_augS (pv 0) pe_int get_list pe_int ip_add set_list)
        (pss_cons (ps_if (pt_cmpR op_ge (pv 4) pe_int (nomark _)) (pss_one (ps_asg (pv 4) (pg_sub (pv 0) pe_int set_list))) pss_nil)
        (pss_one (ps_asg (pe_op op_mod (pe_op op_add (pe_op op_add (pe_op op_mul (pe_ix ix_list (pv 0) pe_int (fun _ _ => rfl)) pe_int) (pe_op op_mod (pv 4) pe_int)) (pe_op op_mul pe_int (pe_ix ix_list (pv 0) pe_int (fun _ _ => rfl)))) pe_int) (pg_sub (pv 0) pe_int set_list)))), ?_⟩
      intro cell o2 o3 o5 hc hz
      refine ⟨_, rfl, B, _, _, 2, rfl, rfl, SqL.of upd_same, rfl, _, _, rfl, rfl, B, _, _, 2, rfl, rfl, upd_same, rfl, ?_⟩
      rw [upd_upd]
      have sd : ∀ x : Int, 0 ≤ x % 2147483647 ∧ x % 2147483647 < 2147483647 := fun x => ⟨Int.emod_nonneg _ (by decide), Int.emod_lt_of_pos _ (by decide)⟩
      have last : ∀ c0 : Int, 0 ≤ c0 → tAsg (tOp (rI (fun _ j => 0 < j) fun i j => .int (i % j)) (tOp (rI0 fun i j => .int (i + j)) (tOp (rI0 fun i j => .int (i + j)) (tOp (rI CMul fun i j => .int (i * j)) (tOp (rIxL K) (tVar 0) (tC (.int 1))) (tC (.int 48271))) (tOp (rI (fun _ j => 0 < j) fun i j => .int (i % j)) (tVar 4) (tC (.int 2147483647)))) (tOp (rI CMul fun i j => .int (i * j)) (tC (.int 7919)) (tOp (rIxL K) (tVar 0) (tC (.int 2))))) (tC (.int 2147483647)))
          (gSub (tVar 0) (tC (.int 1)) rSetL) { nx := u { nx := fun _ H' => Q .non H', rt := Q }, rt := Q } [some (.ref B), some (.int m), o2, o3, some (.int cell), o5] (upd H B (bagL c0 b1 (b2 + 1) q)) := by
        intro c0 hc0
        refine ⟨_, rfl, B, _, _, _, rfl, rfl, SqL.of upd_same, rfl, _, _, rfl, rfl, .inr ⟨by decide, by decide⟩, _, rfl, _, _, rfl, rfl, (by show (0 : Int) < 2147483647; decide), _, _, rfl, rfl, ?_⟩
        refine ⟨_, rfl, B, _, _, _, rfl, rfl, SqL.of upd_same, rfl, _, _, rfl, rfl, .inl ⟨by decide, by decide⟩, _, _, rfl, rfl, _, _, rfl, rfl, (by show (0 : Int) < 2147483647; decide), ?_⟩
        refine ⟨_, rfl, B, _, _, 1, rfl, rfl, upd_same, rfl, ?_⟩
        rw [upd_upd]
        exact ru c0 _ (b2 + 1) _ _ _ _ hc0 (sd _).1 (sd _).2 (by omega)
      refine ⟨_, rfl, _, _, rfl, rfl, _, rfl, ite2 (fun hb => ?_) fun hb => last b0 h0⟩
      refine ⟨_, rfl, _, rfl, B, _, _, 0, rfl, rfl, upd_same, rfl, ?_⟩
      rw [upd_upd]
      exact last cell hc
    refine ⟨_, pss_cons (ps_if (pt_cmpR op_eq (pe_ix ix_list (pv 0) pe_int (fun _ _ => rfl)) pe_int (nomark _))
        (pss_cons (ps_set (i := 4) S.nd rfl (Or.inl rfl) pe_int)
        (pss_cons (ps_if (pt_cmpR op_lt (pe_ix ix_list (pv 0) pe_int (fun _ _ => rfl)) (pe_callB call_len_seq (by rfl) T.b_len PySem.boot_len (pa_cons (pe_ix ix_list (pv 0) pe_int (fun _ _ => rfl)) pa_nil)) (nomark _))
          (pss_one (ps_set (i := 4) S.nd rfl (Or.inl rfl) (pe_ix ix_list (pe_ix ix_list (pv 0) pe_int (fun _ _ => rfl)) (pe_ix ix_list (pv 0) pe_int (fun _ _ => rfl)) (fun _ _ => rfl)))) pss_nil) hu2)) pss_nil) hu, ?_⟩
    rw [eH]
    refine ⟨_, rfl, B, _, _, _, rfl, rfl, SqL.of upd_same, rfl, rfl, _, rfl, ite2 (fun hz => ?_) fun hz => ru b0 b1 b2 _ _ _ _ h0 h1 h2 h3⟩
    have hz0 : b0 = 0 := by simpa using hz
    have hqB : (upd H B (bagL b0 b1 b2 q)) q = some (.lst (ns.map V.int)) := by
      rw [upd_ne ok.ne]
      exact ok.cells
    refine ⟨_, rfl, B, _, _, _, rfl, rfl, SqL.of upd_same, rfl, _, rfl, B, _, _, _, rfl, rfl, SqL.of upd_same, rfl, q, _, rfl, .inl (SqL.of hqB), _, _, rfl, rfl, _, rfl, ite2 (fun hl => ?_) fun hl => ru2 0 _ _ _ (by decide) hz0⟩
    have hl2 : b2 < ((ns.map V.int).length : Int) := by simpa using hl
    rw [List.length_map] at hl2
    have hn : b2.toNat < ns.length := by omega
    refine ⟨_, rfl, B, _, _, _, rfl, rfl, SqL.of upd_same, rfl, _, rfl, B, _, _, _, rfl, rfl, SqL.of upd_same, rfl, q, _, _, .int ns[b2.toNat], rfl, rfl, SqL.of hqB, ?_, ru2 ns[b2.toNat] _ _ _ (ok.nn _ (List.getElem_mem hn)) hz0⟩
    obtain ⟨k, rfl⟩ := Int.eq_ofNat_of_zero_le h3
    refine atI_nat ?_
    rw [List.getElem?_map, List.getElem?_eq_getElem (by simpa using hn)]
    rfl
theorem ok_21 (T : Txt w K mg C L f fd e ei fe) : FnG P w K mg base 1 (f 21) (fd 21) ["_law_found", "_law_due"] (spD alikeR) := by
  have S := sc21
  refine fn_D T.d21.fn S (fun xs Q h => ?_) fun cdv A outer s H B c => ⟨_, _, (ds_one (ds_ret (d_and (d_cmp (op_eqK K c.room.units) rd_eq (d_var 0) (d_var 1) (nomark _)) (d_one (d_cmp (op_eqK K c.room.units) rd_eq (d_callB (call_reprK K c.guards c.room.units) rdc_repr (by rfl) T.b_repr (by decide +kernel) (dl_cons (d_var 0) dl_nil)) (d_callB (call_reprK K c.guards c.room.units) rdc_repr (by rfl) T.b_repr (by decide +kernel) (dl_cons (d_var 1) dl_nil)) (nomark _)))))), fun xs Q h => ?_⟩
  · obtain ⟨d, rfl, _⟩ := h
    rfl
  · obtain ⟨d, rfl, ok, h⟩ := h
    have e1 : rEqA d d = fun Q => rEqA d d Q := rfl
    walk_at "dx"
    refine alike_eq ok ?_
    walk_at "dx"
    exact ⟨ok.nd, ok.sw, ok.dp, ok.sz, ok.nd, ok.sw, ok.dp, ok.sz, by simpa using h⟩
theorem ok_22 (T : Txt w K mg C L f fd e ei fe) : FnG P w K mg base 1 (f 22) (fd 22) ["_law_term_here"] (spD partsR) := by
  have S := sc22
  refine fn_D T.d22.fn S (fun xs Q h => ?_) fun cdv A outer s H B c => ⟨_, _, (ds_cons (ds_set (i := 1) S.nd rfl (by first | exact Or.inl rfl | exact Or.inr rfl) (d_op (op_addK K) rd_add d_int (d_callTy call_int1 rdc_int (by rfl) T.b_int (by decide +kernel) (dl_cons (d_cmp (op_inK K) (rd_in) (d_ixK K (d_var 0) d_int) (d_tup (dl_cons d_str (dl_cons d_str dl_nil))) (by rfl)) dl_nil))))
      (ds_cons (ds_set (i := 2) S.nd rfl (by first | exact Or.inl rfl | exact Or.inr rfl) (d_if (dt_cmp (op_eqK K c.room.units) rd_eq (d_var 1) d_int (nomark _)) (d_ixK K (d_var 0) d_int) d_non))
      (ds_one (ds_ret (d_tup (dl_cons (d_ixK K (d_var 0) d_int) (dl_cons (d_var 2) (dl_cons (d_ixK K (d_var 0) (d_var 1)) (dl_cons (d_ixK K (d_var 0) (d_op (op_addK K) rd_add (d_var 1) d_int)) (dl_cons (d_if (dt_cmp (op_inK K) (rd_in) (d_ixK K (d_var 0) d_int) (d_tup (dl_cons d_str (dl_cons d_str dl_nil))) (by rfl)) (d_ixK K (d_var 0) (d_neg d_int)) d_non) dl_nil)))))))))), fun xs Q h => ?_⟩
  · obtain ⟨t, rfl, _⟩ := h
    rfl
  · obtain ⟨t, rfl, h⟩ := h
    cases t <;> (simp only [Tm.py, Tm.items]; walk_at "dx"; simp only [atI_0, Option.some.injEq, exists_eq_left', inTB_w, inTB_t, inTB_s, inTB_b, v_flS, true_and]; refine ⟨szr, ?_⟩; walk_at "dx"; simp only [atI_1, atI_2, atI_3, atI_4, atI_0, atI_m4, atI_m5, atI_m6, Option.some.injEq, exists_eq_left', inWT_w, inWT_t, inWT_s, inWT_b, v_flS, true_and]; walk_at "dx"; exact ⟨szr, szr, h⟩)
theorem ok_26 (T : Txt w K mg C L f fd e ei fe) : FnG P w K mg base 1 (f 26) (fd 26) ["_law_standing_here", "_law_way", "_law_group"] (spD lawStepR) := by
  have S := sc26
  refine fn_D T.d26.fn S (fun xs Q h => ?_) fun cdv A outer s H B c => ⟨_, _, (ds_one (ds_ret (d_callTy (call_tupleK K) rdc_tuple (by rfl) T.b_tuple (by decide +kernel) (dl_cons (d_lc (own := [("_law_dial", 3)]) (is := [3]) rfl S.nd (di_range1 (by rfl) T.b_range (dl_cons (d_callB (call_lenK K) rdc_len (by rfl) T.b_len (by decide +kernel) (dl_cons (d_var 0) dl_nil)) dl_nil)) (blkOk_by (N := N26) (sc := defScope s26) (by decide +kernel)) (fun _ _ _ _ _ => (dg_name S.nd rfl (Or.inl rfl))) (fun _ _ _ _ _ => pts_nil) (fun M σ H ds Q R g e h c => st_yes M σ H ds Q R g e h c) (fun s' H' C cl fp => (d_op (op_addK K) rd_add (d_ixK K (d_var 0) (d_var 3)) (d_op op_mulV rd_mul (d_var 1) (d_callTy call_int1 rdc_int (by rfl) T.b_int (by decide +kernel) (dl_cons (d_cmp (op_inK K) (rd_in) (d_var 3) (d_var 2) (by rfl)) dl_nil))))) (by decide)) dl_nil)))), fun xs Q h => ?_⟩
  · obtain ⟨ss, gs, w, rfl, _⟩ := h
    rfl
  · obtain ⟨ss, gs, w, rfl, len, hw, h⟩ := h
    have hl : (ss.map PyData.int).length = ss.length := List.length_map ..
    refine ⟨by rw [hl]; omega, by rw [hl]; omega, lcW_map (fun x => match x with
      | .int i => .int (Tm.at_ ss i + w * (if decide (i ∈ gs) = true then 1 else 0))
      | _ => .none) _ _ _ (fun x hx N hN => ?_) ?_⟩
    · obtain ⟨i, hi⟩ := List.getElem?_of_mem hx
      have hi2 : i < ss.length := by
        obtain ⟨hi3, _⟩ := List.getElem?_eq_some_iff.mp hi
        rw [rangeD_len] at hi3
        omega
      rw [rangeD_at (by omega)] at hi
      obtain rfl := Option.some.inj hi
      rw [Int.zero_add] at *
      have hN : N (.int (Tm.at_ ss i + w * (if decide ((i : Int) ∈ gs) = true then 1 else 0))) := hN
      have e : Tm.at_ ss i = ss[i] := by
        unfold Tm.at_
        rw [List.getD_eq_getElem?_getD, Int.toNat_natCast, List.getElem?_eq_getElem hi2]
        rfl
      rw [e] at hN
      refine ⟨.int ss[i], atI_nat (by rw [List.getElem?_map, List.getElem?_eq_getElem hi2]; rfl), rfl, flat_ints gs, ?_⟩
      rw [inD_int]
      refine ⟨mulW (by omega) (by generalize decide ((i : Int) ∈ gs) = c; cases c <;> decide), ?_⟩
      exact hN
    rw [List.nil_append, range_py (ss := ss) (f := fun i s => if (i : Int) ∈ gs then s + w else s) (by omega) (fun i s hs => ?_)]
    · exact h
    · have e : Tm.at_ ss i = s := by
        unfold Tm.at_
        rw [List.getD_eq_getElem?_getD, Int.toNat_natCast, hs]
        rfl
      show PyData.int (Tm.at_ ss i + w * (if decide ((i : Int) ∈ gs) = true then 1 else 0)) = _
      rw [e]
      by_cases hm : (i : Int) ∈ gs
      · rw [if_pos (decide_eq_true hm), if_pos hm, Int.mul_one]
      · rw [if_neg (by rw [decide_eq_false hm]; exact Bool.false_ne_true), if_neg hm, Int.mul_zero, Int.add_zero]
theorem ok_37 (T : Txt w K mg C L f fd e ei fe) : FnG P w K mg base 1 (f 37) (fd 37) ["self"] (spD (brdSizeR C)) := by
  have S := sc37
  refine fn_D T.d37 S (fun xs Q h => ?_) fun cdv A outer s H B c => ⟨_, _, (ds_one (ds_ret (d_fldS K T.cl T.nS (d_var 0)))), fun xs Q h => ?_⟩
  · obtain ⟨n, l, rfl, _⟩ := h
    rfl
  · obtain ⟨n, l, rfl, h⟩ := h
    exact ⟨n, l, rfl, h⟩
theorem ok_38 (T : Txt w K mg C L f fd e ei fe) : FnG P w K mg base 1 (f 38) (fd 38) ["self", "other"] (spD (brdEqR C)) := by
  have S := sc38
  refine fn_D T.m38.fn S (fun xs Q h => ?_) fun cdv A outer s H B c => ⟨_, _, (ds_one (ds_ret (d_and (d_isiB K T.cl T.isi (d_var 1) (by rfl) T.b_isinstance (by rfl) T.mgC) (d_and (d_cmp (op_eqK K c.room.units) rd_eq (d_fldS K T.cl T.nS (d_var 0)) (d_fldS K T.cl T.nS (d_var 1)) (nomark _)) (d_one (d_cmp (op_eqK K c.room.units) rd_eq (d_fldT K T.cl T.nT (d_var 0)) (d_fldT K T.cl T.nT (d_var 1)) (nomark _))))))), fun xs Q h => ?_⟩
  · obtain ⟨n, l, rfl, _⟩ := h
    rfl
  · obtain ⟨n, l, rfl, ok, h⟩ := h
    refine ⟨n, l, rfl, fun _ => ?_, (fun z => nomatch z)⟩
    refine ⟨n, l, rfl, n, l, rfl, rfl, rfl, ?_⟩
    have e : PyData.eqv (.int n) (.int n) = true := by rw [eqvI, beq_iff_eq]
    rw [e]
    refine ⟨fun _ => ⟨n, l, rfl, n, l, rfl, ok.sh, ok.sh, ?_⟩, (fun z => nomatch z)⟩
    rw [eqv_rfl ok]
    exact h
theorem ok_39 (T : Txt w K mg C L f fd e ei fe) : FnG P w K mg base 1 (f 39) (fd 39) ["self"] (spD (brdTermsR C)) := by
  have S := sc39
  refine fn_D T.m39.fn S (fun xs Q h => ?_) fun cdv A outer s H B c => ⟨_, _, (ds_one (ds_ret (d_callTy (call_listK K) rdc_list (by rfl) T.b_list (by decide +kernel) (dl_cons (d_fldT K T.cl T.nT (d_var 0)) dl_nil)))), fun xs Q h => ?_⟩
  · obtain ⟨n, l, rfl, _⟩ := h
    rfl
  · obtain ⟨n, l, rfl, h⟩ := h
    exact ⟨n, l, rfl, h⟩
theorem ok_7 (T : Txt w K mg C L f fd e ei fe) : FnG P w K mg base 2 (f 7) (fd 7) ["term", "standing"] (spD argR) := by
  have S := sc7
  refine fn_D T.d7.fn S (fun xs Q h => ?_) fun cdv A outer s H B c => ⟨_, _, (ds_cons (ds_if (dt_valK K (d_call (ok_3 T) c.guards (c.room.mono (by decide)) T.d3.bd T.d3.mg T.d3.fn.kp (by rfl) (da_var 0 da_nil))) (ds_one (ds_ret (d_op op_sub rd_sub (d_ixK K (d_var 1) (d_ixK K (d_var 0) d_int)) (d_ixK K (d_var 1) (d_ixK K (d_var 0) d_int))))) ds_nil)
      (ds_one (ds_ret (d_ixK K (d_var 1) (d_ixK K (d_var 0) d_int))))), fun xs Q h => ?_⟩
  · obtain ⟨t, ss, rfl, _⟩ := h
    rfl
  · obtain ⟨t, ss, rfl, hi, h⟩ := h
    walk_at "dx"
    refine ⟨t, rfl, ?_⟩
    cases t <;> (simp only [Tm.py, Tm.items, Tm.two]; walk_at "dx"; simp only [atI_1, atI_2, Option.some.injEq, exists_eq_left']; walk_at "dx")
    · exact ix_pt hi.1 hi.2 h
    · exact ix_pt hi.1.1 hi.1.2 (ix_pt hi.2.1 hi.2.2 h)
    · exact ix_pt hi.1 hi.2 h
    · exact ix_pt hi.1.1 hi.1.2 (ix_pt hi.2.1 hi.2.2 h)
theorem ok_9 (T : Txt w K mg C L f fd e ei fe) : FnG P w K mg base 2 (f 9) (fd 9) ["term"] (spD lowAtR) := by
  have S := sc9
  refine fn_D T.d9.fn S (fun xs Q h => ?_) fun cdv A outer s H B c => ⟨_, _, (ds_one (ds_ret (d_if (dt_valK K (d_call (ok_3 T) c.guards (c.room.mono (by decide)) T.d3.bd T.d3.mg T.d3.fn.kp (by rfl) (da_var 0 da_nil))) d_int d_int))), fun xs Q h => ?_⟩
  · obtain ⟨t, rfl, _⟩ := h
    rfl
  · obtain ⟨t, rfl, h⟩ := h
    walk_at "dx"
    refine ⟨t, rfl, ?_⟩
    walk_at "dx"
    cases t <;> exact h
theorem ok_11 (T : Txt w K mg C L f fd e ei fe) : FnG P w K mg base 2 (f 11) (fd 11) ["thing"] (spD isValR) := by
  have S := sc11
  refine fn_D T.d11.fn S (fun xs Q h => ?_) fun cdv A outer s H B c => ⟨_, _, (ds_one (ds_ret (d_and (d_call (ok_10 T) c.guards (c.room.mono (by decide)) T.d10.bd T.d10.mg T.d10.fn.kp (by rfl) (da_var 0 da_nil)) (d_one (d_chain op_le op_le rd_cmpI rd_cmpI (d_neg (d_op op_pow rd_pow d_int d_int)) (d_var 0) (d_op op_pow rd_pow d_int d_int)))))), fun xs Q h => ?_⟩
  · obtain ⟨i, rfl, _⟩ := h
    rfl
  · obtain ⟨i, rfl, h0, h1, h⟩ := h
    refine ⟨i, rfl, fun _ => ⟨cp, ?_⟩, (fun z => nomatch z)⟩
    have e1 : decide (-(10 ^ Int.toNat 18) ≤ i) = true := decide_eq_true (by rw [p18]; omega)
    have e2 : decide (i ≤ 10 ^ Int.toNat 18) = true := decide_eq_true (by rw [p18]; omega)
    show (match PyData.bool (decide (-(10 ^ Int.toNat 18) ≤ i)) with
      | .bool true => _
      | .bool false => _
      | _ => False)
    rw [e1]
    refine ⟨cp, ?_⟩
    show Q (.bool (decide (i ≤ 10 ^ Int.toNat 18)))
    rw [e2]
    exact h
theorem ok_12 (T : Txt w K mg C L f fd e ei fe) : FnG P w K mg base 2 (f 12) (fd 12) ["thing"] (spD isForceR) := by
  have S := sc12
  refine fn_D T.d12.fn S (fun xs Q h => ?_) fun cdv A outer s H B c => ⟨_, _, (ds_one (ds_ret (d_and (d_call (ok_10 T) c.guards (c.room.mono (by decide)) T.d10.bd T.d10.mg T.d10.fn.kp (by rfl) (da_var 0 da_nil)) (d_one (d_chain op_le op_le rd_cmpI rd_cmpI d_int (d_var 0) d_int))))), fun xs Q h => ?_⟩
  · obtain ⟨i, rfl, _⟩ := h
    rfl
  · obtain ⟨i, rfl, h0, h1, h⟩ := h
    refine ⟨i, rfl, fun _ => ?_, (fun z => nomatch z)⟩
    have e1 : decide ((1 : Int) ≤ i) = true := decide_eq_true h0
    have e2 : decide (i ≤ 30) = true := decide_eq_true h1
    show (match PyData.bool (decide ((1 : Int) ≤ i)) with
      | .bool true => _
      | .bool false => _
      | _ => False)
    rw [e1]
    show Q (.bool (decide (i ≤ 30)))
    rw [e2]
    exact h
theorem ok_13 (T : Txt w K mg C L f fd e ei fe) : FnG P w K mg base 2 (f 13) (fd 13) ["thing", "size"] (spD isDialR) := by
  have S := sc13
  refine fn_D T.d13.fn S (fun xs Q h => ?_) fun cdv A outer s H B c => ⟨_, _, (ds_one (ds_ret (d_and (d_call (ok_10 T) c.guards (c.room.mono (by decide)) T.d10.bd T.d10.mg T.d10.fn.kp (by rfl) (da_var 0 da_nil)) (d_one (d_chain op_le op_lt rd_cmpI rd_cmpI d_int (d_var 0) (d_var 1)))))), fun xs Q h => ?_⟩
  · obtain ⟨i, n, rfl, _⟩ := h
    rfl
  · obtain ⟨i, n, rfl, h0, h1, h⟩ := h
    refine ⟨i, rfl, fun _ => ?_, (fun z => nomatch z)⟩
    have e1 : decide ((0 : Int) ≤ i) = true := decide_eq_true h0
    have e2 : decide (i < n) = true := decide_eq_true h1
    show (match PyData.bool (decide ((0 : Int) ≤ i)) with
      | .bool true => _
      | .bool false => _
      | _ => False)
    rw [e1]
    show Q (.bool (decide (i < n)))
    rw [e2]
    exact h
theorem ok_23 (T : Txt w K mg C L f fd e ei fe) : FnG P w K mg base 2 (f 23) (fd 23) ["_law_term_here", "_law_standing_here"] (spD argR) := by
  have S := sc23
  refine fn_D T.d23.fn S (fun xs Q h => ?_) fun cdv A outer s H B c => ⟨_, _, (ds_cons (ds_asg (d_call (ok_22 T) c.guards (c.room.mono (by decide)) T.d22.bd T.d22.mg T.d22.fn.kp (by rfl) (da_var 0 da_nil)) (dg_tup (n := 5) rfl (dgs_consA (dg_name (i := 2) S.nd rfl (by first | exact Or.inl rfl | exact Or.inr rfl)) (dgs_consA (dg_name (i := 3) S.nd rfl (by first | exact Or.inl rfl | exact Or.inr rfl)) (dgs_consA (dg_name (i := 4) S.nd rfl (by first | exact Or.inl rfl | exact Or.inr rfl)) (dgs_consA (dg_name (i := 5) S.nd rfl (by first | exact Or.inl rfl | exact Or.inr rfl)) (dgs_consA (dg_name (i := 6) S.nd rfl (by first | exact Or.inl rfl | exact Or.inr rfl)) dgs_nil)))))))
      (ds_one (ds_ret (d_if (dt_cmp op_isN rd_isN (d_var 3) d_non (nomark _)) (d_ixK K (d_var 1) (d_var 2)) (d_op op_sub rd_sub (d_ixK K (d_var 1) (d_var 2)) (d_ixK K (d_var 1) (d_var 3))))))), fun xs Q h => ?_⟩
  · obtain ⟨t, ss, rfl, _⟩ := h
    rfl
  · obtain ⟨t, ss, rfl, hi, h⟩ := h
    walk_at "dx"
    refine ⟨t, rfl, ?_⟩
    walk_at "dx"
    refine ⟨rfl, ?_⟩
    cases t <;> (simp only [Tm.dial, Tm.oth]; walk_at "dx")
    · exact ix_pt hi.1 hi.2 h
    · exact ix_pt hi.1.1 hi.1.2 (ix_pt hi.2.1 hi.2.2 h)
    · exact ix_pt hi.1 hi.2 h
    · exact ix_pt hi.1.1 hi.1.2 (ix_pt hi.2.1 hi.2.2 h)
theorem ok_24 (T : Txt w K mg C L f fd e ei fe) : FnG P w K mg base 2 (f 24) (fd 24) ["_law_term_here", "_law_value"] (spD distR) := by
  have S := sc24
  refine fn_D T.d24.fn S (fun xs Q h => ?_) fun cdv A outer s H B c => ⟨_, _, (ds_cons (ds_asg (d_sliceK K (d_call (ok_22 T) c.guards (c.room.mono (by decide)) T.d22.bd T.d22.mg T.d22.fn.kp (by rfl) (da_var 0 da_nil)) (do_some d_int) (do_some d_int)) (dg_tup (n := 2) rfl (dgs_consA (dg_name (i := 2) S.nd rfl (by first | exact Or.inl rfl | exact Or.inr rfl)) (dgs_consA (dg_name (i := 3) S.nd rfl (by first | exact Or.inl rfl | exact Or.inr rfl)) dgs_nil))))
      (ds_cons (ds_if (dt_cmp op_lt rd_cmpI (d_var 1) (d_var 2) (nomark _)) (ds_one (ds_ret (d_op op_sub rd_sub (d_var 2) (d_var 1)))) ds_nil)
      (ds_one (ds_ret (d_if (dt_cmp op_gt rd_cmpI (d_var 1) (d_var 3) (nomark _)) (d_op op_sub rd_sub (d_var 1) (d_var 3)) d_int))))), fun xs Q h => ?_⟩
  · obtain ⟨t, v, rfl, _⟩ := h
    rfl
  · obtain ⟨t, v, rfl, hl, h⟩ := h
    walk_at "dx"
    refine ⟨t, rfl, ?_⟩
    walk_at "dx"
    simp only [cut5_24]
    walk_at "dx"
    unfold Tm.dist at h
    by_cases h1 : v < t.low
    · rw [decide_eq_true h1, if_pos rfl]
      rw [if_pos h1] at h
      exact h
    · rw [decide_eq_false h1, if_neg Bool.false_ne_true]
      rw [if_neg h1] at h
      by_cases h2 : t.high < v
      · rw [decide_eq_true h2, if_pos rfl]
        rw [if_pos h2] at h
        exact h
      · rw [decide_eq_false h2, if_neg Bool.false_ne_true]
        rw [if_neg h2] at h
        exact h
theorem ok_28 (T : Txt w K mg C L f fd e ei fe) : FnG P w K mg base 2 (f 28) (fd 28) ["_law_bag_here", "_law_scale"] (spD numR) := by
  have S := sc28
  refine fn_D T.d28.fn S (fun xs Q h => ?_) fun cdv A outer s H B c => ⟨_, _, (ds_one (ds_ret (d_op op_sub rd_sub (d_call (ok_20 T) c.guards (c.room.mono (by decide)) T.d20.bd T.d20.mg T.d20.fn.kp (by rfl) (da_var 0 (da_cons (d_op (op_addK K) rd_add (d_op op_mulV rd_mul d_int (d_var 1)) d_int) da_nil))) (d_var 1)))), fun xs Q h => ?_⟩
  · obtain ⟨s, rfl, _⟩ := h
    rfl
  · obtain ⟨s, rfl, h0, h1, h⟩ := h
    refine ⟨mulW (by decide) (by omega), ?_⟩
    refine ⟨_, rfl, by omega, lt_big2 (by omega), fun v hv hm => ?_⟩
    exact h _ (by omega) (by omega)
theorem ok_5 (T : Txt w K mg C L f fd e ei fe) : FnG P w K mg base 3 (f 5) (fd 5) ["term"] (spD dialsR) := by
  have S := sc5
  refine fn_D T.d5.fn S (fun xs Q h => ?_) fun cdv A outer s H B c => ⟨_, _, (ds_one (ds_ret (d_sliceK K (d_var 0) (do_some d_int) (do_some (d_call (ok_9 T) c.guards (c.room.mono (by decide)) T.d9.bd T.d9.mg T.d9.fn.kp (by rfl) (da_var 0 da_nil)))))), fun xs Q h => ?_⟩
  · obtain ⟨t, rfl, _⟩ := h
    rfl
  · obtain ⟨t, rfl, h⟩ := h
    refine ⟨t, rfl, ?_⟩
    cases t <;> exact h
theorem ok_6 (T : Txt w K mg C L f fd e ei fe) : FnG P w K mg base 3 (f 6) (fd 6) ["term"] (spD endsR) := by
  have S := sc6
  refine fn_D T.d6.fn S (fun xs Q h => ?_) fun cdv A outer s H B c => ⟨_, _, (ds_cons (ds_set (i := 1) S.nd rfl (by first | exact Or.inl rfl | exact Or.inr rfl) (d_call (ok_9 T) c.guards (c.room.mono (by decide)) T.d9.bd T.d9.mg T.d9.fn.kp (by rfl) (da_var 0 da_nil)))
      (ds_one (ds_ret (d_sliceK K (d_var 0) (do_some (d_var 1)) (do_some (d_op (op_addK K) rd_add (d_var 1) d_int)))))), fun xs Q h => ?_⟩
  · obtain ⟨t, rfl, _⟩ := h
    rfl
  · obtain ⟨t, rfl, h⟩ := h
    walk_at "dx"
    refine ⟨t, rfl, ?_⟩
    cases t <;> (simp only [Tm.py, Tm.items, Tm.two, if_true, if_false, Bool.false_eq_true]; walk_at "dx"; first | exact h | (simp only [cut4_24, cut5_24, cut5_35, cut6_35]; exact h))
theorem ok_16 (T : Txt w K mg C L f fd e ei fe) : FnG P w K mg base 3 (f 16) (fd 16) ["parts", "size"] (spD areDialsR) := by
  have S := sc16
  refine fn_D T.d16.fn S (fun xs Q h => ?_) fun cdv A outer s H B c => ⟨_, _, (ds_cons (ds_if (dt_not (dt_valK K (d_callB (call_allK K rfl) rdc_all (by rfl) T.b_all (by decide +kernel) (dl_cons (d_lc (own := [("part", 2)]) (is := [2]) rfl S.nd (di_seq (d_var 0)) (blkOk_by (N := N16) (sc := defScope s16) (by decide +kernel)) (fun _ _ _ _ _ => (dg_name S.nd rfl (Or.inl rfl))) (fun _ _ _ _ _ => pts_nil) (fun M σ H ds Q R g e h c => st_yes M σ H ds Q R g e h c) (fun s' H' C cl fp => (d_call (ok_13 T) (CxD.blk (scope := cs72_15) c s' H' C cl fp).guards ((CxD.blk (scope := cs72_15) c s' H' C cl fp).room.mono (by decide)) T.d13.bd T.d13.mg T.d13.fn.kp (by rfl) (da_var 2 (da_var 1 da_nil)))) (by decide)) dl_nil)))) (ds_one (ds_ret d_bl)) ds_nil)
      (ds_one (ds_ret (d_or (d_cmp (op_eqK K c.room.units) rd_eq (d_callB (call_lenK K) rdc_len (by rfl) T.b_len (by decide +kernel) (dl_cons (d_var 0) dl_nil)) d_int (nomark _)) (d_one (d_cmp (op_neK K c.room.units) rd_ne (d_ixK K (d_var 0) d_int) (d_ixK K (d_var 0) d_int) (nomark _))))))), fun xs Q h => ?_⟩
  · obtain ⟨t, n, rfl, _⟩ := h
    rfl
  · obtain ⟨t, n, rfl, hi, hd, h⟩ := h
    have dl : t.dials.length ≤ 2 := by cases t <;> exact Nat.le_of_ble_eq_true rfl
    refine ⟨szr0 (by omega), lcW_map (fun _ => .bool true) _ _ _ (fun x hx N hN => ?_) ?_⟩
    · have : ∃ i : Int, x = .int i ∧ 0 ≤ i ∧ i < n := by
        cases t with
        | wish d l h' f =>
          simp only [Tm.dials, List.mem_cons, List.not_mem_nil, or_false] at hx
          exact ⟨d, hx, hi.1, by have h1 := hi.1; have h2 := hi.2; omega⟩
        | stop d l h' =>
          simp only [Tm.dials, List.mem_cons, List.not_mem_nil, or_false] at hx
          exact ⟨d, hx, hi.1, by have h1 := hi.1; have h2 := hi.2; omega⟩
        | tie d o l h' f =>
          simp only [Tm.dials, List.mem_cons, List.not_mem_nil, or_false] at hx
          rcases hx with rfl | rfl
          · exact ⟨d, rfl, hi.1.1, by have h1 := hi.1.1; have h2 := hi.1.2; omega⟩
          · exact ⟨o, rfl, hi.2.1, by have h1 := hi.2.1; have h2 := hi.2.2; omega⟩
        | bar d o l h' =>
          simp only [Tm.dials, List.mem_cons, List.not_mem_nil, or_false] at hx
          rcases hx with rfl | rfl
          · exact ⟨d, rfl, hi.1.1, by have h1 := hi.1.1; have h2 := hi.1.2; omega⟩
          · exact ⟨o, rfl, hi.2.1, by have h1 := hi.2.1; have h2 := hi.2.2; omega⟩
      obtain ⟨i, rfl, h0, h1⟩ := this
      exact ⟨i, n, rfl, h0, h1, hN⟩
    rw [List.nil_append]
    refine ⟨List.replicate t.dials.length true, ?_, ⟨(fun z => absurd z (by simp)), fun _ => ?_⟩⟩
    · cases t <;> rfl
    · cases t with
      | wish d l h' f => exact ⟨rfl, rfl, ⟨fun _ => h, fun z => nomatch z⟩⟩
      | stop d l h' => exact ⟨rfl, rfl, ⟨fun _ => h, fun z => nomatch z⟩⟩
      | tie d o l h' f =>
        refine ⟨rfl, rfl, ⟨(fun z => nomatch z), fun _ => ?_⟩⟩
        refine ⟨_, atI_0, _, atI_1, rfl, rfl, ?_⟩
        have e : PyData.eqv (.int d) (.int o) = false := by
          have hd' : d ≠ o := hd
          simp [PyData.eqv, hd']
        rw [e]
        exact h
      | bar d o l h' =>
        refine ⟨rfl, rfl, ⟨(fun z => nomatch z), fun _ => ?_⟩⟩
        refine ⟨_, atI_0, _, atI_1, rfl, rfl, ?_⟩
        have e : PyData.eqv (.int d) (.int o) = false := by
          have hd' : d ≠ o := hd
          simp [PyData.eqv, hd']
        rw [e]
        exact h
theorem ok_17 (T : Txt w K mg C L f fd e ei fe) : FnG P w K mg base 3 (f 17) (fd 17) ["parts"] (spD areEndsR) := by
  have S := sc17
  refine fn_D T.d17.fn S (fun xs Q h => ?_) fun cdv A outer s H B c => ⟨_, _, (ds_cons (ds_asg (d_var 0) (dg_tup (n := 2) rfl (dgs_consA (dg_name (i := 1) S.nd rfl (by first | exact Or.inl rfl | exact Or.inr rfl)) (dgs_consA (dg_name (i := 2) S.nd rfl (by first | exact Or.inl rfl | exact Or.inr rfl)) dgs_nil))))
      (ds_one (ds_ret (d_and (d_call (ok_11 T) c.guards (c.room.mono (by decide)) T.d11.bd T.d11.mg T.d11.fn.kp (by rfl) (da_var 1 da_nil)) (d_and (d_call (ok_11 T) c.guards (c.room.mono (by decide)) T.d11.bd T.d11.mg T.d11.fn.kp (by rfl) (da_var 2 da_nil)) (d_one (d_cmp op_le rd_cmpI (d_var 1) (d_var 2) (nomark _)))))))), fun xs Q h => ?_⟩
  · obtain ⟨l, u, rfl, _⟩ := h
    rfl
  · obtain ⟨l, u, rfl, hlu, h0, h1, h⟩ := h
    refine ⟨rfl, ?_⟩
    refine ⟨l, rfl, h0, by omega, ⟨fun _ => ⟨u, rfl, by omega, h1, ⟨fun _ => ?_, (fun z => nomatch z)⟩⟩, (fun z => nomatch z)⟩⟩
    have e : decide (l ≤ u) = true := decide_eq_true hlu
    show Q (.bool (decide (l ≤ u)))
    rw [e]
    exact h
theorem ok_25 (T : Txt w K mg C L f fd e ei fe) : FnG P w K mg base 3 (f 25) (fd 25) ["_law_terms_here", "_law_standing_here"] (spD lawStrainR) := by
  have S := sc25
  refine fn_D T.d25.fn S (fun xs Q h => ?_) fun cdv A outer s H B c => ⟨_, _, (ds_cons (ds_set (i := 2) S.nd rfl (by first | exact Or.inl rfl | exact Or.inr rfl) d_int)
      (ds_cons (ds_for PassesOwn.never rfl (di_seq (d_var 0)) (dg_name (i := 3) S.nd rfl (by first | exact Or.inl rfl | exact Or.inr rfl)) (ds_cons (ds_par (i := 4) (j := 5) rfl S.nd rfl rfl (by decide) rfl rfl (dl_cons (d_call (ok_24 T) c.guards (c.room.mono (by decide)) T.d24.bd T.d24.mg T.d24.fn.kp (by rfl) (da_var 3 (da_cons (d_call (ok_23 T) c.guards (c.room.mono (by decide)) T.d23.bd T.d23.mg T.d23.fn.kp (by rfl) (da_var 3 (da_var 1 da_nil))) da_nil))) (dl_cons (d_ixK K (d_call (ok_22 T) c.guards (c.room.mono (by decide)) T.d22.bd T.d22.mg T.d22.fn.kp (by rfl) (da_var 3 da_nil)) d_int) dl_nil)) (by rfl))
      (ds_cons (ds_if (dt_w (dw_and (dt_cmp op_isN rd_isN (d_var 5) d_non (nomark _)) (dw_and1 (dt_cmp op_gt rd_cmpI (d_var 4) d_int (nomark _))))) (ds_one (ds_ret d_non)) ds_nil)
      (ds_one (ds_if (dt_cmp op_notN rd_notN (d_var 5) d_non (nomark _)) (ds_one (ds_augI (i := 2) S.nd rfl (by first | exact Or.inl rfl | exact Or.inr rfl) (d_op op_mulV rd_mul (d_var 5) (d_var 4)) ip_add)) ds_nil)))))
      (ds_one (ds_ret (d_var 2))))), fun xs Q h => ?_⟩
  · obtain ⟨ts, ss, rfl, _⟩ := h
    rfl
  · obtain ⟨ts, ss, rfl, fine, h⟩ := h
    have l24 := fine.len
    
    refine ⟨szr0 (by rw [List.length_map]; omega), ?_⟩
    refine forW_at (fun i ds => ∃ tot a b c, ds = [some (.dat (.list (ts.map Tm.py))), some (.dat (.tuple (ss.map .int))), some (.dat (.int tot)), a, b, c] ∧ strainFrom ss tot (ts.drop i) = strainV ts ss) (fun i x N ds hx hds hN => ?_) (fun ds hds => ?_) ⟨0, none, none, none, rfl, rfl⟩
    · obtain ⟨tot, a, b, c, rfl, hl⟩ := hds
      obtain ⟨t, ht, rfl⟩ := get_map hx
      have hm := List.mem_of_getElem? ht
      have good := fine.good t hm
      have di := fine.dist hm
      have fo := fine.force hm
      rw [drop_at ht] at hl
      unfold strainFrom at hl
      refine ⟨t, ss, rfl, good.inn, t, _, rfl, good.lh, t, rfl, _, atI_4, ?_⟩
      cases hs : t.soft with
      | true =>
        have ef : t.frc = .int t.force := by
          cases t with
          | wish d l u f => rfl
          | tie d o l u f => rfl
          | stop d l u => cases hs
          | bar d o l u => cases hs
        have eg : t.gone ss = false := by
          unfold Tm.gone
          rw [hs]
          rfl
        rw [ef]
        rw [eg, if_neg Bool.false_ne_true, hs, if_pos rfl] at hl
        refine ⟨rfl, ⟨(fun z => nomatch z), fun _ => ⟨(fun z => nomatch z), fun _ => ⟨rfl, ⟨fun _ => ?_, (fun z => nomatch z)⟩⟩⟩⟩⟩
        exact ⟨mulW (by omega) (by omega), hN _ ⟨_, _, _, _, rfl, hl⟩⟩
      | false =>
        have ef : t.frc = .none := by
          cases t with
          | wish d l u f => cases hs
          | tie d o l u f => cases hs
          | stop d l u => rfl
          | bar d o l u => rfl
        have eg : t.gone ss = decide (t.dist (t.arg ss) > 0) := by
          unfold Tm.gone
          rw [hs, Bool.eq_iff_iff]
          simp only [Bool.not_false, Bool.true_and, bne_iff_ne, decide_eq_true_eq]
          omega
        rw [ef]
        rw [eg, hs, if_neg Bool.false_ne_true] at hl
        refine ⟨rfl, ⟨fun _ => ?_, (fun z => nomatch z)⟩⟩
        have last : ∀ c' : Bool, c' = decide (t.dist (t.arg ss) > 0) → (c' = true → Q .none) ∧ (c' = false → (isNone (.none : PyData) = isNone (.none : PyData)) → N [some (.dat (.list (ts.map Tm.py))), some (.dat (.tuple (ss.map .int))), some (.dat (.int tot)), some (.dat t.py), some (.dat (.int (t.dist (t.arg ss)))), some (.dat .none)]) := fun c' hc => by
          refine ⟨fun z => ?_, fun z _ => ?_⟩
          · rw [← hc, z, if_pos rfl] at hl
            rw [← hl] at h
            exact h
          · rw [← hc, z, if_neg Bool.false_ne_true] at hl
            exact hN _ ⟨_, _, _, _, rfl, hl⟩
        refine ⟨fun z => (last _ rfl).1 z, fun z => ⟨rfl, ⟨(fun z => nomatch z), fun _ => (last _ rfl).2 z rfl⟩⟩⟩
    · obtain ⟨tot, a, b, c, rfl, hl⟩ := hds
      rw [List.length_map, List.drop_length] at hl
      rw [← hl] at h
      exact h
theorem ok_29 (T : Txt w K mg C L f fd e ei fe) : FnG P w K mg base 3 (f 29) (fd 29) ["_law_bag_here", "_law_size", "_law_scale"] (spD standR2) := by
  have S := sc29
  refine fn_D T.d29.fn S (fun xs Q h => ?_) fun cdv A outer s H B c => ⟨_, _, (ds_cons (ds_set (i := 3) S.nd rfl (by first | exact Or.inl rfl | exact Or.inr rfl) (d_ixK K (d_lst (dl_cons d_int (dl_cons d_int (dl_cons d_int (dl_cons (d_op op_pow rd_pow d_int d_int) (dl_cons (d_neg (d_op op_pow rd_pow d_int d_int)) (dl_cons (d_op op_sub rd_sub (d_op op_pow rd_pow d_int d_int) d_int) dl_nil))))))) (d_call (ok_20 T) c.guards (c.room.mono (by decide)) T.d20.bd T.d20.mg T.d20.fn.kp (by rfl) (da_var 0 (da_cons d_int da_nil)))))
      (ds_one (ds_ret (d_callTy (call_tupleK K) rdc_tuple (by rfl) T.b_tuple (by decide +kernel) (dl_cons (d_lc (own := [("_law_dial", 4)]) (is := [4]) rfl S.nd (di_range1 (by rfl) T.b_range (dl_cons (d_var 1) dl_nil)) (blkOk_by (N := N29) (sc := defScope s29) (by decide +kernel)) (fun _ _ _ _ _ => (dg_name S.nd rfl (Or.inl rfl))) (fun _ _ _ _ _ => pts_nil) (fun M σ H ds Q R g e h c => st_yes M σ H ds Q R g e h c) (fun s' H' C cl fp => (d_op (op_addK K) rd_add (d_var 3) (d_call (ok_28 T) (CxD.blk (scope := cs192_17) c s' H' C cl fp).guards ((CxD.blk (scope := cs192_17) c s' H' C cl fp).room.mono (by decide)) T.d28.bd T.d28.mg T.d28.fn.kp (by rfl) (da_var 0 (da_var 2 da_nil))))) (by decide)) dl_nil))))), fun xs Q h => ?_⟩
  · obtain ⟨n, s, rfl, _⟩ := h
    rfl
  · obtain ⟨n, s, rfl, n0, n1, s0, s1, h⟩ := h
    refine ⟨cp, cp, cp, szr, 6, rfl, by decide, lt_big (by decide), fun x x0 x1 => ?_⟩
    refine atI_ex (P := fun d => ∃ i : Int, d = .int i ∧ -(10 ^ 18 - 50) ≤ i ∧ i ≤ 10 ^ 18 - 50) x0 x1 (fun z hz => ?_) ?_
    · simp only [List.mem_cons, List.not_mem_nil, or_false] at hz
      rcases hz with rfl | rfl | rfl | rfl | rfl | rfl <;> exact ⟨_, rfl, by decide, by decide⟩
    rintro _ ⟨mid, rfl, m0, m1⟩
    refine ⟨by omega, by omega, lcW_all (fun d => ∃ i : Int, d = .int i ∧ mid - s ≤ i ∧ i ≤ mid + s) _ _ _ (fun y hy N hN => ⟨s, rfl, s0, by omega, fun v v0 v1 => hN _ ⟨_, rfl, by omega, by omega⟩⟩) (fun z hz => nomatch hz) fun r hr hp => ?_⟩
    obtain ⟨ss, rfl, hs⟩ := ints_of r hp
    rw [rangeD_len, List.length_map] at hr
    exact h mid ss m0 m1 (by simpa using hr) hs
theorem ok_30 (T : Txt w K mg C L f fd e ei fe) : FnG P w K mg base 3 (f 30) (fd 30) ["_law_bag_here", "_law_value", "_law_scale", "_law_inside"] (spD rangeR2) := by
  have S := sc30
  refine fn_D T.d30.fn S (fun xs Q h => ?_) fun cdv A outer s H B c => ⟨_, _, (ds_cons (ds_if (dt_not (dt_valK K (d_var 3))) (ds_one (ds_augI (i := 1) S.nd rfl (by first | exact Or.inl rfl | exact Or.inr rfl) (d_call (ok_28 T) c.guards (c.room.mono (by decide)) T.d28.bd T.d28.mg T.d28.fn.kp (by rfl) (da_var 0 (da_var 2 da_nil))) ip_add)) ds_nil)
      (ds_cons (ds_par (i := 4) (j := 5) rfl S.nd rfl rfl (by decide) rfl rfl (dl_cons (d_op op_sub rd_sub (d_var 1) (d_op op_mulV rd_mul (d_call (ok_20 T) c.guards (c.room.mono (by decide)) T.d20.bd T.d20.mg T.d20.fn.kp (by rfl) (da_var 0 (da_cons d_int da_nil))) (d_call (ok_20 T) c.guards (c.room.mono (by decide)) T.d20.bd T.d20.mg T.d20.fn.kp (by rfl) (da_var 0 (da_var 2 da_nil))))) (dl_cons (d_op (op_addK K) rd_add (d_var 1) (d_op op_mulV rd_mul (d_call (ok_20 T) c.guards (c.room.mono (by decide)) T.d20.bd T.d20.mg T.d20.fn.kp (by rfl) (da_var 0 (da_cons d_int da_nil))) (d_call (ok_20 T) c.guards (c.room.mono (by decide)) T.d20.bd T.d20.mg T.d20.fn.kp (by rfl) (da_var 0 (da_var 2 da_nil))))) dl_nil)) (by rfl))
      (ds_cons (ds_asg (d_ixK K (d_lst (dl_cons (d_tup (dl_cons (d_var 4) (dl_cons (d_var 5) dl_nil))) (dl_cons (d_tup (dl_cons (d_var 1) (dl_cons (d_var 1) dl_nil))) (dl_cons (d_tup (dl_cons (d_var 4) (dl_cons (d_op (op_addK K) rd_add (d_var 4) d_int) dl_nil))) (dl_cons (d_tup (dl_cons (d_var 5) (dl_cons (d_var 5) dl_nil))) dl_nil))))) (d_op op_mulV rd_mul (d_call (ok_20 T) c.guards (c.room.mono (by decide)) T.d20.bd T.d20.mg T.d20.fn.kp (by rfl) (da_var 0 (da_cons d_int da_nil))) (d_callTy call_int1 rdc_int (by rfl) T.b_int (by decide +kernel) (dl_cons (d_not (d_var 3)) dl_nil)))) (dg_tup (n := 2) rfl (dgs_consA (dg_name (i := 4) S.nd rfl (by first | exact Or.inl rfl | exact Or.inr rfl)) (dgs_consA (dg_name (i := 5) S.nd rfl (by first | exact Or.inl rfl | exact Or.inr rfl)) dgs_nil))))
      (ds_cons (ds_set (i := 4) S.nd rfl (by first | exact Or.inl rfl | exact Or.inr rfl) (d_callB (call_max2 rfl) rdc_max2 (by rfl) T.b_max (by decide +kernel) (dl_cons (d_neg (d_op op_pow rd_pow d_int d_int)) (dl_cons (d_callB (call_min2 rfl) rdc_min2 (by rfl) T.b_min (by decide +kernel) (dl_cons (d_op op_pow rd_pow d_int d_int) (dl_cons (d_var 4) dl_nil))) dl_nil))))
      (ds_one (ds_ret (d_tup (dl_cons (d_var 4) (dl_cons (d_callB (call_max2 rfl) rdc_max2 (by rfl) T.b_max (by decide +kernel) (dl_cons (d_var 4) (dl_cons (d_callB (call_min2 rfl) rdc_min2 (by rfl) T.b_min (by decide +kernel) (dl_cons (d_var 5) (dl_cons (d_op op_pow rd_pow d_int d_int) dl_nil))) dl_nil))) dl_nil))))))))), fun xs Q h => ?_⟩
  · obtain ⟨v, s, b, rfl, _⟩ := h
    rfl
  · obtain ⟨v, s, b, rfl, s0, s1, h⟩ := h
    cases b
    · refine ⟨fun _ => ⟨s, rfl, by omega, by omega, fun m _ _ => ?_⟩, (fun z => nomatch z)⟩
      refine ⟨3, rfl, by decide, lt_big (by decide), fun x x0 x1 => ?_⟩
      refine ⟨s, rfl, by omega, lt_big (by omega), fun y y0 y1 => ⟨mulW, ?_⟩⟩
      refine ⟨3, rfl, by decide, lt_big (by decide), fun z z0 z1 => ?_⟩
      refine ⟨s, rfl, by omega, lt_big (by omega), fun u u0 u1 => ⟨mulW, ?_⟩⟩
      have p0 : 0 ≤ x * y := Int.mul_nonneg x0 y0
      have q0 : 0 ≤ z * u := Int.mul_nonneg z0 u0
      generalize x * y = p at *
      generalize z * u = q at *
      refine ⟨szr, szr, szr, szr, szr, 4, rfl, by decide, lt_big (by decide), fun w w0 w1 => ⟨mulW (by omega) (by decide), ?_⟩⟩
      refine atI_ex (P := fun d => ∃ l h : Int, d = .tuple [.int l, .int h]) (show 0 ≤ w * 1 by omega) (show w * 1 < 4 by omega) (fun q hq => ?_) ?_
      · simp only [List.mem_cons, List.not_mem_nil, or_false] at hq
        rcases hq with rfl | rfl | rfl | rfl <;> exact ⟨_, _, rfl⟩
      rintro _ ⟨l, hh, rfl⟩
      refine ⟨rfl, cp, cp, cp, szr, ?_⟩
      refine h _ _ ?_ ?_ ?_ (fun z => nomatch z) <;> rw [p18] <;> (try rw [p18']) <;> split <;> split <;> (try split) <;> (try split) <;> omega
    · refine ⟨(fun z => nomatch z), fun _ => ?_⟩
      refine ⟨3, rfl, by decide, lt_big (by decide), fun x x0 x1 => ?_⟩
      refine ⟨s, rfl, by omega, lt_big (by omega), fun y y0 y1 => ⟨mulW, ?_⟩⟩
      refine ⟨3, rfl, by decide, lt_big (by decide), fun z z0 z1 => ?_⟩
      refine ⟨s, rfl, by omega, lt_big (by omega), fun u u0 u1 => ⟨mulW, ?_⟩⟩
      have p0 : 0 ≤ x * y := Int.mul_nonneg x0 y0
      have q0 : 0 ≤ z * u := Int.mul_nonneg z0 u0
      generalize x * y = p at *
      generalize z * u = q at *
      refine ⟨szr, szr, szr, szr, szr, 4, rfl, by decide, lt_big (by decide), fun w w0 w1 => ⟨mulW (by omega) (by decide), ?_⟩⟩
      refine ⟨.tuple [.int (v - p), .int (v + q)], (by show atI _ (w * 0) = _; rw [Int.mul_zero]; rfl), ?_⟩
      refine ⟨rfl, cp, cp, cp, szr, ?_⟩
      refine h _ _ ?_ ?_ ?_ (fun _ v0 v1 => ⟨?_, ?_⟩) <;> rw [p18] <;> (try rw [p18']) <;> split <;> (try split) <;> (try split) <;> (try split) <;> omega
theorem ok_33 (T : Txt w K mg C L f fd e ei fe) : FnG P w K mg base 3 (f 33) (fd 33) ["_law_terms_here", "_law_standing_here"] (spD lawLeftR) := by
  have S := sc33
  refine fn_D T.d33.fn S (fun xs Q h => ?_) fun cdv A outer s H B c => ⟨_, _, (ds_cons (ds_for PassesOwn.never rfl (di_range1 (by rfl) T.b_range (dl_cons (d_callB (call_lenK K) rdc_len (by rfl) T.b_len (by decide +kernel) (dl_cons (d_var 0) dl_nil)) dl_nil)) (dg_name (i := 2) S.nd rfl (by first | exact Or.inl rfl | exact Or.inr rfl)) (ds_cons (ds_par (i := 3) (j := 4) rfl S.nd rfl rfl (by decide) rfl rfl (dl_cons (d_call (ok_24 T) c.guards (c.room.mono (by decide)) T.d24.bd T.d24.mg T.d24.fn.kp (by rfl) (da_cons (d_ixK K (d_var 0) (d_var 2)) (da_cons (d_call (ok_23 T) c.guards (c.room.mono (by decide)) T.d23.bd T.d23.mg T.d23.fn.kp (by rfl) (da_cons (d_ixK K (d_var 0) (d_var 2)) (da_var 1 da_nil))) da_nil))) (dl_cons (d_ixK K (d_call (ok_22 T) c.guards (c.room.mono (by decide)) T.d22.bd T.d22.mg T.d22.fn.kp (by rfl) (da_cons (d_ixK K (d_var 0) (d_var 2)) da_nil)) d_int) dl_nil)) (by rfl))
      (ds_one (ds_if (dt_w (dw_and (dt_cmp op_isN rd_isN (d_var 4) d_non (nomark _)) (dw_and1 (dt_cmp op_gt rd_cmpI (d_var 3) d_int (nomark _))))) (ds_one (ds_ret (d_var 2))) ds_nil))))
      (ds_one (ds_ret d_non))), fun xs Q h => ?_⟩
  · obtain ⟨ts, ss, rfl, _⟩ := h
    rfl
  · obtain ⟨ts, ss, rfl, fine, h⟩ := h
    have l24 := fine.len
    
    refine ⟨by rw [List.length_map]; omega, by omega, ?_⟩
    rw [List.length_map, Int.toNat_natCast]
    refine forW_range (fun i ds => ∃ a b c, ds = [some (.dat (.list (ts.map Tm.py))), some (.dat (.tuple (ss.map .int))), a, b, c] ∧ leftFrom ss i (ts.drop i) = leftV ts ss) (fun i N ds hi hds hN => ?_) (fun ds hds => ?_) ⟨none, none, none, rfl, rfl⟩
    · obtain ⟨a, b, c, rfl, hl⟩ := hds
      have ht : ts[i]? = some ts[i] := List.getElem?_eq_getElem hi
      generalize ts[i] = t at ht
      have hm := List.mem_of_getElem? ht
      have good := fine.good t hm
      have di := fine.dist hm
      rw [drop_at ht] at hl
      unfold leftFrom at hl
      have e : (0 : Int) + (i : Int) = i := Int.zero_add _
      rw [e]
      have ea : atI (ts.map Tm.py) i = some t.py := atI_nat (by rw [List.getElem?_map, ht]; rfl)
      refine ⟨_, ea, _, ea, t, ss, rfl, good.inn, t, _, rfl, good.lh, _, ea, t, rfl, _, atI_4, ?_⟩
      cases hs : t.soft with
      | true =>
        have ef : t.frc = .int t.force := by
          cases t with
          | wish d l u f => rfl
          | tie d o l u f => rfl
          | stop d l u => cases hs
          | bar d o l u => cases hs
        have eg : t.gone ss = false := by
          unfold Tm.gone
          rw [hs]
          rfl
        rw [ef]
        rw [eg, if_neg Bool.false_ne_true] at hl
        exact ⟨rfl, ⟨(fun z => nomatch z), fun _ => ⟨(fun z => nomatch z), fun _ => hN _ ⟨_, _, _, rfl, hl⟩⟩⟩⟩
      | false =>
        have ef : t.frc = .none := by
          cases t with
          | wish d l u f => cases hs
          | tie d o l u f => cases hs
          | stop d l u => rfl
          | bar d o l u => rfl
        have eg : t.gone ss = decide (t.dist (t.arg ss) > 0) := by
          unfold Tm.gone
          rw [hs, Bool.eq_iff_iff]
          simp only [Bool.not_false, Bool.true_and, bne_iff_ne, decide_eq_true_eq]
          omega
        rw [ef]
        rw [eg] at hl
        refine ⟨rfl, ⟨fun _ => ⟨fun z => ?_, fun z => ?_⟩, (fun z => nomatch z)⟩⟩
        · rw [if_pos z] at hl
          rw [← hl] at h
          exact h
        · rw [if_neg (fun w => Bool.false_ne_true (z.symm.trans w))] at hl
          exact hN _ ⟨_, _, _, rfl, hl⟩
    · obtain ⟨a, b, c, rfl, hl⟩ := hds
      rw [List.drop_length] at hl
      rw [← hl] at h
      exact h
theorem ok_8 (T : Txt w K mg C L f fd e ei fe) : FnG P w K mg base 4 (f 8) (fd 8) ["term", "argument"] (spD distR) := by
  have S := sc8
  refine fn_D T.d8.fn S (fun xs Q h => ?_) fun cdv A outer s H B c => ⟨_, _, (ds_cons (ds_asg (d_call (ok_6 T) c.guards (c.room.mono (by decide)) T.d6.bd T.d6.mg T.d6.fn.kp (by rfl) (da_var 0 da_nil)) (dg_tup (n := 2) rfl (dgs_consA (dg_name (i := 2) S.nd rfl (by first | exact Or.inl rfl | exact Or.inr rfl)) (dgs_consA (dg_name (i := 3) S.nd rfl (by first | exact Or.inl rfl | exact Or.inr rfl)) dgs_nil))))
      (ds_one (ds_ret (d_callB (call_max3Nu rfl) rdc_max3 (by rfl) T.b_max (by decide +kernel) (dl_cons (d_op op_sub rd_sub (d_var 2) (d_var 1)) (dl_cons d_int (dl_cons (d_op op_sub rd_sub (d_var 1) (d_var 3)) dl_nil))))))), fun xs Q h => ?_⟩
  · obtain ⟨t, v, rfl, _⟩ := h
    rfl
  · obtain ⟨t, v, rfl, hl, h⟩ := h
    walk_at "dx"
    refine ⟨t, rfl, ?_⟩
    walk_at "dx"
    have e : (if (if t.low - v < 0 then 0 else t.low - v) < v - t.high then v - t.high else if t.low - v < 0 then 0 else t.low - v) = t.dist v := by
      unfold Tm.dist
      split <;> split <;> (try split) <;> omega
    rw [e]
    exact h
theorem ok_14 (T : Txt w K mg C L f fd e ei fe) : FnG P w K mg base 4 (f 14) (fd 14) ["thing", "size"] (spD isTermR) := by
  have S := sc14
  refine fn_D T.d14.fn S (fun xs Q h => ?_) fun cdv A outer s H B c => ⟨_, _, (ds_cons (ds_set (i := 2) S.nd rfl (by first | exact Or.inl rfl | exact Or.inr rfl) (d_call (ok_15 T) c.guards (c.room.mono (by decide)) T.d15.bd T.d15.mg T.d15.fn.kp (by rfl) (da_var 0 da_nil)))
      (ds_cons (ds_if (dt_w (dw_or (dt_notInLen K T.len (d_var 2) (by rfl) T.mL) (dw_or1 (dt_cmp (op_neK K c.room.units) rd_ne (d_callB (call_lenK K) rdc_len (by rfl) T.b_len (by decide +kernel) (dl_cons (d_var 0) dl_nil)) (d_ixLen K T.len (d_var 2) (by rfl) T.mL) (nomark _))))) (ds_one (ds_ret d_bl)) ds_nil)
      (ds_cons (ds_if (dt_w (dw_and (dt_valK K (d_call (ok_4 T) c.guards (c.room.mono (by decide)) T.d4.bd T.d4.mg T.d4.fn.kp (by rfl) (da_var 0 da_nil))) (dw_and1 (dt_not (dt_valK K (d_call (ok_12 T) c.guards (c.room.mono (by decide)) T.d12.bd T.d12.mg T.d12.fn.kp (by rfl) (da_cons (d_ixK K (d_var 0) (d_neg d_int)) da_nil))))))) (ds_one (ds_ret d_bl)) ds_nil)
      (ds_one (ds_ret (d_and (d_call (ok_16 T) c.guards (c.room.mono (by decide)) T.d16.bd T.d16.mg T.d16.fn.kp (by rfl) (da_cons (d_call (ok_5 T) c.guards (c.room.mono (by decide)) T.d5.bd T.d5.mg T.d5.fn.kp (by rfl) (da_var 0 da_nil)) (da_var 1 da_nil))) (d_one (d_call (ok_17 T) c.guards (c.room.mono (by decide)) T.d17.bd T.d17.mg T.d17.fn.kp (by rfl) (da_cons (d_call (ok_6 T) c.guards (c.room.mono (by decide)) T.d6.bd T.d6.mg T.d6.fn.kp (by rfl) (da_var 0 da_nil)) da_nil))))))))), fun xs Q h => ?_⟩
  · obtain ⟨t, n, rfl, _⟩ := h
    rfl
  · obtain ⟨t, n, rfl, hg, h⟩ := h
    refine ⟨t, rfl, t, rfl, ⟨(fun z => nomatch z), fun _ => ⟨t, rfl, rfl, rfl, ⟨fun z => absurd (show (!PyData.eqv (.int (t.items.length : Int)) (.int (t.items.length : Int))) = false by simp [PyData.eqv]) (fun w => Bool.false_ne_true (w.symm.trans z)), fun _ => ?_⟩⟩⟩⟩
    have fin : ∀ c : Bool, c = false → (c = true → Q (.bool false)) ∧ (c = false → dialsR [.dat t.py] fun x => areDialsR [.dat x, .dat (.int n)] fun y => asB y fun b => (b = true → endsR [.dat t.py] fun z => areEndsR [.dat z] Q) ∧ (b = false → Q (.bool false))) := fun c hc => by
      subst hc
      refine ⟨(fun z => nomatch z), fun _ => ?_⟩
      exact ⟨t, rfl, t, n, rfl, hg.inn, hg.dif, ⟨fun _ => ⟨t, rfl, _, _, rfl, hg.lh, hg.lo, hg.hi, h⟩, (fun z => nomatch z)⟩⟩
    cases hs : t.soft with
    | false => exact ⟨t, rfl, by rw [hs]; exact ⟨(fun z => nomatch z), fun _ => fin _ rfl⟩⟩
    | true =>
      have hf : ∃ f : Int, atI t.items (-1) = some (.int f) ∧ 1 ≤ f ∧ f ≤ 30 := by
        have fr := hg.fr
        cases t with
        | wish d l u f => exact ⟨f, rfl, fr.1, fr.2⟩
        | tie d o l u f => exact ⟨f, rfl, fr.1, fr.2⟩
        | stop d l u => cases hs
        | bar d o l u => cases hs
      obtain ⟨f, ef, f0, f1⟩ := hf
      exact ⟨t, rfl, by rw [hs]; exact ⟨fun _ => ⟨_, ef, f, rfl, f0, f1, fin _ rfl⟩, (fun z => nomatch z)⟩⟩
theorem ok_27 (T : Txt w K mg C L f fd e ei fe) : FnG P w K mg base 4 (f 27) (fd 27) ["_law_terms_here", "_law_standing_here", "_law_way", "_law_group"] (spD lawGainR) := by
  have S := sc27
  refine fn_D T.d27.fn S (fun xs Q h => ?_) fun cdv A outer s H B c => ⟨_, _, (ds_cons (ds_set (i := 4) S.nd rfl (by first | exact Or.inl rfl | exact Or.inr rfl) (d_call (ok_25 T) c.guards (c.room.mono (by decide)) T.d25.bd T.d25.mg T.d25.fn.kp (by rfl) (da_var 0 (da_cons (d_call (ok_26 T) c.guards (c.room.mono (by decide)) T.d26.bd T.d26.mg T.d26.fn.kp (by rfl) (da_var 1 (da_var 2 (da_var 3 da_nil)))) da_nil))))
      (ds_one (ds_ret (d_if (dt_cmp op_isN rd_isN (d_var 4) d_non (nomark _)) d_non (d_op op_sub rd_sub (d_call (ok_25 T) c.guards (c.room.mono (by decide)) T.d25.bd T.d25.mg T.d25.fn.kp (by rfl) (da_var 0 (da_var 1 da_nil))) (d_var 4)))))), fun xs Q h => ?_⟩
  · obtain ⟨ts, ss, gs, w, rfl, _⟩ := h
    rfl
  · obtain ⟨ts, ss, gs, w, rfl, fine, fine2, len, hw, al, h⟩ := h
    refine ⟨ss, gs, w, rfl, len, hw, ts, _, rfl, fine2, ?_⟩
    rcases gain_sub h with ⟨_, e, h⟩ | ⟨_, e, h⟩
    · rw [e]
      refine ⟨rfl, (fun z => nomatch z), fun _ => ?_⟩
      refine ⟨ts, ss, rfl, fine, ?_⟩
      rw [strain_at al]
      exact h
    · rw [e]
      exact ⟨rfl, fun _ => h, (fun z => nomatch z)⟩
theorem ok_31 (T : Txt w K mg C L f fd e ei fe) : FnG P w K mg base 4 (f 31) (fd 31) ["_law_bag_here", "_law_standing_here", "_law_scale", "_law_most", "_law_stops"] (spD termR2) := by
  have S := sc31
  refine fn_D T.d31.fn S (fun xs Q h => ?_) fun cdv A outer s H B c => ⟨_, _, (ds_cons (ds_par (i := 7) (j := 8) rfl S.nd rfl rfl (by decide) rfl rfl (dl_cons (d_callB (call_lenK K) rdc_len (by rfl) T.b_len (by decide +kernel) (dl_cons (d_var 1) dl_nil)) (dl_cons (d_call (ok_20 T) c.guards (c.room.mono (by decide)) T.d20.bd T.d20.mg T.d20.fn.kp (by rfl) (da_var 0 (da_cons d_int da_nil))) dl_nil)) (by rfl))
      (ds_cons (ds_par (i := 9) (j := 10) rfl S.nd rfl rfl (by decide) rfl rfl (dl_cons (d_call (ok_20 T) c.guards (c.room.mono (by decide)) T.d20.bd T.d20.mg T.d20.fn.kp (by rfl) (da_var 0 (da_var 7 da_nil))) (dl_cons (d_and (d_var 4) (d_one (d_cmp op_gt rd_cmpI (d_var 8) d_int (nomark _)))) dl_nil)) (by rfl))
      (ds_cons (ds_set (i := 5) S.nd rfl (by first | exact Or.inl rfl | exact Or.inr rfl) (d_op (op_addK K) rd_add d_int (d_call (ok_20 T) c.guards (c.room.mono (by decide)) T.d20.bd T.d20.mg T.d20.fn.kp (by rfl) (da_var 0 (da_var 3 da_nil)))))
      (ds_cons (ds_if (dt_w (dw_or (dt_cmp (op_eqK K c.room.units) rd_eq (d_var 7) d_int (nomark _)) (dw_or1 (dt_cmp (op_inK K) (rd_in) (d_var 8) (d_tup (dl_cons d_int (dl_cons d_int (dl_cons d_int (dl_cons d_int dl_nil))))) (by rfl))))) (ds_cons (ds_asg (d_call (ok_30 T) c.guards (c.room.mono (by decide)) T.d30.bd T.d30.mg T.d30.fn.kp (by rfl) (da_var 0 (da_cons (d_ixK K (d_var 1) (d_var 9)) (da_var 2 (da_var 10 da_nil))))) (dg_tup (n := 2) rfl (dgs_consA (dg_name (i := 11) S.nd rfl (by first | exact Or.inl rfl | exact Or.inr rfl)) (dgs_consA (dg_name (i := 12) S.nd rfl (by first | exact Or.inl rfl | exact Or.inr rfl)) dgs_nil))))
      (ds_one (ds_ret (d_if (dt_valK K (d_var 10)) (d_tup (dl_cons d_str (dl_cons (d_var 9) (dl_cons (d_var 11) (dl_cons (d_var 12) dl_nil))))) (d_tup (dl_cons d_str (dl_cons (d_var 9) (dl_cons (d_var 11) (dl_cons (d_var 12) (dl_cons (d_var 5) dl_nil)))))))))) ds_nil)
      (ds_cons (ds_set (i := 6) S.nd rfl (by first | exact Or.inl rfl | exact Or.inr rfl) (d_op op_mod rd_mod (d_op (op_addK K) rd_add (d_op (op_addK K) rd_add (d_var 9) d_int) (d_call (ok_20 T) c.guards (c.room.mono (by decide)) T.d20.bd T.d20.mg T.d20.fn.kp (by rfl) (da_var 0 (da_cons (d_op op_sub rd_sub (d_var 7) d_int) da_nil)))) (d_var 7)))
      (ds_cons (ds_asg (d_call (ok_30 T) c.guards (c.room.mono (by decide)) T.d30.bd T.d30.mg T.d30.fn.kp (by rfl) (da_var 0 (da_cons (d_op op_sub rd_sub (d_ixK K (d_var 1) (d_var 9)) (d_ixK K (d_var 1) (d_var 6))) (da_var 2 (da_var 10 da_nil))))) (dg_tup (n := 2) rfl (dgs_consA (dg_name (i := 11) S.nd rfl (by first | exact Or.inl rfl | exact Or.inr rfl)) (dgs_consA (dg_name (i := 12) S.nd rfl (by first | exact Or.inl rfl | exact Or.inr rfl)) dgs_nil))))
      (ds_one (ds_ret (d_if (dt_valK K (d_var 10)) (d_tup (dl_cons d_str (dl_cons (d_var 9) (dl_cons (d_var 6) (dl_cons (d_var 11) (dl_cons (d_var 12) dl_nil)))))) (d_tup (dl_cons d_str (dl_cons (d_var 9) (dl_cons (d_var 6) (dl_cons (d_var 11) (dl_cons (d_var 12) (dl_cons (d_var 5) dl_nil)))))))))))))))), fun xs Q h => ?_⟩
  · obtain ⟨mid, ss, s, m, b, rfl, _⟩ := h
    rfl
  · obtain ⟨mid, ss, s, m, b, rfl, near, s0, s1, m0, m1, hl, hl2, h⟩ := h
    have hn : ((ss.map PyData.int).length : Int) = ss.length := by rw [List.length_map]
    refine ⟨8, rfl, by decide, lt_big (by decide), fun way w0 w1 => ⟨_, rfl, by omega, lt_big (by omega), fun d d0 d1 => ?_⟩⟩
    have dl : d < (ss.length : Int) := by omega
    have nd := near.one d0 dl
    refine ⟨fun hb => ?_, fun hb => ?_⟩
    all_goals
      refine ⟨m, rfl, m0, lt_big (by omega), fun f f0 f1 => ?_⟩
      refine ⟨rfl, rfl, fun h1 => ⟨fun _ => ?_, (fun z => nomatch z)⟩, fun h1 => ⟨szr, rfl, rfl, fun hin => ?_, fun hin => ?_⟩⟩
      · refine ix_pm d0 d1 ⟨_, s, _, rfl, s0, s1, fun l hh hle h2 h3 h4 => ⟨rfl, fun hc => ⟨szr, h (.stop d l hh) ⟨⟨d0, dl⟩, trivial, hle, h2, h3, trivial⟩ (fun _ => h4 hc nd.1 nd.2)⟩, fun hc => ⟨szr, h (.wish d l hh (1 + f)) ⟨⟨d0, dl⟩, trivial, hle, h2, h3, ⟨by omega, by omega⟩⟩ (fun z => nomatch z)⟩⟩⟩
      · refine ix_pm d0 d1 ⟨_, s, _, rfl, s0, s1, fun l hh hle h2 h3 h4 => ⟨rfl, fun hc => ⟨szr, h (.stop d l hh) ⟨⟨d0, dl⟩, trivial, hle, h2, h3, trivial⟩ (fun _ => h4 hc nd.1 nd.2)⟩, fun hc => ⟨szr, h (.wish d l hh (1 + f)) ⟨⟨d0, dl⟩, trivial, hle, h2, h3, ⟨by omega, by omega⟩⟩ (fun z => nomatch z)⟩⟩⟩
      · have hne : ((ss.map PyData.int).length : Int) ≠ 1 := by simpa [PyData.eqv] using h1
        refine ⟨_, rfl, by omega, lt_big (by omega), fun k k0 k1 => ⟨by omega, ?_⟩⟩
        obtain ⟨o0, o1, od⟩ := other_dial (n := ((ss.map PyData.int).length : Int)) d0 d1 k0 k1
        generalize (d + 1 + k) % ((ss.map PyData.int).length : Int) = o at *
        have ol : o < (ss.length : Int) := by omega
        have n2 := near.two d0 dl o0 ol
        refine ix_pm d0 d1 (ix_pm o0 o1 ⟨_, s, _, rfl, s0, s1, fun l hh hle h2 h3 h4 => ⟨rfl, fun hc => ⟨szr, h (.bar d o l hh) ⟨⟨⟨d0, dl⟩, ⟨o0, ol⟩⟩, od.symm, hle, h2, h3, trivial⟩ (fun _ => h4 hc n2.1 n2.2)⟩, fun hc => ⟨szr, h (.tie d o l hh (1 + f)) ⟨⟨⟨d0, dl⟩, ⟨o0, ol⟩⟩, od.symm, hle, h2, h3, ⟨by omega, by omega⟩⟩ (fun z => nomatch z)⟩⟩⟩)
theorem ok_18 (T : Txt w K mg C L f fd e ei fe) : FnG P w K mg base 5 (f 18) (fd 18) ["thing", "size"] (spD areTermsR) := by
  have S := sc18
  refine fn_D T.d18.fn S (fun xs Q h => ?_) fun cdv A outer s H B c => ⟨_, _, (ds_cons (ds_if (dt_w (dw_or (dt_not (dt_valK K (d_isi K okLstI (d_var 0) (by rfl) T.b_isinstance (by rfl) T.b_list (by decide +kernel)))) (dw_or1 (dt_cmp op_gt rd_cmpI (d_callB (call_lenK K) rdc_len (by rfl) T.b_len (by decide +kernel) (dl_cons (d_var 0) dl_nil)) d_int (nomark _))))) (ds_one (ds_ret d_bl)) ds_nil)
      (ds_one (ds_ret (d_callB (call_allK K rfl) rdc_all (by rfl) T.b_all (by decide +kernel) (dl_cons (d_lc (own := [("term", 2)]) (is := [2]) rfl S.nd (di_seq (d_var 0)) (blkOk_by (N := N18) (sc := defScope s18) (by decide +kernel)) (fun _ _ _ _ _ => (dg_name S.nd rfl (Or.inl rfl))) (fun _ _ _ _ _ => pts_nil) (fun M σ H ds Q R g e h c => st_yes M σ H ds Q R g e h c) (fun s' H' C cl fp => (d_call (ok_14 T) (CxD.blk (scope := cs138_15) c s' H' C cl fp).guards ((CxD.blk (scope := cs138_15) c s' H' C cl fp).room.mono (by decide)) T.d14.bd T.d14.mg T.d14.fn.kp (by rfl) (da_var 2 (da_var 1 da_nil)))) (by decide)) dl_nil))))), fun xs Q h => ?_⟩
  · obtain ⟨ts, n, rfl, _⟩ := h
    rfl
  · obtain ⟨ts, n, rfl, hl, hg, h⟩ := h
    have e1 : decide (((ts.map Tm.py).length : Int) > 24) = false := decide_eq_false (by rw [List.length_map]; omega)
    refine ⟨(fun z => nomatch z), fun _ => ⟨fun z => absurd (e1.symm.trans z) Bool.false_ne_true, fun _ => ?_⟩⟩
    refine ⟨szr0 (by rw [List.length_map]; omega), lcW_map (fun _ => .bool true) _ _ _ (fun x hx N hN => ?_) ?_⟩
    · obtain ⟨t, ht, rfl⟩ := List.mem_map.mp hx
      exact ⟨t, n, rfl, hg t ht, hN⟩
    rw [List.nil_append]
    obtain ⟨bs, e, e2⟩ := all_true (r := (ts.map Tm.py).map fun _ => PyData.bool true) fun z hz => by
      obtain ⟨_, _, rfl⟩ := List.mem_map.mp hz
      rfl
    refine ⟨bs, e, ?_⟩
    rw [e2]
    exact h
theorem ok_32 (T : Txt w K mg C L f fd e ei fe) : FnG P w K mg base 5 (f 32) (fd 32) ["_law_bag_here", "_law_standing_here", "_law_scale", "_law_many", "_law_stops"] (spD termsR) := by
  have S := sc32
  refine fn_D T.d32.fn S (fun xs Q h => ?_) fun cdv A outer s H B c => ⟨_, _, (ds_cons (ds_set (i := 5) S.nd rfl (by first | exact Or.inl rfl | exact Or.inr rfl) (d_ixK K (d_lst (dl_cons d_int (dl_cons d_int (dl_cons d_int dl_nil)))) (d_call (ok_20 T) c.guards (c.room.mono (by decide)) T.d20.bd T.d20.mg T.d20.fn.kp (by rfl) (da_var 0 (da_cons d_int da_nil)))))
      (ds_one (ds_ret (d_lc (own := [("_law_one", 6)]) (is := [6]) rfl S.nd (di_range1 (by rfl) T.b_range (dl_cons (d_call (ok_20 T) c.guards (c.room.mono (by decide)) T.d20.bd T.d20.mg T.d20.fn.kp (by rfl) (da_var 0 (da_cons (d_op (op_addK K) rd_add (d_var 3) d_int) da_nil))) dl_nil)) (blkOk_by (N := N32) (sc := defScope s32) (by decide +kernel)) (fun _ _ _ _ _ => (dg_name S.nd rfl (Or.inl rfl))) (fun _ _ _ _ _ => pts_nil) (fun M σ H ds Q R g e h c => st_yes M σ H ds Q R g e h c) (fun s' H' C cl fp => (d_call (ok_31 T) (CxD.blk (scope := cs212_11) c s' H' C cl fp).guards ((CxD.blk (scope := cs212_11) c s' H' C cl fp).room.mono (by decide)) T.d31.bd T.d31.mg T.d31.fn.kp (by rfl) (da_var 0 (da_var 1 (da_var 2 (da_var 5 (da_var 4 da_nil))))))) (by decide))))), fun xs Q h => ?_⟩
  · obtain ⟨mid, ss, s, many, b, rfl, _⟩ := h
    rfl
  · obtain ⟨mid, ss, s, many, b, rfl, near, s0, s1, m0, m1, hl, hl2, h⟩ := h
    refine ⟨szr, 3, rfl, by decide, lt_big (by decide), fun k k0 k1 => ?_⟩
    refine atI_ex (P := fun d => ∃ i : Int, d = .int i ∧ 0 < i ∧ i ≤ 30) k0 k1 (fun z hz => ?_) ?_
    · simp only [List.mem_cons, List.not_mem_nil, or_false] at hz
      rcases hz with rfl | rfl | rfl <;> exact ⟨_, rfl, by decide, by decide⟩
    rintro _ ⟨mo, rfl, o0, o1⟩
    refine ⟨many + 1, rfl, by omega, lt_big (by omega), fun c c0 c1 => ⟨by omega, by omega, ?_⟩⟩
    refine lcW_all (fun d => ∃ t : Tm, d = t.py ∧ t.Good ss.length ∧ t.Holds ss) _ _ _ (fun y hy N hN => ?_) (fun z hz => nomatch hz) fun r hr hp => ?_
    · exact ⟨mid, ss, s, mo, b, rfl, near, s0, s1, o0, o1, hl, hl2, fun t ht ht2 => hN _ ⟨t, rfl, ht, ht2⟩⟩
    · obtain ⟨ts, rfl, ht⟩ := terms_of r hp
      rw [rangeD_len, List.length_map, List.length_nil] at hr
      exact h ts (by omega) ht
theorem ok_40 (T : Txt w K mg C L f fd e ei fe) : FnG P w K mg base 5 (f 40) (fd 40) ["self", "standing"] (spD (leftR C)) := by
  have S := sc40
  refine fn_D T.m40.fn S (fun xs Q h => ?_) fun cdv A outer s H B c => ⟨_, _, (ds_cons (ds_for PassesOwn.never rfl (di_enum K (by rfl) T.b_enumerate (dl_cons (d_fldT K T.cl T.nT (d_var 0)) dl_nil)) (dg_tup (n := 2) rfl (dgs_consA (dg_name (i := 2) S.nd rfl (by first | exact Or.inl rfl | exact Or.inr rfl)) (dgs_consA (dg_name (i := 3) S.nd rfl (by first | exact Or.inl rfl | exact Or.inr rfl)) dgs_nil))) (ds_one (ds_if (dt_w (dw_and (dt_not (dt_valK K (d_call (ok_4 T) c.guards (c.room.mono (by decide)) T.d4.bd T.d4.mg T.d4.fn.kp (by rfl) (da_var 3 da_nil)))) (dw_and1 (dt_cmp (op_neK K c.room.units) rd_ne (d_call (ok_8 T) c.guards (c.room.mono (by decide)) T.d8.bd T.d8.mg T.d8.fn.kp (by rfl) (da_var 3 (da_cons (d_call (ok_7 T) c.guards (c.room.mono (by decide)) T.d7.bd T.d7.mg T.d7.fn.kp (by rfl) (da_var 3 (da_var 1 da_nil))) da_nil))) d_int (nomark _))))) (ds_one (ds_ret (d_var 2))) ds_nil)))
      (ds_one (ds_ret d_non))), fun xs Q h => ?_⟩
  · obtain ⟨n, ts, ss, rfl, _⟩ := h
    rfl
  · obtain ⟨n, ts, ss, rfl, fine, h⟩ := h
    refine ⟨n, _, rfl, szr0 (by rw [List.length_map]; have := fine.len; omega), ?_⟩
    refine forW_at (fun i ds => ∃ a b, ds = [some (.dat (brdD C n (ts.map Tm.py))), some (.dat (.tuple (ss.map .int))), a, b] ∧ leftFrom ss i (ts.drop i) = leftV ts ss) (fun i x N ds hx hds hN => ?_) (fun ds hds => ?_) ⟨none, none, rfl, rfl⟩
    · obtain ⟨a, b, rfl, hl⟩ := hds
      obtain ⟨t, ht, rfl⟩ := enumD_map hx
      have hm := List.mem_of_getElem? ht
      have good := fine.good t hm
      rw [drop_at ht] at hl
      unfold leftFrom at hl
      refine ⟨rfl, t, rfl, ?_⟩
      have last : ∀ c : Bool, c = t.gone ss → (c = true → Q (.int i)) ∧ (c = false → N [some (.dat (brdD C n (ts.map Tm.py))), some (.dat (.tuple (ss.map .int))), some (.dat (.int i)), some (.dat t.py)]) := fun c hc => by
        refine ⟨fun z => ?_, fun z => ?_⟩
        · rw [← hc, z, if_pos rfl] at hl
          rw [hl]
          exact h
        · rw [← hc, z, if_neg Bool.false_ne_true] at hl
          exact hN _ ⟨_, _, rfl, hl⟩
      cases hs : t.soft with
      | true => exact ⟨(fun z => nomatch z), fun _ => last false (by unfold Tm.gone; rw [hs]; rfl)⟩
      | false =>
        refine ⟨fun _ => ⟨t, ss, rfl, good.inn, t, _, rfl, good.lh, rfl, rfl, ?_⟩, (fun z => nomatch z)⟩
        exact last _ (by unfold Tm.gone; rw [hs]; exact ne0)
    · obtain ⟨a, b, rfl, hl⟩ := hds
      rw [enumD_len, List.length_map, List.drop_length] at hl
      rw [← hl] at h
      exact h
theorem ok_0 (T : Txt w K mg C L f fd e ei fe) : FnX P w K mg base 6 (f 0) (fd 0) ["board", "standing"] (spX (allowedX C (e 2))) := by
  have S := sc0
  refine fn_DX T.d0.fn S (fun xs Q Ed h => ?_) fun cdv A outer s H E B W Ed c => ⟨_, _, (ds_cons (ds_set (i := 2) S.nd rfl (by first | exact Or.inl rfl | exact Or.inr rfl) (d_meth T.cl T.m40.me (ok_40 T) c.guards (c.room.mono (by decide)) T.m40.bd (d_var 0) (da_var 1 da_nil)))
      (ds_one (ds_if (dt_cmp op_notN rd_notN (d_var 2) d_non (nomark _)) (ds_one (ds_raise1 rfl T.ox_NotAllowed T.in_NotAllowed T.ty_NotAllowed T.no_NotAllowed (err_NotAllowed T) (c.room.mono (by decide)) T.xb_NotAllowed c.tkd T.e_NotAllowed (by rfl) (dl_cons (d_var 2) dl_nil))) ds_nil))), fun xs Q h => ?_⟩
  · obtain ⟨n, ts, ss, rfl, _⟩ := h
    rfl
  · obtain ⟨n, ts, ss, rfl, fine, hq, he⟩ := h
    refine ⟨_, _, rfl, n, ts, ss, rfl, fine, rfl, ?_⟩
    cases al : isNone (leftV ts ss) with
    | true => exact ⟨(fun z => nomatch z), fun _ => hq al⟩
    | false => exact ⟨fun _ => he al, (fun z => nomatch z)⟩
theorem ok_36 (T : Txt w K mg C L f fd e ei fe) : FnG P w K mg base 6 (f 36) (fd 36) ["self", "size", "terms"] (spInit C BrdOk) := by
  have S := sc36
  refine fn_ofG T.i36 S (fun vs H Q E h => ?_) fun cdv A outer s H vs Q hG hr h => ?_
  · obtain ⟨M, B, x, dx, vt, n, l, rfl, _⟩ := h
    rfl
  obtain ⟨M, B, x, dx, vt, n, l, rfl, g, f0, nx, nd, ne, hx, hdx, ht, hok, k⟩ := h
  have c : CxD (6 - 1) (cxOf CX0 P w K mg base N36 "Board.__init__" (defScope s36) (f 36) cdv A outer s H E0).nox := ⟨hr, hG⟩
  have en : EnvAt M B H [some (.ref x), some (.int n), some vt] [none, some (.dat (.int n)), some (.dat (.list l))] := .cons (.non _) (.cons (.som (.dat (.int n))) (.cons (.som (.dat ht)) .nil))
  obtain ⟨t1, d1, h1, q1⟩ : ∃ t1 d1, PDT (cxOf CX0 P w K mg base N36 "Board.__init__" (defScope s36) (f 36) cdv A outer s H E0).nox B (ifTest ((defBody s36).getD 0 (.Pass ⟨0, 0, 0, 0⟩))) t1 d1 ∧ d1 [none, some (.dat (.int n)), some (.dat (.list l))] (fun b => b = false) := by
    refine ⟨_, _, (dt_w (dw_or (dt_not (dt_valK K (d_call (ok_10 T) c.guards (c.room.mono (by decide)) T.d10.bd T.d10.mg T.d10.fn.kp (by rfl) (da_var 1 da_nil)))) (dw_or1 (dt_not (dt_chain op_le op_le rd_cmpI rd_cmpI d_int (d_var 1) d_int))))), ?_⟩
    obtain ⟨n1, n8, _⟩ := hok
    refine ⟨n, rfl, ⟨(fun z => nomatch z), fun _ => ?_⟩⟩
    have e1 : decide ((1 : Int) ≤ n) = true := decide_eq_true n1
    have e2 : decide (n ≤ 8) = true := decide_eq_true n8
    show (match PyData.bool (decide ((1 : Int) ≤ n)) with
      | .bool true => _
      | .bool false => _
      | _ => False)
    rw [e1]
    show (!decide (n ≤ 8)) = false
    rw [e2]
    rfl
  obtain ⟨t2, d2, h2, q2⟩ : ∃ t2 d2, PDT (cxOf CX0 P w K mg base N36 "Board.__init__" (defScope s36) (f 36) cdv A outer s H E0).nox B (ifTest ((defBody s36).getD 1 (.Pass ⟨0, 0, 0, 0⟩))) t2 d2 ∧ d2 [none, some (.dat (.int n)), some (.dat (.list l))] (fun b => b = false) := by
    refine ⟨_, _, (dt_not (dt_valK K (d_call (ok_18 T) c.guards (c.room.mono (by decide)) T.d18.bd T.d18.mg T.d18.fn.kp (by rfl) (da_var 2 (da_var 1 da_nil))))), ?_⟩
    obtain ⟨_, _, l24, ts, rfl, hg⟩ := hok
    exact ⟨ts, n, rfl, by rw [List.length_map] at l24; exact l24, hg, rfl⟩
  refine ⟨_, pss_cons (ps_if h1.pt (pss_one ps_never) pss_nil) (pss_cons (ps_if h2.pt (pss_one ps_never) pss_nil) (pss_cons (ps_fld (pv 0) (pv 1) rfl) (pss_one (ps_fld (pv 0) (pe_callTy call_list_of (by rfl) T.b_list (by decide +kernel) (pa_cons (pv 2) pa_nil)) rfl)))), ?_⟩
  refine h1.st M _ H _ _ _ g en q1 fun b H1 g1 k1 e1 => ?_
  subst e1
  refine iteF ?_
  have mB := g.1
  refine h2.st M _ H1 _ _ _ g1 (en.keep mB k1) q2 fun b H2 g2 k2 e2 => ?_
  subst e2
  refine iteF ?_
  have kk := k1.trans k2
  have xB : x ≠ B := fun z => nx (by rw [z]; exact mB)
  have dB : dx ≠ B := fun z => nd (by rw [z]; exact mB)
  have hx2 := kk.k x _ xB hx
  have hd2 := kk.k dx _ dB hdx
  have ht2 := ht.keep mB kk
  cases ht2 with
  | lst na ea ha =>
    rename_i a xs
    have ax : a ≠ x := fun z => by
      rw [z, hx2] at ea
      cases ea
    refine ⟨_, rfl, _, rfl, x, C, dx, [], rfl, hx2, T.cl, T.nS, (by show 0 < 1000; decide), ?_⟩
    refine ⟨_, rfl, a, xs, rfl, .inl (SqL.of (by rw [upd_ne ax]; exact ea)), fun p hp => ?_⟩
    have px : p ≠ x := fun z => by
      rw [z, upd_same] at hp
      cases hp
    have hp2 : H2 p = none := by rw [upd_ne px] at hp; exact hp
    refine ⟨_, rfl, x, C, dx, _, rfl, (by rw [upd_ne px.symm]; exact upd_same), T.cl, T.nT, (by show 1 < 1000; decide), ?_⟩
    have gp := g2.new (o := .lst xs) hp2
    have np := g2.ne hp2
    have pB : p ≠ B := fun z => np (by rw [z]; exact mB)
    have pd : p ≠ dx := fun z => by
      rw [z, hd2] at hp2
      cases hp2
    have eH : ∀ b, b ≠ x → (upd (upd (upd H2 x (.ins C dx (putF "_size" (.int n) []))) p (.lst xs)) x (.ins C dx (putF "_terms" (.ref p) (putF "_size" (.int n) [])))) b = upd H2 p (.lst xs) b := fun b hb => by
      rw [upd_ne hb]
      unfold upd
      split
      · rfl
      · first | rfl | rw [if_neg hb]
    have eF : upd (upd (upd H2 x (.ins C dx (putF "_size" (.int n) []))) p (.lst xs)) x (.ins C dx (putF "_terms" (.ref p) (putF "_size" (.int n) []))) = upd (upd H2 p (.lst xs)) x (.ins C dx (putF "_terms" (.ref p) (putF "_size" (.int n) []))) := by
      funext b
      by_cases z : b = x
      · rw [z, upd_same, upd_same]
      · rw [eH b z, upd_ne z]
    have gf := gp.updI (o := .ins C dx (putF "_terms" (.ref p) (putF "_size" (.int n) []))) nx xB (by rw [upd_ne px.symm]; exact hx2) f0.1 f0.2
    refine k p xs _ (by rw [eF]; exact gf) (fun b o nb nbx hb => ?_) (fun q' hq => ?_) (by rw [upd_same, init_flds]) np ?_ ?_
    · rw [eH b nbx, upd_ne (ne_of_none (kk.k b o nb hb) hp2)]
      exact kk.k b o nb hb
    · have e := kk.q q' hq
      unfold bagq at e ⊢
      rw [eH B xB.symm, upd_ne pB.symm]
      exact e
    · rw [eH p px]
      exact upd_same
    · exact ha.mapX ⟨C, dx, hx2⟩ fun b o hbx nb hb => ⟨nb, by rw [eH b hbx, upd_ne (ne_of_none hb hp2)]; exact hb⟩

theorem ok_41 (T : Txt w K mg C L f fd e ei fe) : FnG P w K mg base 6 (f 41) (fd 41) ["self", "standing"] (spD (strainR C)) := by
  have S := sc41
  refine fn_D T.m41.fn S (fun xs Q h => ?_) fun cdv A outer s H B c => ⟨_, _, (ds_cons (ds_if (dt_cmp op_notN rd_notN (d_meth T.cl T.m40.me (ok_40 T) c.guards (c.room.mono (by decide)) T.m40.bd (d_var 0) (da_var 1 da_nil)) d_non (nomark _)) (ds_one (ds_ret d_non)) ds_nil)
      (ds_cons (ds_setLc1 (i := 2) rfl S.nd rfl rfl (sw_true rfl rfl rfl (by decide +kernel)) (own := [("term", 3)]) (is := [3]) (di_seq (d_fldT K T.cl T.nT (d_var 0))) (blkOk_by (N := N41) (sc := defScope s41) (by decide +kernel)) (fun _ _ _ _ _ => (dg_name S.nd rfl (Or.inl rfl))) (fun s' H' C cl fp => (dt_valK K (d_call (ok_4 T) (CxD.blk (scope := cs118_17) c s' H' C cl fp).guards ((CxD.blk (scope := cs118_17) c s' H' C cl fp).room.mono (by decide)) T.d4.bd T.d4.mg T.d4.fn.kp (by rfl) (da_var 3 da_nil)))) (fun s' H' C cl fp => (d_var 3)) (by decide))
      (ds_one (ds_ret (d_callB (call_sumK K rfl) rdc_sum (by rfl) T.b_sum (by decide +kernel) (dl_cons (d_lc (own := [("term", 3)]) (is := [3]) rfl S.nd (di_seq (d_var 2)) (blkOk_by (N := N41) (sc := defScope s41) (by decide +kernel)) (fun _ _ _ _ _ => (dg_name S.nd rfl (Or.inl rfl))) (fun _ _ _ _ _ => pts_nil) (fun M σ H ds Q R g e h c => st_yes M σ H ds Q R g e h c) (fun s' H' C cl fp => (d_op op_mulV rd_mul (d_ixK K (d_var 3) (d_neg d_int)) (d_call (ok_8 T) (CxD.blk (scope := cs119_19) c s' H' C cl fp).guards ((CxD.blk (scope := cs119_19) c s' H' C cl fp).room.mono (by decide)) T.d8.bd T.d8.mg T.d8.fn.kp (by rfl) (da_var 3 (da_cons (d_call (ok_7 T) (CxD.blk (scope := cs119_19) c s' H' C cl fp).guards ((CxD.blk (scope := cs119_19) c s' H' C cl fp).room.mono (by decide)) T.d7.bd T.d7.mg T.d7.fn.kp (by rfl) (da_var 3 (da_var 1 da_nil))) da_nil))))) (by decide)) dl_nil)))))), fun xs Q h => ?_⟩
  · obtain ⟨n, ts, ss, rfl, _⟩ := h
    rfl
  · obtain ⟨n, ts, ss, rfl, fine, h⟩ := h
    have e0 := strain_left ss ts 0 0
    refine ⟨n, _, rfl, n, ts, ss, rfl, fine, rfl, ?_⟩
    cases e : isNone (leftV ts ss) with
    | false =>
      have e1 : strainV ts ss = .none := by
        unfold strainV
        rw [e0, show leftFrom ss 0 ts = leftV ts ss from rfl, e]
        rfl
      rw [e1] at h
      exact ⟨fun _ => h, (fun z => nomatch z)⟩
    | true =>
      have e1 : strainV ts ss = .int (costs ts ss).sum := by
        unfold strainV
        rw [e0, show leftFrom ss 0 ts = leftV ts ss from rfl, e, if_pos rfl, Int.zero_add]
      rw [e1] at h
      refine ⟨(fun z => nomatch z), fun _ => ?_⟩
      refine ⟨n, _, rfl, szr0 (by rw [List.length_map]; have := fine.len; omega), lcW_filterOf Tm.py Tm.soft Tm.py _ _ _ (fun t ht N2 N h1 h2 => ⟨t, rfl, h1, h2⟩) ?_⟩
      rw [List.nil_append]
      have fl : (ts.filter Tm.soft).length ≤ 24 := Nat.le_trans (List.length_filter_le _ _) fine.len
      refine ⟨szr0 (by rw [List.length_map]; omega), lcW_mapOf Tm.py (fun t => .int (t.force * t.dist (t.arg ss))) _ _ _ (fun t ht N hN => ?_) ?_⟩
      · have hm := (List.mem_filter.mp ht).1
        have hs := (List.mem_filter.mp ht).2
        have good := fine.good t hm
        have di := fine.dist hm
        have fo := fine.force hm
        refine ⟨.int t.force, ?_, t, ss, rfl, good.inn, t, _, rfl, good.lh, mulW (by omega) (by omega), hN⟩
        cases t with
        | wish d l u f => rfl
        | tie d o l u f => rfl
        | stop d l u => cases hs
        | bar d o l u => cases hs
      · refine ⟨costs ts ss, ?_, h⟩
        unfold costs
        rw [List.nil_append, List.map_map]
        rfl
theorem ok_2 (T : Txt w K mg C L f fd e ei fe) : FnX P w K mg base 7 (f 2) (fd 2) ["board", "standing", "way", "group"] (spX (gainX C (e 2))) := by
  have S := sc2
  refine fn_DX T.d2.fn S (fun xs Q Ed h => ?_) fun cdv A outer s H E B W Ed c => ⟨_, _, (ds_cons (ds_expr (d_callX (ok_0 T) c.guards (c.room.mono (by decide)) c.tkd T.d0.bd T.d0.mg T.d0.fn.kp (by rfl) (da_var 0 (da_var 1 da_nil))))
      (ds_cons (ds_set (i := 4) S.nd rfl (by first | exact Or.inl rfl | exact Or.inr rfl) (d_meth T.cl T.m41.me (ok_41 T) c.guards (c.room.mono (by decide)) T.m41.bd (d_var 0) (da_cons (d_call (ok_1 T) c.guards (c.room.mono (by decide)) T.d1.bd T.d1.mg T.d1.fn.kp (by rfl) (da_var 1 (da_var 2 (da_var 3 (da_cons d_int da_nil))))) da_nil)))
      (ds_cons (ds_if (dt_cmp op_isN rd_isN (d_var 4) d_non (nomark _)) (ds_one (ds_ret d_non)) ds_nil)
      (ds_one (ds_ret (d_op op_sub rd_sub (d_meth T.cl T.m41.me (ok_41 T) c.guards (c.room.mono (by decide)) T.m41.bd (d_var 0) (da_var 1 da_nil)) (d_var 4))))))), fun xs Q h => ?_⟩
  · obtain ⟨n, ts, ss, gs, w, rfl, _⟩ := h
    rfl
  · obtain ⟨n, ts, ss, gs, w, rfl, fine, fine2, len, hw, hq, he⟩ := h
    refine ⟨n, ts, ss, rfl, fine, fun al => ?_, he⟩
    have h := hq al
    refine ⟨_, _, rfl, ss, gs, w, 1, rfl, len, hw, by decide, n, ts, _, rfl, by rw [Int.mul_one]; exact fine2, ?_⟩
    rw [Int.mul_one]
    rcases gain_sub h with ⟨_, e, h⟩ | ⟨_, e, h⟩
    · rw [e]
      refine ⟨rfl, (fun z => nomatch z), fun _ => ?_⟩
      refine ⟨_, _, rfl, n, ts, ss, rfl, fine, ?_⟩
      rw [strain_at al]
      exact h
    · rw [e]
      exact ⟨rfl, fun _ => h, (fun z => nomatch z)⟩
theorem ok_34 (T : Txt w K mg C L f fd e ei fe) : FnX P w K mg base 8 (f 34) (fd 34) ["_law_board", "_law_standing_here", "_law_way", "_law_group"] (spX (toldX C)) := by
  have S := sc34
  refine fn_DX T.d34.fn S (fun xs Q Ed h => ?_) fun cdv A outer s H E B W Ed c => ⟨_, _, (ds_one (ds_tryAs c (i := 4) S.nd rfl rfl ⟨(by rfl), by decide, .inl T.e_PullError⟩ (fun B' W' Wd' pn xe c =>
        (ds_one (ds_ret (d_tup (dl_cons d_str (dl_cons (d_callX (ok_2 T) c.guards (c.room.mono (by decide)) c.tkd T.d2.bd T.d2.mg T.d2.fn.kp (by rfl) (da_var 0 (da_var 1 (da_var 2 (da_var 3 da_nil))))) dl_nil)))))) (fun a oe cls d pn hz hf =>
        (ds_cons (ds_if (dt_w (dw_or (dt_not (dt_valK K (d_isC 4 hz hf (pv 4) (by rfl) T.b_isinstance (by rfl) T.e_NotAllowed))) (dw_or (dt_valK K (d_isT 4 hz hf (pv 4) (by rfl) T.b_isinstance (pcl_cons (by rfl) T.e_NoneAllowed (pcl_cons (by rfl) T.e_Wrong pcl_nil)) (Nat.le_of_ble_eq_true rfl))) (dw_or1 (dt_not (dt_valK K (d_isB (T := "ValueError") 4 hz hf (pv 4) (by rfl) T.b_isinstance (by rfl) T.b_ValueError (by decide +kernel)))))))) (ds_one (ds_ret (d_tup (dl_cons d_str (dl_cons d_int dl_nil))))) ds_nil)
      (ds_one (ds_ret (d_tup (dl_cons d_str (dl_cons (d_xf 4 T.xf_NotAllowed T.no_NotAllowed hz hf (pv 4)) dl_nil))))))))), fun xs Q h => ?_⟩
  · obtain ⟨n, ts, ss, gs, w, rfl, _⟩ := h
    rfl
  · obtain ⟨n, ts, ss, gs, w, rfl, fine, fine2, len, hw, h⟩ := h
    unfold toldV at h
    refine ⟨n, ts, ss, gs, w, rfl, fine, fine2, len, hw, fun al => ?_, fun al => ?_⟩
    · rw [al, if_pos rfl] at h
      exact ⟨szr, h⟩
    · rw [al, if_neg Bool.false_ne_true] at h
      refine ⟨true, T.xm_NotAllowed_PullError, fun _ a d => ?_, (fun z => nomatch z)⟩
      refine ⟨_, true, _, rfl, rfl, T.xc_NotAllowed, T.xk_NotAllowed_NotAllowed, (fun z => nomatch z), fun _ => ?_⟩
      have no : PySem.W.kitAny K (.ref (e 2)) [.ref (e 3), .ref (e 1)] = some false := by
        unfold PySem.W.kitAny
        rw [T.xk_NotAllowed_NoneAllowed]
        unfold PySem.W.kitAny
        rw [T.xk_NotAllowed_Wrong]
        rfl
      refine ⟨_, false, _, rfl, rfl, T.xc_NotAllowed, no, (fun z => nomatch z), fun _ => ?_⟩
      refine ⟨_, true, _, rfl, rfl, T.xc_NotAllowed, T.xk_NotAllowed_ValueError, (fun z => nomatch z), fun _ => ?_⟩
      exact ⟨_, _, rfl, rfl, rfl, szr, h⟩
theorem ok_35 (T : Txt w K mg C L f fd e ei fe) : FnG P w K mg base 9 (f 35) (fd 35) ["_law_script"] (spLaw K) := by
  have S := sc35
  refine fn_ofG T.d35.fn S (fun vs H Q E h => ?_) fun cdv A outer s H vs Q hG hr h => ?_
  · obtain ⟨a, ns, rfl, _⟩ := h
    rfl
  obtain ⟨a, ns, rfl, hS, hlen, k⟩ := h
  have c : CxD 8 (cxOf CX0 P w K mg base N35 "law" (defScope s35) (f 35) cdv A outer s H E0).nox := ⟨hr, hG⟩
  obtain ⟨ts, t, hb, ht⟩ : ∃ ts t, (∀ B, PDSs (cxOf CX0 P w K mg base N35 "law" (defScope s35) (f 35) cdv A outer s H E0).nox B ((defBody s35).drop 1) ts t) ∧
      t { nx := fun _ => False, rt := fun d => d = .bool true, bk := fun _ => False, ct := fun _ => False } (none :: some .bag :: List.replicate 15 none) := by
    refine ⟨_, _, fun B => (ds_cons (ds_for PassesOwn.never rfl (di_range1 (by rfl) T.b_range (dl_cons d_int dl_nil)) (dg_name (i := 2) S.nd rfl (by first | exact Or.inl rfl | exact Or.inr rfl)) (ds_cons (ds_set (i := 3) S.nd rfl (by first | exact Or.inl rfl | exact Or.inr rfl) (d_op (op_addK K) rd_add d_int (d_call (ok_20 T) c.guards (c.room.mono (by decide)) T.d20.bd T.d20.mg T.d20.fn.kp (by rfl) (da_var 1 (da_cons d_int da_nil)))))
      (ds_cons (ds_set (i := 4) S.nd rfl (by first | exact Or.inl rfl | exact Or.inr rfl) (d_call (ok_29 T) c.guards (c.room.mono (by decide)) T.d29.bd T.d29.mg T.d29.fn.kp (by rfl) (da_var 1 (da_var 3 (da_cons d_int da_nil)))))
      (ds_cons (ds_set (i := 5) S.nd rfl (by first | exact Or.inl rfl | exact Or.inr rfl) (d_call (ok_32 T) c.guards (c.room.mono (by decide)) T.d32.bd T.d32.mg T.d32.fn.kp (by rfl) (da_var 1 (da_var 4 (da_cons (d_ixK K (d_lst (dl_cons d_int (dl_cons d_int dl_nil))) (d_call (ok_20 T) c.guards (c.room.mono (by decide)) T.d20.bd T.d20.mg T.d20.fn.kp (by rfl) (da_var 1 (da_cons d_int da_nil)))) (da_cons d_int (da_cons d_bl da_nil)))))))
      (ds_cons (ds_set (i := 6) S.nd rfl (by first | exact Or.inl rfl | exact Or.inr rfl) (d_make T.mkC (ok_36 T) c.guards (c.room.mono (by decide)) T.ib T.mgC (by rfl) (dl_cons (d_var 3) (dl_cons (d_var 5) dl_nil))))
      (ds_one (ds_for PassesOwn.never rfl (di_range1 (by rfl) T.b_range (dl_cons d_int dl_nil)) (dg_name (i := 7) S.nd rfl (by first | exact Or.inl rfl | exact Or.inr rfl)) (ds_cons (ds_set (i := 8) S.nd rfl (by first | exact Or.inl rfl | exact Or.inr rfl) (d_var 4))
      (ds_cons (ds_if (dt_cmp (op_eqK K c.room.units) rd_eq (d_call (ok_20 T) c.guards (c.room.mono (by decide)) T.d20.bd T.d20.mg T.d20.fn.kp (by rfl) (da_var 1 (da_cons d_int da_nil))) d_int (nomark _)) (ds_one (ds_set (i := 8) S.nd rfl (by first | exact Or.inl rfl | exact Or.inr rfl) (d_callTy (call_tupleK K) rdc_tuple (by rfl) T.b_tuple (by decide +kernel) (dl_cons (d_lc (own := [("_law_setting", 16)]) (is := [16]) rfl S.nd (di_seq (d_var 4)) (blkOk_by (N := N35) (sc := defScope s35) (by decide +kernel)) (fun _ _ _ _ _ => (dg_name S.nd rfl (Or.inl rfl))) (fun _ _ _ _ _ => pts_nil) (fun M σ H ds Q R g e h c => st_yes M σ H ds Q R g e h c) (fun s' H' C cl fp => (d_op (op_addK K) rd_add (d_var 16) (d_call (ok_28 T) (CxD.blk (scope := cs236_35) c s' H' C cl fp).guards ((CxD.blk (scope := cs236_35) c s' H' C cl fp).room.mono (by decide)) T.d28.bd T.d28.mg T.d28.fn.kp (by rfl) (da_var 1 (da_cons d_int da_nil))))) (by decide)) dl_nil)))) ds_nil)
      (ds_cons (ds_par (i := 12) (j := 10) rfl S.nd rfl rfl (by decide) rfl rfl (dl_cons (d_ixK K (d_lst (dl_cons d_int (dl_cons (d_neg d_int) dl_nil))) (d_call (ok_20 T) c.guards (c.room.mono (by decide)) T.d20.bd T.d20.mg T.d20.fn.kp (by rfl) (da_var 1 (da_cons d_int da_nil)))) (dl_cons (d_lc1 (own := [("_law_dial", 15)]) (is := [15]) rfl S.nd (di_range1 (by rfl) T.b_range (dl_cons (d_var 3) dl_nil)) (blkOk_by (N := N35) (sc := defScope s35) (by decide +kernel)) (fun _ _ _ _ _ => (dg_name S.nd rfl (Or.inl rfl))) (fun s' H' C cl fp => (dt_cmp (op_eqK K (CxD.blk (scope := cs237_74) c s' H' C cl fp).room.units) rd_eq (d_call (ok_20 T) (CxD.blk (scope := cs237_74) c s' H' C cl fp).guards ((CxD.blk (scope := cs237_74) c s' H' C cl fp).room.mono (by decide)) T.d20.bd T.d20.mg T.d20.fn.kp (by rfl) (da_var 1 (da_cons d_int da_nil))) d_int (nomark _))) (fun s' H' C cl fp => (d_var 15)) (by decide)) dl_nil)) (by rfl))
      (ds_cons (ds_set (i := 9) S.nd rfl (by first | exact Or.inl rfl | exact Or.inr rfl) (d_lst (dl_cons (d_var 10) (dl_cons (d_listRg1 rfl (by rfl) T.b_list (by rfl) T.b_range (d_var 3)) (dl_cons (d_lst (dl_cons (d_call (ok_20 T) c.guards (c.room.mono (by decide)) T.d20.bd T.d20.mg T.d20.fn.kp (by rfl) (da_var 1 (da_var 3 da_nil))) dl_nil)) dl_nil)))))
      (ds_cons (ds_set (i := 10) S.nd rfl (by first | exact Or.inl rfl | exact Or.inr rfl) (d_orX K (d_ixK K (d_var 9) (d_call (ok_20 T) c.guards (c.room.mono (by decide)) T.d20.bd T.d20.mg T.d20.fn.kp (by rfl) (da_var 1 (da_cons d_int da_nil)))) (d_one (d_lst (dl_cons d_int dl_nil)))))
      (ds_cons (ds_par (i := 13) (j := 14) rfl S.nd rfl rfl (by decide) rfl rfl (dl_cons (d_call (ok_33 T) c.guards (c.room.mono (by decide)) T.d33.bd T.d33.mg T.d33.fn.kp (by rfl) (da_var 5 (da_var 8 da_nil))) (dl_cons (d_callTy (call_listK K) rdc_list (by rfl) T.b_list (by decide +kernel) (dl_cons (d_var 10) dl_nil)) dl_nil)) (by rfl))
      (ds_cons (ds_set (i := 11) S.nd rfl (by first | exact Or.inl rfl | exact Or.inr rfl) (d_tup (dl_cons d_str (dl_cons (d_var 13) dl_nil))))
      (ds_cons (ds_if (dt_cmp op_isN rd_isN (d_var 13) d_non (nomark _)) (ds_one (ds_set (i := 11) S.nd rfl (by first | exact Or.inl rfl | exact Or.inr rfl) (d_tup (dl_cons d_str (dl_cons (d_call (ok_27 T) c.guards (c.room.mono (by decide)) T.d27.bd T.d27.mg T.d27.fn.kp (by rfl) (da_var 5 (da_var 8 (da_var 12 (da_var 10 da_nil))))) dl_nil))))) ds_nil)
      (ds_one (ds_if (dt_w (dw_or (dt_not (dt_valK K (d_call (ok_21 T) c.guards (c.room.mono (by decide)) T.d21.bd T.d21.mg T.d21.fn.kp (by rfl) (da_cons (d_call (ok_34 T).calm c.guards (c.room.mono (by decide)) T.d34.bd T.d34.mg T.d34.fn.kp (by rfl) (da_var 6 (da_var 8 (da_var 12 (da_var 10 da_nil))))) (da_var 11 da_nil))))) (dw_or (dt_cmp (op_neK K c.room.units) rd_ne (d_var 10) (d_var 14) (nomark _)) (dw_or1 (dt_cmp (op_neK K c.room.units) rd_ne (d_meth0 T.cl T.m39.me (ok_39 T) c.guards (c.room.mono (by decide)) T.m39.bd (d_var 6)) (d_var 5) (nomark _)))))) (ds_one (ds_ret d_bl)) ds_nil)))))))))))))))))
      (ds_one (ds_ret d_bl))), ?_⟩

    refine ⟨by decide, by decide, forW_inv (fun ds => ∃ a b c d e f g h i j k l m o p, ds = [none, some .bag, a, b, c, d, e, f, g, h, i, j, k, l, m, o, p]) (fun _ => True) (fun x N ds _ hds hN => ?_) (fun ds _ => rfl) _ _ (fun _ _ => trivial) ⟨_, _, _, _, _, _, _, _, _, _, _, _, _, _, _, rfl⟩⟩
    obtain ⟨_, _, _, _, _, _, _, _, _, _, _, _, _, _, _, rfl⟩ := hds
    refine ⟨8, rfl, by decide, lt_big (by decide), fun n n0 n1 => ?_⟩
    refine ⟨_, _, rfl, by omega, by omega, by decide, by decide, fun mid ss m0 m1 hlen hb => ?_⟩
    have near : Near mid ss := ⟨m0, m1, hb⟩
    have len0 : 0 < ss.length := by omega
    have len1 : ss.length < 1000 := by omega
    have n1' : (1 : Int) ≤ 1 + n := by omega
    have n8' : 1 + n ≤ 8 := by omega
    refine ⟨szr, 2, rfl, by decide, lt_big (by decide), fun sc sc0 sc1 => ?_⟩
    refine atI_ex (P := fun d => ∃ i : Int, d = .int i ∧ 0 < i ∧ i < 1000) sc0 sc1 (fun z hz => ?_) ?_
    · simp only [List.mem_cons, List.not_mem_nil, or_false] at hz
      rcases hz with rfl | rfl <;> exact ⟨_, rfl, by decide, by decide⟩
    rintro _ ⟨s, rfl, s0, s1⟩
    refine ⟨mid, ss, s, 24, true, rfl, near, s0, s1, by decide, by decide, len0, len1, fun ts htl hts => ?_⟩
    have okB : BrdOk (1 + n) (ts.map Tm.py) := ⟨n1', n8', by rw [List.length_map]; omega, ts, rfl, fun t ht => by rw [← hlen]; exact (hts t ht).1⟩
    refine ⟨okB, ?_⟩
    have bs : ∀ x ∈ ss, -(10 ^ 40) < x ∧ x < 10 ^ 40 := fun x hx => by have := hb x hx; omega
    have okT : OkD (.list (ts.map Tm.py)) := okTerms (by omega) len1 fun t ht => (hts t ht).1.fair
    refine ⟨by decide, by decide, forW_inv (fun ds => ∃ a b c d e f g h i j k, ds = [none, some .bag, a, some (.dat (.int (1 + n))), some (.dat (.tuple (ss.map .int))), some (.dat (.list (ts.map Tm.py))), some (.dat (brdD C (1 + n) (ts.map Tm.py))), b, c, d, e, f, g, h, i, j, k]) (fun _ => True) (fun x N2 ds _ hds hN2 => ?_) (fun ds hds => ?_) _ _ (fun _ _ => trivial) ⟨_, _, _, _, _, _, _, _, _, _, _, rfl⟩⟩
    rotate_left
    · obtain ⟨_, _, _, _, _, _, _, _, _, _, _, rfl⟩ := hds
      exact hN _ ⟨_, _, _, _, _, _, _, _, _, _, _, _, _, _, _, rfl⟩
    obtain ⟨_, _, _, _, _, _, _, _, _, _, _, rfl⟩ := hds
    refine ⟨2, rfl, by decide, lt_big (by decide), fun v v0 v1 => ⟨rfl, rfl, fun _ => ?_, fun _ => ?_⟩⟩
    · refine ⟨szr0 (by rw [List.length_map]; omega), lcW_all (fun d => ∃ i : Int, d = .int i ∧ -(10 ^ 40) < i ∧ i < 10 ^ 40) _ _ _ (fun y hy N hN => ?_) (fun z hz => nomatch hz) fun r hr hp => ?_⟩
      · obtain ⟨u, hu, rfl⟩ := List.mem_map.mp hy
        have hu2 := hb u hu
        exact ⟨2, rfl, by decide, by decide, fun q q0 q1 => hN _ ⟨_, rfl, by omega, by omega⟩⟩
      obtain ⟨uu, rfl, hub⟩ := ints_of r hp
      have hul : uu.length = ss.length := by simpa using hr
      have fu : Fine ts uu := ⟨by omega, fun t ht => by rw [hul]; exact (hts t ht).1.fair, fun x hx => by have := hub x hx; omega⟩
      have ul : uu.length < 1000 := by omega
      refine ⟨szr, 2, rfl, by decide, lt_big (by decide), fun wy wy0 wy1 => ?_⟩
      refine atI_ex (P := fun d => ∃ i : Int, d = .int i ∧ (i = 1 ∨ i = -1)) wy0 wy1 (fun z hz => ?_) ?_
      · simp only [List.mem_cons, List.not_mem_nil, or_false] at hz
        rcases hz with rfl | rfl <;> exact ⟨_, rfl, by decide⟩
      rintro _ ⟨w, rfl, hw⟩
      have wb : w.natAbs < 2 ^ 300 := by rcases hw with rfl | rfl <;> decide
      refine ⟨by omega, by omega, lcW_any (fun d => ∃ i : Int, d = .int i ∧ 0 ≤ i ∧ i < 8) _ _ _ (fun x hx N3 N4 h4 h3 => ?_) (fun z hz => nomatch hz) fun r hr hp => ?_⟩
      · obtain ⟨i, hi⟩ := List.getElem?_of_mem hx
        have hi2 := (List.getElem?_eq_some_iff.mp hi).1
        rw [rangeD_len] at hi2
        rw [rangeD_at hi2] at hi
        obtain rfl := Option.some.inj hi
        exact ⟨2, rfl, by decide, lt_big (by decide), fun v v0 v1 => ⟨rfl, rfl, fun _ => h4 _ ⟨_, rfl, by omega, by omega⟩, fun _ => h3⟩⟩
      obtain ⟨gs, rfl, hg⟩ := ints_of r hp
      have g1 : Grp gs := ⟨by
        rw [rangeD_len, List.length_map] at hr
        simp at hr
        omega, hg⟩
      refine ⟨⟨by omega, by omega, by omega, by omega, by omega⟩, _, rfl, by omega, lt_big (by omega), fun q q0 q1 => ⟨szr, szr, ?_⟩⟩
      obtain ⟨rg, er, g2⟩ := range_grp (n := (1 + n - 0).toNat) (by omega)
      rw [er]
      refine ⟨3, rfl, by decide, lt_big (by decide), fun t3 t30 t31 => ?_⟩
      refine atI_ex (P := fun d => ∃ gs : List Int, d = .list (gs.map .int) ∧ Grp gs) t30 t31 (fun z hz => ?_) ?_
      · simp only [List.mem_cons, List.not_mem_nil, or_false] at hz
        rcases hz with rfl | rfl | rfl
        · exact ⟨gs, rfl, g1⟩
        · exact ⟨rg, rfl, g2⟩
        · exact ⟨[q], rfl, Nat.le_of_ble_eq_true rfl, fun d hd => by rw [List.mem_singleton.mp hd]; omega⟩
      rintro _ ⟨g3, rfl, hg3⟩
      rcases g3 with _ | ⟨a, l⟩
      · refine ⟨(fun z => nomatch z), fun _ => ⟨szr, ?_⟩⟩
        have g4 : Grp [0] := ⟨by decide, fun d hd => by rw [List.mem_singleton.mp hd]; decide⟩
        have f2 : Fine ts (stepV uu [0] w) := fu.step (fun x hx => by have := hub x hx; omega) hw
        dsimp only [dgName, List.set_cons_succ, List.set_cons_zero]
        refine ⟨ts, uu, rfl, fu, szr, ?_⟩
        dsimp only [List.set_cons_succ, List.set_cons_zero]
        cases al : isNone (leftV ts uu) with
        | true =>
          refine ⟨rfl, fun _ => ⟨ts, uu, [0], w, rfl, fu, f2, ul, wb, al, szr, ?_⟩, (fun z => nomatch al.symm.trans z)⟩
          have et : toldV ts uu (stepV uu [0] w) = .tuple [.str "gain", gainV ts uu (stepV uu [0] w)] := by
            unfold toldV
            rw [al, if_pos rfl]
          have okt := told_ok fu f2
          refine ⟨_, ts, uu, [0], w, rfl, fu, f2, ul, wb, ?_⟩
          rw [et] at okt ⊢
          refine ⟨_, two_eq rfl rfl, okt, (fun z => nomatch z), fun _ => ?_⟩
          refine ⟨g4.ok.sh, g4.ok.sh, ?_⟩
          rw [show PyData.eqv (.list [.int 0]) (.list [.int 0]) = true from eqv_rfl g4.ok]
          refine ⟨(fun z => nomatch z), fun _ => ?_⟩
          refine ⟨_, _, rfl, _, _, rfl, okT.sh, okT.sh, ?_⟩
          rw [eqv_rfl okT]
          refine ⟨(fun z => nomatch z), fun _ => ?_⟩
          exact hN2 _ ⟨_, _, _, _, _, _, _, _, _, _, _, rfl⟩
        | false =>
          refine ⟨rfl, (fun z => nomatch al.symm.trans z), fun _ => ?_⟩
          have et : toldV ts uu (stepV uu [0] w) = .tuple [.str "left", leftV ts uu] := by
            unfold toldV
            rw [al, if_neg Bool.false_ne_true]
          have okt := told_ok fu f2
          refine ⟨_, ts, uu, [0], w, rfl, fu, f2, ul, wb, ?_⟩
          rw [et] at okt ⊢
          refine ⟨_, two_eq rfl rfl, okt, (fun z => nomatch z), fun _ => ?_⟩
          refine ⟨g4.ok.sh, g4.ok.sh, ?_⟩
          rw [show PyData.eqv (.list [.int 0]) (.list [.int 0]) = true from eqv_rfl g4.ok]
          refine ⟨(fun z => nomatch z), fun _ => ?_⟩
          refine ⟨_, _, rfl, _, _, rfl, okT.sh, okT.sh, ?_⟩
          rw [eqv_rfl okT]
          refine ⟨(fun z => nomatch z), fun _ => ?_⟩
          exact hN2 _ ⟨_, _, _, _, _, _, _, _, _, _, _, rfl⟩
      · refine ⟨fun _ => ?_, (fun z => nomatch z)⟩
        have g4 := hg3
        have f2 : Fine ts (stepV uu (a :: l) w) := fu.step (fun x hx => by have := hub x hx; omega) hw
        dsimp only [dgName, List.set_cons_succ, List.set_cons_zero]
        refine ⟨ts, uu, rfl, fu, szr, ?_⟩
        dsimp only [List.set_cons_succ, List.set_cons_zero]
        cases al : isNone (leftV ts uu) with
        | true =>
          refine ⟨rfl, fun _ => ⟨ts, uu, (a :: l), w, rfl, fu, f2, ul, wb, al, szr, ?_⟩, (fun z => nomatch al.symm.trans z)⟩
          have et : toldV ts uu (stepV uu (a :: l) w) = .tuple [.str "gain", gainV ts uu (stepV uu (a :: l) w)] := by
            unfold toldV
            rw [al, if_pos rfl]
          have okt := told_ok fu f2
          refine ⟨_, ts, uu, (a :: l), w, rfl, fu, f2, ul, wb, ?_⟩
          rw [et] at okt ⊢
          refine ⟨_, two_eq rfl rfl, okt, (fun z => nomatch z), fun _ => ?_⟩
          refine ⟨g4.ok.sh, g4.ok.sh, ?_⟩
          rw [eqv_rfl g4.ok]
          refine ⟨(fun z => nomatch z), fun _ => ?_⟩
          refine ⟨_, _, rfl, _, _, rfl, okT.sh, okT.sh, ?_⟩
          rw [eqv_rfl okT]
          refine ⟨(fun z => nomatch z), fun _ => ?_⟩
          exact hN2 _ ⟨_, _, _, _, _, _, _, _, _, _, _, rfl⟩
        | false =>
          refine ⟨rfl, (fun z => nomatch al.symm.trans z), fun _ => ?_⟩
          have et : toldV ts uu (stepV uu (a :: l) w) = .tuple [.str "left", leftV ts uu] := by
            unfold toldV
            rw [al, if_neg Bool.false_ne_true]
          have okt := told_ok fu f2
          refine ⟨_, ts, uu, (a :: l), w, rfl, fu, f2, ul, wb, ?_⟩
          rw [et] at okt ⊢
          refine ⟨_, two_eq rfl rfl, okt, (fun z => nomatch z), fun _ => ?_⟩
          refine ⟨g4.ok.sh, g4.ok.sh, ?_⟩
          rw [eqv_rfl g4.ok]
          refine ⟨(fun z => nomatch z), fun _ => ?_⟩
          refine ⟨_, _, rfl, _, _, rfl, okT.sh, okT.sh, ?_⟩
          rw [eqv_rfl okT]
          refine ⟨(fun z => nomatch z), fun _ => ?_⟩
          exact hN2 _ ⟨_, _, _, _, _, _, _, _, _, _, _, rfl⟩
    · have hul : ss.length = ss.length := rfl
      have hub := bs
      have fu : Fine ts ss := ⟨by omega, fun t ht => by rw [hul]; exact (hts t ht).1.fair, fun x hx => by have := hub x hx; omega⟩
      have ul : ss.length < 1000 := by omega
      refine ⟨szr, 2, rfl, by decide, lt_big (by decide), fun wy wy0 wy1 => ?_⟩
      refine atI_ex (P := fun d => ∃ i : Int, d = .int i ∧ (i = 1 ∨ i = -1)) wy0 wy1 (fun z hz => ?_) ?_
      · simp only [List.mem_cons, List.not_mem_nil, or_false] at hz
        rcases hz with rfl | rfl <;> exact ⟨_, rfl, by decide⟩
      rintro _ ⟨w, rfl, hw⟩
      have wb : w.natAbs < 2 ^ 300 := by rcases hw with rfl | rfl <;> decide
      refine ⟨by omega, by omega, lcW_any (fun d => ∃ i : Int, d = .int i ∧ 0 ≤ i ∧ i < 8) _ _ _ (fun x hx N3 N4 h4 h3 => ?_) (fun z hz => nomatch hz) fun r hr hp => ?_⟩
      · obtain ⟨i, hi⟩ := List.getElem?_of_mem hx
        have hi2 := (List.getElem?_eq_some_iff.mp hi).1
        rw [rangeD_len] at hi2
        rw [rangeD_at hi2] at hi
        obtain rfl := Option.some.inj hi
        exact ⟨2, rfl, by decide, lt_big (by decide), fun v v0 v1 => ⟨rfl, rfl, fun _ => h4 _ ⟨_, rfl, by omega, by omega⟩, fun _ => h3⟩⟩
      obtain ⟨gs, rfl, hg⟩ := ints_of r hp
      have g1 : Grp gs := ⟨by
        rw [rangeD_len, List.length_map] at hr
        simp at hr
        omega, hg⟩
      refine ⟨⟨by omega, by omega, by omega, by omega, by omega⟩, _, rfl, by omega, lt_big (by omega), fun q q0 q1 => ⟨szr, szr, ?_⟩⟩
      obtain ⟨rg, er, g2⟩ := range_grp (n := (1 + n - 0).toNat) (by omega)
      rw [er]
      refine ⟨3, rfl, by decide, lt_big (by decide), fun t3 t30 t31 => ?_⟩
      refine atI_ex (P := fun d => ∃ gs : List Int, d = .list (gs.map .int) ∧ Grp gs) t30 t31 (fun z hz => ?_) ?_
      · simp only [List.mem_cons, List.not_mem_nil, or_false] at hz
        rcases hz with rfl | rfl | rfl
        · exact ⟨gs, rfl, g1⟩
        · exact ⟨rg, rfl, g2⟩
        · exact ⟨[q], rfl, Nat.le_of_ble_eq_true rfl, fun d hd => by rw [List.mem_singleton.mp hd]; omega⟩
      rintro _ ⟨g3, rfl, hg3⟩
      rcases g3 with _ | ⟨a, l⟩
      · refine ⟨(fun z => nomatch z), fun _ => ⟨szr, ?_⟩⟩
        have g4 : Grp [0] := ⟨by decide, fun d hd => by rw [List.mem_singleton.mp hd]; decide⟩
        have f2 : Fine ts (stepV ss [0] w) := fu.step (fun x hx => by have := hub x hx; omega) hw
        dsimp only [dgName, List.set_cons_succ, List.set_cons_zero]
        refine ⟨ts, ss, rfl, fu, szr, ?_⟩
        dsimp only [List.set_cons_succ, List.set_cons_zero]
        cases al : isNone (leftV ts ss) with
        | true =>
          refine ⟨rfl, fun _ => ⟨ts, ss, [0], w, rfl, fu, f2, ul, wb, al, szr, ?_⟩, (fun z => nomatch al.symm.trans z)⟩
          have et : toldV ts ss (stepV ss [0] w) = .tuple [.str "gain", gainV ts ss (stepV ss [0] w)] := by
            unfold toldV
            rw [al, if_pos rfl]
          have okt := told_ok fu f2
          refine ⟨_, ts, ss, [0], w, rfl, fu, f2, ul, wb, ?_⟩
          rw [et] at okt ⊢
          refine ⟨_, two_eq rfl rfl, okt, (fun z => nomatch z), fun _ => ?_⟩
          refine ⟨g4.ok.sh, g4.ok.sh, ?_⟩
          rw [show PyData.eqv (.list [.int 0]) (.list [.int 0]) = true from eqv_rfl g4.ok]
          refine ⟨(fun z => nomatch z), fun _ => ?_⟩
          refine ⟨_, _, rfl, _, _, rfl, okT.sh, okT.sh, ?_⟩
          rw [eqv_rfl okT]
          refine ⟨(fun z => nomatch z), fun _ => ?_⟩
          exact hN2 _ ⟨_, _, _, _, _, _, _, _, _, _, _, rfl⟩
        | false =>
          refine ⟨rfl, (fun z => nomatch al.symm.trans z), fun _ => ?_⟩
          have et : toldV ts ss (stepV ss [0] w) = .tuple [.str "left", leftV ts ss] := by
            unfold toldV
            rw [al, if_neg Bool.false_ne_true]
          have okt := told_ok fu f2
          refine ⟨_, ts, ss, [0], w, rfl, fu, f2, ul, wb, ?_⟩
          rw [et] at okt ⊢
          refine ⟨_, two_eq rfl rfl, okt, (fun z => nomatch z), fun _ => ?_⟩
          refine ⟨g4.ok.sh, g4.ok.sh, ?_⟩
          rw [show PyData.eqv (.list [.int 0]) (.list [.int 0]) = true from eqv_rfl g4.ok]
          refine ⟨(fun z => nomatch z), fun _ => ?_⟩
          refine ⟨_, _, rfl, _, _, rfl, okT.sh, okT.sh, ?_⟩
          rw [eqv_rfl okT]
          refine ⟨(fun z => nomatch z), fun _ => ?_⟩
          exact hN2 _ ⟨_, _, _, _, _, _, _, _, _, _, _, rfl⟩
      · refine ⟨fun _ => ?_, (fun z => nomatch z)⟩
        have g4 := hg3
        have f2 : Fine ts (stepV ss (a :: l) w) := fu.step (fun x hx => by have := hub x hx; omega) hw
        dsimp only [dgName, List.set_cons_succ, List.set_cons_zero]
        refine ⟨ts, ss, rfl, fu, szr, ?_⟩
        dsimp only [List.set_cons_succ, List.set_cons_zero]
        cases al : isNone (leftV ts ss) with
        | true =>
          refine ⟨rfl, fun _ => ⟨ts, ss, (a :: l), w, rfl, fu, f2, ul, wb, al, szr, ?_⟩, (fun z => nomatch al.symm.trans z)⟩
          have et : toldV ts ss (stepV ss (a :: l) w) = .tuple [.str "gain", gainV ts ss (stepV ss (a :: l) w)] := by
            unfold toldV
            rw [al, if_pos rfl]
          have okt := told_ok fu f2
          refine ⟨_, ts, ss, (a :: l), w, rfl, fu, f2, ul, wb, ?_⟩
          rw [et] at okt ⊢
          refine ⟨_, two_eq rfl rfl, okt, (fun z => nomatch z), fun _ => ?_⟩
          refine ⟨g4.ok.sh, g4.ok.sh, ?_⟩
          rw [eqv_rfl g4.ok]
          refine ⟨(fun z => nomatch z), fun _ => ?_⟩
          refine ⟨_, _, rfl, _, _, rfl, okT.sh, okT.sh, ?_⟩
          rw [eqv_rfl okT]
          refine ⟨(fun z => nomatch z), fun _ => ?_⟩
          exact hN2 _ ⟨_, _, _, _, _, _, _, _, _, _, _, rfl⟩
        | false =>
          refine ⟨rfl, (fun z => nomatch al.symm.trans z), fun _ => ?_⟩
          have et : toldV ts ss (stepV ss (a :: l) w) = .tuple [.str "left", leftV ts ss] := by
            unfold toldV
            rw [al, if_neg Bool.false_ne_true]
          have okt := told_ok fu f2
          refine ⟨_, ts, ss, (a :: l), w, rfl, fu, f2, ul, wb, ?_⟩
          rw [et] at okt ⊢
          refine ⟨_, two_eq rfl rfl, okt, (fun z => nomatch z), fun _ => ?_⟩
          refine ⟨g4.ok.sh, g4.ok.sh, ?_⟩
          rw [eqv_rfl g4.ok]
          refine ⟨(fun z => nomatch z), fun _ => ?_⟩
          refine ⟨_, _, rfl, _, _, rfl, okT.sh, okT.sh, ?_⟩
          rw [eqv_rfl okT]
          refine ⟨(fun z => nomatch z), fun _ => ?_⟩
          exact hN2 _ ⟨_, _, _, _, _, _, _, _, _, _, _, rfl⟩
  refine ⟨_, pss_cons (ps_set (i := 1) S.nd rfl (by first | exact Or.inl rfl | exact Or.inr rfl) (pe_callG (ok_19 T) hG (hr.mono (by decide)) T.d19.bd (by rfl) T.d19.mg T.d19.fn.kp (pa_cons (pv 0) pa_nil))) (hb default).ps, ?_⟩
  refine ⟨_, rfl, a, ns, rfl, hS, hlen, fun B q ms H' e1 nq e2 nn => ?_⟩
  have gg : Good (fun a => a = B) ⟨B, fun a => a = B, H', fun a => a = B, H'⟩ H' := Good0.start ⟨rfl, fun b (z : b = B) => ⟨_, (congrArg H' z).trans e1⟩, 0, 1234567891, 0, q, ms, e1, nq, e2, by decide, by decide, by decide, by decide, nn⟩
  have nm : ∀ (i : Nat) l, (none :: some DV.bag :: List.replicate 15 none)[i]? ≠ some (some (DV.grow l)) := fun i l e => by
    rcases i with _ | _ | i
    · cases e
    · cases e
    · rw [List.getElem?_cons_succ, List.getElem?_cons_succ, List.getElem?_replicate] at e
      split at e <;> cases e
  refine (hb ⟨B, fun a => a = B, H', fun a => a = B, H'⟩).ss (fun a => a = B) _ H' _ _ _ ⟨gg⟩ ⟨.cons (.non _) (.cons (.som .bag) (EnvAt.nones 15)), fun i l a e => absurd e (nm i l), fun i j l l' a e => absurd e (nm i l)⟩ ht
    ⟨fun _ _ _ _ _ _ _ q => q.elim, fun v H2 d _ _ hd e => ?_, fun _ _ _ _ _ _ _ q => q.elim, fun _ _ _ _ _ _ _ q => q.elim⟩
  subst e
  cases hd
  exact k _
end
theorem all_mk {l : PySem.W.OpenLaw} {w : World} {K : PySem.W.Frag} {h : Heap} {mg : Str → Option Value} {fa : Addr} (X : K.In h) (G : h.Ns mainGlobals mg) (hfa : mg "law" = some (.ref fa))
    {C L : Addr}
    {esL : Array DictEntry} {nL : Nat} {tw tt ts tb : Tok}
    {a0 : Addr} {od0 an0 : Option Addr} {sl0 : Array (Option Value)} {oc0 kV0 dc0 pm0 cd0 ct0 : Value}
    {a1 : Addr} {od1 an1 : Option Addr} {sl1 : Array (Option Value)} {oc1 kV1 dc1 pm1 cd1 ct1 : Value}
    {a2 : Addr} {od2 an2 : Option Addr} {sl2 : Array (Option Value)} {oc2 kV2 dc2 pm2 cd2 ct2 : Value}
    {a3 : Addr} {od3 an3 : Option Addr} {sl3 : Array (Option Value)} {oc3 kV3 dc3 pm3 cd3 ct3 : Value}
    {a4 : Addr} {od4 an4 : Option Addr} {sl4 : Array (Option Value)} {oc4 kV4 dc4 pm4 cd4 ct4 : Value}
    {a5 : Addr} {od5 an5 : Option Addr} {sl5 : Array (Option Value)} {oc5 kV5 dc5 pm5 cd5 ct5 : Value}
    {a6 : Addr} {od6 an6 : Option Addr} {sl6 : Array (Option Value)} {oc6 kV6 dc6 pm6 cd6 ct6 : Value}
    {a7 : Addr} {od7 an7 : Option Addr} {sl7 : Array (Option Value)} {oc7 kV7 dc7 pm7 cd7 ct7 : Value}
    {a8 : Addr} {od8 an8 : Option Addr} {sl8 : Array (Option Value)} {oc8 kV8 dc8 pm8 cd8 ct8 : Value}
    {a9 : Addr} {od9 an9 : Option Addr} {sl9 : Array (Option Value)} {oc9 kV9 dc9 pm9 cd9 ct9 : Value}
    {a10 : Addr} {od10 an10 : Option Addr} {sl10 : Array (Option Value)} {oc10 kV10 dc10 pm10 cd10 ct10 : Value}
    {a11 : Addr} {od11 an11 : Option Addr} {sl11 : Array (Option Value)} {oc11 kV11 dc11 pm11 cd11 ct11 : Value}
    {a12 : Addr} {od12 an12 : Option Addr} {sl12 : Array (Option Value)} {oc12 kV12 dc12 pm12 cd12 ct12 : Value}
    {a13 : Addr} {od13 an13 : Option Addr} {sl13 : Array (Option Value)} {oc13 kV13 dc13 pm13 cd13 ct13 : Value}
    {a14 : Addr} {od14 an14 : Option Addr} {sl14 : Array (Option Value)} {oc14 kV14 dc14 pm14 cd14 ct14 : Value}
    {a15 : Addr} {od15 an15 : Option Addr} {sl15 : Array (Option Value)} {oc15 kV15 dc15 pm15 cd15 ct15 : Value}
    {a16 : Addr} {od16 an16 : Option Addr} {sl16 : Array (Option Value)} {oc16 kV16 dc16 pm16 cd16 ct16 : Value}
    {a17 : Addr} {od17 an17 : Option Addr} {sl17 : Array (Option Value)} {oc17 kV17 dc17 pm17 cd17 ct17 : Value}
    {a18 : Addr} {od18 an18 : Option Addr} {sl18 : Array (Option Value)} {oc18 kV18 dc18 pm18 cd18 ct18 : Value}
    {a19 : Addr} {od19 an19 : Option Addr} {sl19 : Array (Option Value)} {oc19 kV19 dc19 pm19 cd19 ct19 : Value}
    {a20 : Addr} {od20 an20 : Option Addr} {sl20 : Array (Option Value)} {oc20 kV20 dc20 pm20 cd20 ct20 : Value}
    {a21 : Addr} {od21 an21 : Option Addr} {sl21 : Array (Option Value)} {oc21 kV21 dc21 pm21 cd21 ct21 : Value}
    {a22 : Addr} {od22 an22 : Option Addr} {sl22 : Array (Option Value)} {oc22 kV22 dc22 pm22 cd22 ct22 : Value}
    {a23 : Addr} {od23 an23 : Option Addr} {sl23 : Array (Option Value)} {oc23 kV23 dc23 pm23 cd23 ct23 : Value}
    {a24 : Addr} {od24 an24 : Option Addr} {sl24 : Array (Option Value)} {oc24 kV24 dc24 pm24 cd24 ct24 : Value}
    {a25 : Addr} {od25 an25 : Option Addr} {sl25 : Array (Option Value)} {oc25 kV25 dc25 pm25 cd25 ct25 : Value}
    {a26 : Addr} {od26 an26 : Option Addr} {sl26 : Array (Option Value)} {oc26 kV26 dc26 pm26 cd26 ct26 : Value}
    {a27 : Addr} {od27 an27 : Option Addr} {sl27 : Array (Option Value)} {oc27 kV27 dc27 pm27 cd27 ct27 : Value}
    {a28 : Addr} {od28 an28 : Option Addr} {sl28 : Array (Option Value)} {oc28 kV28 dc28 pm28 cd28 ct28 : Value}
    {a29 : Addr} {od29 an29 : Option Addr} {sl29 : Array (Option Value)} {oc29 kV29 dc29 pm29 cd29 ct29 : Value}
    {a30 : Addr} {od30 an30 : Option Addr} {sl30 : Array (Option Value)} {oc30 kV30 dc30 pm30 cd30 ct30 : Value}
    {a31 : Addr} {od31 an31 : Option Addr} {sl31 : Array (Option Value)} {oc31 kV31 dc31 pm31 cd31 ct31 : Value}
    {a32 : Addr} {od32 an32 : Option Addr} {sl32 : Array (Option Value)} {oc32 kV32 dc32 pm32 cd32 ct32 : Value}
    {a33 : Addr} {od33 an33 : Option Addr} {sl33 : Array (Option Value)} {oc33 kV33 dc33 pm33 cd33 ct33 : Value}
    {a34 : Addr} {od34 an34 : Option Addr} {sl34 : Array (Option Value)} {oc34 kV34 dc34 pm34 cd34 ct34 : Value}
    {a35 : Addr} {od35 an35 : Option Addr} {sl35 : Array (Option Value)} {oc35 kV35 dc35 pm35 cd35 ct35 : Value}
    {a36 : Addr} {od36 an36 : Option Addr} {sl36 : Array (Option Value)} {oc36 kV36 dc36 pm36 cd36 ct36 : Value}
    {a37 : Addr} {od37 an37 : Option Addr} {sl37 : Array (Option Value)} {oc37 kV37 dc37 pm37 cd37 ct37 : Value}
    {pr37 : Addr} {re37 : List Value}
    {a38 : Addr} {od38 an38 : Option Addr} {sl38 : Array (Option Value)} {oc38 kV38 dc38 pm38 cd38 ct38 : Value}
    {a39 : Addr} {od39 an39 : Option Addr} {sl39 : Array (Option Value)} {oc39 kV39 dc39 pm39 cd39 ct39 : Value}
    {a40 : Addr} {od40 an40 : Option Addr} {sl40 : Array (Option Value)} {oc40 kV40 dc40 pm40 cd40 ct40 : Value}
    {a41 : Addr} {od41 an41 : Option Addr} {sl41 : Array (Option Value)} {oc41 kV41 dc41 pm41 cd41 ct41 : Value}
    {x0 : Addr}
    {x1 : Addr}
    {x2 : Addr}
    {x3 : Addr}
    {y2 : Addr} {od_e2 an_e2 : Option Addr} {sl_e2 : Array (Option Value)} {oc_e2 kV_e2 dc_e2 pm_e2 cd_e2 ct_e2 : Value} {nm_e2 qn_e2 : Str} {N_e2 : Addr} {bs_e2 bm_e2 : List Value} {sn_e2 : List Str} {sub_e2 : List Value} {ab_e2 : Bool} {col_e2 : Option Bool} {dd_e2 : Option Addr} {k0_e2 k1_e2 k2_e2 k3_e2 k5_e2 : Option Value}
    (aC : PySem.W.nsIn K mainGlobals "Board" = some (some (.ref C))) (pg : PySem.W.plainGet K C Str.empty = true) (hd : PySem.W.hasDictIn K C = true) (po : PySem.W.plainOver K C = true) (sa : PySem.W.findIn K (.ref C) "__setattr__" = some (some (.builtin "object.__setattr__"))) (mk : PySem.W.makesIn K C = true) (kc : PySem.W.keepIn K (.ref C) = true) (nS : PySem.W.findIn K (.ref C) "_size" = some none) (nT : PySem.W.findIn K (.ref C) "_terms" = some none)
    (iA : PySem.W.findIn K (.ref C) "__class__" = some (some (.builtin "object.__class__"))) (iN : PySem.W.specialIn K (.builtin "object.__class__") "__get__" = some (some (.builtin "getset_descriptor.__get__"))) (iT : PySem.W.takesIn K (.builtin "object.__class__") = some true) (iM : PySem.W.mroIn K C (.type "object") = some true) (iK : PySem.W.kitOne K (.ref C) (.ref C) = some true)
    (aL : PySem.W.nsIn K mainGlobals "TERMS" = some (some (.ref L))) (lL : K.lookup L = some ⟨.type "dict", none, .dict esL nL, #[]⟩) (kL : PySem.W.KeysLit w.params esL.toList) (loL : (L == sysModules) = false) (w1 : PySem.W.nsIn K L "wish" = some (some (.int 5 tw))) (w2 : PySem.W.nsIn K L "tie" = some (some (.int 6 tt))) (w3 : PySem.W.nsIn K L "stop" = some (some (.int 4 ts))) (w4 : PySem.W.nsIn K L "bar" = some (some (.int 5 tb)))
    (n0 : PySem.W.nsIn K mainGlobals "check_allowed" = some (some (.ref a0))) (l0 : K.lookup a0 = some ⟨oc0, od0, .func (PySem.W.fnOf "check_allowed" "check_allowed" (defArgs s0) (defBody s0) (defScope s0) .none kV0 dc0 pm0 an0 cd0 ct0), sl0⟩) (c0 : PySem.W.codeIn K cd0 "check_allowed" = true) (k0 : PySem.W.keepIn K (.ref a0) = true)
    (n1 : PySem.W.nsIn K mainGlobals "stepped" = some (some (.ref a1))) (l1 : K.lookup a1 = some ⟨oc1, od1, .func (PySem.W.fnOf "stepped" "stepped" (defArgs s1) (defBody s1) (defScope s1) .none kV1 dc1 pm1 an1 cd1 ct1), sl1⟩) (c1 : PySem.W.codeIn K cd1 "stepped" = true) (k1 : PySem.W.keepIn K (.ref a1) = true)
    (n2 : PySem.W.nsIn K mainGlobals "gain" = some (some (.ref a2))) (l2 : K.lookup a2 = some ⟨oc2, od2, .func (PySem.W.fnOf "gain" "gain" (defArgs s2) (defBody s2) (defScope s2) .none kV2 dc2 pm2 an2 cd2 ct2), sl2⟩) (c2 : PySem.W.codeIn K cd2 "gain" = true) (k2 : PySem.W.keepIn K (.ref a2) = true)
    (n3 : PySem.W.nsIn K mainGlobals "has_other" = some (some (.ref a3))) (l3 : K.lookup a3 = some ⟨oc3, od3, .func (PySem.W.fnOf "has_other" "has_other" (defArgs s3) (defBody s3) (defScope s3) .none kV3 dc3 pm3 an3 cd3 ct3), sl3⟩) (c3 : PySem.W.codeIn K cd3 "has_other" = true) (k3 : PySem.W.keepIn K (.ref a3) = true)
    (n4 : PySem.W.nsIn K mainGlobals "has_force" = some (some (.ref a4))) (l4 : K.lookup a4 = some ⟨oc4, od4, .func (PySem.W.fnOf "has_force" "has_force" (defArgs s4) (defBody s4) (defScope s4) .none kV4 dc4 pm4 an4 cd4 ct4), sl4⟩) (c4 : PySem.W.codeIn K cd4 "has_force" = true) (k4 : PySem.W.keepIn K (.ref a4) = true)
    (n5 : PySem.W.nsIn K mainGlobals "dials_of" = some (some (.ref a5))) (l5 : K.lookup a5 = some ⟨oc5, od5, .func (PySem.W.fnOf "dials_of" "dials_of" (defArgs s5) (defBody s5) (defScope s5) .none kV5 dc5 pm5 an5 cd5 ct5), sl5⟩) (c5 : PySem.W.codeIn K cd5 "dials_of" = true) (k5 : PySem.W.keepIn K (.ref a5) = true)
    (n6 : PySem.W.nsIn K mainGlobals "ends_of" = some (some (.ref a6))) (l6 : K.lookup a6 = some ⟨oc6, od6, .func (PySem.W.fnOf "ends_of" "ends_of" (defArgs s6) (defBody s6) (defScope s6) .none kV6 dc6 pm6 an6 cd6 ct6), sl6⟩) (c6 : PySem.W.codeIn K cd6 "ends_of" = true) (k6 : PySem.W.keepIn K (.ref a6) = true)
    (n7 : PySem.W.nsIn K mainGlobals "argument" = some (some (.ref a7))) (l7 : K.lookup a7 = some ⟨oc7, od7, .func (PySem.W.fnOf "argument" "argument" (defArgs s7) (defBody s7) (defScope s7) .none kV7 dc7 pm7 an7 cd7 ct7), sl7⟩) (c7 : PySem.W.codeIn K cd7 "argument" = true) (k7 : PySem.W.keepIn K (.ref a7) = true)
    (n8 : PySem.W.nsIn K mainGlobals "distance" = some (some (.ref a8))) (l8 : K.lookup a8 = some ⟨oc8, od8, .func (PySem.W.fnOf "distance" "distance" (defArgs s8) (defBody s8) (defScope s8) .none kV8 dc8 pm8 an8 cd8 ct8), sl8⟩) (c8 : PySem.W.codeIn K cd8 "distance" = true) (k8 : PySem.W.keepIn K (.ref a8) = true)
    (n9 : PySem.W.nsIn K mainGlobals "_low_at" = some (some (.ref a9))) (l9 : K.lookup a9 = some ⟨oc9, od9, .func (PySem.W.fnOf "_low_at" "_low_at" (defArgs s9) (defBody s9) (defScope s9) .none kV9 dc9 pm9 an9 cd9 ct9), sl9⟩) (c9 : PySem.W.codeIn K cd9 "_low_at" = true) (k9 : PySem.W.keepIn K (.ref a9) = true)
    (n10 : PySem.W.nsIn K mainGlobals "is_integer" = some (some (.ref a10))) (l10 : K.lookup a10 = some ⟨oc10, od10, .func (PySem.W.fnOf "is_integer" "is_integer" (defArgs s10) (defBody s10) (defScope s10) .none kV10 dc10 pm10 an10 cd10 ct10), sl10⟩) (c10 : PySem.W.codeIn K cd10 "is_integer" = true) (k10 : PySem.W.keepIn K (.ref a10) = true)
    (n11 : PySem.W.nsIn K mainGlobals "is_value" = some (some (.ref a11))) (l11 : K.lookup a11 = some ⟨oc11, od11, .func (PySem.W.fnOf "is_value" "is_value" (defArgs s11) (defBody s11) (defScope s11) .none kV11 dc11 pm11 an11 cd11 ct11), sl11⟩) (c11 : PySem.W.codeIn K cd11 "is_value" = true) (k11 : PySem.W.keepIn K (.ref a11) = true)
    (n12 : PySem.W.nsIn K mainGlobals "is_force" = some (some (.ref a12))) (l12 : K.lookup a12 = some ⟨oc12, od12, .func (PySem.W.fnOf "is_force" "is_force" (defArgs s12) (defBody s12) (defScope s12) .none kV12 dc12 pm12 an12 cd12 ct12), sl12⟩) (c12 : PySem.W.codeIn K cd12 "is_force" = true) (k12 : PySem.W.keepIn K (.ref a12) = true)
    (n13 : PySem.W.nsIn K mainGlobals "is_dial" = some (some (.ref a13))) (l13 : K.lookup a13 = some ⟨oc13, od13, .func (PySem.W.fnOf "is_dial" "is_dial" (defArgs s13) (defBody s13) (defScope s13) .none kV13 dc13 pm13 an13 cd13 ct13), sl13⟩) (c13 : PySem.W.codeIn K cd13 "is_dial" = true) (k13 : PySem.W.keepIn K (.ref a13) = true)
    (n14 : PySem.W.nsIn K mainGlobals "is_term" = some (some (.ref a14))) (l14 : K.lookup a14 = some ⟨oc14, od14, .func (PySem.W.fnOf "is_term" "is_term" (defArgs s14) (defBody s14) (defScope s14) .none kV14 dc14 pm14 an14 cd14 ct14), sl14⟩) (c14 : PySem.W.codeIn K cd14 "is_term" = true) (k14 : PySem.W.keepIn K (.ref a14) = true)
    (n15 : PySem.W.nsIn K mainGlobals "_word" = some (some (.ref a15))) (l15 : K.lookup a15 = some ⟨oc15, od15, .func (PySem.W.fnOf "_word" "_word" (defArgs s15) (defBody s15) (defScope s15) .none kV15 dc15 pm15 an15 cd15 ct15), sl15⟩) (c15 : PySem.W.codeIn K cd15 "_word" = true) (k15 : PySem.W.keepIn K (.ref a15) = true)
    (n16 : PySem.W.nsIn K mainGlobals "_are_dials" = some (some (.ref a16))) (l16 : K.lookup a16 = some ⟨oc16, od16, .func (PySem.W.fnOf "_are_dials" "_are_dials" (defArgs s16) (defBody s16) (defScope s16) .none kV16 dc16 pm16 an16 cd16 ct16), sl16⟩) (c16 : PySem.W.codeIn K cd16 "_are_dials" = true) (k16 : PySem.W.keepIn K (.ref a16) = true)
    (n17 : PySem.W.nsIn K mainGlobals "_are_ends" = some (some (.ref a17))) (l17 : K.lookup a17 = some ⟨oc17, od17, .func (PySem.W.fnOf "_are_ends" "_are_ends" (defArgs s17) (defBody s17) (defScope s17) .none kV17 dc17 pm17 an17 cd17 ct17), sl17⟩) (c17 : PySem.W.codeIn K cd17 "_are_ends" = true) (k17 : PySem.W.keepIn K (.ref a17) = true)
    (n18 : PySem.W.nsIn K mainGlobals "_are_terms" = some (some (.ref a18))) (l18 : K.lookup a18 = some ⟨oc18, od18, .func (PySem.W.fnOf "_are_terms" "_are_terms" (defArgs s18) (defBody s18) (defScope s18) .none kV18 dc18 pm18 an18 cd18 ct18), sl18⟩) (c18 : PySem.W.codeIn K cd18 "_are_terms" = true) (k18 : PySem.W.keepIn K (.ref a18) = true)
    (n19 : PySem.W.nsIn K mainGlobals "_law_bag" = some (some (.ref a19))) (l19 : K.lookup a19 = some ⟨oc19, od19, .func (PySem.W.fnOf "_law_bag" "_law_bag" (defArgs s19) (defBody s19) (defScope s19) .none kV19 dc19 pm19 an19 cd19 ct19), sl19⟩) (c19 : PySem.W.codeIn K cd19 "_law_bag" = true) (k19 : PySem.W.keepIn K (.ref a19) = true)
    (n20 : PySem.W.nsIn K mainGlobals "_law_take" = some (some (.ref a20))) (l20 : K.lookup a20 = some ⟨oc20, od20, .func (PySem.W.fnOf "_law_take" "_law_take" (defArgs s20) (defBody s20) (defScope s20) .none kV20 dc20 pm20 an20 cd20 ct20), sl20⟩) (c20 : PySem.W.codeIn K cd20 "_law_take" = true) (k20 : PySem.W.keepIn K (.ref a20) = true)
    (n21 : PySem.W.nsIn K mainGlobals "_law_alike" = some (some (.ref a21))) (l21 : K.lookup a21 = some ⟨oc21, od21, .func (PySem.W.fnOf "_law_alike" "_law_alike" (defArgs s21) (defBody s21) (defScope s21) .none kV21 dc21 pm21 an21 cd21 ct21), sl21⟩) (c21 : PySem.W.codeIn K cd21 "_law_alike" = true) (k21 : PySem.W.keepIn K (.ref a21) = true)
    (n22 : PySem.W.nsIn K mainGlobals "_law_parts" = some (some (.ref a22))) (l22 : K.lookup a22 = some ⟨oc22, od22, .func (PySem.W.fnOf "_law_parts" "_law_parts" (defArgs s22) (defBody s22) (defScope s22) .none kV22 dc22 pm22 an22 cd22 ct22), sl22⟩) (c22 : PySem.W.codeIn K cd22 "_law_parts" = true) (k22 : PySem.W.keepIn K (.ref a22) = true)
    (n23 : PySem.W.nsIn K mainGlobals "_law_argument" = some (some (.ref a23))) (l23 : K.lookup a23 = some ⟨oc23, od23, .func (PySem.W.fnOf "_law_argument" "_law_argument" (defArgs s23) (defBody s23) (defScope s23) .none kV23 dc23 pm23 an23 cd23 ct23), sl23⟩) (c23 : PySem.W.codeIn K cd23 "_law_argument" = true) (k23 : PySem.W.keepIn K (.ref a23) = true)
    (n24 : PySem.W.nsIn K mainGlobals "_law_far" = some (some (.ref a24))) (l24 : K.lookup a24 = some ⟨oc24, od24, .func (PySem.W.fnOf "_law_far" "_law_far" (defArgs s24) (defBody s24) (defScope s24) .none kV24 dc24 pm24 an24 cd24 ct24), sl24⟩) (c24 : PySem.W.codeIn K cd24 "_law_far" = true) (k24 : PySem.W.keepIn K (.ref a24) = true)
    (n25 : PySem.W.nsIn K mainGlobals "_law_strain" = some (some (.ref a25))) (l25 : K.lookup a25 = some ⟨oc25, od25, .func (PySem.W.fnOf "_law_strain" "_law_strain" (defArgs s25) (defBody s25) (defScope s25) .none kV25 dc25 pm25 an25 cd25 ct25), sl25⟩) (c25 : PySem.W.codeIn K cd25 "_law_strain" = true) (k25 : PySem.W.keepIn K (.ref a25) = true)
    (n26 : PySem.W.nsIn K mainGlobals "_law_stepped" = some (some (.ref a26))) (l26 : K.lookup a26 = some ⟨oc26, od26, .func (PySem.W.fnOf "_law_stepped" "_law_stepped" (defArgs s26) (defBody s26) (defScope s26) .none kV26 dc26 pm26 an26 cd26 ct26), sl26⟩) (c26 : PySem.W.codeIn K cd26 "_law_stepped" = true) (k26 : PySem.W.keepIn K (.ref a26) = true)
    (n27 : PySem.W.nsIn K mainGlobals "_law_gain" = some (some (.ref a27))) (l27 : K.lookup a27 = some ⟨oc27, od27, .func (PySem.W.fnOf "_law_gain" "_law_gain" (defArgs s27) (defBody s27) (defScope s27) .none kV27 dc27 pm27 an27 cd27 ct27), sl27⟩) (c27 : PySem.W.codeIn K cd27 "_law_gain" = true) (k27 : PySem.W.keepIn K (.ref a27) = true)
    (n28 : PySem.W.nsIn K mainGlobals "_law_number" = some (some (.ref a28))) (l28 : K.lookup a28 = some ⟨oc28, od28, .func (PySem.W.fnOf "_law_number" "_law_number" (defArgs s28) (defBody s28) (defScope s28) .none kV28 dc28 pm28 an28 cd28 ct28), sl28⟩) (c28 : PySem.W.codeIn K cd28 "_law_number" = true) (k28 : PySem.W.keepIn K (.ref a28) = true)
    (n29 : PySem.W.nsIn K mainGlobals "_law_standing" = some (some (.ref a29))) (l29 : K.lookup a29 = some ⟨oc29, od29, .func (PySem.W.fnOf "_law_standing" "_law_standing" (defArgs s29) (defBody s29) (defScope s29) .none kV29 dc29 pm29 an29 cd29 ct29), sl29⟩) (c29 : PySem.W.codeIn K cd29 "_law_standing" = true) (k29 : PySem.W.keepIn K (.ref a29) = true)
    (n30 : PySem.W.nsIn K mainGlobals "_law_range" = some (some (.ref a30))) (l30 : K.lookup a30 = some ⟨oc30, od30, .func (PySem.W.fnOf "_law_range" "_law_range" (defArgs s30) (defBody s30) (defScope s30) .none kV30 dc30 pm30 an30 cd30 ct30), sl30⟩) (c30 : PySem.W.codeIn K cd30 "_law_range" = true) (k30 : PySem.W.keepIn K (.ref a30) = true)
    (n31 : PySem.W.nsIn K mainGlobals "_law_term" = some (some (.ref a31))) (l31 : K.lookup a31 = some ⟨oc31, od31, .func (PySem.W.fnOf "_law_term" "_law_term" (defArgs s31) (defBody s31) (defScope s31) .none kV31 dc31 pm31 an31 cd31 ct31), sl31⟩) (c31 : PySem.W.codeIn K cd31 "_law_term" = true) (k31 : PySem.W.keepIn K (.ref a31) = true)
    (n32 : PySem.W.nsIn K mainGlobals "_law_terms" = some (some (.ref a32))) (l32 : K.lookup a32 = some ⟨oc32, od32, .func (PySem.W.fnOf "_law_terms" "_law_terms" (defArgs s32) (defBody s32) (defScope s32) .none kV32 dc32 pm32 an32 cd32 ct32), sl32⟩) (c32 : PySem.W.codeIn K cd32 "_law_terms" = true) (k32 : PySem.W.keepIn K (.ref a32) = true)
    (n33 : PySem.W.nsIn K mainGlobals "_law_left" = some (some (.ref a33))) (l33 : K.lookup a33 = some ⟨oc33, od33, .func (PySem.W.fnOf "_law_left" "_law_left" (defArgs s33) (defBody s33) (defScope s33) .none kV33 dc33 pm33 an33 cd33 ct33), sl33⟩) (c33 : PySem.W.codeIn K cd33 "_law_left" = true) (k33 : PySem.W.keepIn K (.ref a33) = true)
    (n34 : PySem.W.nsIn K mainGlobals "_law_told" = some (some (.ref a34))) (l34 : K.lookup a34 = some ⟨oc34, od34, .func (PySem.W.fnOf "_law_told" "_law_told" (defArgs s34) (defBody s34) (defScope s34) .none kV34 dc34 pm34 an34 cd34 ct34), sl34⟩) (c34 : PySem.W.codeIn K cd34 "_law_told" = true) (k34 : PySem.W.keepIn K (.ref a34) = true)
    (n35 : PySem.W.nsIn K mainGlobals "law" = some (some (.ref a35))) (l35 : K.lookup a35 = some ⟨oc35, od35, .func (PySem.W.fnOf "law" "law" (defArgs s35) (defBody s35) (defScope s35) .none kV35 dc35 pm35 an35 cd35 ct35), sl35⟩) (c35 : PySem.W.codeIn K cd35 "law" = true) (k35 : PySem.W.keepIn K (.ref a35) = true)
    (n36 : PySem.W.findIn K (.ref C) "__init__" = some (some (.ref a36))) (i36 : PySem.W.isFn K (.ref a36) = true) (l36 : K.lookup a36 = some ⟨oc36, od36, .func (PySem.W.fnOf "__init__" "Board.__init__" (defArgs s36) (defBody s36) (defScope s36) .none kV36 dc36 pm36 an36 cd36 ct36), sl36⟩) (c36 : PySem.W.codeIn K cd36 "Board.__init__" = true) (k36 : PySem.W.keepIn K (.ref a36) = true)
    (pa37 : PySem.W.findIn K (.ref C) "size" = some (some (.ref pr37))) (pt37 : PySem.W.specialIn K (.ref pr37) "__get__" = some (some (.builtin "property.__get__"))) (pk37 : PySem.W.takesIn K (.ref pr37) = some true) (pc37 : PySem.W.recIn K pr37 "property" = some (.ref a37 :: re37)) (l37 : K.lookup a37 = some ⟨oc37, od37, .func (PySem.W.fnOf "size" "Board.size" (defArgs s37) (defBody s37) (defScope s37) .none kV37 dc37 pm37 an37 cd37 ct37), sl37⟩) (c37 : PySem.W.codeIn K cd37 "Board.size" = true) (k37 : PySem.W.keepIn K (.ref a37) = true)
    (n38 : PySem.W.findIn K (.ref C) "__eq__" = some (some (.ref a38))) (i38 : PySem.W.isFn K (.ref a38) = true) (l38 : K.lookup a38 = some ⟨oc38, od38, .func (PySem.W.fnOf "__eq__" "Board.__eq__" (defArgs s38) (defBody s38) (defScope s38) .none kV38 dc38 pm38 an38 cd38 ct38), sl38⟩) (c38 : PySem.W.codeIn K cd38 "Board.__eq__" = true) (k38 : PySem.W.keepIn K (.ref a38) = true)
    (n39 : PySem.W.findIn K (.ref C) "terms" = some (some (.ref a39))) (i39 : PySem.W.isFn K (.ref a39) = true) (l39 : K.lookup a39 = some ⟨oc39, od39, .func (PySem.W.fnOf "terms" "Board.terms" (defArgs s39) (defBody s39) (defScope s39) .none kV39 dc39 pm39 an39 cd39 ct39), sl39⟩) (c39 : PySem.W.codeIn K cd39 "Board.terms" = true) (k39 : PySem.W.keepIn K (.ref a39) = true)
    (n40 : PySem.W.findIn K (.ref C) "left" = some (some (.ref a40))) (i40 : PySem.W.isFn K (.ref a40) = true) (l40 : K.lookup a40 = some ⟨oc40, od40, .func (PySem.W.fnOf "left" "Board.left" (defArgs s40) (defBody s40) (defScope s40) .none kV40 dc40 pm40 an40 cd40 ct40), sl40⟩) (c40 : PySem.W.codeIn K cd40 "Board.left" = true) (k40 : PySem.W.keepIn K (.ref a40) = true)
    (n41 : PySem.W.findIn K (.ref C) "strain" = some (some (.ref a41))) (i41 : PySem.W.isFn K (.ref a41) = true) (l41 : K.lookup a41 = some ⟨oc41, od41, .func (PySem.W.fnOf "strain" "Board.strain" (defArgs s41) (defBody s41) (defScope s41) .none kV41 dc41 pm41 an41 cd41 ct41), sl41⟩) (c41 : PySem.W.codeIn K cd41 "Board.strain" = true) (k41 : PySem.W.keepIn K (.ref a41) = true)
    (gE0 : PySem.W.nsIn K mainGlobals "PullError" = some (some (.ref x0)))
    (gE1 : PySem.W.nsIn K mainGlobals "Wrong" = some (some (.ref x1)))
    (gE2 : PySem.W.nsIn K mainGlobals "NotAllowed" = some (some (.ref x2)))
    (gE3 : PySem.W.nsIn K mainGlobals "NoneAllowed" = some (some (.ref x3)))
    (lE2 : K.lookup x2 = some (excClassObj nm_e2 qn_e2 x2 N_e2 bs_e2 bm_e2 true sn_e2 sub_e2 ab_e2 col_e2 dd_e2 k0_e2 k1_e2 k2_e2 k3_e2 k5_e2 "ValueError.__new__")) (rE2 : PySem.HandSPX.refsVE bm_e2 = true)
    (sE2 : PySem.W.findIn K (.ref x2) "__setattr__" = some (some (.builtin "object.__setattr__"))) (bE2 : PySem.W.subIn K (.ref x2) (.type "BaseException") = some true) (tE2 : PySem.W.typeIn K (.ref x2) = some (.type "type")) (kE2 : PySem.W.keepIn K (.ref x2) = true)
    (iE2 : PySem.W.findIn K (.ref x2) "__init__" = some (some (.ref y2))) (uE2 : PySem.W.typeIn K (.ref y2) = some (.type "function")) (nE2 : PySem.W.findIn K (.ref x2) "at" = some none)
    (fE2 : K.lookup y2 = some ⟨oc_e2, od_e2, .func (PySem.W.fnOf "__init__" "NotAllowed.__init__" (defArgs t2) (defBody t2) (defScope t2) .none kV_e2 dc_e2 pm_e2 an_e2 cd_e2 ct_e2), sl_e2⟩) (cE2 : PySem.W.codeIn K cd_e2 "NotAllowed.__init__" = true) (mE2 : PySem.W.keepIn K (.ref y2) = true)
    (pE2 : PySem.W.findIn K (.ref x2) "__getattribute__" = some (some (.builtin "BaseException.__getattribute__"))) (qE2 : PySem.W.findIn K (.ref x2) "__getattr__" = some none) (hE2 : PySem.W.subIn K (.ref x2) (.type "BaseException") = some true) (dE2 : PySem.W.hasDictIn K x2 = true) (aE2 : PySem.W.findIn K (.ref x2) "__class__" = some (some (.builtin "object.__class__"))) (oE2 : PySem.W.mroIn K x2 (.type "object") = some true)
    (sEn : PySem.W.specialIn K (.builtin "object.__class__") "__get__" = some (some (.builtin "getset_descriptor.__get__"))) (sEt : PySem.W.takesIn K (.builtin "object.__class__") = some true)
    (m2_0 : PySem.W.exmOne K (.ref x2) (.ref x0) = some true)
    (kx2_2 : PySem.W.kitOne K (.ref x2) (.ref x2) = some true)
    (kx2_3 : PySem.W.kitOne K (.ref x2) (.ref x3) = some false)
    (kx2_1 : PySem.W.kitOne K (.ref x2) (.ref x1) = some false)
    (kx2_ValueError : PySem.W.kitOne K (.ref x2) (.type "ValueError") = some true)
    (z_ValueError : PySem.W.nsIn K mainGlobals "ValueError" = some none)
    (z_abs : PySem.W.nsIn K mainGlobals "abs" = some none)
    (z_all : PySem.W.nsIn K mainGlobals "all" = some none)
    (z_bool : PySem.W.nsIn K mainGlobals "bool" = some none)
    (z_enumerate : PySem.W.nsIn K mainGlobals "enumerate" = some none)
    (z_int : PySem.W.nsIn K mainGlobals "int" = some none)
    (z_isinstance : PySem.W.nsIn K mainGlobals "isinstance" = some none)
    (z_len : PySem.W.nsIn K mainGlobals "len" = some none)
    (z_list : PySem.W.nsIn K mainGlobals "list" = some none)
    (z_max : PySem.W.nsIn K mainGlobals "max" = some none)
    (z_min : PySem.W.nsIn K mainGlobals "min" = some none)
    (z_range : PySem.W.nsIn K mainGlobals "range" = some none)
    (z_repr : PySem.W.nsIn K mainGlobals "repr" = some none)
    (z_str : PySem.W.nsIn K mainGlobals "str" = some none)
    (z_sum : PySem.W.nsIn K mainGlobals "sum" = some none)
    (z_tuple : PySem.W.nsIn K mainGlobals "tuple" = some none) :
    ∃ fd : FuncData, (∀ (s : Shared) (v : Value), BindsTo s fd ⟨[v], []⟩ [("_law_script", v)]) ∧ ∀ base : Heap, K.In base → base.Ns mainGlobals mg → FnG l.prog w K mg base 9 fa fd ["_law_script"] (spLaw K) := by
  have e := hfa.symm.trans (PySem.W.mg_of X G n35)
  cases e
  have T : Txt w K mg C L (fun i => match i with
    | 0 => a0
    | 1 => a1
    | 2 => a2
    | 3 => a3
    | 4 => a4
    | 5 => a5
    | 6 => a6
    | 7 => a7
    | 8 => a8
    | 9 => a9
    | 10 => a10
    | 11 => a11
    | 12 => a12
    | 13 => a13
    | 14 => a14
    | 15 => a15
    | 16 => a16
    | 17 => a17
    | 18 => a18
    | 19 => a19
    | 20 => a20
    | 21 => a21
    | 22 => a22
    | 23 => a23
    | 24 => a24
    | 25 => a25
    | 26 => a26
    | 27 => a27
    | 28 => a28
    | 29 => a29
    | 30 => a30
    | 31 => a31
    | 32 => a32
    | 33 => a33
    | 34 => a34
    | 35 => fa
    | 36 => a36
    | 37 => a37
    | 38 => a38
    | 39 => a39
    | 40 => a40
    | 41 => a41
    | 1037 => pr37
    | _ => fa) (fun i => match i with
    | 0 => PySem.W.fnOf "check_allowed" "check_allowed" (defArgs s0) (defBody s0) (defScope s0) .none kV0 dc0 pm0 an0 cd0 ct0
    | 1 => PySem.W.fnOf "stepped" "stepped" (defArgs s1) (defBody s1) (defScope s1) .none kV1 dc1 pm1 an1 cd1 ct1
    | 2 => PySem.W.fnOf "gain" "gain" (defArgs s2) (defBody s2) (defScope s2) .none kV2 dc2 pm2 an2 cd2 ct2
    | 3 => PySem.W.fnOf "has_other" "has_other" (defArgs s3) (defBody s3) (defScope s3) .none kV3 dc3 pm3 an3 cd3 ct3
    | 4 => PySem.W.fnOf "has_force" "has_force" (defArgs s4) (defBody s4) (defScope s4) .none kV4 dc4 pm4 an4 cd4 ct4
    | 5 => PySem.W.fnOf "dials_of" "dials_of" (defArgs s5) (defBody s5) (defScope s5) .none kV5 dc5 pm5 an5 cd5 ct5
    | 6 => PySem.W.fnOf "ends_of" "ends_of" (defArgs s6) (defBody s6) (defScope s6) .none kV6 dc6 pm6 an6 cd6 ct6
    | 7 => PySem.W.fnOf "argument" "argument" (defArgs s7) (defBody s7) (defScope s7) .none kV7 dc7 pm7 an7 cd7 ct7
    | 8 => PySem.W.fnOf "distance" "distance" (defArgs s8) (defBody s8) (defScope s8) .none kV8 dc8 pm8 an8 cd8 ct8
    | 9 => PySem.W.fnOf "_low_at" "_low_at" (defArgs s9) (defBody s9) (defScope s9) .none kV9 dc9 pm9 an9 cd9 ct9
    | 10 => PySem.W.fnOf "is_integer" "is_integer" (defArgs s10) (defBody s10) (defScope s10) .none kV10 dc10 pm10 an10 cd10 ct10
    | 11 => PySem.W.fnOf "is_value" "is_value" (defArgs s11) (defBody s11) (defScope s11) .none kV11 dc11 pm11 an11 cd11 ct11
    | 12 => PySem.W.fnOf "is_force" "is_force" (defArgs s12) (defBody s12) (defScope s12) .none kV12 dc12 pm12 an12 cd12 ct12
    | 13 => PySem.W.fnOf "is_dial" "is_dial" (defArgs s13) (defBody s13) (defScope s13) .none kV13 dc13 pm13 an13 cd13 ct13
    | 14 => PySem.W.fnOf "is_term" "is_term" (defArgs s14) (defBody s14) (defScope s14) .none kV14 dc14 pm14 an14 cd14 ct14
    | 15 => PySem.W.fnOf "_word" "_word" (defArgs s15) (defBody s15) (defScope s15) .none kV15 dc15 pm15 an15 cd15 ct15
    | 16 => PySem.W.fnOf "_are_dials" "_are_dials" (defArgs s16) (defBody s16) (defScope s16) .none kV16 dc16 pm16 an16 cd16 ct16
    | 17 => PySem.W.fnOf "_are_ends" "_are_ends" (defArgs s17) (defBody s17) (defScope s17) .none kV17 dc17 pm17 an17 cd17 ct17
    | 18 => PySem.W.fnOf "_are_terms" "_are_terms" (defArgs s18) (defBody s18) (defScope s18) .none kV18 dc18 pm18 an18 cd18 ct18
    | 19 => PySem.W.fnOf "_law_bag" "_law_bag" (defArgs s19) (defBody s19) (defScope s19) .none kV19 dc19 pm19 an19 cd19 ct19
    | 20 => PySem.W.fnOf "_law_take" "_law_take" (defArgs s20) (defBody s20) (defScope s20) .none kV20 dc20 pm20 an20 cd20 ct20
    | 21 => PySem.W.fnOf "_law_alike" "_law_alike" (defArgs s21) (defBody s21) (defScope s21) .none kV21 dc21 pm21 an21 cd21 ct21
    | 22 => PySem.W.fnOf "_law_parts" "_law_parts" (defArgs s22) (defBody s22) (defScope s22) .none kV22 dc22 pm22 an22 cd22 ct22
    | 23 => PySem.W.fnOf "_law_argument" "_law_argument" (defArgs s23) (defBody s23) (defScope s23) .none kV23 dc23 pm23 an23 cd23 ct23
    | 24 => PySem.W.fnOf "_law_far" "_law_far" (defArgs s24) (defBody s24) (defScope s24) .none kV24 dc24 pm24 an24 cd24 ct24
    | 25 => PySem.W.fnOf "_law_strain" "_law_strain" (defArgs s25) (defBody s25) (defScope s25) .none kV25 dc25 pm25 an25 cd25 ct25
    | 26 => PySem.W.fnOf "_law_stepped" "_law_stepped" (defArgs s26) (defBody s26) (defScope s26) .none kV26 dc26 pm26 an26 cd26 ct26
    | 27 => PySem.W.fnOf "_law_gain" "_law_gain" (defArgs s27) (defBody s27) (defScope s27) .none kV27 dc27 pm27 an27 cd27 ct27
    | 28 => PySem.W.fnOf "_law_number" "_law_number" (defArgs s28) (defBody s28) (defScope s28) .none kV28 dc28 pm28 an28 cd28 ct28
    | 29 => PySem.W.fnOf "_law_standing" "_law_standing" (defArgs s29) (defBody s29) (defScope s29) .none kV29 dc29 pm29 an29 cd29 ct29
    | 30 => PySem.W.fnOf "_law_range" "_law_range" (defArgs s30) (defBody s30) (defScope s30) .none kV30 dc30 pm30 an30 cd30 ct30
    | 31 => PySem.W.fnOf "_law_term" "_law_term" (defArgs s31) (defBody s31) (defScope s31) .none kV31 dc31 pm31 an31 cd31 ct31
    | 32 => PySem.W.fnOf "_law_terms" "_law_terms" (defArgs s32) (defBody s32) (defScope s32) .none kV32 dc32 pm32 an32 cd32 ct32
    | 33 => PySem.W.fnOf "_law_left" "_law_left" (defArgs s33) (defBody s33) (defScope s33) .none kV33 dc33 pm33 an33 cd33 ct33
    | 34 => PySem.W.fnOf "_law_told" "_law_told" (defArgs s34) (defBody s34) (defScope s34) .none kV34 dc34 pm34 an34 cd34 ct34
    | 35 => PySem.W.fnOf "law" "law" (defArgs s35) (defBody s35) (defScope s35) .none kV35 dc35 pm35 an35 cd35 ct35
    | 36 => PySem.W.fnOf "__init__" "Board.__init__" (defArgs s36) (defBody s36) (defScope s36) .none kV36 dc36 pm36 an36 cd36 ct36
    | 37 => PySem.W.fnOf "size" "Board.size" (defArgs s37) (defBody s37) (defScope s37) .none kV37 dc37 pm37 an37 cd37 ct37
    | 38 => PySem.W.fnOf "__eq__" "Board.__eq__" (defArgs s38) (defBody s38) (defScope s38) .none kV38 dc38 pm38 an38 cd38 ct38
    | 39 => PySem.W.fnOf "terms" "Board.terms" (defArgs s39) (defBody s39) (defScope s39) .none kV39 dc39 pm39 an39 cd39 ct39
    | 40 => PySem.W.fnOf "left" "Board.left" (defArgs s40) (defBody s40) (defScope s40) .none kV40 dc40 pm40 an40 cd40 ct40
    | 41 => PySem.W.fnOf "strain" "Board.strain" (defArgs s41) (defBody s41) (defScope s41) .none kV41 dc41 pm41 an41 cd41 ct41
    | _ => PySem.W.fnOf "law" "law" (defArgs s35) (defBody s35) (defScope s35) .none kV35 dc35 pm35 an35 cd35 ct35) (fun i => match i with
    | 0 => x0
    | 1 => x1
    | 2 => x2
    | 3 => x3
    | _ => fa) (fun i => match i with
    | 2 => y2
    | _ => fa) (fun i => match i with
    | 2 => PySem.W.fnOf "__init__" "NotAllowed.__init__" (defArgs t2) (defBody t2) (defScope t2) .none kV_e2 dc_e2 pm_e2 an_e2 cd_e2 ct_e2
    | _ => PySem.W.fnOf "law" "law" (defArgs s35) (defBody s35) (defScope s35) .none kV35 dc35 pm35 an35 cd35 ct35) := {
    e_PullError := PySem.W.mg_of X G gE0
    e_Wrong := PySem.W.mg_of X G gE1
    e_NotAllowed := PySem.W.mg_of X G gE2
    e_NoneAllowed := PySem.W.mg_of X G gE3
    ox_NotAllowed := ⟨⟨_, _, _, _, _, _, _, _, _, _, _, _, _, _, _, lE2, rE2⟩, sE2, bE2, tE2, kE2⟩
    in_NotAllowed := iE2
    ty_NotAllowed := uE2
    no_NotAllowed := nE2
    xi_NotAllowed := fun_mk fE2 cE2 mE2
    xb_NotAllowed := .all (fun us hl => match us, hl with | [_, _], _ => rfl)
    xc_NotAllowed := ⟨pE2, qE2, hE2, dE2, aE2, sEn, sEt, oE2⟩
    xf_NotAllowed := ⟨pE2, qE2, hE2, dE2⟩
    xm_NotAllowed_PullError := m2_0
    xk_NotAllowed_NotAllowed := kx2_2
    xk_NotAllowed_NoneAllowed := kx2_3
    xk_NotAllowed_Wrong := kx2_1
    xk_NotAllowed_ValueError := kx2_ValueError
    cl := ⟨pg, hd, po, sa⟩
    nS := nS
    nT := nT
    mgC := PySem.W.mg_of X G aC
    isi := ⟨iA, iN, iT, iM, iK⟩
    mL := PySem.W.mg_of X G aL
    len := ⟨⟨_, _, lL, kL⟩, loL, ⟨_, w1⟩, ⟨_, w2⟩, ⟨_, w3⟩, ⟨_, w4⟩⟩
    d0 := .mk' X G n0 l0 c0 k0 (fun us hl => match us, hl with | [_, _], _ => rfl)
    d1 := .mk' X G n1 l1 c1 k1 (fun us hl => match us, hl with | [_, _, _, _], _ => rfl)
    d2 := .mk' X G n2 l2 c2 k2 (fun us hl => match us, hl with | [_, _, _, _], _ => rfl)
    d3 := .mk' X G n3 l3 c3 k3 (fun us hl => match us, hl with | [_], _ => rfl)
    d4 := .mk' X G n4 l4 c4 k4 (fun us hl => match us, hl with | [_], _ => rfl)
    d5 := .mk' X G n5 l5 c5 k5 (fun us hl => match us, hl with | [_], _ => rfl)
    d6 := .mk' X G n6 l6 c6 k6 (fun us hl => match us, hl with | [_], _ => rfl)
    d7 := .mk' X G n7 l7 c7 k7 (fun us hl => match us, hl with | [_, _], _ => rfl)
    d8 := .mk' X G n8 l8 c8 k8 (fun us hl => match us, hl with | [_, _], _ => rfl)
    d9 := .mk' X G n9 l9 c9 k9 (fun us hl => match us, hl with | [_], _ => rfl)
    d10 := .mk' X G n10 l10 c10 k10 (fun us hl => match us, hl with | [_], _ => rfl)
    d11 := .mk' X G n11 l11 c11 k11 (fun us hl => match us, hl with | [_], _ => rfl)
    d12 := .mk' X G n12 l12 c12 k12 (fun us hl => match us, hl with | [_], _ => rfl)
    d13 := .mk' X G n13 l13 c13 k13 (fun us hl => match us, hl with | [_, _], _ => rfl)
    d14 := .mk' X G n14 l14 c14 k14 (fun us hl => match us, hl with | [_, _], _ => rfl)
    d15 := .mk' X G n15 l15 c15 k15 (fun us hl => match us, hl with | [_], _ => rfl)
    d16 := .mk' X G n16 l16 c16 k16 (fun us hl => match us, hl with | [_, _], _ => rfl)
    d17 := .mk' X G n17 l17 c17 k17 (fun us hl => match us, hl with | [_], _ => rfl)
    d18 := .mk' X G n18 l18 c18 k18 (fun us hl => match us, hl with | [_, _], _ => rfl)
    d19 := .mk' X G n19 l19 c19 k19 (fun us hl => match us, hl with | [_], _ => rfl)
    d20 := .mk' X G n20 l20 c20 k20 (fun us hl => match us, hl with | [_, _], _ => rfl)
    d21 := .mk' X G n21 l21 c21 k21 (fun us hl => match us, hl with | [_, _], _ => rfl)
    d22 := .mk' X G n22 l22 c22 k22 (fun us hl => match us, hl with | [_], _ => rfl)
    d23 := .mk' X G n23 l23 c23 k23 (fun us hl => match us, hl with | [_, _], _ => rfl)
    d24 := .mk' X G n24 l24 c24 k24 (fun us hl => match us, hl with | [_, _], _ => rfl)
    d25 := .mk' X G n25 l25 c25 k25 (fun us hl => match us, hl with | [_, _], _ => rfl)
    d26 := .mk' X G n26 l26 c26 k26 (fun us hl => match us, hl with | [_, _, _], _ => rfl)
    d27 := .mk' X G n27 l27 c27 k27 (fun us hl => match us, hl with | [_, _, _, _], _ => rfl)
    d28 := .mk' X G n28 l28 c28 k28 (fun us hl => match us, hl with | [_, _], _ => rfl)
    d29 := .mk' X G n29 l29 c29 k29 (fun us hl => match us, hl with | [_, _, _], _ => rfl)
    d30 := .mk' X G n30 l30 c30 k30 (fun us hl => match us, hl with | [_, _, _, _], _ => rfl)
    d31 := .mk' X G n31 l31 c31 k31 (fun us hl => match us, hl with | [_, _, _, _, _], _ => rfl)
    d32 := .mk' X G n32 l32 c32 k32 (fun us hl => match us, hl with | [_, _, _, _, _], _ => rfl)
    d33 := .mk' X G n33 l33 c33 k33 (fun us hl => match us, hl with | [_, _], _ => rfl)
    d34 := .mk' X G n34 l34 c34 k34 (fun us hl => match us, hl with | [_, _, _, _], _ => rfl)
    d35 := .mk' X G n35 l35 c35 k35 (fun us hl => match us, hl with | [_], _ => rfl)
    i36 := fun_mk l36 c36 k36
    ib := .all (fun us hl => match us, hl with | [_, _, _], _ => rfl)
    mkC := ⟨mk, n36, i36, kc⟩
    d37 := fun_mk l37 c37 k37
    b37 := .all (fun us hl => match us, hl with | [_], _ => rfl)
    p37 := ⟨pa37, pt37, pk37, ⟨_, pc37⟩⟩
    m38 := .mk' n38 i38 l38 c38 k38 (fun us hl => match us, hl with | [_, _], _ => rfl)
    m39 := .mk' n39 i39 l39 c39 k39 (fun us hl => match us, hl with | [_], _ => rfl)
    m40 := .mk' n40 i40 l40 c40 k40 (fun us hl => match us, hl with | [_, _], _ => rfl)
    m41 := .mk' n41 i41 l41 c41 k41 (fun us hl => match us, hl with | [_, _], _ => rfl)
    b_ValueError := PySem.W.mg_none_of X G z_ValueError
    b_abs := PySem.W.mg_none_of X G z_abs
    b_all := PySem.W.mg_none_of X G z_all
    b_bool := PySem.W.mg_none_of X G z_bool
    b_enumerate := PySem.W.mg_none_of X G z_enumerate
    b_int := PySem.W.mg_none_of X G z_int
    b_isinstance := PySem.W.mg_none_of X G z_isinstance
    b_len := PySem.W.mg_none_of X G z_len
    b_list := PySem.W.mg_none_of X G z_list
    b_max := PySem.W.mg_none_of X G z_max
    b_min := PySem.W.mg_none_of X G z_min
    b_range := PySem.W.mg_none_of X G z_range
    b_repr := PySem.W.mg_none_of X G z_repr
    b_str := PySem.W.mg_none_of X G z_str
    b_sum := PySem.W.mg_none_of X G z_sum
    b_tuple := PySem.W.mg_none_of X G z_tuple }
  exact ⟨PySem.W.fnOf "law" "law" (defArgs s35) (defBody s35) (defScope s35) .none kV35 dc35 pm35 an35 cd35 ct35, fun s v => .of_eq rfl, fun base _ _ => ok_35 T⟩
theorem walk {l : PySem.W.OpenLaw} {q : Program} {loose : List Str} {XP : (Str → Option Value) → Heap → Prop} {YP : World → Heap → Prop} {d : DefRec} {K : Params → PySem.W.Frag} (hn : l.most = some 63) (hdf : d.params.defaults = [])
    (hY : ∀ (w : World) (h : Heap), YP w h → (K w.params).In h)
    (F : ∀ (w : World) (mg : Str → Option Value) (fa : Addr) (h : Heap), (K w.params).In h → h.Ns mainGlobals mg → mg d.name = some (.ref fa) →
      ∃ fd : FuncData, (∀ (s : Shared) (u : Value), BindsTo s fd ⟨[u], []⟩ [("_law_script", u)]) ∧ ∀ base : Heap, (K w.params).In base → base.Ns mainGlobals mg → FnG l.prog w (K w.params) mg base 9 fa fd ["_law_script"] (spLaw (K w.params))) :
    PySem.W.WalkO q loose XP YP l.row.toRowW d [] (fun f vs => PySem.call f vs) :=
  walk_ofG (n := 63) (k := 9) (x := "_law_script") hn (by decide) hdf ⟨rfl, by decide, by decide⟩ hY F fun _ _ a ns hl hS => ⟨a, ns, rfl, hS, hl, fun _ => rfl⟩
end k24

open PySem PySem.W PyProof.Rows in
set_option maxRecDepth 100000 in
set_option maxHeartbeats 0 in
theorem PySem.Challenge.cw_mostpulled_k24_gains_of_steps_holds : PySem.Challenge.rw_mostpulled_k24_gains_of_steps.Holds := by
  w_on; o_law; k_head; (case hw => w_witness2)
  k_fill
  refine k24.walk (l := PySem.Challenge.rw_mostpulled_k24_gains_of_steps) rfl rfl (fun w h Y => PySem.W.kIn_of Y) ?F
  case F =>
    intro w mg fa h KX G hmg
    refine' k24.all_mk KX G hmg ?aC ?pg ?hd ?po ?sa ?mk ?kc ?nS ?nT ?iA ?iN ?iT ?iM ?iK ?aL ?lL ?kL ?loL ?w1 ?w2 ?w3 ?w4 ?n0 ?l0 ?c0 ?k0 ?n1 ?l1 ?c1 ?k1 ?n2 ?l2 ?c2 ?k2 ?n3 ?l3 ?c3 ?k3 ?n4 ?l4 ?c4 ?k4 ?n5 ?l5 ?c5 ?k5 ?n6 ?l6 ?c6 ?k6 ?n7 ?l7 ?c7 ?k7 ?n8 ?l8 ?c8 ?k8 ?n9 ?l9 ?c9 ?k9 ?n10 ?l10 ?c10 ?k10 ?n11 ?l11 ?c11 ?k11 ?n12 ?l12 ?c12 ?k12 ?n13 ?l13 ?c13 ?k13 ?n14 ?l14 ?c14 ?k14 ?n15 ?l15 ?c15 ?k15 ?n16 ?l16 ?c16 ?k16 ?n17 ?l17 ?c17 ?k17 ?n18 ?l18 ?c18 ?k18 ?n19 ?l19 ?c19 ?k19 ?n20 ?l20 ?c20 ?k20 ?n21 ?l21 ?c21 ?k21 ?n22 ?l22 ?c22 ?k22 ?n23 ?l23 ?c23 ?k23 ?n24 ?l24 ?c24 ?k24 ?n25 ?l25 ?c25 ?k25 ?n26 ?l26 ?c26 ?k26 ?n27 ?l27 ?c27 ?k27 ?n28 ?l28 ?c28 ?k28 ?n29 ?l29 ?c29 ?k29 ?n30 ?l30 ?c30 ?k30 ?n31 ?l31 ?c31 ?k31 ?n32 ?l32 ?c32 ?k32 ?n33 ?l33 ?c33 ?k33 ?n34 ?l34 ?c34 ?k34 ?n35 ?l35 ?c35 ?k35 ?n36 ?i36 ?l36 ?c36 ?k36 ?pa37 ?pt37 ?pk37 ?pc37 ?l37 ?c37 ?k37 ?n38 ?i38 ?l38 ?c38 ?k38 ?n39 ?i39 ?l39 ?c39 ?k39 ?n40 ?i40 ?l40 ?c40 ?k40 ?n41 ?i41 ?l41 ?c41 ?k41 ?gE0 ?gE1 ?gE2 ?gE3 ?lE2 ?rE2 ?sE2 ?bE2 ?tE2 ?kE2 ?iE2 ?uE2 ?nE2 ?fE2 ?cE2 ?mE2 ?pE2 ?qE2 ?hE2 ?dE2 ?aE2 ?oE2 ?sEn ?sEt ?m2_0 ?kx2_2 ?kx2_3 ?kx2_1 ?kx2_ValueError ?z_ValueError ?z_abs ?z_all ?z_bool ?z_enumerate ?z_int ?z_isinstance ?z_len ?z_list ?z_max ?z_min ?z_range ?z_repr ?z_str ?z_sum ?z_tuple
    (case aC => k_is)
    (case pg => k_is)
    (case hd => k_is)
    (case po => k_is)
    (case sa => k_is)
    (case mk => k_is)
    (case kc => k_is)
    (case nS => k_is)
    (case nT => k_is)
    (case iA => k_is)
    (case iN => k_is)
    (case iT => k_is)
    (case iM => k_is)
    (case iK => exact if_pos (beq_self_eq_true _))
    (case aL => k_is)
    (case lL => k_is)
    (case kL => k_keys)
    (case loL => decide)
    (case w1 => k_is)
    (case w2 => k_is)
    (case w3 => k_is)
    (case w4 => k_is)
    (case n0 => k_is)
    (case l0 => k_is)
    (case c0 => k_is)
    (case k0 => k_is)
    (case n1 => k_is)
    (case l1 => k_is)
    (case c1 => k_is)
    (case k1 => k_is)
    (case n2 => k_is)
    (case l2 => k_is)
    (case c2 => k_is)
    (case k2 => k_is)
    (case n3 => k_is)
    (case l3 => k_is)
    (case c3 => k_is)
    (case k3 => k_is)
    (case n4 => k_is)
    (case l4 => k_is)
    (case c4 => k_is)
    (case k4 => k_is)
    (case n5 => k_is)
    (case l5 => k_is)
    (case c5 => k_is)
    (case k5 => k_is)
    (case n6 => k_is)
    (case l6 => k_is)
    (case c6 => k_is)
    (case k6 => k_is)
    (case n7 => k_is)
    (case l7 => k_is)
    (case c7 => k_is)
    (case k7 => k_is)
    (case n8 => k_is)
    (case l8 => k_is)
    (case c8 => k_is)
    (case k8 => k_is)
    (case n9 => k_is)
    (case l9 => k_is)
    (case c9 => k_is)
    (case k9 => k_is)
    (case n10 => k_is)
    (case l10 => k_is)
    (case c10 => k_is)
    (case k10 => k_is)
    (case n11 => k_is)
    (case l11 => k_is)
    (case c11 => k_is)
    (case k11 => k_is)
    (case n12 => k_is)
    (case l12 => k_is)
    (case c12 => k_is)
    (case k12 => k_is)
    (case n13 => k_is)
    (case l13 => k_is)
    (case c13 => k_is)
    (case k13 => k_is)
    (case n14 => k_is)
    (case l14 => k_is)
    (case c14 => k_is)
    (case k14 => k_is)
    (case n15 => k_is)
    (case l15 => k_is)
    (case c15 => k_is)
    (case k15 => k_is)
    (case n16 => k_is)
    (case l16 => k_is)
    (case c16 => k_is)
    (case k16 => k_is)
    (case n17 => k_is)
    (case l17 => k_is)
    (case c17 => k_is)
    (case k17 => k_is)
    (case n18 => k_is)
    (case l18 => k_is)
    (case c18 => k_is)
    (case k18 => k_is)
    (case n19 => k_is)
    (case l19 => k_is)
    (case c19 => k_is)
    (case k19 => k_is)
    (case n20 => k_is)
    (case l20 => k_is)
    (case c20 => k_is)
    (case k20 => k_is)
    (case n21 => k_is)
    (case l21 => k_is)
    (case c21 => k_is)
    (case k21 => k_is)
    (case n22 => k_is)
    (case l22 => k_is)
    (case c22 => k_is)
    (case k22 => k_is)
    (case n23 => k_is)
    (case l23 => k_is)
    (case c23 => k_is)
    (case k23 => k_is)
    (case n24 => k_is)
    (case l24 => k_is)
    (case c24 => k_is)
    (case k24 => k_is)
    (case n25 => k_is)
    (case l25 => k_is)
    (case c25 => k_is)
    (case k25 => k_is)
    (case n26 => k_is)
    (case l26 => k_is)
    (case c26 => k_is)
    (case k26 => k_is)
    (case n27 => k_is)
    (case l27 => k_is)
    (case c27 => k_is)
    (case k27 => k_is)
    (case n28 => k_is)
    (case l28 => k_is)
    (case c28 => k_is)
    (case k28 => k_is)
    (case n29 => k_is)
    (case l29 => k_is)
    (case c29 => k_is)
    (case k29 => k_is)
    (case n30 => k_is)
    (case l30 => k_is)
    (case c30 => k_is)
    (case k30 => k_is)
    (case n31 => k_is)
    (case l31 => k_is)
    (case c31 => k_is)
    (case k31 => k_is)
    (case n32 => k_is)
    (case l32 => k_is)
    (case c32 => k_is)
    (case k32 => k_is)
    (case n33 => k_is)
    (case l33 => k_is)
    (case c33 => k_is)
    (case k33 => k_is)
    (case n34 => k_is)
    (case l34 => k_is)
    (case c34 => k_is)
    (case k34 => k_is)
    (case n35 => k_is)
    (case l35 => k_is)
    (case c35 => k_is)
    (case k35 => k_is)
    (case n36 => k_is)
    (case i36 => k_is)
    (case l36 => k_is)
    (case c36 => k_is)
    (case k36 => k_is)
    (case pa37 => k_is)
    (case pt37 => k_is)
    (case pk37 => k_is)
    (case pc37 => k_is)
    (case l37 => k_is)
    (case c37 => k_is)
    (case k37 => k_is)
    (case n38 => k_is)
    (case i38 => k_is)
    (case l38 => k_is)
    (case c38 => k_is)
    (case k38 => k_is)
    (case n39 => k_is)
    (case i39 => k_is)
    (case l39 => k_is)
    (case c39 => k_is)
    (case k39 => k_is)
    (case n40 => k_is)
    (case i40 => k_is)
    (case l40 => k_is)
    (case c40 => k_is)
    (case k40 => k_is)
    (case n41 => k_is)
    (case i41 => k_is)
    (case l41 => k_is)
    (case c41 => k_is)
    (case k41 => k_is)
    (case gE0 => k_is)
    (case gE1 => k_is)
    (case gE2 => k_is)
    (case gE3 => k_is)
    (case lE2 => k_is)
    (case rE2 => rfl)
    (case sE2 => k_is)
    (case bE2 => k_is)
    (case tE2 => k_is)
    (case kE2 => k_is)
    (case iE2 => k_is)
    (case uE2 => k_is)
    (case nE2 => k_is)
    (case fE2 => k_is)
    (case cE2 => k_is)
    (case mE2 => k_is)
    (case pE2 => k_is)
    (case qE2 => k_is)
    (case hE2 => k_is)
    (case dE2 => k_is)
    (case aE2 => k_is)
    (case oE2 => k_is)
    (case sEn => k_is)
    (case sEt => k_is)
    (case m2_0 => refine PySem.W.exm_ref ?_ ?_ ?_ ?_ <;> k_is)
    (case kx2_2 => exact if_pos (beq_self_eq_true _))
    (case kx2_3 => refine DL.kitR ?_ ?_ ?_ ?_; (first | decide | rfl); all_goals k_is)
    (case kx2_1 => refine DL.kitR ?_ ?_ ?_ ?_; (first | decide | rfl); all_goals k_is)
    (case kx2_ValueError => refine DL.kitT ?_ ?_; decide +kernel; k_is)
    (case z_ValueError => k_is)
    (case z_abs => k_is)
    (case z_all => k_is)
    (case z_bool => k_is)
    (case z_enumerate => k_is)
    (case z_int => k_is)
    (case z_isinstance => k_is)
    (case z_len => k_is)
    (case z_list => k_is)
    (case z_max => k_is)
    (case z_min => k_is)
    (case z_range => k_is)
    (case z_repr => k_is)
    (case z_str => k_is)
    (case z_sum => k_is)
    (case z_tuple => k_is)

