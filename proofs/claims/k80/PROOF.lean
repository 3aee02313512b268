import PyProof.Rows.All
import Wide.All
import OpenK.AllK
import Wide.FinOn
import HandS.ForMost
import HandS.Flow
import HandS.Wide
import HandS.TupAny
import HandS.IsInst
import HandS.Flt
import HandS.RaiseMore
import PyProof.ReprText
import PyProof.ReprRoads
import HandS.Conv
import HandS.Zip
import KE.KTupSum
import HandS.Property
import HandS.More
import KE.GoesMore
import KE.GoesEnum
import HandS.SetFor
import HandS.Strs
import HandS.TryOnly
import HandS.ExcInit
import HandS.ExcField
import KE.KExcIs
import HandS.ExcIs
import PyProof.ZipIter
import PyProof.MeetsSeq2
import HandS.Star
import KE.KStar
import KE.SortData
import HandS.Style
import HandS.Dict
import KE.KDictDisplayH
import KE.KDictSum
import PySem.Challenge.RW_mostpulled_k80_kinks_by_their_definition
set_option Elab.async false
set_option linter.all false
set_option maxRecDepth 100000
set_option maxHeartbeats 4000000
/-! DL: a layer over HandS in which a reading speaks of data alone: the heap is hidden behind «what is data stays data». -/
namespace DL
open PySem L2

/-! ### data in the heap; B is the bag of draws; a list of a def's own may grow while its slot says «mut» -/
/-- other things of a def's own: a dict by tuples, a dict by ints and texts -/
inductive DObj where
  | dT (ks : List (List L2.Key)) (ds : List PyData)
  | dK (ks : List L2.Key) (ds : List PyData)
  /-- by tuples, locked: read alone -/
  | fT (ks : List (List L2.Key)) (ds : List PyData)
inductive DV where
  | bag
  | dat (d : PyData)
  | grow (l : List PyData)
  /-- the exception at a that an except suite holds: its class, its dict, its fields -/
  | exc (a : Addr) (cls : Value) (d : Option Addr) (fs : List (Str × PyData))
  /-- a list of lists of a def's own: where its rows are, and what they hold -/
  | grid (rs : List Addr) (rows : List (List PyData))
  /-- data of which the lists at S are a def's own -/
  | loose (S : Addr → Prop) (d : PyData)
  | obj (x : DObj)

/-- a board: an object of the class at C with a size and a list of terms, as data -/
abbrev brdD (C : Addr) (n : Int) (ds : List PyData) : PyData := .dict [(.int (Int.ofNat C), .int n), (.none, .list ds)]
mutual
inductive Dt (M : Addr → Prop) (H : Hp) : V → PyData → Prop
  | non : Dt M H .non .none
  | bl (b : Bool) : Dt M H (.bl b) (.bool b)
  | int (i : Int) : Dt M H (.int i) (.int i)
  | str (x : Str) : Dt M H (.str x) (.str x)
  | lst {a : Addr} {xs : List V} {ds : List PyData} : ¬ M a → H a = some (.lst xs) → DtA M H xs ds → Dt M H (.ref a) (.list ds)
  | tup {a : Addr} {xs : List V} {ds : List PyData} : ¬ M a → H a = some (.tup xs) → DtA M H xs ds → Dt M H (.ref a) (.tuple ds)
  | brd {p dx C a : Addr} {n : Int} {xs : List V} {ds : List PyData} : ¬ M p → ¬ M dx → H p = some (.ins C dx [("_size", .int n), ("_terms", .ref a)]) → H dx = some (.own p) → ¬ M a → H a = some (.lst xs) → DtA M H xs ds →
      Dt M H (.ref p) (.dict [(.int (Int.ofNat C), .int n), (.none, .list ds)])
inductive DtA (M : Addr → Prop) (H : Hp) : List V → List PyData → Prop
  | nil : DtA M H [] []
  | cons {v : V} {vs : List V} {d : PyData} {ds : List PyData} : Dt M H v d → DtA M H vs ds → DtA M H (v :: vs) (d :: ds)
end

/-- what is data stays data -/
def Stay (M : Addr → Prop) (H : Hp) (M' : Addr → Prop) (H' : Hp) : Prop := ∀ a o, ¬ M a → H a = some o → ¬ M' a ∧ H' a = some o
theorem Stay.refl {M : Addr → Prop} {H : Hp} : Stay M H M H := fun _ _ n e => ⟨n, e⟩
theorem Stay.trans {M M1 M2 : Addr → Prop} {H H1 H2 : Hp} (k : Stay M H M1 H1) (k2 : Stay M1 H1 M2 H2) : Stay M H M2 H2 := fun a o n e => k2 a o (k a o n e).1 (k a o n e).2
theorem Stay.less {M M' : Addr → Prop} {H : Hp} (h : ∀ a, M' a → M a) : Stay M H M' H := fun a o n e => ⟨fun z => n (h a z), e⟩
theorem Dt.map {M M' : Addr → Prop} {H H' : Hp} (k : Stay M H M' H') {v : V} {d : PyData} (h : Dt M H v d) : Dt M' H' v d :=
  Dt.rec (motive_1 := fun v d _ => Dt M' H' v d) (motive_2 := fun vs ds _ => DtA M' H' vs ds) .non (fun b => .bl b) (fun i => .int i) (fun x => .str x)
    (fun n e _ ih => .lst (k _ _ n e).1 (k _ _ n e).2 ih) (fun n e _ ih => .tup (k _ _ n e).1 (k _ _ n e).2 ih)
    (fun n n2 e e2 n3 e3 _ ih => .brd (k _ _ n e).1 (k _ _ n2 e2).1 (k _ _ n e).2 (k _ _ n2 e2).2 (k _ _ n3 e3).1 (k _ _ n3 e3).2 ih) .nil (fun _ _ ih ih2 => .cons ih ih2) h

theorem DtA.map {M M' : Addr → Prop} {H H' : Hp} (k : Stay M H M' H') : ∀ {ds : List PyData} {vs : List V}, DtA M H vs ds → DtA M' H' vs ds
  | [], _, h => by cases h; exact .nil
  | d :: ds, _, h => by
    cases h with
    | cons h1 h2 => exact .cons (h1.map k) (DtA.map k h2)

/-- where the bag's cells stand -/
def bagq (B : Addr) (H : Hp) : Option Addr := match H B with
  | some (.lst [_, _, _, .ref q]) => some q
  | _ => none
/-- all but the bag is as it was -/
structure Keep (M : Addr → Prop) (B : Addr) (H H' : Hp) : Prop where
  k : ∀ b o, b ≠ B → H b = some o → H' b = some o
  q : ∀ q, bagq B H = some q → bagq B H' = some q
theorem Keep.refl {M : Addr → Prop} {B : Addr} {H : Hp} : Keep M B H H := ⟨fun _ _ _ e => e, fun _ e => e⟩
theorem Keep.trans {M : Addr → Prop} {B : Addr} {H H1 H2 : Hp} (a : Keep M B H H1) (b : Keep M B H1 H2) : Keep M B H H2 := ⟨fun c o n e => b.k c o n (a.k c o n e), fun q e => b.q q (a.q q e)⟩
theorem Keep.any {M M' : Addr → Prop} {B : Addr} {H H' : Hp} (k : Keep M B H H') : Keep M' B H H' := ⟨k.k, k.q⟩
theorem bagq_upd {B : Addr} {H : Hp} {p : Addr} {o : HO} (h : p ≠ B) : bagq B (upd H p o) = bagq B H := by
  unfold bagq
  rw [upd_ne h.symm]
theorem bagq_some {B q : Addr} {H : Hp} (h : bagq B H = some q) : ∃ o, H B = some o := by
  unfold bagq at h
  split at h
  · rename_i e
    exact ⟨_, e⟩
  · cases h
theorem Keep.new {M : Addr → Prop} {B : Addr} {H : Hp} {p : Addr} {o : HO} (hp : H p = none) : Keep M B H (upd H p o) := ⟨fun b u _ e => by
  rw [upd_ne (ne_of_none e hp)]
  exact e, fun q e => by
  obtain ⟨u, e2⟩ := bagq_some e
  rw [bagq_upd (ne_of_none e2 hp).symm]
  exact e⟩
theorem Keep.at {M : Addr → Prop} {B : Addr} (m : M B) {H : Hp} {o : HO} (h : ∀ q, bagq B H = some q → bagq B (upd H B o) = some q) : Keep M B H (upd H B o) := ⟨fun b u n e => by
  rw [upd_ne n]
  exact e, h⟩
theorem Keep.stay {M : Addr → Prop} {B : Addr} {H H' : Hp} (m : M B) (k : Keep M B H H') : Stay M H M H' := fun a o n e => ⟨n, k.k a o (fun z => n (by rw [z]; exact m)) e⟩

theorem Dt.keep {M : Addr → Prop} {B : Addr} {H H' : Hp} {d : PyData} {v : V} (h : Dt M H v d) (m : M B) (k : Keep M B H H') : Dt M H' v d := h.map (k.stay m)
theorem DtA.keep {M : Addr → Prop} {B : Addr} {H H' : Hp} {ds : List PyData} {vs : List V} (h : DtA M H vs ds) (m : M B) (k : Keep M B H H') : DtA M H' vs ds := h.map (k.stay m)
mutual
theorem Dt.dp {K : PySem.W.Frag} {M : Addr → Prop} {H : Hp} : ∀ {d : PyData} {v : V}, d.hasDict = false → Dt M H v d → Dp K H v d
  | .none, _, _, h => by cases h; exact .non
  | .bool _, _, _, h => by cases h; exact .bl _
  | .int _, _, _, h => by cases h; exact .int _
  | .str _, _, _, h => by cases h; exact .str _
  | .list ds, _, n, h => by
    cases h with
    | lst _ e a => exact .lst (SqL.of e) (DtA.dp (by simpa only [PyData.hasDict] using n) a)
  | .tuple ds, _, n, h => by
    cases h with
    | tup _ e a => exact .tup (SqT.of e) (DtA.dp (by simpa only [PyData.hasDict] using n) a)
  | .dict _, _, n, h => by simp only [PyData.hasDict] at n; cases n
theorem DtA.dp {K : PySem.W.Frag} {M : Addr → Prop} {H : Hp} : ∀ {ds : List PyData} {vs : List V}, PyData.hasDictAll ds = false → DtA M H vs ds → DpAll K H vs ds
  | [], _, _, h => by cases h; exact .nil
  | d :: ds, _, n, h => by
    simp only [PyData.hasDictAll, Bool.or_eq_false_iff] at n
    cases h with
    | cons h1 h2 => exact .cons (Dt.dp n.1 h1) (DtA.dp n.2 h2)
end
theorem DtA.length {M : Addr → Prop} {H : Hp} : ∀ {ds : List PyData} {vs : List V}, DtA M H vs ds → vs.length = ds.length
  | [], _, h => by cases h; rfl
  | d :: ds, _, h => by
    cases h with
    | cons h1 h2 => rw [List.length_cons, List.length_cons, DtA.length h2]
theorem DtA.append {M : Addr → Prop} {H : Hp} : ∀ {ds es : List PyData} {vs us : List V}, DtA M H vs ds → DtA M H us es → DtA M H (vs ++ us) (ds ++ es)
  | [], _, _, _, h, g => by cases h; exact g
  | d :: ds, _, _, _, h, g => by
    cases h with
    | cons h1 h2 => exact .cons h1 (DtA.append h2 g)
theorem DtA.drop {M : Addr → Prop} {H : Hp} : ∀ (n : Nat) {ds : List PyData} {vs : List V}, DtA M H vs ds → DtA M H (vs.drop n) (ds.drop n)
  | 0, _, _, h => h
  | n + 1, [], _, h => by cases h; exact .nil
  | n + 1, d :: ds, _, h => by
    cases h with
    | cons h1 h2 => exact DtA.drop n h2
theorem DtA.take {M : Addr → Prop} {H : Hp} : ∀ (n : Nat) {ds : List PyData} {vs : List V}, DtA M H vs ds → DtA M H (vs.take n) (ds.take n)
  | 0, _, _, _ => .nil
  | n + 1, [], _, h => by cases h; exact .nil
  | n + 1, d :: ds, _, h => by
    cases h with
    | cons h1 h2 => exact .cons h1 (DtA.take n h2)
theorem DtA.get {M : Addr → Prop} {H : Hp} : ∀ (n : Nat) {ds : List PyData} {vs : List V} {d : PyData}, DtA M H vs ds → ds[n]? = some d → ∃ v, vs[n]? = some v ∧ Dt M H v d
  | _, [], _, _, _, e => by simp at e
  | 0, d :: ds, _, _, h, e => by
    cases h with
    | cons h1 h2 =>
      simp at e
      subst e
      exact ⟨_, rfl, h1⟩
  | n + 1, d :: ds, _, _, h, e => by
    cases h with
    | cons h1 h2 => exact DtA.get n h2 (by simpa using e)
theorem DtA.getV {M : Addr → Prop} {H : Hp} : ∀ (n : Nat) {ds : List PyData} {vs : List V} {v : V}, DtA M H vs ds → vs[n]? = some v → ∃ d, ds[n]? = some d ∧ Dt M H v d
  | n, [], _, _, h, e => by cases h; simp at e
  | 0, d :: ds, _, _, h, e => by
    cases h with
    | cons h1 h2 =>
      simp at e
      subst e
      exact ⟨_, rfl, h1⟩
  | n + 1, d :: ds, _, _, h, e => by
    cases h with
    | cons h1 h2 => exact DtA.getV n h2 (by simpa using e)
theorem DtA.replicate {M : Addr → Prop} {H : Hp} {ds : List PyData} {vs : List V} (h : DtA M H vs ds) : ∀ n, DtA M H (List.replicate n vs).flatten (List.replicate n ds).flatten
  | 0 => .nil
  | n + 1 => by
    rw [List.replicate_succ, List.replicate_succ, List.flatten_cons, List.flatten_cons]
    exact h.append (DtA.replicate h n)
theorem DtA.ints {M : Addr → Prop} {H : Hp} : ∀ ns : List Int, DtA M H (ns.map V.int) (ns.map PyData.int)
  | [] => .nil
  | n :: ns => .cons (.int n) (DtA.ints ns)

/-- the bag: [great rest, seed, place, cells] -/
def BagAt (M : Addr → Prop) (B : Addr) (H : Hp) : Prop := ∃ (b0 b1 b2 : Int) (q : Addr) (ns : List Int), H B = some (.lst [.int b0, .int b1, .int b2, .ref q]) ∧ H q = some (.lst (ns.map V.int)) ∧
  0 ≤ b0 ∧ 0 ≤ b1 ∧ b1 < 2147483647 ∧ 0 ≤ b2 ∧ ∀ n ∈ ns, (0 : Int) ≤ n
/-- the bag, and where the def began: what might change then, and the heap -/
structure Gr where
  a : Addr
  M0 : Addr → Prop
  H0 : Hp
  M1 : Addr → Prop
  H1 : Hp
  /-- what a returned value is, too -/
  nw : V → Prop
instance : Coe Gr Addr := ⟨Gr.a⟩
instance : Inhabited Gr := ⟨⟨0, fun _ => False, fun _ => none, fun _ => False, fun _ => none, fun _ => True⟩⟩
/-- from where a def began to here: only the bag and lists of its own have changed -/
structure Grd (B : Gr) (M : Addr → Prop) (H : Hp) : Prop where
  g0 : ∀ a, B.M0 a → ∃ o, B.H0 a = some o
  m0 : B.M0 B.a
  sub : ∀ a, B.M0 a → M a
  keep : Keep B.M0 B.a B.H0 H
  stay : ∀ a o, ¬ B.M0 a → B.H0 a = some o → ¬ M a
  st : Stay B.M1 B.H1 M H
  al : ∀ a o, B.H1 a = some o → ∃ u, H a = some u
  bq : ∃ q o, bagq B.a B.H0 = some q ∧ B.H0 q = some o
  nt : ∀ a, M a → ∀ ys, H a ≠ some (.tup ys)
def Good0 (M : Addr → Prop) (B : Addr) (H : Hp) : Prop := M B ∧ (∀ a, M a → ∃ o, H a = some o) ∧ BagAt M B H ∧ ∀ a, M a → ∀ ys, H a ≠ some (.tup ys)
def Good (M : Addr → Prop) (B : Gr) (H : Hp) : Prop := M B.a ∧ (∀ a, M a → ∃ o, H a = some o) ∧ BagAt M B.a H ∧ Grd B M H
theorem Good.z {M : Addr → Prop} {B : Gr} {H : Hp} (g : Good M B H) : Good0 M B.a H := ⟨g.1, g.2.1, g.2.2.1, g.2.2.2.nt⟩
theorem Good.d {M : Addr → Prop} {B : Gr} {H : Hp} (g : Good M B H) : Grd B M H := g.2.2.2
theorem BagAt.q {M : Addr → Prop} {B : Addr} {H : Hp} (b : BagAt M B H) : ∃ q o, bagq B H = some q ∧ H q = some o := by
  obtain ⟨b0, b1, b2, q, ns, h1, h3, _⟩ := b
  exact ⟨q, _, by unfold bagq; rw [h1], h3⟩
theorem Good0.start {M : Addr → Prop} {b : Addr} {H : Hp} {N : V → Prop} (g : Good0 M b H) : Good M ⟨b, M, H, M, H, N⟩ H := ⟨g.1, g.2.1, g.2.2.1, g.2.1, g.1, fun _ h => h, Keep.refl, fun _ _ n _ => n, Stay.refl, fun _ o e => ⟨o, e⟩, g.2.2.1.q, g.2.2.2⟩
theorem Good.expr {M : Addr → Prop} {B : Gr} {H H' : Hp} (g : Good M B H) (g' : Good0 M B.a H') (k : Keep M B.a H H') : Good M B H' := ⟨g'.1, g'.2.1, g'.2.2.1, g.d.g0, g.d.m0, g.d.sub, g.d.keep.trans k.any, g.d.stay, g.d.st.trans (k.stay g.1), fun a o e => by
  by_cases z : a = B.a
  · rw [z]
    exact g'.2.1 _ g'.1
  · obtain ⟨u, hu⟩ := g.d.al a o e
    exact ⟨u, k.k a u z hu⟩, g.d.bq, g'.2.2.2⟩
theorem Good.own {M : Addr → Prop} {B : Gr} {H : Hp} (g : Good M B H) {a : Addr} (h : B.H0 a = none) : ¬ B.M0 a := fun m => by
  obtain ⟨o, e⟩ := g.d.g0 a m
  rw [h] at e
  cases e
theorem Good.fresh0 {M : Addr → Prop} {B : Gr} {H : Hp} (g : Good M B H) {p : Addr} (hp : H p = none) : B.H0 p = none := by
  cases q : B.H0 p with
  | none => rfl
  | some u =>
    by_cases z : p = B.a
    · obtain ⟨o, e⟩ := g.2.1 B.a g.1
      rw [z, e] at hp
      cases hp
    · have := g.d.keep.k p u z q
      rw [hp] at this
      cases this
theorem Good.fresh1 {M : Addr → Prop} {B : Gr} {H : Hp} (g : Good M B H) {p : Addr} (hp : H p = none) : B.H1 p = none := by
  cases q : B.H1 p with
  | none => rfl
  | some u =>
    obtain ⟨u2, e⟩ := g.d.al p u q
    rw [hp] at e
    cases e
theorem Good.ne {M : Addr → Prop} {B : Gr} {H : Hp} (g : Good M B H) {p : Addr} (hp : H p = none) : ¬ M p := fun m => by
  obtain ⟨o, h⟩ := g.2.1 p m
  rw [h] at hp
  cases hp
theorem Good.new {M : Addr → Prop} {B : Gr} {H : Hp} (g : Good M B H) {p : Addr} {o : HO} (hp : H p = none) : Good M B (upd H p o) := by
  obtain ⟨m, md, ⟨b0, b1, b2, q, ns, h1, h3, h4⟩, d⟩ := g
  refine ⟨m, fun a ma => ?_, ⟨b0, b1, b2, q, ns, by rw [upd_ne (ne_of_none h1 hp)]; exact h1, by rw [upd_ne (ne_of_none h3 hp)]; exact h3, h4⟩, d.g0, d.m0, d.sub, d.keep.trans (Keep.new hp), d.stay, d.st.trans ((Keep.new (M := M) hp).stay m), fun a u e => by
    obtain ⟨u2, e2⟩ := d.al a u e
    exact ⟨u2, by rw [upd_ne (ne_of_none e2 hp)]; exact e2⟩, d.bq, fun a ma ys => by
    obtain ⟨u, e⟩ := md a ma
    rw [upd_ne (ne_of_none e hp)]
    exact d.nt a ma ys⟩
  obtain ⟨u, e⟩ := md a ma
  exact ⟨u, by rw [upd_ne (ne_of_none e hp)]; exact e⟩
theorem Dt.newL {M : Addr → Prop} {B : Gr} {H : Hp} (g : Good M B H) {p : Addr} (hp : H p = none) {xs : List V} {ds : List PyData} (h : DtA M H xs ds) : Dt M (upd H p (.lst xs)) (.ref p) (.list ds) :=
  .lst (g.ne hp) upd_same (h.map ((Keep.new (B := B) hp).stay g.1))
theorem Dt.newT {M : Addr → Prop} {B : Gr} {H : Hp} (g : Good M B H) {p : Addr} (hp : H p = none) {xs : List V} {ds : List PyData} (h : DtA M H xs ds) : Dt M (upd H p (.tup xs)) (.ref p) (.tuple ds) :=
  .tup (g.ne hp) upd_same (h.map ((Keep.new (B := B) hp).stay g.1))
theorem BagAt.any {M M' : Addr → Prop} {B : Addr} {H : Hp} (b : BagAt M B H) : BagAt M' B H := by
  obtain ⟨b0, b1, b2, q, ns, h1, h3, h4⟩ := b
  exact ⟨b0, b1, b2, q, ns, h1, h3, h4⟩
theorem Good.less {M M' : Addr → Prop} {B : Gr} {H : Hp} (g : Good M B H) (h : ∀ a, M' a → M a) (hs : ∀ a, B.M0 a → M' a) : Good M' B H :=
  ⟨hs _ g.d.m0, fun a ma => g.2.1 a (h a ma), g.2.2.1.any, g.d.g0, g.d.m0, hs, g.d.keep, fun a o n e m => g.d.stay a o n e (h a m), g.d.st.trans (Stay.less h), g.d.al, g.d.bq, fun a ma => g.d.nt a (h a ma)⟩
/-- where the def began, at its end -/
theorem Good.back {M : Addr → Prop} {B : Gr} {H : Hp} (g : Good M B H) : Good0 B.M0 B.a H := (g.less g.d.sub fun _ h => h).z
/-- with the cells where they were, the wider set of what may change is good again -/
theorem Good.more {M M' : Addr → Prop} {B : Gr} {H H' : Hp} (g : Good M B H) (k : Keep M B.a H H') (g' : Good M' B H') : Good M B H' := by
  obtain ⟨m, md, ⟨b0, b1, b2, q, ns, h1, h3, h4⟩, d⟩ := g
  obtain ⟨m', md', ⟨c0, c1, c2, q', ns', h1', h3', h4'⟩, d'⟩ := g'
  have e1 : bagq B.a H = some q := by
    unfold bagq
    rw [h1]
  have e2 := k.q q e1
  unfold bagq at e2
  rw [h1'] at e2
  cases e2
  refine ⟨m, fun a ma => ?_, ⟨c0, c1, c2, q, ns', h1', h3', h4'⟩, d.g0, d.m0, d.sub, d'.keep, d.stay, fun a o n e => ⟨(d.st a o n e).1, (d'.st a o n e).2⟩, d'.al, d.bq, fun a ma ys => by
    by_cases e : a = B.a
    · rw [e, h1']
      exact fun z => nomatch z
    · obtain ⟨o, eo⟩ := md a ma
      rw [k.k a o e eo, ← eo]
      exact d.nt a ma ys⟩
  by_cases e : a = B.a
  · rw [e]
    exact ⟨_, h1'⟩
  · obtain ⟨o, eo⟩ := md a ma
    exact ⟨o, k.k a o e eo⟩

/-- an exception's fields -/
inductive FldA (M : Addr → Prop) (H : Hp) : List (Str × V) → List (Str × PyData) → Prop
  | nil : FldA M H [] []
  | cons {f : Str} {v : V} {d : PyData} {r : List (Str × V)} {q : List (Str × PyData)} : Dt M H v d → FldA M H r q → FldA M H ((f, v) :: r) ((f, d) :: q)
theorem FldA.map {M M' : Addr → Prop} {H H' : Hp} (k : Stay M H M' H') : ∀ {vs : List (Str × V)} {fs : List (Str × PyData)}, FldA M H vs fs → FldA M' H' vs fs
  | _, _, .nil => .nil
  | _, _, .cons h t => .cons (h.map k) (FldA.map k t)
def XD (M : Addr → Prop) (H : Hp) (d : Option Addr) (fs : List (Str × PyData)) : Prop := (d = none ∧ fs = []) ∨ ∃ dd vs, d = some dd ∧ ¬ M dd ∧ H dd = some (.xd vs) ∧ FldA M H vs fs
theorem XD.map {M M' : Addr → Prop} {H H' : Hp} (k : Stay M H M' H') {d : Option Addr} {fs : List (Str × PyData)} (h : XD M H d fs) : XD M' H' d fs := by
  rcases h with ⟨e1, e2⟩ | ⟨dd, vs, e, n, eh, a⟩
  · exact .inl ⟨e1, e2⟩
  · exact .inr ⟨dd, vs, e, (k _ _ n eh).1, (k _ _ n eh).2, a.map k⟩

/-- rows of a def's own -/
inductive RowsA (M : Addr → Prop) (B : Gr) (H : Hp) : List Addr → List (List PyData) → Prop
  | nil : RowsA M B H [] []
  | cons {r : Addr} {xs : List V} {l : List PyData} {rs : List Addr} {ls : List (List PyData)} : M r → r ≠ B → B.H0 r = none → H r = some (.lst xs) → DtA M H xs l → RowsA M B H rs ls → RowsA M B H (r :: rs) (l :: ls)
theorem RowsA.map {M M' : Addr → Prop} {B B' : Gr} {H H' : Hp} (k : Stay M H M' H') : ∀ {rs : List Addr} {ls : List (List PyData)}, RowsA M B H rs ls → (∀ r xs, r ∈ rs → M r → r ≠ B.a → B.H0 r = none → H r = some (.lst xs) → M' r ∧ r ≠ B'.a ∧ B'.H0 r = none ∧ H' r = some (.lst xs)) → RowsA M' B' H' rs ls
  | _, _, .nil, _ => .nil
  | _, _, .cons m n z e h t, f => by
    obtain ⟨m2, n2, z2, e2⟩ := f _ _ (List.mem_cons_self ..) m n z e
    exact .cons m2 n2 z2 e2 (h.map k) (RowsA.map k t fun r xs hr => f r xs (List.mem_cons_of_mem _ hr))

/-! ### what a value reaches -/
inductive Rch (H : Hp) : V → Addr → Prop
  | self (a : Addr) : Rch H (.ref a) a
  | lst {a b : Addr} {xs : List V} {x : V} : H a = some (.lst xs) → x ∈ xs → Rch H x b → Rch H (.ref a) b
  | tup {a b : Addr} {xs : List V} {x : V} : H a = some (.tup xs) → x ∈ xs → Rch H x b → Rch H (.ref a) b
  | dct {a C dx : Addr} {fs : List (Str × V)} : H a = some (.ins C dx fs) → Rch H (.ref a) dx
  | fld {a C dx b : Addr} {fs : List (Str × V)} {f : Str} {x : V} : H a = some (.ins C dx fs) → (f, x) ∈ fs → Rch H x b → Rch H (.ref a) b
theorem Dt.rch {M : Addr → Prop} {H : Hp} {v : V} {d : PyData} (h : Dt M H v d) : ∀ b, Rch H v b → ¬ M b :=
  Dt.rec (motive_1 := fun v d _ => ∀ b, Rch H v b → ¬ M b) (motive_2 := fun vs ds _ => ∀ v ∈ vs, ∀ b, Rch H v b → ¬ M b)
    (fun b r => by cases r) (fun _ b r => by cases r) (fun _ b r => by cases r) (fun _ b r => by cases r)
    (fun n e _ ih b r => by
      cases r with
      | self => exact n
      | lst e2 m r => rw [e] at e2; cases e2; exact ih _ m b r
      | tup e2 _ _ => rw [e] at e2; cases e2
      | dct e2 => rw [e] at e2; cases e2
      | fld e2 _ _ => rw [e] at e2; cases e2)
    (fun n e _ ih b r => by
      cases r with
      | self => exact n
      | tup e2 m r => rw [e] at e2; cases e2; exact ih _ m b r
      | lst e2 _ _ => rw [e] at e2; cases e2
      | dct e2 => rw [e] at e2; cases e2
      | fld e2 _ _ => rw [e] at e2; cases e2)
    (fun n n2 e e2 n3 e3 _ ih b r => by
      cases r with
      | self => exact n
      | lst e4 _ _ => rw [e] at e4; cases e4
      | tup e4 _ _ => rw [e] at e4; cases e4
      | dct e4 => rw [e] at e4; cases e4; exact n2
      | fld e4 m r =>
        rw [e] at e4
        cases e4
        rcases List.mem_cons.mp m with z | m
        · cases z
          cases r
        · have z := List.mem_singleton.mp m
          cases z
          cases r with
          | self => exact n3
          | lst e5 m r => rw [e3] at e5; cases e5; exact ih _ m b r
          | tup e5 _ _ => rw [e3] at e5; cases e5
          | dct e5 => rw [e3] at e5; cases e5
          | fld e5 _ _ => rw [e3] at e5; cases e5)
    (fun v m => nomatch m) (fun _ _ ih ih2 v m b r => by
      rcases List.mem_cons.mp m with z | m
      · subst z
        exact ih b r
      · exact ih2 v m b r) h
theorem Dt.rchBack {M M' : Addr → Prop} {H H' : Hp} (k : Stay M H M' H') {v : V} {d : PyData} (h : Dt M H v d) : ∀ b, Rch H' v b → Rch H v b ∧ H' b = H b :=
  Dt.rec (motive_1 := fun v d _ => ∀ b, Rch H' v b → Rch H v b ∧ H' b = H b) (motive_2 := fun vs ds _ => ∀ v ∈ vs, ∀ b, Rch H' v b → Rch H v b ∧ H' b = H b)
    (fun b r => by cases r) (fun _ b r => by cases r) (fun _ b r => by cases r) (fun _ b r => by cases r)
    (fun n e _ ih b r => by
      have e' := (k _ _ n e).2
      cases r with
      | self => exact ⟨.self _, by rw [e, e']⟩
      | lst e2 m r => rw [e'] at e2; cases e2; exact ⟨.lst e m (ih _ m b r).1, (ih _ m b r).2⟩
      | tup e2 _ _ => rw [e'] at e2; cases e2
      | dct e2 => rw [e'] at e2; cases e2
      | fld e2 _ _ => rw [e'] at e2; cases e2)
    (fun n e _ ih b r => by
      have e' := (k _ _ n e).2
      cases r with
      | self => exact ⟨.self _, by rw [e, e']⟩
      | tup e2 m r => rw [e'] at e2; cases e2; exact ⟨.tup e m (ih _ m b r).1, (ih _ m b r).2⟩
      | lst e2 _ _ => rw [e'] at e2; cases e2
      | dct e2 => rw [e'] at e2; cases e2
      | fld e2 _ _ => rw [e'] at e2; cases e2)
    (fun n n2 e e2 n3 e3 _ ih b r => by
      have e' := (k _ _ n e).2
      have e3' := (k _ _ n3 e3).2
      cases r with
      | self => exact ⟨.self _, by rw [e, e']⟩
      | lst e4 _ _ => rw [e'] at e4; cases e4
      | tup e4 _ _ => rw [e'] at e4; cases e4
      | dct e4 => rw [e'] at e4; cases e4; exact ⟨.dct e, by rw [e2, (k _ _ n2 e2).2]⟩
      | fld e4 m r =>
        rw [e'] at e4
        cases e4
        have m0 := m
        rcases List.mem_cons.mp m with z | m
        · cases z
          cases r
        · have z := List.mem_singleton.mp m
          cases z
          cases r with
          | self => exact ⟨.fld e m0 (.self _), by rw [e3, e3']⟩
          | lst e5 m r => rw [e3'] at e5; cases e5; exact ⟨.fld e m0 (.lst e3 m (ih _ m b r).1), (ih _ m b r).2⟩
          | tup e5 _ _ => rw [e3'] at e5; cases e5
          | dct e5 => rw [e3'] at e5; cases e5
          | fld e5 _ _ => rw [e3'] at e5; cases e5)
    (fun v m => nomatch m) (fun _ _ ih ih2 v m b r => by
      rcases List.mem_cons.mp m with z | m
      · subst z
        exact ih b r
      · exact ih2 v m b r) h
/-- a list that begins with an int -/
def intHd (xs : List V) : Prop := ∃ i r, xs = V.int i :: r
/-- S holds those lists of a value that may change: lists of ints, and the outermost -/
def OwnIn (H : Hp) (v : V) (S : Addr → Prop) : Prop := ∀ a xs, Rch H v a → H a = some (.lst xs) → (intHd xs ∨ v = .ref a) → S a
abbrev minS (M : Addr → Prop) (S : Addr → Prop) : Addr → Prop := fun b => M b ∧ ¬ S b
theorem OwnIn.map {M M' : Addr → Prop} {H H' : Hp} {v : V} {d : PyData} {S : Addr → Prop} (k : Stay M H M' H') (h : Dt M H v d) (o : OwnIn H v S) : OwnIn H' v S := fun a xs r e c => o a xs (h.rchBack k a r).1 (by rw [← (h.rchBack k a r).2]; exact e) c

/-! ### slots -/
inductive ObR (M : Addr → Prop) (H : Hp) : HO → DObj → Prop
  | dT {ks : List (List L2.Key)} {vs : List V} {ds : List PyData} : ks.length = vs.length → DtA M H vs ds → ObR M H (.dT (ks.zip vs)) (.dT ks ds)
  | dK {ks : List L2.Key} {vs : List V} {ds : List PyData} : ks.length = vs.length → DtA M H vs ds → ObR M H (.dK (ks.zip vs)) (.dK ks ds)
  | fT {od : Obj} {ks : List (List L2.Key)} {vs : List V} {ds : List PyData} : ks.length = vs.length → DtA M H vs ds → ObR M H (.frz od (.dT (ks.zip vs))) (.fT ks ds)
theorem ObR.map {M M' : Addr → Prop} {H H' : Hp} (k : Stay M H M' H') {o : HO} {x : DObj} (h : ObR M H o x) : ObR M' H' o x := by
  cases h with
  | dT e a => exact .dT e (a.map k)
  | dK e a => exact .dK e (a.map k)
  | fT e a => exact .fT e (a.map k)
inductive DvR (M : Addr → Prop) (B : Gr) (H : Hp) : V → DV → Prop
  | bag {q : Addr} {o : HO} : bagq B H = some q → ¬ M q → H q = some o → DvR M B H (.ref B) .bag
  | dat {v : V} {d : PyData} : Dt M H v d → DvR M B H v (.dat d)
  | grow {a : Addr} {xs : List V} {l : List PyData} : M a → a ≠ B → B.H0 a = none → H a = some (.lst xs) → DtA M H xs l → DvR M B H (.ref a) (.grow l)
  | exc {a : Addr} {cls : Value} {d : Option Addr} {fs : List (Str × PyData)} : XD M H d fs → DvR M B H (.ref a) (.exc a cls d fs)
  | grid {a : Addr} {rs : List Addr} {rows : List (List PyData)} : M a → a ≠ B → B.H0 a = none → H a = some (.lst (rs.map V.ref)) → (a :: rs).Nodup → RowsA M B H rs rows → DvR M B H (.ref a) (.grid rs rows)
  | loose {v : V} {d : PyData} {S : Addr → Prop} : (∀ a, S a → M a ∧ a ≠ B ∧ B.H0 a = none ∧ ∃ o, H a = some o) → Dt (minS M S) H v d → OwnIn H v S → DvR M B H v (.loose S d)
  | obj {a : Addr} {o : HO} {x : DObj} : M a → a ≠ B → B.H0 a = none → H a = some o → ObR M H o x → DvR M B H (.ref a) (.obj x)
theorem DvR.keep {M : Addr → Prop} {B : Gr} {H H' : Hp} (m : M B) (k : Keep M B H H') {v : V} {x : DV} (h : DvR M B H v x) : DvR M B H' v x := by
  cases h with
  | bag hq nq e => exact .bag (k.q _ hq) nq (k.k _ _ (fun z => nq (by rw [z]; exact m)) e)
  | loose hs h o =>
    rename_i d S
    have st : Stay (minS M S) H (minS M S) H' := k.any.stay (M := minS M S) ⟨m, fun z => (hs _ z).2.1 rfl⟩
    exact .loose (fun a z => ⟨(hs a z).1, (hs a z).2.1, (hs a z).2.2.1, by obtain ⟨u, hu⟩ := (hs a z).2.2.2; exact ⟨u, k.k a u (hs a z).2.1 hu⟩⟩) (h.map st) (o.map st h)
  | dat h => exact .dat (h.map (k.stay m))
  | obj ma n z e h => exact .obj ma n z (k.k _ _ n e) (h.map (k.stay m))
  | grow ma n z e h => exact .grow ma n z (k.k _ _ n e) (h.map (k.stay m))
  | exc h => exact .exc (h.map (k.stay m))
  | grid ma n z e nd h => exact .grid ma n z (k.k _ _ n e) nd (h.map (k.stay m) fun r xs _ m n z e => ⟨m, n, z, k.k _ _ n e⟩)
/-- what no statement changes -/
def DV.fix : DV → Prop
  | .grow _ => False
  | .grid _ _ => False
  | .loose _ _ => False
  | .obj _ => False
  | _ => True
/-- where a slot's own lists are -/
def Fp (v : V) : DV → Addr → Prop
  | .grow _, a => v = .ref a
  | .grid rs _, a => v = .ref a ∨ a ∈ rs
  | .loose S _, a => S a
  | .obj _, a => v = .ref a
  | _, _ => False
theorem Fp.mut {v : V} {x : DV} {a : Addr} (h : Fp v x a) : ¬ x.fix := by
  cases x <;> first | exact h.elim | exact id
inductive SlotR (M : Addr → Prop) (B : Gr) (H : Hp) : Option V → Option DV → Prop
  | non (o : Option V) : SlotR M B H o none
  | som {v : V} {x : DV} : DvR M B H v x → SlotR M B H (some v) (some x)
theorem SlotR.keep {M : Addr → Prop} {B : Gr} {H H' : Hp} (m : M B) (k : Keep M B H H') {v : Option V} {x : Option DV} (h : SlotR M B H v x) : SlotR M B H' v x := by
  cases h with
  | non => exact .non _
  | som h => exact .som (h.keep m k)
abbrev DEnv := List (Option DV)
inductive EnvAt (M : Addr → Prop) (B : Gr) (H : Hp) : St → DEnv → Prop
  | nil : EnvAt M B H [] []
  | cons {o : Option V} {x : Option DV} {σ : St} {ds : DEnv} : SlotR M B H o x → EnvAt M B H σ ds → EnvAt M B H (o :: σ) (x :: ds)
theorem EnvAt.keep {M : Addr → Prop} {B : Gr} {H H' : Hp} (m : M B) (k : Keep M B H H') : ∀ {σ : St} {ds : DEnv}, EnvAt M B H σ ds → EnvAt M B H' σ ds
  | _, _, .nil => .nil
  | _, _, .cons h t => .cons (h.keep m k) (EnvAt.keep m k t)
theorem EnvAt.get {M : Addr → Prop} {B : Gr} {H : Hp} : ∀ {σ : St} {ds : DEnv} (i : Nat) {x : DV}, EnvAt M B H σ ds → ds[i]? = some (some x) → ∃ v, σ[i]? = some (some v) ∧ DvR M B H v x
  | _, _, _, _, .nil, e => by simp at e
  | _, _, 0, x, .cons h t, e => by
    simp at e
    subst e
    cases h with
    | som h => exact ⟨_, rfl, h⟩
  | _, _, i + 1, x, .cons h t, e => EnvAt.get i t (by simpa using e)
theorem EnvAt.set {M : Addr → Prop} {B : Gr} {H : Hp} {v : V} {x : DV} (h : DvR M B H v x) : ∀ {σ : St} {ds : DEnv} (i : Nat), EnvAt M B H σ ds → EnvAt M B H (σ.set i (some v)) (ds.set i (some x))
  | _, _, _, .nil => .nil
  | _, _, 0, .cons _ t => .cons (.som h) t
  | _, _, i + 1, .cons g t => .cons g (EnvAt.set h i t)
theorem EnvAt.unset {M : Addr → Prop} {B : Gr} {H : Hp} {o : Option V} : ∀ {σ : St} {ds : DEnv} (i : Nat), EnvAt M B H σ ds → EnvAt M B H (σ.set i o) (ds.set i none)
  | _, _, _, .nil => .nil
  | _, _, 0, .cons _ t => .cons (.non _) t
  | _, _, i + 1, .cons g t => .cons g (EnvAt.unset i t)
def wipeD (ds : DEnv) : List Nat → DEnv
  | [] => ds
  | v :: vs => (wipeD ds vs).set v none
theorem EnvAt.wipe {M : Addr → Prop} {B : Gr} {H : Hp} {σ : St} {ds : DEnv} (h : EnvAt M B H σ ds) : ∀ vs : List Nat, EnvAt M B H (L2.wipe σ vs) (wipeD ds vs)
  | [] => h
  | v :: vs => EnvAt.unset v (EnvAt.wipe h vs)
inductive ArgsAt (M : Addr → Prop) (B : Gr) (H : Hp) : List V → List DV → Prop
  | nil : ArgsAt M B H [] []
  | cons {v : V} {x : DV} {vs : List V} {xs : List DV} : DvR M B H v x → x.fix → ArgsAt M B H vs xs → ArgsAt M B H (v :: vs) (x :: xs)
theorem ArgsAt.length {M : Addr → Prop} {B : Gr} {H : Hp} : ∀ {vs : List V} {xs : List DV}, ArgsAt M B H vs xs → vs.length = xs.length
  | _, _, .nil => rfl
  | _, _, .cons _ _ t => by rw [List.length_cons, List.length_cons, ArgsAt.length t]
theorem ArgsAt.env {M : Addr → Prop} {B : Gr} {H : Hp} : ∀ {vs : List V} {xs : List DV}, ArgsAt M B H vs xs → EnvAt M B H (vs.map some) (xs.map some)
  | _, _, .nil => .nil
  | _, _, .cons h _ t => .cons (.som h) (ArgsAt.env t)
theorem EnvAt.append {M : Addr → Prop} {B : Gr} {H : Hp} : ∀ {σ σ' : St} {ds ds' : DEnv}, EnvAt M B H σ ds → EnvAt M B H σ' ds' → EnvAt M B H (σ ++ σ') (ds ++ ds')
  | _, _, _, _, .nil, g => g
  | _, _, _, _, .cons h t, g => .cons h (EnvAt.append t g)
theorem EnvAt.nones {M : Addr → Prop} {B : Gr} {H : Hp} : ∀ n, EnvAt M B H (List.replicate n none) (List.replicate n none)
  | 0 => .nil
  | n + 1 => .cons (.non _) (EnvAt.nones n)
def dstart (N : List Str) (xs : List DV) : DEnv := xs.map some ++ List.replicate (N.length - xs.length) none
theorem ArgsAt.start {M : Addr → Prop} {B : Gr} {H : Hp} {vs : List V} {xs : List DV} (h : ArgsAt M B H vs xs) (N : List Str) : EnvAt M B H (L2.start N vs) (dstart N xs) := by
  unfold L2.start dstart
  rw [h.length]
  exact h.env.append (EnvAt.nones _)

theorem ArgsAt.noMut {M : Addr → Prop} {B : Gr} {H : Hp} : ∀ {vs : List V} {xs : List DV}, ArgsAt M B H vs xs → ∀ (n i : Nat) x, (xs.map some ++ List.replicate n none)[i]? = some (some x) → x.fix
  | _, _, .nil => fun n i x e => by
    rw [List.map_nil, List.nil_append, List.getElem?_replicate] at e
    split at e <;> cases e
  | _, _, .cons _ nm t => fun n i x e => by
    cases i with
    | zero =>
      rw [List.map_cons, List.cons_append, List.getElem?_cons_zero] at e
      cases e
      exact nm
    | succ i =>
      rw [List.map_cons, List.cons_append, List.getElem?_cons_succ] at e
      exact ArgsAt.noMut t n i x e
/-- a slot's list that may change, read where what is read is flat -/
def flatD : PyData → Bool
  | .none => true
  | .bool _ => true
  | .int _ => true
  | .str _ => true
  | _ => false
theorem flat_any {M M' : Addr → Prop} {H : Hp} {v : V} {d : PyData} (f : flatD d = true) (h : Dt M H v d) : Dt M' H v d := by
  cases h with
  | non => exact .non
  | bl b => exact .bl b
  | int i => exact .int i
  | str x => exact .str x
  | lst _ _ _ => cases f
  | tup _ _ _ => cases f
  | brd _ _ _ _ _ _ _ => cases f

/-! ### readings over data -/
abbrev TDE := DEnv → (PyData → Prop) → Prop
/-- what may follow a value -/
def Cont (M : Addr → Prop) (B : Gr) (H : Hp) (Q : PyData → Prop) (R : VK) : Prop := ∀ v H' d, Good M B H' → Keep M B H H' → Dt M H' v d → Q d → R v H'
theorem Cont.keep {M : Addr → Prop} {B : Gr} {H H' : Hp} {Q : PyData → Prop} {R : VK} (c : Cont M B H Q R) (k : Keep M B H H') : Cont M B H' Q R := fun v H2 d g k2 h q => c v H2 d g (k.trans k2) h q
def SE (B : Gr) (te : TE) (t : TDE) : Prop := ∀ (M : Addr → Prop) σ H ds Q R, Good M B H → EnvAt M B H σ ds → t ds Q → Cont M B H Q R → te σ H R
structure PD (X : Cx) (B : Gr) (e : Expr) (te : TE) (t : TDE) : Prop where
  pe : PE X e te
  se : SE B te t

def dVar (i : Nat) : TDE := fun ds Q => match ds[i]? with
  | some (some (.dat d)) => Q d
  | _ => False
def dC (d : PyData) : TDE := fun _ Q => Q d
theorem se_var {B : Gr} {i : Nat} : SE B (tVar i) (dVar i) := fun M σ H ds Q R g e h c => by
  unfold dVar at h
  split at h
  · rename_i d hd
    obtain ⟨v, hv, r⟩ := e.get i hd
    cases r with
    | dat r => exact ⟨v, hv, c v H d g Keep.refl r h⟩
  · exact h.elim
theorem se_c {B : Gr} {v : V} {d : PyData} (hv : ∀ M H, Dt M H v d) : SE B (tC v) (dC d) := fun M σ H ds Q R g e h c => c v H d g Keep.refl (hv M H) h

section
variable {X : Cx} {M : Addr → Prop} {B : Gr} {pos : Pos}
theorem d_var (i : Nat) {x : Str} (hN : X.N[i]? = some x := by rfl) (hv : Vis X.env.scope x := by first | exact Or.inl rfl | exact Or.inr (Or.inl rfl) | exact Or.inr (Or.inr rfl)) (hd : (x == ("__debug__" : Str)) = false := by decide)
    (hcd : (x == ("__classdict__" : Str)) = false := by decide) : PD X B (.Name x pos) (tVar i) (dVar i) := ⟨pe_var hN hv hd hcd, se_var⟩
theorem d_int {i j} : PD X B (.Constant (.int i) j pos) (tC (.int i)) (dC (.int i)) := ⟨pe_int, se_c fun _ _ => .int i⟩
theorem d_bl {b j} : PD X B (.Constant (.bool b) j pos) (tC (.bl b)) (dC (.bool b)) := ⟨pe_bl, se_c fun _ _ => .bl b⟩
theorem d_non {j} : PD X B (.Constant .none j pos) (tC .non) (dC .none) := ⟨pe_non, se_c fun _ _ => .non⟩
theorem d_str {x j} : PD X B (.Constant (.str x) j pos) (tC (.str x)) (dC (.str x)) := ⟨pe_str, se_c fun _ _ => .str x⟩
end

/-! ### operators -/
abbrev D2 := PyData → PyData → (PyData → Prop) → Prop
def RD (B : Gr) (r2 : R2) (r : D2) : Prop := ∀ (M : Addr → Prop) x y dx dy H Q R, Good M B H → Dt M H x dx → Dt M H y dy → r dx dy Q → Cont M B H Q R → r2 x y H R
def dOp (r : D2) (a b : TDE) : TDE := fun ds Q => a ds fun x => b ds fun y => r x y Q
theorem se_op {B : Gr} {r2 : R2} {r : D2} {ta tb : TE} {a b : TDE} (hr : RD B r2 r) (ha : SE B ta a) (hb : SE B tb b) : SE B (tOp r2 ta tb) (dOp r a b) := fun M σ H ds Q R g e h c => by
  refine ha M σ H ds _ _ g e h fun x H1 dx g1 k1 hx q1 => ?_
  refine hb M σ H1 ds _ _ g1 (e.keep g.1 k1) q1 fun y H2 dy g2 k2 hy q2 => ?_
  exact hr M x y dx dy H2 Q R g2 (hx.keep g.1 k2) hy q2 (c.keep (k1.trans k2))
theorem d_op {X : Cx} {B : Gr} {op : Operator} {a b : Expr} {ta tb : TE} {da db : TDE} {pos : Pos} {r2 : R2} {r : D2} (ho : OpR X (binaryOp op) r2) (hr : RD B r2 r) (ha : PD X B a ta da) (hb : PD X B b tb db) :
    PD X B (.BinOp a op b pos) (tOp r2 ta tb) (dOp r da db) := ⟨pe_op ho ha.pe hb.pe, se_op hr ha.se hb.se⟩

def dSize (n : Nat) : Prop := n ≤ 1000000
theorem dSize.le {n : Nat} (h : dSize n) : n ≤ sizeLine := Nat.le_trans h (by rw [sizeLine_eq]; decide)
def rAdd : D2 := fun x y Q => match x, y with
  | .int i, .int j => Q (.int (i + j))
  | .list a, .list b => dSize (a.length + b.length) ∧ Q (.list (a ++ b))
  | .tuple a, .tuple b => dSize (a.length + b.length) ∧ Q (.tuple (a ++ b))
  | .str a, .str b => dSize (a.length + b.length) ∧ Q (.str (a ++ b))
  | _, _ => False
/-! #### + - * // % ** -/
def rAddV (K : PySem.W.Frag) : R2 := fun x y H Q =>
  (∃ i j, x = .int i ∧ y = .int j ∧ Q (.int (i + j)) H) ∨ (rCat x y H Q) ∨ rCatA K x y H Q ∨ (∃ i j, x = .str i ∧ y = .str j ∧ i.length + j.length ≤ sizeLine ∧ Q (.str (i ++ j)) H)
theorem op_addV {X : Cx} : OpR X (binaryOp .Add) (rAddV X.K) := OpR.or op_add (OpR.or op_cat (OpR.or op_catA op_add_str))
theorem rd_add {B : Gr} {K : PySem.W.Frag} : RD B (rAddV K) rAdd := by
  intro M x y dx dy H Q R g hx hy h c
  cases dx <;> cases dy <;> first | exact h.elim | skip
  · rename_i i j
    cases hx
    cases hy
    exact .inl ⟨i, j, rfl, rfl, c _ H _ g Keep.refl (.int _) h⟩
  · rename_i i j
    cases hx
    cases hy
    exact .inr (.inr (.inr ⟨i, j, rfl, rfl, h.1.le, c _ H _ g Keep.refl (.str _) h.2⟩))
  · rename_i a b
    cases hx with
    | lst n1 e1 a1 =>
      cases hy with
      | lst n2 e2 a2 =>
        refine .inr (.inl ⟨_, _, _, _, rfl, rfl, e1, e2, (by rw [a1.length, a2.length]; exact h.1.le), fun p hp => ?_⟩)
        exact c _ _ _ (g.new hp) (Keep.new hp) (Dt.newL g hp (a1.append a2)) h.2
  · rename_i a b
    cases hx with
    | tup n1 e1 a1 =>
      cases hy with
      | tup n2 e2 a2 =>
        refine .inr (.inr (.inl ⟨_, _, _, _, rfl, rfl, SqT.of e1, SqT.of e2, (by rw [a1.length, a2.length]; exact h.1.le), fun z => ?_, fun z z2 => ?_, fun _ _ p hp => ?_⟩))
        · subst z
          cases a1
          exact c _ H _ g Keep.refl (.tup n2 e2 a2) h.2
        · subst z2
          cases a2
          exact c _ H _ g Keep.refl (.tup n1 e1 (by rw [List.append_nil]; exact a1)) h.2
        · exact c _ _ _ (g.new hp) (Keep.new hp) (Dt.newT g hp (a1.append a2)) h.2
def rSub : D2 := fun x y Q => match x, y with
  | .int i, .int j => Q (.int (i - j))
  | _, _ => False
theorem rd_sub {B : Gr} : RD B (rI0 fun i j => .int (i - j)) rSub := by
  intro M x y dx dy H Q R g hx hy h c
  cases dx <;> cases dy <;> first | exact h.elim | skip
  cases hx
  cases hy
  exact ⟨_, _, rfl, rfl, c _ H _ g Keep.refl (.int _) h⟩
/-- a product: each factor of at most 300000 bits -/
def rMul : D2 := fun x y Q => match x, y with
  | .int i, .int j => CMulW i j ∧ Q (.int (i * j))
  | .list a, .int k => 0 ≤ k ∧ k < 1000 ∧ a.length ≤ 1000 ∧ Q (.list (List.replicate k.toNat a).flatten)
  | _, _ => False
theorem op_mulV {X : Cx} : OpR X (binaryOp .Mult) (fun x y H Q => rI CMulW (fun i j => .int (i * j)) x y H Q ∨ rRep x y H Q) := OpR.or op_mulW op_rep
theorem rd_mul {B : Gr} : RD B (fun x y H Q => rI CMulW (fun i j => .int (i * j)) x y H Q ∨ rRep x y H Q) rMul := by
  intro M x y dx dy H Q R g hx hy h c
  cases dx <;> cases dy <;> first | exact h.elim | skip
  · cases hx
    cases hy
    exact .inl ⟨_, _, rfl, rfl, h.1, c _ H _ g Keep.refl (.int _) h.2⟩
  · rename_i a k
    cases hy
    cases hx with
    | lst n1 e1 a1 =>
      obtain ⟨k0, k1, ka, q⟩ := h
      have hl := a1.length
      have hs : sizeLine = 16777216 := sizeLine_eq
      have hm : a.length * k.toNat ≤ 1000 * 1000 := Nat.mul_le_mul ka (by omega)
      refine .inr ⟨_, _, _, rfl, rfl, e1, by omega, by omega, by rw [hl]; omega, fun p hp => ?_⟩
      exact c _ _ _ (g.new hp) (Keep.new hp) (Dt.newL g hp (a1.replicate _)) q
def rFdiv : D2 := fun x y Q => match x, y with
  | .int i, .int j => 0 < j ∧ j < 2 ^ 1000 ∧ Q (.int (i / j))
  | _, _ => False
theorem rd_fdiv {B : Gr} : RD B (rI CDivW fun i j => .int (i / j)) rFdiv := by
  intro M x y dx dy H Q R g hx hy h c
  cases dx <;> cases dy <;> first | exact h.elim | skip
  cases hx
  cases hy
  obtain ⟨h0, h1, q⟩ := h
  refine ⟨_, _, rfl, rfl, wide_div h0 (b := 1000) ?_ (by decide) (by decide), c _ H _ g Keep.refl (.int _) q⟩
  have e : ((2 : Int) ^ 1000) = (((2 : Nat) ^ 1000 : Nat) : Int) := by rfl
  rw [e] at h1
  generalize (2 : Nat) ^ 1000 = m at h1 ⊢
  omega
def rMod : D2 := fun x y Q => match x, y with
  | .int i, .int j => 0 < j ∧ Q (.int (i % j))
  | _, _ => False
theorem rd_mod {B : Gr} : RD B (rI (fun _ j => 0 < j) fun i j => .int (i % j)) rMod := by
  intro M x y dx dy H Q R g hx hy h c
  cases dx <;> cases dy <;> first | exact h.elim | skip
  cases hx
  cases hy
  exact ⟨_, _, rfl, rfl, h.1, c _ H _ g Keep.refl (.int _) h.2⟩
def rPow : D2 := fun x y Q => match x, y with
  | .int i, .int j => CPow i j ∧ Q (.int (i ^ j.toNat))
  | _, _ => False
theorem rd_pow {B : Gr} : RD B (rI CPow fun i j => .int (i ^ j.toNat)) rPow := by
  intro M x y dx dy H Q R g hx hy h c
  cases dx <;> cases dy <;> first | exact h.elim | skip
  cases hx
  cases hy
  exact ⟨_, _, rfl, rfl, h.1, c _ H _ g Keep.refl (.int _) h.2⟩

/-! #### one place -/
def dUn (r : PyData → (PyData → Prop) → Prop) (a : TDE) : TDE := fun ds Q => a ds fun x => r x Q
def rNeg : PyData → (PyData → Prop) → Prop := fun x Q => match x with
  | .int i => Q (.int (-i))
  | _ => False
theorem d_neg {X : Cx} {B : Gr} {a : Expr} {ta : TE} {da : TDE} {pos : Pos} (ha : PD X B a ta da) : PD X B (.UnaryOp .USub a pos) (tUn (rU fun i => .int (-i)) ta) (dUn rNeg da) :=
  ⟨pe_un un_neg ha.pe, fun M σ H ds Q R g e h c => ha.se M σ H ds _ _ g e h fun x H1 dx g1 k1 hx q1 => by
    cases dx <;> first | exact q1.elim | skip
    cases hx
    exact ⟨_, rfl, c _ H1 _ g1 k1 (.int _) q1⟩⟩

/-! #### comparisons -/
def rEqA : D2 := fun x y Q => match x, y with
  | .str s, .str t => Q (.bool (decide (s = t)))
  | x, y => SeqAt.shaped x = true ∧ SeqAt.shaped y = true ∧ Q (.bool (PyData.eqv x y))
def rNeA : D2 := fun x y Q => match x, y with
  | .str s, .str t => Q (.bool (!decide (s = t)))
  | x, y => SeqAt.shaped x = true ∧ SeqAt.shaped y = true ∧ Q (.bool (!PyData.eqv x y))
def rEqV (K : PySem.W.Frag) : R2 := fun x y H Q => rEq x y H Q ∨ rEqD K x y H Q
def rNeV (K : PySem.W.Frag) : R2 := fun x y H Q => rNe x y H Q ∨ rNeD K x y H Q
theorem op_eqV {X : Cx} (hu : X.A.units + 64 < cLine) : OpR X (compareOp .Eq) (rEqV X.K) := OpR.or op_eq (op_eqD hu)
theorem op_neV {X : Cx} (hu : X.A.units + 64 < cLine) : OpR X (compareOp .NotEq) (rNeV X.K) := OpR.or op_ne (op_neD hu)
theorem str_dec {s t : Str} : decide (V.str s = V.str t) = decide (s = t) := by
  rw [Bool.eq_iff_iff]
  simp
theorem rd_eq {B : Gr} {K : PySem.W.Frag} : RD B (rEqV K) rEqA := by
  intro M x y dx dy H Q R g hx hy h c
  unfold rEqA at h
  split at h
  · cases hx
    cases hy
    exact .inl ⟨rfl, by rw [str_dec]; exact c _ H _ g Keep.refl (.bl _) h⟩
  · exact .inr ⟨_, _, Dt.dp (PyData.hasDict_of_canLay _ (SeqAt.canLay_of_shaped h.1)) hx, Dt.dp (PyData.hasDict_of_canLay _ (SeqAt.canLay_of_shaped h.2.1)) hy, h.1, h.2.1, c _ H _ g Keep.refl (.bl _) h.2.2⟩
theorem rd_ne {B : Gr} {K : PySem.W.Frag} : RD B (rNeV K) rNeA := by
  intro M x y dx dy H Q R g hx hy h c
  unfold rNeA at h
  split at h
  · cases hx
    cases hy
    exact .inl ⟨rfl, by rw [str_dec]; exact c _ H _ g Keep.refl (.bl _) h⟩
  · exact .inr ⟨_, _, Dt.dp (PyData.hasDict_of_canLay _ (SeqAt.canLay_of_shaped h.1)) hx, Dt.dp (PyData.hasDict_of_canLay _ (SeqAt.canLay_of_shaped h.2.1)) hy, h.1, h.2.1, c _ H _ g Keep.refl (.bl _) h.2.2⟩
def rCmpI (p : Int → Int → Bool) : D2 := fun x y Q => match x, y with
  | .int i, .int j => Q (.bool (p i j))
  | _, _ => False
theorem rd_cmpI {B : Gr} {p : Int → Int → Bool} : RD B (rI0 fun i j => .bl (p i j)) (rCmpI p) := by
  intro M x y dx dy H Q R g hx hy h c
  cases dx <;> cases dy <;> first | exact h.elim | skip
  cases hx
  cases hy
  exact ⟨_, _, rfl, rfl, c _ H _ g Keep.refl (.bl _) h⟩
def isNone : PyData → Bool
  | .none => true
  | _ => false
theorem Dt.isNone {M : Addr → Prop} {H : Hp} {v : V} {d : PyData} (h : Dt M H v d) : decide (v = .non) = isNone d := by
  cases h <;> rfl
def rIsNo : D2 := fun x y Q => y = .none ∧ Q (.bool (isNone x))
def rNotNo : D2 := fun x y Q => y = .none ∧ Q (.bool (!isNone x))
theorem rd_isN {B : Gr} : RD B (fun x y H Q => y = .non ∧ Q (.bl (decide (x = .non))) H) rIsNo := by
  intro M x y dx dy H Q R g hx hy h c
  obtain ⟨rfl, q⟩ := h
  cases hy
  exact ⟨rfl, by rw [hx.isNone]; exact c _ H _ g Keep.refl (.bl _) q⟩
theorem rd_notN {B : Gr} : RD B (fun x y H Q => y = .non ∧ Q (.bl (!decide (x = .non))) H) rNotNo := by
  intro M x y dx dy H Q R g hx hy h c
  obtain ⟨rfl, q⟩ := h
  cases hy
  exact ⟨rfl, by rw [hx.isNone]; exact c _ H _ g Keep.refl (.bl _) q⟩
def eqD : PyData → PyData → Bool
  | .none, .none => true
  | .bool a, .bool b => a == b
  | .bool a, .int b => (if a then 1 else 0) == b
  | .int a, .bool b => a == (if b then 1 else 0)
  | .int a, .int b => a == b
  | .str a, .str b => a == b
  | _, _ => false
def inD (x : PyData) (ys : List PyData) : Bool := ys.any fun y => eqD y x
theorem Dt.flat {M : Addr → Prop} {H : Hp} {v : V} {d : PyData} (h : Dt M H v d) : flatV v = flatD d := by
  cases h <;> rfl
theorem Dt.eqV {M : Addr → Prop} {H : Hp} {v u : V} {d e : PyData} (h : Dt M H v d) (k : Dt M H u e) : eqV v u = eqD d e := by
  cases h <;> cases k <;> rfl
theorem DtA.flat {M : Addr → Prop} {H : Hp} : ∀ {ds : List PyData} {vs : List V}, DtA M H vs ds → vs.all flatV = ds.all flatD
  | [], _, h => by cases h; rfl
  | d :: ds, _, h => by
    cases h with
    | cons h1 h2 => rw [List.all_cons, List.all_cons, h1.flat, DtA.flat h2]
theorem DtA.inV {M : Addr → Prop} {H : Hp} {v : V} {d : PyData} (h : Dt M H v d) : ∀ {ds : List PyData} {vs : List V}, DtA M H vs ds → inV v vs = inD d ds
  | [], _, h => by cases h; rfl
  | d :: ds, _, h' => by
    cases h' with
    | cons h1 h2 =>
      have := DtA.inV h h2
      unfold L2.inV inD at *
      rw [List.any_cons, List.any_cons, h1.eqV h, this]
def rInD (neg : Bool) : D2 := fun x y Q => match y with
  | .list ys => flatD x = true ∧ ys.all flatD = true ∧ Q (.bool (if neg then !inD x ys else inD x ys))
  | .tuple ys => flatD x = true ∧ ys.all flatD = true ∧ Q (.bool (if neg then !inD x ys else inD x ys))
  | _ => False
theorem rd_in {B : Gr} {K : PySem.W.Frag} {neg : Bool} : RD B (rIn K neg) (rInD neg) := by
  intro M x y dx dy H Q R g hx hy h c
  cases dy <;> first | exact h.elim | skip
  · cases hy with
    | lst n e a => exact ⟨_, _, rfl, .inl (SqL.of e), by rw [hx.flat]; exact h.1, by rw [a.flat]; exact h.2.1, by rw [a.inV hx]; exact c _ H _ g Keep.refl (.bl _) h.2.2⟩
  · cases hy with
    | tup n e a => exact ⟨_, _, rfl, .inr (SqT.of e), by rw [hx.flat]; exact h.1, by rw [a.flat]; exact h.2.1, by rw [a.inV hx]; exact c _ H _ g Keep.refl (.bl _) h.2.2⟩
theorem d_cmp {X : Cx} {B : Gr} {op : CmpOp} {a b : Expr} {ta tb : TE} {da db : TDE} {pos : Pos} {r2 : R2} {r : D2} (ho : OpR X (compareOp op) r2) (hr : RD B r2 r) (ha : PD X B a ta da) (hb : PD X B b tb db) (hm : behindInMarks op b = false) :
    PD X B (.Compare a [op] [b] pos) (tOp r2 ta tb) (dOp r da db) := ⟨pe_cmpR ho ha.pe hb.pe hm, se_op hr ha.se hb.se⟩
def dChain (r r' : D2) (a b c : TDE) : TDE := fun ds Q => a ds fun x => b ds fun y => r x y fun z => match z with
  | .bool true => c ds fun w => r' y w Q
  | .bool false => Q (.bool false)
  | _ => False
theorem d_chain {X : Cx} {B : Gr} {op op' : CmpOp} {a b c : Expr} {ta tb tc : TE} {da db dc : TDE} {pos : Pos} {r2 r2' : R2} {r r' : D2} (ho : OpR X (compareOp op) r2) (ho' : OpR X (compareOp op') r2') (hr : RD B r2 r) (hr' : RD B r2' r')
    (ha : PD X B a ta da) (hb : PD X B b tb db) (hc : PD X B c tc dc) (hm : lastMarks [op, op'] [b, c] = false := by with_unfolding_all rfl) : PD X B (.Compare a [op, op'] [b, c] pos) (tChain r2 r2' ta tb tc) (dChain r r' da db dc) :=
  ⟨pe_chain ho ho' ha.pe hb.pe hc.pe hm, fun M σ H ds Q R g e h k => by
    refine ha.se M σ H ds _ _ g e h fun x H1 dx g1 k1 hx q1 => ?_
    refine hb.se M σ H1 ds _ _ g1 (e.keep g.1 k1) q1 fun y H2 dy g2 k2 hy q2 => ?_
    refine hr M x y dx dy H2 _ _ g2 (hx.keep g.1 k2) hy q2 fun z H3 dz g3 k3 hz q3 => ?_
    cases dz <;> first | exact q3.elim | skip
    rename_i bb
    cases hz
    refine ⟨bb, rfl, ?_⟩
    cases bb with
    | false => exact iteF (k _ H3 _ g3 (k1.trans (k2.trans k3)) (.bl _) q3)
    | true =>
      refine iteT ?_
      refine hc.se M σ H3 ds _ _ g3 (e.keep g.1 (k1.trans (k2.trans k3))) q3 fun w H4 dw g4 k4 hw q4 => ?_
      exact hr' M y w dy dw H4 Q R g4 ((hy.keep g.1 k3).keep g.1 k4) hw q4 (k.keep (k1.trans (k2.trans (k3.trans k4))))⟩

/-! #### subscripts and slices -/
theorem DtA.atI {M : Addr → Prop} {H : Hp} {ds : List PyData} {vs : List V} {d : PyData} {i : Int} (h : DtA M H vs ds) (e : atI ds i = some d) : ∃ v, atI vs i = some v ∧ Dt M H v d := by
  unfold L2.atI at e ⊢
  rw [h.length]
  cases q : ixN ds.length i with
  | none => rw [q] at e; cases e
  | some j =>
    rw [q] at e
    obtain ⟨v, hv, r⟩ := DtA.get j h e
    exact ⟨v, hv, r⟩
def rIx : D2 := fun x y Q => match x, y with
  | .list l, .int i => ∃ d, atI l i = some d ∧ Q d
  | .tuple l, .int i => ∃ d, atI l i = some d ∧ Q d
  | .str z, .int i => dSize z.length ∧ ∃ c, atI z.cps.toList i = some c ∧ Q (.str ⟨#[c]⟩)
  | _, _ => False
theorem rd_ix {B : Gr} {K : PySem.W.Frag} : RD B (fun x y H Q => rIxL K x y H Q ∨ rIxT K x y H Q ∨ rIxS x y H Q) rIx := by
  intro M x y dx dy H Q R g hx hy h c
  cases dx <;> cases dy <;> first | exact h.elim | skip
  · cases hx
    cases hy
    obtain ⟨hz, ch, e, q⟩ := h
    exact .inr (.inr ⟨_, _, ch, rfl, rfl, hz.le, e, c _ H _ g Keep.refl (.str _) q⟩)
  · cases hy
    cases hx with
    | lst n e a =>
      obtain ⟨d, hd, q⟩ := h
      obtain ⟨v, hv, r⟩ := a.atI hd
      exact .inl ⟨_, _, _, v, rfl, rfl, SqL.of e, hv, c _ H _ g Keep.refl r q⟩
  · cases hy
    cases hx with
    | tup n e a =>
      obtain ⟨d, hd, q⟩ := h
      obtain ⟨v, hv, r⟩ := a.atI hd
      exact .inr (.inl ⟨_, _, _, v, rfl, rfl, SqT.of e, hv, c _ H _ g Keep.refl r q⟩)
theorem d_ix {X : Cx} {B : Gr} {a b : Expr} {ta tb : TE} {da db : TDE} {pos : Pos} (ha : PD X B a ta da) (hb : PD X B b tb db) (hs : PlainIx b := by exact fun _ _ => rfl) :
    PD X B (.Subscript a b pos) (tOp (fun x y H Q => rIxL X.K x y H Q ∨ rIxT X.K x y H Q ∨ rIxS x y H Q) ta tb) (dOp rIx da db) := ⟨pe_ix (IxR.or ix_list (IxR.or ix_tup ix_str)) ha.pe hb.pe hs, se_op rd_ix ha.se hb.se⟩
abbrev TDO := DEnv → (Option Int → Prop) → Prop
structure PDO (X : Cx) (B : Gr) (e : Option Expr) (te : TO) (t : TDO) : Prop where
  po : PO X e te
  so : ∀ (M : Addr → Prop) σ H ds Q (R : Option Int → Hp → Prop), Good M B H → EnvAt M B H σ ds → t ds Q → (∀ o H', Good M B H' → Keep M B H H' → Q o → R o H') → te σ H R
theorem do_none {X : Cx} {B : Gr} : PDO X B none tNoPart (fun _ Q => Q none) := ⟨po_none, fun _ _ H _ _ _ g _ h c => c none H g Keep.refl h⟩
def dPart (a : TDE) : TDO := fun ds Q => a ds fun x => match x with
  | .int i => Q (some i)
  | _ => False
theorem do_some {X : Cx} {B : Gr} {e : Expr} {te : TE} {d : TDE} (h : PD X B e te d) : PDO X B (some e) (tPart te) (dPart d) :=
  ⟨po_some h.pe, fun M σ H ds Q R g e hq c => h.se M σ H ds _ _ g e hq fun x H1 dx g1 k1 hx q1 => by
    cases dx <;> first | exact q1.elim | skip
    cases hx
    exact ⟨_, rfl, c _ H1 g1 k1 q1⟩⟩
def cutD (xs : List PyData) (lo hi : Option Int) : List PyData := (xs.drop (HT.sIx xs.length 0 lo)).take (HT.sIx xs.length xs.length hi - HT.sIx xs.length 0 lo)
theorem DtA.cut {M : Addr → Prop} {H : Hp} {ds : List PyData} {vs : List V} (h : DtA M H vs ds) (lo hi : Option Int) : DtA M H (cutV vs lo hi) (cutD ds lo hi) := by
  unfold cutV cutD
  rw [h.length]
  exact DtA.take _ (DtA.drop _ h)
def rSlD : PyData → Option Int → Option Int → (PyData → Prop) → Prop := fun x lo hi Q => match x with
  | .list l => Q (.list (cutD l lo hi))
  | .tuple l => Q (.tuple (cutD l lo hi))
  | .str z => dSize z.length ∧ Q (.str (cutS z lo hi))
  | _ => False
def dSl (te : TDE) (tl th : TDO) : TDE := fun ds Q => te ds fun x => tl ds fun l => th ds fun u => rSlD x l u Q
theorem d_slice {X : Cx} {B : Gr} {a : Expr} {lo hi : Option Expr} {ta : TE} {tl th : TO} {da : TDE} {dl dh : TDO} {pos p2 : Pos} (ha : PD X B a ta da) (hl : PDO X B lo tl dl) (hh : PDO X B hi th dh) :
    PD X B (.Subscript a (.Slice lo hi none p2) pos) (tSl (fun x l u H Q => rSlL X.K x l u H Q ∨ rSlA X.K x l u H Q ∨ rSlS x l u H Q) ta tl th) (dSl da dl dh) :=
  ⟨pe_slice (SlR.or sl_list (SlR.or sl_tupA sl_str)) ha.pe hl.po hh.po, fun M σ H ds Q R g e h c => by
    refine ha.se M σ H ds _ _ g e h fun x H1 dx g1 k1 hx q1 => ?_
    refine hl.so M σ H1 ds _ _ g1 (e.keep g.1 k1) q1 fun l H2 g2 k2 q2 => ?_
    refine hh.so M σ H2 ds _ _ g2 (e.keep g.1 (k1.trans k2)) q2 fun u H3 g3 k3 q3 => ?_
    have c' := c.keep (k1.trans (k2.trans k3))
    have hx' := (hx.keep g.1 k2).keep g.1 k3
    cases dx <;> first | exact q3.elim | skip
    · cases hx'
      exact .inr (.inr ⟨_, rfl, q3.1.le, c' _ H3 _ g3 Keep.refl (.str _) q3.2⟩)
    · cases hx' with
      | lst n e a => exact .inl ⟨_, _, rfl, SqL.of e, fun p hp => c' _ _ _ (g3.new hp) (Keep.new hp) (Dt.newL g3 hp (a.cut _ _)) q3⟩
    · rename_i ll
      cases hx' with
      | @tup a xs ds n e a =>
        refine .inr (.inl ⟨_, _, rfl, SqT.of e, fun w => ?_, fun _ p hp => c' _ _ _ (g3.new hp) (Keep.new hp) (Dt.newT g3 hp (a.cut _ _)) q3⟩)
        refine c' _ H3 _ g3 Keep.refl (.tup n e ?_) q3
        have hc := a.cut l u
        have e2 : cutV xs l u = xs := by
          unfold cutV
          rw [w.1, w.2, Nat.sub_zero, List.drop_zero, List.take_length]
        rw [e2] at hc
        exact hc⟩
end DL
namespace DL
open PySem L2

/-! ### items: of displays, of built-ins; arguments of defs -/
abbrev TDL := DEnv → (List PyData → Prop) → Prop
abbrev TDA := DEnv → (List DV → Prop) → Prop
structure PDL (X : Cx) (B : Gr) (es : List Expr) (ta : TA) (t : TDL) : Prop where
  pa : PA X es ta
  sl : ∀ (M : Addr → Prop) σ H ds Q (R : List V → Hp → Prop), Good M B H → EnvAt M B H σ ds → t ds Q → (∀ vs H' l, Good M B H' → Keep M B H H' → DtA M H' vs l → Q l → R vs H') → ta σ H R
structure PDA (X : Cx) (B : Gr) (es : List Expr) (ta : TA) (t : TDA) : Prop where
  pa : PA X es ta
  sa : ∀ (M : Addr → Prop) σ H ds Q (R : List V → Hp → Prop), Good M B H → EnvAt M B H σ ds → t ds Q → (∀ vs H' xs, Good M B H' → Keep M B H H' → ArgsAt M B H' vs xs → Q xs → R vs H') → ta σ H R
theorem ArgsAt.keep {M : Addr → Prop} {B : Gr} {H H' : Hp} (m : M B) (k : Keep M B H H') : ∀ {vs : List V} {xs : List DV}, ArgsAt M B H vs xs → ArgsAt M B H' vs xs
  | _, _, .nil => .nil
  | _, _, .cons h n t => .cons (h.keep m k) n (ArgsAt.keep m k t)
def dNil : TDL := fun _ Q => Q []
def dCons (a : TDE) (r : TDL) : TDL := fun ds Q => a ds fun x => r ds fun xs => Q (x :: xs)
def aNil : TDA := fun _ Q => Q []
def aCons (a : TDE) (r : TDA) : TDA := fun ds Q => a ds fun x => r ds fun xs => Q (.dat x :: xs)
/-- a name as an argument: data, or the bag -/
def aVar (i : Nat) (r : TDA) : TDA := fun ds Q => match ds[i]? with
  | some (some .bag) => r ds fun xs => Q (.bag :: xs)
  | some (some (.dat d)) => r ds fun xs => Q (.dat d :: xs)
  | _ => False
section
variable {X : Cx} {B : Gr} {e : Expr} {es : List Expr} {te : TE} {ta : TA} {d : TDE} {pos : Pos}
theorem dl_nil : PDL X B [] tNil dNil := ⟨pa_nil, fun M σ H ds Q R g e h c => c [] H [] g Keep.refl .nil h⟩
theorem dl_cons {t : TDL} (ha : PD X B e te d) (hr : PDL X B es ta t) (hs : starEach (e :: es) X.env = (false, eval e X.env) :: starEach es X.env := by rfl) : PDL X B (e :: es) (tCons te ta) (dCons d t) :=
  ⟨pa_cons ha.pe hr.pa hs, fun M σ H ds Q R g en h c => by
    refine ha.se M σ H ds _ _ g en h fun x H1 dx g1 k1 hx q1 => ?_
    refine hr.sl M σ H1 ds _ _ g1 (en.keep g.1 k1) q1 fun vs H2 l g2 k2 hl q2 => ?_
    exact c (x :: vs) H2 (dx :: l) g2 (k1.trans k2) (.cons (hx.keep g.1 k2) hl) q2⟩
theorem da_nil : PDA X B [] tNil aNil := ⟨pa_nil, fun M σ H ds Q R g e h c => c [] H [] g Keep.refl .nil h⟩
theorem da_cons {t : TDA} (ha : PD X B e te d) (hr : PDA X B es ta t) (hs : starEach (e :: es) X.env = (false, eval e X.env) :: starEach es X.env := by rfl) : PDA X B (e :: es) (tCons te ta) (aCons d t) :=
  ⟨pa_cons ha.pe hr.pa hs, fun M σ H ds Q R g en h c => by
    refine ha.se M σ H ds _ _ g en h fun x H1 dx g1 k1 hx q1 => ?_
    refine hr.sa M σ H1 ds _ _ g1 (en.keep g.1 k1) q1 fun vs H2 l g2 k2 hl q2 => ?_
    exact c (x :: vs) H2 (.dat dx :: l) g2 (k1.trans k2) (.cons (.dat (hx.keep g.1 k2)) trivial hl) q2⟩
theorem da_var {t : TDA} {x : Str} (i : Nat) (hr : PDA X B es ta t) (hN : X.N[i]? = some x := by rfl) (hv : Vis X.env.scope x := by first | exact Or.inl rfl | exact Or.inr (Or.inl rfl) | exact Or.inr (Or.inr rfl)) (hd : (x == ("__debug__" : Str)) = false := by decide)
    (hcd : (x == ("__classdict__" : Str)) = false := by decide) (hs : starEach (.Name x pos :: es) X.env = (false, eval (.Name x pos) X.env) :: starEach es X.env := by rfl) : PDA X B (.Name x pos :: es) (tCons (tVar i) ta) (aVar i t) :=
  ⟨pa_cons (pe_var hN hv hd hcd) hr.pa hs, fun M σ H ds Q R g en h c => by
    unfold aVar at h
    split at h
    · rename_i hy
      obtain ⟨v, hv, r⟩ := en.get i hy
      refine ⟨v, hv, ?_⟩
      refine hr.sa M σ H ds _ _ g en h fun vs H2 l g2 k2 hl q2 => ?_
      exact c (v :: vs) H2 (.bag :: l) g2 k2 (.cons (r.keep g.1 k2) trivial hl) q2
    · rename_i y hy
      obtain ⟨v, hv, r⟩ := en.get i hy
      refine ⟨v, hv, ?_⟩
      refine hr.sa M σ H ds _ _ g en h fun vs H2 l g2 k2 hl q2 => ?_
      exact c (v :: vs) H2 (.dat y :: l) g2 k2 (.cons (r.keep g.1 k2) trivial hl) q2
    · exact h.elim⟩

/-! ### displays -/
def dTup (t : TDL) : TDE := fun ds Q => t ds fun l => dSize l.length ∧ Q (.tuple l)
def dLst (t : TDL) : TDE := fun ds Q => t ds fun l => dSize l.length ∧ Q (.list l)
theorem d_tup {x1} {t : TDL} (h : PDL X B es ta t) : PD X B (.Tuple es x1 pos) (tTup ta) (dTup t) :=
  ⟨pe_tup h.pa, fun M σ H ds Q R g en hq c => h.sl M σ H ds _ _ g en hq fun vs H1 l g1 k1 hl q1 =>
    ⟨by rw [hl.length]; exact q1.1.le, fun p hp => c _ _ _ (g1.new hp) (k1.trans (Keep.new hp)) (Dt.newT g1 hp hl) q1.2⟩⟩
theorem d_lst {t : TDL} (h : PDL X B es ta t) : PD X B (.List es pos) (tLst ta) (dLst t) :=
  ⟨pe_lst h.pa, fun M σ H ds Q R g en hq c => h.sl M σ H ds _ _ g en hq fun vs H1 l g1 k1 hl q1 =>
    ⟨by rw [hl.length]; exact q1.1.le, fun p hp => c _ _ _ (g1.new hp) (k1.trans (Keep.new hp)) (Dt.newL g1 hp hl) q1.2⟩⟩

/-! ### built-ins by their values -/
abbrev DC := List PyData → (PyData → Prop) → Prop
def RDC (B : Gr) (r : List V → Hp → VK → Prop) (d : DC) : Prop := ∀ (M : Addr → Prop) vs l H Q R, Good M B H → DtA M H vs l → d l Q → Cont M B H Q R → r vs H R
def dCB (r : DC) (t : TDL) : TDE := fun ds Q => t ds fun l => r l Q
theorem se_cb {r : List V → Hp → VK → Prop} {rd : DC} {t : TDL} {ta : TA} (hr : RDC B r rd) (h : PDL X B es ta t) : SE B (tCB r ta) (dCB rd t) := fun M σ H ds Q R g en hq c =>
  h.sl M σ H ds _ _ g en hq fun vs H1 l g1 k1 hl q1 => hr M vs l H1 Q R g1 hl q1 (c.keep k1)
theorem d_callB {x : Str} {p : Pos} {id : String} {r : List V → Hp → VK → Prop} {rd : DC} {t : TDL} (hc : CallR X (.builtin id) r) (hr : RDC B r rd) (hg : Gl X x) (hm : X.mg x = none) (hv : bootBuiltins x = some (.builtin id)) (ha : PDL X B (e :: es) ta t) (hn : x ≠ "__name__" := by decide)
    (hdb : (x == ("__debug__" : Str)) = false := by decide) (he : starEach (e :: es) X.env = (false, eval e X.env) :: starEach es X.env := by rfl) (hpl : (backTo pos (starEach es X.env)).any (·.1) = false := by rfl) :
    PD X B (.Call (.Name x p) (e :: es) [] pos) (tCB r ta) (dCB rd t) := ⟨pe_callB hc hg hm hv ha.pa hn hdb he hpl, se_cb hr ha⟩
theorem d_callTy {x : Str} {p : Pos} {T : String} {r : List V → Hp → VK → Prop} {rd : DC} {t : TDL} (hc : CallR X (.type T) r) (hr : RDC B r rd) (hg : Gl X x) (hm : X.mg x = none) (hv : bootBuiltins x = some (.type T)) (ha : PDL X B (e :: es) ta t) (hn : x ≠ "__name__" := by decide)
    (hdb : (x == ("__debug__" : Str)) = false := by decide) (he : starEach (e :: es) X.env = (false, eval e X.env) :: starEach es X.env := by rfl) (hpl : (backTo pos (starEach es X.env)).any (·.1) = false := by rfl) :
    PD X B (.Call (.Name x p) (e :: es) [] pos) (tCB r ta) (dCB rd t) := ⟨pe_callTy hc hg hm hv ha.pa hn hdb he hpl, se_cb hr ha⟩
end
/-- len -/
def cLen : DC := fun l Q => match l with
  | [.list a] => Q (.int a.length)
  | [.tuple a] => Q (.int a.length)
  | [.str z] => dSize z.length ∧ Q (.int z.length)
  | _ => False
def rLenV (K : PySem.W.Frag) : List V → Hp → VK → Prop := fun xs H Q => (∃ p ys, xs = [.ref p] ∧ (SqL K H p ys ∨ SqT K H p ys) ∧ Q (.int ys.length) H) ∨ (∃ z, xs = [.str z] ∧ z.length ≤ sizeLine ∧ Q (.int z.length) H)
theorem CallR.or2 {X : Cx} {f : Value} {r r' : List V → Hp → VK → Prop} (h : CallR X f r) (h' : CallR X f r') : CallR X f (fun xs H Q => r xs H Q ∨ r' xs H Q) := by
  intro pins s σ H xs us Q I r h
  rcases h with h1 | h1
  · exact h pins s σ H xs us Q I r h1
  · exact h' pins s σ H xs us Q I r h1
theorem call_lenV {X : Cx} : CallR X (.builtin "len") (rLenV X.K) := CallR.or2 call_len_seq call_len_str
theorem rdc_len {B : Gr} {K : PySem.W.Frag} : RDC B (rLenV K) cLen := by
  intro M vs l H Q R g hl h c
  unfold cLen at h
  split at h
  · cases hl with
    | cons h1 h2 =>
      cases h2
      cases h1 with
      | lst n e a => exact .inl ⟨_, _, rfl, .inl (SqL.of e), by rw [a.length]; exact c _ H _ g Keep.refl (.int _) h⟩
  · cases hl with
    | cons h1 h2 =>
      cases h2
      cases h1 with
      | tup n e a => exact .inl ⟨_, _, rfl, .inr (SqT.of e), by rw [a.length]; exact c _ H _ g Keep.refl (.int _) h⟩
  · cases hl with
    | cons h1 h2 =>
      cases h2
      cases h1
      exact .inr ⟨_, rfl, h.1.le, c _ H _ g Keep.refl (.int _) h.2⟩
  · exact h.elim
def cMax2 : DC := fun l Q => match l with
  | [.int i, .int j] => Q (.int (if j > i then j else i))
  | _ => False
def cMin2 : DC := fun l Q => match l with
  | [.int i, .int j] => Q (.int (if j < i then j else i))
  | _ => False
theorem rdc_max2 {B : Gr} : RDC B (fun xs H Q => ∃ i j, xs = [.int i, .int j] ∧ Q (.int (if j > i then j else i)) H) cMax2 := by
  intro M vs l H Q R g hl h c
  unfold cMax2 at h
  split at h
  · cases hl with
    | cons h1 h2 =>
      cases h2 with
      | cons h3 h4 =>
        cases h4
        cases h1
        cases h3
        exact ⟨_, _, rfl, c _ H _ g Keep.refl (.int _) h⟩
  · exact h.elim
theorem rdc_min2 {B : Gr} : RDC B (fun xs H Q => ∃ i j, xs = [.int i, .int j] ∧ Q (.int (if j < i then j else i)) H) cMin2 := by
  intro M vs l H Q R g hl h c
  unfold cMin2 at h
  split at h
  · cases hl with
    | cons h1 h2 =>
      cases h2 with
      | cons h3 h4 =>
        cases h4
        cases h1
        cases h3
        exact ⟨_, _, rfl, c _ H _ g Keep.refl (.int _) h⟩
  · exact h.elim
def cInt : DC := fun l Q => match l with
  | [.int i] => Q (.int i)
  | [.bool b] => Q (.int (if b then 1 else 0))
  | _ => False
theorem rdc_int {B : Gr} : RDC B (fun xs H Q => (∃ i, xs = [.int i] ∧ Q (.int i) H) ∨ ∃ k, xs = [.bl k] ∧ Q (.int (if k then 1 else 0)) H) cInt := by
  intro M vs l H Q R g hl h c
  unfold cInt at h
  split at h
  · cases hl with
    | cons h1 h2 =>
      cases h2
      cases h1
      exact .inl ⟨_, rfl, c _ H _ g Keep.refl (.int _) h⟩
  · cases hl with
    | cons h1 h2 =>
      cases h2
      cases h1
      exact .inr ⟨_, rfl, c _ H _ g Keep.refl (.int _) h⟩
  · exact h.elim
def cAbs : DC := fun l Q => match l with
  | [.int i] => Q (.int (if i < 0 then -i else i))
  | _ => False
theorem rdc_abs {B : Gr} : RDC B (fun xs H Q => ∃ i, xs = [.int i] ∧ Q (.int (if i < 0 then -i else i)) H) cAbs := by
  intro M vs l H Q R g hl h c
  unfold cAbs at h
  split at h
  · cases hl with
    | cons h1 h2 =>
      cases h2
      cases h1
      exact ⟨_, rfl, c _ H _ g Keep.refl (.int _) h⟩
  · exact h.elim
def cTuple : DC := fun l Q => match l with
  | [.list a] => Q (.tuple a)
  | [.tuple a] => Q (.tuple a)
  | _ => False
def cList : DC := fun l Q => match l with
  | [.list a] => Q (.list a)
  | [.tuple a] => Q (.list a)
  | _ => False
theorem rdc_tuple {B : Gr} {K : PySem.W.Frag} : RDC B (fun xs H Q => ∃ p ys, xs = [.ref p] ∧ ((SqL K H p ys ∧ ∀ l, H l = none → Q (.ref l) (upd H l (.tup ys))) ∨ (SqT K H p ys ∧ Q (.ref p) H))) cTuple := by
  intro M vs l H Q R g hl h c
  unfold cTuple at h
  split at h
  · cases hl with
    | cons h1 h2 =>
      cases h2
      cases h1 with
      | lst n e a => exact ⟨_, _, rfl, .inl ⟨SqL.of e, fun p hp => c _ _ _ (g.new hp) (Keep.new hp) (Dt.newT g hp a) h⟩⟩
  · cases hl with
    | cons h1 h2 =>
      cases h2
      cases h1 with
      | tup n e a => exact ⟨_, _, rfl, .inr ⟨SqT.of e, c _ H _ g Keep.refl (.tup n e a) h⟩⟩
  · exact h.elim
theorem rdc_list {B : Gr} {K : PySem.W.Frag} : RDC B (fun xs H Q => ∃ p ys, xs = [.ref p] ∧ (SqL K H p ys ∨ SqT K H p ys) ∧ ∀ l, H l = none → Q (.ref l) (upd H l (.lst ys))) cList := by
  intro M vs l H Q R g hl h c
  unfold cList at h
  split at h
  · cases hl with
    | cons h1 h2 =>
      cases h2
      cases h1 with
      | lst n e a => exact ⟨_, _, rfl, .inl (SqL.of e), fun p hp => c _ _ _ (g.new hp) (Keep.new hp) (Dt.newL g hp a) h⟩
  · cases hl with
    | cons h1 h2 =>
      cases h2
      cases h1 with
      | tup n e a => exact ⟨_, _, rfl, .inr (SqT.of e), fun p hp => c _ _ _ (g.new hp) (Keep.new hp) (Dt.newL g hp a) h⟩
  · exact h.elim

/-! ### tests -/
abbrev TDT := DEnv → (Bool → Prop) → Prop
structure PDT (X : Cx) (B : Gr) (e : Expr) (tt : TT) (t : TDT) : Prop where
  pt : PT X e tt
  st : ∀ (M : Addr → Prop) σ H ds Q (R : Bool → Hp → Prop), Good M B H → EnvAt M B H σ ds → t ds Q → (∀ b H', Good M B H' → Keep M B H H' → Q b → R b H') → tt σ H R
structure PDW (X : Cx) (B : Gr) (e : Expr) (tt : TT) (t : TDT) : Prop where
  pw : PW X e tt
  st : ∀ (M : Addr → Prop) σ H ds Q (R : Bool → Hp → Prop), Good M B H → EnvAt M B H σ ds → t ds Q → (∀ b H', Good M B H' → Keep M B H H' → Q b → R b H') → tt σ H R
/-- a value's truth -/
def truD (x : PyData) (Q : Bool → Prop) : Prop := match x with
  | .none => Q false
  | .bool b => Q b
  | .int i => Q (i != 0)
  | .str z => dSize z.length ∧ Q ((z.length : Int) != 0)
  | .list l => Q (!l.isEmpty)
  | .tuple l => Q (!l.isEmpty)
  | .dict _ => False
def dTru (a : TDE) : TDT := fun ds Q => a ds fun x => truD x Q
section
variable {X : Cx} {B : Gr} {e : Expr} {te : TE} {d : TDE} {pos : Pos}
theorem isEmpty_len {α β : Type} {l : List α} {m : List β} (h : l.length = m.length) : l.isEmpty = m.isEmpty := by
  cases l <;> cases m <;> first | rfl | (simp at h)
theorem dt_val (h : PD X B e te d) (he : ∀ whole, isTrue e X.env whole = (do let v ← whole; standAt e.pos; holding [v] (truthy v)) := by intro _; rfl) :
    PDT X B e (fun σ H Q => te σ H fun x H' => ∃ k, TruV X.K x H' k ∧ Q k H') (dTru d) :=
  ⟨pt_truth h.pe he, fun M σ H ds Q R g en hq c => h.se M σ H ds _ _ g en hq fun x H1 dx g1 k1 hx q1 => by
    cases hx with
    | non => exact ⟨_, rfl, c _ H1 g1 k1 q1⟩
    | bl b => exact ⟨_, rfl, c _ H1 g1 k1 q1⟩
    | int i => exact ⟨_, rfl, c _ H1 g1 k1 q1⟩
    | str z => exact ⟨_, ⟨q1.1.le, rfl⟩, c _ H1 g1 k1 q1.2⟩
    | lst n e a => exact ⟨_, .inl ⟨_, SqL.of e, rfl⟩, c _ H1 g1 k1 (by rw [isEmpty_len a.length]; exact q1)⟩
    | tup n e a => exact ⟨_, .inr (.inl ⟨_, SqT.of e, rfl⟩), c _ H1 g1 k1 (by rw [isEmpty_len a.length]; exact q1)⟩
    | brd _ _ _ _ _ _ _ => exact q1.elim⟩
variable {a b : Expr} {rest : List Expr} {tA tB' : TT} {dA dB : TDT}
def dAndT (t u : TDT) : TDT := fun ds Q => t ds fun c => (c = true → u ds Q) ∧ (c = false → Q false)
def dOrT (t u : TDT) : TDT := fun ds Q => t ds fun c => (c = true → Q true) ∧ (c = false → u ds Q)
def dNotT (t : TDT) : TDT := fun ds Q => t ds fun c => Q (!c)
theorem dw_and1 (ha : PDT X B a tA dA) : PDW X B (.BoolOp .And [a] pos) tA dA := ⟨pw_and1 ha.pt, ha.st⟩
theorem dw_or1 (ha : PDT X B a tA dA) : PDW X B (.BoolOp .Or [a] pos) tA dA := ⟨pw_or1 ha.pt, ha.st⟩
theorem dw_and (ha : PDT X B a tA dA) (hb : PDW X B (.BoolOp .And (b :: rest) pos) tB' dB) : PDW X B (.BoolOp .And (a :: b :: rest) pos) (tAnd tA tB') (dAndT dA dB) :=
  ⟨pw_and ha.pt hb.pw, fun M σ H ds Q R g en hq c => ha.st M σ H ds _ _ g en hq fun k H1 g1 k1 q1 => by
    cases k with
    | true => exact iteT (hb.st M σ H1 ds _ _ g1 (en.keep g.1 k1) (q1.1 rfl) fun k' H2 g2 k2 q2 => c k' H2 g2 (k1.trans k2) q2)
    | false => exact iteF (c false H1 g1 k1 (q1.2 rfl))⟩
theorem dw_or (ha : PDT X B a tA dA) (hb : PDW X B (.BoolOp .Or (b :: rest) pos) tB' dB) : PDW X B (.BoolOp .Or (a :: b :: rest) pos) (tOr tA tB') (dOrT dA dB) :=
  ⟨pw_or ha.pt hb.pw, fun M σ H ds Q R g en hq c => ha.st M σ H ds _ _ g en hq fun k H1 g1 k1 q1 => by
    cases k with
    | true => exact iteT (c true H1 g1 k1 (q1.1 rfl))
    | false => exact iteF (hb.st M σ H1 ds _ _ g1 (en.keep g.1 k1) (q1.2 rfl) fun k' H2 g2 k2 q2 => c k' H2 g2 (k1.trans k2) q2)⟩
theorem dt_w {tt : TT} {t : TDT} (h : PDW X B a tt t) : PDT X B a tt t := ⟨h.pw.pt, h.st⟩
theorem dt_not (ha : PDT X B a tA dA) : PDT X B (.UnaryOp .Not a pos) (tNot tA) (dNotT dA) :=
  ⟨pt_not ha.pt, fun M σ H ds Q R g en hq c => ha.st M σ H ds _ _ g en hq fun k H1 g1 k1 q1 => c (!k) H1 g1 k1 q1⟩
/-- and, or, not as values: all but the last True or False -/
def asB (x : PyData) (Q : Bool → Prop) : Prop := match x with
  | .bool b => Q b
  | _ => False
def dAndV (t u : TDE) : TDE := fun ds Q => t ds fun x => asB x fun c => (c = true → u ds Q) ∧ (c = false → Q (.bool false))
def dOrV (t u : TDE) : TDE := fun ds Q => t ds fun x => asB x fun c => (c = true → Q (.bool true)) ∧ (c = false → u ds Q)
def dNotV (t : TDE) : TDE := fun ds Q => t ds fun x => asB x fun c => Q (.bool (!c))
theorem asB_of {M : Addr → Prop} {H : Hp} {v : V} {x : PyData} {Q : Bool → Prop} (h : Dt M H v x) (q : asB x Q) : ∃ b, v = .bl b ∧ Q b := by
  cases h <;> first | exact ⟨_, rfl, q⟩ | exact (show False from q).elim
variable {ta tb : TE} {da db : TDE}
theorem d_one {op} (h : PD X B a ta da) : PD X B (.BoolOp op [a] pos) ta da := ⟨pe_one h.pe, h.se⟩
theorem d_and (ha : PD X B a ta da) (hb : PD X B (.BoolOp .And (b :: rest) pos) tb db) : PD X B (.BoolOp .And (a :: b :: rest) pos) (tAndV ta tb) (dAndV da db) :=
  ⟨pe_and ha.pe hb.pe, fun M σ H ds Q R g en hq c => ha.se M σ H ds _ _ g en hq fun x H1 dx g1 k1 hx q1 => by
    obtain ⟨k, rfl, q2⟩ := asB_of hx q1
    refine ⟨k, rfl, ?_⟩
    cases k with
    | true => exact iteT (hb.se M σ H1 ds _ _ g1 (en.keep g.1 k1) (q2.1 rfl) (c.keep k1))
    | false => exact iteF (c _ H1 _ g1 k1 (.bl _) (q2.2 rfl))⟩
theorem d_or (ha : PD X B a ta da) (hb : PD X B (.BoolOp .Or (b :: rest) pos) tb db) : PD X B (.BoolOp .Or (a :: b :: rest) pos) (tOrV ta tb) (dOrV da db) :=
  ⟨pe_or ha.pe hb.pe, fun M σ H ds Q R g en hq c => ha.se M σ H ds _ _ g en hq fun x H1 dx g1 k1 hx q1 => by
    obtain ⟨k, rfl, q2⟩ := asB_of hx q1
    refine ⟨k, rfl, ?_⟩
    cases k with
    | true => exact iteT (c _ H1 _ g1 k1 (.bl _) (q2.1 rfl))
    | false => exact iteF (hb.se M σ H1 ds _ _ g1 (en.keep g.1 k1) (q2.2 rfl) (c.keep k1))⟩
theorem d_not (ha : PD X B a ta da) : PD X B (.UnaryOp .Not a pos) (tNotV ta) (dNotV da) :=
  ⟨pe_not ha.pe, fun M σ H ds Q R g en hq c => ha.se M σ H ds _ _ g en hq fun x H1 dx g1 k1 hx q1 => by
    obtain ⟨k, rfl, q2⟩ := asB_of hx q1
    exact ⟨k, rfl, c _ H1 _ g1 k1 (.bl _) q2⟩⟩
def dIfE (t : TDT) (a b : TDE) : TDE := fun ds Q => t ds fun c => (c = true → a ds Q) ∧ (c = false → b ds Q)
theorem d_if {c : Expr} (hc : PDT X B c tA dA) (ha : PD X B a ta da) (hb : PD X B b tb db) : PD X B (.IfExp c a b pos) (tIf tA ta tb) (dIfE dA da db) :=
  ⟨pe_ifExp hc.pt ha.pe hb.pe, fun M σ H ds Q R g en hq k => hc.st M σ H ds _ _ g en hq fun t H1 g1 k1 q1 => by
    cases t with
    | true => exact iteT (ha.se M σ H1 ds _ _ g1 (en.keep g.1 k1) (q1.1 rfl) (k.keep k1))
    | false => exact iteF (hb.se M σ H1 ds _ _ g1 (en.keep g.1 k1) (q1.2 rfl) (k.keep k1))⟩
end

/-! ### a list that grows, read where the answer is flat -/
def lessA (M : Addr → Prop) (a : Addr) : Addr → Prop := fun b => M b ∧ b ≠ a
theorem DvR.lessA {M : Addr → Prop} {B : Gr} {H : Hp} {a : Addr} {v : V} {x : DV} (h : DvR M B H v x) (n : ¬ Fp v x a) : DvR (lessA M a) B H v x := by
  cases h with
  | bag hq nq e => exact .bag hq (fun z => nq z.1) e
  | loose hs h o =>
    rename_i d S
    have st : Stay (minS M S) H (minS (DL.lessA M a) S) H := Stay.less fun b z => ⟨z.1.1, z.2⟩
    exact .loose (fun b z => ⟨⟨(hs b z).1, fun w => n (by rw [← w]; exact z)⟩, (hs b z).2⟩) (h.map st) (o.map st h)
  | dat h => exact .dat (h.map (Stay.less fun b z => z.1))
  | obj ma nb hz e h => exact .obj ⟨ma, fun z => n (congrArg V.ref z)⟩ nb hz e (h.map (Stay.less fun b z => z.1))
  | grow ma nb hz e h => exact .grow ⟨ma, fun z => n (congrArg V.ref z)⟩ nb hz e (h.map (Stay.less fun b z => z.1))
  | grid ma nb hz e nd h => exact .grid ⟨ma, fun z => n (.inl (congrArg V.ref z))⟩ nb hz e nd (h.map (Stay.less fun b z => z.1) fun r xs hr m n' z e => ⟨⟨m, fun w => n (.inr (w ▸ hr))⟩, n', z, e⟩)
  | exc h => exact .exc (h.map (Stay.less fun b z => z.1))
theorem EnvAt.of {M : Addr → Prop} {B : Gr} {H : Hp} : ∀ {σ : L2.St} {ds : DEnv}, σ.length = ds.length → (∀ (i : Nat) (x : DV), ds[i]? = some (some x) → ∃ v, σ[i]? = some (some v) ∧ DvR M B H v x) → EnvAt M B H σ ds
  | [], [], _, _ => .nil
  | [], _ :: _, e, _ => nomatch e
  | _ :: _, [], e, _ => nomatch e
  | o :: σ, x :: ds, e, h => by
    refine .cons ?_ (EnvAt.of (by simpa using e) fun i x hx => by simpa using h (i + 1) x (by simpa using hx))
    cases x with
    | none => exact .non _
    | some x =>
      obtain ⟨v, hv, r⟩ := h 0 x rfl
      simp at hv
      rw [hv]
      exact .som r
theorem EnvAt.length {M : Addr → Prop} {B : Gr} {H : Hp} : ∀ {σ : L2.St} {ds : DEnv}, EnvAt M B H σ ds → σ.length = ds.length
  | _, _, .nil => rfl
  | _, _, .cons _ t => by rw [List.length_cons, List.length_cons, EnvAt.length t]
/-- what grows at slot i stands still while nothing else is looked at -/
theorem EnvAt.freeze {M : Addr → Prop} {B : Gr} {H : Hp} {σ : L2.St} {ds : DEnv} {i : Nat} {l : List PyData} (en : EnvAt M B H σ ds) (hi : ds[i]? = some (some (.grow l))) :
    ∃ a, σ[i]? = some (some (.ref a)) ∧ M a ∧ a ≠ B ∧ B.H0 a = none ∧ EnvAt (lessA M a) B H σ ((ds.map fun o => match o with | some (.grow _) => none | some (.grid _ _) => none | some (.loose _ _) => none | some (.obj _) => none | o => o).set i (some (.dat (.list l)))) := by
  obtain ⟨v, hv, r⟩ := en.get i hi
  cases r with
  | grow ma nb hz e h =>
    rename_i a xs
    refine ⟨a, hv, ma, nb, hz, EnvAt.of (by rw [List.length_set, List.length_map]; exact en.length) fun j x hx => ?_⟩
    by_cases e2 : i = j
    · subst e2
      have hlt : i < (ds.map fun o => match o with | some (.grow _) => none | some (.grid _ _) => none | some (.loose _ _) => none | some (.obj _) => none | o => o).length := by
        rw [List.length_map]
        exact (List.getElem?_eq_some_iff.mp hi).1
      rw [List.getElem?_set_self hlt] at hx
      cases hx
      exact ⟨_, hv, .dat (.lst (fun z => z.2 rfl) e (h.map (Stay.less fun b z => z.1)))⟩
    · rw [List.getElem?_set_ne e2, List.getElem?_map] at hx
      cases q : ds[j]? with
      | none => rw [q] at hx; cases hx
      | some o =>
        rw [q] at hx
        cases o with
        | none => cases hx
        | some y =>
          cases y with
          | bag =>
            cases hx
            obtain ⟨u, hu, ru⟩ := en.get j q
            exact ⟨u, hu, ru.lessA fun z => z⟩
          | dat d =>
            cases hx
            obtain ⟨u, hu, ru⟩ := en.get j q
            exact ⟨u, hu, ru.lessA fun z => z⟩
          | grow l => cases hx
          | grid _ _ => cases hx
          | loose _ _ => cases hx
          | obj _ => cases hx
          | exc b c d fs =>
            cases hx
            obtain ⟨u, hu, ru⟩ := en.get j q
            exact ⟨u, hu, ru.lessA fun z => z⟩
def frz (i : Nat) (l : List PyData) (ds : DEnv) : DEnv := (ds.map fun o => match o with | some (.grow _) => none | some (.grid _ _) => none | some (.loose _ _) => none | some (.obj _) => none | o => o).set i (some (.dat (.list l)))
def dPeek (i : Nat) (t : TDE) : TDE := fun ds Q => match ds[i]? with
  | some (some (.grow l)) => t (frz i l ds) fun d => flatD d = true ∧ Q d
  | _ => False
theorem d_peek {X : Cx} {B : Gr} {e : Expr} {te : TE} {d : TDE} (i : Nat) (h : PD X B e te d) : PD X B e te (dPeek i d) := ⟨h.pe, fun M σ H ds Q R g en q c => by
  unfold dPeek at q
  split at q
  · rename_i l hl
    obtain ⟨a, ha, ma, nb, hz, en2⟩ := en.freeze hl
    refine h.se (lessA M a) σ H _ _ _ (g.less (fun b z => z.1) fun b hb => ⟨g.d.sub b hb, fun z => g.own hz (by rw [← z]; exact hb)⟩) en2 q fun v H' d g' k' hd q' => ?_
    exact c v H' d (g.more k'.any g') k'.any (flat_any q'.1 hd) q'.2
  · exact q.elim⟩
def tPeek (i : Nat) (t : TDT) : TDT := fun ds Q => match ds[i]? with
  | some (some (.grow l)) => t (frz i l ds) Q
  | _ => False
theorem dt_peek {X : Cx} {B : Gr} {e : Expr} {te : TT} {d : TDT} (i : Nat) (h : PDT X B e te d) : PDT X B e te (tPeek i d) := ⟨h.pt, fun M σ H ds Q R g en q c => by
  unfold tPeek at q
  split at q
  · rename_i l hl
    obtain ⟨a, ha, ma, nb, hz, en2⟩ := en.freeze hl
    refine h.st (lessA M a) σ H _ _ _ (g.less (fun b z => z.1) fun b hb => ⟨g.d.sub b hb, fun z => g.own hz (by rw [← z]; exact hb)⟩) en2 q fun b H' g' k' q' => ?_
    exact c b H' (g.more k'.any g') k'.any q'
  · exact q.elim⟩
end DL
namespace DL
open PySem PySem.Spec PyProof.Rows L2

/-! ### a def's promise where nothing that guards a repr is under way (A.guards = some []) -/
structure FnG (P : Program) (w : World) (K : PySem.W.Frag) (mg : Str → Option Value) (base : Heap) (k : Nat) (f : Addr) (fd : FuncData) (ps : List Str) (sp : Sp) : Prop where
  len : ∀ vs H Q E, sp vs H Q E → vs.length = ps.length
  run : ∀ (A : Around) (outer : List Env) (s : Shared) (H : Hp) (args : Args) (us : List Value) (vs : List V) (Q : VK), A.guards = some [] → Room k A → Env0 P w K mg base A outer s H → BindsTo s fd args (ps.zip us) → Vals vs us → sp vs H Q E0 →
    codeAny (model P w) A (.call (.ref f) args) (CR CX0 outer P w H s Q E0) s
theorem FnG.of {P : Program} {w : World} {K : PySem.W.Frag} {mg : Str → Option Value} {base : Heap} {k : Nat} {f : Addr} {fd : FuncData} {ps : List Str} {sp : Sp} (F : FnOk P w K mg base CX0 k f fd ps sp) : FnG P w K mg base k f fd ps sp :=
  ⟨F.len, fun A outer s H args us vs Q _ hr e0 hb r h => F.run A outer s H args us vs Q E0 hr e0 hb r h⟩
theorem FnG.mono {P : Program} {w : World} {K : PySem.W.Frag} {mg : Str → Option Value} {base : Heap} {j k : Nat} {f : Addr} {fd : FuncData} {ps : List Str} {sp : Sp} (F : FnG P w K mg base j f fd ps sp) (h : j ≤ k) : FnG P w K mg base k f fd ps sp :=
  ⟨F.len, fun A outer s H args us vs Q hg hr => F.run A outer s H args us vs Q hg (hr.mono h)⟩

section
variable {X : Cx} {k : Nat} {f : Addr} {fd : FuncData} {ps : List Str} {sp : Sp} {x : Str} {p pos : Pos} {e : Expr} {es : List Expr} {t : TA}
theorem run_fnG {pins : List (Addr × Obj)} {σ : L2.St} {H : Hp} {s : Shared} {Q : VK} {us : List Value} {vs : List V} (F : FnG X.prog X.w X.K X.mg X.base k f fd ps sp) (hG : X.A.guards = some []) (hr : Room k X.A) (hb : Binds X.K fd ps [])
    (I : Inv X pins σ H s) (r : Vals vs us) (h : sp vs H Q E0) : wpAny (model X.prog X.w) X.A (call (.ref f) us) (EP X pins σ Q) X.xe s := by
  have n : us.length = ps.length := r.length.symm.trans (F.len _ _ _ _ h)
  have b := hb s us I.kIn (by rw [List.append_nil]; exact n)
  rw [List.append_nil] at b
  refine wpAny_call (codeAny_mono (F.run X.A X.stack s H ⟨us, []⟩ us vs Q hG hr I.env0 b r h) fun o s' z => ?_)
  cases o with
  | error _ => exact z.elim
  | ok fl => cases fl with
    | ret u => exact I.after z
    | _ => exact False.elim z
theorem pe_callG (F : FnG X.prog X.w X.K X.mg X.base k f fd ps sp) (hG : X.A.guards = some []) (hr : Room k X.A) (hb : Binds X.K fd ps []) (hg : Gl X x) (hm : X.mg x = some (.ref f)) (hk : PySem.W.keepIn X.K (.ref f) = true)
    (ha : PA X (e :: es) t) (hdb : (x == ("__debug__" : Str)) = false := by decide) (he : starEach (e :: es) X.env = (false, eval e X.env) :: starEach es X.env := by rfl) (hpl : (backTo pos (starEach es X.env)).any (·.1) = false := by rfl) :
    PE X (.Call (.Name x p) (e :: es) [] pos) (fun σ H Q => t σ H fun vs H1 => sp vs H1 Q E0) :=
  ⟨fun pins s σ H Q I h => wpAny_Call_Name_kw (ld_glob I hg hm (PySem.W.callWith_K (h₀ := X.base) I.ok.mod.kin hk
    (thn (ha.run pos pins s σ H _ I h) fun us s1 ⟨_, _, I1, r, q⟩ => ⟨I1.kIn, run_fnG F hG hr hb I1 r q⟩) he hpl) hdb)⟩
end

/-! ### a def by its body -/
theorem fn_ofG {P : Program} {w : World} {K : PySem.W.Frag} {mg : Str → Option Value} {base : Heap} {k : Nat} {f : Addr} {fd : FuncData} {x qual : Str} {st : Stmt} {N ps : List Str} {sp : Sp} (F : Fun K x qual st f fd) (S : FnScope N ps (defScope st))
    (len : ∀ vs H Q E, sp vs H Q E → vs.length = ps.length)
    (body : ∀ (cdv : Value) (A : Around) (outer : List Env) (s : Shared) (H : Hp) (vs : List V) (Q : VK), A.guards = some [] → Room k (A.deeper (envOfC qual (defScope st) s.heap.objs.size f cdv)) → sp vs H Q E0 →
      ∃ t, PSs (cxOf CX0 P w K mg base N qual (defScope st) f cdv A outer s H E0).nox (defBody st) t ∧ t { nx := fun _ H' => Q .non H', rt := Q } (start N vs) H) : FnG P w K mg base (k + 1) f fd ps sp := by
  obtain ⟨oc, od, kV, doc, pm, an, cdv, ct, osl, rfl, lk, hcd⟩ := F.ex
  refine ⟨len, fun A outer s H args us vs Q hG hr e0 hb r hs => ?_⟩
  have kin : K.In s.heap := e0.mod.kin.keeps fun b o e => (e0.bs b o e).1
  have lim : s.heap.NoLimit := e0.mod.nolimit.keeps fun b o e => (e0.bs b o e).1
  have kinds : ∀ y ∈ ps.zip us, (defScope st).names.lookup y.1 = some .local ∨ ((defScope st).names.lookup y.1 = some .cell ∧ ((cellsFrom (s.heap.objs.size + 1) (defScope st).names []).lookup y.1).isSome = true) := by
    rintro ⟨n, v⟩ m
    exact (S.par n (List.of_mem_zip m).1).imp_right fun q => ⟨q, PySem.W.cellsFrom_some _ _ _ (.inl q)⟩
  refine codeAny_call_function hr.depth (kin _ _ lk) rfl S.co S.gen rfl (PySem.W.codeRec_of kin hcd) (hb _ _ _ _ (wpAny_newFunctionEnv_cells S.kind kinds fun env eqv s1 ic => ?_))
  subst eqv
  obtain ⟨t, ht, q⟩ := body cdv A outer s H vs Q hG (hr.deeper _) hs
  refine ⟨lim.keeps ic.toInCall.keep, codeAny_func (wpAny_mono (ht.nox.run [] s1 (start N vs) H _ (inv_start S hr.hd e0 (len _ _ _ _ hs) r ic) q) (fun fl s' z => ?_) fun _ _ z => z)⟩
  cases fl with
  | ret u =>
    obtain ⟨v, _, H', J, rv, qv⟩ := z
    exact ⟨v, H', J.os, J.bare, J.base, J.hok, rv, qv⟩
  | next =>
    obtain ⟨_, H', J, qv⟩ := z
    exact ⟨V.non, H', J.os, J.bare, J.base, J.hok, rfl, qv⟩
  | _ => exact z.elim fun _ y => y.elim fun _ y => y.2.elim

/-! ### the end of a law's row -/
theorem law_callG {P : Program} {w : World} {K : PySem.W.Frag} {mg mb : Str → Option Value} {k : Nat} {fa a : Addr} {fd : FuncData} {x : Str} {sp : Sp} {s₁ : Shared} {vs : List Value} {ns : List Int}
    (kin : K.In s₁.heap) (hns : s₁.heap.Ns mainGlobals mg) (hb : s₁.heap.Ns builtinsNs mb) (hbb : ∀ x : Str, x ≠ "__name__" → mb x = bootBuiltins x) (lim : s₁.heap.NoLimit) (hg : s₁.gens = #[])
    (ha : s₁.heap.get? a = some { cls := .type "list", data := .seq vs.toArray }) (hi : IntsAre vs ns) (hl : ns.length ≤ sizeLine) (hr : Room k callerA)
    (F : ∀ base : Heap, K.In base → base.Ns mainGlobals mg → FnG P w K mg base k fa fd [x] sp) (hbind : ∀ (s : Shared) (u : Value), BindsTo s fd ⟨[u], []⟩ [(x, u)])
    (hsp : ∀ H : Hp, SqL K H a (ns.map V.int) → sp [.ref a] H (fun v _ => v = .bl true) E0) :
    codeAny (model P w) callerA (.call (.ref fa) ⟨[.ref a], []⟩) (fun r s' => r = .ok (.ret (.bool true)) ∧ OldK s₁.heap s'.heap ∧ s'.os = s₁.os ∧ AllBare s'.gens) s₁ := by
  have rv := vals_ints hi
  -- what is tracked at the start: the script, unless it is an object of the module's own
  obtain ⟨H, only, seq, hok, hk⟩ : ∃ H : Hp, (∀ b o, H b = some o → b = a ∧ o = .frz { cls := .type "list", data := .seq vs.toArray } (.lst (ns.map V.int))) ∧ SqL K H a (ns.map V.int) ∧ HOk P w H s₁.heap ∧ (∀ b o, H b = some o → K.lookup b = none) := by
    cases q : K.lookup a with
    | some o =>
      have e := kin a o q
      rw [ha] at e
      cases e
      refine ⟨fun _ => none, fun b o z => (nomatch z), .inr ⟨_, vs.toArray, _, q, rfl, rfl, rfl, ?_, by simpa using rv⟩, fun b u z => (nomatch z), fun b o z => (nomatch z)⟩
      rw [List.size_toArray, hi.length]
      exact hl
    | none =>
      have at_a : ∀ b o, (if b = a then some (HO.frz { cls := .type "list", data := .seq vs.toArray } (.lst (ns.map V.int))) else none) = some o → b = a ∧ o = .frz { cls := .type "list", data := .seq vs.toArray } (.lst (ns.map V.int)) := by
        intro b o z
        by_cases c : b = a
        · rw [if_pos c] at z
          exact ⟨c, (Option.some.inj z).symm⟩
        · rw [if_neg c] at z
          cases z
      refine ⟨fun b => if b = a then some (.frz { cls := .type "list", data := .seq vs.toArray } (.lst (ns.map V.int))) else none, at_a, .inl (.inr ⟨_, if_pos rfl⟩), fun b o z => ?_, fun b o z => ?_⟩
      · obtain ⟨rfl, rfl⟩ := at_a b o z
        exact ⟨ha, by rw [List.length_map]; exact hl, vs, _, rv, ha⟩
      · rw [(at_a b o z).1]
        exact q
  have noD : ∀ {b : Addr} {o : Obj} {es : Array DictEntry} {ep : Nat}, s₁.heap.get? b = some o → o.data = .dict es ep → H b = none := by
    intro b o es ep e d
    cases q : H b with
    | none => rfl
    | some u =>
      rw [(only b u q).1, ha] at e
      cases e
      exact Data.noConfusion d
  have toB : ∀ {b : Addr} {m : Str → Option Value}, s₁.heap.Ns b m → (hidT s₁.heap H).Ns b m := fun ⟨o, es, ep, e, d, r⟩ => ⟨o, es, ep, hidT_get e (noD e d), d, r⟩
  have kinB : K.In (hidT s₁.heap H) := fun b o e => hidT_get (kin b o e) (by
    cases q : H b with
    | none => rfl
    | some u =>
      rw [hk b u q] at e
      cases e)
  have limB : (hidT s₁.heap H).NoLimit := let ⟨mc, h1, h2⟩ := lim; ⟨mc, toB h1, h2⟩
  have env : Env0 P w K mg (hidT s₁.heap H) callerA [] s₁ H := ⟨rfl, ⟨kinB, toB hns, ⟨mb, toB hb, hbb⟩, limB⟩, fun b o e => of_hidT e, Nat.le_of_eq (hidT_size _ _), trivial, fun b m => (nomatch m), hok, .of_eq hg⟩
  refine codeAny_mono ((F _ kinB (toB hns)).run callerA [] s₁ H ⟨[.ref a], []⟩ [.ref a] [.ref a] _ rfl hr env (hbind s₁ (.ref a)) (.cons rfl .nil) (hsp H seq)) fun r s' z => ?_
  cases r with
  | error _ => exact z.elim
  | ok fl => cases fl with
    | next => exact False.elim z
    | brk => exact False.elim z
    | cont => exact False.elim z
    | ret u =>
    obtain ⟨v, H', os, bare, un, hok', rel, q⟩ := z
    subst q
    obtain rfl : u = Value.bool true := rel
    refine ⟨rfl, OldK.of_keep fun b o e => ?_, os, bare⟩
    cases c : H b with
    | none => exact un.keep b o e c (fun m => (nomatch m)) (fun m => (nomatch m))
    | some u =>
      obtain ⟨rfl, rfl⟩ := only b u c
      have e1 := (hok b _ c).1
      rw [e] at e1
      cases e1
      exact (hok' b _ (un.frzs b _ _ c)).1
theorem walk_ofG {l : PySem.W.OpenLaw} {n k : Nat} {q : Program} {loose : List Str} {XP : (Str → Option Value) → Heap → Prop} {YP : World → Heap → Prop} {d : DefRec} {K : Params → PySem.W.Frag} {sp : PySem.W.Frag → Sp} {x : Str}
    (hn : l.most = some n) (hn2 : n ≤ sizeLine) (hdf : d.params.defaults = []) (hr : Room k callerA)
    (hY : ∀ (w : World) (h : Heap), YP w h → (K w.params).In h)
    (F : ∀ (w : World) (mg : Str → Option Value) (fa : Addr) (h : Heap), (K w.params).In h → h.Ns mainGlobals mg → mg d.name = some (.ref fa) →
      ∃ fd : FuncData, (∀ (s : Shared) (u : Value), BindsTo s fd ⟨[u], []⟩ [(x, u)]) ∧
        ∀ base : Heap, (K w.params).In base → base.Ns mainGlobals mg → FnG l.prog w (K w.params) mg base k fa fd [x] (sp (K w.params)))
    (hsp : ∀ (K : PySem.W.Frag) (H : Hp) (a : Addr) (ns : List Int), ns.length ≤ n → SqL K H a (ns.map V.int) → sp K [.ref a] H (fun v _ => v = .bl true) E0) :
    PySem.W.WalkO q loose XP YP l.row.toRowW d [] (fun f vs => PySem.call f vs) :=
  Att.attach_call hn hdf fun w s₀ s₁ mg mb fa o pm cd doc a vs ns G Y ho hd hcd hmg hobj hints hlen hg =>
    let ⟨fd, hb, hF⟩ := F w mg fa _ (hY w _ Y) G.T.g hmg
    law_callG (hY w _ Y) G.T.g G.T.b G.T.builtins G.T.nolimit hg hobj hints (Nat.le_trans hlen hn2) hr hF hb fun H hS => hsp _ H a ns hlen hS
end DL
namespace DL
open PySem L2

/-! ### what a def is worth over data -/
/-- what a def's call is worth: from the arguments to what is wanted of its answer -/
abbrev DR := List DV → (PyData → Prop) → Prop
def spD (R : DR) : Sp := fun vs H Q _ => ∃ (M : Addr → Prop) (B : Gr) (xs : List DV) (Qd : PyData → Prop), ArgsAt M B H vs xs ∧ Good M B H ∧ R xs Qd ∧ Cont M B H Qd Q
def dCall (R : DR) (t : TDA) : TDE := fun ds Q => t ds fun xs => R xs Q
section
variable {X : Cx} {B : Gr} {k : Nat} {f : Addr} {fd : FuncData} {ps : List Str} {R : DR} {x : Str} {p pos : Pos} {e : Expr} {es : List Expr} {t : TA} {d : TDA}
theorem d_call (F : FnG X.prog X.w X.K X.mg X.base k f fd ps (spD R)) (hG : X.A.guards = some []) (hr : Room k X.A) (hb : Binds X.K fd ps []) (hm : X.mg x = some (.ref f)) (hk : PySem.W.keepIn X.K (.ref f) = true) (hg : Gl X x)
    (ha : PDA X B (e :: es) t d) (hdb : (x == ("__debug__" : Str)) = false := by decide) (he : starEach (e :: es) X.env = (false, eval e X.env) :: starEach es X.env := by rfl) (hpl : (backTo pos (starEach es X.env)).any (·.1) = false := by rfl) :
    PD X B (.Call (.Name x p) (e :: es) [] pos) (fun σ H Q => t σ H fun vs H1 => spD R vs H1 Q E0) (dCall R d) :=
  ⟨pe_callG F hG hr hb hg hm hk ha.pa hdb he hpl, fun M σ H ds Q W g en h c => ha.sa M σ H ds _ _ g en h fun vs H1 xs g1 k1 a1 q1 => ⟨M, B, xs, Q, a1, g1, q1, c.keep k1⟩⟩
end

/-! ### statements -/
structure DEnds where
  nx : DEnv → Prop
  rt : PyData → Prop
  bk : DEnv → Prop
  ct : DEnv → Prop
abbrev TDS := DEnds → DEnv → Prop
/-- from where a def began to here -/
structure Ent (B : Gr) (M : Addr → Prop) (H : Hp) : Prop where
  g : Good M B H
theorem Ent.expr {M : Addr → Prop} {B : Gr} {H H' : Hp} (_ : Ent B M H) (g : Good M B H') (_ : Keep M B H H') : Ent B M H' := ⟨g⟩
/-- which slots hold lists that grow: each its own, made since the def began -/
structure EnvO (M : Addr → Prop) (B : Gr) (H : Hp) (σ : L2.St) (ds : DEnv) : Prop where
  at_ : EnvAt M B H σ ds
  inj : ∀ (i j : Nat) (x y : DV) (v w : V) (a : Addr), ds[i]? = some (some x) → ds[j]? = some (some y) → σ[i]? = some (some v) → σ[j]? = some (some w) → Fp v x a → Fp w y a → i = j
theorem EnvO.own {M : Addr → Prop} {B : Gr} {H : Hp} {σ : L2.St} {ds : DEnv} (o : EnvO M B H σ ds) (i : Nat) (l : List PyData) (a : Addr) (hd : ds[i]? = some (some (DV.grow l))) (hs : σ[i]? = some (some (V.ref a))) : B.H0 a = none := by
  obtain ⟨v, hv, r⟩ := o.at_.get i hd
  rw [hs] at hv
  cases hv
  cases r
  assumption
def Sub (σ : L2.St) (ds : DEnv) (σ' : L2.St) (ds' : DEnv) : Prop := ∀ (j : Nat) (x : DV), ¬ x.fix → ds'[j]? = some (some x) → ds[j]? = some (some x) ∧ σ'[j]? = σ[j]?
theorem Sub.refl {σ : L2.St} {ds : DEnv} : Sub σ ds σ ds := fun _ _ _ e => ⟨e, rfl⟩
theorem Sub.trans {σ σ1 σ2 : L2.St} {ds ds1 ds2 : DEnv} (h : Sub σ ds σ1 ds1) (g : Sub σ1 ds1 σ2 ds2) : Sub σ ds σ2 ds2 := fun j l n e => ⟨(h j l n (g j l n e).1).1, (g j l n e).2.trans (h j l n (g j l n e).1).2⟩
theorem Sub.set {σ : L2.St} {ds : DEnv} {i : Nat} {v : V} {d : PyData} : Sub σ ds (σ.set i (some v)) (ds.set i (some (.dat d))) := fun j l n e => by
  by_cases z : i = j
  · subst z
    by_cases hl : i < ds.length
    · rw [List.getElem?_set_self hl] at e
      cases e
      exact absurd trivial n
    · rw [List.getElem?_eq_none (by rw [List.length_set]; omega)] at e
      cases e
  · rw [List.getElem?_set_ne z] at e
    exact ⟨e, List.getElem?_set_ne z⟩
theorem EnvO.sub {M : Addr → Prop} {B : Gr} {H H' : Hp} {σ σ' : L2.St} {ds ds' : DEnv} (e : EnvO M B H σ ds) (h : EnvAt M B H' σ' ds') (u : Sub σ ds σ' ds') : EnvO M B H' σ' ds' :=
  ⟨h, fun i j x y v w a h1 h2 h3 h4 f g => e.inj i j x y v w a (u i x f.mut h1).1 (u j y g.mut h2).1 ((u i x f.mut h1).2 ▸ h3) ((u j y g.mut h2).2 ▸ h4) f g⟩
theorem EnvO.expr {M : Addr → Prop} {B : Gr} {H H' : Hp} {σ : L2.St} {ds : DEnv} (e : EnvO M B H σ ds) (m : M B) (k : Keep M B H H') : EnvO M B H' σ ds := e.sub (e.at_.keep m k) Sub.refl
def ContE (B : Gr) (M : Addr → Prop) (H : Hp) (P : DEnv → Prop) (R : L2.St → Hp → Prop) : Prop :=
  ∀ M' σ' H' ds', Ent B M' H' → Stay M H M' H' → EnvO M' B H' σ' ds' → P ds' → R σ' H'
theorem ContE.stay {M M1 : Addr → Prop} {B : Gr} {H H1 : Hp} {P : DEnv → Prop} {R : L2.St → Hp → Prop} (c : ContE B M H P R) (k : Stay M H M1 H1) : ContE B M1 H1 P R :=
  fun M' σ' H' ds' e s o q => c M' σ' H' ds' e (k.trans s) o q
/-- what is returned, where the def began -/
def ContR (B : Gr) (Q : PyData → Prop) (R : VK) : Prop := ∀ v H' d, Good0 B.M0 B.a H' → Keep B.M0 B.a B.H0 H' → Dt B.M0 H' v d → B.nw v → Q d → R v H'
structure ContS (B : Gr) (M : Addr → Prop) (H : Hp) (DD : DEnds) (D : Ends) : Prop where
  nx : ContE B M H DD.nx D.nx
  rt : ContR B DD.rt D.rt
  bk : ContE B M H DD.bk D.bk
  ct : ContE B M H DD.ct D.ct
theorem ContS.stay {M M1 : Addr → Prop} {B : Gr} {H H1 : Hp} {DD : DEnds} {D : Ends} (c : ContS B M H DD D) (k : Stay M H M1 H1) : ContS B M1 H1 DD D := ⟨c.nx.stay k, c.rt, c.bk.stay k, c.ct.stay k⟩
/-- what is returned -/
theorem ContR.back {M : Addr → Prop} {B : Gr} {H : Hp} {Q : PyData → Prop} {R : VK} (c : ContR B Q R) (hn : ∀ v, B.nw v) (_ : Ent B M H) : Cont M B H Q R := fun v H' d g _ h q => c v H' d g.back g.d.keep (h.map (Stay.less g.d.sub)) (hn v) q
def SS (B : Gr) (ts : TS) (t : TDS) : Prop := ∀ (M : Addr → Prop) σ H ds DD D, Ent B M H → EnvO M B H σ ds → t DD ds → ContS B M H DD D → ts D σ H
structure PDS (X : Cx) (B : Gr) (st : Stmt) (ts : TS) (t : TDS) : Prop where
  ps : PS X st ts
  ss : SS B ts t
structure PDSs (X : Cx) (B : Gr) (st : List Stmt) (ts : TS) (t : TDS) : Prop where
  ps : PSs X st ts
  ss : SS B ts t
section
variable {X : Cx} {B : Gr} {st : Stmt} {rest : List Stmt} {ts us : TS} {t u : TDS} {e : Expr} {te : TE} {d : TDE} {pos : Pos}
def sNext : TDS := fun DD ds => DD.nx ds
def sSeq (t u : TDS) : TDS := fun DD ds => t { DD with nx := u DD } ds
theorem ds_nil : PDSs X B [] tNext sNext := ⟨pss_nil, fun M σ H ds DD D e o h c => c.nx M σ H ds e Stay.refl o h⟩
theorem ds_one (h : PDS X B st ts t) : PDSs X B [st] ts t := ⟨pss_one h.ps, h.ss⟩
theorem ds_cons (h1 : PDS X B st ts t) (h2 : PDSs X B rest us u) : PDSs X B (st :: rest) (tSeq ts us) (sSeq t u) :=
  ⟨pss_cons h1.ps h2.ps, fun M σ H ds DD D e o h c => h1.ss M σ H ds _ _ e o h
    ⟨fun M' σ' H' ds' e' k' o' q => h2.ss M' σ' H' ds' DD D e' o' q (c.stay k'), c.rt, c.bk, c.ct⟩⟩
def sBreak : TDS := fun DD ds => DD.bk ds
def sCont : TDS := fun DD ds => DD.ct ds
theorem ds_pass : PDS X B (.Pass pos) tNext sNext := ⟨ps_pass, fun M σ H ds DD D e o h c => c.nx M σ H ds e Stay.refl o h⟩
theorem ds_break : PDS X B (.Break pos) tBreak sBreak := ⟨ps_break, fun M σ H ds DD D e o h c => c.bk M σ H ds e Stay.refl o h⟩
theorem ds_continue : PDS X B (.Continue pos) tCont sCont := ⟨ps_continue, fun M σ H ds DD D e o h c => c.ct M σ H ds e Stay.refl o h⟩
theorem ds_doc {x j pos'} : PDS X B (.Expr (.Constant (.str x) j pos) pos') tNext sNext := ⟨ps_doc, fun M σ H ds DD D e o h c => c.nx M σ H ds e Stay.refl o h⟩
def sRet (d : TDE) : TDS := fun DD ds => d ds DD.rt
theorem ds_ret (hn : ∀ v, B.nw v) (h : PD X B e te d) : PDS X B (.Return (some e) pos) (tRet te) (sRet d) := ⟨ps_ret h.pe, fun M σ H ds DD D e o q c => h.se M σ H ds _ _ e.g o.at_ q (c.rt.back hn e)⟩
def sIf (c : TDT) (t u : TDS) : TDS := fun DD ds => c ds fun b => (b = true → t DD ds) ∧ (b = false → u DD ds)
theorem ds_if {c : Expr} {a b : List Stmt} {tc : TT} {dc : TDT} (hc : PDT X B c tc dc) (ha : PDSs X B a ts t) (hb : PDSs X B b us u) : PDS X B (.If c a b pos) (tIfS tc ts us) (sIf dc t u) :=
  ⟨ps_if hc.pt ha.ps hb.ps, fun M σ H ds DD D e o q c => hc.st M σ H ds _ _ e.g o.at_ q fun k H1 g1 k1 q1 => by
    cases k with
    | true => exact iteT (ha.ss M σ H1 ds DD D (e.expr g1 k1) (o.expr e.g.1 k1) (q1.1 rfl) (c.stay (k1.stay e.g.1)))
    | false => exact iteF (hb.ss M σ H1 ds DD D (e.expr g1 k1) (o.expr e.g.1 k1) (q1.2 rfl) (c.stay (k1.stay e.g.1)))⟩

/-! ### targets -/
abbrev TDG := PyData → DEnv → (DEnv → Prop) → Prop
/-- a target that stores at the slots `is` alone -/
structure PDG (X : Cx) (B : Gr) (tg : Expr) (is : List Nat) (tt : TG) (t : TDG) : Prop where
  pg : PG X tg tt
  sg : ∀ (M : Addr → Prop) v d σ H ds Q (R : L2.St → Hp → Prop), Good M B H → EnvAt M B H σ ds → Dt M H v d → t d ds Q → (∀ σ' ds', EnvAt M B H σ' ds' → σ'.length = σ.length → (∀ j, j ∉ is → σ'[j]? = σ[j]?) → Sub σ ds σ' ds' → Q ds' → R σ' H) → tt v σ H R
structure PDGs (X : Cx) (B : Gr) (tg : List Expr) (is : List Nat) (tt : TGs) (t : List PyData → DEnv → (DEnv → Prop) → Prop) : Prop where
  pg : PGs X tg tt
  sg : ∀ (M : Addr → Prop) vs l σ H ds Q (R : L2.St → Hp → Prop), Good M B H → EnvAt M B H σ ds → DtA M H vs l → t l ds Q → (∀ σ' ds', EnvAt M B H σ' ds' → σ'.length = σ.length → (∀ j, j ∉ is → σ'[j]? = σ[j]?) → Sub σ ds σ' ds' → Q ds' → R σ' H) → tt vs σ H R
def dgName (i : Nat) : TDG := fun d ds Q => Q (ds.set i (some (.dat d)))
theorem dg_name {i : Nat} {x : Str} (hN : X.N.Nodup) (hi : X.N[i]? = some x) (hx : Loc X.env.scope x) (hf : X.fn x = true ∨ X.env.scope.names.lookup x = some .local := by first | exact .inl rfl | exact .inr rfl | assumption) : PDG X B (.Name x pos) [i] (gName i) (dgName i) :=
  ⟨pg_name hN hi hx hf, fun M v d σ H ds Q R g en h q c => c _ _ (EnvAt.set (.dat h) i en) (by rw [List.length_set]) (fun j hj => by
    rw [List.getElem?_set_ne]
    intro z
    exact hj (by rw [z]; exact List.mem_singleton.mpr rfl)) Sub.set q⟩
def dgNil : List PyData → DEnv → (DEnv → Prop) → Prop := fun l ds Q => match l with
  | [] => Q ds
  | _ => False
def dgCons (t : TDG) (u : List PyData → DEnv → (DEnv → Prop) → Prop) : List PyData → DEnv → (DEnv → Prop) → Prop := fun l ds Q => match l with
  | d :: r => t d ds fun ds' => u r ds' Q
  | [] => False
theorem dgs_nil : PDGs X B [] [] gNil dgNil := ⟨pgs_nil, fun M vs l σ H ds Q R g en h q c => by
  cases h with
  | nil => exact ⟨rfl, c σ ds en rfl (fun _ _ => rfl) Sub.refl q⟩
  | cons _ _ => exact (show False from q).elim⟩
theorem dgs_cons {a : Expr} {as : List Expr} {is js : List Nat} {tt : TG} {tts : TGs} {t : TDG} {u : List PyData → DEnv → (DEnv → Prop) → Prop} (h1 : PDG X B a is tt t) (h2 : PDGs X B as js tts u)
    (hp : PGs X (a :: as) (gCons tt tts)) : PDGs X B (a :: as) (is ++ js) (gCons tt tts) (dgCons t u) :=
  ⟨hp, fun M vs l σ H ds Q R g en h q c => by
    cases h with
    | nil => exact (show False from q).elim
    | @cons v vs d l hd hl =>
      refine ⟨v, vs, rfl, h1.sg M v d σ H ds _ _ g en hd q fun σ1 ds1 e1 n1 j1 u1 q1 => ?_⟩
      refine h2.sg M vs l σ1 H ds1 _ _ g e1 hl q1 fun σ2 ds2 e2 n2 j2 u2 q2 => ?_
      refine c σ2 ds2 e2 (n2.trans n1) (fun j hj => ?_) (u1.trans u2) q2
      rw [j2 j fun z => hj (List.mem_append_right _ z), j1 j fun z => hj (List.mem_append_left _ z)]⟩
def dgTup (n : Nat) (u : List PyData → DEnv → (DEnv → Prop) → Prop) : TDG := fun d ds Q => match d with
  | .tuple l => l.length = n ∧ u l ds Q
  | _ => False
theorem dg_tup {es : List Expr} {k n : Nat} {is : List Nat} {tts : TGs} {u : List PyData → DEnv → (DEnv → Prop) → Prop} (hc : X.calm = true) (h : PDGs X B es is tts u)
    (hn : (assignEach es X.env).length = n := by rfl) (hst : (assignEach es X.env).findIdx? (·.1) = none := by rfl) : PDG X B (.Tuple es k pos) is (gTup X.K n tts) (dgTup n u) :=
  ⟨pg_tup hc h.pg hn hst, fun M v d σ H ds Q R g en hd q c => by
    cases hd with
    | tup nm e a => exact ⟨_, _, rfl, SqT.of e, a.length.trans q.1, h.sg M _ _ σ H ds _ _ g en a q.2 c⟩
    | _ => exact (show False from q).elim⟩
def sAsg (d : TDE) (g : TDG) : TDS := fun DD ds => d ds fun x => g x ds DD.nx
theorem se_asg {is : List Nat} {tg : Expr} {tt : TG} {tdg : TDG} (h : SE B te d) (hg : PDG X B tg is tt tdg) : SS B (tAsg te tt) (sAsg d tdg) := fun M σ H ds DD D e o q c =>
  h M σ H ds _ _ e.g o.at_ q fun v H1 x g1 k1 hx q1 => hg.sg M v x σ H1 ds _ _ g1 (o.at_.keep e.g.1 k1) hx q1 fun σ' ds' e' _ _ u q2 => c.nx M σ' H1 ds' (e.expr g1 k1) (k1.stay e.g.1) (o.sub e' u) q2
theorem ds_set {i : Nat} {x : Str} {pos' : Pos} (hN : X.N.Nodup) (hi : X.N[i]? = some x) (hx : Loc X.env.scope x) (he : PD X B e te d) (hs : swapsWith e (some (.Name x pos')) pos.line X.env = pure false := by rfl) (hf : X.fn x = true ∨ X.env.scope.names.lookup x = some .local := by first | exact .inl rfl | exact .inr rfl | assumption) :
    PDS X B (.Assign [.Name x pos'] e pos) (tAsg te (gName i)) (sAsg d (dgName i)) := ⟨ps_set hN hi hx he.pe hs hf, se_asg he.se (dg_name (X := X) (pos := pos') hN hi hx hf)⟩
theorem ds_asg {is : List Nat} {tg : Expr} {tt : TG} {tdg : TDG} (he : PD X B e te d) (hg : PDG X B tg is tt tdg) (hs : swapsWithSole [tg] e pos.line X.env = pure false := by rfl) (hw : swappedStores [tg] e X.env = pure none := by rfl)
    (h1 : (assignEach [tg] X.env).map (·.2) = [assign tg X.env] := by rfl) : PDS X B (.Assign [tg] e pos) (tAsg te tt) (sAsg d tdg) := ⟨ps_asg he.pe hg.pg hs hw h1, se_asg he.se hg⟩
/-- a, b = x, y -/
def sPar (i j : Nat) (t : TDL) : TDS := fun DD ds => t ds fun l => match l with
  | [a, b] => DD.nx ((ds.set i (some (.dat a))).set j (some (.dat b)))
  | _ => False
theorem ds_par {i j : Nat} {x y : Str} {a b : Expr} {ta : TA} {px py pt : Pos} {kt k2 pt2} {l : TDL} (hc : X.calm = true) (hN : X.N.Nodup) (hi : X.N[i]? = some x) (hj : X.N[j]? = some y) (hij : i ≠ j)
    (hx : X.env.scope.names.lookup x = some .local) (hy : X.env.scope.names.lookup y = some .local) (ha : PDL X B [a, b] ta l)
    (hw : swappedStores [.Tuple [.Name x px, .Name y py] kt pt] (.Tuple [a, b] k2 pt2) X.env = pure (some [x, y]))
    (hs : swapsWithSole [.Tuple [.Name x px, .Name y py] kt pt] (.Tuple [a, b] k2 pt2) pos.line X.env = pure false := by rfl) :
    PDS X B (.Assign [.Tuple [.Name x px, .Name y py] kt pt] (.Tuple [a, b] k2 pt2) pos) (tPar i j ta) (sPar i j l) :=
  ⟨ps_par hc hN hi hj hij hx hy ha.pa hw hs, fun M σ H ds DD D e o q c => ha.sl M σ H ds _ _ e.g o.at_ q fun vs H1 l' g1 k1 hl q1 => by
    cases hl with
    | nil => exact (show False from q1).elim
    | cons h1 t1 => cases t1 with
      | nil => exact (show False from q1).elim
      | cons h2 t2 => cases t2 with
        | nil => exact ⟨_, _, rfl, c.nx M _ H1 _ (e.expr g1 k1) (k1.stay e.g.1) (o.sub (EnvAt.set (.dat h2) j (EnvAt.set (.dat h1) i (o.at_.keep e.g.1 k1))) (Sub.trans Sub.set Sub.set)) q1⟩
        | cons _ _ => exact (show False from q1).elim⟩
/-- x op= e, ints -/
def sAugI (i : Nat) (op : Int → Int → Int) (a : TDE) : TDS := fun DD ds => match ds[i]? with
  | some (some (.dat (.int n))) => a ds fun y => match y with
    | .int m => DD.nx (ds.set i (some (.dat (.int (op n m)))))
    | _ => False
  | _ => False
theorem ds_augI {i : Nat} {x : Str} {op : Operator} {f : Int → Int → Int} {pos' : Pos} (hN : X.N.Nodup) (hi : X.N[i]? = some x) (hx : Loc X.env.scope x) (he : PD X B e te d) (ho : PIp X op (ipI f)) (hf : X.fn x = true ∨ X.env.scope.names.lookup x = some .local := by first | exact .inl rfl | exact .inr rfl | assumption) :
    PDS X B (.AugAssign (.Name x pos') op e pos) (tAug i te (ipI f)) (sAugI i f d) :=
  ⟨ps_aug hN hi hx he.pe ho hf, fun M σ H ds DD D e o q c => by
    unfold sAugI at q
    split at q
    · rename_i n hn
      obtain ⟨v, hv, r⟩ := o.at_.get i hn
      cases r with
      | dat r =>
        cases r
        refine ⟨_, hv, he.se M σ H ds _ _ e.g o.at_ q fun y H1 dy g1 k1 hy q1 => ?_⟩
        cases dy <;> first | exact q1.elim | skip
        cases hy
        exact ⟨_, _, rfl, rfl, c.nx M _ H1 _ (e.expr g1 k1) (k1.stay e.g.1) (o.sub (EnvAt.set (.dat (.int _)) i (o.at_.keep e.g.1 k1)) Sub.set) q1⟩
    · exact q.elim⟩

/-! ### what is walked -/
/-- the walk J gives these items, as long as what is data stays data; it may make new objects -/
def ItOk (M : Addr → Prop) (B : Gr) (H : Hp) (J : It) (items : List PyData) : Prop := ∀ M2 H2, Good M2 B H2 → Stay M H M2 H2 → ∀ i, (i = items.length → J.stop i H2) ∧
  (i < items.length → J.go i H2 ∧ ∀ x H3, J.yld i H2 x H3 → Good M2 B H3 ∧ Keep M2 B H2 H3 ∧ ∃ d, items[i]? = some d ∧ Dt M2 H3 x d)
structure PDI (X : Cx) (B : Gr) (tg iter : Expr) (wi : TI) (t : TDL) : Prop where
  pi : PI X tg iter wi
  si : ∀ (M : Addr → Prop) σ H ds Q (R : It → Hp → Prop), Good M B H → EnvAt M B H σ ds → t ds Q → (∀ J H' l, Good M B H' → Keep M B H H' → ItOk M B H' J l → l.length ≤ sizeLine → Q l → R J H') → wi σ H R
def diSeq (a : TDE) : TDL := fun ds Q => a ds fun x => match x with
  | .list l => dSize l.length ∧ Q l
  | .tuple l => dSize l.length ∧ Q l
  | _ => False
theorem it_list {M : Addr → Prop} {B : Gr} {K : PySem.W.Frag} {H : Hp} {a : Addr} {xs : List V} {l : List PyData} (n : ¬ M a) (e : H a = some (.lst xs)) (h : DtA M H xs l) : ItOk M B H (Itl K a) l := fun M2 H2 g2 k i => by
  have e2 := (k _ _ n e).2
  refine ⟨fun hi => ⟨xs, SqL.of e2, by rw [h.length]; omega⟩, fun hi => ?_⟩
  obtain ⟨v, hv, r⟩ := DtA.get i h (List.getElem?_eq_getElem hi)
  refine ⟨⟨xs, v, SqL.of e2, hv⟩, fun x H3 ⟨z, y⟩ => ?_⟩
  have hx := y xs (SqL.of e2)
  rw [hv] at hx
  cases hx
  subst z
  exact ⟨g2, Keep.refl, _, List.getElem?_eq_getElem hi, r.map k⟩
theorem it_tup {M : Addr → Prop} {B : Gr} {K : PySem.W.Frag} {H : Hp} {a : Addr} {xs : List V} {l : List PyData} (n : ¬ M a) (e : H a = some (.tup xs)) (h : DtA M H xs l) : ItOk M B H (Itt K a) l := fun M2 H2 g2 k i => by
  have e2 := (k _ _ n e).2
  refine ⟨fun hi => ⟨xs, SqT.of e2, by rw [h.length]; omega⟩, fun hi => ?_⟩
  obtain ⟨v, hv, r⟩ := DtA.get i h (List.getElem?_eq_getElem hi)
  refine ⟨⟨xs, v, SqT.of e2, hv⟩, fun x H3 ⟨z, y⟩ => ?_⟩
  have hx := y xs (SqT.of e2)
  rw [hv] at hx
  cases hx
  subst z
  exact ⟨g2, Keep.refl, _, List.getElem?_eq_getElem hi, r.map k⟩
def diLst (a : TDE) : TDL := fun ds Q => a ds fun x => match x with
  | .list l => dSize l.length ∧ Q l
  | _ => False
def diTup (a : TDE) : TDL := fun ds Q => a ds fun x => match x with
  | .tuple l => dSize l.length ∧ Q l
  | _ => False
theorem di_list {tg : Expr} (h : PD X B e te d) : PDI X B tg e (iList X.K te) (diLst d) :=
  ⟨pi_list h.pe, fun M σ H ds Q R g en q c => h.se M σ H ds _ _ g en q fun v H1 x g1 k1 hx q1 => by
    cases hx with
    | lst n e a => exact ⟨_, rfl, ⟨_, SqL.of e⟩, c _ H1 _ g1 k1 (it_list n e a) q1.1.le q1.2⟩
    | _ => exact (show False from q1).elim⟩
theorem di_tup {tg : Expr} (h : PD X B e te d) : PDI X B tg e (iTup X.K te) (diTup d) :=
  ⟨pi_tup h.pe, fun M σ H ds Q R g en q c => h.se M σ H ds _ _ g en q fun v H1 x g1 k1 hx q1 => by
    cases hx with
    | tup n e a => exact ⟨_, rfl, ⟨_, SqT.of e⟩, c _ H1 _ g1 k1 (it_tup n e a) q1.1.le q1.2⟩
    | _ => exact (show False from q1).elim⟩
def rangeD (lo : Int) (n : Nat) : List PyData := (List.range n).map fun (i : Nat) => PyData.int (lo + (i : Int))
theorem rangeD_len (lo : Int) (n : Nat) : (rangeD lo n).length = n := by
  unfold rangeD
  rw [List.length_map, List.length_range]
theorem it_range {M : Addr → Prop} {B : Gr} {H : Hp} (lo : Int) (n : Nat) : ItOk M B H (Itr lo n) (rangeD lo n) := fun M2 H2 g2 k i => by
  rw [rangeD_len]
  refine ⟨fun hi => Nat.le_of_eq hi.symm, fun hi => ⟨hi, fun x H3 y => ?_⟩⟩
  obtain ⟨rfl, rfl⟩ := y
  refine ⟨g2, Keep.refl, PyData.int (lo + (i : Int)), ?_, .int _⟩
  unfold rangeD
  rw [List.getElem?_map, List.getElem?_range hi]
  rfl
def diR1 (t : TDL) : TDL := fun ds Q => t ds fun l => match l with
  | [.int j] => j < 1000000 ∧ -1000000 < j ∧ Q (rangeD 0 j.toNat)
  | _ => False
def diR2 (t : TDL) : TDL := fun ds Q => t ds fun l => match l with
  | [.int i, .int j] => -(2 ^ 62) ≤ i ∧ i < 2 ^ 62 ∧ -(2 ^ 62) ≤ j ∧ j < 2 ^ 62 ∧ j - i < 1000000 ∧ Q (rangeD i (j - i).toNat)
  | _ => False
theorem di_range1 {tg a : Expr} {ta : TA} {p : Pos} {l : TDL} (hg : Gl X "range") (hm : X.mg "range" = none) (ha : PDL X B [a] ta l) (hs : starEach [a] X.env = [(false, eval a X.env)] := by rfl) : PDI X B tg (.Call (.Name "range" p) [a] [] pos) (iRng1 ta) (diR1 l) :=
  ⟨pi_range1 hg hm ha.pa hs, fun M σ H ds Q R g en q c => ha.sl M σ H ds _ _ g en q fun vs H1 l' g1 k1 hl q1 => by
    cases hl with
    | nil => exact (show False from q1).elim
    | cons h1 t1 => cases t1 with
      | nil =>
        cases h1 with
        | int j =>
          obtain ⟨b1, b2, q2⟩ := q1
          have hs : sizeLine = 16777216 := sizeLine_eq
          exact ⟨j, rfl, by omega, by omega, c _ H1 _ g1 k1 (it_range 0 j.toNat) (by rw [rangeD_len]; omega) q2⟩
        | _ => exact (show False from q1).elim
      | cons _ _ => cases h1 <;> exact (show False from q1).elim⟩
theorem di_range2 {tg a b : Expr} {ta : TA} {p : Pos} {l : TDL} (hg : Gl X "range") (hm : X.mg "range" = none) (ha : PDL X B [a, b] ta l) (hs : starEach [a, b] X.env = [(false, eval a X.env), (false, eval b X.env)] := by rfl) (hs2 : starEach [b] X.env = [(false, eval b X.env)] := by rfl) :
    PDI X B tg (.Call (.Name "range" p) [a, b] [] pos) (iRng2 ta) (diR2 l) :=
  ⟨pi_range2 hg hm ha.pa hs hs2, fun M σ H ds Q R g en q c => ha.sl M σ H ds _ _ g en q fun vs H1 l' g1 k1 hl q1 => by
    cases hl with
    | nil => exact (show False from q1).elim
    | cons h1 t1 => cases t1 with
      | nil => cases h1 <;> exact (show False from q1).elim
      | cons h2 t2 => cases t2 with
        | cons _ _ => cases h1 <;> cases h2 <;> exact (show False from q1).elim
        | nil =>
          cases h1 with
          | int i =>
            cases h2 with
            | int j =>
              obtain ⟨b1, b2, b3, b4, b5, q2⟩ := q1
              have hs : sizeLine = 16777216 := sizeLine_eq
              exact ⟨i, j, rfl, ⟨b1, b2, b3, b4⟩, c _ H1 _ g1 k1 (it_range i (j - i).toNat) (by rw [rangeD_len]; omega) q2⟩
            | _ => exact (show False from q1).elim
          | _ => cases h2 <;> exact (show False from q1).elim⟩

/-! ### for -/
def forW (g : TDG) (b : TDS) (DD : DEnds) : List PyData → DEnv → Prop
  | [], ds => DD.nx ds
  | x :: r, ds => g x ds fun ds' => b { nx := forW g b DD r, rt := DD.rt, bk := DD.nx, ct := forW g b DD r } ds'
def sFor (t : TDL) (g : TDG) (b : TDS) : TDS := fun DD ds => t ds fun l => forW g b DD l ds
theorem drop_at {α : Type} {l : List α} {i : Nat} {x : α} (h : l[i]? = some x) : l.drop i = x :: l.drop (i + 1) := by
  obtain ⟨hi, e⟩ := List.getElem?_eq_some_iff.mp h
  rw [← e]
  exact List.drop_eq_getElem_cons hi
theorem ds_for {iter tg : Expr} {body : List Stmt} {wi : TI} {is : List Nat} {tt : TG} {tdg : TDG} {l : TDL} (hp : PassesOwn (model X.prog X.w) X.A X.env X.xe) (hc : X.calm = true) (hi : PDI X B tg iter wi l) (hg : PDG X B tg is tt tdg) (hb : PDSs X B body ts t)
    (hs : ∀ x, foldedSetIterable iter X.env x = pure x := by intro _; rfl) : PDS X B (.For tg iter body [] pos) (tFor wi tt ts) (sFor l tdg t) :=
  ⟨ps_for hp hc hi.pi hg.pg hb.ps hs, fun M σ H ds DD D e o q c => hi.si M σ H ds _ _ e.g o.at_ q fun J H1 items g1 k1 ok _ q1 => by
    refine ⟨fun i m σ' H' => m = items.length - i ∧ i ≤ items.length ∧ ∃ M' ds', Ent B M' H' ∧ Stay M H1 M' H' ∧ EnvO M' B H' σ' ds' ∧ forW tdg t DD (items.drop i) ds', ⟨_, rfl, Nat.zero_le _, M, ds, e.expr g1 k1, Stay.refl, o.expr e.g.1 k1, by rw [List.drop_zero]; exact q1⟩, ?_⟩
    rintro i m σ' H' ⟨rfl, hle, M', ds', e', k', o', w'⟩
    by_cases hlt : i < items.length
    · obtain ⟨go, yl⟩ := (ok M' H' e'.g k' i).2 hlt
      refine .inr ⟨go, fun σ2 H2 => ∃ M2 ds2, Ent B M2 H2 ∧ Stay M H1 M2 H2 ∧ EnvO M2 B H2 σ2 ds2 ∧ forW tdg t DD (items.drop (i + 1)) ds2, fun σ2 H2 z => ⟨items.length - (i + 1), by omega, rfl, hlt, z⟩, fun x H3 y => ?_⟩
      obtain ⟨g3, k3, dx, hx, rx⟩ := yl x H3 y
      rw [drop_at hx] at w'
      have o3 := o'.expr e'.g.1 k3
      have s3 : Stay M H1 M' H3 := k'.trans (k3.stay e'.g.1)
      refine hg.sg M' x dx σ' H3 ds' _ _ g3 o3.at_ rx w' fun σ3 ds3 e3 _ _ u3 w3 => ?_
      have kk : ContE B M' H3 (forW tdg t DD (items.drop (i + 1))) (fun σ2 H2 => ∃ M2 ds2, Ent B M2 H2 ∧ Stay M H1 M2 H2 ∧ EnvO M2 B H2 σ2 ds2 ∧ forW tdg t DD (items.drop (i + 1)) ds2) :=
        fun M4 σ4 H4 ds4 e4 k4 o4 w4 => ⟨M4, ds4, e4, s3.trans k4, o4, w4⟩
      exact hb.ss M' σ3 H3 ds3 _ _ (e'.expr g3 k3) (o3.sub e3 u3) w3 ⟨kk, c.rt, c.nx.stay ((k1.stay e.g.1).trans s3), kk⟩
    · have z := ok M' H' e'.g k' i
      refine .inl ⟨z.1 (by omega), ?_⟩
      rw [List.drop_eq_nil_of_le (by omega)] at w'
      exact c.nx M' σ' H' ds' e' ((k1.stay e.g.1).trans k') o' w'⟩
end
end DL
namespace DL
open PySem L2

/-! ### [e for x in l if t] -/
abbrev wM (M : Addr → Prop) (D : Addr) : Addr → Prop := fun a => M a ∨ a = D
theorem stay_addM {M : Addr → Prop} {H : Hp} {D : Addr} (hD : H D = none) : Stay M H (wM M D) H := fun a o n e => ⟨fun z => z.elim n (ne_of_none e hD), e⟩
theorem stay_updD {M : Addr → Prop} {H : Hp} {D : Addr} {o : HO} (m : M D) : Stay M H M (upd H D o) := fun a u n e => ⟨n, by rw [upd_ne (fun z => n (by rw [z]; exact m))]; exact e⟩
theorem stay_lessM {M : Addr → Prop} {H : Hp} {D : Addr} : Stay (wM M D) H M H := Stay.less fun _ => .inl
theorem Dt.addM {M : Addr → Prop} {H : Hp} {D : Addr} (hD : H D = none) {d : PyData} {v : V} (h : Dt M H v d) : Dt (wM M D) H v d := h.map (stay_addM hD)
theorem DtA.addM {M : Addr → Prop} {H : Hp} {D : Addr} (hD : H D = none) {d : List PyData} {v : List V} (h : DtA M H v d) : DtA (wM M D) H v d := h.map (stay_addM hD)
theorem Dt.updD {M : Addr → Prop} {H : Hp} {D : Addr} {o : HO} (m : M D) {d : PyData} {v : V} (h : Dt M H v d) : Dt M (upd H D o) v d := h.map (stay_updD m)
theorem DtA.updD {M : Addr → Prop} {H : Hp} {D : Addr} {o : HO} (m : M D) {d : List PyData} {v : List V} (h : DtA M H v d) : DtA M (upd H D o) v d := h.map (stay_updD m)
theorem Dt.lessM {M : Addr → Prop} {H : Hp} {D : Addr} {d : PyData} {v : V} (h : Dt (wM M D) H v d) : Dt M H v d := h.map stay_lessM
theorem DtA.lessM {M : Addr → Prop} {H : Hp} {D : Addr} {d : List PyData} {v : List V} (h : DtA (wM M D) H v d) : DtA M H v d := h.map stay_lessM
theorem DvR.addM {M : Addr → Prop} {B : Gr} {H : Hp} {D : Addr} (hD : H D = none) {v : V} {x : DV} (h : DvR M B H v x) : DvR (wM M D) B H v x := by
  cases h with
  | bag hq nq e => exact .bag hq (fun z => z.elim nq (ne_of_none e hD)) e
  | loose hs h o =>
    rename_i d S
    have st : Stay (minS M S) H (minS (wM M D) S) H := fun b u n e => ⟨fun z => z.1.elim (fun w => n ⟨w, z.2⟩) (ne_of_none e hD), e⟩
    exact .loose (fun b z => ⟨.inl (hs b z).1, (hs b z).2⟩) (h.map st) (o.map st h)
  | dat h => exact .dat (h.addM hD)
  | obj ma nb z e h => exact .obj (.inl ma) nb z e (h.map (stay_addM hD))
  | grow ma nb z e h => exact .grow (.inl ma) nb z e (h.addM hD)
  | grid ma nb z e nd h => exact .grid (.inl ma) nb z e nd (h.map (stay_addM hD) fun r xs _ m n z e => ⟨.inl m, n, z, e⟩)
  | exc h => exact .exc (h.map (stay_addM hD))
theorem EnvAt.addM {M : Addr → Prop} {B : Gr} {H : Hp} {D : Addr} (hD : H D = none) : ∀ {σ : L2.St} {ds : DEnv}, EnvAt M B H σ ds → EnvAt (wM M D) B H σ ds
  | _, _, .nil => .nil
  | _, _, .cons h t => .cons (by
    cases h with
    | non => exact .non _
    | som h => exact .som (h.addM hD)) (EnvAt.addM hD t)
theorem Good.addM {M : Addr → Prop} {B : Gr} {H : Hp} (g : Good M B H) {D : Addr} {o : HO} (hD : H D = none) (nt : ∀ ys, o ≠ .tup ys := by intro _ h; cases h) : Good (wM M D) B (upd H D o) := by
  have f0 := g.fresh0 hD
  obtain ⟨m, md, ⟨b0, b1, b2, q, ns, h1, h3, h4⟩, d⟩ := g
  have st0 : ∀ a u, ¬ B.M0 a → B.H0 a = some u → ¬ wM M D a := fun a u n e z => by
    rcases z with z | w
    · exact d.stay a u n e z
    · rw [w, f0] at e
      cases e
  have st1 : Stay M H (wM M D) (upd H D o) := fun a u n e => ⟨fun z => z.elim n (ne_of_none e hD), by rw [upd_ne (ne_of_none e hD)]; exact e⟩
  refine ⟨.inl m, fun a ma => ?_, ⟨b0, b1, b2, q, ns, by rw [upd_ne (ne_of_none h1 hD)]; exact h1, by rw [upd_ne (ne_of_none h3 hD)]; exact h3, h4⟩, d.g0, d.m0, fun a ma => .inl (d.sub a ma), d.keep.trans (Keep.new hD), st0, d.st.trans st1, fun a u e => ?_, d.bq, fun a ma ys => by
    by_cases z : a = D
    · rw [z, upd_same]
      exact fun w => nt ys (Option.some.inj w)
    · rw [upd_ne z]
      exact d.nt a (ma.resolve_right z) ys⟩
  · rcases ma with ma | rfl
    · obtain ⟨u, e⟩ := md a ma
      exact ⟨u, by rw [upd_ne (ne_of_none e hD)]; exact e⟩
    · exact ⟨o, upd_same⟩
  · obtain ⟨u2, e2⟩ := d.al a u e
    exact ⟨u2, by rw [upd_ne (ne_of_none e2 hD)]; exact e2⟩
theorem al_upd {H : Hp} {D a : Addr} {o u : HO} (e : H a = some u) : ∃ u2, (upd H D o) a = some u2 := by
  by_cases z : a = D
  · exact ⟨o, by rw [z]; exact upd_same⟩
  · exact ⟨u, by rw [upd_ne z]; exact e⟩
theorem Good.updD {M : Addr → Prop} {B : Gr} {H : Hp} (g : Good M B H) {D : Addr} {o : HO} (m : M D) (nb : D ≠ B) (f0 : B.H0 D = none) (nt : ∀ ys, o ≠ .tup ys := by intro _ h; cases h) : Good M B (upd H D o) := by
  obtain ⟨mB, md, ⟨b0, b1, b2, q, ns, h1, h3, h4⟩, d⟩ := g
  have h2 : q ≠ D := fun z => by
    obtain ⟨q2, o2, a1, a2⟩ := d.bq
    have e1 := d.keep.q q2 a1
    unfold bagq at e1
    rw [h1] at e1
    cases e1
    rw [z, f0] at a2
    cases a2
  refine ⟨mB, fun a ma => ?_, ⟨b0, b1, b2, q, ns, by rw [upd_ne nb.symm]; exact h1, by rw [upd_ne h2]; exact h3, h4⟩, d.g0, d.m0, d.sub, ⟨fun b u n e => ?_, fun q' hq => by rw [bagq_upd nb]; exact d.keep.q q' hq⟩, d.stay, d.st.trans (stay_updD m), fun a u e => ?_, d.bq, fun a ma ys => by
    by_cases z : a = D
    · rw [z, upd_same]
      exact fun w => nt ys (Option.some.inj w)
    · rw [upd_ne z]
      exact d.nt a ma ys⟩
  · obtain ⟨u, q⟩ := md a ma
    exact al_upd q
  · rw [upd_ne (fun z => by rw [z, f0] at e; cases e)]
    exact d.keep.k b u n e
  · obtain ⟨u2, e2⟩ := d.al a u e
    exact al_upd e2
theorem Good.lessM {M : Addr → Prop} {B : Gr} {H : Hp} {D : Addr} (hs : ∀ a, B.M0 a → M a) (g : Good (wM M D) B H) : Good M B H := g.less (fun _ => .inl) hs

abbrev lcW (g : TDG) (tt : TDT) (te : TDE) (ds : DEnv) : List PyData → List PyData → (PyData → Prop) → Prop :=
  fun l => l.rec (motive := fun _ => List PyData → (PyData → Prop) → Prop) (fun acc Q => Q (.list acc)) fun x _ ih acc Q => g x ds fun ds' => tt ds' fun b => (b = true → te ds' fun y => ih (acc ++ [y]) Q) ∧ (b = false → ih acc Q)
def dLc (l : TDL) (g : TDG) (tt : TDT) (te : TDE) (vs : List Nat) : TDE := fun ds Q => l ds fun items => lcW g tt te (wipeD ds vs) items [] Q
theorem wipe_get (σ : L2.St) (j : Nat) : ∀ vs : List Nat, (L2.wipe σ vs)[j]? = if j ∈ vs then (σ[j]?).map (fun _ => none) else σ[j]?
  | [] => by simp [L2.wipe]
  | v :: vs => by
    unfold L2.wipe
    by_cases e : v = j
    · subst e
      rw [if_pos (List.mem_cons_self ..)]
      by_cases h : v < σ.length
      · rw [List.getElem?_set_self (by rw [wipe_length]; exact h), List.getElem?_eq_getElem h]
        rfl
      · rw [List.getElem?_eq_none (by rw [List.length_set, wipe_length]; omega), List.getElem?_eq_none (by omega)]
        rfl
    · rw [List.getElem?_set_ne e, wipe_get σ j vs]
      have : (j ∈ v :: vs) ↔ j ∈ vs := by
        rw [List.mem_cons]
        exact ⟨fun z => z.elim (fun w => absurd w.symm e) id, .inr⟩
      simp only [this]
theorem wipe_eq {σ σ' : L2.St} {is vs : List Nat} (hl : σ'.length = σ.length) (h : ∀ j, j ∉ is → σ'[j]? = σ[j]?) (hs : ∀ j ∈ is, j ∈ vs) : L2.wipe σ' vs = L2.wipe σ vs := by
  refine List.ext_getElem? fun j => ?_
  rw [wipe_get, wipe_get]
  by_cases m : j ∈ vs
  · rw [if_pos m, if_pos m]
    by_cases z : j < σ.length
    · rw [List.getElem?_eq_getElem z, List.getElem?_eq_getElem (by rw [hl]; exact z)]
      rfl
    · rw [List.getElem?_eq_none (by omega), List.getElem?_eq_none (by omega)]
  · rw [if_neg m, if_neg m]
    exact h j fun z => m (hs j z)
theorem wipe_idem (σ : L2.St) (vs : List Nat) : L2.wipe (L2.wipe σ vs) vs = L2.wipe σ vs :=
  wipe_eq (is := vs) (wipe_length σ vs) (fun j hj => by rw [wipe_get, if_neg hj]) fun j hj => hj
section
variable {X : Cx} {B : Gr} {pos : Pos}
theorem se_lc {elt tg iter : Expr} {wi : TI} {tt : TG} {tT : TT} {te : TE} {l : TDL} {g : TDG} {t : TDT} {d : TDE} {is vs : List Nat}
    (hi : PDI X B tg iter wi l) (hg : ∀ (M : Addr → Prop) v d σ H ds Q (R : L2.St → Hp → Prop), Good M B H → EnvAt M B H σ ds → Dt M H v d → g d ds Q → (∀ σ' ds', EnvAt M B H σ' ds' → σ'.length = σ.length → (∀ j, j ∉ is → σ'[j]? = σ[j]?) → Sub σ ds σ' ds' → Q ds' → R σ' H) → tt v σ H R)
    (ht : ∀ (M : Addr → Prop) σ H ds Q (R : Bool → Hp → Prop), Good M B H → EnvAt M B H σ ds → t ds Q → (∀ b H', Good M B H' → Keep M B H H' → Q b → R b H') → tT σ H R)
    (he : SE B te d) (hv : ∀ j ∈ is, j ∈ vs) : SE B (tLc wi tt tT te vs) (dLc l g t d vs) := fun M σ H ds Q R g0 en q c => by
  refine hi.si M σ H ds _ _ g0 en q fun J H1 items g1 k1 ok hsz q1 D hD => ?_
  have mB : M B := g1.1
  have nb : D ≠ B := fun z => by
    obtain ⟨o, e⟩ := g1.2.1 B mB
    rw [z, e] at hD
    cases hD
  have en1 : EnvAt (wM M D) B H1 (L2.wipe σ vs) (wipeD ds vs) := ((en.keep g0.1 k1).wipe vs).addM hD
  refine ⟨fun i m H' => m = items.length - i ∧ i ≤ items.length ∧ Good (wM M D) B H' ∧ Keep M B H1 H' ∧ (∃ us acc, H' D = some (.lst us) ∧ us.length ≤ i ∧ DtA (wM M D) H' us acc ∧ lcW g t d (wipeD ds vs) (items.drop i) acc Q),
    ⟨_, rfl, Nat.zero_le _, g1.addM hD, Keep.new hD, [], [], upd_same, Nat.le_refl _, .nil, by rw [List.drop_zero]; exact q1⟩, ?_⟩
  rintro i m H' ⟨rfl, hle, g', k', us, acc, hL, hu, hA, w'⟩
  have stay : ∀ {b : Addr} {o : HO}, H1 b = some o → b ≠ D := fun e => ne_of_none e hD
  have st1 : Stay M H1 (wM M D) H' := fun a o n e => ⟨fun z => z.elim n (stay e), k'.k a o (fun z => n (by rw [z]; exact mB)) e⟩
  by_cases hlt : i < items.length
  · obtain ⟨go, yl⟩ := (ok (wM M D) H' g' st1 i).2 hlt
    refine .inr ⟨go, fun H2 => i + 1 ≤ items.length ∧ Good (wM M D) B H2 ∧ Keep M B H1 H2 ∧ (∃ us acc, H2 D = some (.lst us) ∧ us.length ≤ i + 1 ∧ DtA (wM M D) H2 us acc ∧ lcW g t d (wipeD ds vs) (items.drop (i + 1)) acc Q), fun H2 z => ⟨items.length - (i + 1), by omega, rfl, z⟩, fun x H3 y => ?_⟩
    obtain ⟨g3, k3, dx, hx, rx⟩ := yl x H3 y
    rw [drop_at hx] at w'
    have kD : Keep (wM M D) B H1 H3 := k'.any.trans k3
    have mD : wM M D B := .inl mB
    have hL3 : H3 D = some (.lst us) := k3.k D _ nb hL
    have hA3 := hA.keep mD k3
    refine hg (wM M D) x dx _ H3 _ _ _ g3 (en1.keep mD kD) rx w' fun σ3 ds3 e3 l3 j3 _ w3 => ?_
    refine ⟨(wipe_eq l3 j3 hv).trans (wipe_idem σ vs), ?_⟩
    refine ht (wM M D) σ3 H3 ds3 _ _ g3 e3 w3 fun b H4 g4 k4 w4 => ?_
    have keepD : ∀ {Ha Hb : Hp} {o : HO}, Keep (wM M D) B Ha Hb → Ha D = some o → Hb D = some o := fun k e => k.k D _ nb e
    cases b with
    | false => exact iteF ⟨hlt, g4, (kD.trans k4).any, us, acc, keepD k4 hL3, by omega, hA3.keep mD k4, w4.2 rfl⟩
    | true =>
      refine iteT ?_
      refine he (wM M D) σ3 H4 ds3 _ _ g4 (e3.keep mD k4) (w4.1 rfl) fun v H5 dv g5 k5 hd5 w5 => ?_
      have hL5 := keepD k5 (keepD k4 hL3)
      have kk := (kD.trans k4).trans k5
      refine ⟨us, hL5, by omega, hlt, g5.updD (.inr rfl) nb (g1.fresh0 hD), ⟨fun b o n e => ?_, fun q e => by rw [bagq_upd nb]; exact kk.q q e⟩, us ++ [v], acc ++ [dv], upd_same, by rw [List.length_append, List.length_singleton]; omega,
        DtA.updD (.inr rfl) (((hA3.keep mD k4).keep mD k5).append (.cons hd5 .nil)), w5⟩
      rw [upd_ne (stay e)]
      exact kk.k b o n e
  · refine .inl ⟨(ok (wM M D) H' g' st1 i).1 (by omega), ?_⟩
    rw [List.drop_eq_nil_of_le (by omega)] at w'
    exact c (.ref D) H' _ (g'.lessM g1.d.sub) (k1.trans k') (.lst (fun z => by
      obtain ⟨o, e⟩ := g1.2.1 D z
      rw [hD] at e
      cases e) hL hA.lessM) w'
theorem d_lc {elt tg iter : Expr} {ifs : List Expr} {scope : Scope} {own : List (Str × Nat)} {wi : TI} {tt : TG} {tT : TT} {te : TE} {l : TDL} {g : TDG} {t : TDT} {d : TDE} {is : List Nat} (hc : X.calm = true) (hN : X.N.Nodup) (hi : PDI X B tg iter wi l) (ok : BlkOk X.N X.env.scope scope own)
    (hg : ∀ (s : Shared) (H : Hp) (C : Addr) (cl : List (Str × Addr)) (fp : List Addr), PDG (X.blk s H scope (compEnvC scope cl C X.env) fp) B tg is tt g)
    (ht : ∀ (s : Shared) (H : Hp) (C : Addr) (cl : List (Str × Addr)) (fp : List Addr), PTs (X.blk s H scope (compEnvC scope cl C X.env) fp) ifs tT)
    (hts : ∀ (M : Addr → Prop) σ H ds Q (R : Bool → Hp → Prop), Good M B H → EnvAt M B H σ ds → t ds Q → (∀ b H', Good M B H' → Keep M B H H' → Q b → R b H') → tT σ H R)
    (he : ∀ (s : Shared) (H : Hp) (C : Addr) (cl : List (Str × Addr)) (fp : List Addr), PD (X.blk s H scope (compEnvC scope cl C X.env) fp) B elt te d)
    (hv : ∀ j ∈ is, j ∈ own.map (·.2)) (hs : ∀ x, foldedSetIterable iter X.env x = pure x := by intro _; rfl) :
    PD X B (.ListComp elt [⟨tg, iter, ifs, 0⟩] scope pos) (tLc wi tt tT te (own.map (·.2))) (dLc l g t d (own.map (·.2))) :=
  ⟨pe_lc hc hN hi.pi ok (fun s H C cl fp => (hg s H C cl fp).pg) ht (fun s H C cl fp => (he s H C cl fp).pe) hs,
    se_lc (elt := elt) hi (hg X.s_0 X.H_0 0 [] []).sg hts (he X.s_0 X.H_0 0 [] []).se hv⟩
/-- y = [..] on one line -/
theorem ds_setLc {i : Nat} {y : Str} {py : Pos} {elt tg iter : Expr} {ifs : List Expr} {scope : Scope} {own : List (Str × Nat)} {spos : Pos} {wi : TI} {tt : TG} {tT : TT} {te : TE} {l : TDL} {g : TDG} {t : TDT} {d : TDE} {is : List Nat} (hc : X.calm = true) (hN : X.N.Nodup) (hy : X.N[i]? = some y) (hyl : X.env.scope.names.lookup y = some .local)
    (hsw : swapsWith (.ListComp elt [⟨tg, iter, ifs, 0⟩] scope pos) (some (.Name y py)) spos.line X.env = pure true) (hi : PDI X B tg iter wi l) (ok : BlkOk X.N X.env.scope scope own)
    (hg : ∀ (s : Shared) (H : Hp) (C : Addr) (cl : List (Str × Addr)) (fp : List Addr), PDG (X.blk s H scope (compEnvC scope cl C X.env) fp) B tg is tt g)
    (ht : ∀ (s : Shared) (H : Hp) (C : Addr) (cl : List (Str × Addr)) (fp : List Addr), PTs (X.blk s H scope (compEnvC scope cl C X.env) fp) ifs tT)
    (hts : ∀ (M : Addr → Prop) σ H ds Q (R : Bool → Hp → Prop), Good M B H → EnvAt M B H σ ds → t ds Q → (∀ b H', Good M B H' → Keep M B H H' → Q b → R b H') → tT σ H R)
    (he : ∀ (s : Shared) (H : Hp) (C : Addr) (cl : List (Str × Addr)) (fp : List Addr), PD (X.blk s H scope (compEnvC scope cl C X.env) fp) B elt te d)
    (hv : ∀ j ∈ is, j ∈ own.map (·.2)) (hs : ∀ x, foldedSetIterable iter X.env x = pure x := by intro _; rfl) :
    PDS X B (.Assign [.Name y py] (.ListComp elt [⟨tg, iter, ifs, 0⟩] scope pos) spos) (tAsg (tLc wi tt tT te (own.map (·.2))) (gName i)) (sAsg (dLc l g t d (own.map (·.2))) (dgName i)) :=
  ⟨ps_setLc hc hN hy hyl hsw hi.pi ok (fun s H C cl fp => (hg s H C cl fp).pg) ht (fun s H C cl fp => (he s H C cl fp).pe) hs, fun M σ H ds DD D e o q c =>
    se_lc (elt := elt) hi (hg X.s_0 X.H_0 0 [] []).sg hts (he X.s_0 X.H_0 0 [] []).se hv M σ H ds _ _ e.g o.at_ q fun v H1 x g1 k1 hx q1 => c.nx M _ H1 _ (e.expr g1 k1) (k1.stay e.g.1) (o.sub (EnvAt.set (.dat hx) i (o.at_.keep e.g.1 k1)) Sub.set) q1⟩
def dYes : TDT := fun _ Q => Q true
theorem st_yes (M : Addr → Prop) (σ : L2.St) (H : Hp) (ds : DEnv) (Q : Bool → Prop) (R : Bool → Hp → Prop) (g : Good M B H) (_ : EnvAt M B H σ ds) (h : dYes ds Q) (c : ∀ b H', Good M B H' → Keep M B H H' → Q b → R b H') : tYes σ H R := c true H g Keep.refl h
end

/-! ### repr -/
def cRepr : DC := fun l Q => match l with
  | [d] => d.hasDict = false ∧ d.showable = true ∧ d.depth ≤ 60 ∧ dSize d.shown.length ∧ Q (.str d.shown)
  | _ => False
def rReprV (K : PySem.W.Frag) : List V → Hp → VK → Prop := fun xs H Q => ∃ v d, xs = [v] ∧ Dp K H v d ∧ d.showable = true ∧ d.depth ≤ 60 ∧ d.shown.length ≤ sizeLine ∧ Q (.str d.shown) H
mutual
theorem noDict {K : PySem.W.Frag} {H : Hp} : ∀ {d : PyData} {v : V}, Dp K H v d → d.hasDict = false
  | .none, _, _ => by simp only [PyData.hasDict]
  | .bool _, _, _ => by simp only [PyData.hasDict]
  | .int _, _, _ => by simp only [PyData.hasDict]
  | .str _, _, _ => by simp only [PyData.hasDict]
  | .list ds, _, h => by
    cases h with
    | lst _ a =>
      simp only [PyData.hasDict]
      exact noDictA a
  | .tuple ds, _, h => by
    cases h with
    | tup _ a =>
      simp only [PyData.hasDict]
      exact noDictA a
  | .dict _, _, h => by cases h
theorem noDictA {K : PySem.W.Frag} {H : Hp} : ∀ {ds : List PyData} {vs : List V}, DpAll K H vs ds → PyData.hasDictAll ds = false
  | [], _, _ => by simp only [PyData.hasDictAll]
  | d :: ds, _, h => by
    cases h with
    | cons h1 h2 =>
      simp only [PyData.hasDictAll, noDict h1, noDictA h2]
      rfl
end
theorem call_reprV {X : Cx} (hG : X.A.guards = some []) (hu : X.A.units + 64 < cLine) : CallR X (.builtin "repr") (rReprV X.K) := by
  intro pins s σ H xs us Q I r h
  obtain ⟨v, d, rfl, hd, hs, hdp, hz, q⟩ := h
  obtain ⟨u, rfl, rv⟩ := vals1 r
  cases hd with
  | non =>
    cases rv
    refine PySem.P.repr_of_none ⟨.str _, H, I.tok _, ⟨_, rfl⟩, ?_⟩
    rw [PyData.shown_none] at q
    exact q
  | bl b =>
    cases rv
    refine PySem.P.repr_of_bool ⟨.str _, H, I.tok _, ⟨_, rfl⟩, ?_⟩
    rw [PyData.shown_bool] at q
    exact q
  | int i =>
    obtain ⟨t, rfl⟩ := rv
    have h1 : i.natAbs.log2 < 1920 := by simpa [PyData.showable] using hs
    refine PySem.P.repr_of_int h1 ⟨.str _, H, I.tok _, ⟨_, rfl⟩, ?_⟩
    rw [PyData.shown_int] at q
    exact q
  | str z =>
    obtain ⟨t, rfl⟩ := rv
    rw [PyData.shown_str] at q hz
    exact PySem.P.repr_of_str ⟨.str _, H, I.tok _, ⟨_, rfl⟩, q⟩ hz
  | @lst a xs ds e ea =>
    cases rv
    obtain ⟨as, rd⟩ := Dp.reads I (.list ds) (.ref a) (.ref a) (.lst e ea) rfl
    exact repr_of_reads' rd hs (PyData.noDict_hsm (noDict (Dp.lst e ea))) hG (by omega) (fun _ _ e => e) (fun h' u tk k => ⟨.str _, H, I.kept k, ⟨_, rfl⟩, q⟩) hz
  | @tup a xs ds e ea =>
    cases rv
    obtain ⟨as, rd⟩ := Dp.reads I (.tuple ds) (.ref a) (.ref a) (.tup e ea) rfl
    exact repr_of_reads' rd hs (PyData.noDict_hsm (noDict (Dp.tup e ea))) hG (by omega) (fun _ _ e => e) (fun h' u tk k => ⟨.str _, H, I.kept k, ⟨_, rfl⟩, q⟩) hz
theorem rdc_repr {B : Gr} {K : PySem.W.Frag} : RDC B (rReprV K) cRepr := by
  intro M vs l H Q R g hl h c
  unfold cRepr at h
  split at h
  · cases hl with
    | cons h1 h2 =>
      cases h2
      exact ⟨_, _, rfl, Dt.dp h.1 h1, h.2.1, h.2.2.1, h.2.2.2.1.le, c _ H _ g Keep.refl (.str _) h.2.2.2.2⟩
  · exact h.elim

/-! ### a def by its body's reading over data -/
theorem ArgsAt.re {M : Addr → Prop} {B : Gr} {M0 : Addr → Prop} {H H0 : Hp} {N : V → Prop} : ∀ {vs : List V} {xs : List DV}, ArgsAt M B H vs xs → ArgsAt M ⟨B.a, M0, H0, M0, H0, N⟩ H vs xs
  | _, _, .nil => .nil
  | _, _, .cons h n t => .cons (by
    cases h with
    | bag hq nq e => exact .bag (B := ⟨B.a, M0, H0, M0, H0, N⟩) hq nq e
    | loose _ _ _ => exact n.elim
    | obj _ _ _ _ _ => exact n.elim
    | dat h => exact .dat h
    | exc h => exact .exc h
    | grow _ _ _ _ _ => exact n.elim
    | grid _ _ _ _ _ _ => exact n.elim) n (ArgsAt.re t)
/-- what a body's rules ask of their context -/
structure CxD (k : Nat) (X : Cx) : Prop where
  room : Room k X.A
  guards : X.A.guards = some []
theorem fn_D {P : Program} {w : World} {K : PySem.W.Frag} {mg : Str → Option Value} {base : Heap} {k : Nat} {f : Addr} {fd : FuncData} {x qual : Str} {st : Stmt} {N ps : List Str} {R : DR} (F : Fun K x qual st f fd) (S : FnScope N ps (defScope st))
    (len : ∀ xs Q, R xs Q → xs.length = ps.length)
    (body : ∀ (cdv : Value) (A : Around) (outer : List Env) (s : Shared) (H : Hp) (B : Gr), (∀ v, B.nw v) → CxD k (cxOf CX0 P w K mg base N qual (defScope st) f cdv A outer s H E0).nox →
      ∃ ts t, PDSs (cxOf CX0 P w K mg base N qual (defScope st) f cdv A outer s H E0).nox B (defBody st) ts t ∧ ∀ xs Q, R xs Q → t { nx := fun _ => Q .none, rt := Q, bk := fun _ => False, ct := fun _ => False } (dstart N xs)) :
    FnG P w K mg base (k + 1) f fd ps (spD R) := by
  refine fn_ofG F S (fun vs H Q E h => ?_) fun cdv A outer s H vs Q hG hr h => ?_
  · obtain ⟨M, B, xs, Qd, ha, _, hR, _⟩ := h
    rw [ha.length]
    exact len xs Qd hR
  · obtain ⟨M, B, xs, Qd, ha, g, hR, c⟩ := h
    obtain ⟨ts, t, hb, ht⟩ := body cdv A outer s H ⟨B.a, M, H, M, H, fun _ => True⟩ (fun _ => trivial) ⟨hr, hG⟩
    refine ⟨ts, hb.ps, hb.ss M _ H _ _ _ ⟨g.z.start⟩ ⟨ha.re.start N, fun i j x y v w a e _ _ _ f => absurd (ha.noMut _ i x e) f.mut⟩ (ht xs Qd hR)
      ⟨fun M' σ' H' ds' e' _ _ q => c .non H' .none (g.expr e'.g.back e'.g.d.keep) e'.g.d.keep .non q, fun v H' d g' k' h' _ q => c v H' d (g.expr g' k') k' h' q, fun _ _ _ _ _ _ _ q => q.elim, fun _ _ _ _ _ _ _ q => q.elim⟩⟩
end DL
namespace DL
open PySem L2

/-! ### xs[i] op= e -/
def rGetL (K : PySem.W.Frag) : V → V → Hp → VK → Prop := fun o i H Q => ∃ p xs v, ∃ k : Nat, o = .ref p ∧ i = .int k ∧ SqL K H p xs ∧ xs[k]? = some v ∧ Q v H
theorem get_list {X : Cx} : PGet X (rGetL X.K) := by
  intro pins s σ H o i ov iv Q I ro ri h
  obtain ⟨p, xs, v, k, rfl, rfl, hp, hk, q⟩ := h
  cases ro
  obtain ⟨t, rfl⟩ := ri
  obtain ⟨its, r, pl, hz⟩ := I.list hp
  obtain ⟨u, eu, ru⟩ := r.get hk
  have hlt := (List.getElem?_eq_some_iff.mp hk).1
  have h63 := line63
  exact wpAny_getItem_list pl.isList (Int.natCast_nonneg k) (by omega) (by rw [Int.toNat_natCast]; simpa using eu) ⟨v, H, I, ru, q⟩

/-! ### the bag's own state, written out -/
abbrev bagL (b0 b1 b2 : Int) (q : Addr) : HO := .lst [.int b0, .int b1, .int b2, .ref q]
structure BagOk (M : Addr → Prop) (B q : Addr) (ns : List Int) (H : Hp) : Prop where
  m : M B
  dom : ∀ a, M a → ∃ o, H a = some o
  nq : ¬ M q
  cells : H q = some (.lst (ns.map V.int))
  nn : ∀ n ∈ ns, (0 : Int) ≤ n
  nt : ∀ a, M a → ∀ ys, H a ≠ some (.tup ys)
theorem BagOk.ne {M : Addr → Prop} {B q : Addr} {ns : List Int} {H : Hp} (b : BagOk M B q ns H) : q ≠ B := fun z => b.nq (by rw [z]; exact b.m)
theorem BagOk.good {M : Addr → Prop} {B q : Addr} {ns : List Int} {H : Hp} {b0 b1 b2 : Int} (b : BagOk M B q ns H) (h0 : 0 ≤ b0) (h1 : 0 ≤ b1) (h2 : b1 < 2147483647) (h3 : 0 ≤ b2) : Good0 M B (upd H B (bagL b0 b1 b2 q)) := by
  refine ⟨b.m, fun a ma => ?_, ⟨b0, b1, b2, q, ns, upd_same, by rw [upd_ne b.ne]; exact b.cells, h0, h1, h2, h3, b.nn⟩, fun a ma ys => by
    by_cases e : a = B
    · rw [e, upd_same]
      exact fun z => nomatch z
    · rw [upd_ne e]
      exact b.nt a ma ys⟩
  by_cases e : a = B
  · exact ⟨_, by rw [e]; exact upd_same⟩
  · obtain ⟨o, q⟩ := b.dom a ma
    exact ⟨o, by rw [upd_ne e]; exact q⟩
theorem Good.ok {M : Addr → Prop} {B : Gr} {H : Hp} {vs : List V} {ys : List DV} (g : Good M B H) (hb : ArgsAt M B H vs (.bag :: ys)) : ∃ b0 b1 b2 q ns, BagOk M B.a q ns H ∧ H = upd H B.a (bagL b0 b1 b2 q) ∧ 0 ≤ b0 ∧ 0 ≤ b1 ∧ b1 < 2147483647 ∧ 0 ≤ b2 := by
  obtain ⟨m, md, ⟨b0, b1, b2, q, ns, h1, h3, h4, h5, h6, h7, h8⟩, dd⟩ := g
  have h2 : ¬ M q := by
    cases hb with
    | cons r _ _ => cases r with
      | bag hq nq e =>
        unfold bagq at hq
        rw [h1] at hq
        cases hq
        exact nq
  refine ⟨b0, b1, b2, q, ns, ⟨m, md, h2, h3, h8, dd.nt⟩, ?_, h4, h5, h6, h7⟩
  funext a
  unfold upd
  split
  · rename_i e
    rw [e]
    exact h1
  · rfl
/-- a draw below m -/
def takeR : DR := fun xs Q => ∃ m : Int, xs = [.bag, .dat (.int m)] ∧ 0 < m ∧ m < 2 ^ 1000 ∧ ∀ v : Int, 0 ≤ v → v < m → Q (.int v)
theorem first_lt {b1 : Int} : 0 ≤ (b1 + 1) * 39373 % 1000000007 ∧ (b1 + 1) * 39373 % 1000000007 < 1000000007 := ⟨Int.emod_nonneg _ (by decide), Int.emod_lt_of_pos _ (by decide)⟩
end DL
namespace DL
open PySem L2
section
variable {X : Cx} {B : Gr}
theorem dgs_consA {a : Expr} {as : List Expr} {is js : List Nat} {tt : TG} {tts : TGs} {t : TDG} {u : List PyData → DEnv → (DEnv → Prop) → Prop} (h1 : PDG X B a is tt t) (h2 : PDGs X B as js tts u)
    (hs : (assignEach (a :: as) X.env).map (·.2) = assign a X.env :: (assignEach as X.env).map (·.2) := by rfl) : PDGs X B (a :: as) (is ++ js) (gCons tt tts) (dgCons t u) := dgs_cons h1 h2 (pgs_cons h1.pg h2.pg hs)
/-- what is walked: a list or a tuple -/
def iSeq (K : PySem.W.Frag) (tl : TE) : TI := fun σ H R => tl σ H fun x H1 => ∃ a, x = .ref a ∧ ((∃ xs, SqL K H1 a xs ∧ R (Itl K a) H1) ∨ (∃ xs, SqT K H1 a xs ∧ R (Itt K a) H1))
theorem pi_seq {tg l : Expr} {tl : TE} (hl : PE X l tl) : PI X tg l (iSeq X.K tl) := by
  refine ⟨fun pins s σ H R I h => thn (hl.run pins s σ H _ I h) fun v s1 ⟨x, H1, I1, r1, a, e, q⟩ => ?_⟩
  subst e
  cases r1
  have ends : ∀ (o : Obj) b, b ∈ [s1.heap.objs.size] → FpOk X pins H1 b := fun _ b hb => by
    rw [List.mem_singleton.mp hb]
    exact I1.fpOk (Nat.le_refl _) (I1.hok.fresh (Nat.le_refl _))
  rcases q with ⟨xs, hq, q⟩ | ⟨xs, hq, q⟩
  · obtain ⟨its, _, p, _⟩ := I1.list hq
    refine wpAny_pyIter_list p.isList ⟨_, [s1.heap.objs.size], _, _, H1, rfl, I1.kept (t' := s1.toks) (fun b o e => Heap.get?_push_of_some _ e), turn_list a _, ⟨_, Heap.get?_push_size _ rfl, rfl, rfl⟩, fun b hb => ends default b hb, q⟩
  · obtain ⟨its, _, p, _⟩ := I1.tuple hq
    refine wpAny_pyIter_tuple (show s1.heap.IsTuple a its.toArray from p) ⟨_, [s1.heap.objs.size], _, _, H1, rfl, I1.kept (t' := s1.toks) (fun b o e => Heap.get?_push_of_some _ e), turn_tuple a _, ⟨_, Heap.get?_push_size _ rfl, rfl, rfl⟩, fun b hb => ends default b hb, q⟩
theorem di_seq {tg e : Expr} {te : TE} {d : TDE} (h : PD X B e te d) : PDI X B tg e (iSeq X.K te) (diSeq d) :=
  ⟨pi_seq h.pe, fun M σ H ds Q R g en q c => h.se M σ H ds _ _ g en q fun v H1 x g1 k1 hx q1 => by
    cases hx with
    | lst n e a => exact ⟨_, rfl, .inl ⟨_, SqL.of e, c _ H1 _ g1 k1 (it_list n e a) q1.1.le q1.2⟩⟩
    | tup n e a => exact ⟨_, rfl, .inr ⟨_, SqT.of e, c _ H1 _ g1 k1 (it_tup n e a) q1.1.le q1.2⟩⟩
    | _ => exact (show False from q1).elim⟩
end
def cMax3 : DC := fun l Q => match l with
  | [.int i, .int j, .int k] => Q (.int (if (if i < j then j else i) < k then k else if i < j then j else i))
  | _ => False
theorem nu3 (i j k : Int) : nuMax3 (.int i) (.int j) (.int k) = some (.int (if (if i < j then j else i) < k then k else if i < j then j else i)) := by
  have two : ∀ a b : Int, nuMax2 (.int a) (.int b) = some (.int (if a < b then b else a)) := fun a b => by
    by_cases h : a < b <;> simp [nuMax2, nuLt, nuCB, h]
  unfold nuMax3
  rw [two, Option.bind_some, two]
theorem rdc_max3 {B : Gr} : RDC B (rNuC3 nuMax3) cMax3 := by
  intro M vs l H Q R g hl h c
  unfold cMax3 at h
  split at h
  · cases hl with
    | cons h1 t1 => cases t1 with
      | cons h2 t2 => cases t2 with
        | cons h3 t3 =>
          cases t3
          cases h1
          cases h2
          cases h3
          exact ⟨_, _, _, _, rfl, nu3 _ _ _, c _ H _ g Keep.refl (.int _) h⟩
  · exact h.elim
def boolsOf : List PyData → Option (List Bool)
  | [] => some []
  | .bool b :: r => (boolsOf r).map (b :: ·)
  | _ => none
theorem DtA.bools {M : Addr → Prop} {H : Hp} : ∀ {l : List PyData} {vs : List V} {bs : List Bool}, DtA M H vs l → boolsOf l = some bs → vs = bs.map V.bl
  | [], _, bs, h, e => by
    cases h
    cases e
    rfl
  | d :: l, _, bs, h, e => by
    cases h with
    | cons h1 h2 =>
      cases d <;> first | cases e | skip
      cases h1
      rename_i b
      unfold boolsOf at e
      cases q : boolsOf l with
      | none => rw [q] at e; cases e
      | some cs =>
        rw [q] at e
        cases e
        rw [DtA.bools h2 q]
        rfl
def cAll : DC := fun l Q => match l with
  | [.list a] => ∃ bs, boolsOf a = some bs ∧ Q (.bool (bs.all id))
  | _ => False
theorem rdc_all {B : Gr} {K : PySem.W.Frag} : RDC B (rAll K) cAll := by
  intro M vs l H Q R g hl h c
  unfold cAll at h
  split at h
  · cases hl with
    | cons h1 t1 =>
      cases t1
      cases h1 with
      | lst n e a =>
        obtain ⟨bs, hb, q⟩ := h
        rw [a.bools hb] at e
        exact ⟨_, bs, rfl, SqL.of e, c _ H _ g Keep.refl (.bl _) q⟩
  · exact h.elim

/-! ### the text by places -/
structure DefAt (K : PySem.W.Frag) (mg : Str → Option Value) (x : Str) (st : Stmt) (ps : List Str) (f : Addr) (fd : FuncData) : Prop where
  fn : Fun K x x st f fd
  bd : Binds K fd ps []
  mg : mg x = some (.ref f)
theorem DefAt.mk' {K : PySem.W.Frag} {mg : Str → Option Value} {h : Heap} (X : K.In h) (G : h.Ns mainGlobals mg) {x : Str} {st : Stmt} {ps : List Str} {f : Addr} {oc : Value} {od an : Option Addr} {osl : Array (Option Value)} {kV doc pm cdv ct : Value}
    (n : PySem.W.nsIn K mainGlobals x = some (some (.ref f))) (l : K.lookup f = some ⟨oc, od, .func (PySem.W.fnOf x x (defArgs st) (defBody st) (defScope st) .none kV doc pm an cdv ct), osl⟩) (c : PySem.W.codeIn K cdv x = true) (k : PySem.W.keepIn K (.ref f) = true)
    (b : ∀ us : List Value, us.length = ps.length → bindArgs (PySem.W.fnOf x x (defArgs st) (defBody st) (defScope st) .none kV doc pm an cdv ct) ⟨us, []⟩ = pure (ps.zip us)) :
    DefAt K mg x st ps f (PySem.W.fnOf x x (defArgs st) (defBody st) (defScope st) .none kV doc pm an cdv ct) := ⟨fun_mk l c k, .all b, PySem.W.mg_of X G n⟩
end DL
namespace DL
open PySem L2
section
variable {X : Cx} {B : Gr} {a b c : Expr} {ta tb tc : TE} {da db dc : TDE} {pos : Pos} {r2 r2' : R2} {r r' : D2}
/-- a comparison as a test -/
def dTest (t : TDE) : TDT := fun ds Q => t ds fun x => asB x Q
theorem st_test {te : TE} {t : TDE} (h : SE B te t) (M : Addr → Prop) (σ : L2.St) (H : Hp) (ds : DEnv) (Q : Bool → Prop) (R : Bool → Hp → Prop) (g : Good M B H) (en : EnvAt M B H σ ds) (q : dTest t ds Q) (c : ∀ b H', Good M B H' → Keep M B H H' → Q b → R b H') : tTest te σ H R :=
  h M σ H ds _ _ g en q fun v H1 x g1 k1 hx q1 => by
    obtain ⟨k, rfl, q2⟩ := asB_of hx q1
    exact ⟨k, rfl, c k H1 g1 k1 q2⟩
theorem dt_cmp {op : CmpOp} (ho : OpR X (compareOp op) r2) (hr : RD B r2 r) (ha : PD X B a ta da) (hb : PD X B b tb db) (hm : behindInMarks op b = false) :
    PDT X B (.Compare a [op] [b] pos) (tTest (tOp r2 ta tb)) (dTest (dOp r da db)) := ⟨pt_cmpR ho ha.pe hb.pe hm, st_test (se_op hr ha.se hb.se)⟩
theorem dt_chain {op op' : CmpOp} (ho : OpR X (compareOp op) r2) (ho' : OpR X (compareOp op') r2') (hr : RD B r2 r) (hr' : RD B r2' r') (ha : PD X B a ta da) (hb : PD X B b tb db) (hc : PD X B c tc dc) (hm : lastMarks [op, op'] [b, c] = false := by with_unfolding_all rfl) :
    PDT X B (.Compare a [op, op'] [b, c] pos) (tTest (tChain r2 r2' ta tb tc)) (dTest (dChain r r' da db dc)) :=
  ⟨pt_chain ho ho' ha.pe hb.pe hc.pe hm, st_test (d_chain (pos := pos) ho ho' hr hr' ha hb hc hm).se⟩
end
end DL
namespace DL
open PySem L2

/-! ### the readings' values, by the forms of data -/
theorem szr {n : Nat} (h : Nat.ble n 1000000 = true := by rfl) : dSize n := Nat.le_of_ble_eq_true h
section
variable {Q : PyData → Prop} {i j : Int} {a b c : Bool} {l m : List PyData} {x y z : PyData}
theorem v_add : DL.rAdd (.int i) (.int j) Q = Q (.int (i + j)) := rfl
theorem v_addL : DL.rAdd (.list l) (.list m) Q = (dSize (l.length + m.length) ∧ Q (.list (l ++ m))) := rfl
theorem v_addT : DL.rAdd (.tuple l) (.tuple m) Q = (dSize (l.length + m.length) ∧ Q (.tuple (l ++ m))) := rfl
theorem v_sub : DL.rSub (.int i) (.int j) Q = Q (.int (i - j)) := rfl
theorem v_mul : DL.rMul (.int i) (.int j) Q = (CMulW i j ∧ Q (.int (i * j))) := rfl
theorem v_mulL : DL.rMul (.list l) (.int j) Q = (0 ≤ j ∧ j < 1000 ∧ l.length ≤ 1000 ∧ Q (.list (List.replicate j.toNat l).flatten)) := rfl
theorem v_fdiv : DL.rFdiv (.int i) (.int j) Q = (0 < j ∧ j < 2 ^ 1000 ∧ Q (.int (i / j))) := rfl
theorem v_mod : DL.rMod (.int i) (.int j) Q = (0 < j ∧ Q (.int (i % j))) := rfl
theorem v_pow : DL.rPow (.int i) (.int j) Q = (CPow i j ∧ Q (.int (i ^ j.toNat))) := rfl
theorem v_neg : DL.rNeg (.int i) Q = Q (.int (-i)) := rfl
theorem v_cmp {p : Int → Int → Bool} : rCmpI p (.int i) (.int j) Q = Q (.bool (p i j)) := rfl
theorem v_eqI : rEqA (.int i) (.int j) Q = Q (.bool (i == j)) := by
  unfold rEqA
  exact propext ⟨fun h => h.2.2, fun h => ⟨rfl, rfl, h⟩⟩
theorem v_neI : rNeA (.int i) (.int j) Q = Q (.bool (!(i == j))) := by
  unfold rNeA
  exact propext ⟨fun h => h.2.2, fun h => ⟨rfl, rfl, h⟩⟩
theorem v_eqB : rEqA (.bool a) (.bool b) Q = Q (.bool (a == b)) := by
  unfold rEqA
  exact propext ⟨fun h => h.2.2, fun h => ⟨rfl, rfl, h⟩⟩
theorem v_neB : rNeA (.bool a) (.bool b) Q = Q (.bool (!(a == b))) := by
  unfold rNeA
  exact propext ⟨fun h => h.2.2, fun h => ⟨rfl, rfl, h⟩⟩
theorem v_eqS {s t : Str} : rEqA (.str s) (.str t) Q = Q (.bool (decide (s = t))) := rfl
theorem v_neS {s t : Str} : rNeA (.str s) (.str t) Q = Q (.bool (!decide (s = t))) := rfl
theorem v_isN : rIsNo .none .none Q = Q (.bool true) := by
  unfold rIsNo
  exact propext ⟨fun h => h.2, fun h => ⟨rfl, h⟩⟩
theorem v_isI : rIsNo (.int i) .none Q = Q (.bool false) := by
  unfold rIsNo
  exact propext ⟨fun h => h.2, fun h => ⟨rfl, h⟩⟩
theorem v_notN : rNotNo .none .none Q = Q (.bool false) := by
  unfold rNotNo
  exact propext ⟨fun h => h.2, fun h => ⟨rfl, h⟩⟩
theorem v_notI : rNotNo (.int i) .none Q = Q (.bool true) := by
  unfold rNotNo
  exact propext ⟨fun h => h.2, fun h => ⟨rfl, h⟩⟩
theorem v_inT {neg : Bool} : rInD neg x (.tuple l) Q = (flatD x = true ∧ l.all flatD = true ∧ Q (.bool (if neg then !inD x l else inD x l))) := rfl
theorem v_inL {neg : Bool} : rInD neg x (.list l) Q = (flatD x = true ∧ l.all flatD = true ∧ Q (.bool (if neg then !inD x l else inD x l))) := rfl
theorem v_ixT : DL.rIx (.tuple l) (.int i) Q = ∃ d, atI l i = some d ∧ Q d := rfl
theorem v_ixL : DL.rIx (.list l) (.int i) Q = ∃ d, atI l i = some d ∧ Q d := rfl
theorem v_slT {lo hi : Option Int} : rSlD (.tuple l) lo hi Q = Q (.tuple (cutD l lo hi)) := rfl
theorem v_slL {lo hi : Option Int} : rSlD (.list l) lo hi Q = Q (.list (cutD l lo hi)) := rfl
theorem v_lenT : cLen [.tuple l] Q = Q (.int l.length) := rfl
theorem v_lenL : cLen [.list l] Q = Q (.int l.length) := rfl
theorem v_max2 : cMax2 [.int i, .int j] Q = Q (.int (if j > i then j else i)) := rfl
theorem v_min2 : cMin2 [.int i, .int j] Q = Q (.int (if j < i then j else i)) := rfl
theorem v_max3 {k : Int} : cMax3 [.int i, .int j, .int k] Q = Q (.int (if (if i < j then j else i) < k then k else if i < j then j else i)) := rfl
theorem v_intI : cInt [.int i] Q = Q (.int i) := rfl
theorem v_intB : cInt [.bool a] Q = Q (.int (if a then 1 else 0)) := rfl
theorem v_abs : cAbs [.int i] Q = Q (.int (if i < 0 then -i else i)) := rfl
theorem v_tupL : cTuple [.list l] Q = Q (.tuple l) := rfl
theorem v_tupT : cTuple [.tuple l] Q = Q (.tuple l) := rfl
theorem v_lstL : cList [.list l] Q = Q (.list l) := rfl
theorem v_lstT : cList [.tuple l] Q = Q (.list l) := rfl
theorem v_asB {P : Bool → Prop} : asB (.bool a) P = P a := rfl
theorem v_truB {P : Bool → Prop} : truD (.bool a) P = P a := rfl
theorem v_truI {P : Bool → Prop} : truD (.int i) P = P (i != 0) := rfl
theorem v_truN {P : Bool → Prop} : truD .none P = P false := rfl
theorem v_part {ds : DEnv} {P : Option Int → Prop} {k : Int} : dPart (dC (.int k)) ds P = P (some k) := rfl
theorem v_partV {ds : DEnv} {P : Option Int → Prop} {t : TDE} : dPart t ds P = t ds (fun x => match x with
  | .int i => P (some i)
  | _ => False) := rfl
theorem v_flN : flatD .none = true := rfl
theorem v_flB : flatD (.bool a) = true := rfl
theorem v_flI : flatD (.int i) = true := rfl
theorem v_flS {s : Str} : flatD (.str s) = true := rfl
theorem v_tup {ds : DEnv} {P : DEnv → Prop} {n : Nat} {u : List PyData → DEnv → (DEnv → Prop) → Prop} : dgTup n u (.tuple l) ds P = (l.length = n ∧ u l ds P) := rfl
theorem v_gcons {t : TDG} {u : List PyData → DEnv → (DEnv → Prop) → Prop} {ds : DEnv} {P : DEnv → Prop} : dgCons t u (x :: l) ds P = t x ds fun ds' => u l ds' P := rfl
theorem v_gnil {ds : DEnv} {P : DEnv → Prop} : dgNil [] ds P = P ds := rfl
theorem v_seqL {ds : DEnv} {P : List PyData → Prop} : diSeq (dC (.list l)) ds P = (dSize l.length ∧ P l) := rfl
theorem v_if {p q : Prop} : ((a = true → p) ∧ (a = false → q)) = if a = true then p else q := by
  cases a <;> simp
end
theorem atI_lt {α : Type} {l : List α} {i : Int} (h0 : 0 ≤ i) (h1 : i < l.length) : atI l i = l[i.toNat]? := by
  obtain ⟨n, rfl⟩ := Int.eq_ofNat_of_zero_le h0
  have : n < l.length := by omega
  rw [atI_nat (List.getElem?_eq_getElem this), Int.toNat_natCast, List.getElem?_eq_getElem this]
theorem atI_ints {ss : List Int} {i : Int} (h0 : 0 ≤ i) (h1 : i < ss.length) : atI (ss.map PyData.int) i = some (.int (ss.getD i.toNat 0)) := by
  rw [atI_lt h0 (by rw [List.length_map]; exact h1), List.getElem?_map]
  have h2 : i.toNat < ss.length := by omega
  rw [List.getElem?_eq_getElem h2, List.getD_eq_getElem?_getD, List.getElem?_eq_getElem h2]
  rfl
theorem forW_nil {g : TDG} {b : TDS} {DD : DEnds} {ds : DEnv} : forW g b DD [] ds = DD.nx ds := rfl
theorem forW_cons {g : TDG} {b : TDS} {DD : DEnds} {ds : DEnv} {x : PyData} {r : List PyData} : forW g b DD (x :: r) ds = g x ds fun ds' => b { nx := forW g b DD r, rt := DD.rt, bk := DD.nx, ct := forW g b DD r } ds' := rfl
/-- a loop by what holds between its turns -/
theorem forW_inv {g : TDG} {b : TDS} {DD : DEnds} (I : DEnv → Prop) (P : PyData → Prop) (turn : ∀ (x : PyData) (N : DEnv → Prop) (ds : DEnv), P x → I ds → (∀ ds', I ds' → N ds') → g x ds fun ds' => b { nx := N, rt := DD.rt, bk := DD.nx, ct := N } ds') (fin : ∀ ds, I ds → DD.nx ds) :
    ∀ (l : List PyData) (ds : DEnv), (∀ x ∈ l, P x) → I ds → forW g b DD l ds
  | [], ds, _, h => fin ds h
  | x :: r, ds, hp, h => turn x _ ds (hp x (List.mem_cons_self ..)) h fun ds' h' => forW_inv I P turn fin r ds' (fun y hy => hp y (List.mem_cons_of_mem _ hy)) h'
/-- a comprehension without tests whose elements satisfy P -/
theorem lcW_all {g : TDG} {te : TDE} {ds : DEnv} (P : PyData → Prop) : ∀ (l acc : List PyData) (Q : PyData → Prop), (∀ x ∈ l, ∀ (N : PyData → Prop), (∀ y, P y → N y) → g x ds fun ds' => te ds' N) → (∀ z ∈ acc, P z) → (∀ r : List PyData, r.length = acc.length + l.length → (∀ z ∈ r, P z) → Q (.list r)) →
    lcW g dYes te ds l acc Q
  | [], acc, Q, _, ha, hq => hq acc rfl ha
  | x :: l, acc, Q, h, ha, hq => by
    have e : lcW g dYes te ds (x :: l) acc Q = g x ds fun ds' => (true = true → te ds' fun y => lcW g dYes te ds l (acc ++ [y]) Q) ∧ (true = false → lcW g dYes te ds l acc Q) := rfl
    rw [e]
    have e2 : (fun ds' => (true = true → te ds' fun y => lcW g dYes te ds l (acc ++ [y]) Q) ∧ (true = false → lcW g dYes te ds l acc Q)) = fun ds' => te ds' fun y => lcW g dYes te ds l (acc ++ [y]) Q := by
      funext ds'
      simp
    rw [e2]
    refine h x (List.mem_cons_self ..) _ fun y hy => lcW_all P l (acc ++ [y]) Q (fun z hz => h z (List.mem_cons_of_mem _ hz)) (fun z hz => ?_) fun r hr => hq r (by simp only [List.length_append, List.length_cons, List.length_nil] at hr ⊢; omega)
    rcases List.mem_append.mp hz with hz | hz
    · exact ha z hz
    · rw [List.mem_singleton.mp hz]
      exact hy
/-- ints out of a list whose items are ints -/
theorem ints_of {P : Int → Prop} : ∀ l : List PyData, (∀ z ∈ l, ∃ i, z = PyData.int i ∧ P i) → ∃ ns : List Int, l = ns.map PyData.int ∧ ∀ n ∈ ns, P n
  | [], _ => ⟨[], rfl, fun _ h => nomatch h⟩
  | z :: l, h => by
    obtain ⟨i, rfl, hi⟩ := h z (List.mem_cons_self ..)
    obtain ⟨ns, rfl, hn⟩ := ints_of l fun y hy => h y (List.mem_cons_of_mem _ hy)
    refine ⟨i :: ns, rfl, fun n hn' => ?_⟩
    rcases List.mem_cons.mp hn' with rfl | hn'
    · exact hi
    · exact hn n hn'
theorem shownI (i : Int) : (PyData.int i).shown = ((toString i : String) : Str) := PyData.shown_int i
/-- data whose repr may be taken, that may be compared -/
structure OkD (d : PyData) : Prop where
  sh : SeqAt.shaped d = true
  sw : d.showable = true
  dp : d.depth ≤ 60
  sz : dSize d.shown.length
theorem OkD.nd {d : PyData} (h : OkD d) : d.hasDict = false := PyData.hasDict_of_canLay _ (SeqAt.canLay_of_shaped h.sh)
def alikeR : DR := fun xs Q => ∃ d, xs = [.dat d, .dat d] ∧ OkD d ∧ Q (.bool true)
theorem mulW {i j : Int} (hi : i.natAbs < 2 ^ 400 := by omega) (hj : j.natAbs < 2 ^ 400 := by omega) : CMulW i j := wide_mul (a := 400) (b := 400) hi hj (by decide) (by decide) (by decide)
end DL
namespace DL
open PySem L2
def spBag (K : PySem.W.Frag) : Sp := fun vs H Q _ => ∃ (a : Addr) (ns : List Int), vs = [.ref a] ∧ SqL K H a (ns.map V.int) ∧ ns.length ≤ 63 ∧
  ∀ (B q : Addr) (ms : List Int) (H' : Hp), H' B = some (bagL 0 1234567891 0 q) → q ≠ B → H' q = some (.lst (ms.map V.int)) → (∀ m ∈ ms, (0 : Int) ≤ m) → Q (.ref B) H'
def spLaw (K : PySem.W.Frag) : Sp := fun vs H Q _ => ∃ (a : Addr) (ns : List Int), vs = [.ref a] ∧ SqL K H a (ns.map V.int) ∧ ns.length ≤ 63 ∧ ∀ H', Q (.bl true) H'
def ifBody : Stmt → List Stmt
  | .If _ a _ _ => a
  | _ => []
end DL
namespace DL
open PySem L2
theorem alike_eq {d : PyData} {Q : PyData → Prop} (ok : OkD d) (h : Q (.bool true)) : rEqA d d Q := by
  have e : PyData.eqv d d = true := SeqAt.eqv_refl d (SeqAt.canLay_of_shaped ok.sh)
  unfold rEqA
  split
  · rw [decide_eq_true rfl]
    exact h
  · exact ⟨ok.sh, ok.sh, by rw [e]; exact h⟩
end DL
namespace DL
open PySem L2
theorem v_par {i j : Nat} {a b : TDE} {DD : DEnds} {ds : DEnv} : sPar i j (dCons a (dCons b dNil)) DD ds = a ds (fun x => b ds fun y => DD.nx ((ds.set i (some (.dat x))).set j (some (.dat y)))) := rfl
end DL
namespace DL
open PySem L2

/-! ### terms -/
inductive Tm where
  | wish (d l h f : Int) | tie (d o l h f : Int) | stop (d l h : Int) | bar (d o l h : Int)
namespace Tm
def items : Tm → List PyData
  | wish d l h f => [.str "wish", .int d, .int l, .int h, .int f]
  | tie d o l h f => [.str "tie", .int d, .int o, .int l, .int h, .int f]
  | stop d l h => [.str "stop", .int d, .int l, .int h]
  | bar d o l h => [.str "bar", .int d, .int o, .int l, .int h]
def py (t : Tm) : PyData := .tuple t.items
def two : Tm → Bool
  | tie .. => true
  | bar .. => true
  | _ => false
def soft : Tm → Bool
  | tie .. => true
  | wish .. => true
  | _ => false
def dial : Tm → Int
  | wish d .. => d
  | tie d .. => d
  | stop d .. => d
  | bar d .. => d
def oth : Tm → PyData
  | tie _ o .. => .int o
  | bar _ o .. => .int o
  | _ => .none
def frc : Tm → PyData
  | tie _ _ _ _ f => .int f
  | wish _ _ _ f => .int f
  | _ => .none
def low : Tm → Int
  | wish _ l .. => l
  | tie _ _ l .. => l
  | stop _ l _ => l
  | bar _ _ l _ => l
def high : Tm → Int
  | wish _ _ h _ => h
  | tie _ _ _ h _ => h
  | stop _ _ h => h
  | bar _ _ _ h => h
def put (t : Tm) (l h : Int) : Tm := match t with
  | wish d _ _ f => wish d l h f
  | tie d o _ _ f => tie d o l h f
  | stop d _ _ => stop d l h
  | bar d o _ _ => bar d o l h
def In (t : Tm) (n : Nat) : Prop := match t with
  | wish d .. => 0 ≤ d ∧ d < n
  | stop d .. => 0 ≤ d ∧ d < n
  | tie d o .. => (0 ≤ d ∧ d < n) ∧ (0 ≤ o ∧ o < n)
  | bar d o .. => (0 ≤ d ∧ d < n) ∧ (0 ≤ o ∧ o < n)
def at_ (ss : List Int) (i : Int) : Int := ss.getD i.toNat 0
def arg (t : Tm) (ss : List Int) : Int := match t with
  | wish d .. => at_ ss d
  | stop d .. => at_ ss d
  | tie d o .. => at_ ss d - at_ ss o
  | bar d o .. => at_ ss d - at_ ss o
def dist (t : Tm) (v : Int) : Int := if v < t.low then t.low - v else if t.high < v then v - t.high else 0
end Tm

theorem inTB_w : inD (.str "wish") [.str "tie", .str "bar"] = false := by decide +kernel
theorem inTB_t : inD (.str "tie") [.str "tie", .str "bar"] = true := by decide +kernel
theorem inTB_s : inD (.str "stop") [.str "tie", .str "bar"] = false := by decide +kernel
theorem inTB_b : inD (.str "bar") [.str "tie", .str "bar"] = true := by decide +kernel
theorem inWT_w : inD (.str "wish") [.str "wish", .str "tie"] = true := by decide +kernel
theorem inWT_t : inD (.str "tie") [.str "wish", .str "tie"] = true := by decide +kernel
theorem inWT_s : inD (.str "stop") [.str "wish", .str "tie"] = false := by decide +kernel
theorem inWT_b : inD (.str "bar") [.str "wish", .str "tie"] = false := by decide +kernel
section
variable {α : Type} {a b c d e f : α} {l : List α}
theorem atI_0 : atI (a :: l) 0 = some a := atI_nat (j := 0) rfl
theorem atI_1 : atI (a :: b :: l) 1 = some b := atI_nat (j := 1) rfl
theorem atI_2 : atI (a :: b :: c :: l) 2 = some c := atI_nat (j := 2) rfl
theorem atI_3 : atI (a :: b :: c :: d :: l) 3 = some d := atI_nat (j := 3) rfl
theorem atI_4 : atI (a :: b :: c :: d :: e :: l) 4 = some e := atI_nat (j := 4) rfl
theorem atI_5 : atI (a :: b :: c :: d :: e :: f :: l) 5 = some f := atI_nat (j := 5) rfl
theorem atI_m4 : atI [a, b, c, d] (-1) = some d := rfl
theorem atI_m5 : atI [a, b, c, d, e] (-1) = some e := rfl
theorem atI_m6 : atI [a, b, c, d, e, f] (-1) = some f := rfl
end
section
variable {a b c d e f : PyData}
theorem cut4_24 : cutD [a, b, c, d] (some 2) (some 4) = [c, d] := rfl
theorem cut5_24 : cutD [a, b, c, d, e] (some 2) (some 4) = [c, d] := rfl
theorem cut5_35 : cutD [a, b, c, d, e] (some 3) (some 5) = [d, e] := rfl
theorem cut6_35 : cutD [a, b, c, d, e, f] (some 3) (some 5) = [d, e] := rfl
end
/-- an item of a written list at a place that is drawn -/
theorem atI_all {P : PyData → Prop} {l : List PyData} {i : Int} (h0 : 0 ≤ i) (h1 : i < l.length) (h : ∀ x ∈ l, P x) : ∃ d, atI l i = some d ∧ P d := by
  have h2 : i.toNat < l.length := by omega
  exact ⟨l[i.toNat], by rw [atI_lt h0 h1, List.getElem?_eq_getElem h2], h _ (List.getElem_mem h2)⟩
theorem ix_pt {ss : List Int} {i : Int} {Q : PyData → Prop} (h0 : 0 ≤ i) (h1 : i < ss.length) (h : Q (.int (Tm.at_ ss i))) : ∃ d, atI (ss.map PyData.int) i = some d ∧ Q d := ⟨_, atI_ints h0 h1, h⟩

/-! #### data that may be compared and shown -/
theorem okI {i : Int} (h : i.natAbs < 2 ^ 900) : OkD (.int i) := by
  have hl : i.natAbs.log2 < 900 := PySem.Flt.log2_lt_of (by decide) h
  refine ⟨rfl, ?_, Nat.zero_le _, ?_⟩
  · simp only [PyData.showable, decide_eq_true_eq]
    omega
  · rw [PyData.shown_int]
    have e := int_text_length_le (a := i) (k := 900) (by decide) hl
    show (Str.ofString (toString i)).length ≤ 1000000
    rw [ofString_length]
    omega
/-- an int below 10 ^ 200 in size -/
def Mid (i : Int) : Prop := -(10 ^ 200) < i ∧ i < 10 ^ 200
theorem Mid.ok {i : Int} (h : Mid i) : OkD (.int i) := okI (by
  have e : (10 : Int) ^ 200 = ((10 ^ 200 : Nat) : Int) := by rfl
  have l : (10 : Nat) ^ 200 < 2 ^ 900 := by decide +kernel
  obtain ⟨h1, h2⟩ := h
  rw [e] at h1 h2
  generalize (10 : Nat) ^ 200 = a at *
  generalize (2 : Nat) ^ 900 = b at *
  omega)
end DL
namespace DL
open PySem L2
theorem lt_big {m : Int} (h : m < 1000000000) : m < 2 ^ 1000 := by
  have e : ((2 : Int) ^ 1000) = (((2 : Nat) ^ 1000 : Nat) : Int) := by rfl
  have l : (1000000000 : Nat) < 2 ^ 1000 := by decide +kernel
  rw [e]
  generalize (2 : Nat) ^ 1000 = b at *
  omega
theorem atI_ex {P K : PyData → Prop} {l : List PyData} {i : Int} (h0 : 0 ≤ i) (h1 : i < l.length) (hp : ∀ x ∈ l, P x) (hk : ∀ x, P x → K x) : ∃ d, atI l i = some d ∧ K d :=
  let ⟨d, e, p⟩ := atI_all h0 h1 hp
  ⟨d, e, hk d p⟩
theorem cp {i j : Int} (h : (decide (0 ≤ j) && decide (j ≤ 1000000) && decide (i.natAbs < 2 ^ 64)) = true := by decide) : CPow i j := by
  simp only [Bool.and_eq_true, decide_eq_true_eq] at h
  exact ⟨h.1.1, h.1.2, h.2⟩
theorem p18 : (10 : Int) ^ Int.toNat 18 = 1000000000000000000 := by decide
theorem p9 : (10 : Int) ^ Int.toNat 9 = 1000000000 := by decide
theorem p38 : (10 : Int) ^ Int.toNat 38 = 100000000000000000000000000000000000000 := by decide
theorem p18' : (10 : Int) ^ 18 = 1000000000000000000 := by decide
end DL
namespace DL
open PySem L2
theorem ix_pm {ss : List Int} {i : Int} {Q : PyData → Prop} (h0 : 0 ≤ i) (h1 : i < ((ss.map PyData.int).length : Int)) (h : Q (.int (Tm.at_ ss i))) : ∃ d, atI (ss.map PyData.int) i = some d ∧ Q d :=
  ix_pt h0 (by rw [List.length_map] at h1; exact h1) h
theorem Tm.arg_mid {t : Tm} {ss : List Int} {b : Int} (h : t.In ss.length) (hs : ∀ x ∈ ss, -b < x ∧ x < b) : -(2 * b) < t.arg ss ∧ t.arg ss < 2 * b := by
  have get : ∀ i : Int, 0 ≤ i ∧ i < ss.length → -b < at_ ss i ∧ at_ ss i < b := fun i hi => by
    have h2 : i.toNat < ss.length := by omega
    unfold at_
    rw [List.getD_eq_getElem?_getD, List.getElem?_eq_getElem h2]
    exact hs _ (List.getElem_mem h2)
  cases t with
  | wish d l h' f =>
    have := get d h
    simp only [arg]
    omega
  | stop d l h' =>
    have := get d h
    simp only [arg]
    omega
  | tie d o l h' f =>
    have h1 := get d h.1
    have h2 := get o h.2
    simp only [arg]
    omega
  | bar d o l h' =>
    have h1 := get d h.1
    have h2 := get o h.2
    simp only [arg]
    omega
theorem Tm.dist_le {t : Tm} {v b : Int} (h1 : -b < v ∧ v < b) (h2 : -b < t.low ∧ t.low < b) (h3 : -b < t.high ∧ t.high < b) : -(2 * b) < t.dist v ∧ t.dist v < 2 * b := by
  unfold dist
  split
  · omega
  · split <;> omega
end DL
namespace DL
theorem szr0 {n : Nat} (h : n ≤ 1000000) : dSize n := h
end DL
namespace DL
open PySem L2
theorem CxD.blk {k : Nat} {X : Cx} (c : CxD k X) (s : Shared) (H : Hp) (C : Addr) (cl : List (Str × Addr)) (fp : List Addr) {scope : Scope} : CxD k (X.blk s H scope (compEnvC scope cl C X.env) fp) := ⟨c.room, c.guards⟩
end DL
namespace DL
open PySem L2
/-! ### the same rules, the written part by its own name (in a comprehension's element nothing may hang on the block) -/
section
variable {X : Cx} {K : PySem.W.Frag} {B : Gr} {pos : Pos}
theorem op_addK (K : PySem.W.Frag) (hK : X.K = K := by rfl) : OpR X (binaryOp .Add) (rAddV K) := by
  subst hK
  exact op_addV
theorem op_eqK (K : PySem.W.Frag) (hu : X.A.units + 64 < cLine) (hK : X.K = K := by rfl) : OpR X (compareOp .Eq) (rEqV K) := by
  subst hK
  exact op_eqV hu
theorem op_neK (K : PySem.W.Frag) (hu : X.A.units + 64 < cLine) (hK : X.K = K := by rfl) : OpR X (compareOp .NotEq) (rNeV K) := by
  subst hK
  exact op_neV hu
theorem op_inK (K : PySem.W.Frag) (hK : X.K = K := by rfl) : OpR X (compareOp .In) (rIn K false) := by
  subst hK
  exact op_in_seq
theorem op_notInK (K : PySem.W.Frag) (hK : X.K = K := by rfl) : OpR X (compareOp .NotIn) (rIn K true) := by
  subst hK
  exact op_notIn_seq
theorem call_lenK (K : PySem.W.Frag) (hK : X.K = K := by rfl) : CallR X (.builtin "len") (rLenV K) := by
  subst hK
  exact call_lenV
theorem call_tupleK (K : PySem.W.Frag) (hK : X.K = K := by rfl) : CallR X (.type "tuple") (fun xs H Q => ∃ p ys, xs = [.ref p] ∧ ((SqL K H p ys ∧ ∀ l, H l = none → Q (.ref l) (upd H l (.tup ys))) ∨ (SqT K H p ys ∧ Q (.ref p) H))) := by
  subst hK
  exact call_tuple_of
theorem call_listK (K : PySem.W.Frag) (hK : X.K = K := by rfl) : CallR X (.type "list") (fun xs H Q => ∃ p ys, xs = [.ref p] ∧ (SqL K H p ys ∨ SqT K H p ys) ∧ ∀ l, H l = none → Q (.ref l) (upd H l (.lst ys))) := by
  subst hK
  exact call_list_of
theorem call_reprK (K : PySem.W.Frag) (hG : X.A.guards = some []) (hu : X.A.units + 64 < cLine) (hK : X.K = K := by rfl) : CallR X (.builtin "repr") (rReprV K) := by
  subst hK
  exact call_reprV hG hu
theorem call_allK (K : PySem.W.Frag) (hc : X.calm = true) (hK : X.K = K := by rfl) : CallR X (.builtin "all") (rAll K) := by
  subst hK
  exact cr_all hc
abbrev rIxK (K : PySem.W.Frag) : R2 := fun x y H Q => rIxL K x y H Q ∨ rIxT K x y H Q ∨ rIxS x y H Q
theorem d_ixK (K : PySem.W.Frag) {a b : Expr} {ta tb : TE} {da db : TDE} (ha : PD X B a ta da) (hb : PD X B b tb db) (hs : PlainIx b := by exact fun _ _ => rfl) (hK : X.K = K := by rfl) :
    PD X B (.Subscript a b pos) (tOp (rIxK K) ta tb) (dOp DL.rIx da db) := by
  subst hK
  exact d_ix ha hb hs
abbrev rSlK (K : PySem.W.Frag) : V → Option Int → Option Int → Hp → VK → Prop := fun x l u H Q => rSlL K x l u H Q ∨ rSlA K x l u H Q ∨ rSlS x l u H Q
theorem d_sliceK (K : PySem.W.Frag) {a : Expr} {lo hi : Option Expr} {ta : TE} {tl th : TO} {da : TDE} {dl dh : TDO} {p2 : Pos} (ha : PD X B a ta da) (hl : PDO X B lo tl dl) (hh : PDO X B hi th dh) (hK : X.K = K := by rfl) :
    PD X B (.Subscript a (.Slice lo hi none p2) pos) (tSl (rSlK K) ta tl th) (dSl da dl dh) := by
  subst hK
  exact d_slice ha hl hh
theorem dt_valK (K : PySem.W.Frag) {e : Expr} {te : TE} {d : TDE} (h : PD X B e te d) (he : ∀ whole, isTrue e X.env whole = (do let v ← whole; standAt e.pos; holding [v] (truthy v)) := by intro _; rfl) (hK : X.K = K := by rfl) :
    PDT X B e (fun σ H Q => te σ H fun x H' => ∃ k, TruV K x H' k ∧ Q k H') (dTru d) := by
  subst hK
  exact dt_val h he
end
end DL
namespace DL
open PySem L2
/-! ### tuples and lists of leaves may be compared and shown -/
structure Leaf (d : PyData) : Prop where
  lay : d.canLay0 = true
  dp : d.depth = 0
  sw : d.showable = true
  sz : d.shown.length ≤ 2000
theorem leafI {i : Int} (h : Mid i) : Leaf (.int i) := by
  have e : (10 : Int) ^ 200 = ((10 ^ 200 : Nat) : Int) := by rfl
  have l : (10 : Nat) ^ 200 < 2 ^ 900 := by decide +kernel
  have b : i.natAbs < 2 ^ 900 := by
    obtain ⟨h1, h2⟩ := h
    rw [e] at h1 h2
    generalize (10 : Nat) ^ 200 = a at *
    generalize (2 : Nat) ^ 900 = b at *
    omega
  have hl : i.natAbs.log2 < 900 := PySem.Flt.log2_lt_of (by decide) b
  refine ⟨rfl, rfl, ?_, ?_⟩
  · simp only [PyData.showable, decide_eq_true_eq]
    omega
  · rw [PyData.shown_int]
    have e := int_text_length_le (a := i) (k := 900) (by decide) hl
    show (Str.ofString (toString i)).length ≤ 2000
    rw [ofString_length]
    omega
theorem leaf_all : ∀ {l : List PyData}, (∀ x ∈ l, Leaf x) → PyData.canLayAll0 l = true ∧ PyData.depthAll l = 0 ∧ PyData.showableAll l = true ∧ ((PyData.shownAll l).map (·.length)).sum ≤ 2000 * l.length
  | [], _ => by simp [PyData.canLayAll0, PyData.depthAll, PyData.showableAll, PyData.shownAll]
  | x :: l, h => by
    obtain ⟨h1, h2, h3, h4⟩ := leaf_all (l := l) fun y hy => h y (List.mem_cons_of_mem _ hy)
    have hx := h x (List.mem_cons_self ..)
    refine ⟨?_, ?_, ?_, ?_⟩
    · simp only [PyData.canLayAll0, hx.lay, h1, Bool.and_self]
    · simp only [PyData.depthAll, hx.dp, h2, Nat.max_self]
    · simp only [PyData.showableAll, hx.sw, h3, Bool.and_self]
    · simp only [PyData.shownAll_cons, List.map_cons, List.sum_cons, List.length_cons]
      have := hx.sz
      omega
theorem okTup {l : List PyData} (h : ∀ x ∈ l, Leaf x) (hl : l.length ≤ 400) : OkD (.tuple l) := by
  obtain ⟨h1, h2, h3, h4⟩ := leaf_all h
  have hd : (PyData.tuple l).depth = 1 := by simp only [PyData.depth, h2]
  refine ⟨?_, ?_, by rw [hd]; decide, ?_⟩
  · unfold SeqAt.shaped
    rw [hd]
    simp only [PyData.canLay0, h1, Bool.true_and]
    decide
  · simp only [PyData.showable, h3]
  · have e : (PyData.tuple l).shown = tupleText (PyData.shownAll l) := by simp only [PyData.shown]
    have b := tupleText_len_le (PyData.shownAll l)
    have c := PyData.shownAll_length l
    show (PyData.tuple l).shown.length ≤ 1000000
    rw [e]
    omega
theorem okLst {l : List PyData} (h : ∀ x ∈ l, Leaf x) (hl : l.length ≤ 400) : OkD (.list l) := by
  obtain ⟨h1, h2, h3, h4⟩ := leaf_all h
  have hd : (PyData.list l).depth = 1 := by simp only [PyData.depth, h2]
  refine ⟨?_, ?_, by rw [hd]; decide, ?_⟩
  · unfold SeqAt.shaped
    rw [hd]
    simp only [PyData.canLay0, h1, Bool.true_and]
    decide
  · simp only [PyData.showable, h3]
  · have e : (PyData.list l).shown = listText (PyData.shownAll l) := by simp only [PyData.shown]
    have b := listText_len_le (PyData.shownAll l)
    have c := PyData.shownAll_length l
    show (PyData.list l).shown.length ≤ 1000000
    rw [e]
    omega
theorem leafN : Leaf .none := ⟨rfl, rfl, rfl, by decide +kernel⟩
theorem leafB (b : Bool) : Leaf (.bool b) := ⟨rfl, rfl, rfl, by cases b <;> decide +kernel⟩
theorem leaf_wish : Leaf (.str "wish") := ⟨by decide +kernel, rfl, rfl, by decide +kernel⟩
theorem leaf_tie : Leaf (.str "tie") := ⟨by decide +kernel, rfl, rfl, by decide +kernel⟩
theorem leaf_stop : Leaf (.str "stop") := ⟨by decide +kernel, rfl, rfl, by decide +kernel⟩
theorem leaf_bar : Leaf (.str "bar") := ⟨by decide +kernel, rfl, rfl, by decide +kernel⟩
theorem cut_len (l : List PyData) (lo hi : Option Int) : (cutD l lo hi).length ≤ l.length := by
  unfold cutD
  rw [List.length_take, List.length_drop]
  omega
theorem two_eq {a b d : PyData} (h1 : a = d) (h2 : b = d) : [DV.dat a, DV.dat b] = [DV.dat d, DV.dat d] := by
  rw [h1, h2]
theorem eqv3 {a b c d : Int} (h1 : a = d) (h2 : b = d) (h3 : c = d) : (!PyData.eqv (.list [.int a, .int b, .int c]) (.list [.int d, .int d, .int d])) = false := by
  subst h1 h2 h3
  simp [PyData.eqv, PyData.eqvAll]
namespace Tm
/-- a force is from 1 to m -/
def Fr (t : Tm) (m : Int) : Prop := match t with
  | wish _ _ _ f => 1 ≤ f ∧ f ≤ m
  | tie _ _ _ _ f => 1 ≤ f ∧ f ≤ m
  | _ => True
/-- all its numbers are of a middle size -/
def Mids (t : Tm) : Prop := match t with
  | wish d l h f => Mid d ∧ Mid l ∧ Mid h ∧ Mid f
  | tie d o l h f => Mid d ∧ Mid o ∧ Mid l ∧ Mid h ∧ Mid f
  | stop d l h => Mid d ∧ Mid l ∧ Mid h
  | bar d o l h => Mid d ∧ Mid o ∧ Mid l ∧ Mid h
theorem ok {t : Tm} (h : t.Mids) : OkD t.py := by
  cases t with
  | wish d l h' f =>
    refine okTup (fun x hx => ?_) (by simp [Tm.items])
    simp only [Tm.items, List.mem_cons, List.not_mem_nil, or_false] at hx
    obtain ⟨h1, h2, h3, h4⟩ := h
    rcases hx with rfl | rfl | rfl | rfl | rfl <;> first | exact leaf_wish | (apply leafI; assumption)
  | tie d o l h' f =>
    refine okTup (fun x hx => ?_) (by simp [Tm.items])
    simp only [Tm.items, List.mem_cons, List.not_mem_nil, or_false] at hx
    obtain ⟨h1, h2, h3, h4, h5⟩ := h
    rcases hx with rfl | rfl | rfl | rfl | rfl | rfl <;> first | exact leaf_tie | (apply leafI; assumption)
  | stop d l h' =>
    refine okTup (fun x hx => ?_) (by simp [Tm.items])
    simp only [Tm.items, List.mem_cons, List.not_mem_nil, or_false] at hx
    obtain ⟨h1, h2, h3⟩ := h
    rcases hx with rfl | rfl | rfl | rfl <;> first | exact leaf_stop | (apply leafI; assumption)
  | bar d o l h' =>
    refine okTup (fun x hx => ?_) (by simp [Tm.items])
    simp only [Tm.items, List.mem_cons, List.not_mem_nil, or_false] at hx
    obtain ⟨h1, h2, h3, h4⟩ := h
    rcases hx with rfl | rfl | rfl | rfl | rfl <;> first | exact leaf_bar | (apply leafI; assumption)
theorem mids_put {t : Tm} (h : t.Mids) {l u : Int} (hl : Mid l) (hu : Mid u) : (t.put l u).Mids := by
  cases t with
  | wish d _ _ f => exact ⟨h.1, hl, hu, h.2.2.2⟩
  | tie d o _ _ f => exact ⟨h.1, h.2.1, hl, hu, h.2.2.2.2⟩
  | stop d _ _ => exact ⟨h.1, hl, hu⟩
  | bar d o _ _ => exact ⟨h.1, h.2.1, hl, hu⟩
theorem mids_of {t : Tm} {n : Nat} {m : Int} (hi : t.In n) (hn : n < 1000000) (hf : t.Fr m) (hm : m < 1000000) (hl : Mid t.low) (hu : Mid t.high) : t.Mids := by
  have md : ∀ d : Int, 0 ≤ d ∧ d < n → Mid d := fun d hd => ⟨by omega, by omega⟩
  cases t with
  | wish d _ _ f => exact ⟨md _ hi, hl, hu, ⟨by have := hf.1; omega, by have := hf.2; omega⟩⟩
  | tie d o _ _ f => exact ⟨md _ hi.1, md _ hi.2, hl, hu, ⟨by have := hf.1; omega, by have := hf.2; omega⟩⟩
  | stop d _ _ => exact ⟨md _ hi, hl, hu⟩
  | bar d o _ _ => exact ⟨md _ hi.1, md _ hi.2, hl, hu⟩
theorem put_low {t : Tm} {l u : Int} : (t.put l u).low = l := by cases t <;> rfl
theorem put_high {t : Tm} {l u : Int} : (t.put l u).high = u := by cases t <;> rfl
theorem put_put {t : Tm} {l u l' u' : Int} : (t.put l u).put l' u' = t.put l' u' := by cases t <;> rfl
theorem put_self {t : Tm} : t.put t.low t.high = t := by cases t <;> rfl
theorem cut_put {t : Tm} {l u : Int} : PyData.tuple (cutD t.items none (some ((t.items.length : Int) - 2 - if (!isNone t.frc) = true then 1 else 0)) ++ [.int l, .int u] ++ cutD t.items (some ((t.items.length : Int) - 2 - (if (!isNone t.frc) = true then 1 else 0) + 2)) none) = (t.put l u).py := by
  cases t <;> rfl
theorem items_len {t : Tm} : t.items.length ≤ 6 := by cases t <;> exact Nat.le_of_ble_eq_true rfl
theorem dist_mir {t : Tm} {v : Int} (h : t.low ≤ t.high) : (t.put (-t.high) (-t.low)).dist (-v) = t.dist v := by
  unfold dist
  rw [put_low, put_high]
  split <;> split <;> (try split) <;> (try split) <;> omega
theorem dist_mov {t : Tm} {v b : Int} : (t.put (t.low + b) (t.high + b)).dist (v + b) = t.dist v := by
  unfold dist
  rw [put_low, put_high]
  split <;> split <;> (try split) <;> (try split) <;> omega
end Tm
theorem sz_cut1 {t : Tm} {lo hi : Option Int} {x y : PyData} : dSize ((cutD t.items lo hi).length + [x, y].length) := by
  have h1 := cut_len t.items lo hi
  have h2 := t.items_len
  show _ + 2 ≤ 1000000
  omega
theorem sz_cut2 {t : Tm} {lo hi lo' hi' : Option Int} {x y : PyData} : dSize ((cutD t.items lo hi ++ [x, y]).length + (cutD t.items lo' hi').length) := by
  have h1 := cut_len t.items lo hi
  have h2 := t.items_len
  have h3 := cut_len t.items lo' hi'
  rw [List.length_append]
  show (cutD t.items lo hi).length + 2 + (cutD t.items lo' hi').length ≤ 1000000
  omega
end DL
namespace DL
open PySem L2
theorem by_ex (i F l h : Int) (h1 : -F ≤ l) (h2 : l ≤ h) (h3 : h ≤ F) : ∃ b, (if (if i > -F - l then i else -F - l) < F - h then (if i > -F - l then i else -F - l) else F - h) = b ∧ -F - l ≤ b ∧ b ≤ F - h := by
  have e : -F - l ≤ (if i > -F - l then i else -F - l) := by split <;> omega
  generalize (if i > -F - l then i else -F - l) = m at *
  refine ⟨_, rfl, ?_, ?_⟩ <;> split <;> omega
theorem by_mid {i F l h : Int} (e : F = 1000000000000000000) (h1 : -(10 ^ 18) ≤ l) (h2 : l ≤ h) (h3 : h ≤ 10 ^ 18) : Mid (l + (if (if i > -F - l then i else -F - l) < F - h then (if i > -F - l then i else -F - l) else F - h)) ∧ Mid (h + (if (if i > -F - l then i else -F - l) < F - h then (if i > -F - l then i else -F - l) else F - h)) := by
  obtain ⟨b, eb, b0, b1⟩ := by_ex i F l h (by omega) h2 (by omega)
  rw [eb]
  exact ⟨⟨by omega, by omega⟩, ⟨by omega, by omega⟩⟩
theorem two_arg {a d : PyData} {i : Int} (h : a = d) : [DV.dat a, DV.dat (.int i)] = [DV.dat d, DV.dat (.int i)] := by
  rw [h]
theorem Tm.back {t : Tm} {b : Int} : ((t.put (t.low + b) (t.high + b)).put ((t.put (t.low + b) (t.high + b)).low + -b) ((t.put (t.low + b) (t.high + b)).high + -b)).py = t.py := by
  rw [Tm.put_put, Tm.put_low, Tm.put_high, show t.low + b + -b = t.low by omega, show t.high + b + -b = t.high by omega, Tm.put_self]
theorem sh3 {a b c : Int} (ha : Mid a) (hb : Mid b) (hc : Mid c) : SeqAt.shaped (.list [.int a, .int b, .int c]) = true := (okLst (l := [.int a, .int b, .int c]) (fun x hx => by
  simp only [List.mem_cons, List.not_mem_nil, or_false] at hx
  rcases hx with rfl | rfl | rfl <;> apply leafI <;> assumption) (by simp)).1
end DL
namespace DL
open PySem L2
/-! ### isinstance(x, T), T a built-in type -/
def tyD : PyData → String
  | .none => "NoneType"
  | .bool _ => "bool"
  | .int _ => "int"
  | .str _ => "str"
  | .list _ => "list"
  | .tuple _ => "tuple"
  | .dict _ => "dict"
theorem tyx {K : PySem.W.Frag} {M : Addr → Prop} {H : Hp} {v : V} {d : PyData} (h : Dt M H v d) (nd : ∀ kvs, d ≠ .dict kvs) : TyX K H v (.type (tyD d)) := by
  cases h with
  | non => exact .base .non
  | bl b => exact .base (.bl b)
  | int i => exact .base (.int i)
  | str x => exact .base (.str x)
  | lst n e a => exact .base (.lst e)
  | tup n e a => exact .base (.tup e)
  | brd _ _ _ _ _ _ _ => exact absurd rfl (nd _)
def OkIsi (f : PyData → Option Bool) (T : String) : Prop := ∀ d b, f d = some b → (∀ kvs, d ≠ .dict kvs) ∧ kitB (tyD d) T = some b
def isInt : PyData → Option Bool
  | .int _ => some true
  | .bool _ => some true
  | .dict _ => none
  | _ => some false
def isBool : PyData → Option Bool
  | .bool _ => some true
  | .dict _ => none
  | _ => some false
def isTup : PyData → Option Bool
  | .tuple _ => some true
  | .dict _ => none
  | _ => some false
def isLst : PyData → Option Bool
  | .list _ => some true
  | .dict _ => none
  | _ => some false
def isStr : PyData → Option Bool
  | .str _ => some true
  | .dict _ => none
  | _ => some false
theorem okInt : OkIsi isInt "int" := fun d b h => by cases d <;> cases h <;> (refine ⟨(fun _ z => nomatch z), ?_⟩; simp only [tyD]; decide +kernel)
theorem okBool : OkIsi isBool "bool" := fun d b h => by cases d <;> cases h <;> (refine ⟨(fun _ z => nomatch z), ?_⟩; simp only [tyD]; decide +kernel)
theorem okTupI : OkIsi isTup "tuple" := fun d b h => by cases d <;> cases h <;> (refine ⟨(fun _ z => nomatch z), ?_⟩; simp only [tyD]; decide +kernel)
theorem okLstI : OkIsi isLst "list" := fun d b h => by cases d <;> cases h <;> (refine ⟨(fun _ z => nomatch z), ?_⟩; simp only [tyD]; decide +kernel)
theorem okStrI : OkIsi isStr "str" := fun d b h => by cases d <;> cases h <;> (refine ⟨(fun _ z => nomatch z), ?_⟩; simp only [tyD]; decide +kernel)
def dIsi (f : PyData → Option Bool) (t : TDE) : TDE := fun ds Q => t ds fun d => match f d with
  | some b => Q (.bool b)
  | none => False
section
variable {X : Cx} {B : Gr} {p p2 p3 pos : Pos} {e a b : Expr} {te ta tb : TE} {td da db : TDE}
theorem d_isi (K : PySem.W.Frag) {x : Str} {T : String} {f : PyData → Option Bool} (ok : OkIsi f T) (he : PD X B e te td) (hg : Gl X "isinstance") (hm : X.mg "isinstance" = none) (hgT : Gl X x) (hmT : X.mg x = none) (hv : bootBuiltins x = some (.type T))
    (hK : X.K = K := by rfl) (hn : x ≠ "__name__" := by decide) (hd : (x == ("__debug__" : Str)) = false := by decide)
    (hs : starEach [e, .Name x p2] X.env = (false, eval e X.env) :: starEach [.Name x p2] X.env := by rfl) :
    PD X B (.Call (.Name "isinstance" p) [e, .Name x p2] [] pos) (tCB (rIsi K) (tCons te (tCons (tC (.ty T)) tNil))) (dIsi f td) := by
  subst hK
  refine ⟨pe_callB call_isi hg hm PyProof.Rows.boot_isinstance (pa_cons he.pe (pa_cons (pe_bltn hgT hmT hv rfl hn hd) pa_nil rfl) hs) (by decide) (by decide) hs rfl, fun M σ H ds Q R g en q c => he.se M σ H ds _ _ g en q fun v H1 d g1 k1 hd q1 => ?_⟩
  show rIsi X.K [v, .ty T] H1 R
  revert q1
  cases ef : f d with
  | none => exact fun z => z.elim
  | some b => exact fun z => ⟨v, .ty T, .type (tyD d), .type T, b, rfl, .ty T, tyx hd (ok d b ef).1, kit_ty (ok d b ef).2, c _ H1 _ g1 k1 (.bl b) z⟩
theorem rg_dta {M : Addr → Prop} {H : Hp} {lo : Int} : ∀ l : List Nat, DtA M H (l.map fun i => V.int (lo + (i : Nat))) (l.map fun (i : Nat) => PyData.int (lo + (i : Int)))
  | [] => .nil
  | n :: ns => .cons (.int _) (rg_dta ns)
def dLRg2 (da db : TDE) : TDE := fun ds Q => da ds fun x => db ds fun y => match x, y with
  | .int a, .int b => RgOk a b ∧ Q (.list (rangeD a (b - a).toNat))
  | _, _ => False
theorem d_listRg2 (hc : X.calm = true) (hg : Gl X "list") (hm : X.mg "list" = none) (hg2 : Gl X "range") (hm2 : X.mg "range" = none) (ha : PD X B a ta da) (hb : PD X B b tb db)
    (na : starEach [.Call (.Name "range" p2) [a, b] [] p3] X.env = (false, eval (.Call (.Name "range" p2) [a, b] [] p3) X.env) :: starEach [] X.env := by rfl)
    (n1 : starEach [a, b] X.env = (false, eval a X.env) :: starEach [b] X.env := by rfl) (n2 : starEach [b] X.env = (false, eval b X.env) :: starEach [] X.env := by rfl) (n3 : (backTo p3 (starEach [b] X.env)).any (·.1) = false := by rfl) :
    PD X B (.Call (.Name "list" p) [.Call (.Name "range" p2) [a, b] [] p3] [] pos) (tLstRg (tRg2 ta tb)) (dLRg2 da db) := by
  refine ⟨pe_listRg hc hg hm (prg_2 hg2 hm2 ha.pe hb.pe n1 n2 n3) na, fun M σ H ds Q R g en q c => ha.se M σ H ds _ _ g en q fun v H1 x g1 k1 hx q1 => hb.se M σ H1 ds _ _ g1 (en.keep g.1 k1) q1 fun w H2 y g2 k2 hy q2 => ?_⟩
  cases hx <;> cases hy <;> first | exact (show False from q2).elim | skip
  rename_i i j
  obtain ⟨q3, q4⟩ := (show RgOk i j ∧ Q (.list (rangeD i (j - i).toNat)) from q2)
  exact ⟨i, j, rfl, rfl, q3, fun l hl => c _ _ _ (g2.new hl) ((k1.trans k2).trans (Keep.new hl)) (Dt.newL g2 hl (rg_dta _)) q4⟩
end
end DL
namespace DL
open PySem L2
/-! ### pulls of a term -/
namespace Tm
def dn (t : Tm) : PyData := match t with
  | tie _ _ _ _ f => .int (-f)
  | wish _ _ _ f => .int (-f)
  | _ => .none
def up (t : Tm) : PyData := match t with
  | tie _ _ _ _ f => .int f
  | wish _ _ _ f => .int f
  | _ => .none
def fit (t : Tm) (v : Int) : PyData := if v < t.low then .tuple [t.up, t.up] else if t.high < v then .tuple [t.dn, t.dn] else .tuple [if v = t.high then t.dn else .int 0, if v = t.low then t.up else .int 0]
end Tm
/-- an end of a range of pulls -/
def Endp (d : PyData) : Prop := d = .none ∨ ∃ i : Int, d = .int i ∧ -30 ≤ i ∧ i ≤ 30
def leE (d : PyData) (p : Int) : Bool := match d with
  | .int i => decide (i ≤ p)
  | _ => true
def geE (d : PyData) (p : Int) : Bool := match d with
  | .int i => decide (p ≤ i)
  | _ => true
def hasForceR : DR := fun xs Q => ∃ t : Tm, xs = [.dat t.py] ∧ Q (.bool t.soft)
def strongR : DR := fun xs Q => ∃ t : Tm, xs = [.dat t.py] ∧ Q (.tuple [t.dn, t.up])
def fitR : DR := fun xs Q => ∃ (t : Tm) (v : Int), xs = [.dat t.py, .dat (.int v)] ∧ ∀ a b, t.fit v = .tuple [a, b] → Q (.tuple [a, b])
def wholeR : DR := fun xs Q => ∃ i l h : Int, xs = [.dat (.int i), .dat (.int l), .dat (.int h)] ∧ Q (.bool (decide (l ≤ i) && decide (i ≤ h)))
def withinR : DR := fun xs Q => ∃ (a b : PyData) (p : Int), xs = [.dat (.tuple [a, b]), .dat (.int p)] ∧ Endp a ∧ Endp b ∧ Q (.bool (leE a p && geE b p))
def kindsR : DR := fun xs Q => ∃ a b : PyData, xs = [.dat (.tuple [a, b])] ∧ Endp a ∧ Endp b ∧ Q (.bool true)
def Tm.fitB (t : Tm) (v p : Int) : Bool := if v < t.low then leE t.up p && geE t.up p else if t.high < v then leE t.dn p && geE t.dn p else leE (if v = t.high then t.dn else .int 0) p && geE (if v = t.low then t.up else .int 0) p
/-- what the law says a pull must be, told by the ends -/
def fitsR : DR := fun xs Q => ∃ (t : Tm) (v p : Int), xs = [.dat t.py, .dat (.int v), .dat (.int p)] ∧ t.low ≤ t.high ∧ (t.soft = false → t.low ≤ v ∧ v ≤ t.high) ∧ t.Fr 30 ∧ Q (.bool (t.fitB v p))
end DL
namespace DL
open PySem L2
theorem all_true : ∀ {r : List PyData}, (∀ z ∈ r, z = .bool true) → ∃ bs, boolsOf r = some bs ∧ bs.all id = true
  | [], _ => ⟨[], rfl, rfl⟩
  | x :: r, h => by
    obtain ⟨bs, e, e2⟩ := all_true (r := r) fun z hz => h z (List.mem_cons_of_mem _ hz)
    obtain rfl := h x (List.mem_cons_self ..)
    refine ⟨true :: bs, ?_, ?_⟩
    · show (boolsOf r).map (true :: ·) = some (true :: bs)
      rw [e]
      rfl
    · simpa using e2
theorem q_eq {Q : PyData → Prop} {a b : Bool} (h : Q (.bool a)) (e : a = b) : Q (.bool b) := e ▸ h
theorem q_d {Q : PyData → Prop} {a b : PyData} (h : Q a) (e : a = b) : Q b := e ▸ h
theorem eqvI {i j : Int} : PyData.eqv (.int i) (.int j) = (i == j) := rfl
end DL

namespace DL
open PySem L2
theorem fit_tup (t : Tm) (v : Int) : ∃ a b, t.fit v = .tuple [a, b] := by
  unfold Tm.fit
  split
  · exact ⟨_, _, rfl⟩
  · split <;> exact ⟨_, _, rfl⟩
theorem q_fit {Q : PyData → Prop} {t : Tm} {v : Int} (h : ∀ a b, t.fit v = .tuple [a, b] → Q (.tuple [a, b])) : Q (t.fit v) := by
  obtain ⟨a, b, e⟩ := fit_tup t v
  rw [e]
  exact h a b e
theorem leq_eq {f p : Int} : (decide (f ≤ p) && decide (p ≤ f)) = (p == f) := by
  rw [Bool.eq_iff_iff]
  simp only [Bool.and_eq_true, decide_eq_true_eq, beq_iff_eq]
  omega
theorem e_lo {f v u p : Int} : leE (if v = u then .int (-f) else .int 0) p = decide ((-f * if (v == u) = true then 1 else 0) ≤ p) := by
  by_cases a : v = u <;> simp [a, leE]
theorem e_hi {f v u p : Int} : geE (if v = u then .int f else .int 0) p = decide (p ≤ f * if (v == u) = true then 1 else 0) := by
  by_cases a : v = u <;> simp [a, geE]
theorem fits_hard {Q : PyData → Prop} {l h v p : Int} (lh : l ≤ h) (v0 : l ≤ v) (v1 : v ≤ h) (H : Q (.bool (leE (if v = h then .none else .int 0) p && geE (if v = l then .none else .int 0) p))) :
    (match PyData.bool (decide (l < v)) with
      | PyData.bool true => if decide (v < h) = true then Q (PyData.bool (p == 0)) else if (l == h) = true then Q (PyData.bool true) else if (v == l) = true then Q (PyData.bool (decide (0 ≤ p))) else Q (PyData.bool (decide (p ≤ 0)))
      | PyData.bool false => if (l == h) = true then Q (PyData.bool true) else if (v == l) = true then Q (PyData.bool (decide (0 ≤ p))) else Q (PyData.bool (decide (p ≤ 0)))
      | _ => False) := by
  have k1 : leE (if v = h then .none else .int 0) p = (decide (v = h) || decide (0 ≤ p)) := by
    by_cases a : v = h
    · rw [if_pos a, decide_eq_true a]
      rfl
    · rw [if_neg a, decide_eq_false a]
      rfl
  have k2 : geE (if v = l then .none else .int 0) p = (decide (v = l) || decide (p ≤ 0)) := by
    by_cases a : v = l
    · rw [if_pos a, decide_eq_true a]
      rfl
    · rw [if_neg a, decide_eq_false a]
      rfl
  rw [k1, k2] at H
  by_cases a : l < v
  · rw [decide_eq_true a]
    show if decide (v < h) = true then _ else _
    simp only [decide_eq_true_eq, beq_iff_eq]
    split
    · refine q_eq H ?_
      rw [Bool.eq_iff_iff]
      simp only [Bool.and_eq_true, Bool.or_eq_true, decide_eq_true_eq, beq_iff_eq]
      omega
    · split
      · refine q_eq H ?_
        rw [Bool.eq_iff_iff]
        simp only [Bool.and_eq_true, Bool.or_eq_true, decide_eq_true_eq, iff_true]
        omega
      · split <;> (refine q_eq H ?_; rw [Bool.eq_iff_iff]; simp only [Bool.and_eq_true, Bool.or_eq_true, decide_eq_true_eq]; omega)
  · rw [decide_eq_false a]
    show if (l == h) = true then _ else _
    simp only [beq_iff_eq]
    split
    · refine q_eq H ?_
      rw [Bool.eq_iff_iff]
      simp only [Bool.and_eq_true, Bool.or_eq_true, decide_eq_true_eq, iff_true]
      omega
    · split <;> (refine q_eq H ?_; rw [Bool.eq_iff_iff]; simp only [Bool.and_eq_true, Bool.or_eq_true, decide_eq_true_eq]; omega)
namespace Tm
theorem up_endp {t : Tm} (h : t.Fr 30) : Endp t.up := by
  cases t with
  | wish d l u f => exact .inr ⟨f, rfl, by have := h.1; omega, h.2⟩
  | tie d o l u f => exact .inr ⟨f, rfl, by have := h.1; omega, h.2⟩
  | stop d l u => exact .inl rfl
  | bar d o l u => exact .inl rfl
theorem dn_endp {t : Tm} (h : t.Fr 30) : Endp t.dn := by
  cases t with
  | wish d l u f => exact .inr ⟨-f, rfl, by have := h.2; omega, by have := h.1; omega⟩
  | tie d o l u f => exact .inr ⟨-f, rfl, by have := h.2; omega, by have := h.1; omega⟩
  | stop d l u => exact .inl rfl
  | bar d o l u => exact .inl rfl
theorem zero_endp : Endp (.int 0) := .inr ⟨0, rfl, by decide, by decide⟩
theorem fit_facts {t : Tm} {v : Int} {a b : PyData} (hf : t.Fr 30) (e : t.fit v = .tuple [a, b]) : Endp a ∧ Endp b ∧ ∀ p, (leE a p && geE b p) = t.fitB v p := by
  have u := up_endp hf
  have d := dn_endp hf
  unfold fit at e
  unfold fitB
  split at e
  · rename_i h1
    simp only [PyData.tuple.injEq, List.cons.injEq, and_true] at e
    obtain ⟨rfl, rfl⟩ := e
    exact ⟨u, u, fun p => by rw [if_pos h1]⟩
  · rename_i h1
    split at e
    · rename_i h2
      simp only [PyData.tuple.injEq, List.cons.injEq, and_true] at e
      obtain ⟨rfl, rfl⟩ := e
      exact ⟨d, d, fun p => by rw [if_neg h1, if_pos h2]⟩
    · rename_i h2
      simp only [PyData.tuple.injEq, List.cons.injEq, and_true] at e
      obtain ⟨rfl, rfl⟩ := e
      refine ⟨?_, ?_, fun p => by rw [if_neg h1, if_neg h2]⟩
      · split
        · exact d
        · exact zero_endp
      · split
        · exact u
        · exact zero_endp
theorem neg_ends {t : Tm} {p : Int} : leE t.up (-p) = geE t.dn p ∧ geE t.up (-p) = leE t.dn p ∧ leE t.dn (-p) = geE t.up p ∧ geE t.dn (-p) = leE t.up p := by
  cases t <;> simp only [up, dn, leE, geE, and_self] <;> refine ⟨?_, ?_, ?_, ?_⟩ <;> rw [Bool.eq_iff_iff] <;> simp only [decide_eq_true_eq] <;> omega
theorem put_up {t : Tm} {l u : Int} : (t.put l u).up = t.up := by cases t <;> rfl
theorem put_dn {t : Tm} {l u : Int} : (t.put l u).dn = t.dn := by cases t <;> rfl
theorem put_fr {t : Tm} {l u m : Int} (h : t.Fr m) : (t.put l u).Fr m := by cases t <;> exact h
theorem fitB_mir {t : Tm} {v p : Int} (hl : t.low ≤ t.high) : (t.put (-t.high) (-t.low)).fitB (-v) (-p) = t.fitB v p := by
  obtain ⟨n1, n2, n3, n4⟩ := neg_ends (t := t) (p := p)
  have z1 : leE (.int 0) (-p) = geE (.int 0) p := by
    simp only [leE, geE]
    rw [Bool.eq_iff_iff]
    simp only [decide_eq_true_eq]
    omega
  have z2 : geE (.int 0) (-p) = leE (.int 0) p := by
    simp only [leE, geE]
    rw [Bool.eq_iff_iff]
    simp only [decide_eq_true_eq]
    omega
  unfold fitB
  rw [put_low, put_high, put_up, put_dn]
  by_cases h1 : v < t.low
  · rw [if_neg (show ¬ -v < -t.high by omega), if_pos (show -t.low < -v by omega), if_pos h1, n3, n4, Bool.and_comm]
  · by_cases h2 : t.high < v
    · rw [if_pos (show -v < -t.high by omega), if_neg h1, if_pos h2, n1, n2, Bool.and_comm]
    · rw [if_neg (show ¬ -v < -t.high by omega), if_neg (show ¬ -t.low < -v by omega), if_neg h1, if_neg h2]
      have a1 : leE (if -v = -t.low then t.dn else .int 0) (-p) = geE (if v = t.low then t.up else .int 0) p := by
        by_cases a : v = t.low
        · rw [if_pos a, if_pos (by omega), n3]
        · rw [if_neg a, if_neg (by omega), z1]
      have a2 : geE (if -v = -t.high then t.up else .int 0) (-p) = leE (if v = t.high then t.dn else .int 0) p := by
        by_cases a : v = t.high
        · rw [if_pos a, if_pos (by omega), n2]
        · rw [if_neg a, if_neg (by omega), z2]
      rw [a1, a2, Bool.and_comm]
end Tm
end DL
namespace DL
open PySem L2
theorem Tm.kind0 (t : Tm) : ∃ s, atI t.items 0 = some (.str s) ∧ inD (.str s) [.str "wish", .str "tie"] = t.soft := by
  cases t
  · exact ⟨_, atI_0, inWT_w⟩
  · exact ⟨_, atI_0, inWT_t⟩
  · exact ⟨_, atI_0, inWT_s⟩
  · exact ⟨_, atI_0, inWT_b⟩
theorem ne_bb {x y : Bool} (h : x = y) : (!PyData.eqv (.bool x) (.bool y)) = false := by
  subst h
  cases x <;> rfl
theorem mem_ints {x : PyData} {lo : Int} {n : Nat} {l : List PyData} (h : x ∈ rangeD lo n ++ l) (hl : ∀ y ∈ l, ∃ i : Int, y = .int i) : ∃ i : Int, x = .int i := by
  rcases List.mem_append.mp h with h | h
  · obtain ⟨i, _, e⟩ := List.mem_map.mp h
    exact ⟨_, e.symm⟩
  · exact hl x h
end DL
namespace DL
open PySem L2
/-- a loop that gives False back at the first item that is bad -/
theorem forW_any {g : TDG} {b : TDS} {DD : DEnds} (I : DEnv → Prop) (P : PyData → Prop) (bad : PyData → Bool)
    (turn : ∀ (x : PyData) (N : DEnv → Prop) (ds : DEnv), P x → I ds → (bad x = true → DD.rt (.bool false)) → (bad x = false → ∀ ds', I ds' → N ds') → g x ds fun ds' => b { nx := N, rt := DD.rt, bk := DD.nx, ct := N } ds') :
    ∀ (l : List PyData) (ds : DEnv), (∀ x ∈ l, P x) → I ds → (l.any bad = true → DD.rt (.bool false)) → (l.any bad = false → ∀ ds, I ds → DD.nx ds) → forW g b DD l ds
  | [], ds, _, h, _, n => n rfl ds h
  | x :: r, ds, hp, h, y, n => turn x _ ds (hp x (List.mem_cons_self ..)) h (fun e => y (by rw [List.any_cons, e, Bool.true_or])) fun e ds' h' =>
      forW_any I P bad turn r ds' (fun y hy => hp y (List.mem_cons_of_mem _ hy)) h' (fun e2 => y (by rw [List.any_cons, e2, Bool.or_true])) fun e2 => n (by rw [List.any_cons, e, e2]; rfl)
namespace Tm
/-- the distance lies under every line by the ends: from below and above -/
theorem dist_ge {t : Tm} {o : Int} (hl : t.low ≤ t.high) : t.low - o ≤ t.dist o ∧ o - t.high ≤ t.dist o ∧ 0 ≤ t.dist o := by
  unfold dist
  split
  · omega
  · split <;> omega
theorem dist_lo {t : Tm} {v : Int} (h : v < t.low) : t.dist v = t.low - v := by
  unfold dist
  rw [if_pos h]
theorem dist_hi {t : Tm} {v : Int} (h : ¬ v < t.low) (h2 : t.high < v) : t.dist v = v - t.high := by
  unfold dist
  rw [if_neg h, if_pos h2]
theorem dist_in {t : Tm} {v : Int} (h : ¬ v < t.low) (h2 : ¬ t.high < v) : t.dist v = 0 := by
  unfold dist
  rw [if_neg h, if_neg h2]
end Tm
theorem mul_le {f a b : Int} (hf : 0 ≤ f) (h : a ≤ b) : f * a ≤ f * b := Int.mul_le_mul_of_nonneg_left h hf
/-- a pull that fits is a slope of force times distance -/
theorem slope_ok {l h f v p o D : Int} (lh : l ≤ h) (f1 : 1 ≤ f) (d1 : l - o ≤ D) (d2 : o - h ≤ D) (d3 : 0 ≤ D) {E : Int}
    (H : (v < l ∧ E = l - v ∧ p = f) ∨ (h < v ∧ E = v - h ∧ p = -f) ∨ (l ≤ v ∧ v ≤ h ∧ E = 0 ∧ (if v = h then -f else 0) ≤ p ∧ p ≤ (if v = l then f else 0))) : ¬ f * D < f * E - p * (o - v) := by
  rcases H with ⟨a, rfl, rfl⟩ | ⟨a, rfl, rfl⟩ | ⟨a, b, rfl, q1, q2⟩
  · have := mul_le (f := p) (by omega) d1
    have e : p * (l - v) - p * (o - v) = p * (l - o) := by rw [← Int.mul_sub]; congr 1; omega
    omega
  · have := mul_le (f := f) (by omega) d2
    have e : f * (v - h) - -f * (o - v) = f * (o - h) := by rw [Int.neg_mul, Int.sub_neg, ← Int.mul_add]; congr 1; omega
    omega
  · rw [Int.mul_zero]
    have fd := Int.mul_nonneg (a := f) (b := D) (by omega) d3
    rcases Int.lt_trichotomy o v with c | c | c
    · -- o < v: - p (o - v) = p (v - o) ≤ q2 (v - o)
      have e : -(p * (o - v)) = (v - o) * p := by rw [← Int.mul_neg, Int.mul_comm]; congr 1; omega
      split at q2
      · rename_i e2
        have m := mul_le (f := v - o) (by omega) q2
        have m2 := mul_le (f := f) (by omega) d1
        have e3 : (v - o) * f = f * (l - o) := by rw [Int.mul_comm, e2]
        omega
      · have m := mul_le (f := v - o) (by omega) q2
        rw [Int.mul_zero] at m
        omega
    · have e : p * (o - v) = 0 := by rw [c, Int.sub_self, Int.mul_zero]
      omega
    · have e : -(p * (o - v)) = (o - v) * -p := by rw [Int.mul_neg, Int.mul_comm]
      split at q1
      · rename_i e2
        have m := mul_le (f := o - v) (by omega) (show -p ≤ f by omega)
        have m2 := mul_le (f := f) (by omega) d2
        have e3 : (o - v) * f = f * (o - h) := by rw [Int.mul_comm, e2]
        omega
      · have m := mul_le (f := o - v) (by omega) (show -p ≤ 0 by omega)
        rw [Int.mul_zero] at m
        omega
end DL
namespace DL
open PySem L2
theorem slope_no {f v p l h D1 D2 E : Int} (f1 : 1 ≤ f)
    (H : (v < l ∧ E = l - v ∧ D1 = l - v + 1 ∧ D2 = l - v - 1 ∧ p ≠ f) ∨ (h < v ∧ E = v - h ∧ D1 = v - h - 1 ∧ D2 = v - h + 1 ∧ p ≠ -f) ∨ (E = 0 ∧ D1 = (if v = l then 1 else 0) ∧ D2 = (if v = h then 1 else 0) ∧ ¬ ((if v = h then -f else 0) ≤ p ∧ p ≤ (if v = l then f else 0)))) :
    f * D1 < f * E - p * (v - 1 - v) ∨ f * D2 < f * E - p * (v + 1 - v) := by
  have e1 : p * (v - 1 - v) = -p := by rw [show v - 1 - v = -1 by omega]; omega
  have e2 : p * (v + 1 - v) = p := by rw [show v + 1 - v = 1 by omega]; omega
  rw [e1, e2]
  rcases H with ⟨a, rfl, rfl, rfl, q⟩ | ⟨a, rfl, rfl, rfl, q⟩ | ⟨rfl, rfl, rfl, q⟩
  · have m1 : f * (l - v + 1) = f * (l - v) + f := by rw [Int.mul_add, Int.mul_one]
    have m2 : f * (l - v - 1) = f * (l - v) - f := by rw [Int.mul_sub, Int.mul_one]
    omega
  · have m1 : f * (v - h - 1) = f * (v - h) - f := by rw [Int.mul_sub, Int.mul_one]
    have m2 : f * (v - h + 1) = f * (v - h) + f := by rw [Int.mul_add, Int.mul_one]
    omega
  · rw [Int.mul_zero]
    by_cases a : v = l <;> by_cases b : v = h <;> simp only [a, b, if_true, if_false] at q ⊢ <;> (try simp only [Int.mul_one, Int.mul_zero]) <;> (try split at q) <;> (try split) <;> omega
namespace Tm
def cost (t : Tm) (v : Int) : PyData := match t with
  | wish _ _ _ f => .int (f * t.dist v)
  | tie _ _ _ _ f => .int (f * t.dist v)
  | _ => if 0 < t.dist v then .none else .int 0
/-- another argument that shows that p is no slope at v -/
def bad (t : Tm) (v p : Int) (x : PyData) : Bool := match x with
  | .int o => match t with
    | wish _ _ _ f => decide (f * t.dist o < f * t.dist v - p * (o - v))
    | tie _ _ _ _ f => decide (f * t.dist o < f * t.dist v - p * (o - v))
    | _ => !decide (0 < t.dist o) && decide (0 < 0 - p * (o - v))
  | _ => false
end Tm
def costR : DR := fun xs Q => ∃ (t : Tm) (v : Int), xs = [.dat t.py, .dat (.int v)] ∧ t.low ≤ t.high ∧ t.Fr 30 ∧ (-(10 ^ 30) < t.dist v ∧ t.dist v < 10 ^ 30) ∧ ∀ d, t.cost v = d → Q d
def slopeR : DR := fun xs Q => ∃ (t : Tm) (v p : Int), xs = [.dat t.py, .dat (.int v), .dat (.int p)] ∧ t.low ≤ t.high ∧ t.Fr 30 ∧ -(10 ^ 18) ≤ t.low ∧ t.high ≤ 10 ^ 18 ∧ (-(10 ^ 19) < v ∧ v < 10 ^ 19) ∧ (-100 < p ∧ p < 100) ∧ (t.soft = false → t.low ≤ v ∧ v ≤ t.high) ∧ Q (.bool (t.fitB v p))
end DL

namespace DL
open PySem L2
theorem soft_no {l u f v p o D E : Int} {B : Bool} (lh : l ≤ u) (f1 : 1 ≤ f) (hB : B = (if v < l then leE (.int f) p && geE (.int f) p else if u < v then leE (.int (-f)) p && geE (.int (-f)) p else leE (if v = u then .int (-f) else .int 0) p && geE (if v = l then .int f else .int 0) p))
    (d1 : l - o ≤ D) (d2 : o - u ≤ D) (d3 : 0 ≤ D) (hE : E = if v < l then l - v else if u < v then v - u else 0) (b : B = true) : ¬ f * D < f * E - p * (o - v) := by
  rw [hB] at b
  refine slope_ok lh f1 d1 d2 d3 ?_
  by_cases h1 : v < l
  · rw [if_pos h1] at b hE
    rw [show (leE (.int f) p && geE (.int f) p) = (p == f) from leq_eq] at b
    exact .inl ⟨h1, hE, eq_of_beq b⟩
  · by_cases h2 : u < v
    · rw [if_neg h1, if_pos h2] at b hE
      rw [show (leE (.int (-f)) p && geE (.int (-f)) p) = (p == -f) from leq_eq] at b
      exact .inr (.inl ⟨h2, hE, eq_of_beq b⟩)
    · rw [if_neg h1, if_neg h2] at b hE
      rw [e_lo, e_hi] at b
      simp only [Bool.and_eq_true, decide_eq_true_eq, beq_iff_eq] at b
      refine .inr (.inr ⟨by omega, by omega, hE, ?_, ?_⟩)
      · have := b.1
        split at this <;> split <;> omega
      · have := b.2
        split at this <;> split <;> omega
theorem soft_yes {l u f v p D1 D2 E : Int} {B : Bool} (lh : l ≤ u) (f1 : 1 ≤ f) (hB : B = (if v < l then leE (.int f) p && geE (.int f) p else if u < v then leE (.int (-f)) p && geE (.int (-f)) p else leE (if v = u then .int (-f) else .int 0) p && geE (if v = l then .int f else .int 0) p))
    (hE : E = if v < l then l - v else if u < v then v - u else 0) (h1 : D1 = if v - 1 < l then l - (v - 1) else if u < v - 1 then v - 1 - u else 0) (h2 : D2 = if v + 1 < l then l - (v + 1) else if u < v + 1 then v + 1 - u else 0) (b : B = false) : f * D1 < f * E - p * (v - 1 - v) ∨ f * D2 < f * E - p * (v + 1 - v) := by
  rw [hB] at b
  refine slope_no (l := l) (h := u) f1 ?_
  by_cases a1 : v < l
  · rw [if_pos a1] at b hE
    rw [if_pos (by omega)] at h1
    rw [show (leE (.int f) p && geE (.int f) p) = (p == f) from leq_eq] at b
    refine .inl ⟨a1, hE, by omega, ?_, ne_of_beq_false b⟩
    rw [h2]
    split
    · omega
    · split <;> omega
  · by_cases a2 : u < v
    · rw [if_neg a1, if_pos a2] at b hE
      rw [if_neg (by omega), if_pos (by omega)] at h2
      rw [show (leE (.int (-f)) p && geE (.int (-f)) p) = (p == -f) from leq_eq] at b
      refine .inr (.inl ⟨a2, hE, ?_, by omega, ne_of_beq_false b⟩)
      rw [h1]
      split
      · omega
      · split <;> omega
    · rw [if_neg a1, if_neg a2] at b hE
      rw [e_lo, e_hi] at b
      refine .inr (.inr ⟨hE, ?_, ?_, fun z => ?_⟩)
      · rw [h1]
        split <;> split <;> (try split) <;> omega
      · rw [h2]
        split <;> split <;> (try split) <;> omega
      · rw [Bool.and_eq_false_iff] at b
        simp only [decide_eq_false_iff_not, beq_iff_eq] at b
        obtain ⟨z1, z2⟩ := z
        rcases b with b | b
        · split at b <;> split at z1 <;> omega
        · split at b <;> split at z2 <;> omega
end DL
namespace DL
open PySem L2
theorem hard_key {l u v p : Int} (hv : l ≤ v ∧ v ≤ u) : (if v < l then leE .none p && geE .none p else if u < v then leE .none p && geE .none p else leE (if v = u then .none else .int 0) p && geE (if v = l then .none else .int 0) p) = ((decide (v = u) || decide (0 ≤ p)) && (decide (v = l) || decide (p ≤ 0))) := by
  rw [if_neg (by omega), if_neg (by omega)]
  by_cases a : v = u
  · by_cases b : v = l
    · rw [if_pos a, if_pos b, decide_eq_true a, decide_eq_true b]
      rfl
    · rw [if_pos a, if_neg b, decide_eq_true a, decide_eq_false b]
      rfl
  · by_cases b : v = l
    · rw [if_neg a, if_pos b, decide_eq_false a, decide_eq_true b]
      rfl
    · rw [if_neg a, if_neg b, decide_eq_false a, decide_eq_false b]
      rfl
theorem hard_no {l u v p o D : Int} (lh : l ≤ u) (hv : l ≤ v ∧ v ≤ u) (b : (if v < l then leE .none p && geE .none p else if u < v then leE .none p && geE .none p else leE (if v = u then .none else .int 0) p && geE (if v = l then .none else .int 0) p) = true) (ge : l - o ≤ D ∧ o - u ≤ D ∧ 0 ≤ D) : (!decide (0 < D) && decide (0 < 0 - p * (o - v))) = false := by
  rw [hard_key hv] at b
  simp only [Bool.and_eq_true, Bool.or_eq_true, decide_eq_true_eq] at b
  by_cases d : 0 < D
  · rw [decide_eq_true d]
    rfl
  · have q : ¬ 0 < 0 - p * (o - v) := by
      rcases Int.lt_trichotomy o v with c | c | c
      · have m := mul_le (f := v - o) (by omega) (show p ≤ 0 by omega)
        rw [Int.mul_zero] at m
        have e : -(p * (o - v)) = (v - o) * p := by rw [← Int.mul_neg, Int.mul_comm]; congr 1; omega
        omega
      · have e : p * (o - v) = 0 := by rw [c, Int.sub_self, Int.mul_zero]
        omega
      · have m := mul_le (f := o - v) (by omega) (show -p ≤ 0 by omega)
        rw [Int.mul_zero] at m
        have e : -(p * (o - v)) = (o - v) * -p := by rw [Int.mul_neg, Int.mul_comm]
        omega
    rw [decide_eq_false q, Bool.and_false]
theorem hard_yes {l u v p D1 D2 : Int} (lh : l ≤ u) (hv : l ≤ v ∧ v ≤ u) (b : (if v < l then leE .none p && geE .none p else if u < v then leE .none p && geE .none p else leE (if v = u then .none else .int 0) p && geE (if v = l then .none else .int 0) p) = false)
    (h1 : D1 = if v - 1 < l then l - (v - 1) else if u < v - 1 then v - 1 - u else 0) (h2 : D2 = if v + 1 < l then l - (v + 1) else if u < v + 1 then v + 1 - u else 0) : (!decide (0 < D1) && decide (0 < 0 - p * (v - 1 - v))) = true ∨ (!decide (0 < D2) && decide (0 < 0 - p * (v + 1 - v))) = true := by
  rw [hard_key hv] at b
  have e1 : p * (v - 1 - v) = -p := by rw [show v - 1 - v = -1 by omega]; omega
  have e2 : p * (v + 1 - v) = p := by rw [show v + 1 - v = 1 by omega]; omega
  rw [e1, e2]
  rw [Bool.and_eq_false_iff] at b
  simp only [Bool.or_eq_false_iff, decide_eq_false_iff_not] at b
  simp only [Bool.and_eq_true, Bool.not_eq_true', decide_eq_false_iff_not, decide_eq_true_eq]
  rcases b with b | b
  · refine .inr ⟨?_, by omega⟩
    rw [h2]
    split
    · omega
    · split <;> omega
  · refine .inl ⟨?_, by omega⟩
    rw [h1]
    split
    · omega
    · split <;> omega
namespace Tm
theorem bad_no {t : Tm} {v p : Int} (lh : t.low ≤ t.high) (hf : t.Fr 30) (hst : t.soft = false → t.low ≤ v ∧ v ≤ t.high) (b : t.fitB v p = true) : ∀ x, t.bad v p x = false := by
  intro x
  cases x with
  | int o =>
    have ge := dist_ge (t := t) (o := o) lh
    cases t with
    | wish d l u f => exact decide_eq_false (soft_no (l := l) (u := u) lh hf.1 rfl ge.1 ge.2.1 ge.2.2 rfl b)
    | tie d o' l u f => exact decide_eq_false (soft_no (l := l) (u := u) lh hf.1 rfl ge.1 ge.2.1 ge.2.2 rfl b)
    | stop d l u => exact hard_no (l := l) (u := u) lh (hst rfl) b ge
    | bar d o' l u => exact hard_no (l := l) (u := u) lh (hst rfl) b ge
  | _ => rfl
theorem bad_yes {t : Tm} {v p : Int} (lh : t.low ≤ t.high) (hf : t.Fr 30) (hst : t.soft = false → t.low ≤ v ∧ v ≤ t.high) (b : t.fitB v p = false) : t.bad v p (.int (v - 1)) = true ∨ t.bad v p (.int (v + 1)) = true := by
  cases t with
  | wish d l u f => exact (soft_yes (l := l) (u := u) lh hf.1 rfl rfl rfl rfl b).imp decide_eq_true decide_eq_true
  | tie d o' l u f => exact (soft_yes (l := l) (u := u) lh hf.1 rfl rfl rfl rfl b).imp decide_eq_true decide_eq_true
  | stop d l u => exact hard_yes (l := l) (u := u) lh (hst rfl) b rfl rfl
  | bar d o' l u => exact hard_yes (l := l) (u := u) lh (hst rfl) b rfl rfl
end Tm
end DL
namespace DL
open PySem L2
/-! ### lists that grow -/
/-- an expression that makes a new list -/
def SF (B : Gr) (te : TE) (t : TDL) : Prop := ∀ (M : Addr → Prop) σ H ds Q (R : VK), Good M B H → EnvAt M B H σ ds → t ds Q →
  (∀ p xs l H1, Good M B H1 → Keep M B H H1 → H1 p = none → DtA M H1 xs l → Q l → R (.ref p) (upd H1 p (.lst xs))) → te σ H R
structure PDF (X : Cx) (B : Gr) (e : Expr) (te : TE) (t : TDL) : Prop where
  pe : PE X e te
  sf : SF B te t
section
variable {X : Cx} {B : Gr} {e a b : Expr} {es : List Expr} {te : TE} {ta tb : TA} {pos : Pos}
def fLst (t : TDL) : TDL := fun ds Q => t ds fun l => dSize l.length ∧ Q l
theorem df_lst {t : TDL} (h : PDL X B es ta t) : PDF X B (.List es pos) (tLst ta) (fLst t) :=
  ⟨pe_lst h.pa, fun M σ H ds Q R g en hq c => h.sl M σ H ds _ _ g en hq fun vs H1 l g1 k1 hl q1 => ⟨by rw [hl.length]; exact q1.1.le, fun p hp => c _ _ _ _ g1 k1 hp hl q1.2⟩⟩
theorem DvR.updO {M : Addr → Prop} {B : Gr} {H : Hp} {a : Addr} {o : HO} {v : V} {x : DV} (ma : M a) (nb : a ≠ B) (n : ¬ Fp v x a) (h : DvR M B H v x) : DvR M B (upd H a o) v x := by
  cases h with
  | bag hq nq e => exact .bag (by rw [bagq_upd nb]; exact hq) nq (by rw [upd_ne (fun z => nq (by rw [z]; exact ma))]; exact e)
  | loose hs h ow =>
    rename_i d S
    have st : Stay (minS M S) H (minS M S) (upd H a o) := stay_updD ⟨ma, n⟩
    exact .loose (fun b z => ⟨(hs b z).1, (hs b z).2.1, (hs b z).2.2.1, by obtain ⟨u, hu⟩ := (hs b z).2.2.2; exact ⟨u, by rw [upd_ne (fun w => n (by rw [← w]; exact z))]; exact hu⟩⟩) (h.map st) (ow.map st h)
  | dat r => exact .dat (r.updD ma)
  | obj mb nb2 f2 eb hb => exact .obj mb nb2 f2 (by rw [upd_ne fun w => n (congrArg V.ref w)]; exact eb) (hb.map (stay_updD ma))
  | exc r => exact .exc (r.map (stay_updD ma))
  | grow mb nb2 f2 eb hb => exact .grow mb nb2 f2 (by rw [upd_ne fun w => n (congrArg V.ref w)]; exact eb) (hb.updD ma)
  | grid mb nb2 f2 eb nd hb => exact .grid mb nb2 f2 (by rw [upd_ne fun w => n (.inl (congrArg V.ref w))]; exact eb) nd (hb.map (stay_updD ma) fun r xs hr m n' z e => ⟨m, n', z, by rw [upd_ne (show r ≠ a from fun w => n (.inr (by rw [← w]; exact hr)))]; exact e⟩)
/-- what is at a, of slot i's own, changes -/
theorem EnvAt.updO {M : Addr → Prop} {B : Gr} {H : Hp} {σ : L2.St} {ds : DEnv} {i : Nat} {a : Addr} {o : HO} {vi : V} {xi : DV} (en : EnvAt M B H σ ds) (ma : M a) (nb : a ≠ B) (hi : σ[i]? = some (some vi)) (hx : DvR M B (upd H a o) vi xi)
    (inj : ∀ (j : Nat) x v, ds[j]? = some (some x) → σ[j]? = some (some v) → Fp v x a → j = i) : EnvAt M B (upd H a o) σ (ds.set i (some xi)) := by
  refine EnvAt.of (by rw [List.length_set]; exact en.length) fun j x hj => ?_
  by_cases z : i = j
  · subst z
    by_cases hl : i < ds.length
    · rw [List.getElem?_set_self hl] at hj
      cases hj
      exact ⟨_, hi, hx⟩
    · rw [List.getElem?_eq_none (by rw [List.length_set]; omega)] at hj
      cases hj
  · rw [List.getElem?_set_ne z] at hj
    obtain ⟨v, hv, r⟩ := en.get j hj
    exact ⟨v, hv, r.updO ma nb fun f => z (inj j x v hj hv f).symm⟩
/-- the wider world of a def's own new lists -/
theorem DvR.wide {M M' : Addr → Prop} {B : Gr} {H H' : Hp} {v : V} {x : DV} (sub : ∀ a, M a → M' a) (k : Keep M B H H') (st : Stay M H M' H') (h : DvR M B H v x) : DvR M' B H' v x := by
  cases h with
  | bag hq nq e => exact .bag (k.q _ hq) (st _ _ nq e).1 (st _ _ nq e).2
  | loose hs h o =>
    rename_i d S
    have st2 : Stay (minS M S) H (minS M' S) H' := fun b u n e => by
      by_cases z : S b
      · exact ⟨fun w => w.2 z, k.k b u (hs b z).2.1 e⟩
      · have := st b u (fun w => n ⟨w, z⟩) e
        exact ⟨fun w => this.1 w.1, this.2⟩
    exact .loose (fun b z => ⟨sub b (hs b z).1, (hs b z).2.1, (hs b z).2.2.1, by obtain ⟨u, hu⟩ := (hs b z).2.2.2; exact ⟨u, k.k b u (hs b z).2.1 hu⟩⟩) (h.map st2) (o.map st2 h)
  | dat r => exact .dat (r.map st)
  | obj mb nb2 f2 eb hb => exact .obj (sub _ mb) nb2 f2 (k.k _ _ nb2 eb) (hb.map st)
  | exc r => exact .exc (r.map st)
  | grow mb nb2 f2 eb hb => exact .grow (sub _ mb) nb2 f2 (k.k _ _ nb2 eb) (hb.map st)
  | grid mb nb2 f2 eb nd hb => exact .grid (sub _ mb) nb2 f2 (k.k _ _ nb2 eb) nd (hb.map st fun r xs hr m n' z e => ⟨sub _ m, n', z, k.k _ _ n' e⟩)
theorem DvR.fp {M : Addr → Prop} {B : Gr} {H : Hp} {v : V} {x : DV} {a : Addr} (h : DvR M B H v x) (f : Fp v x a) : M a ∧ ∃ o, H a = some o := by
  cases h with
  | bag _ _ _ => exact f.elim
  | loose hs h o => exact ⟨(hs a f).1, (hs a f).2.2.2⟩
  | obj mb nb2 f2 eb hb => cases f; exact ⟨mb, _, eb⟩
  | dat r => exact f.elim
  | exc r => exact f.elim
  | grow mb nb2 f2 eb hb => cases f; exact ⟨mb, _, eb⟩
  | grid mb nb2 f2 eb nd hb =>
    rcases f with f | f
    · cases f
      exact ⟨mb, _, eb⟩
    · clear nd eb
      revert f
      induction hb with
      | nil => intro f; cases f
      | cons m n z e h t ih =>
        intro f
        rcases List.mem_cons.mp f with rfl | f
        · exact ⟨m, _, e⟩
        · exact ih f
/-- new lists of a def's own go to slot i -/
theorem EnvO.newO {M M' : Addr → Prop} {B : Gr} {H H' : Hp} {σ : L2.St} {ds : DEnv} {i : Nat} {vi : V} {xi : DV} (o : EnvO M B H σ ds) (sub : ∀ a, M a → M' a) (k : Keep M B H H') (st : Stay M H M' H') (hx : DvR M' B H' vi xi) (fresh : ∀ a, Fp vi xi a → H a = none) :
    EnvO M' B H' (σ.set i (some vi)) (ds.set i (some xi)) := by
  have el : σ.length = ds.length := o.at_.length
  have lt : ∀ {x : DV}, (ds.set i (some xi))[i]? = some (some x) → i < ds.length := fun {l'} h => by
    by_cases z : i < ds.length
    · exact z
    · rw [List.getElem?_eq_none (by rw [List.length_set]; omega)] at h
      cases h
  have old : ∀ (j : Nat) x v a, ds[j]? = some (some x) → σ[j]? = some (some v) → Fp v x a → Fp vi xi a → False := fun j x v a h1 h2 f g => by
    obtain ⟨u, hu, r⟩ := o.at_.get j h1
    rw [h2] at hu
    cases hu
    obtain ⟨_, w, e⟩ := r.fp f
    rw [fresh a g] at e
    cases e
  have self : ∀ {x : DV} {v : V}, (ds.set i (some xi))[i]? = some (some x) → (σ.set i (some vi))[i]? = some (some v) → x = xi ∧ v = vi := fun {x v} h1 h2 => by
    have hl := lt h1
    rw [List.getElem?_set_self hl] at h1
    rw [List.getElem?_set_self (by rw [el]; exact hl)] at h2
    cases h1
    cases h2
    exact ⟨rfl, rfl⟩
  refine ⟨EnvAt.of (by rw [List.length_set, List.length_set]; exact el) fun j x hj => ?_, fun j k x y v w a h1 h2 h3 h4 f g => ?_⟩
  · by_cases z : i = j
    · subst z
      have hl := lt hj
      rw [List.getElem?_set_self hl] at hj
      cases hj
      exact ⟨vi, List.getElem?_set_self (by rw [el]; exact hl), hx⟩
    · rw [List.getElem?_set_ne z] at hj
      obtain ⟨v, hv, r⟩ := o.at_.get j hj
      exact ⟨v, by rw [List.getElem?_set_ne z]; exact hv, r.wide sub k st⟩
  · by_cases z : i = j
    · by_cases z2 : i = k
      · rw [← z, ← z2]
      · subst z
        obtain ⟨rfl, rfl⟩ := self h1 h3
        rw [List.getElem?_set_ne z2] at h2 h4
        exact (old k y w a h2 h4 g f).elim
    · by_cases z2 : i = k
      · subst z2
        obtain ⟨rfl, rfl⟩ := self h2 h4
        rw [List.getElem?_set_ne z] at h1 h3
        exact (old j x v a h1 h3 f g).elim
      · rw [List.getElem?_set_ne z] at h1 h3
        rw [List.getElem?_set_ne z2] at h2 h4
        exact o.inj j k x y v w a h1 h2 h3 h4 f g
/-- a new list goes to slot i -/
theorem ContE.new {M : Addr → Prop} {B : Gr} {H1 : Hp} {P : DEnv → Prop} {R : L2.St → Hp → Prop} {σ : L2.St} {ds : DEnv} {i : Nat} {p : Addr} {l : List PyData} {xs : List V} (c : ContE B M H1 P R) (e1 : Ent B M H1) (o1 : EnvO M B H1 σ ds)
    (hp : H1 p = none) (hl : DtA M H1 xs l) (q1 : P (ds.set i (some (.grow l)))) : R (σ.set i (some (.ref p))) (upd H1 p (.lst xs)) := by
  have g1 := e1.g
  have nB : p ≠ B := fun z => by
    obtain ⟨u, hu⟩ := g1.2.1 B g1.1
    rw [z, hu] at hp
    cases hp
  have st : Stay M H1 (wM M p) (upd H1 p (.lst xs)) := fun a u n ha => ⟨fun z => z.elim n (ne_of_none ha hp), by rw [upd_ne (ne_of_none ha hp)]; exact ha⟩
  exact c (wM M p) _ _ _ ⟨g1.addM hp⟩ st (o1.newO (fun _ => .inl) (Keep.new hp) st (.grow (.inr rfl) nB (g1.fresh0 hp) upd_same (hl.map st)) fun a f => by cases f; exact hp) q1
/-- x = a new list -/
def sNew (i : Nat) (t : TDL) : TDS := fun DD ds => t ds fun l => DD.nx (ds.set i (some (.grow l)))
theorem ds_new {i : Nat} {x : Str} {pos' : Pos} {t : TDL} (hN : X.N.Nodup) (hi : X.N[i]? = some x) (hx : Loc X.env.scope x) (he : PDF X B e te t) (hs : swapsWith e (some (.Name x pos')) pos.line X.env = pure false := by rfl) (hf : X.fn x = true ∨ X.env.scope.names.lookup x = some .local := by first | exact .inl rfl | exact .inr rfl | assumption) :
    PDS X B (.Assign [.Name x pos'] e pos) (tAsg te (gName i)) (sNew i t) := ⟨ps_set hN hi hx he.pe hs hf, fun M σ H ds DD D en o q c =>
    he.sf M σ H ds _ _ en.g o.at_ q fun p xs l H1 g1 k1 hp hl q1 =>
    (c.nx.stay (k1.stay en.g.1)).new (en.expr g1 k1) (o.expr en.g.1 k1) hp hl q1⟩
/-- x, y = data, a new list -/
def sParDN (i j : Nat) (d : TDE) (t : TDL) : TDS := fun DD ds => d ds fun x => t ds fun l => DD.nx ((ds.set i (some (.dat x))).set j (some (.grow l)))
theorem ds_parDN {i j : Nat} {x y : Str} {te2 : TE} {d : TDE} {t : TDL} {px py pt : Pos} {kt k2 pt2} (hc : X.calm = true) (hN : X.N.Nodup) (hi : X.N[i]? = some x) (hj : X.N[j]? = some y) (hij : i ≠ j)
    (hx : X.env.scope.names.lookup x = some .local) (hy : X.env.scope.names.lookup y = some .local) (ha : PD X B a te d) (hb : PDF X B b te2 t)
    (hw : swappedStores [.Tuple [.Name x px, .Name y py] kt pt] (.Tuple [a, b] k2 pt2) X.env = pure (some [x, y]))
    (hs : swapsWithSole [.Tuple [.Name x px, .Name y py] kt pt] (.Tuple [a, b] k2 pt2) pos.line X.env = pure false := by rfl)
    (h1 : starEach [a, b] X.env = (false, eval a X.env) :: starEach [b] X.env := by rfl) (h2 : starEach [b] X.env = (false, eval b X.env) :: starEach [] X.env := by rfl) :
    PDS X B (.Assign [.Tuple [.Name x px, .Name y py] kt pt] (.Tuple [a, b] k2 pt2) pos) (tPar i j (tCons te (tCons te2 tNil))) (sParDN i j d t) :=
  ⟨ps_par hc hN hi hj hij hx hy (pa_cons ha.pe (pa_cons hb.pe pa_nil h2) h1) hw hs, fun M σ H ds DD D en o q c =>
    ha.se M σ H ds _ _ en.g o.at_ q fun v H1 x g1 k1 hx q1 => hb.sf M σ H1 ds _ _ g1 (o.at_.keep en.g.1 k1) q1 fun p xs l H2 g2 k2 hp hl q2 => by
      have kk := k1.trans k2
      have o2 := o.expr en.g.1 kk
      exact ⟨_, _, rfl, (c.nx.stay (kk.stay en.g.1)).new (σ := σ.set i (some v)) (en.expr g2 kk) (o2.sub (EnvAt.set (.dat (hx.keep en.g.1 k2)) i o2.at_) Sub.set) hp hl q2⟩⟩
/-- a change of slot i's own -/
theorem ContE.chg {M : Addr → Prop} {B : Gr} {H : Hp} {P : DEnv → Prop} {R : L2.St → Hp → Prop} {σ : L2.St} {ds : DEnv} {i : Nat} {a : Addr} {v : V} {x x' : DV} {ob : HO} (c : ContE B M H P R) (e : Ent B M H) (o : EnvO M B H σ ds)
    (hi : ds[i]? = some (some x)) (hv : σ[i]? = some (some v)) (f : Fp v x a) (ma : M a) (nb : a ≠ B) (h0 : B.H0 a = none) (hx : DvR M B (upd H a ob) v x') (ff : ∀ b, Fp v x' b → Fp v x b) (q : P (ds.set i (some x'))) (nt : ∀ ys, ob ≠ .tup ys := by intro _ h; cases h) : R σ (upd H a ob) := by
  refine c M σ _ _ ⟨e.g.updD ma nb h0 nt⟩ (stay_updD ma) ⟨o.at_.updO ma nb hv hx fun j y w hj hs g => o.inj j i y x w v a hj hi hs hv g f, fun j k y z u w b h1 h2 h3 h4 g1 g2 => ?_⟩ q
  have old : ∀ (j : Nat) y u, (ds.set i (some x'))[j]? = some (some y) → σ[j]? = some (some u) → Fp u y b → ∃ y', ds[j]? = some (some y') ∧ Fp u y' b := fun j y u hj hu g => by
    by_cases z : i = j
    · subst z
      rw [List.getElem?_set_self (List.getElem?_eq_some_iff.mp hi).1] at hj
      cases hj
      rw [hv] at hu
      cases hu
      exact ⟨x, hi, ff b g⟩
    · rw [List.getElem?_set_ne z] at hj
      exact ⟨y, hj, g⟩
  obtain ⟨y', e1, g1⟩ := old j y u h1 h3 g1
  obtain ⟨z', e2, g2⟩ := old k z w h2 h4 g2
  exact o.inj j k y' z' u w b e1 e2 h3 h4 g1 g2
/-- a change of what grows at slot i -/
theorem ContE.grow {M : Addr → Prop} {B : Gr} {H : Hp} {P : DEnv → Prop} {R : L2.St → Hp → Prop} {σ : L2.St} {ds : DEnv} {i : Nat} {a : Addr} {l l' : List PyData} {xs : List V} (c : ContE B M H P R) (e : Ent B M H) (o : EnvO M B H σ ds)
    (hi : ds[i]? = some (some (.grow l))) (hv : σ[i]? = some (some (.ref a))) (ma : M a) (nb : a ≠ B) (hx : DtA M H xs l') (q : P (ds.set i (some (.grow l')))) : R σ (upd H a (.lst xs)) :=
  c.chg e o hi hv rfl ma nb (o.own i l a hi hv) (.grow ma nb (o.own i l a hi hv) upd_same (hx.updD ma)) (fun _ f => f) q
/-- x.append(e) -/
def sApp (i : Nat) (t : TDE) : TDS := fun DD ds => match ds[i]? with
  | some (some (.grow l)) => t ds fun d => dSize (l.length + 1) ∧ DD.nx (ds.set i (some (.grow (l ++ [d]))))
  | _ => False
theorem grow_get {M : Addr → Prop} {B : Gr} {H : Hp} {σ : L2.St} {ds : DEnv} {i : Nat} {l : List PyData} (en : EnvAt M B H σ ds) (hi : ds[i]? = some (some (.grow l))) : ∃ a xs, σ[i]? = some (some (.ref a)) ∧ M a ∧ a ≠ B ∧ H a = some (.lst xs) ∧ DtA M H xs l := by
  obtain ⟨v, hv, r⟩ := en.get i hi
  cases r with
  | grow ma nb f e h => exact ⟨_, _, hv, ma, nb, e, h⟩
theorem ds_app {st : Stmt} {d : TDE} (i : Nat) (he : PD X B e te d) (hp : PE X e te → PS X st (tDrop (tBM X.K "list" rAppend (tVar i) (tCons te tNil)))) : PDS X B st (tDrop (tBM X.K "list" rAppend (tVar i) (tCons te tNil))) (sApp i d) :=
  ⟨hp he.pe, fun M σ H ds DD D en o q c => by
    unfold sApp at q
    split at q
    · rename_i l hl
      obtain ⟨a, xs, hv, ma, nb, ea, ha⟩ := grow_get o.at_ hl
      refine ⟨_, hv, .inl ⟨rfl, xs, SqL.of ea⟩, ?_⟩
      refine he.se M σ H ds _ _ en.g o.at_ q fun v H1 d g1 k1 hd q1 => ?_
      refine ⟨a, xs, v, rfl, rfl, k1.k a _ nb ea, ?_, ?_⟩
      · have hs : sizeLine = 16777216 := sizeLine_eq
        have h1 := ha.length
        have h2 : l.length + 1 ≤ 1000000 := q1.1
        omega
      · exact (c.nx.stay (k1.stay en.g.1)).grow (en.expr g1 k1) (o.expr en.g.1 k1) hl hv ma nb ((ha.keep en.g.1 k1).append (.cons hd .nil)) q1.2
    · exact q.elim⟩
/-- x[k] = e -/
def sPut (i : Nat) (tk t : TDE) : TDS := fun DD ds => match ds[i]? with
  | some (some (.grow l)) => t ds fun d => tk ds fun k => match k with
    | .int k => ∃ j, ixN l.length k = some j ∧ DD.nx (ds.set i (some (.grow (l.set j d))))
    | _ => False
  | _ => False
theorem DtA.set {M : Addr → Prop} {H : Hp} {v : V} {d : PyData} (h : Dt M H v d) : ∀ (j : Nat) {ds : List PyData} {vs : List V}, DtA M H vs ds → DtA M H (vs.set j v) (ds.set j d)
  | _, _, _, .nil => .nil
  | 0, _, _, .cons _ t => .cons h t
  | j + 1, _, _, .cons g t => .cons g (DtA.set h j t)
theorem ds_put {st : Stmt} {ek : Expr} {tk : TE} {d dk : TDE} (i : Nat) (he : PD X B e te d) (hk : PD X B ek tk dk) (hp : PE X e te → PE X ek tk → PS X st (tAsg te (gSub (tVar i) tk rSetL))) : PDS X B st (tAsg te (gSub (tVar i) tk rSetL)) (sPut i dk d) :=
  ⟨hp he.pe hk.pe, fun M σ H ds DD D en o q c => by
    unfold sPut at q
    split at q
    · rename_i l hl
      obtain ⟨a, xs, hv, ma, nb, ea, ha⟩ := grow_get o.at_ hl
      refine he.se M σ H ds _ _ en.g o.at_ q fun v H1 d g1 k1 hd q1 => ?_
      refine ⟨_, hv, ?_⟩
      refine hk.se M σ H1 ds _ _ g1 (o.at_.keep en.g.1 k1) q1 fun w H2 x g2 k2 hx q2 => ?_
      cases x <;> first | exact q2.elim | skip
      cases hx
      obtain ⟨j, hj, q3⟩ := q2
      have kk := k1.trans k2
      refine ⟨a, xs, _, j, rfl, rfl, kk.k a _ nb ea, by rw [ha.length]; exact hj, ?_⟩
      exact (c.nx.stay (kk.stay en.g.1)).grow (en.expr g2 kk) (o.expr en.g.1 kk) hl hv ma nb (DtA.set (hd.keep en.g.1 k2) j (ha.keep en.g.1 kk)) q3
    · exact q.elim⟩
/-- x[k] op= e, ints -/
def sAugP (i : Nat) (op : Int → Int → Int) (tk t : TDE) : TDS := fun DD ds => match ds[i]? with
  | some (some (.grow l)) => tk ds fun k => match k with
    | .int k => ∃ (j : Nat) (n : Int), k = j ∧ l[j]? = some (.int n) ∧ t ds fun y => match y with
      | .int m => DD.nx (ds.set i (some (.grow (l.set j (.int (op n m))))))
      | _ => False
    | _ => False
  | _ => False
theorem ds_augP {st : Stmt} {ek : Expr} {tk : TE} {d dk : TDE} {op : Int → Int → Int} (i : Nat) (he : PD X B e te d) (hk : PD X B ek tk dk) (hp : PE X e te → PE X ek tk → PS X st (tAugS (tVar i) tk te (rGetL X.K) (ipI op) rSetL)) :
    PDS X B st (tAugS (tVar i) tk te (rGetL X.K) (ipI op) rSetL) (sAugP i op dk d) :=
  ⟨hp he.pe hk.pe, fun M σ H ds DD D en o q c => by
    unfold sAugP at q
    split at q
    · rename_i l hl
      obtain ⟨a, xs, hv, ma, nb, ea, ha⟩ := grow_get o.at_ hl
      refine ⟨_, hv, ?_⟩
      refine hk.se M σ H ds _ _ en.g o.at_ q fun w H1 x g1 k1 hx q1 => ?_
      cases x <;> first | exact q1.elim | skip
      cases hx
      obtain ⟨j, n, rfl, hj, q2⟩ := q1
      have ha1 := ha.keep en.g.1 k1
      obtain ⟨v, hv1, r1⟩ := DtA.get j ha1 hj
      cases r1
      refine ⟨a, xs, _, j, rfl, rfl, SqL.of (k1.k a _ nb ea), hv1, ?_⟩
      refine he.se M σ H1 ds _ _ g1 (o.at_.keep en.g.1 k1) q2 fun u H2 y g2 k2 hy q3 => ?_
      cases y <;> first | exact q3.elim | skip
      cases hy
      have kk := k1.trans k2
      refine ⟨_, _, rfl, rfl, a, xs, _, j, rfl, rfl, kk.k a _ nb ea, ?_, ?_⟩
      · rw [ha.length]
        have := (List.getElem?_eq_some_iff.mp hj).1
        unfold L2.ixN
        rw [if_pos (Int.natCast_nonneg j)]
        simp [this]
      exact (c.nx.stay (kk.stay en.g.1)).grow (en.expr g2 kk) (o.expr en.g.1 kk) hl hv ma nb (DtA.set (.int _) j (ha.keep en.g.1 kk)) q3
    · exact q.elim⟩
/-- the world without some of slot i's own -/
def lessP (M : Addr → Prop) (S : Addr → Prop) : Addr → Prop := fun b => M b ∧ ¬ S b
theorem DvR.lessP {M S : Addr → Prop} {B : Gr} {H : Hp} {v : V} {x : DV} (h : DvR M B H v x) (n : ∀ a, Fp v x a → ¬ S a) : DvR (lessP M S) B H v x := by
  cases h with
  | bag hq nq e => exact .bag hq (fun z => nq z.1) e
  | loose hs h o =>
    rename_i d S'
    have st : Stay (minS M S') H (minS (DL.lessP M S) S') H := Stay.less fun b z => ⟨z.1.1, z.2⟩
    exact .loose (fun b z => ⟨⟨(hs b z).1, n b z⟩, (hs b z).2⟩) (h.map st) (o.map st h)
  | dat h => exact .dat (h.map (Stay.less fun b z => z.1))
  | obj ma nb hz e h => exact .obj ⟨ma, n _ rfl⟩ nb hz e (h.map (Stay.less fun b z => z.1))
  | exc h => exact .exc (h.map (Stay.less fun b z => z.1))
  | grow ma nb hz e h => exact .grow ⟨ma, n _ rfl⟩ nb hz e (h.map (Stay.less fun b z => z.1))
  | grid ma nb hz e nd h => exact .grid ⟨ma, n _ (.inl rfl)⟩ nb hz e nd (h.map (Stay.less fun b z => z.1) fun r xs hr m n' z e => ⟨⟨m, n _ (.inr hr)⟩, n', z, e⟩)
/-- slot i's own stands still from here on -/
theorem EnvO.still {M : Addr → Prop} {B : Gr} {H : Hp} {σ : L2.St} {ds : DEnv} {i : Nat} {v : V} {x : DV} {d : PyData} (o : EnvO M B H σ ds) (hl : ds[i]? = some (some x)) (hv : σ[i]? = some (some v)) (hd : Dt (DL.lessP M (Fp v x)) H v d) :
    EnvO (DL.lessP M (Fp v x)) B H σ (ds.set i (some (.dat d))) := by
  have lt : i < ds.length := (List.getElem?_eq_some_iff.mp hl).1
  refine ⟨EnvAt.of (by rw [List.length_set]; exact o.at_.length) fun j y hy => ?_, fun j k y z u w b h1 h2 h3 h4 g1 g2 => ?_⟩
  · by_cases z : i = j
    · subst z
      rw [List.getElem?_set_self lt] at hy
      cases hy
      exact ⟨_, hv, .dat hd⟩
    · rw [List.getElem?_set_ne z] at hy
      obtain ⟨u, hu, r⟩ := o.at_.get j hy
      exact ⟨u, hu, r.lessP fun a f g => z (o.inj i j x y v u a hl hy hv hu g f)⟩
  · have old : ∀ (j : Nat) y u, (ds.set i (some (DV.dat d)))[j]? = some (some y) → Fp u y b → ds[j]? = some (some y) := fun j y u hj g => by
      by_cases z : i = j
      · subst z
        rw [List.getElem?_set_self lt] at hj
        cases hj
        exact g.elim
      · rw [List.getElem?_set_ne z] at hj
        exact hj
    exact o.inj j k y z u w b (old j y u h1 g1) (old k z w h2 g2) h3 h4 g1 g2
theorem Ent.still {M : Addr → Prop} {B : Gr} {H : Hp} {v : V} {x : DV} (en : Ent B M H) (z : ∀ a, Fp v x a → B.H0 a = none) : Ent B (DL.lessP M (Fp v x)) H :=
  ⟨en.g.less (fun b z => z.1) fun b hb => ⟨en.g.d.sub b hb, fun f => en.g.own (z b f) hb⟩⟩
/-- from here on the list at slot i stands still -/
def sFrz (i : Nat) (t : TDS) : TDS := fun DD ds => match ds[i]? with
  | some (some (.grow l)) => t DD (ds.set i (some (.dat (.list l))))
  | _ => False
theorem ds_frz {sts : List Stmt} {ts : TS} {t : TDS} (i : Nat) (h : PDSs X B sts ts t) : PDSs X B sts ts (sFrz i t) :=
  ⟨h.ps, fun M σ H ds DD D en o q c => by
    unfold sFrz at q
    split at q
    · rename_i l hl
      obtain ⟨a, xs, hv, ma, nb, ea, ha⟩ := grow_get o.at_ hl
      have ls : Stay M H (DL.lessP M (Fp (.ref a) (.grow l))) H := Stay.less fun b z => z.1
      exact h.ss _ σ H _ DD D (en.still fun b f => by cases f; exact o.own i l a hl hv) (o.still hl hv (.lst (fun z => z.2 rfl) ea (ha.map ls))) q (c.stay ls)
    · exact q.elim⟩
end
end DL
namespace DL
open PySem L2 PyProof.Rows
/-! ### sum, max, min of ints; zip; enumerate -/
def rSumT (K : PySem.W.Frag) : List V → Hp → VK → Prop := fun vs H Q => ∃ (a : Addr) (ns : List Int), vs = [V.ref a] ∧ SqT K H a (ns.map V.int) ∧ Q (.int ns.sum) H
theorem cr_sumT {X : Cx} (hc : X.calm = true) : CallR X (.builtin "sum") (rSumT X.K) := by
  intro pins s σ H vs us Q I r h
  obtain ⟨a, ns, rfl, hs, q⟩ := h
  obtain ⟨its, rv, p, _⟩ := I.tuple hs
  rw [Vals.ref1 r]
  have hi := rv.ints
  obtain ⟨xs, e⟩ := hi.allInts.items
  have hn : numsOf (intItems xs).toList = ns := by rw [← e]; exact hi.numsOf
  rw [nums_intItems] at hn
  have p' : s.heap.IsTuple a its.toArray := p
  rw [e] at p'
  refine PySem.W.ktm_sumG (I.ok.hd hc) p' fun h' tk t' hk => ?_
  rw [preSum_eq, List.take_of_length_le (by simp), hn]
  exact ⟨.int _, H, I.kept hk, ⟨_, rfl⟩, q⟩
theorem DtA.intsV {M : Addr → Prop} {H : Hp} : ∀ {ns : List Int} {vs : List V}, DtA M H vs (ns.map PyData.int) → vs = ns.map V.int
  | [], _, h => by cases h; rfl
  | n :: ns, _, h => by
    cases h with
    | cons h1 h2 =>
      cases h1
      rw [DtA.intsV h2]
      rfl
def rSumV (K : PySem.W.Frag) : List V → Hp → VK → Prop := fun xs H Q => rSum K xs H Q ∨ rSumT K xs H Q
theorem call_sumK {X : Cx} (K : PySem.W.Frag) (hc : X.calm = true) (hK : X.K = K := by rfl) : CallR X (.builtin "sum") (rSumV K) := by
  subst hK
  exact CallR.or2 (cr_sum hc) (cr_sumT hc)
theorem call_maxLK {X : Cx} (K : PySem.W.Frag) (hc : X.calm = true) (hK : X.K = K := by rfl) : CallR X (.builtin "max") (rMax K) := by
  subst hK
  exact cr_max hc
theorem call_minLK {X : Cx} (K : PySem.W.Frag) (hc : X.calm = true) (hK : X.K = K := by rfl) : CallR X (.builtin "min") (rMin K) := by
  subst hK
  exact cr_min hc
def cSum : DC := fun l Q => match l with
  | [.list a] => ∃ ns : List Int, a = ns.map .int ∧ Q (.int ns.sum)
  | [.tuple a] => ∃ ns : List Int, a = ns.map .int ∧ Q (.int ns.sum)
  | _ => False
theorem rdc_sum {B : Gr} {K : PySem.W.Frag} : RDC B (rSumV K) cSum := by
  intro M vs l H Q R g hl h c
  unfold cSum at h
  split at h
  · cases hl with
    | cons h1 t1 =>
      cases t1
      obtain ⟨ns, rfl, q⟩ := h
      cases h1 with
      | lst n e a => exact .inl ⟨_, ns, rfl, SqL.of (by rw [e, a.intsV]), c _ H _ g Keep.refl (.int _) q⟩
  · cases hl with
    | cons h1 t1 =>
      cases t1
      obtain ⟨ns, rfl, q⟩ := h
      cases h1 with
      | tup n e a => exact .inr ⟨_, ns, rfl, SqT.of (by rw [e, a.intsV]), c _ H _ g Keep.refl (.int _) q⟩
  · exact h.elim
def cMaxL : DC := fun l Q => match l with
  | [.list a] => ∃ ns : List Int, a = ns.map .int ∧ 0 < ns.length ∧ ∀ m, m ∈ ns → (∀ y ∈ ns, y ≤ m) → Q (.int m)
  | _ => False
def cMinL : DC := fun l Q => match l with
  | [.list a] => ∃ ns : List Int, a = ns.map .int ∧ 0 < ns.length ∧ ∀ m, m ∈ ns → (∀ y ∈ ns, m ≤ y) → Q (.int m)
  | _ => False
theorem rdc_maxL {B : Gr} {K : PySem.W.Frag} : RDC B (rMax K) cMaxL := by
  intro M vs l H Q R g hl h c
  unfold cMaxL at h
  split at h
  · cases hl with
    | cons h1 t1 =>
      cases t1
      obtain ⟨ns, rfl, n0, q⟩ := h
      cases h1 with
      | lst n e a => exact ⟨_, ns, rfl, SqL.of (by rw [e, a.intsV]), n0, fun m hm hy => c _ H _ g Keep.refl (.int _) (q m hm hy)⟩
  · exact h.elim
theorem rdc_minL {B : Gr} {K : PySem.W.Frag} : RDC B (rMin K) cMinL := by
  intro M vs l H Q R g hl h c
  unfold cMinL at h
  split at h
  · cases hl with
    | cons h1 t1 =>
      cases t1
      obtain ⟨ns, rfl, n0, q⟩ := h
      cases h1 with
      | lst n e a => exact ⟨_, ns, rfl, SqL.of (by rw [e, a.intsV]), n0, fun m hm hy => c _ H _ g Keep.refl (.int _) (q m hm hy)⟩
  · exact h.elim
def zipD (a b : List PyData) : List PyData := (a.zip b).map fun p => .tuple [p.1, p.2]
theorem zipD_len (a b : List PyData) : (zipD a b).length = min a.length b.length := by
  unfold zipD
  rw [List.length_map, List.length_zip]
theorem zipD_at {a b : List PyData} {i : Nat} {x y : PyData} (h1 : a[i]? = some x) (h2 : b[i]? = some y) : (zipD a b)[i]? = some (.tuple [x, y]) := by
  unfold zipD
  rw [List.getElem?_map, (List.getElem?_zip_eq_some (z := (x, y))).mpr ⟨h1, h2⟩]
  rfl
theorem it_zip {M : Addr → Prop} {B : Gr} {K : PySem.W.Frag} {H : Hp} {a b : Addr} {xs ys : List V} {l m : List PyData} (n : ¬ M a) (e : H a = some (.lst xs)) (h : DtA M H xs l) (n2 : ¬ M b) (e2 : H b = some (.lst ys)) (h2 : DtA M H ys m) : ItOk M B H (Itz K a b) (zipD l m) := fun M2 H2 g2 k i => by
  have ea := (k _ _ n e).2
  have eb := (k _ _ n2 e2).2
  rw [zipD_len]
  refine ⟨fun hi => ⟨xs, ys, SqL.of ea, SqL.of eb, by rw [h.length, h2.length]; omega⟩, fun hi => ?_⟩
  have l1 : i < l.length := by omega
  have l2 : i < m.length := by omega
  obtain ⟨v, hv, r⟩ := DtA.get i h (List.getElem?_eq_getElem l1)
  obtain ⟨u, hu, r2⟩ := DtA.get i h2 (List.getElem?_eq_getElem l2)
  refine ⟨⟨xs, ys, v, u, SqL.of ea, SqL.of eb, hv, hu⟩, fun x H3 ⟨T, x', y', ex, hT, eH, f1, f2⟩ => ?_⟩
  have q1 := f1 xs (SqL.of ea)
  rw [hv] at q1
  cases q1
  have q2 := f2 ys (SqL.of eb)
  rw [hu] at q2
  cases q2
  subst ex eH
  exact ⟨g2.new hT, Keep.new hT, _, zipD_at (List.getElem?_eq_getElem l1) (List.getElem?_eq_getElem l2), Dt.newT g2 hT (.cons (r.map k) (.cons (r2.map k) .nil))⟩
theorem it_zipT {M : Addr → Prop} {B : Gr} {K : PySem.W.Frag} {H : Hp} {a b : Addr} {xs ys : List V} {l m : List PyData} (n : ¬ M a) (e : H a = some (.tup xs)) (h : DtA M H xs l) (n2 : ¬ M b) (e2 : H b = some (.tup ys)) (h2 : DtA M H ys m) : ItOk M B H (RZ.ItzT K a b) (zipD l m) := fun M2 H2 g2 k i => by
  have ea := (k _ _ n e).2
  have eb := (k _ _ n2 e2).2
  rw [zipD_len]
  refine ⟨fun hi => ⟨xs, ys, SqT.of ea, SqT.of eb, by rw [h.length, h2.length]; omega⟩, fun hi => ?_⟩
  have l1 : i < l.length := by omega
  have l2 : i < m.length := by omega
  obtain ⟨v, hv, r⟩ := DtA.get i h (List.getElem?_eq_getElem l1)
  obtain ⟨u, hu, r2⟩ := DtA.get i h2 (List.getElem?_eq_getElem l2)
  refine ⟨⟨xs, ys, v, u, SqT.of ea, SqT.of eb, hv, hu⟩, fun x H3 ⟨T, x', y', ex, hT, eH, f1, f2⟩ => ?_⟩
  have q1 := f1 xs (SqT.of ea)
  rw [hv] at q1
  cases q1
  have q2 := f2 ys (SqT.of eb)
  rw [hu] at q2
  cases q2
  subst ex eH
  exact ⟨g2.new hT, Keep.new hT, _, zipD_at (List.getElem?_eq_getElem l1) (List.getElem?_eq_getElem l2), Dt.newT g2 hT (.cons (r.map k) (.cons (r2.map k) .nil))⟩
def diZip (t : TDL) : TDL := fun ds Q => t ds fun l => match l with
  | [.list a, .list b] => dSize a.length ∧ Q (zipD a b)
  | [.tuple a, .tuple b] => dSize a.length ∧ Q (zipD a b)
  | _ => False
theorem di_zip (K : PySem.W.Frag) {X : Cx} {B : Gr} {e e2 : Expr} {ta : TA} {p pos tpos : Pos} {elts : List Expr} {kk : Nat} {l : TDL} (hg : Gl X "zip") (hm : X.mg "zip" = none) (ha : PDL X B [e, e2] ta l)
    (hs : starEach [e, e2] X.env = (false, eval e X.env) :: starEach [e2] X.env := by rfl) (hpl : (backTo pos (starEach [e2] X.env)).any (·.1) = false := by rfl) (hK : X.K = K := by rfl) :
    PDI X B (.Tuple elts kk tpos) (.Call (.Name "zip" p) [e, e2] [] pos) (RZ.iZipA K ta) (diZip l) := by
  subst hK
  refine ⟨RZ.pi_zipA hg hm ha.pa hs hpl, fun M σ H ds Q R g en q c => ha.sl M σ H ds _ _ g en q fun vs H1 l' g1 k1 hl q1 => ?_⟩
  split at q1
  · cases hl with
    | cons h1 t1 => cases t1 with
      | cons h2 t2 =>
        cases t2
        cases h1 with
        | lst n e a =>
          cases h2 with
          | lst n2 e2 a2 => exact ⟨_, _, _, _, rfl, .inl ⟨SqL.of e, SqL.of e2, c _ H1 _ g1 k1 (it_zip n e a n2 e2 a2) (by rw [zipD_len]; exact Nat.le_trans (Nat.min_le_left _ _) q1.1.le) q1.2⟩⟩
  · cases hl with
    | cons h1 t1 => cases t1 with
      | cons h2 t2 =>
        cases t2
        cases h1 with
        | tup n e a =>
          cases h2 with
          | tup n2 e2 a2 => exact ⟨_, _, _, _, rfl, .inr ⟨SqT.of e, SqT.of e2, c _ H1 _ g1 k1 (it_zipT n e a n2 e2 a2) (by rw [zipD_len]; exact Nat.le_trans (Nat.min_le_left _ _) q1.1.le) q1.2⟩⟩
  · exact q1.elim
def enumD (l : List PyData) : List PyData := zipD (rangeD 0 l.length) l
theorem rangeD_at {lo : Int} {n i : Nat} (h : i < n) : (rangeD lo n)[i]? = some (.int (lo + (i : Int))) := by
  unfold rangeD
  rw [List.getElem?_map, List.getElem?_range h]
  rfl
theorem enumD_at {l : List PyData} {i : Nat} {x : PyData} (h : l[i]? = some x) : (enumD l)[i]? = some (.tuple [.int i, x]) := by
  have hi := (List.getElem?_eq_some_iff.mp h).1
  have := zipD_at (rangeD_at (lo := 0) hi) h
  rw [Int.zero_add] at this
  exact this
theorem enumD_len (l : List PyData) : (enumD l).length = l.length := by
  unfold enumD
  rw [zipD_len, rangeD_len, Nat.min_self]
/-! ### loops by places, comprehensions by a map -/
theorem forW_at {g : TDG} {b : TDS} {DD : DEnds} {l : List PyData} (I : Nat → DEnv → Prop) (turn : ∀ (i : Nat) (x : PyData) (N : DEnv → Prop) (ds : DEnv), l[i]? = some x → I i ds → (∀ ds', I (i + 1) ds' → N ds') → g x ds fun ds' => b { nx := N, rt := DD.rt, bk := DD.nx, ct := N } ds')
    (fin : ∀ ds, I l.length ds → DD.nx ds) {ds : DEnv} (h : I 0 ds) : forW g b DD l ds := by
  have key : ∀ (r : List PyData) (k : Nat) (ds : DEnv), l.drop k = r → k ≤ l.length → I k ds → forW g b DD r ds := by
    intro r
    induction r with
    | nil =>
      intro k ds hd hk hI
      have : k = l.length := by
        have := List.drop_eq_nil_iff.mp hd
        omega
      subst this
      exact fin ds hI
    | cons x r ih =>
      intro k ds hd hk hI
      have hlt : k < l.length := by
        rcases Nat.lt_or_ge k l.length with z | z
        · exact z
        · rw [List.drop_eq_nil_of_le z] at hd
          cases hd
      have hx : l[k]? = some x := by
        have := congrArg (fun z => z[0]?) hd
        simpa using this
      have hr : l.drop (k + 1) = r := by
        have e := List.drop_eq_getElem_cons hlt
        rw [hd] at e
        injection e with _ e2
        exact e2.symm
      exact turn k x _ ds hx hI fun ds' h' => ih (k + 1) ds' hr hlt h'
  exact key l 0 ds rfl (Nat.zero_le _) h
theorem forW_range {g : TDG} {b : TDS} {DD : DEnds} {lo : Int} {n : Nat} (I : Nat → DEnv → Prop) (turn : ∀ (i : Nat) (N : DEnv → Prop) (ds : DEnv), i < n → I i ds → (∀ ds', I (i + 1) ds' → N ds') → g (.int (lo + (i : Int))) ds fun ds' => b { nx := N, rt := DD.rt, bk := DD.nx, ct := N } ds')
    (fin : ∀ ds, I n ds → DD.nx ds) {ds : DEnv} (h : I 0 ds) : forW g b DD (rangeD lo n) ds :=
  forW_at I (fun i x N ds hx hI hN => by
    have hi : i < n := by
      have := (List.getElem?_eq_some_iff.mp hx).1
      rw [rangeD_len] at this
      exact this
    rw [rangeD_at hi] at hx
    cases hx
    exact turn i N ds hi hI hN) (fun ds hI => fin ds (by rw [rangeD_len] at hI; exact hI)) h
theorem lcW_map {g : TDG} {te : TDE} {ds : DEnv} (F : PyData → PyData) : ∀ (l acc : List PyData) (Q : PyData → Prop), (∀ x ∈ l, ∀ (N : PyData → Prop), N (F x) → g x ds fun ds' => te ds' N) → Q (.list (acc ++ l.map F)) → lcW g dYes te ds l acc Q
  | [], acc, Q, _, hq => by
    rw [List.map_nil, List.append_nil] at hq
    exact hq
  | x :: l, acc, Q, h, hq => by
    have e : lcW g dYes te ds (x :: l) acc Q = g x ds fun ds' => (true = true → te ds' fun y => lcW g dYes te ds l (acc ++ [y]) Q) ∧ (true = false → lcW g dYes te ds l acc Q) := rfl
    rw [e]
    have e2 : (fun ds' => (true = true → te ds' fun y => lcW g dYes te ds l (acc ++ [y]) Q) ∧ (true = false → lcW g dYes te ds l acc Q)) = fun ds' => te ds' fun y => lcW g dYes te ds l (acc ++ [y]) Q := by
      funext ds'
      simp
    rw [e2]
    refine h x (List.mem_cons_self ..) _ (lcW_map F l (acc ++ [F x]) Q (fun z hz => h z (List.mem_cons_of_mem _ hz)) ?_)
    rw [List.append_assoc]
    exact hq
/-- with a test -/
theorem lcW_filter {g : TDG} {tt : TDT} {te : TDE} {ds : DEnv} (p : PyData → Bool) (F : PyData → PyData) : ∀ (l acc : List PyData) (Q : PyData → Prop),
    (∀ x ∈ l, ∀ (N1 N2 : Prop) (N : PyData → Prop), (p x = true → N (F x)) → (p x = false → N2) → g x ds fun ds' => tt ds' fun b => (b = true → te ds' N) ∧ (b = false → N2)) → Q (.list (acc ++ (l.filter p).map F)) → lcW g tt te ds l acc Q
  | [], acc, Q, _, hq => by
    rw [List.filter_nil, List.map_nil, List.append_nil] at hq
    exact hq
  | x :: l, acc, Q, h, hq => by
    have e : lcW g tt te ds (x :: l) acc Q = g x ds fun ds' => tt ds' fun b => (b = true → te ds' fun y => lcW g tt te ds l (acc ++ [y]) Q) ∧ (b = false → lcW g tt te ds l acc Q) := rfl
    rw [e]
    have hl := fun z hz => h z (List.mem_cons_of_mem x hz)
    refine h x (List.mem_cons_self ..) True _ _ (fun hp => ?_) fun hp => ?_
    · refine lcW_filter p F l (acc ++ [F x]) Q hl ?_
      rw [List.filter_cons_of_pos hp, List.map_cons] at hq
      rw [List.append_assoc]
      exact hq
    · refine lcW_filter p F l acc Q hl ?_
      rw [List.filter_cons_of_neg (by rw [hp]; exact Bool.false_ne_true)] at hq
      exact hq
theorem lt_big2 {m : Int} (h : m < 10 ^ 200) : m < 2 ^ 1000 := by
  have e : ((2 : Int) ^ 1000) = (((2 : Nat) ^ 1000 : Nat) : Int) := by rfl
  have e1 : (10 : Int) ^ 200 = ((10 ^ 200 : Nat) : Int) := by rfl
  have l : (10 : Nat) ^ 200 < 2 ^ 1000 := by decide +kernel
  rw [e]
  rw [e1] at h
  generalize (2 : Nat) ^ 1000 = b at *
  generalize (10 : Nat) ^ 200 = a at *
  omega
/-- the greatest of some -/
def IsMax (ns : List Int) (m : Int) : Prop := m ∈ ns ∧ ∀ y ∈ ns, y ≤ m
theorem IsMax.uniq {ns : List Int} {a b : Int} (h : IsMax ns a) (g : IsMax ns b) : a = b := Int.le_antisymm (g.2 a h.1) (h.2 b g.1)

theorem dg_tup2 (K : PySem.W.Frag) {X : Cx} {B : Gr} {x y : Str} {p1 p2 pos : Pos} {k : Nat} (i j : Nat) (hc : X.calm = true) (hN : X.N.Nodup) (hi : X.N[i]? = some x) (hj : X.N[j]? = some y) (hx : Loc X.env.scope x) (hy : Loc X.env.scope y)
    (hf : X.fn x = true ∨ X.env.scope.names.lookup x = some .local) (hf2 : X.fn y = true ∨ X.env.scope.names.lookup y = some .local) (hK : X.K = K := by rfl) :
    PDG X B (.Tuple [.Name x p1, .Name y p2] k pos) ([i] ++ ([j] ++ [])) (gTup K 2 (gCons (gName i) (gCons (gName j) gNil))) (dgTup 2 (dgCons (dgName i) (dgCons (dgName j) dgNil))) := by
  subst hK
  exact dg_tup hc (dgs_consA (dg_name hN hi hx hf) (dgs_consA (dg_name hN hj hy hf2) dgs_nil))
end DL
namespace DL
open PySem PySem.Spec L2 PyProof.Rows
/-! ### methods, makings and properties where nothing guards a repr -/
def tMethG (C : Addr) (m : Str) (sp : Sp) (ta : TE) (t : TA) : TE := fun σ H Q => ta σ H fun x H1 => ∃ a dx fs, x = .ref a ∧ H1 a = some (.ins C dx fs) ∧ fs.lookup m = none ∧ t σ H1 fun vs H2 => sp (x :: vs) H2 Q E0
def tMakeG (C : Addr) (sp : Sp) (t : TA) : TE := fun σ H Q => t σ H fun vs H1 => ∀ x dx, H1 x = none → H1 dx = none → dx ≠ x → sp (.ref x :: vs) (upd (upd H1 dx (.own x)) x (.ins C dx [])) (fun v H2 => v = .non ∧ Q (.ref x) H2) E0
def tPropG (C : Addr) (sp : Sp) (ta : TE) : TE := fun σ H Q => ta σ H fun x H1 => ∃ a dx fs, x = .ref a ∧ H1 a = some (.ins C dx fs) ∧ sp [.ref a] H1 Q E0
section
variable {X : Cx} {k : Nat} {f C g : Addr} {fd : FuncData} {ps : List Str} {sp : Sp} {x m : Str} {p pos apos : Pos} {e o : Expr} {es : List Expr} {ta : TE} {t : TA}
/-- how many are handed in -/
theorem FnG.args {vs : List V} {us : List Value} {H : Hp} {Q : VK} (F : FnG X.prog X.w X.K X.mg X.base k f fd ps sp) (h : sp vs H Q E0) (r : Vals vs us) : us.length = ps.length := (r.length.symm).trans (F.len _ _ _ _ h)
/-- the method's own call behind its receiver and its arguments -/
abbrev CallForm (o : Expr) (m : Str) (apos pos : Pos) (as : List Expr) (env : Env) (pl : Sem Bool) : Prop :=
  eval (.Call (.Attribute o m apos) as [] pos) env = (do
    let r ← eval o env
    standAt apos.atName
    let b ← holding [r] (getMethod r m pl)
    callWith pos b.1 b.2 (backTo pos (starEach as env)) (backToKw pos (keywordEach [] env)))
theorem pe_methG {pl : Sem Bool} (he : PE X o ta) (c : Cls X.K C) (hm : Meth X.K C m f) (F : FnG X.prog X.w X.K X.mg X.base k f fd ps sp) (hG : X.A.guards = some []) (hr : Room k X.A) (hb : Binds X.K fd ps []) (ha : PA X (e :: es) t)
    (hst : starEach (e :: es) X.env = (false, eval e X.env) :: starEach es X.env := by rfl) (hpl : (backTo pos (starEach es X.env)).any (·.1) = false := by rfl)
    (ht : CallForm o m apos pos (e :: es) X.env pl := by rfl) :
    PE X (.Call (.Attribute o m apos) (e :: es) [] pos) (tMethG C m sp ta t) := by
  constructor
  intro pins s σ H Q I h
  apply PySem.W.methodCall_KW (pl := pl) _ ht
  refine thn (he.run pins s σ H _ I h) ?_
  rintro u s1 ⟨x, H1, I1, rx, a, dx, fs, rfl, ea, l, hq⟩
  cases rx
  apply getmeth_ok I1 ea c hm l
  apply PySem.W.callWith_K (first := [.ref a]) (h₀ := X.base) I.ok.mod.kin hm.kp _ hst hpl
  refine thn (ha.run pos pins s1 σ H1 _ I1 hq) ?_
  rintro us s2 ⟨vs, H2, I2, r, hq2⟩
  exact ⟨I2.kIn, run_fnG (us := .ref a :: us) (vs := .ref a :: vs) F hG hr hb I2 (.cons rfl r) hq2⟩
theorem pe_methG0 {pl : Sem Bool} (he : PE X o ta) (c : Cls X.K C) (hm : Meth X.K C m f) (F : FnG X.prog X.w X.K X.mg X.base k f fd ps sp) (hG : X.A.guards = some []) (hr : Room k X.A) (hb : Binds X.K fd ps [])
    (ht : CallForm o m apos pos [] X.env pl := by rfl) : PE X (.Call (.Attribute o m apos) [] [] pos) (tMethG C m sp ta tNil) := by
  constructor
  intro pins s σ H Q I h
  apply PySem.W.methodCall_KW (pl := pl) _ ht
  refine thn (he.run pins s σ H _ I h) ?_
  rintro u s1 ⟨x, H1, I1, rx, a, dx, fs, rfl, ea, l, hq⟩
  cases rx
  apply getmeth_ok I1 ea c hm l
  have go := run_fnG (us := [.ref a]) (vs := [.ref a]) F hG hr hb I1 (.cons rfl .nil) hq
  exact PySem.W.callWith_K0 (first := [.ref a]) I1.kIn hm.kp go
/-- a new instance, then its __init__ -/
theorem made_G {pins : List (Addr × Obj)} {σ : L2.St} {H : Hp} {s : Shared} {Q : VK} {us : List Value} {vs : List V} (M : Mk X.K C f) (F : FnG X.prog X.w X.K X.mg X.base k f fd ps sp) (hG : X.A.guards = some []) (hr : Room (k + 1) X.A) (hb : Binds X.K fd ps [])
    (I : Inv X pins σ H s) (r : Vals vs us) (h : ∀ y dx, H y = none → H dx = none → dx ≠ y → sp (.ref y :: vs) (upd (upd H dx (.own y)) y (.ins C dx [])) (fun v H2 => v = .non ∧ Q (.ref y) H2) E0) :
    wpAny (model X.prog X.w) X.A (call (.ref C) us) (EP X pins σ Q) X.xe s := by
  obtain ⟨n, hn⟩ : ∃ n, n = s.heap.objs.size := ⟨_, rfl⟩
  have want := h (n + 1) n (by rw [hn]; exact I.hok.fresh (Nat.le_succ _)) (by rw [hn]; exact I.hok.fresh (Nat.le_refl _)) (Nat.ne_of_lt (Nat.lt_succ_self n))
  subst hn
  have J := Inv.made (C := C) I
  have rr : Vals (V.ref (s.heap.objs.size + 1) :: vs) (Value.ref (s.heap.objs.size + 1) :: us) := .cons rfl r
  have bind := hb _ (Value.ref (s.heap.objs.size + 1) :: us) J.kIn (by rw [List.append_nil]; exact F.args want rr)
  rw [List.append_nil] at bind
  have body := F.run (X.A.under (.builtin "type.__call__" ⟨.ref C :: us, []⟩)) X.stack _ _ ⟨_, []⟩ _ _ _ hG (hr.make C us []) (J.env0.make C us []) bind rr want
  apply wpAny_call
  refine make_map (f := f) I.kIn M.makes M.init (beq_iff_eq.mp M.fn) (codeAny_mono body ?_)
  rintro (er | fl) s' z
  · exact z.elim
  · cases fl <;> first | exact False.elim z | skip
    obtain ⟨v, H', I3, rv, rfl, q3⟩ := J.after z
    exact ⟨rv, V.ref (s.heap.objs.size + 1), H', I3, rfl, q3⟩
theorem pe_makeG (M : Mk X.K C f) (F : FnG X.prog X.w X.K X.mg X.base k f fd ps sp) (hG : X.A.guards = some []) (hr : Room (k + 1) X.A) (hb : Binds X.K fd ps []) (hm : X.mg x = some (.ref C)) (hg : Gl X x)
    (ha : PA X (e :: es) t) (hdb : (x == ("__debug__" : Str)) = false := by decide) (he : starEach (e :: es) X.env = (false, eval e X.env) :: starEach es X.env := by rfl) (hpl : (backTo pos (starEach es X.env)).any (·.1) = false := by rfl) :
    PE X (.Call (.Name x p) (e :: es) [] pos) (tMakeG C sp t) := by
  constructor
  intro pins s σ H Q I h
  apply wpAny_Call_Name_kw
  apply ld_glob I hg hm _ hdb
  apply PySem.W.callWith_K (h₀ := X.base) I.ok.mod.kin M.kp _ he hpl
  refine thn (ha.run pos pins s σ H _ I h) ?_
  rintro us s1 ⟨vs, H1, I1, r, hq⟩
  exact ⟨I1.kIn, made_G M F hG hr hb I1 r hq⟩
theorem pe_propG {pr : Addr} {nm : Str} (he : PE X e ta) (c : Cls X.K C) (hp : PropOf X.K C nm pr g) (F : FnG X.prog X.w X.K X.mg X.base k g fd ps sp) (hG : X.A.guards = some []) (hr : Room (k + 1) X.A) (hb : Binds X.K fd ps [])
    (hab : attributeBase e nm X.env (eval e X.env) = eval e X.env := by rfl) : PE X (.Attribute e nm pos) (tPropG C sp ta) := by
  constructor
  intro pins s σ H Q I h
  refine attr_of hab (thn (he.run pins s σ H _ I h) ?_)
  rintro u s1 ⟨x, H1, I1, rx, a, dx, fs, rfl, ea, hq⟩
  cases rx
  obtain ⟨_, O, -⟩ := ins_get I1.hok ea
  obtain ⟨_, J, -⟩ := O.look
  obtain ⟨rest, hrec⟩ := hp.rec_
  obtain ⟨cd, isc, -⟩ := PySem.W.any_some c.hd
  have plain := PySem.W.plainGet_of (c.get nm)
  have J2 := I1.tok (s1.toks + 1)
  have one : Vals [V.ref a] [Value.ref a] := .cons rfl .nil
  have bind := hb _ [.ref a] J2.kIn (by rw [List.append_nil]; exact F.args hq one)
  rw [List.append_nil] at bind
  have body := F.run X.A.in1 X.stack _ H1 ⟨[.ref a], []⟩ _ _ Q hG hr.in1 J2.env0.in1 bind one hq
  refine PySem.W.get_bind I1.kIn J plain.1 (PySem.W.findObj_data (by rw [isc]; rfl) hp.at_ hp.get hp.tak) plain.2 (wpAny_call (PySem.W.prop_get (s := { s1 with toks := s1.toks + 1 }) I1.kIn hrec (codeAny_mono body ?_)))
  rintro (er | fl) s' z
  · exact False.elim z
  · cases fl <;> first | exact False.elim z | skip
    rename_i u
    obtain ⟨v, H', I3, rv, q3⟩ := J2.after z
    show wpAny _ _ (handedOut u) _ _ _
    rw [PySem.W.handedOut_of (handed_of rv)]
    exact wpAny_pure ⟨v, H', I3, rv, q3⟩
end
end DL
namespace DL
open PySem L2 PyProof.Rows
/-! ### boards as data: fields, methods, the property, the making -/
theorem ne_ts : (("_terms" : Str) == ("_size" : Str)) = false := by decide +kernel
theorem lk_size {v u : V} : ([(("_size" : Str), v), (("_terms" : Str), u)] : List (Str × V)).lookup ("_size" : Str) = some v := by
  simp [List.lookup]
theorem lk_terms {v u : V} : ([(("_size" : Str), v), (("_terms" : Str), u)] : List (Str × V)).lookup ("_terms" : Str) = some u := by
  simp [List.lookup, ne_ts]
theorem lk_no {v u : V} {m : Str} (h : (m == ("_size" : Str)) = false) (h2 : (m == ("_terms" : Str)) = false) : ([(("_size" : Str), v), (("_terms" : Str), u)] : List (Str × V)).lookup m = none := by
  simp [List.lookup, h, h2]
def dFldS (C : Addr) (t : TDE) : TDE := fun ds Q => t ds fun d => ∃ n l, d = brdD C n l ∧ Q (.int n)
def dFldT (C : Addr) (t : TDE) : TDE := fun ds Q => t ds fun d => ∃ n l, d = brdD C n l ∧ Q (.list l)
def dMeth (C : Addr) (R : DR) (t : TDE) (ta : TDA) : TDE := fun ds Q => t ds fun d => ∃ n l, d = brdD C n l ∧ ta ds fun xs => R (.dat (brdD C n l) :: xs) Q
def dProp (C : Addr) (R : DR) (t : TDE) : TDE := fun ds Q => t ds fun d => ∃ n l, d = brdD C n l ∧ R [.dat (brdD C n l)] Q
section
variable {X : Cx} {B : Gr} {k : Nat} {f C : Addr} {fd : FuncData} {ps : List Str} {R : DR} {x m : Str} {p pos apos : Pos} {e o : Expr} {es : List Expr} {te : TE} {t : TA} {d : TDE} {da : TDA}
theorem d_fldS (K : PySem.W.Frag) (cl : Cls K C) (na : NoAttr K C "_size") (he : PD X B e te d) (hb : attributeBase e "_size" X.env (eval e X.env) = eval e X.env := by rfl) (hK : X.K = K := by rfl) : PD X B (.Attribute e "_size" pos) (tFld K te "_size") (dFldS C d) := by
  subst hK
  refine ⟨pe_fld he.pe hb, fun M σ H ds Q R g en q c => he.se M σ H ds _ _ g en q fun v H1 d1 g1 k1 hd q1 => ?_⟩
  obtain ⟨n, l, rfl, q2⟩ := q1
  cases hd with
  | brd n1 n2 e1 e2 n3 e3 a => exact ⟨_, C, _, _, _, rfl, e1, cl, na, lk_size, c _ H1 _ g1 k1 (.int _) q2⟩
theorem d_fldT (K : PySem.W.Frag) (cl : Cls K C) (na : NoAttr K C "_terms") (he : PD X B e te d) (hb : attributeBase e "_terms" X.env (eval e X.env) = eval e X.env := by rfl) (hK : X.K = K := by rfl) : PD X B (.Attribute e "_terms" pos) (tFld K te "_terms") (dFldT C d) := by
  subst hK
  refine ⟨pe_fld he.pe hb, fun M σ H ds Q R g en q c => he.se M σ H ds _ _ g en q fun v H1 d1 g1 k1 hd q1 => ?_⟩
  obtain ⟨n, l, rfl, q2⟩ := q1
  cases hd with
  | brd n1 n2 e1 e2 n3 e3 a => exact ⟨_, C, _, _, _, rfl, e1, cl, na, lk_terms, c _ H1 _ g1 k1 (.lst n3 e3 a) q2⟩
theorem d_meth {pl : Sem Bool} (cl : Cls X.K C) (hm : Meth X.K C m f) (F : FnG X.prog X.w X.K X.mg X.base k f fd ps (spD R)) (hG : X.A.guards = some []) (hr : Room k X.A) (hb : Binds X.K fd ps []) (he : PD X B o te d) (ha : PDA X B (e :: es) t da)
    (h1 : (m == ("_size" : Str)) = false := by decide +kernel) (h2 : (m == ("_terms" : Str)) = false := by decide +kernel)
    (hst : starEach (e :: es) X.env = (false, eval e X.env) :: starEach es X.env := by rfl) (hpl : (backTo pos (starEach es X.env)).any (·.1) = false := by rfl)
    (ht : CallForm o m apos pos (e :: es) X.env pl := by rfl) :
    PD X B (.Call (.Attribute o m apos) (e :: es) [] pos) (tMethG C m (spD R) te t) (dMeth C R d da) :=
  ⟨pe_methG (pl := pl) he.pe cl hm F hG hr hb ha.pa hst hpl ht, fun M σ H ds Q W g en q c => he.se M σ H ds _ _ g en q fun v H1 d1 g1 k1 hd q1 => by
    obtain ⟨n, l, rfl, q2⟩ := q1
    have hd' := hd
    cases hd with
    | brd n1 n2 e1 e2 n3 e3 a =>
      refine ⟨_, _, _, rfl, e1, lk_no h1 h2, ha.sa M σ H1 ds _ _ g1 (en.keep g.1 k1) q2 fun vs H2 xs g2 k2 a2 q3 => ?_⟩
      exact ⟨M, B, _, Q, .cons (.dat (hd'.keep g1.1 k2)) trivial a2, g2, q3, c.keep (k1.trans k2)⟩⟩
theorem d_meth0 {pl : Sem Bool} (cl : Cls X.K C) (hm : Meth X.K C m f) (F : FnG X.prog X.w X.K X.mg X.base k f fd ps (spD R)) (hG : X.A.guards = some []) (hr : Room k X.A) (hb : Binds X.K fd ps []) (he : PD X B o te d)
    (h1 : (m == ("_size" : Str)) = false := by decide +kernel) (h2 : (m == ("_terms" : Str)) = false := by decide +kernel)
    (ht : CallForm o m apos pos [] X.env pl := by rfl) :
    PD X B (.Call (.Attribute o m apos) [] [] pos) (tMethG C m (spD R) te tNil) (dProp C R d) :=
  ⟨pe_methG0 (pl := pl) he.pe cl hm F hG hr hb ht, fun M σ H ds Q W g en q c => he.se M σ H ds _ _ g en q fun v H1 d1 g1 k1 hd q1 => by
    obtain ⟨n, l, rfl, q2⟩ := q1
    have hd' := hd
    cases hd with
    | brd n1 n2 e1 e2 n3 e3 a => exact ⟨_, _, _, rfl, e1, lk_no h1 h2, M, B, _, Q, .cons (.dat hd') trivial .nil, g1, q2, c.keep k1⟩⟩
theorem d_prop {pr : Addr} {nm : Str} (cl : Cls X.K C) (hp : PropOf X.K C nm pr f) (F : FnG X.prog X.w X.K X.mg X.base k f fd ps (spD R)) (hG : X.A.guards = some []) (hr : Room (k + 1) X.A) (hb : Binds X.K fd ps []) (he : PD X B e te d)
    (hab : attributeBase e nm X.env (eval e X.env) = eval e X.env := by rfl) : PD X B (.Attribute e nm pos) (tPropG C (spD R) te) (dProp C R d) :=
  ⟨pe_propG he.pe cl hp F hG hr hb hab, fun M σ H ds Q W g en q c => he.se M σ H ds _ _ g en q fun v H1 d1 g1 k1 hd q1 => by
    obtain ⟨n, l, rfl, q2⟩ := q1
    have hd' := hd
    cases hd with
    | brd n1 n2 e1 e2 n3 e3 a => exact ⟨_, _, _, rfl, e1, M, B, _, Q, .cons (.dat hd') trivial .nil, g1, q2, c.keep k1⟩⟩
/-- what __init__ promises of a size and a list of terms that a board may have -/
def spInit (C : Addr) (ok : Int → List PyData → Prop) : Sp := fun vs H Q _ => ∃ (M : Addr → Prop) (B : Gr) (x dx : Addr) (vt : V) (n : Int) (l : List PyData), vs = [.ref x, .int n, vt] ∧ Good M B H ∧ (B.H0 x = none ∧ B.H1 x = none) ∧ ¬ M x ∧ ¬ M dx ∧ x ≠ dx ∧ H x = some (.ins C dx []) ∧ H dx = some (.own x) ∧ Dt M H vt (.list l) ∧ ok n l ∧
  ∀ a xs H', Good M B H' → (∀ (b : Addr) o, b ≠ B.a → b ≠ x → H b = some o → H' b = some o) → (∀ q, bagq B.a H = some q → bagq B.a H' = some q) → H' x = some (.ins C dx [("_size", .int n), ("_terms", .ref a)]) → ¬ M a → H' a = some (.lst xs) → DtA M H' xs l → Q .non H'
def dMake (C : Addr) (ok : Int → List PyData → Prop) (t : TDL) : TDE := fun ds Q => t ds fun l => match l with
  | [.int n, .list ts] => ok n ts ∧ Q (brdD C n ts)
  | _ => False
theorem d_make {ok : Int → List PyData → Prop} {l : TDL} (Mk' : Mk X.K C f) (F : FnG X.prog X.w X.K X.mg X.base k f fd ps (spInit C ok)) (hG : X.A.guards = some []) (hr : Room (k + 1) X.A) (hb : Binds X.K fd ps []) (hm : X.mg x = some (.ref C)) (hg : Gl X x)
    (ha : PDL X B (e :: es) t l) (hdb : (x == ("__debug__" : Str)) = false := by decide) (he : starEach (e :: es) X.env = (false, eval e X.env) :: starEach es X.env := by rfl) (hpl : (backTo pos (starEach es X.env)).any (·.1) = false := by rfl) :
    PD X B (.Call (.Name x p) (e :: es) [] pos) (tMakeG C (spInit C ok) t) (dMake C ok l) :=
  ⟨pe_makeG Mk' F hG hr hb hm hg ha.pa hdb he hpl, fun M σ H ds Q W g en q c => ha.sl M σ H ds _ _ g en q fun vs H1 l' g1 k1 hl q1 => by
    split at q1
    · rename_i n ts
      cases hl with
      | cons h1 t1 => cases t1 with
        | cons h2 t2 =>
          cases t2
          cases h1
          intro y dx hy hdx ne
          have gd := g1.new (o := .own y) hdx
          have hy2 : (upd H1 dx (.own y)) y = none := by rw [upd_ne ne.symm]; exact hy
          have gy := gd.new (o := .ins C dx []) hy2
          have ks : Keep M B H1 (upd (upd H1 dx (.own y)) y (.ins C dx [])) := (Keep.new hdx).trans (Keep.new hy2)
          have ny : ¬ M y := g1.ne hy
          have nd : ¬ M dx := g1.ne hdx
          have yB : y ≠ B := fun z => ny (by rw [z]; exact g1.1)
          refine ⟨M, B, y, dx, _, n, ts, rfl, gy, ⟨gd.fresh0 hy2, gd.fresh1 hy2⟩, ny, nd, ne.symm, upd_same, by rw [upd_ne ne]; exact upd_same, h2.keep g1.1 ks, q1.1, fun a xs H' g' kp kq e1 n3 e3 hx => ⟨rfl, ?_⟩⟩
          refine c _ H' _ g' (k1.trans ⟨fun b o nb hb => ?_, fun q' hq => kq q' (ks.q q' hq)⟩) (.brd ny nd e1 ?_ n3 e3 hx) q1.2
          · exact kp b o nb (ne_of_none hb hy) (ks.k b o nb hb)
          · refine kp dx _ (fun z => nd (by rw [z]; exact g1.1)) ne ?_
            rw [upd_ne ne]
            exact upd_same
    · exact q1.elim⟩
/-- comprehensions with one test -/
theorem d_lc1 {elt tg iter tst : Expr} {scope : Scope} {own : List (Str × Nat)} {wi : TI} {tt : TG} {tT : TT} {te : TE} {l : TDL} {g : TDG} {t : TDT} {d : TDE} {is : List Nat} (hc : X.calm = true) (hN : X.N.Nodup) (hi : PDI X B tg iter wi l) (ok : BlkOk X.N X.env.scope scope own)
    (hg : ∀ (s : Shared) (H : Hp) (C : Addr) (cl : List (Str × Addr)) (fp : List Addr), PDG (X.blk s H scope (compEnvC scope cl C X.env) fp) B tg is tt g)
    (ht : ∀ (s : Shared) (H : Hp) (C : Addr) (cl : List (Str × Addr)) (fp : List Addr), PDT (X.blk s H scope (compEnvC scope cl C X.env) fp) B tst tT t)
    (he : ∀ (s : Shared) (H : Hp) (C : Addr) (cl : List (Str × Addr)) (fp : List Addr), PD (X.blk s H scope (compEnvC scope cl C X.env) fp) B elt te d)
    (hv : ∀ j ∈ is, j ∈ own.map (·.2)) (hs : ∀ x, foldedSetIterable iter X.env x = pure x := by intro _; rfl) :
    PD X B (.ListComp elt [⟨tg, iter, [tst], 0⟩] scope pos) (tLc wi tt tT te (own.map (·.2))) (dLc l g t d (own.map (·.2))) :=
  d_lc (elt := elt) (ifs := [tst]) (pos := pos) hc hN hi ok hg (fun s H C cl fp => pts_one (ht s H C cl fp).pt) (ht X.s_0 X.H_0 0 [] []).st he hv hs
theorem ds_setLc1 {i : Nat} {y : Str} {py : Pos} {elt tg iter tst : Expr} {scope : Scope} {own : List (Str × Nat)} {spos : Pos} {wi : TI} {tt : TG} {tT : TT} {te : TE} {l : TDL} {g : TDG} {t : TDT} {d : TDE} {is : List Nat} (hc : X.calm = true) (hN : X.N.Nodup) (hy : X.N[i]? = some y) (hyl : X.env.scope.names.lookup y = some .local)
    (hsw : swapsWith (.ListComp elt [⟨tg, iter, [tst], 0⟩] scope pos) (some (.Name y py)) spos.line X.env = pure true) (hi : PDI X B tg iter wi l) (ok : BlkOk X.N X.env.scope scope own)
    (hg : ∀ (s : Shared) (H : Hp) (C : Addr) (cl : List (Str × Addr)) (fp : List Addr), PDG (X.blk s H scope (compEnvC scope cl C X.env) fp) B tg is tt g)
    (ht : ∀ (s : Shared) (H : Hp) (C : Addr) (cl : List (Str × Addr)) (fp : List Addr), PDT (X.blk s H scope (compEnvC scope cl C X.env) fp) B tst tT t)
    (he : ∀ (s : Shared) (H : Hp) (C : Addr) (cl : List (Str × Addr)) (fp : List Addr), PD (X.blk s H scope (compEnvC scope cl C X.env) fp) B elt te d)
    (hv : ∀ j ∈ is, j ∈ own.map (·.2)) (hs : ∀ x, foldedSetIterable iter X.env x = pure x := by intro _; rfl) :
    PDS X B (.Assign [.Name y py] (.ListComp elt [⟨tg, iter, [tst], 0⟩] scope pos) spos) (tAsg (tLc wi tt tT te (own.map (·.2))) (gName i)) (sAsg (dLc l g t d (own.map (·.2))) (dgName i)) :=
  ds_setLc hc hN hy hyl hsw hi ok hg (fun s H C cl fp => pts_one (ht s H C cl fp).pt) (ht X.s_0 X.H_0 0 [] []).st he hv hs
end
end DL
namespace DL
open PySem L2 PyProof.Rows
/-! ### enumerate; what is never reached; the table of lengths -/
theorem it_enum {M : Addr → Prop} {B : Gr} {K : PySem.W.Frag} {H : Hp} {a : Addr} {xs : List V} {l : List PyData} (n : ¬ M a) (e : H a = some (.lst xs)) (h : DtA M H xs l) : ItOk M B H (Ite K a) (enumD l) := fun M2 H2 g2 k i => by
  have ea := (k _ _ n e).2
  rw [enumD_len]
  refine ⟨fun hi => ⟨xs, SqL.of ea, by rw [h.length]; omega⟩, fun hi => ?_⟩
  obtain ⟨v, hv, r⟩ := DtA.get i h (List.getElem?_eq_getElem hi)
  refine ⟨⟨xs, v, SqL.of ea, hv⟩, fun x H3 ⟨T, y, ex, hT, eH, f1⟩ => ?_⟩
  have q1 := f1 xs (SqL.of ea)
  rw [hv] at q1
  cases q1
  subst ex eH
  exact ⟨g2.new hT, Keep.new hT, _, enumD_at (List.getElem?_eq_getElem hi), Dt.newT g2 hT (.cons (.int _) (.cons (r.map k) .nil))⟩
def diEnum (t : TDL) : TDL := fun ds Q => t ds fun l => match l with
  | [.list a] => dSize a.length ∧ Q (enumD a)
  | _ => False
section
variable {X : Cx} {B : Gr} {a : Expr} {ta : TE} {da : TDE} {p pos : Pos}
theorem di_enum (K : PySem.W.Frag) {e : Expr} {ta : TA} {tpos : Pos} {elts : List Expr} {kk : Nat} {l : TDL} (hg : Gl X "enumerate") (hm : X.mg "enumerate" = none) (ha : PDL X B [e] ta l)
    (hs : starEach [e] X.env = (false, eval e X.env) :: starEach [] X.env := by rfl) (hK : X.K = K := by rfl) :
    PDI X B (.Tuple elts kk tpos) (.Call (.Name "enumerate" p) [e] [] pos) (iEnum K ta) (diEnum l) := by
  subst hK
  refine ⟨pi_enum hg hm ha.pa hs, fun M σ H ds Q R g en q c => ha.sl M σ H ds _ _ g en q fun vs H1 l' g1 k1 hl q1 => ?_⟩
  split at q1
  · cases hl with
    | cons h1 t1 =>
      cases t1
      cases h1 with
      | lst n e a => exact ⟨_, _, rfl, SqL.of e, c _ H1 _ g1 k1 (it_enum n e a) (by rw [enumD_len]; exact q1.1.le) q1.2⟩
  · exact q1.elim
def sNever : TDS := fun _ _ => False
theorem ds_never {st : Stmt} : PDS X B st (fun _ _ _ => False) sNever := ⟨ps_never, fun M σ H ds DD D e o h c => h⟩
namespace Tm
def word : Tm → Str
  | wish .. => "wish"
  | tie .. => "tie"
  | stop .. => "stop"
  | bar .. => "bar"
def dials : Tm → List PyData
  | wish d .. => [.int d]
  | tie d o .. => [.int d, .int o]
  | stop d .. => [.int d]
  | bar d o .. => [.int d, .int o]
/-- its dials are two -/
def Diff : Tm → Prop
  | tie d o .. => d ≠ o
  | bar d o .. => d ≠ o
  | _ => True
structure Good (t : Tm) (n : Nat) : Prop where
  inn : t.In n
  dif : t.Diff
  lh : t.low ≤ t.high
  lo : -(10 ^ 18) ≤ t.low
  hi : t.high ≤ 10 ^ 18
  fr : t.Fr 30
end Tm
/-- at d: the table of how many items a term has -/
structure LenAt (K : PySem.W.Frag) (w : World) (d : Addr) : Prop where
  at_ : ∃ es n, K.lookup d = some ⟨.type "dict", none, .dict es n, #[]⟩ ∧ PySem.W.KeysLit w.params es.toList
  low : (d == sysModules) = false
  wish : ∃ t, PySem.W.nsIn K d "wish" = some (some (.int 5 t))
  tie : ∃ t, PySem.W.nsIn K d "tie" = some (some (.int 6 t))
  stop : ∃ t, PySem.W.nsIn K d "stop" = some (some (.int 4 t))
  bar : ∃ t, PySem.W.nsIn K d "bar" = some (some (.int 5 t))
theorem LenAt.len {K : PySem.W.Frag} {w : World} {d : Addr} (L : LenAt K w d) (t : Tm) : ∃ u, PySem.W.nsIn K d t.word = some (some (.int t.items.length u)) := by
  cases t
  · exact L.wish
  · exact L.tie
  · exact L.stop
  · exact L.bar
def dInLen (t : TDE) : TDE := fun ds Q => t ds fun d => ∃ tm : Tm, d = .str tm.word ∧ Q (.bool true)
def dIxLen (t : TDE) : TDE := fun ds Q => t ds fun d => ∃ tm : Tm, d = .str tm.word ∧ Q (.int tm.items.length)
abbrev rInKd (K : PySem.W.Frag) (d : Addr) : R2 := fun x y H Q => ∃ (z : Str) (r : Option Value), x = .str z ∧ y = .ref d ∧ PySem.W.nsIn K d z = some r ∧ Q (.bl r.isSome) H
theorem d_inLen (K : PySem.W.Frag) {d : Addr} (L : LenAt X.K X.w d) (ha : PD X B a ta da) (hg : Gl X "TERMS") (hm : X.mg "TERMS" = some (.ref d)) (hK : X.K = K := by rfl) (hb : behindInMarks .In (.Name "TERMS" p) = false := by rfl) :
    PD X B (.Compare a [.In] [.Name "TERMS" p] pos) (tOp (rInKd K d) ta (tC (.ref d))) (dInLen da) := by
  subst hK
  obtain ⟨es, n, hl, hk⟩ := L.at_
  refine ⟨pe_cmpR (op_in_kd ⟨hl, hk, L.low⟩) ha.pe (pe_glob hg hm rfl) hb, fun M σ H ds Q R g en q c => ha.se M σ H ds _ _ g en q fun v H1 x g1 k1 hx q1 => ?_⟩
  obtain ⟨tm, rfl, q2⟩ := q1
  cases hx
  obtain ⟨u, e⟩ := L.len tm
  exact ⟨_, _, rfl, rfl, e, c _ H1 _ g1 k1 (.bl true) q2⟩
abbrev rNotInKd (K : PySem.W.Frag) (d : Addr) : R2 := fun x y H Q => ∃ (z : Str) (r : Option Value), x = .str z ∧ y = .ref d ∧ PySem.W.nsIn K d z = some r ∧ Q (.bl (!r.isSome)) H
def dNotInLen (t : TDE) : TDE := fun ds Q => t ds fun d => ∃ tm : Tm, d = .str tm.word ∧ Q (.bool false)
theorem d_notInLen (K : PySem.W.Frag) {d : Addr} (L : LenAt X.K X.w d) (ha : PD X B a ta da) (hg : Gl X "TERMS") (hm : X.mg "TERMS" = some (.ref d)) (hK : X.K = K := by rfl) (hb : behindInMarks .NotIn (.Name "TERMS" p) = false := by rfl) :
    PD X B (.Compare a [.NotIn] [.Name "TERMS" p] pos) (tOp (rNotInKd K d) ta (tC (.ref d))) (dNotInLen da) := by
  subst hK
  obtain ⟨es, n, hl, hk⟩ := L.at_
  refine ⟨pe_cmpR (op_notIn_kd ⟨hl, hk, L.low⟩) ha.pe (pe_glob hg hm rfl) hb, fun M σ H ds Q R g en q c => ha.se M σ H ds _ _ g en q fun v H1 x g1 k1 hx q1 => ?_⟩
  obtain ⟨tm, rfl, q2⟩ := q1
  cases hx
  obtain ⟨u, e⟩ := L.len tm
  exact ⟨_, _, rfl, rfl, e, c _ H1 _ g1 k1 (.bl false) q2⟩
theorem dt_notInLen (K : PySem.W.Frag) {d : Addr} (L : LenAt X.K X.w d) (ha : PD X B a ta da) (hg : Gl X "TERMS") (hm : X.mg "TERMS" = some (.ref d)) (hK : X.K = K := by rfl) (hb : behindInMarks .NotIn (.Name "TERMS" p) = false := by rfl) :
    PDT X B (.Compare a [.NotIn] [.Name "TERMS" p] pos) (tTest (tOp (rNotInKd K d) ta (tC (.ref d)))) (dTest (dNotInLen da)) := by
  have h := d_notInLen (pos := pos) K L ha hg hm hK hb
  subst hK
  obtain ⟨es, n, hl, hk⟩ := L.at_
  exact ⟨pt_cmpR (op_notIn_kd ⟨hl, hk, L.low⟩) ha.pe (pe_glob hg hm rfl) hb, st_test h.se⟩
theorem d_ixLen (K : PySem.W.Frag) {d : Addr} (L : LenAt X.K X.w d) (ha : PD X B a ta da) (hg : Gl X "TERMS") (hm : X.mg "TERMS" = some (.ref d)) (hs : PlainIx a := by exact fun _ _ => rfl) (hK : X.K = K := by rfl) :
    PD X B (.Subscript (.Name "TERMS" p) a pos) (tOp (rIxD K X.w) (tC (.ref d)) ta) (dIxLen da) := by
  subst hK
  obtain ⟨es, n, hl, hk⟩ := L.at_
  refine ⟨pe_ix ix_kdict (pe_glob hg hm rfl) ha.pe hs, fun M σ H ds Q R g en q c => ha.se M σ H ds _ _ g en q fun v H1 x g1 k1 hx q1 => ?_⟩
  obtain ⟨tm, rfl, q2⟩ := q1
  cases hx
  obtain ⟨u, e⟩ := L.len tm
  exact ⟨_, _, .int _, rfl, rfl, ⟨es, n, _, hl, hk, e, ⟨_, rfl⟩⟩, c _ H1 _ g1 k1 (.int _) q2⟩
end
/-- a size and terms that a board may have -/
def BrdOk (n : Int) (l : List PyData) : Prop := 1 ≤ n ∧ n ≤ 8 ∧ l.length ≤ 24 ∧ ∃ ts : List Tm, l = ts.map Tm.py ∧ ∀ t ∈ ts, t.Good n.toNat
/-- a method by its place -/
structure MethAt (K : PySem.W.Frag) (C : Addr) (x qual : Str) (st : Stmt) (ps : List Str) (f : Addr) (fd : FuncData) : Prop where
  fn : Fun K x qual st f fd
  bd : Binds K fd ps []
  me : Meth K C x f
theorem MethAt.mk' {K : PySem.W.Frag} {C : Addr} {x qual : Str} {st : Stmt} {ps : List Str} {f : Addr} {oc : Value} {od an : Option Addr} {osl : Array (Option Value)} {kV doc pm cdv ct : Value}
    (a : PySem.W.findIn K (.ref C) x = some (some (.ref f))) (i : PySem.W.isFn K (.ref f) = true) (l : K.lookup f = some ⟨oc, od, .func (PySem.W.fnOf x qual (defArgs st) (defBody st) (defScope st) .none kV doc pm an cdv ct), osl⟩) (c : PySem.W.codeIn K cdv qual = true) (k : PySem.W.keepIn K (.ref f) = true)
    (b : ∀ us : List Value, us.length = ps.length → bindArgs (PySem.W.fnOf x qual (defArgs st) (defBody st) (defScope st) .none kV doc pm an cdv ct) ⟨us, []⟩ = pure (ps.zip us)) :
    MethAt K C x qual st ps f (PySem.W.fnOf x qual (defArgs st) (defBody st) (defScope st) .none kV doc pm an cdv ct) := ⟨fun_mk l c k, .all b, ⟨a, i, k⟩⟩
end DL
namespace DL
open PySem L2 PyProof.Rows
def ifTest : Stmt → Expr
  | .If c _ _ _ => c
  | _ => .Constant .none 0 ⟨0, 0, 0, 0⟩
theorem init_flds {v u : V} : putF "_terms" u (putF "_size" v []) = ([("_size", v), ("_terms", u)] : List (Str × V)) := by
  show (if ("_size" : Str) = "_terms" then [(("_size" : Str), u)] else (("_size" : Str), v) :: putF "_terms" u []) = ([("_size", v), ("_terms", u)] : List (Str × V))
  rw [if_neg (by decide +kernel)]
  rfl
/-- data does not lean on an instance that is being made -/
theorem Dt.mapX {M M' : Addr → Prop} {H H' : Hp} {x : Addr} (hx : ∃ C dx, H x = some (.ins C dx [])) (k : ∀ a o, a ≠ x → ¬ M a → H a = some o → ¬ M' a ∧ H' a = some o) {v : V} {d : PyData} (h : Dt M H v d) : Dt M' H' v d := by
  obtain ⟨C, dx, hx⟩ := hx
  have nl : ∀ {a : Addr} {xs : List V}, H a = some (.lst xs) → a ≠ x := fun e z => by
    rw [z, hx] at e
    cases e
  have nt : ∀ {a : Addr} {xs : List V}, H a = some (.tup xs) → a ≠ x := fun e z => by
    rw [z, hx] at e
    cases e
  have no : ∀ {a p : Addr}, H a = some (.own p) → a ≠ x := fun e z => by
    rw [z, hx] at e
    cases e
  have ni : ∀ {a c e : Addr} {f : Str × V} {fs : List (Str × V)}, H a = some (.ins c e (f :: fs)) → a ≠ x := fun e z => by
    rw [z, hx] at e
    cases e
  exact Dt.rec (motive_1 := fun v d _ => Dt M' H' v d) (motive_2 := fun vs ds _ => DtA M' H' vs ds) .non (fun b => .bl b) (fun i => .int i) (fun x => .str x)
    (fun n e _ ih => .lst (k _ _ (nl e) n e).1 (k _ _ (nl e) n e).2 ih) (fun n e _ ih => .tup (k _ _ (nt e) n e).1 (k _ _ (nt e) n e).2 ih)
    (fun n n2 e e2 n3 e3 _ ih => .brd (k _ _ (ni e) n e).1 (k _ _ (no e2) n2 e2).1 (k _ _ (ni e) n e).2 (k _ _ (no e2) n2 e2).2 (k _ _ (nl e3) n3 e3).1 (k _ _ (nl e3) n3 e3).2 ih) .nil (fun _ _ ih ih2 => .cons ih ih2) h
theorem DtA.mapX {M M' : Addr → Prop} {H H' : Hp} {x : Addr} (hx : ∃ C dx, H x = some (.ins C dx [])) (k : ∀ a o, a ≠ x → ¬ M a → H a = some o → ¬ M' a ∧ H' a = some o) : ∀ {ds : List PyData} {vs : List V}, DtA M H vs ds → DtA M' H' vs ds
  | [], _, h => by cases h; exact .nil
  | d :: ds, _, h => by
    cases h with
    | cons h1 h2 => exact .cons (h1.mapX hx k) (DtA.mapX hx k h2)
end DL
namespace DL
open PySem L2 PyProof.Rows

theorem lcW_mapOf {α : Type} {g : TDG} {te : TDE} {ds : DEnv} (f F : α → PyData) : ∀ (ts : List α) (acc : List PyData) (Q : PyData → Prop), (∀ t ∈ ts, ∀ (N : PyData → Prop), N (F t) → g (f t) ds fun ds' => te ds' N) → Q (.list (acc ++ ts.map F)) → lcW g dYes te ds (ts.map f) acc Q
  | [], acc, Q, _, hq => by
    rw [List.map_nil, List.append_nil] at hq
    exact hq
  | t :: ts, acc, Q, h, hq => by
    have e : lcW g dYes te ds ((t :: ts).map f) acc Q = g (f t) ds fun ds' => (true = true → te ds' fun y => lcW g dYes te ds (ts.map f) (acc ++ [y]) Q) ∧ (true = false → lcW g dYes te ds (ts.map f) acc Q) := rfl
    rw [e]
    have e2 : (fun ds' => (true = true → te ds' fun y => lcW g dYes te ds (ts.map f) (acc ++ [y]) Q) ∧ (true = false → lcW g dYes te ds (ts.map f) acc Q)) = fun ds' => te ds' fun y => lcW g dYes te ds (ts.map f) (acc ++ [y]) Q := by
      funext ds'
      simp
    rw [e2]
    refine h t (List.mem_cons_self ..) _ (lcW_mapOf f F ts (acc ++ [F t]) Q (fun z hz => h z (List.mem_cons_of_mem _ hz)) ?_)
    rw [List.append_assoc]
    exact hq
theorem lcW_filterOf {α : Type} {g : TDG} {tt : TDT} {te : TDE} {ds : DEnv} (f : α → PyData) (p : α → Bool) (F : α → PyData) : ∀ (ts : List α) (acc : List PyData) (Q : PyData → Prop),
    (∀ t ∈ ts, ∀ (N2 : Prop) (N : PyData → Prop), (p t = true → N (F t)) → (p t = false → N2) → g (f t) ds fun ds' => tt ds' fun b => (b = true → te ds' N) ∧ (b = false → N2)) → Q (.list (acc ++ (ts.filter p).map F)) → lcW g tt te ds (ts.map f) acc Q
  | [], acc, Q, _, hq => by
    rw [List.filter_nil, List.map_nil, List.append_nil] at hq
    exact hq
  | t :: ts, acc, Q, h, hq => by
    have e : lcW g tt te ds ((t :: ts).map f) acc Q = g (f t) ds fun ds' => tt ds' fun b => (b = true → te ds' fun y => lcW g tt te ds (ts.map f) (acc ++ [y]) Q) ∧ (b = false → lcW g tt te ds (ts.map f) acc Q) := rfl
    rw [e]
    have hl := fun z hz => h z (List.mem_cons_of_mem t hz)
    refine h t (List.mem_cons_self ..) _ _ (fun hp => ?_) fun hp => ?_
    · refine lcW_filterOf f p F ts (acc ++ [F t]) Q hl ?_
      rw [List.filter_cons_of_pos hp, List.map_cons] at hq
      rw [List.append_assoc]
      exact hq
    · refine lcW_filterOf f p F ts acc Q hl ?_
      rw [List.filter_cons_of_neg (by rw [hp]; exact Bool.false_ne_true)] at hq
      exact hq
theorem enumD_map {α : Type} {f : α → PyData} {ts : List α} {i : Nat} {x : PyData} (h : (enumD (ts.map f))[i]? = some x) : ∃ t, ts[i]? = some t ∧ x = .tuple [.int i, f t] := by
  have hi := (List.getElem?_eq_some_iff.mp h).1
  rw [enumD_len, List.length_map] at hi
  refine ⟨ts[i], List.getElem?_eq_getElem hi, ?_⟩
  have e := enumD_at (l := ts.map f) (i := i) (x := f ts[i]) (by rw [List.getElem?_map, List.getElem?_eq_getElem hi]; rfl)
  rw [e] at h
  exact (Option.some.inj h).symm
namespace Tm
def force : Tm → Int
  | wish _ _ _ f => f
  | tie _ _ _ _ f => f
  | _ => 0
/-- it is a stop or bar that the standing leaves -/
def gone (t : Tm) (ss : List Int) : Bool := !t.soft && (t.dist (t.arg ss) != 0)
end Tm
/-- the least index of a stop or bar that is left, from k on -/
def leftFrom (ss : List Int) : Nat → List Tm → PyData
  | _, [] => .none
  | k, t :: ts => if t.gone ss then .int k else leftFrom ss (k + 1) ts
def leftV (ts : List Tm) (ss : List Int) : PyData := leftFrom ss 0 ts
def strainFrom (ss : List Int) : Int → List Tm → PyData
  | tot, [] => .int tot
  | tot, t :: ts => if t.gone ss then .none else strainFrom ss (if t.soft then tot + t.force * t.dist (t.arg ss) else tot) ts
def strainV (ts : List Tm) (ss : List Int) : PyData := strainFrom ss 0 ts
def costs (ts : List Tm) (ss : List Int) : List Int := (ts.filter Tm.soft).map fun t => t.force * t.dist (t.arg ss)
theorem strain_left (ss : List Int) : ∀ (ts : List Tm) (k : Nat) (tot : Int), strainFrom ss tot ts = if isNone (leftFrom ss k ts) = true then .int (tot + (costs ts ss).sum) else .none
  | [], k, tot => by simp [strainFrom, leftFrom, isNone, costs]
  | t :: ts, k, tot => by
    unfold strainFrom leftFrom
    by_cases g : t.gone ss = true
    · rw [if_pos g, if_pos g]
      rfl
    · rw [if_neg g, if_neg g, strain_left ss ts (k + 1)]
      cases hs : t.soft with
      | true =>
        have e : (costs (t :: ts) ss).sum = t.force * t.dist (t.arg ss) + (costs ts ss).sum := by
          unfold costs
          rw [List.filter_cons_of_pos hs, List.map_cons, List.sum_cons]
        rw [e, if_pos rfl, Int.add_assoc]
      | false =>
        have e : costs (t :: ts) ss = costs ts ss := by
          unfold costs
          rw [List.filter_cons_of_neg (by rw [hs]; exact Bool.false_ne_true)]
        rw [e, if_neg Bool.false_ne_true]
/-- what a term's strain asks -/
structure Tm.Fair (t : Tm) (n : Nat) : Prop where
  inn : t.In n
  lh : t.low ≤ t.high
  lo : -(10 ^ 20) ≤ t.low
  hi : t.high ≤ 10 ^ 20
  fr : t.Fr 30
theorem Tm.Good.fair {t : Tm} {n : Nat} (g : t.Good n) : t.Fair n := ⟨g.inn, g.lh, by have := g.lo; omega, by have := g.hi; omega, g.fr⟩
/-- a board's terms at a standing: all fair, the settings not too great -/
structure Fine (ts : List Tm) (ss : List Int) : Prop where
  len : ts.length ≤ 24
  good : ∀ t ∈ ts, t.Fair ss.length
  mid : ∀ x ∈ ss, -(10 ^ 60) < x ∧ x < 10 ^ 60
theorem Fine.dist {ts : List Tm} {ss : List Int} (h : Fine ts ss) {t : Tm} (ht : t ∈ ts) : 0 ≤ t.dist (t.arg ss) ∧ t.dist (t.arg ss) < 4 * 10 ^ 60 := by
  have g := h.good t ht
  have a := Tm.arg_mid g.inn h.mid
  have l := g.lh
  have l0 := g.lo
  have l1 := g.hi
  have d := Tm.dist_ge (t := t) (o := t.arg ss) l
  unfold Tm.dist at d ⊢
  split
  · omega
  · split <;> omega
theorem Fine.force {ts : List Tm} {ss : List Int} (h : Fine ts ss) {t : Tm} (ht : t ∈ ts) : 0 ≤ t.force ∧ t.force ≤ 30 := by
  have g := (h.good t ht).fr
  cases t with
  | wish d l u f => exact ⟨by have := g.1; show 0 ≤ f; omega, g.2⟩
  | tie d o l u f => exact ⟨by have := g.1; show 0 ≤ f; omega, g.2⟩
  | stop d l u => exact ⟨by show (0 : Int) ≤ 0; omega, by show (0 : Int) ≤ 30; omega⟩
  | bar d o l u => exact ⟨by show (0 : Int) ≤ 0; omega, by show (0 : Int) ≤ 30; omega⟩
theorem ne0 {i : Int} : (!PyData.eqv (.int i) (.int 0)) = (i != 0) := by
  rw [eqvI]
  rfl
def leftR (C : Addr) : DR := fun xs Q => ∃ n ts ss, xs = [.dat (brdD C n (ts.map Tm.py)), .dat (.tuple (ss.map .int))] ∧ Fine ts ss ∧ Q (leftV ts ss)
def strainR (C : Addr) : DR := fun xs Q => ∃ n ts ss, xs = [.dat (brdD C n (ts.map Tm.py)), .dat (.tuple (ss.map .int))] ∧ Fine ts ss ∧ Q (strainV ts ss)
def lawLeftR : DR := fun xs Q => ∃ ts ss, xs = [.dat (.list (ts.map Tm.py)), .dat (.tuple (ss.map .int))] ∧ Fine ts ss ∧ Q (leftV ts ss)
def lawStrainR : DR := fun xs Q => ∃ ts ss, xs = [.dat (.list (ts.map Tm.py)), .dat (.tuple (ss.map .int))] ∧ Fine ts ss ∧ Q (strainV ts ss)
theorem get_map {α : Type} {f : α → PyData} {ts : List α} {i : Nat} {x : PyData} (h : (ts.map f)[i]? = some x) : ∃ t, ts[i]? = some t ∧ x = f t := by
  rw [List.getElem?_map] at h
  cases e : ts[i]? with
  | none => rw [e] at h; cases h
  | some t => rw [e] at h; exact ⟨t, rfl, (Option.some.inj h).symm⟩
/-- a stop or bar contains the standing -/
def Tm.Holds (t : Tm) (ss : List Int) : Prop := t.soft = false → t.low ≤ t.arg ss ∧ t.arg ss ≤ t.high
theorem Tm.Holds.gone {t : Tm} {ss : List Int} (h : t.Holds ss) : t.gone ss = false := by
  unfold Tm.gone
  cases e : t.soft with
  | true => rfl
  | false =>
    obtain ⟨h1, h2⟩ := h e
    have d : t.dist (t.arg ss) = 0 := Tm.dist_in (by omega) (by omega)
    rw [d]
    rfl
/-- a standing whose settings are near a value -/
def Near (mid : Int) (ss : List Int) : Prop := -(10 ^ 18 - 50) ≤ mid ∧ mid ≤ 10 ^ 18 - 50 ∧ ∀ x ∈ ss, mid - 9 ≤ x ∧ x ≤ mid + 9
theorem Near.at_ {mid : Int} {ss : List Int} (h : Near mid ss) {d : Int} (d0 : 0 ≤ d) (d1 : d < ss.length) : mid - 9 ≤ Tm.at_ ss d ∧ Tm.at_ ss d ≤ mid + 9 := by
  have h2 : d.toNat < ss.length := by omega
  unfold Tm.at_
  rw [List.getD_eq_getElem?_getD, List.getElem?_eq_getElem h2]
  exact h.2.2 _ (List.getElem_mem h2)
theorem Near.one {mid : Int} {ss : List Int} (h : Near mid ss) {d : Int} (d0 : 0 ≤ d) (d1 : d < ss.length) : -(10 ^ 18) ≤ Tm.at_ ss d ∧ Tm.at_ ss d ≤ 10 ^ 18 := by
  have a := h.at_ d0 d1
  have b := h.1
  have c := h.2.1
  omega
theorem Near.two {mid : Int} {ss : List Int} (h : Near mid ss) {d o : Int} (d0 : 0 ≤ d) (d1 : d < ss.length) (o0 : 0 ≤ o) (o1 : o < ss.length) : -(10 ^ 18) ≤ Tm.at_ ss d - Tm.at_ ss o ∧ Tm.at_ ss d - Tm.at_ ss o ≤ 10 ^ 18 := by
  have a := h.at_ d0 d1
  have b := h.at_ o0 o1
  omega
theorem other_dial {d k n : Int} (d0 : 0 ≤ d) (d1 : d < n) (k0 : 0 ≤ k) (k1 : k < n - 1) : 0 ≤ (d + 1 + k) % n ∧ (d + 1 + k) % n < n ∧ (d + 1 + k) % n ≠ d := by
  have n0 : 0 < n := by omega
  refine ⟨Int.emod_nonneg _ (by omega), Int.emod_lt_of_pos _ n0, fun e => ?_⟩
  have q : (d + 1 + k) % n + n * ((d + 1 + k) / n) = d + 1 + k := by first | exact Int.emod_add_mul_ediv _ _ | exact Int.emod_add_ediv' _ _
  rw [e] at q
  -- n * c = 1 + k, from 1 to n - 1
  have c : n * ((d + 1 + k) / n) = 1 + k := by omega
  have c0 : 0 < (d + 1 + k) / n := by
    by_cases z0 : 0 < (d + 1 + k) / n
    · exact z0
    · have z : (d + 1 + k) / n ≤ 0 := by omega
      have := Int.mul_le_mul_of_nonneg_left z (show 0 ≤ n by omega)
      omega
  have := Int.mul_le_mul_of_nonneg_left (show 1 ≤ (d + 1 + k) / n by omega) (show 0 ≤ n by omega)
  omega
theorem terms_of {P : Tm → Prop} : ∀ l : List PyData, (∀ z ∈ l, ∃ t : Tm, z = t.py ∧ P t) → ∃ ts : List Tm, l = ts.map Tm.py ∧ ∀ t ∈ ts, P t
  | [], _ => ⟨[], rfl, fun _ h => nomatch h⟩
  | z :: l, h => by
    obtain ⟨t, rfl, ht⟩ := h z (List.mem_cons_self ..)
    obtain ⟨ts, rfl, hts⟩ := terms_of l fun y hy => h y (List.mem_cons_of_mem _ hy)
    refine ⟨t :: ts, rfl, fun u hu => ?_⟩
    rcases List.mem_cons.mp hu with rfl | hu
    · exact ht
    · exact hts u hu
theorem left_none {ss : List Int} : ∀ {ts : List Tm} (k : Nat), (∀ t ∈ ts, t.gone ss = false) → leftFrom ss k ts = .none
  | [], k, _ => rfl
  | t :: ts, k, h => by
    unfold leftFrom
    rw [h t (List.mem_cons_self ..), if_neg Bool.false_ne_true]
    exact left_none (k + 1) fun u hu => h u (List.mem_cons_of_mem _ hu)
theorem left_cases {ss : List Int} : ∀ {ts : List Tm} (k : Nat), leftFrom ss k ts = .none ∨ ∃ i : Nat, leftFrom ss k ts = .int i ∧ i < k + ts.length
  | [], k => .inl rfl
  | t :: ts, k => by
    unfold leftFrom
    split
    · exact .inr ⟨k, rfl, by simp⟩
    · rcases left_cases (ss := ss) (ts := ts) (k + 1) with e | ⟨i, e, hi⟩
      · exact .inl e
      · exact .inr ⟨i, e, by simp at hi ⊢; omega⟩
theorem sum_le {b : Int} : ∀ {l : List Int}, (∀ x ∈ l, 0 ≤ x ∧ x ≤ b) → 0 ≤ l.sum ∧ l.sum ≤ l.length * b
  | [], _ => by simp
  | x :: l, h => by
    have h1 := h x (List.mem_cons_self ..)
    have h2 := sum_le (l := l) fun y hy => h y (List.mem_cons_of_mem _ hy)
    rw [List.sum_cons, List.length_cons]
    have e : ((l.length + 1 : Nat) : Int) * b = l.length * b + b := by
      rw [Int.natCast_add, Int.add_mul]
      simp
    rw [e]
    omega
theorem Fine.costs {ts : List Tm} {ss : List Int} (h : Fine ts ss) : 0 ≤ (DL.costs ts ss).sum ∧ (DL.costs ts ss).sum ≤ 10 ^ 70 := by
  have hb : ∀ x ∈ DL.costs ts ss, 0 ≤ x ∧ x ≤ 120 * 10 ^ 60 := fun x hx => by
    unfold DL.costs at hx
    obtain ⟨t, ht, rfl⟩ := List.mem_map.mp hx
    have hm := (List.mem_filter.mp ht).1
    have d := h.dist hm
    have f := h.force hm
    refine ⟨Int.mul_nonneg f.1 d.1, ?_⟩
    have := Int.mul_le_mul f.2 (show t.dist (t.arg ss) ≤ 4 * 10 ^ 60 by omega) d.1 (by decide)
    omega
  have l : (DL.costs ts ss).length ≤ 24 := by
    unfold DL.costs
    rw [List.length_map]
    exact Nat.le_trans (List.length_filter_le _ _) h.len
  have s := sum_le hb
  refine ⟨s.1, ?_⟩
  have := Int.mul_le_mul_of_nonneg_right (show ((DL.costs ts ss).length : Int) ≤ 24 by omega) (show (0 : Int) ≤ 120 * 10 ^ 60 by decide)
  omega
theorem leaf_left {ts : List Tm} {ss : List Int} (h : Fine ts ss) : Leaf (leftV ts ss) := by
  have l := h.len
  rcases left_cases (ss := ss) (ts := ts) 0 with e | ⟨i, e, hi⟩
  · unfold leftV
    rw [e]
    exact leafN
  · unfold leftV
    rw [e]
    exact leafI ⟨by omega, by omega⟩
theorem strain_cases (ts : List Tm) (ss : List Int) : (isNone (leftV ts ss) = true ∧ strainV ts ss = .int (costs ts ss).sum) ∨ (isNone (leftV ts ss) = false ∧ strainV ts ss = .none) := by
  have e0 := strain_left ss ts 0 0
  unfold strainV
  rw [e0, show leftFrom ss 0 ts = leftV ts ss from rfl]
  cases e : isNone (leftV ts ss) with
  | true => exact .inl ⟨rfl, by rw [if_pos rfl, Int.zero_add]⟩
  | false => exact .inr ⟨rfl, rfl⟩
theorem leaf_strain {ts : List Tm} {ss : List Int} (h : Fine ts ss) : Leaf (strainV ts ss) := by
  have c := h.costs
  rcases strain_cases ts ss with ⟨_, e⟩ | ⟨_, e⟩
  · rw [e]
    exact leafI ⟨by omega, by omega⟩
  · rw [e]
    exact leafN
/-- a standing of a size -/
def OkS (n : Nat) (x : PyData) : Prop := ∃ tt : List Int, x = .tuple (tt.map .int) ∧ tt.length = n ∧ ∀ x ∈ tt, -(10 ^ 60) < x ∧ x < 10 ^ 60
/-! ### boards made of others -/
def Tm.mir (t : Tm) : Tm := t.put (-t.high) (-t.low)
def Tm.mov (t : Tm) (b : Int) : Tm := t.put (t.low + b) (t.high + b)
theorem Tm.mir_mir (t : Tm) : t.mir.mir = t := by
  unfold Tm.mir
  rw [Tm.put_put, Tm.put_low, Tm.put_high, Int.neg_neg, Int.neg_neg, Tm.put_self]
def negs (ss : List Int) : List Int := ss.map fun x => -x
theorem at_neg (ss : List Int) (i : Int) : Tm.at_ (negs ss) i = -Tm.at_ ss i := by
  unfold Tm.at_ negs
  rw [List.getD_eq_getElem?_getD, List.getD_eq_getElem?_getD, List.getElem?_map]
  cases ss[i.toNat]? <;> simp
theorem Tm.arg_mir (t : Tm) (ss : List Int) : t.mir.arg (negs ss) = -t.arg ss := by
  cases t <;> simp only [Tm.mir, Tm.put, Tm.arg, at_neg] <;> omega
theorem Tm.mir_soft (t : Tm) : t.mir.soft = t.soft := by cases t <;> rfl
theorem Tm.mir_force (t : Tm) : t.mir.force = t.force := by cases t <;> rfl
theorem Tm.mir_dist {t : Tm} (h : t.low ≤ t.high) (ss : List Int) : t.mir.dist (t.mir.arg (negs ss)) = t.dist (t.arg ss) := by
  rw [Tm.arg_mir]
  exact Tm.dist_mir h
theorem strain_mir {ss : List Int} : ∀ {ts : List Tm} (tot : Int), (∀ t ∈ ts, t.low ≤ t.high) → strainFrom (negs ss) tot (ts.map Tm.mir) = strainFrom ss tot ts
  | [], tot, _ => rfl
  | t :: ts, tot, h => by
    have ht := h t (List.mem_cons_self ..)
    have eg : t.mir.gone (negs ss) = t.gone ss := by
      unfold Tm.gone
      rw [Tm.mir_soft, Tm.mir_dist ht]
    rw [List.map_cons]
    unfold strainFrom
    rw [eg, Tm.mir_soft, Tm.mir_force, Tm.mir_dist ht]
    split
    · rfl
    · exact strain_mir _ fun u hu => h u (List.mem_cons_of_mem _ hu)
theorem Tm.Fair.mir {t : Tm} {n : Nat} (h : t.Fair n) : t.mir.Fair n := by
  obtain ⟨a, b, c, d, e⟩ := h
  refine ⟨by cases t <;> exact a, ?_, ?_, ?_, by cases t <;> exact e⟩ <;> unfold Tm.mir <;> (try rw [Tm.put_low]) <;> (try rw [Tm.put_high]) <;> omega
theorem Tm.Fair.mov {t : Tm} {n : Nat} {b : Int} (h : t.Fair n) (h1 : -(10 ^ 19) ≤ b) (h2 : b ≤ 10 ^ 19) (h3 : -(10 ^ 18) ≤ t.low) (h4 : t.high ≤ 10 ^ 18) : (t.mov b).Fair n := by
  obtain ⟨a, b', c, d, e⟩ := h
  refine ⟨by cases t <;> exact a, ?_, ?_, ?_, by cases t <;> exact e⟩ <;> unfold Tm.mov <;> (try rw [Tm.put_low]) <;> (try rw [Tm.put_high]) <;> omega
end DL
/-! ### zip of a tuple and a list -/
namespace DL
open PySem PySem.Spec L2 PyProof.Rows
/-- at each turn: the i-th of the tuple at a and of the list at b, in a new pair -/
def ItzM (K : PySem.W.Frag) (a b : Addr) : It where
  go := fun i H => ∃ xs ys x y, SqT K H a xs ∧ SqL K H b ys ∧ xs[i]? = some x ∧ ys[i]? = some y
  yld := fun i H v H' => ∃ p x y, v = .ref p ∧ H p = none ∧ H' = upd H p (.tup [x, y]) ∧ (∀ xs, SqT K H a xs → xs[i]? = some x) ∧ ∀ ys, SqL K H b ys → ys[i]? = some y
  stop := fun i H => ∃ xs ys, SqT K H a xs ∧ SqL K H b ys ∧ i = min xs.length ys.length
theorem sep_of {z TI TO i1 i2 a b : Addr} (D : ZipApart z TI TO i1 i2 a b) : ZipSep2 z TI TO i1 i2 [i1, a] [i2, b] := by
  have d := D
  obtain ⟨_, _, _, _, _, _, _, _, _, _, _, _, _, _, _, _, _, _⟩ := D
  constructor <;> first | assumption | exact List.mem_cons_self .. | (simp only [List.mem_cons, List.not_mem_nil, or_false, not_or]; first | exact .inl rfl | (constructor <;> first | assumption | (apply Ne.symm; assumption)))
theorem turn_zipM {P : Program} {w : World} {K : PySem.W.Frag} {elts : List Expr} {kk : Nat} {tpos : Pos} {a b z TI TO i1 i2 : Addr} (D : ZipApart z TI TO i1 i2 a b) :
    Turn P w K (.Tuple elts kk tpos) (ItzM K a b) [z, TI, TO, i1, i2] z fun i h => IsZip h z TI TO .none ∧ IsPair h TI (.ref i1) (.ref i2) ∧ (∃ x y, IsPair h TO x y) ∧ h.IsTupleIter i1 a i ∧ h.IsListIter i2 b i := by
  have five : ∀ {q : Addr → Prop}, q z → q TI → q TO → q i1 → q i2 → ∀ c ∈ [z, TI, TO, i1, i2], q c := fun h1 h2 h3 h4 h5 c hc => by
    simp only [List.mem_cons, List.not_mem_nil, or_false] at hc
    rcases hc with rfl | rfl | rfl | rfl | rfl <;> assumption
  have S := sep_of D
  refine ⟨List.mem_cons_self .., fun i h st => ?_, fun i h h' st kp => ?_, ?_, ?_, fun A i s Q E st h => wpAny_pyIter_zip st.1 h⟩
  · obtain ⟨hz, hTI, ⟨x, y, hTO⟩, ⟨o1, e1, _, d1⟩, ⟨o2, e2, _, d2⟩⟩ := st
    exact five (q := fun c => ∃ o, h.get? c = some o ∧ ∀ v, o.data ≠ .cell v) ⟨_, hz, fun _ => nofun⟩ ⟨_, hTI, fun _ => nofun⟩ ⟨_, hTO, fun _ => nofun⟩ ⟨o1, e1, fun _ q => by rw [d1] at q; cases q⟩ ⟨o2, e2, fun _ q => by rw [d2] at q; cases q⟩
  · obtain ⟨hz, hTI, ⟨x, y, hTO⟩, h1, h2⟩ := st
    exact ⟨kp z (by simp) _ hz, kp TI (by simp) _ hTI, ⟨x, y, kp TO (by simp) _ hTO⟩, h1.at (kp i1 (by simp)), h2.at (kp i2 (by simp))⟩
  · rintro X rfl rfl rfl hc i pins s σ H E I hf ⟨hz, hTI, ⟨x0, y0, hTO⟩, h1, h2⟩ ⟨xs, ys, x, y, hqx, hqy, hx, hy⟩
    obtain ⟨its, rv, p1, _⟩ := I.tuple hqx
    obtain ⟨jts, rw2, p2, _⟩ := I.list hqy
    obtain ⟨u, hu, ru⟩ := rv.get hx
    obtain ⟨v, hv, rv2⟩ := rw2.get hy
    have lt1 : i < its.toArray.size := by rw [List.size_toArray]; exact (List.getElem?_eq_some_iff.mp hu).1
    have lt2 : i < jts.toArray.size := by rw [List.size_toArray]; exact (List.getElem?_eq_some_iff.mp hv).1
    have hh : X.A.in1.handled = none := I.ok.hd hc
    refine wpAny_pyNext_zipD2_item S (Draws.tuple hh i1 a D.l1i1 its.toArray) (Draws.list hh i2 b D.l2i2 jts.toArray) hz hTI hTO ⟨h1, p1⟩ ⟨h2, p2.isList⟩ lt1 lt2 ?_
    intro u' v' h' tk eu ev hz' hTO' st1 st2 hp hsz kept
    obtain rfl : u = u' := by
      have : its.toArray[i]? = some u := by simpa using hu
      rw [this] at eu
      exact Option.some.inj eu
    obtain rfl : v = v' := by
      have : jts.toArray[i]? = some v := by simpa using hv
      rw [this] at ev
      exact Option.some.inj ev
    refine ⟨_, rfl, wpAny_letOwnedTupleGo_zip (s := { s with heap := h', toks := tk }) hz' fun h2' hz2 sb => ?_⟩
    have oldlt : ∀ c ∈ [z, TI, TO, i1, i2], c < s.heap.objs.size := five (q := fun c => c < s.heap.objs.size) (Heap.lt_size hz) (Heap.lt_size hTI) (Heap.lt_size hTO) (by obtain ⟨_, e, _⟩ := h1; exact Heap.lt_size e) (by obtain ⟨_, e, _⟩ := h2; exact Heap.lt_size e)
    have up : ∀ c o, c ≠ z → h'.get? c = some o → h2'.get? c = some o := fun c o n e => (sb.2 c n).trans e
    have pair : h2'.get? s.heap.objs.size = some { cls := .type "tuple", data := .seq #[u, v] } := up _ _ (Nat.ne_of_gt (Heap.lt_size hz)) hp
    have made : ObjOk X.prog X.w (upd H s.heap.objs.size (.tup [x, y])) h2' s.heap.objs.size (.tup [x, y]) := ⟨(by show 2 ≤ sizeLine; rw [sizeLine_eq]; decide), [u, v], .cons ru (.cons rv2 .nil), ⟨_, pair, rfl, _, rfl⟩⟩
    have J : Inv X pins σ (upd H s.heap.objs.size (.tup [x, y])) { s with heap := h2', toks := tk } := by
      refine I.turnedNew (ch := [z, TI, TO, i1, i2]) (fun c o nc e => ?_) hf (Nat.le_refl _) made
      simp only [List.mem_cons, List.not_mem_nil, or_false, not_or] at nc
      exact up c o nc.1 (kept c o nc.1 nc.2.2.1 nc.2.2.2.1 nc.2.2.2.2 e)
    refine ⟨.ref s.heap.objs.size, _, J, rfl, ⟨_, x, y, rfl, I.hok.fresh (Nat.le_refl _), rfl, fun l hl => ?_, fun l hl => ?_⟩, ⟨hz2, up _ _ D.TIz (kept _ _ D.TIz D.TITO D.TIi1 D.TIi2 hTI), ⟨u, v, up _ _ D.TOz hTO'⟩, st1.1.at fun o e => up _ o D.i1z e, st2.1.at fun o e => up _ o D.i2z e⟩, fun c hcm => ?_⟩
    · rw [I.tuple_inj hl hqx]
      exact hx
    · rw [I.list_inj hl hqy]
      exact hy
    · rw [upd_ne (Nat.ne_of_lt (oldlt c hcm))]
      exact (hf c hcm).1
  · rintro X rfl rfl rfl hc i pins s σ H E I hf ⟨hz, hTI, ⟨x0, y0, hTO⟩, h1, h2⟩ ⟨xs, ys, hqx, hqy, hend⟩
    obtain ⟨its, rv, p1, _⟩ := I.tuple hqx
    obtain ⟨jts, rw2, p2, _⟩ := I.list hqy
    have hh : X.A.in1.handled = none := I.ok.hd hc
    have n1 : xs.length = its.toArray.size := by rw [List.size_toArray, rv.length]
    have n2 : ys.length = jts.toArray.size := by rw [List.size_toArray, rw2.length]
    refine wpAny_pyNext_zipD2_end S (Draws.tuple hh i1 a D.l1i1 its.toArray) (Draws.list hh i2 b D.l2i2 jts.toArray) hz hTI hTO ⟨h1, p1⟩ ⟨h2, p2.isList⟩ (by omega) (by omega) (by omega) fun h' tk kept => ⟨rfl, I.turnedL (ch := [z, TI, TO, i1, i2]) (fun c o nc e => ?_) hf⟩
    simp only [List.mem_cons, List.not_mem_nil, or_false, not_or] at nc
    exact kept c o nc.1 nc.2.2.1 nc.2.2.2.1 nc.2.2.2.2 e
def iZipM (K : PySem.W.Frag) (ta : TA) : TI := fun σ H R => ta σ H fun vs H1 => ∃ a b xs ys, vs = [.ref a, .ref b] ∧ SqT K H1 a xs ∧ SqL K H1 b ys ∧ R (ItzM K a b) H1
theorem pi_zipM {X : Cx} {e e2 : Expr} {ta : TA} {p pos tpos : Pos} {elts : List Expr} {kk : Nat} (hg : Gl X "zip") (hm : X.mg "zip" = none) (ha : PA X [e, e2] ta)
    (hs : starEach [e, e2] X.env = (false, eval e X.env) :: starEach [e2] X.env := by rfl) (hpl : (backTo pos (starEach [e2] X.env)).any (·.1) = false := by rfl) :
    PI X (.Tuple elts kk tpos) (.Call (.Name "zip" p) [e, e2] [] pos) (iZipM X.K ta) := by
  constructor
  intro pins s σ H R I h
  refine Call_ (ld_blt I hg hm PyProof.Rows.boot_zip (PyProof.Rows.callWith_type1 (thn (ha.run pos pins s σ H _ I h) ?_) hs hpl))
  rintro us s1 ⟨vs, H1, I1, r1, a, b, xs, ys, rfl, hqx, hqy, hq⟩
  cases r1 with
  | cons r t =>
    cases t with
    | cons r2 t2 =>
      cases t2
      cases r
      cases r2
      obtain ⟨its, rv, p1, _⟩ := I1.tuple hqx
      obtain ⟨jts, rw2, p2, _⟩ := I1.list hqy
      have la : a < s1.heap.objs.size := by
        obtain ⟨_, e, _⟩ := id p1
        exact Heap.lt_size e
      have D := PySem.W.ktu_apart s1.heap.objs.size a b la p2.lt
      refine zip_begins2 (begins_tuple a its.toArray) (begins_list b jts.toArray) p1 p2.isList fun h' hz hTI hTO g1 g2 hsz kept => wpAny_pyIter_zip hz ?_
      have I2 : Inv X pins σ H1 { s1 with heap := h' } := I1.kept (t' := s1.toks) kept
      refine ⟨_, [s1.heap.objs.size + 4, s1.heap.objs.size + 2, s1.heap.objs.size + 3, s1.heap.objs.size, s1.heap.objs.size + 1], _, _, H1, rfl, I2, turn_zipM D, ⟨hz, hTI, ⟨_, _, hTO⟩, ⟨_, g1, rfl, rfl⟩, ⟨_, g2, rfl, rfl⟩⟩, fun c hc => ?_, hq⟩
      have le : s1.heap.objs.size ≤ c := by
        simp only [List.mem_cons, List.not_mem_nil, or_false] at hc
        rcases hc with rfl | rfl | rfl | rfl | rfl <;> first | exact Nat.le_add_right _ _ | exact Nat.le_refl _
      exact I1.fpOk le (I1.hok.fresh le)
theorem it_zipM {M : Addr → Prop} {B : Gr} {K : PySem.W.Frag} {H : Hp} {a b : Addr} {xs ys : List V} {l m : List PyData} (n : ¬ M a) (e : H a = some (.tup xs)) (h : DtA M H xs l) (n2 : ¬ M b) (e2 : H b = some (.lst ys)) (h2 : DtA M H ys m) : ItOk M B H (ItzM K a b) (zipD l m) := fun M2 H2 g2 k i => by
  have ea := (k _ _ n e).2
  have eb := (k _ _ n2 e2).2
  rw [zipD_len]
  refine ⟨fun hi => ⟨xs, ys, SqT.of ea, SqL.of eb, by rw [h.length, h2.length]; exact hi⟩, fun hi => ?_⟩
  have l1 : i < l.length := by omega
  have l2 : i < m.length := by omega
  obtain ⟨v, hv, r⟩ := DtA.get i h (List.getElem?_eq_getElem l1)
  obtain ⟨u, hu, r2⟩ := DtA.get i h2 (List.getElem?_eq_getElem l2)
  refine ⟨⟨xs, ys, v, u, SqT.of ea, SqL.of eb, hv, hu⟩, fun x H3 ⟨T, x', y', ex, hT, eH, f1, f2⟩ => ?_⟩
  have q1 := f1 xs (SqT.of ea)
  rw [hv] at q1
  cases q1
  have q2 := f2 ys (SqL.of eb)
  rw [hu] at q2
  cases q2
  subst ex eH
  exact ⟨g2.new hT, Keep.new hT, _, zipD_at (List.getElem?_eq_getElem l1) (List.getElem?_eq_getElem l2), Dt.newT g2 hT (.cons (r.map k) (.cons (r2.map k) .nil))⟩
def diZipM (t : TDL) : TDL := fun ds Q => t ds fun l => match l with
  | [.tuple a, .list b] => dSize a.length ∧ Q (zipD a b)
  | _ => False
theorem di_zipM (K : PySem.W.Frag) {X : Cx} {B : Gr} {e e2 : Expr} {ta : TA} {p pos tpos : Pos} {elts : List Expr} {kk : Nat} {l : TDL} (hg : Gl X "zip") (hm : X.mg "zip" = none) (ha : PDL X B [e, e2] ta l)
    (hs : starEach [e, e2] X.env = (false, eval e X.env) :: starEach [e2] X.env := by rfl) (hpl : (backTo pos (starEach [e2] X.env)).any (·.1) = false := by rfl) (hK : X.K = K := by rfl) :
    PDI X B (.Tuple elts kk tpos) (.Call (.Name "zip" p) [e, e2] [] pos) (iZipM K ta) (diZipM l) := by
  subst hK
  refine ⟨pi_zipM hg hm ha.pa hs hpl, fun M σ H ds Q R g en q c => ha.sl M σ H ds _ _ g en q fun vs H1 l' g1 k1 hl q1 => ?_⟩
  split at q1
  · cases hl with
    | cons h1 t1 => cases t1 with
      | cons h2 t2 =>
        cases t2
        cases h1 with
        | tup n e a =>
          cases h2 with
          | lst n2 e2 a2 => exact ⟨_, _, _, _, rfl, SqT.of e, SqL.of e2, c _ H1 _ g1 k1 (it_zipM n e a n2 e2 a2) (by rw [zipD_len]; exact Nat.le_trans (Nat.min_le_left _ _) q1.1.le) q1.2⟩
  · exact q1.elim
end DL
namespace DL
open PySem L2 PyProof.Rows
section
variable {X : Cx} {B : Gr} {pos : Pos}
/-- x, y = [], [] -/
def sParNN (i j : Nat) : TDS := fun DD ds => DD.nx ((ds.set i (some (.grow []))).set j (some (.grow [])))
theorem ds_parNN {i j : Nat} {x y : Str} {px py pt p1 p2 : Pos} {kt k2 pt2} (hc : X.calm = true) (hN : X.N.Nodup) (hi : X.N[i]? = some x) (hj : X.N[j]? = some y) (hij : i ≠ j)
    (hx : X.env.scope.names.lookup x = some .local) (hy : X.env.scope.names.lookup y = some .local)
    (hw : swappedStores [.Tuple [.Name x px, .Name y py] kt pt] (.Tuple [.List [] p1, .List [] p2] k2 pt2) X.env = pure (some [x, y]))
    (hs : swapsWithSole [.Tuple [.Name x px, .Name y py] kt pt] (.Tuple [.List [] p1, .List [] p2] k2 pt2) pos.line X.env = pure false := by rfl)
    (h1 : starEach [.List [] p1, .List [] p2] X.env = (false, eval (.List [] p1) X.env) :: starEach [.List [] p2] X.env := by rfl) (h2 : starEach [.List [] p2] X.env = (false, eval (.List [] p2) X.env) :: starEach [] X.env := by rfl) :
    PDS X B (.Assign [.Tuple [.Name x px, .Name y py] kt pt] (.Tuple [.List [] p1, .List [] p2] k2 pt2) pos) (tPar i j (tCons (tLst tNil) (tCons (tLst tNil) tNil))) (sParNN i j) :=
  ⟨ps_par hc hN hi hj hij hx hy (pa_cons (pe_lst pa_nil) (pa_cons (pe_lst pa_nil) pa_nil h2) h1) hw hs, fun M σ H ds DD D en o q c => by
    refine ⟨Nat.zero_le _, fun p hp => ⟨Nat.zero_le _, fun p' hp' => ⟨_, _, rfl, ?_⟩⟩⟩
    have first : ContE B M H (fun ds' => ds' = ds.set i (some (.grow []))) (fun σ' H' => ∃ M' ds', Ent B M' H' ∧ Stay M H M' H' ∧ EnvO M' B H' σ' ds' ∧ ds' = ds.set i (some (.grow []))) :=
      fun M' σ' H' ds' e s o' z => ⟨M', ds', e, s, o', z⟩
    obtain ⟨M', ds', e', s', o', rfl⟩ := first.new (i := i) (p := p) (l := []) (xs := []) en o hp .nil rfl
    exact (c.nx.stay s').new (i := j) (l := []) (xs := []) e' o' hp' .nil q⟩
end
theorem inD_int {i : Int} : ∀ {ns : List Int}, inD (.int i) (ns.map PyData.int) = decide (i ∈ ns)
  | [] => rfl
  | n :: ns => by
    have ih := inD_int (i := i) (ns := ns)
    unfold inD at ih ⊢
    rw [List.map_cons, List.any_cons, ih, Bool.eq_iff_iff]
    simp only [eqD, Bool.or_eq_true, beq_iff_eq, decide_eq_true_eq, List.mem_cons]
    exact ⟨fun h => h.imp Eq.symm id, fun h => h.imp Eq.symm id⟩
theorem flat_ints (ns : List Int) : (ns.map PyData.int).all flatD = true := by
  rw [List.all_eq_true]
  intro x hx
  obtain ⟨i, _, rfl⟩ := List.mem_map.mp hx
  rfl
/-- how many of the numbers are at most g -/
def cnt (ns : List Int) (g : Int) : Int := ((ns.filter fun n => decide (n ≤ g)).length : Nat)
theorem cnt_le_aux : ∀ (g : Nat) (ns : List Int), ns.Nodup → (∀ n ∈ ns, 1 ≤ n) → (ns.filter fun n => decide (n ≤ (g : Int))).length ≤ g
  | 0, ns, _, h => by
    rw [List.filter_eq_nil_iff.mpr]
    · exact Nat.le_refl _
    · intro n hn
      have := h n hn
      simp only [decide_eq_true_eq]
      omega
  | g + 1, ns, nd, h => by
    have one : ∀ (l : List Int), l.Nodup → (l.filter fun n => decide (n ≤ ((g + 1 : Nat) : Int))).length ≤ (l.filter fun n => decide (n ≤ (g : Int))).length + (if ((g + 1 : Nat) : Int) ∈ l then 1 else 0) := by
      intro l
      induction l with
      | nil => intro _; exact Nat.zero_le _
      | cons a l ih =>
        intro nd
        obtain ⟨na, nl⟩ := List.nodup_cons.mp nd
        have ih := ih nl
        by_cases e : a = ((g + 1 : Nat) : Int)
        · subst e
          rw [List.filter_cons_of_pos (by simp), List.filter_cons_of_neg (by simp only [decide_eq_true_eq]; omega), if_pos (List.mem_cons_self ..)]
          rw [if_neg na] at ih
          simp only [List.length_cons]
          omega
        · have m : (((g + 1 : Nat) : Int) ∈ a :: l) ↔ (((g + 1 : Nat) : Int) ∈ l) := by
            rw [List.mem_cons]
            exact ⟨fun z => z.elim (fun w => absurd w.symm e) id, .inr⟩
          simp only [m]
          by_cases c : a ≤ (g : Int)
          · rw [List.filter_cons_of_pos (by simp only [decide_eq_true_eq]; omega), List.filter_cons_of_pos (by simpa using c)]
            simp only [List.length_cons]
            omega
          · rw [List.filter_cons_of_neg (by simp only [decide_eq_true_eq]; omega), List.filter_cons_of_neg (by simpa using c)]
            exact ih
    have := one ns nd
    have ih := cnt_le_aux g ns nd h
    split at this <;> omega
theorem cnt_le {ns : List Int} {g : Int} (nd : ns.Nodup) (h : ∀ n ∈ ns, 1 ≤ n) : 0 ≤ cnt ns g ∧ (cnt ns g ≤ g ∨ (g ≤ 0 ∧ cnt ns g = 0)) := by
  refine ⟨Int.natCast_nonneg _, ?_⟩
  rcases Int.lt_or_le g 1 with z | z
  · refine .inr ⟨by omega, ?_⟩
    unfold cnt
    rw [List.filter_eq_nil_iff.mpr]
    · rfl
    · intro n hn
      have := h n hn
      simp only [decide_eq_true_eq]
      omega
  · refine .inl ?_
    have := cnt_le_aux g.toNat ns nd h
    unfold cnt
    rw [Int.toNat_of_nonneg (by omega)] at this
    omega
/-! ### nested data that may be compared and shown -/
structure Shp (d : PyData) (dep sz : Nat) : Prop where
  lay : d.canLay0 = true
  dp : d.depth ≤ dep
  sw : d.showable = true
  sz : d.shown.length ≤ sz
theorem Leaf.shp {d : PyData} (h : Leaf d) : Shp d 0 2000 := ⟨h.lay, Nat.le_of_eq h.dp, h.sw, h.sz⟩
theorem Shp.all {dep sz : Nat} : ∀ {l : List PyData}, (∀ x ∈ l, Shp x dep sz) → PyData.canLayAll0 l = true ∧ PyData.depthAll l ≤ dep ∧ PyData.showableAll l = true ∧ ((PyData.shownAll l).map (·.length)).sum ≤ sz * l.length
  | [], _ => by simp [PyData.canLayAll0, PyData.depthAll, PyData.showableAll, PyData.shownAll]
  | x :: l, h => by
    obtain ⟨h1, h2, h3, h4⟩ := Shp.all (l := l) fun y hy => h y (List.mem_cons_of_mem _ hy)
    have hx := h x (List.mem_cons_self ..)
    refine ⟨?_, ?_, ?_, ?_⟩
    · simp only [PyData.canLayAll0, hx.lay, h1, Bool.and_self]
    · simp only [PyData.depthAll]
      have := hx.dp
      omega
    · simp only [PyData.showableAll, hx.sw, h3, Bool.and_self]
    · simp only [PyData.shownAll_cons, List.map_cons, List.sum_cons, List.length_cons]
      have := hx.sz
      have e : sz * (l.length + 1) = sz * l.length + sz := Nat.mul_succ ..
      rw [e]
      omega
theorem Shp.tup {dep sz n : Nat} {l : List PyData} (h : ∀ x ∈ l, Shp x dep sz) (hl : l.length ≤ n) : Shp (.tuple l) (dep + 1) (sz * n + 2 * n + 3) := by
  obtain ⟨h1, h2, h3, h4⟩ := Shp.all h
  refine ⟨?_, ?_, ?_, ?_⟩
  · simp only [PyData.canLay0, h1]
  · simp only [PyData.depth]
    omega
  · simp only [PyData.showable, h3]
  · have e : (PyData.tuple l).shown = tupleText (PyData.shownAll l) := by simp only [PyData.shown]
    have b := tupleText_len_le (PyData.shownAll l)
    have c := PyData.shownAll_length l
    have m : sz * l.length ≤ sz * n := Nat.mul_le_mul_left _ hl
    rw [e]
    omega
theorem Shp.lst {dep sz n : Nat} {l : List PyData} (h : ∀ x ∈ l, Shp x dep sz) (hl : l.length ≤ n) : Shp (.list l) (dep + 1) (sz * n + 2 * n + 3) := by
  obtain ⟨h1, h2, h3, h4⟩ := Shp.all h
  refine ⟨?_, ?_, ?_, ?_⟩
  · simp only [PyData.canLay0, h1]
  · simp only [PyData.depth]
    omega
  · simp only [PyData.showable, h3]
  · have e : (PyData.list l).shown = listText (PyData.shownAll l) := by simp only [PyData.shown]
    have b := listText_len_le (PyData.shownAll l)
    have c := PyData.shownAll_length l
    have m : sz * l.length ≤ sz * n := Nat.mul_le_mul_left _ hl
    rw [e]
    omega
theorem Shp.ok {d : PyData} {dep sz : Nat} (h : Shp d dep sz) (h1 : dep ≤ 60) (h2 : sz ≤ 1000000) : OkD d := by
  have hd := h.dp
  refine ⟨?_, h.sw, by omega, Nat.le_trans h.sz h2⟩
  unfold SeqAt.shaped
  rw [h.lay, Bool.true_and, decide_eq_true_eq]
  omega
theorem eqv_rfl {d : PyData} (h : OkD d) : PyData.eqv d d = true := SeqAt.eqv_refl d (SeqAt.canLay_of_shaped h.sh)
end DL
namespace DL
open PySem PySem.Spec L2 PyProof.Rows
/-! ### == of instances by their own __eq__; isinstance of the class; range with a step -/
def rEqI (C : Addr) (sp : Sp) : R2 := fun x y H Q => ∃ a b dx dy fs gs, x = .ref a ∧ y = .ref b ∧ H a = some (.ins C dx fs) ∧ H b = some (.ins C dy gs) ∧ sp [.ref a, .ref b] H (fun v H' => (∃ k, v = .bl k) ∧ Q v H') E0
section
variable {X : Cx} {B : Gr} {n : Nat} {f C : Addr} {fd : FuncData} {ps : List Str} {sp : Sp} {pos p p2 : Pos} {a b e : Expr} {ta tb te : TE} {da db td : TDE}
theorem op_eqI (F : FnG X.prog X.w X.K X.mg X.base n f fd ps sp) (hG : X.A.guards = some []) (hr : Room n X.A) (hb : Binds X.K fd ps []) (m : Meth X.K C "__eq__" f) : OpR X (compareOp .Eq) (rEqI C sp) := by
  rintro pins s σ H x y v u Q I rx ry ⟨a, b, dx, dy, fs, gs, rfl, rfl, ha, hb', hsp⟩
  cases rx
  cases ry
  obtain ⟨_, J, -⟩ := ins_get I.hok ha
  obtain ⟨_, J', -⟩ := ins_get I.hok hb'
  obtain ⟨_, L1, -⟩ := J.look
  obtain ⟨_, L2', -⟩ := J'.look
  obtain ⟨_, fr⟩ := I.fr
  have go := run_fnG (us := [.ref a, .ref b]) (vs := [.ref a, .ref b]) F hG hr hb I (.cons rfl (.cons rfl .nil)) hsp
  show wpAny _ _ (richCompare .Eq (.ref a) (.ref b)) _ _ _
  refine PySem.W.cmp_K (op := .Eq) (tb := .ref C) hr.units0 fr I.ok.mod.kin L1 L2'.type (by simp [PySem.W.notFirst]) m.at_ m.fn (wpAny_mono go (fun w s' z => ?_) fun _ _ q => q)
  obtain ⟨v, H', J2, rv, ⟨k, rfl⟩, q⟩ := z
  cases rv
  exact ⟨.bl k, H', J2, rfl, q⟩
end
end DL
namespace DL
open PySem PySem.Spec L2 PyProof.Rows
/-- what isinstance asks of the class -/
structure IsiC (K : PySem.W.Frag) (C : Addr) : Prop where
  ha : PySem.W.findIn K (.ref C) "__class__" = some (some (.builtin "object.__class__"))
  hn : PySem.W.specialIn K (.builtin "object.__class__") "__get__" = some (some (.builtin "getset_descriptor.__get__"))
  htk : PySem.W.takesIn K (.builtin "object.__class__") = some true
  hm : PySem.W.mroIn K C (.type "object") = some true
  kit : PySem.W.kitOne K (.ref C) (.ref C) = some true
def dEqB (C : Addr) (R : DR) (a b : TDE) : TDE := fun ds Q => a ds fun x => b ds fun y => ∃ n l m k, x = brdD C n l ∧ y = brdD C m k ∧ R [.dat (brdD C n l), .dat (brdD C m k)] fun d => (∃ k, d = .bool k) ∧ Q d
def dIsiB (C : Addr) (t : TDE) : TDE := fun ds Q => t ds fun d => ∃ n l, d = brdD C n l ∧ Q (.bool true)
section
variable {X : Cx} {B : Gr} {n : Nat} {f C : Addr} {fd : FuncData} {ps : List Str} {R : DR} {pos p p2 : Pos} {a b e : Expr} {ta tb te : TE} {da db td : TDE}
theorem d_eqB (F : FnG X.prog X.w X.K X.mg X.base n f fd ps (spD R)) (hG : X.A.guards = some []) (hr : Room n X.A) (hb : Binds X.K fd ps []) (m : Meth X.K C "__eq__" f) (h1 : PD X B a ta da) (h2 : PD X B b tb db) (hm : behindInMarks .Eq b = false := by exact nomark _) :
    PD X B (.Compare a [.Eq] [b] pos) (tOp (rEqI C (spD R)) ta tb) (dEqB C R da db) :=
  ⟨pe_cmpR (op_eqI F hG hr hb m) h1.pe h2.pe hm, fun M σ H ds Q W g en q c => h1.se M σ H ds _ _ g en q fun v H1 x g1 k1 hx q1 => h2.se M σ H1 ds _ _ g1 (en.keep g.1 k1) q1 fun u H2 y g2 k2 hy q2 => by
    obtain ⟨n, l, m, k, rfl, rfl, q3⟩ := q2
    have hx2 := hx.keep g1.1 k2
    have hxd := hx2
    have hyd := hy
    cases hx2 with
    | brd n1 n2 e1 e2 n3 e3 a1 =>
      cases hy with
      | brd n4 n5 e4 e5 n6 e6 a2 =>
        refine ⟨_, _, _, _, _, _, rfl, rfl, e1, e4, M, B, _, _, .cons (.dat hxd) trivial (.cons (.dat hyd) trivial .nil), g2, q3, fun w H3 d g3 k3 hd z => ?_⟩
        obtain ⟨⟨kk, rfl⟩, z⟩ := z
        cases hd
        exact ⟨⟨kk, rfl⟩, c _ H3 _ g3 (k1.trans (k2.trans k3)) (.bl kk) z⟩⟩
theorem dt_eqB (F : FnG X.prog X.w X.K X.mg X.base n f fd ps (spD R)) (hG : X.A.guards = some []) (hr : Room n X.A) (hb : Binds X.K fd ps []) (m : Meth X.K C "__eq__" f) (h1 : PD X B a ta da) (h2 : PD X B b tb db) (hm : behindInMarks .Eq b = false := by exact nomark _) :
    PDT X B (.Compare a [.Eq] [b] pos) (tTest (tOp (rEqI C (spD R)) ta tb)) (dTest (dEqB C R da db)) :=
  ⟨pt_cmpR (op_eqI F hG hr hb m) h1.pe h2.pe hm, st_test (d_eqB (pos := pos) F hG hr hb m h1 h2 hm).se⟩
theorem d_isiB (K : PySem.W.Frag) {x : Str} (cl : Cls K C) (ic : IsiC K C) (he : PD X B e te td) (hg : Gl X "isinstance") (hm : X.mg "isinstance" = none) (hgT : Gl X x) (hmT : X.mg x = some (.ref C))
    (hK : X.K = K := by rfl) (hd : (x == ("__debug__" : Str)) = false := by decide) (hs : starEach [e, .Name x p2] X.env = (false, eval e X.env) :: starEach [.Name x p2] X.env := by rfl) :
    PD X B (.Call (.Name "isinstance" p) [e, .Name x p2] [] pos) (tCB (rIsi K) (tCons te (tCons (tC (.ref C)) tNil))) (dIsiB C td) := by
  subst hK
  refine ⟨pe_callB call_isi hg hm PyProof.Rows.boot_isinstance (pa_cons he.pe (pa_cons (pe_glob hgT hmT rfl hd) pa_nil rfl) hs) (by decide) (by decide) hs rfl, fun M σ H ds Q R g en q c => he.se M σ H ds _ _ g en q fun v H1 d g1 k1 hd q1 => ?_⟩
  obtain ⟨n, l, rfl, q2⟩ := q1
  cases hd with
  | brd n1 n2 e1 e2 n3 e3 a => exact ⟨_, _, _, _, true, rfl, .own C, .base (.ins e1 cl ic.ha ic.hn ic.htk ic.hm), ic.kit, c _ H1 _ g1 k1 (.bl true) q2⟩
def rangeS (lo c : Int) (n : Nat) : List PyData := (List.range n).map fun (i : Nat) => PyData.int (lo + (i : Int) * c)
theorem it_rangeS {M : Addr → Prop} {B : Gr} {H : Hp} (lo c : Int) (n : Nat) : ItOk M B H (Itc lo c n) (rangeS lo c n) := fun M2 H2 g2 k i => by
  have hl : (rangeS lo c n).length = n := by unfold rangeS; rw [List.length_map, List.length_range]
  rw [hl]
  refine ⟨fun hi => Nat.le_of_eq hi.symm, fun hi => ⟨hi, fun x H3 y => ?_⟩⟩
  obtain ⟨rfl, rfl⟩ := y
  refine ⟨g2, Keep.refl, _, ?_, .int _⟩
  unfold rangeS
  rw [List.getElem?_map, List.getElem?_range hi]
  rfl
def diR3 (t : TDL) : TDL := fun ds Q => t ds fun l => match l with
  | [.int i, .int j, .int c] => ∃ n, RgC i j c n ∧ n ≤ 1000000 ∧ Q (rangeS i c n)
  | _ => False
theorem di_range3 {tg a b c : Expr} {ta : TA} {p : Pos} {l : TDL} (hg : Gl X "range") (hm : X.mg "range" = none) (ha : PDL X B [a, b, c] ta l)
    (hs : starEach [a, b, c] X.env = (false, eval a X.env) :: starEach [b, c] X.env := by rfl) (hpl : (backTo pos (starEach [b, c] X.env)).any (·.1) = false := by rfl) : PDI X B tg (.Call (.Name "range" p) [a, b, c] [] pos) (iRng3 ta) (diR3 l) :=
  ⟨pi_range3 hg hm ha.pa hs hpl, fun M σ H ds Q R g en q k => ha.sl M σ H ds _ _ g en q fun vs H1 l' g1 k1 hl q1 => by
    split at q1
    · obtain ⟨n, rg, n0, q2⟩ := q1
      cases hl with
      | cons h1 t1 => cases t1 with
        | cons h2 t2 => cases t2 with
          | cons h3 t3 =>
            cases t3
            cases h1
            cases h2
            cases h3
            refine ⟨_, _, _, n, rfl, rg, k _ H1 _ g1 k1 (it_rangeS _ _ n) ?_ q2⟩
            unfold rangeS
            rw [List.length_map, List.length_range, sizeLine_eq]
            omega
    · exact q1.elim⟩
end
/-! ### slices of mapped lists -/
theorem cut_to {α : Type} {f : α → PyData} {ts : List α} {i : Nat} : cutD (ts.map f) none (some (i : Int)) = (ts.take i).map f := by
  unfold cutD
  rw [HT.sIx_none, HT.sIx_nat, List.drop_zero, Nat.sub_zero, ← List.map_take]
  congr 1
  rw [List.length_map]
  rcases Nat.le_total i ts.length with h | h
  · rw [Nat.min_eq_left h]
  · rw [Nat.min_eq_right h, List.take_of_length_le h, List.take_length]
theorem cut_from {α : Type} {f : α → PyData} {ts : List α} {i : Nat} : cutD (ts.map f) (some (i : Int)) none = (ts.drop i).map f := by
  unfold cutD
  rw [HT.sIx_none, HT.sIx_nat, ← List.map_drop, ← List.map_take]
  congr 1
  rw [List.length_map]
  rcases Nat.le_total i ts.length with h | h
  · rw [Nat.min_eq_left h]
    rw [List.take_of_length_le (by rw [List.length_drop]; exact Nat.le_refl _)]
  · rw [Nat.min_eq_right h, List.drop_length, List.drop_eq_nil_of_le h, List.take_nil]
end DL
namespace DL
open PySem L2 PyProof.Rows
theorem Good.updI {M : Addr → Prop} {B : Gr} {x : Addr} {H : Hp} {C dx : Addr} {fs : List (Str × V)} {o : HO} (g : Good M B H) (nx : ¬ M x) (xB : x ≠ B) (e : H x = some (.ins C dx fs)) (f0 : B.H0 x = none) (f1 : B.H1 x = none) : Good M B (upd H x o) := by
  obtain ⟨m, md, ⟨b0, b1, b2, q, ns, h1, h3, h4⟩, d⟩ := g
  have qx : q ≠ x := fun z => by
    rw [z, e] at h3
    cases h3
  refine ⟨m, fun a ma => ?_, ⟨b0, b1, b2, q, ns, by rw [upd_ne xB.symm]; exact h1, by rw [upd_ne qx]; exact h3, h4⟩, d.g0, d.m0, d.sub, ⟨fun b u n hb => ?_, fun q' hq => by rw [bagq_upd xB]; exact d.keep.q q' hq⟩, d.stay, fun b u n hb => ⟨(d.st b u n hb).1, by rw [upd_ne (fun z => by rw [z, f1] at hb; cases hb)]; exact (d.st b u n hb).2⟩, fun b u hb => by
    obtain ⟨u2, e2⟩ := d.al b u hb
    exact al_upd e2, d.bq, fun a ma ys => by
    rw [upd_ne (fun z => nx (by rw [← z]; exact ma))]
    exact d.nt a ma ys⟩
  · obtain ⟨u, hu⟩ := md a ma
    exact ⟨u, by rw [upd_ne (fun z => nx (by rw [← z]; exact ma))]; exact hu⟩
  · rw [upd_ne (fun z => by rw [z, f0] at hb; cases hb)]
    exact d.keep.k b u n hb
theorem with_flds {v u u' : V} : putF "_terms" u' ([("_size", v), ("_terms", u)] : List (Str × V)) = ([("_size", v), ("_terms", u')] : List (Str × V)) := by
  show (if ("_size" : Str) = "_terms" then _ else (("_size" : Str), v) :: (if ("_terms" : Str) = "_terms" then [(("_terms" : Str), u')] else (("_terms" : Str), u) :: putF "_terms" u' [])) = ([("_size", v), ("_terms", u')] : List (Str × V))
  rw [if_neg (by decide +kernel), if_pos rfl]
def withR (C : Addr) : DR := fun xs Q => ∃ (n : Int) (l l2 : List PyData), xs = [.dat (brdD C n l), .dat (.list l2)] ∧ 1 ≤ n ∧ n ≤ 8 ∧ Q (brdD C n l2)
def alsoR (C : Addr) : DR := fun xs Q => ∃ (n : Int) (ts : List Tm) (t : Tm), xs = [.dat (brdD C n (ts.map Tm.py)), .dat t.py] ∧ 1 ≤ n ∧ n ≤ 8 ∧ ts.length ≤ 1000 ∧ Q (brdD C n ((ts ++ [t]).map Tm.py))
def withoutR (C : Addr) : DR := fun xs Q => ∃ (n : Int) (ts : List Tm) (i : Nat), xs = [.dat (brdD C n (ts.map Tm.py)), .dat (.int i)] ∧ 1 ≤ n ∧ n ≤ 8 ∧ ts.length ≤ 1000 ∧ Q (brdD C n ((ts.take i ++ ts.drop (i + 1)).map Tm.py))
def brdMovR (C : Addr) : DR := fun xs Q => ∃ (n : Int) (ts : List Tm) (i : Nat) (b : Int) (t : Tm), xs = [.dat (brdD C n (ts.map Tm.py)), .dat (.int i), .dat (.int b)] ∧ ts[i]? = some t ∧ 1 ≤ n ∧ n ≤ 8 ∧ ts.length ≤ 1000 ∧ Q (brdD C n ((ts.take i ++ [t.mov b] ++ ts.drop (i + 1)).map Tm.py))
def brdMirR (C : Addr) : DR := fun xs Q => ∃ (n : Int) (ts : List Tm), xs = [.dat (brdD C n (ts.map Tm.py))] ∧ 1 ≤ n ∧ n ≤ 8 ∧ ts.length ≤ 1000 ∧ Q (brdD C n ((ts.map Tm.mir).map Tm.py))
def brdTermsR (C : Addr) : DR := fun xs Q => ∃ (n : Int) (l : List PyData), xs = [.dat (brdD C n l)] ∧ Q (.list l)
def brdSizeR (C : Addr) : DR := fun xs Q => ∃ (n : Int) (l : List PyData), xs = [.dat (brdD C n l)] ∧ Q (.int n)
def brdEqR (C : Addr) : DR := fun xs Q => ∃ (n : Int) (l : List PyData), xs = [.dat (brdD C n l), .dat (brdD C n l)] ∧ OkD (.list l) ∧ Q (.bool true)
theorem cut_from1 {α : Type} {f : α → PyData} {ts : List α} {i : Nat} : cutD (ts.map f) (some ((i : Int) + 1)) none = (ts.drop (i + 1)).map f := cut_from (i := i + 1)
/-- a step of six -/
theorem rg6 {o m : Int} (o0 : 0 ≤ o) (o1 : o < 100) (m0 : 0 ≤ m) (m1 : m < 100) : ∃ n : Nat, RgC o m 6 n ∧ n ≤ 100 ∧ ∀ k : Nat, k < n → o + (k : Int) * 6 < m := by
  refine ⟨(Builtin.Range.rangeSize o m 6).toNat, ⟨by decide, by decide, ?_, ?_⟩, ?_, ?_⟩
  · have fit : ∀ i : Int, 0 ≤ i → i < 1000 → Builtin.Range.rangeFitsLong i = true := fun i h0 h1 => by
      unfold Builtin.Range.rangeFitsLong
      rw [Bool.and_eq_true, decide_eq_true_eq, decide_eq_true_eq]
      omega
    have sz : 0 ≤ Builtin.Range.rangeSize o m 6 ∧ Builtin.Range.rangeSize o m 6 < 1000 := by
      unfold Builtin.Range.rangeSize
      rw [if_pos (by decide)]
      split <;> omega
    unfold Builtin.Range.small
    rw [fit o o0 (by omega), fit m m0 (by omega), fit 6 (by decide) (by decide), fit _ sz.1 sz.2, if_pos (by decide), fit (m + (6 - 1)) (by omega) (by omega), Bool.or_true]
    rfl
  · unfold Builtin.Range.rangeSize
    rw [if_pos (by decide)]
    split <;> omega
  · unfold Builtin.Range.rangeSize
    rw [if_pos (by decide)]
    split <;> omega
  · intro k hk
    unfold Builtin.Range.rangeSize at hk
    rw [if_pos (by decide)] at hk
    split at hk <;> omega
def toldOnR (C : Addr) : DR := fun xs Q => ∃ (n : Int) (ts : List Tm) (ss : List Int), xs = [.bag, .dat (brdD C n (ts.map Tm.py)), .dat (.list (ts.map Tm.py)), .dat (.tuple (ss.map .int))] ∧ 1 ≤ n ∧ n ≤ 8 ∧ ss.length < 1000 ∧ Fine ts ss ∧ (∀ t ∈ ts, -(10 ^ 18) ≤ t.low ∧ t.high ≤ 10 ^ 18) ∧ Q (.bool true)
/-- terms may be compared and shown -/
theorem Tm.Fair.items {t : Tm} {n : Nat} (h : t.Fair n) (hn : n < 1000) : ∀ x ∈ t.items, Leaf x := by
  have m : t.Mids := Tm.mids_of h.inn (by omega) h.fr (by decide) ⟨by have := h.lo; omega, by have := h.lh; have := h.hi; omega⟩ ⟨by have := h.lh; have := h.lo; omega, by have := h.hi; omega⟩
  intro x hx
  cases t with
  | wish d l h' f =>
    simp only [Tm.items, List.mem_cons, List.not_mem_nil, or_false] at hx
    obtain ⟨h1, h2, h3, h4⟩ := m
    rcases hx with rfl | rfl | rfl | rfl | rfl <;> first | exact leaf_wish | (apply leafI; assumption)
  | tie d o l h' f =>
    simp only [Tm.items, List.mem_cons, List.not_mem_nil, or_false] at hx
    obtain ⟨h1, h2, h3, h4, h5⟩ := m
    rcases hx with rfl | rfl | rfl | rfl | rfl | rfl <;> first | exact leaf_tie | (apply leafI; assumption)
  | stop d l h' =>
    simp only [Tm.items, List.mem_cons, List.not_mem_nil, or_false] at hx
    obtain ⟨h1, h2, h3⟩ := m
    rcases hx with rfl | rfl | rfl | rfl <;> first | exact leaf_stop | (apply leafI; assumption)
  | bar d o l h' =>
    simp only [Tm.items, List.mem_cons, List.not_mem_nil, or_false] at hx
    obtain ⟨h1, h2, h3, h4⟩ := m
    rcases hx with rfl | rfl | rfl | rfl | rfl <;> first | exact leaf_bar | (apply leafI; assumption)
theorem shpTerms {ts : List Tm} {n : Nat} (hl : ts.length ≤ 24) (hn : n < 1000) (h : ∀ t ∈ ts, t.Fair n) : Shp (.list (ts.map Tm.py)) 2 ((2000 * 6 + 2 * 6 + 3) * 24 + 2 * 24 + 3) :=
  Shp.lst (dep := 1) (fun x hx => by
    obtain ⟨t, ht, rfl⟩ := List.mem_map.mp hx
    exact Shp.tup (dep := 0) (n := 6) (fun y hy => ((h t ht).items hn y hy).shp) t.items_len) (by rw [List.length_map]; exact hl)
theorem okTerms {ts : List Tm} {n : Nat} (hl : ts.length ≤ 24) (hn : n < 1000) (h : ∀ t ∈ ts, t.Fair n) : OkD (.list (ts.map Tm.py)) := (shpTerms hl hn h).ok (by decide) (by decide)
theorem ne_list {a b : List PyData} {Q : PyData → Prop} (ok : OkD (.list a)) (e : b = a) (h : Q (.bool false)) : rNeA (.list a) (.list b) Q := by
  subst e
  refine ⟨ok.sh, ok.sh, ?_⟩
  rw [eqv_rfl ok]
  exact h
theorem cut_out {α : Type} {f : α → PyData} {ts : List α} {k : Nat} : cutD (ts.map f) none (some (k : Int)) ++ cutD (ts.map f) (some ((k : Int) + 1)) none = (ts.take k ++ ts.drop (k + 1)).map f := by
  rw [cut_to, cut_from1, List.map_append]
theorem cut_put2 {α : Type} {f : α → PyData} {ts : List α} {k : Nat} {u : α} : cutD (ts.map f) none (some (k : Int)) ++ [f u] ++ cutD (ts.map f) (some ((k : Int) + 1)) none = (ts.take k ++ [u] ++ ts.drop (k + 1)).map f := by
  rw [cut_to, cut_from1, List.map_append, List.map_append]
  rfl
theorem Shp.mono {d : PyData} {a b m n : Nat} (h : Shp d a m) (h1 : a ≤ b) (h2 : m ≤ n) : Shp d b n := ⟨h.lay, Nat.le_trans h.dp h1, h.sw, Nat.le_trans h.sz h2⟩
theorem okSizeTerms {ts : List Tm} {n : Nat} {i : Int} (hi : Mid i) (hl : ts.length ≤ 24) (hn : n < 1000) (h : ∀ t ∈ ts, t.Fair n) : OkD (.list [.int i, .list (ts.map Tm.py)]) :=
  (Shp.lst (dep := 2) (sz := (2000 * 6 + 2 * 6 + 3) * 24 + 2 * 24 + 3) (n := 2) (fun x hx => by
    simp only [List.mem_cons, List.not_mem_nil, or_false] at hx
    rcases hx with rfl | rfl
    · exact (leafI hi).shp.mono (by decide) (by decide)
    · exact shpTerms hl hn h) (by simp)).ok (by decide) (by decide)
/-- boards of a size and the terms that they should have -/
def Pairs (C : Addr) (n : Int) (ss : List Int) (F D : List PyData) : Prop := F.length ≤ 100 ∧ ∀ x ∈ zipD F D, ∃ us : List Tm, x = .tuple [brdD C n (us.map Tm.py), .list (us.map Tm.py)] ∧ Fine us ss
theorem zipD_cons {a b : PyData} {F D : List PyData} : zipD (a :: F) (b :: D) = .tuple [a, b] :: zipD F D := rfl
theorem zipD_nil : zipD [] [] = [] := rfl
theorem negs_py (uu : List Int) : uu.map (fun x => PyData.int (-x)) = (negs uu).map .int := by
  unfold negs
  rw [List.map_map]
  rfl
theorem Fine.mir {ts : List Tm} {ss : List Int} (h : Fine ts ss) : Fine (ts.map Tm.mir) (negs ss) := ⟨by rw [List.length_map]; exact h.len, fun t ht => by
  obtain ⟨u, hu, rfl⟩ := List.mem_map.mp ht
  unfold negs
  rw [List.length_map]
  exact (h.good u hu).mir, fun x hx => by
  obtain ⟨y, hy, rfl⟩ := List.mem_map.mp hx
  have := h.mid y hy
  omega⟩
end DL
/-! ### enumerate of a tuple -/
namespace DL
open PySem PySem.Spec L2 PyProof.Rows
theorem meets_enum1 {v : Value} {o : Obj} {H : Heap → Prop} (B : Begins v o H) :
    Meets (Builtin.«enumerate.__new__» ⟨[.type "enumerate", v], []⟩) (fun _ R s => H s.heap ∧
      R (.ok (.ret (.ref (s.heap.push o).objs.size))) { s with heap := (s.heap.push o).push { cls := .type "enumerate", data := .fields #[.none, .bool false, .ref s.heap.objs.size, rawInt 0, .none, .none] } }) :=
  .of_wp fun prog w A R s h => by
    obtain ⟨hp, g, d, tk, os⟩ := s
    obtain ⟨h1, h⟩ := h
    have hsub := sub_enumerate
    have q1 : ∀ {A' : Around} {E : Value → Shared → Prop} {Q : Value → Shared → Prop}, Q (.ref hp.objs.size) ⟨hp.push o, g, d, tk, os⟩ → wpAny (model prog w) A' (pyIter v) Q E ⟨hp, g, d, tk, os⟩ :=
      fun q => B.iter prog w _ _ ⟨hp, g, d, tk, os⟩ _ h1 q
    wp_walk using q1
    refine wpAny_stack_any fun st => wpAny_pure ?_
    split
    · rename_i c _ _ _ _ _
      cases (c == Value.type "enumerate")
      · wp_walk using q1
        exact ⟨_, rfl, h⟩
      · wp_walk using q1
        exact ⟨_, rfl, h⟩
    · wp_walk using q1
      exact ⟨_, rfl, h⟩
theorem enum_begins1 {prog : Program} {w : World} {A : Around} {E : Value → Shared → Prop} {s : Shared} {v : Value} {o : Obj} {H : Heap → Prop} {Q : Value → Shared → Prop} (B : Begins v o H) (h1 : H s.heap)
    (h : ∀ h', IsEnum h' (s.heap.objs.size + 1) s.heap.objs.size 0 .none → h'.get? s.heap.objs.size = some o → h'.objs.size = s.heap.objs.size + 2 →
      (∀ b o, s.heap.get? b = some o → h'.get? b = some o) → Q (.ref (s.heap.objs.size + 1)) { s with heap := h' }) :
    wpAny (model prog w) A (call (.type "enumerate") [v]) Q E s := by
  refine callType_new F.called_enumerate (by decide) (F.typeCall_enumerate_1 _) (F.newCall_enumerate_1 _) (fun obj => F.args_object_init_2 obj _) F.entry_enumerate_new
    (meets_enum1 B) ⟨h1, ?_⟩
  have hz : (s.heap.push o).objs.size = s.heap.objs.size + 1 := Heap.size_push ..
  show _ ∧ _
  rw [hz]
  have he : IsEnum ((s.heap.push o).push { cls := .type "enumerate", data := .fields #[.none, .bool false, .ref s.heap.objs.size, rawInt 0, .none, .none] }) (s.heap.objs.size + 1) s.heap.objs.size 0 .none := by
    have := Heap.get?_push_size (s.heap.push o) (o := { cls := .type "enumerate", data := .fields #[.none, .bool false, .ref s.heap.objs.size, rawInt 0, .none, .none] }) rfl
    rw [hz] at this; exact this
  refine ⟨⟨_, he, rfl⟩, h _ he (Heap.get?_push_of_some _ (Heap.get?_push_size _ B.free)) (by rw [Heap.size_push, hz]) fun b o x => Heap.get?_push_of_some _ (Heap.get?_push_of_some _ x)⟩
/-- the tuple at a, each item with its index in a new pair -/
def IteT (K : PySem.W.Frag) (a : Addr) : It :=
  ⟨fun i H => ∃ (xs : List V) (x : V), SqT K H a xs ∧ xs[i]? = some x, fun i H v H' => ∃ T x, v = .ref T ∧ H T = none ∧ H' = upd H T (.tup [.int (i : Nat), x]) ∧ ∀ xs, SqT K H a xs → xs[i]? = some x, fun i H => ∃ xs : List V, SqT K H a xs ∧ xs.length = i⟩
theorem turn_enumT {P : Program} {w : World} {K : PySem.W.Frag} {elts : List Expr} {kk : Nat} {tpos : Pos} (a e it : Addr) (hai : a ≠ it) (hei : e ≠ it) (hea : e ≠ a) :
    Turn P w K (.Tuple elts kk tpos) (IteT K a) [e, it] e (fun i h => (∃ old, IsEnum h e it ((i : Nat) : Int) old) ∧ h.IsTupleIter it a i) where
  mem := by simp
  obj := fun i h st b hb => by
    obtain ⟨⟨old, he⟩, ⟨o, ho, hc, hd⟩⟩ := st
    have e' : b = e ∨ b = it := by simpa using hb
    rcases e' with z | z
    · rw [z]; exact ⟨_, he, fun v q => nomatch q⟩
    · rw [z]; exact ⟨o, ho, fun v q => by rw [hd] at q; cases q⟩
  keep := fun i h h' st k => let ⟨⟨old, he⟩, hi⟩ := st; ⟨⟨old, k e (by simp) _ he⟩, hi.at fun o q => k it (by simp) o q⟩
  item := by
    intro X hP hw hK hc i pins s σ H E I hf st hg
    subst hP hw hK
    obtain ⟨⟨old, he⟩, hit⟩ := st
    obtain ⟨xs, x, hq, hx⟩ := hg
    obtain ⟨its, rv, p, hz⟩ := I.tuple hq
    obtain ⟨u, hu, ru⟩ := rv.get hx
    have hel : e < s.heap.objs.size := Heap.lt_size he
    have hil : it < s.heap.objs.size := by obtain ⟨_, q, _⟩ := hit; exact Heap.lt_size q
    have hh : X.A.in1.handled = none := I.ok.hd hc
    have lt1 : i < its.toArray.size := by rw [List.size_toArray]; exact (List.getElem?_eq_some_iff.mp hu).1
    refine wpAny_pyNext_enum_itemD (Draws.tuple hh it a hai its.toArray) he ⟨hit, p⟩ lt1 hei (by simp [hei, hea]) fun u' h' tk eu ho st1 hT hsz hk => ?_
    obtain rfl : u = u' := by
      have : its.toArray[i]? = some u := by simpa using hu
      rw [this] at eu
      exact Option.some.inj eu
    refine ⟨_, rfl, wpAny_letOwnedTupleGo_enum (s := { s with heap := h', toks := tk + 1 }) ho fun h'' he' sb => ?_⟩
    have hT2 : h''.get? s.heap.objs.size = some { cls := .type "tuple", data := .seq #[.int i tk, u] } := (sb.2 _ (Nat.ne_of_gt hel)).trans hT
    have new : ObjOk X.prog X.w (upd H s.heap.objs.size (.tup [.int (i : Nat), x])) h'' s.heap.objs.size (.tup [.int (i : Nat), x]) :=
      ⟨by show 2 ≤ sizeLine; decide, [.int i tk, u], .cons ⟨_, rfl⟩ (.cons ru .nil), ⟨_, hT2, rfl, _, rfl⟩⟩
    have I1 : Inv X pins σ (upd H s.heap.objs.size (.tup [.int (i : Nat), x])) { s with heap := h'', toks := tk + 1 } :=
      I.turnedNew (ch := [e, it]) (fun b ob hb q => (sb.2 b (fun z => hb (by simp [z]))).trans (hk b ob (fun z => hb (by simp [z])) (fun z => hb (by simp [z])) q)) hf (Nat.le_refl _) new
    refine ⟨.ref s.heap.objs.size, _, I1, rfl, ⟨_, x, rfl, I.hok.fresh (Nat.le_refl _), rfl, fun ys hy => by rw [I.tuple_inj hy hq]; exact hx⟩, ⟨⟨u, ?_⟩, st1.1.at fun o q => (sb.2 it (Ne.symm hei)).trans q⟩, fun b hb => ?_⟩
    · have e1 : ((i + 1 : Nat) : Int) = (i : Int) + 1 := by omega
      rw [e1]; exact he'
    · have hb' : b < s.heap.objs.size := by
        have e' : b = e ∨ b = it := by simpa using hb
        rcases e' with z | z
        · rw [z]; exact hel
        · rw [z]; exact hil
      rw [upd_ne (Nat.ne_of_lt hb')]
      exact (hf b hb).1
  done := by
    intro X hP hw hK hc i pins s σ H E I hf st hg
    subst hP hw hK
    obtain ⟨⟨old, he⟩, hit⟩ := st
    obtain ⟨xs, hq, hx⟩ := hg
    obtain ⟨its, rv, p, hz⟩ := I.tuple hq
    obtain ⟨f0, f1, f2, f3, f4, f5⟩ := hf it (by simp)
    have hl := rv.length
    have hh : X.A.in1.handled = none := I.ok.hd hc
    have n1 : i = its.toArray.size := by rw [List.size_toArray, ← hx, rv.length]
    subst n1
    exact wpAny_pyNext_enum_endD (Draws.tuple hh it a hai its.toArray) he ⟨hit, p⟩ fun h' eb => ⟨rfl, I.turned (t' := s.toks) (fun b o hb q => eb b o hb q) f0 f1 f3 f4 f5⟩
  self := fun A i s Q E st h => let ⟨⟨_, he⟩, _⟩ := st; wpAny_pyIter_enum he h
def iEnumT (K : PySem.W.Frag) (ta : TA) : TI := fun σ H R => ta σ H fun vs H1 => ∃ a xs, vs = [.ref a] ∧ SqT K H1 a xs ∧ R (IteT K a) H1
theorem pi_enumT {X : Cx} {e : Expr} {ta : TA} {p pos tpos : Pos} {elts : List Expr} {kk : Nat} (hg : Gl X "enumerate") (hm : X.mg "enumerate" = none) (ha : PA X [e] ta) (hs : starEach [e] X.env = [(false, eval e X.env)] := by rfl) :
    PI X (.Tuple elts kk tpos) (.Call (.Name "enumerate" p) [e] [] pos) (iEnumT X.K ta) := by
  refine ⟨fun pins s σ H R I h => ?_⟩
  refine Call_ (ld_blt I hg hm boot_enumerate (PyProof.Rows.callWith_type1 (thn (ha.run pos pins s σ H _ I h) fun us s1 ⟨vs, H1, I1, r1, q1⟩ => ?_) hs rfl))
  obtain ⟨a, xs, ex, hq, q⟩ := q1
  subst ex
  cases r1 with
  | cons r rr =>
    cases rr
    cases r
    obtain ⟨its, rv, p', hz⟩ := I1.tuple hq
    have la : a < s1.heap.objs.size := by
      obtain ⟨_, e, _⟩ := id p'
      exact Heap.lt_size e
    refine enum_begins1 (begins_tuple a its.toArray) p' fun h' he hit hsz hk => wpAny_pyIter_enum he ?_
    have I2 : Inv X pins σ H1 { s1 with heap := h' } := I1.kept (t' := s1.toks) hk
    refine ⟨s1.heap.objs.size + 1, [s1.heap.objs.size + 1, s1.heap.objs.size], _, _, H1, rfl, I2, turn_enumT a (s1.heap.objs.size + 1) s1.heap.objs.size (Nat.ne_of_lt la) (Nat.succ_ne_self _) (Ne.symm (Nat.ne_of_lt (Nat.lt_succ_of_lt la))), ⟨⟨.none, he⟩, ⟨_, hit, rfl, rfl⟩⟩, fun b hb => ?_, q⟩
    have e' : b = s1.heap.objs.size + 1 ∨ b = s1.heap.objs.size := by simpa using hb
    have hle : s1.heap.objs.size ≤ b := by
      rcases e' with z | z
      · rw [z]; exact Nat.le_add_right _ _
      · rw [z]; exact Nat.le_refl _
    exact I1.fpOk hle (I1.hok.fresh hle)
theorem it_enumT {M : Addr → Prop} {B : Gr} {K : PySem.W.Frag} {H : Hp} {a : Addr} {xs : List V} {l : List PyData} (n : ¬ M a) (e : H a = some (.tup xs)) (h : DtA M H xs l) : ItOk M B H (IteT K a) (enumD l) := fun M2 H2 g2 k i => by
  have ea := (k _ _ n e).2
  rw [enumD_len]
  refine ⟨fun hi => ⟨xs, SqT.of ea, by rw [h.length]; omega⟩, fun hi => ?_⟩
  obtain ⟨v, hv, r⟩ := DtA.get i h (List.getElem?_eq_getElem hi)
  refine ⟨⟨xs, v, SqT.of ea, hv⟩, fun x H3 ⟨T, y, ex, hT, eH, f1⟩ => ?_⟩
  have q1 := f1 xs (SqT.of ea)
  rw [hv] at q1
  cases q1
  subst ex eH
  exact ⟨g2.new hT, Keep.new hT, _, enumD_at (List.getElem?_eq_getElem hi), Dt.newT g2 hT (.cons (.int _) (.cons (r.map k) .nil))⟩
def diEnumT (t : TDL) : TDL := fun ds Q => t ds fun l => match l with
  | [.tuple a] => dSize a.length ∧ Q (enumD a)
  | _ => False
theorem di_enumT (K : PySem.W.Frag) {X : Cx} {B : Gr} {e : Expr} {ta : TA} {p pos tpos : Pos} {elts : List Expr} {kk : Nat} {l : TDL} (hg : Gl X "enumerate") (hm : X.mg "enumerate" = none) (ha : PDL X B [e] ta l)
    (hs : starEach [e] X.env = (false, eval e X.env) :: starEach [] X.env := by rfl) (hK : X.K = K := by rfl) :
    PDI X B (.Tuple elts kk tpos) (.Call (.Name "enumerate" p) [e] [] pos) (iEnumT K ta) (diEnumT l) := by
  subst hK
  refine ⟨pi_enumT hg hm ha.pa hs, fun M σ H ds Q R g en q c => ha.sl M σ H ds _ _ g en q fun vs H1 l' g1 k1 hl q1 => ?_⟩
  split at q1
  · cases hl with
    | cons h1 t1 =>
      cases t1
      cases h1 with
      | tup n e a => exact ⟨_, _, rfl, SqT.of e, c _ H1 _ g1 k1 (it_enumT n e a) (by rw [enumD_len]; exact q1.1.le) q1.2⟩
  · exact q1.elim
end DL
/-! ### a call as a statement; steps and gains -/
namespace DL
open PySem L2
section
variable {X : Cx} {B : Gr} {e : Expr} {te : TE} {d : TDE} {pos : Pos}
def sDrop (d : TDE) : TDS := fun DD ds => d ds fun _ => DD.nx ds
theorem ds_expr (h : PD X B e te d) (hs : swapsWith e none pos.line X.env = pure false := by rfl) : PDS X B (.Expr e pos) (tDrop te) (sDrop d) :=
  ⟨ps_expr h.pe hs, fun M σ H ds DD D e o q c => h.se M σ H ds _ _ e.g o.at_ q fun v H1 x g1 k1 hx q1 => c.nx M σ H1 ds (e.expr g1 k1) (k1.stay e.g.1) (o.expr e.g.1 k1) q1⟩
end
/-- each dial of the group moved by b -/
def stepV (ss gs : List Int) (b : Int) : List Int := ss.mapIdx fun i s => if (i : Int) ∈ gs then s + b else s
theorem stepV_len {ss gs : List Int} {b : Int} : (stepV ss gs b).length = ss.length := by
  unfold stepV
  rw [List.length_mapIdx]
theorem enum_py {ss : List Int} {f : Nat → Int → Int} {F : PyData → PyData} (hF : ∀ (i : Nat) (s : Int), F (.tuple [.int i, .int s]) = .int (f i s)) : (enumD (ss.map PyData.int)).map F = (ss.mapIdx f).map PyData.int := by
  apply List.ext_getElem?
  intro i
  rw [List.getElem?_map, List.getElem?_map, List.getElem?_mapIdx]
  cases e : ss[i]? with
  | none =>
    have h : (enumD (ss.map PyData.int))[i]? = none := by
      rw [List.getElem?_eq_none_iff, enumD_len, List.length_map]
      exact List.getElem?_eq_none_iff.mp e
    rw [h]
    rfl
  | some s =>
    have h : (enumD (ss.map PyData.int))[i]? = some (.tuple [.int i, .int s]) := enumD_at (by rw [List.getElem?_map, e]; rfl)
    rw [h]
    show some (F (.tuple [.int i, .int s])) = _
    rw [hF]
    rfl
theorem range_py {ss : List Int} {n : Nat} {f : Nat → Int → Int} {F : PyData → PyData} (hn : n = ss.length) (hF : ∀ (i : Nat) (s : Int), ss[i]? = some s → F (.int i) = .int (f i s)) : (rangeD 0 n).map F = (ss.mapIdx f).map PyData.int := by
  subst hn
  apply List.ext_getElem?
  intro i
  rw [List.getElem?_map, List.getElem?_map, List.getElem?_mapIdx]
  cases e : ss[i]? with
  | none =>
    have h : (rangeD 0 ss.length)[i]? = none := by
      rw [List.getElem?_eq_none_iff, rangeD_len]
      exact List.getElem?_eq_none_iff.mp e
    rw [h]
    rfl
  | some s =>
    obtain ⟨hi, _⟩ := List.getElem?_eq_some_iff.mp e
    have h : (rangeD 0 ss.length)[i]? = some (.int i) := by
      rw [rangeD_at hi]
      congr 2
      omega
    rw [h]
    show some (F (.int i)) = _
    rw [hF i s e]
    rfl
def stepR : DR := fun xs Q => ∃ (ss gs : List Int) (w k : Int), xs = [.dat (.tuple (ss.map .int)), .dat (.int w), .dat (.list (gs.map .int)), .dat (.int k)] ∧ ss.length < 1000 ∧ w.natAbs < 2 ^ 300 ∧ k.natAbs < 2 ^ 300 ∧ Q (.tuple ((stepV ss gs (w * k)).map .int))
def lawStepR : DR := fun xs Q => ∃ (ss gs : List Int) (w : Int), xs = [.dat (.tuple (ss.map .int)), .dat (.int w), .dat (.list (gs.map .int))] ∧ ss.length < 1000 ∧ w.natAbs < 2 ^ 300 ∧ Q (.tuple ((stepV ss gs w).map .int))
/-- what a step from ss to tt gains -/
def gainV (ts : List Tm) (ss tt : List Int) : PyData := if isNone (leftV ts tt) = true then .int ((costs ts ss).sum - (costs ts tt).sum) else .none
def allowedR (C : Addr) : DR := fun xs Q => ∃ (n : Int) (ts : List Tm) (ss : List Int), xs = [.dat (brdD C n (ts.map Tm.py)), .dat (.tuple (ss.map .int))] ∧ Fine ts ss ∧ isNone (leftV ts ss) = true ∧ Q .none
def gainR (C : Addr) : DR := fun xs Q => ∃ (n : Int) (ts : List Tm) (ss gs : List Int) (w : Int), xs = [.dat (brdD C n (ts.map Tm.py)), .dat (.tuple (ss.map .int)), .dat (.int w), .dat (.list (gs.map .int))] ∧ Fine ts ss ∧ Fine ts (stepV ss gs w) ∧ ss.length < 1000 ∧ w.natAbs < 2 ^ 300 ∧ isNone (leftV ts ss) = true ∧ Q (gainV ts ss (stepV ss gs w))
def lawGainR : DR := fun xs Q => ∃ (ts : List Tm) (ss gs : List Int) (w : Int), xs = [.dat (.list (ts.map Tm.py)), .dat (.tuple (ss.map .int)), .dat (.int w), .dat (.list (gs.map .int))] ∧ Fine ts ss ∧ Fine ts (stepV ss gs w) ∧ ss.length < 1000 ∧ w.natAbs < 2 ^ 300 ∧ isNone (leftV ts ss) = true ∧ Q (gainV ts ss (stepV ss gs w))
theorem gain_sub {ts : List Tm} {ss tt : List Int} {Q : PyData → Prop} (h : Q (gainV ts ss tt)) : (isNone (leftV ts tt) = true ∧ strainV ts tt = .int (costs ts tt).sum ∧ Q (.int ((costs ts ss).sum - (costs ts tt).sum))) ∨ (isNone (leftV ts tt) = false ∧ strainV ts tt = .none ∧ Q .none) := by
  rcases strain_cases ts tt with ⟨e1, e2⟩ | ⟨e1, e2⟩
  · refine .inl ⟨e1, e2, ?_⟩
    unfold gainV at h
    rw [e1, if_pos rfl] at h
    exact h
  · refine .inr ⟨e1, e2, ?_⟩
    unfold gainV at h
    rw [e1, if_neg Bool.false_ne_true] at h
    exact h
theorem strain_at {ts : List Tm} {ss : List Int} (h : isNone (leftV ts ss) = true) : strainV ts ss = .int (costs ts ss).sum := by
  rcases strain_cases ts ss with ⟨_, e2⟩ | ⟨e1, _⟩
  · exact e2
  · rw [h] at e1
    cases e1
end DL
/-! ### steps and gains: the mathematics -/
namespace DL
open PySem L2
/-- 1 for a dial of the group -/
def bit (gs : List Int) (i : Int) : Int := if i ∈ gs then 1 else 0
theorem at_step {ss gs : List Int} {b i : Int} (h0 : 0 ≤ i) (h1 : i < ss.length) : Tm.at_ (stepV ss gs b) i = Tm.at_ ss i + (if i ∈ gs then b else 0) := by
  have h2 : i.toNat < ss.length := by omega
  have e : ((i.toNat : Nat) : Int) = i := by omega
  unfold Tm.at_ stepV
  rw [List.getD_eq_getElem?_getD, List.getD_eq_getElem?_getD, List.getElem?_mapIdx, List.getElem?_eq_getElem h2]
  show (if ((i.toNat : Nat) : Int) ∈ gs then ss[i.toNat] + b else ss[i.toNat]) = ss[i.toNat] + (if i ∈ gs then b else 0)
  rw [e]
  split <;> omega
theorem step_congr {ss gs hs : List Int} {b : Int} (h : ∀ i : Int, i ∈ gs ↔ i ∈ hs) : stepV ss gs b = stepV ss hs b := by
  unfold stepV
  congr 1
  funext i s
  simp only [h]
theorem step_nil {ss : List Int} {b : Int} : stepV ss [] b = ss := by
  apply List.ext_getElem?
  intro i
  unfold stepV
  rw [List.getElem?_mapIdx]
  cases ss[i]? <;> simp
/-- back with a part: the step with the rest -/
theorem step_back {ss gs hs rs : List Int} {b : Int} (h1 : ∀ i : Int, i ∈ hs → i ∈ gs) (h2 : ∀ i : Int, i ∈ rs ↔ i ∈ gs ∧ i ∉ hs) : stepV (stepV ss gs b) hs (-b) = stepV ss rs b := by
  apply List.ext_getElem?
  intro i
  unfold stepV
  rw [List.getElem?_mapIdx, List.getElem?_mapIdx, List.getElem?_mapIdx]
  cases ss[i]? with
  | none => rfl
  | some s =>
    show some (if (i : Int) ∈ hs then (if (i : Int) ∈ gs then s + b else s) + -b else if (i : Int) ∈ gs then s + b else s) = some (if (i : Int) ∈ rs then s + b else s)
    congr 1
    by_cases a : (i : Int) ∈ hs
    · rw [if_pos a, if_pos (h1 _ a), if_neg (fun z => ((h2 _).mp z).2 a)]
      omega
    · rw [if_neg a]
      by_cases c : (i : Int) ∈ gs
      · rw [if_pos c, if_pos ((h2 _).mpr ⟨c, a⟩)]
      · rw [if_neg c, if_neg (fun z => c ((h2 _).mp z).1)]
theorem step_negs {ss gs : List Int} {b : Int} : stepV (negs ss) gs (-b) = negs (stepV ss gs b) := by
  apply List.ext_getElem?
  intro i
  unfold stepV negs
  rw [List.getElem?_mapIdx, List.getElem?_map, List.getElem?_map, List.getElem?_mapIdx]
  cases ss[i]? with
  | none => rfl
  | some s =>
    show some (if (i : Int) ∈ gs then -s + -b else -s) = some (-(if (i : Int) ∈ gs then s + b else s))
    congr 1
    split <;> omega
theorem arg_step {t : Tm} {ss gs : List Int} {b : Int} (h : t.In ss.length) : t.arg (stepV ss gs b) = t.arg ss + match t with
    | .wish d .. => (if d ∈ gs then b else 0)
    | .stop d .. => (if d ∈ gs then b else 0)
    | .tie d o .. => (if d ∈ gs then b else 0) - (if o ∈ gs then b else 0)
    | .bar d o .. => (if d ∈ gs then b else 0) - (if o ∈ gs then b else 0) := by
  cases t with
  | wish d l u f => exact at_step h.1 h.2
  | stop d l u => exact at_step h.1 h.2
  | tie d o l u f =>
    show Tm.at_ _ d - Tm.at_ _ o = _
    rw [at_step h.1.1 h.1.2, at_step h.2.1 h.2.2]
    show _ = Tm.at_ ss d - Tm.at_ ss o + ((if d ∈ gs then b else 0) - (if o ∈ gs then b else 0))
    omega
  | bar d o l u =>
    show Tm.at_ _ d - Tm.at_ _ o = _
    rw [at_step h.1.1 h.1.2, at_step h.2.1 h.2.2]
    show _ = Tm.at_ ss d - Tm.at_ ss o + ((if d ∈ gs then b else 0) - (if o ∈ gs then b else 0))
    omega
theorem dist_sub {t : Tm} {ss g1 g2 gu gi : List Int} {b : Int} (lh : t.low ≤ t.high) (h : t.In ss.length) (hb : b = 1 ∨ b = -1) (hu : ∀ i : Int, i ∈ gu ↔ i ∈ g1 ∨ i ∈ g2) (hi : ∀ i : Int, i ∈ gi ↔ i ∈ g1 ∧ i ∈ g2) :
    t.dist (t.arg (stepV ss gu b)) + t.dist (t.arg (stepV ss gi b)) ≤ t.dist (t.arg (stepV ss g1 b)) + t.dist (t.arg (stepV ss g2 b)) := by
  rw [arg_step h, arg_step h, arg_step h, arg_step h]
  have two : ∀ v d o : Int, t.dist (v + ((if d ∈ gu then b else 0) - (if o ∈ gu then b else 0))) + t.dist (v + ((if d ∈ gi then b else 0) - (if o ∈ gi then b else 0))) ≤ t.dist (v + ((if d ∈ g1 then b else 0) - (if o ∈ g1 then b else 0))) + t.dist (v + ((if d ∈ g2 then b else 0) - (if o ∈ g2 then b else 0))) := fun v d o => by
    simp only [hu, hi]
    unfold Tm.dist
    by_cases d1 : d ∈ g1 <;> by_cases d2 : d ∈ g2 <;> by_cases o1 : o ∈ g1 <;> by_cases o2 : o ∈ g2 <;> simp only [d1, d2, o1, o2, or_true, or_false, true_or, false_or, and_true, and_false, true_and, false_and, if_true, if_false] <;> rcases hb with rfl | rfl <;> (repeat' split) <;> omega
  have one : ∀ v d : Int, t.dist (v + (if d ∈ gu then b else 0)) + t.dist (v + (if d ∈ gi then b else 0)) ≤ t.dist (v + (if d ∈ g1 then b else 0)) + t.dist (v + (if d ∈ g2 then b else 0)) := fun v d => by
    simp only [hu, hi]
    by_cases d1 : d ∈ g1 <;> by_cases d2 : d ∈ g2 <;> simp only [d1, d2, or_true, or_false, true_or, false_or, and_true, and_false, true_and, false_and, if_true, if_false, or_self, and_self] <;> omega
  cases t with
  | wish d l u f => exact one _ d
  | stop d l u => exact one _ d
  | tie d o l u f => exact two _ d o
  | bar d o l u => exact two _ d o
theorem left_iff {ss : List Int} : ∀ {ts : List Tm} {k : Nat}, isNone (leftFrom ss k ts) = true ↔ ∀ t ∈ ts, t.gone ss = false
  | [], k => ⟨(fun _ _ h => nomatch h), fun _ => rfl⟩
  | t :: ts, k => by
    unfold leftFrom
    cases g : t.gone ss with
    | true =>
      rw [if_pos rfl]
      exact ⟨(fun z => nomatch z), fun z => by rw [z t (List.mem_cons_self ..)] at g; cases g⟩
    | false =>
      rw [if_neg Bool.false_ne_true, left_iff (ts := ts)]
      exact ⟨fun z u hu => by
        rcases List.mem_cons.mp hu with rfl | hu
        · exact g
        · exact z u hu, fun z u hu => z u (List.mem_cons_of_mem _ hu)⟩
/-- where steps with two groups are possible, so are those with both and with the common dials -/
theorem left_sub {ts : List Tm} {ss g1 g2 gu gi : List Int} {b : Int} (hf : ∀ t ∈ ts, t.low ≤ t.high ∧ t.In ss.length) (hb : b = 1 ∨ b = -1) (hu : ∀ i : Int, i ∈ gu ↔ i ∈ g1 ∨ i ∈ g2) (hi : ∀ i : Int, i ∈ gi ↔ i ∈ g1 ∧ i ∈ g2)
    (l1 : isNone (leftV ts (stepV ss g1 b)) = true) (l2 : isNone (leftV ts (stepV ss g2 b)) = true) : isNone (leftV ts (stepV ss gu b)) = true ∧ isNone (leftV ts (stepV ss gi b)) = true := by
  have both : ∀ t ∈ ts, t.gone (stepV ss gu b) = false ∧ t.gone (stepV ss gi b) = false := fun t ht => by
    have a1 := left_iff.mp l1 t ht
    have a2 := left_iff.mp l2 t ht
    obtain ⟨lh, inn⟩ := hf t ht
    have d := dist_sub lh inn hb hu hi
    have p1 := (Tm.dist_ge (t := t) (o := t.arg (stepV ss gu b)) lh)
    have p2 := (Tm.dist_ge (t := t) (o := t.arg (stepV ss gi b)) lh)
    unfold Tm.gone at *
    cases hs : t.soft with
    | true => exact ⟨rfl, rfl⟩
    | false =>
      rw [hs] at a1 a2
      have e1 : t.dist (t.arg (stepV ss g1 b)) = 0 := by simpa using a1
      have e2 : t.dist (t.arg (stepV ss g2 b)) = 0 := by simpa using a2
      have q1 : 0 ≤ t.dist (t.arg (stepV ss gu b)) := by unfold Tm.dist; split <;> (try split) <;> omega
      have q2 : 0 ≤ t.dist (t.arg (stepV ss gi b)) := by unfold Tm.dist; split <;> (try split) <;> omega
      have z1 : t.dist (t.arg (stepV ss gu b)) = 0 := by omega
      have z2 : t.dist (t.arg (stepV ss gi b)) = 0 := by omega
      rw [z1, z2]
      exact ⟨rfl, rfl⟩
  exact ⟨left_iff.mpr fun t ht => (both t ht).1, left_iff.mpr fun t ht => (both t ht).2⟩
theorem costs_cons {ss : List Int} {t : Tm} {ts : List Tm} : (costs (t :: ts) ss).sum = (if t.soft = true then t.force * t.dist (t.arg ss) else 0) + (costs ts ss).sum := by
  unfold costs
  cases hs : t.soft with
  | true => rw [List.filter_cons_of_pos hs, List.map_cons, List.sum_cons, if_pos rfl]
  | false => rw [List.filter_cons_of_neg (by rw [hs]; exact Bool.false_ne_true), if_neg Bool.false_ne_true, Int.zero_add]
theorem costs_sub {ss g1 g2 gu gi : List Int} {b : Int} (hb : b = 1 ∨ b = -1) (hu : ∀ i : Int, i ∈ gu ↔ i ∈ g1 ∨ i ∈ g2) (hi : ∀ i : Int, i ∈ gi ↔ i ∈ g1 ∧ i ∈ g2) : ∀ {ts : List Tm}, (∀ t ∈ ts, (t.low ≤ t.high ∧ t.In ss.length) ∧ 0 ≤ t.force) →
    (costs ts (stepV ss gu b)).sum + (costs ts (stepV ss gi b)).sum ≤ (costs ts (stepV ss g1 b)).sum + (costs ts (stepV ss g2 b)).sum
  | [], _ => by simp [costs]
  | t :: ts, h => by
    have ih := costs_sub hb hu hi (ts := ts) fun u hu' => h u (List.mem_cons_of_mem _ hu')
    obtain ⟨⟨lh, inn⟩, f0⟩ := h t (List.mem_cons_self ..)
    have d := dist_sub lh inn hb hu hi
    rw [costs_cons, costs_cons, costs_cons, costs_cons]
    split
    · have m := Int.mul_le_mul_of_nonneg_left d f0
      rw [Int.mul_add, Int.mul_add] at m
      omega
    · omega
theorem Fine.step {ts : List Tm} {ss gs : List Int} {b : Int} (h : Fine ts ss) (hs : ∀ x ∈ ss, -(10 ^ 50) < x ∧ x < 10 ^ 50) (hb : b = 1 ∨ b = -1) : Fine ts (stepV ss gs b) := by
  refine ⟨h.len, fun t ht => by rw [stepV_len]; exact h.good t ht, fun x hx => ?_⟩
  obtain ⟨i, hi⟩ := List.getElem?_of_mem hx
  unfold stepV at hi
  rw [List.getElem?_mapIdx] at hi
  cases e : ss[i]? with
  | none => rw [e] at hi; cases hi
  | some s =>
    rw [e] at hi
    have q := Option.some.inj hi
    have m := hs s (List.mem_of_getElem? e)
    have q2 : (if (i : Int) ∈ gs then s + b else s) = x := q
    split at q2 <;> omega
theorem left_mir {ss : List Int} {ts : List Tm} (h : ∀ t ∈ ts, t.low ≤ t.high) : isNone (leftV (ts.map Tm.mir) (negs ss)) = isNone (leftV ts ss) := by
  have g : ∀ t ∈ ts, t.mir.gone (negs ss) = t.gone ss := fun t ht => by
    unfold Tm.gone
    rw [Tm.mir_soft, Tm.mir_dist (h t ht)]
  rw [Bool.eq_iff_iff]
  show isNone (leftFrom _ 0 _) = true ↔ isNone (leftFrom _ 0 _) = true
  rw [left_iff, left_iff]
  exact ⟨fun z t ht => by rw [← g t ht]; exact z _ (List.mem_map.mpr ⟨t, ht, rfl⟩), fun z t ht => by
    obtain ⟨u, hu, rfl⟩ := List.mem_map.mp ht
    rw [g u hu]
    exact z u hu⟩
theorem costs_mir {ss : List Int} : ∀ {ts : List Tm}, (∀ t ∈ ts, t.low ≤ t.high) → (costs (ts.map Tm.mir) (negs ss)).sum = (costs ts ss).sum
  | [], _ => rfl
  | t :: ts, h => by
    rw [List.map_cons, costs_cons, costs_cons, Tm.mir_soft, Tm.mir_force, Tm.mir_dist (h t (List.mem_cons_self ..)), costs_mir fun u hu => h u (List.mem_cons_of_mem _ hu)]
theorem gain_mir {ss gs : List Int} {ts : List Tm} {b : Int} (h : ∀ t ∈ ts, t.low ≤ t.high) : gainV (ts.map Tm.mir) (negs ss) (stepV (negs ss) gs (-b)) = gainV ts ss (stepV ss gs b) := by
  unfold gainV
  rw [step_negs, left_mir h, costs_mir h, costs_mir h]
end DL
/-! ### groups; gains of none -/
namespace DL
open PySem L2
structure Grp (gs : List Int) : Prop where
  len : gs.length ≤ 8
  mid : ∀ d ∈ gs, 0 ≤ d ∧ d < 8
theorem Grp.ok {gs : List Int} (h : Grp gs) : OkD (.list (gs.map .int)) := okLst (fun x hx => by
  obtain ⟨d, hd, rfl⟩ := List.mem_map.mp hx
  have := h.mid d hd
  exact leafI ⟨by omega, by omega⟩) (by rw [List.length_map]; have := h.len; omega)
theorem gain_self {ts : List Tm} {ss : List Int} (h : isNone (leftV ts ss) = true) : gainV ts ss ss = .int 0 := by
  unfold gainV
  rw [h, if_pos rfl, Int.sub_self]
theorem gain_int {ts : List Tm} {ss tt : List Int} (h : isNone (leftV ts tt) = true) : gainV ts ss tt = .int ((costs ts ss).sum - (costs ts tt).sum) := by
  unfold gainV
  rw [h, if_pos rfl]
theorem gain_non {ts : List Tm} {ss tt : List Int} (h : isNone (leftV ts tt) = false) : gainV ts ss tt = .none := by
  unfold gainV
  rw [h, if_neg Bool.false_ne_true]
theorem step_mid {ss gs : List Int} {A b : Int} (hs : ∀ x ∈ ss, -A < x ∧ x < A) (hb : b = 1 ∨ b = -1) : ∀ x ∈ stepV ss gs b, -(A + 1) < x ∧ x < A + 1 := fun x hx => by
  obtain ⟨i, hi⟩ := List.getElem?_of_mem hx
  unfold stepV at hi
  rw [List.getElem?_mapIdx] at hi
  cases e : ss[i]? with
  | none => rw [e] at hi; cases hi
  | some s =>
    rw [e] at hi
    have q := Option.some.inj hi
    have m := hs s (List.mem_of_getElem? e)
    have q2 : (if (i : Int) ∈ gs then s + b else s) = x := q
    split at q2 <;> omega
/-- a board at an allowed standing, a way -/
structure Sit (ts : List Tm) (ss : List Int) (w : Int) : Prop where
  fine : Fine ts ss
  mid : ∀ x ∈ ss, -(10 ^ 40) < x ∧ x < 10 ^ 40
  way : w = 1 ∨ w = -1
  len : ss.length < 1000
  al : isNone (leftV ts ss) = true
theorem dist_back {t : Tm} {ss g p r : List Int} {b : Int} (lh : t.low ≤ t.high) (h : t.In ss.length) (hb : b = 1 ∨ b = -1) (hp : ∀ i : Int, i ∈ p → i ∈ g) (hr : ∀ i : Int, i ∈ r ↔ i ∈ g ∧ i ∉ p) :
    t.dist (t.arg (stepV ss r b)) + t.dist (t.arg ss) ≤ t.dist (t.arg (stepV ss g b)) + t.dist (t.arg (stepV ss p (-b))) := by
  rw [arg_step h, arg_step h, arg_step h]
  have two : ∀ v d o : Int, t.dist (v + ((if d ∈ r then b else 0) - (if o ∈ r then b else 0))) + t.dist v ≤ t.dist (v + ((if d ∈ g then b else 0) - (if o ∈ g then b else 0))) + t.dist (v + ((if d ∈ p then -b else 0) - (if o ∈ p then -b else 0))) := fun v d o => by
    have hd := hp d
    have ho := hp o
    simp only [hr]
    unfold Tm.dist
    by_cases d1 : d ∈ g <;> by_cases d2 : d ∈ p <;> by_cases o1 : o ∈ g <;> by_cases o2 : o ∈ p <;> (first | exact absurd (hd d2) d1 | exact absurd (ho o2) o1 | skip) <;> simp only [d1, d2, o1, o2, not_true, not_false_eq_true, or_true, or_false, true_or, false_or, and_true, and_false, true_and, false_and, if_true, if_false] <;> rcases hb with rfl | rfl <;> (repeat' split) <;> omega
  have one : ∀ v d : Int, t.dist (v + (if d ∈ r then b else 0)) + t.dist v ≤ t.dist (v + (if d ∈ g then b else 0)) + t.dist (v + (if d ∈ p then -b else 0)) := fun v d => by
    have hd := hp d
    simp only [hr]
    unfold Tm.dist
    by_cases d1 : d ∈ g <;> by_cases d2 : d ∈ p <;> (first | exact absurd (hd d2) d1 | skip) <;> simp only [d1, d2, not_true, not_false_eq_true, or_true, or_false, true_or, false_or, and_true, and_false, true_and, false_and, if_true, if_false] <;> rcases hb with rfl | rfl <;> (repeat' split) <;> omega
  cases t with
  | wish d l u f => exact one _ d
  | stop d l u => exact one _ d
  | tie d o l u f => exact two _ d o
  | bar d o l u => exact two _ d o
theorem gone_zero {t : Tm} {ss : List Int} (hs : t.soft = false) : t.gone ss = false ↔ t.dist (t.arg ss) = 0 := by
  unfold Tm.gone
  rw [hs]
  simp
theorem left_back {ts : List Tm} {ss g p r : List Int} {b : Int} (hf : ∀ t ∈ ts, t.low ≤ t.high ∧ t.In ss.length) (hb : b = 1 ∨ b = -1) (hp : ∀ i : Int, i ∈ p → i ∈ g) (hr : ∀ i : Int, i ∈ r ↔ i ∈ g ∧ i ∉ p)
    (l1 : isNone (leftV ts (stepV ss g b)) = true) (l2 : isNone (leftV ts (stepV ss p (-b))) = true) : isNone (leftV ts (stepV ss r b)) = true := by
  refine left_iff.mpr fun t ht => ?_
  have a1 := left_iff.mp l1 t ht
  have a2 := left_iff.mp l2 t ht
  obtain ⟨lh, inn⟩ := hf t ht
  have d := dist_back lh inn hb hp hr
  cases hs : t.soft with
  | true =>
    unfold Tm.gone
    rw [hs]
    rfl
  | false =>
    rw [gone_zero hs] at a1 a2 ⊢
    have q1 : 0 ≤ t.dist (t.arg (stepV ss r b)) := by unfold Tm.dist; split <;> (try split) <;> omega
    have q2 : 0 ≤ t.dist (t.arg ss) := by unfold Tm.dist; split <;> (try split) <;> omega
    omega
theorem costs_back {ss g p r : List Int} {b : Int} (hb : b = 1 ∨ b = -1) (hp : ∀ i : Int, i ∈ p → i ∈ g) (hr : ∀ i : Int, i ∈ r ↔ i ∈ g ∧ i ∉ p) : ∀ {ts : List Tm}, (∀ t ∈ ts, (t.low ≤ t.high ∧ t.In ss.length) ∧ 0 ≤ t.force) →
    (costs ts (stepV ss r b)).sum + (costs ts ss).sum ≤ (costs ts (stepV ss g b)).sum + (costs ts (stepV ss p (-b))).sum
  | [], _ => by simp [costs]
  | t :: ts, h => by
    have ih := costs_back hb hp hr (ts := ts) fun u hu' => h u (List.mem_cons_of_mem _ hu')
    obtain ⟨⟨lh, inn⟩, f0⟩ := h t (List.mem_cons_self ..)
    have d := dist_back lh inn hb hp hr
    rw [costs_cons, costs_cons, costs_cons, costs_cons]
    split
    · have m := Int.mul_le_mul_of_nonneg_left d f0
      rw [Int.mul_add, Int.mul_add] at m
      omega
    · omega
theorem Grp.filter {gs : List Int} (h : Grp gs) (f : Int → Bool) : Grp (gs.filter f) := ⟨Nat.le_trans (List.length_filter_le _ _) h.len, fun d hd => h.mid d (List.mem_filter.mp hd).1⟩
def orNoneR (C : Addr) : DR := fun xs Q => ∃ (n : Int) (ts : List Tm) (ss gs : List Int) (w : Int), xs = [.dat (brdD C n (ts.map Tm.py)), .dat (.tuple (ss.map .int)), .dat (.int w), .dat (.list (gs.map .int))] ∧ Fine ts ss ∧ (∀ x ∈ ss, -(10 ^ 50) < x ∧ x < 10 ^ 50) ∧ (w = 1 ∨ w = -1) ∧ ss.length < 1000 ∧ isNone (leftV ts ss) = true ∧ Grp gs ∧ Q (gainV ts ss (stepV ss gs w))
def backR (C : Addr) : DR := fun xs Q => ∃ (n : Int) (ts : List Tm) (ss one part : List Int) (w : Int), xs = [.dat (brdD C n (ts.map Tm.py)), .dat (.tuple (ss.map .int)), .dat (.int w), .dat (.list (one.map .int)), .dat (.list (part.map .int))] ∧ Sit ts ss w ∧ Grp one ∧ Grp part ∧ (∀ d ∈ part, d ∈ one) ∧ Q (.bool true)
end DL
/-! ### set(list of ints), sorted(set(..)); a list unpacked; or between values -/
namespace DL
open PySem PySem.Spec L2 PyProof.Rows
/-- a set with nothing in it yet -/
abbrev setE (w : World) : Obj := ⟨.type "set", none, .set #[] 0 (.fresh 0 0 (!w.params.followText "set-order")), #[]⟩
section
variable {P : Program} {w : World} {A : Around} {E : Value → Shared → Prop} {s : Shared}
theorem setL_fill {S l : Addr} {items : Array Value} {ns : List Int} {R : Result → Shared → Prop} (hh : A.in1.handled = none) (hS : s.heap.get? S = some (setE w)) (hl : s.heap.IsList l items) (hi : IntsAre items.toList ns) (hb : ns.length + 1 < scanBound)
    (h : ∀ (h' : Heap) (t c : Nat), SetR w h' S (fun j => decide (j ∈ ns)) c → c ≤ ns.length → (∀ b o, b ≠ S → s.heap.get? b = some o → h'.get? b = some o) → R (.ok (.ret .none)) { s with heap := h', toks := t }) :
    codeAny (model P w) A (.builtin "set.update.loop" ⟨[.ref S, .ref s.heap.objs.size], []⟩) R { s with heap := s.heap.push ⟨.type "list_iterator", none, .fields #[.ref l, .int 0 0], #[]⟩ } := by
  have hz : items.size = ns.length := by have q := IntsAre.length hi; rwa [Array.length_toList] at q
  have sI : S < s.heap.objs.size := Heap.lt_size hS
  have lI : l < s.heap.objs.size := let ⟨_, e, _⟩ := hl; Heap.lt_size e
  have Sl : S ≠ l := fun z => by
    obtain ⟨o, e, c, _⟩ := hl
    rw [← z, hS] at e
    cases e
    exact absurd (Value.type.inj c) (by decide)
  have val : ∀ (i : Nat) (v : Value), items[i]? = some v → ∃ k t, ns[i]? = some k ∧ v = .int k t := fun i v hv => by
    have lt : i < ns.length := hz ▸ (Array.getElem?_eq_some_iff.mp hv).1
    obtain ⟨t, e⟩ := IntsAre.int_at hi i v (by rw [Array.getElem?_toList]; exact hv)
    refine ⟨ns[i], t, List.getElem?_eq_getElem lt, e.trans ?_⟩
    rw [List.getD_eq_getElem?_getD, List.getElem?_eq_getElem lt]
    rfl
  have nf : S ∉ [s.heap.objs.size, l] := fun z => by
    rcases List.mem_cons.mp z with z | z
    · exact absurd z (Nat.ne_of_lt sI)
    · exact Sl (List.mem_singleton.mp z)
  refine set_update_ints (Walks.list hh s.heap.objs.size l (Nat.ne_of_lt lI) items).toS S nf ns hz hb val items.size 0 _ rfl (Nat.zero_le _) ⟨⟨_, Heap.get?_push_size _ rfl, rfl, rfl⟩, hl.push _⟩ ⟨0, Nat.le_refl 0, setR_new_at (Heap.get?_push_of_some _ hS)⟩ ?_
  rintro ⟨h', g', d', t', o'⟩ c hm hc hR
  obtain rfl : g' = s.gens := hm.gens
  obtain rfl : d' = s.drawn := hm.drawn
  obtain rfl : o' = s.os := hm.os
  refine h h' t' c hR (hz ▸ hc) fun b o hb2 e => hm.heap b o (fun z => ?_) (Heap.get?_push_of_some _ e)
  rcases List.mem_cons.mp z with z | z
  · exact hb2 z
  · exact absurd (List.mem_singleton.mp z) (Nat.ne_of_lt (Heap.lt_size e))
theorem setL_init {S l : Addr} {items : Array Value} {ns : List Int} (hh : A.handled = none) (hS : s.heap.get? S = some (setE w)) (hl : s.heap.IsList l items) (hi : IntsAre items.toList ns) (hb : ns.length + 1 < scanBound) {Q : PySem.Fin → Shared → Prop}
    (h : ∀ (h' : Heap) (t c : Nat), SetR w h' S (fun j => decide (j ∈ ns)) c → c ≤ ns.length → (∀ b o, b ≠ S → s.heap.get? b = some o → h'.get? b = some o) → Q (.done (.ret .none)) { s with heap := h', toks := t }) :
    wpAny (model P w) A (Builtin.«set.__init__» ⟨[.ref S, .ref l], []⟩) Q E s := by
  have hT : s.TypeIs (.ref S) "set" := ⟨_, hS, rfl⟩
  obtain ⟨⟨c0, d0, x0, sl0⟩, hol, hcl, nl, hdl⟩ := id hl
  cases hcl
  cases hdl
  have ne := (show (Value.type "list" == Value.type "dict") = false by decide)
  have f1 := F.sub_list_set
  have f2 := F.sub_list_frozenset
  unfold Builtin.«set.__init__» noKeywords Builtin.Frozenset.updateFrom
  generalize hP : pyIter = PI
  wp_walk
  subst hP
  refine wpAny_pyIter_list hl (wpAny_bind (wpAny_runValue ?_))
  refine setL_fill (A := A) (by simp [hh]) hS hl hi hb fun h' t c hR hc k => ?_
  show wpAny _ _ _ _ _ _
  refine wpAny_pure ?_
  show wpAny _ _ (ret Value.none) _ _ _
  exact wpAny_pure (h h' t c hR hc k)
/-- set(xs), xs a list of ints -/
theorem setL_call {l : Addr} {items : Array Value} {ns : List Int} {Q : Value → Shared → Prop} (hh : A.handled = none) (hl : s.heap.IsList l items) (hi : IntsAre items.toList ns) (hb : ns.length + 1 < scanBound)
    (h : ∀ (h' : Heap) (t c : Nat), SetR w h' s.heap.objs.size (fun j => decide (j ∈ ns)) c → c ≤ ns.length → (∀ b o, s.heap.get? b = some o → h'.get? b = some o) → Q (.ref s.heap.objs.size) { s with heap := h', toks := t }) :
    wpAny (model P w) A (call (.type "set") [.ref l]) Q E s := by
  have f0 := F.called_set
  obtain ⟨c0, tl, f1⟩ := f0.mro
  have f2 := f0.made
  have f3 := f0.sub
  have f4 := f0.notType
  have f5 := f0.canCreate
  have f6 := F.typeCall_set_1 (.ref l)
  refine wpAny_call (codeAny_of_tree (show wpAny _ _ (callAny (.type "set") _) _ _ _ from wpAny_pure ⟨Code.quiet_builtin _ (by decide +kernel), codeAny_builtin F.entry_type_call ?_⟩))
  rw [Around.under_plain (weight_type_call_type "set" [.ref l] []) rfl]
  repeat (any_goals (first | assumption | wp_step))
  refine codeAny_mono (code_set_led1 (.ref l) (E := E) (Q₁ := fun x s1 => x = .ref s.heap.objs.size ∧ s1 = { s with heap := s.heap.push (setE w) }) ⟨rfl, rfl⟩) fun r s1 hr => ?_
  rcases r with _ | (x | _ | _ | _) <;> first | exact hr | exact hr.elim | skip
  obtain ⟨rfl, rfl⟩ := hr
  have hS : (s.heap.push (setE w)).get? s.heap.objs.size = some (setE w) := Heap.get?_push_size _ rfl
  have hT : Shared.TypeIs { s with heap := s.heap.push (setE w) } (.ref s.heap.objs.size) "set" := ⟨_, hS, rfl⟩
  have g1 := f0.init.lookup
  have g2 := f0.init.bind (.ref s.heap.objs.size)
  repeat (any_goals (first | assumption | wp_step))
  refine codeAny_mono (codeAny_call_builtin (R := wants (fun r s2 => r = .none ∧ ∃ h' t c, s2 = { s with heap := h', toks := t } ∧ SetR w h' s.heap.objs.size (fun j => decide (j ∈ ns)) c ∧ c ≤ ns.length ∧ (∀ b o, s.heap.get? b = some o → h'.get? b = some o)) E)
    f0.init.plain F.entry_set_init (check_set_init_1 hT (setL_init (s := { s with heap := s.heap.push (setE w) }) (by simp [hh]) hS (hl.push _) hi hb fun h' t c hR hc k => ?_))) fun r s2 hr => ?_
  · exact ⟨rfl, h', t, c, rfl, hR, hc, fun b o e => k b o (Nat.ne_of_lt (Heap.lt_size e)) (Heap.get?_push_of_some _ e)⟩
  · rcases r with _ | (x | _ | _ | _) <;> first | exact hr | exact hr.elim | skip
    obtain ⟨rfl, h', t, c, rfl, hR, hc, k⟩ := hr
    repeat (any_goals (first | assumption | wp_step))
    exact h _ _ _ hR hc k
end
section
variable {X : Cx}
def rSetL (K : PySem.W.Frag) (w : World) : List V → Hp → VK → Prop := fun xs H Q => ∃ (a : Addr) (ns : List Int), xs = [.ref a] ∧ SqL K H a (ns.map V.int) ∧ ns.length ≤ 4000 ∧ ∀ (p : Addr) (c : Nat), H p = none → c ≤ ns.length → Q (.ref p) (upd H p (SetO w p (fun j => decide (j ∈ ns)) c))
theorem cr_setL (hc : X.calm = true) : CallR X (.type "set") (rSetL X.K X.w) := by
  intro pins s σ H xs us Q I r h
  obtain ⟨a, ns, rfl, hq, hn, q⟩ := h
  rw [Vals.ref1 r]
  obtain ⟨its, rv, pl, hz⟩ := I.list hq
  refine setL_call (I.ok.hd hc) pl.isList (ns := ns) (by simpa using rv.ints) (by unfold scanBound; omega) fun h' t c hR hcn k => ?_
  exact ⟨.ref _, _, I.laid (t' := t) k (Nat.le_refl _) (setO_new hR), rfl, q _ c (I.hok.fresh (Nat.le_refl _)) hcn⟩
/-- sorted(set(xs)) -/
def dSortSet (t : TDE) : TDE := fun ds Q => t ds fun d => ∃ ns : List Int, d = .list (ns.map .int) ∧ ns.length < 64 ∧ ∀ ms : List Int, ms.Pairwise (· < ·) → (∀ k : Int, k ∈ ms ↔ k ∈ ns) → ms.length ≤ ns.length → Q (.list (ms.map .int))
theorem intL {M : Addr → Prop} {H : Hp} : ∀ {ns : List Int} {vs : List V}, DtA M H vs (ns.map .int) → vs = ns.map V.int
  | [], _, h => by cases h; rfl
  | n :: ns, _, h => by
    cases h with
    | cons h1 h2 =>
      cases h1
      rw [intL h2]
      rfl
theorem d_sortSet (K : PySem.W.Frag) {B : Gr} {e : Expr} {te : TE} {td : TDE} {p p2 q pos : Pos} (he : PD X B e te td) (hc : X.calm = true) (hg : Gl X "sorted") (hm : X.mg "sorted" = none) (hg2 : Gl X "set") (hm2 : X.mg "set" = none)
    (hs : starEach [e] X.env = (false, eval e X.env) :: starEach [] X.env := by rfl) (hs2 : starEach [.Call (.Name "set" p2) [e] [] q] X.env = (false, eval (.Call (.Name "set" p2) [e] [] q) X.env) :: starEach [] X.env := by rfl) (hK : X.K = K := by rfl) :
    PD X B (.Call (.Name "sorted" p) [.Call (.Name "set" p2) [e] [] q] [] pos) (tCB (rSortedSet X.w) (tCons (tCB (rSetL K X.w) (tCons te tNil)) tNil)) (dSortSet td) := by
  subst hK
  refine ⟨pe_callB (cr_sortedSet hc) hg hm boot_sorted (pa_cons (pe_callTy (cr_setL hc) hg2 hm2 boot_set (pa_cons he.pe pa_nil hs) (by decide) (by decide) hs rfl) pa_nil hs2) (by decide) (by decide) hs2 rfl, fun M σ H ds Q R g en qq c => ?_⟩
  refine he.se M σ H ds _ _ g en qq fun v H1 d g1 k1 hd q1 => ?_
  obtain ⟨ns, rfl, h64, q2⟩ := q1
  cases hd with
  | lst n e a =>
    have e1 := e
    rw [intL a] at e1
    refine ⟨_, ns, rfl, SqL.of e1, by omega, fun p c hp hcn => ⟨p, _, c, rfl, upd_same, by omega, fun ms p2 pw hm hl hp2 => ?_⟩⟩
    have g2 := g1.new (o := SetO X.w p (fun j => decide (j ∈ ns)) c) hp
    refine ‹Cont M B H Q R› _ _ _ (g2.new hp2) ((k1.trans (Keep.new hp)).trans (Keep.new hp2)) (Dt.newL g2 hp2 (DtA.ints ms)) (q2 ms pw (fun k => ?_) (by omega))
    rw [hm k]
    simp
/-! ### e or f, by the first one's truth -/
def dOrX (t u : TDE) : TDE := fun ds Q => t ds fun x => truD x fun c => (c = true → Q x) ∧ (c = false → u ds Q)
theorem tru_of {K : PySem.W.Frag} {M : Addr → Prop} {H : Hp} {v : V} {x : PyData} {P : Bool → Prop} (h : Dt M H v x) (q : truD x P) : ∃ k, TruV K v H k ∧ P k := by
  cases h with
  | non => exact ⟨_, rfl, q⟩
  | bl b => exact ⟨_, rfl, q⟩
  | int i => exact ⟨_, rfl, q⟩
  | str z => exact ⟨_, ⟨q.1.le, rfl⟩, q.2⟩
  | lst n e a => exact ⟨_, .inl ⟨_, SqL.of e, rfl⟩, by rw [isEmpty_len a.length]; exact q⟩
  | tup n e a => exact ⟨_, .inr (.inl ⟨_, SqT.of e, rfl⟩), by rw [isEmpty_len a.length]; exact q⟩
  | brd _ _ _ _ _ _ _ => exact q.elim
theorem d_orX (K : PySem.W.Frag) {B : Gr} {a b : Expr} {ta tb : TE} {da db : TDE} {rest : List Expr} {pos : Pos} (ha : PD X B a ta da) (hb : PD X B (.BoolOp .Or (b :: rest) pos) tb db) (hK : X.K = K := by rfl) :
    PD X B (.BoolOp .Or (a :: b :: rest) pos) (tOrT K ta tb) (dOrX da db) := by
  subst hK
  refine ⟨pe_orT ha.pe hb.pe, fun M σ H ds Q R g en q c => ha.se M σ H ds _ _ g en q fun x H1 dx g1 k1 hx q1 => ?_⟩
  obtain ⟨k, hk, q2⟩ := tru_of (K := X.K) hx q1
  refine ⟨k, hk, ?_⟩
  cases k with
  | true => exact iteT (c _ H1 _ g1 k1 hx (q2.1 rfl))
  | false => exact iteF (hb.se M σ H1 ds _ _ g1 (en.keep g.1 k1) (q2.2 rfl) (c.keep k1))
/-! ### a, b, .. = a list -/
def dgLst (n : Nat) (u : List PyData → DEnv → (DEnv → Prop) → Prop) : TDG := fun d ds Q => match d with
  | .list l => l.length = n ∧ u l ds Q
  | _ => False
theorem dg_lst (K : PySem.W.Frag) {B : Gr} {es : List Expr} {k n : Nat} {is : List Nat} {tts : TGs} {pos : Pos} {u : List PyData → DEnv → (DEnv → Prop) → Prop} (hc : X.calm = true) (h : PDGs X B es is tts u) (hK : X.K = K := by rfl)
    (hn : (assignEach es X.env).length = n := by rfl) (hst : (assignEach es X.env).findIdx? (·.1) = none := by rfl) : PDG X B (.Tuple es k pos) is (gLst K n tts) (dgLst n u) := by
  subst hK
  exact ⟨pg_lst hc h.pg hn hst, fun M v d σ H ds Q R g en hd q c => by
    cases hd with
    | lst nm e a => exact ⟨_, _, rfl, SqL.of e, a.length.trans q.1, h.sg M _ _ σ H ds _ _ g en a q.2 c⟩
    | _ => exact (show False from q).elim⟩
end
end DL
namespace DL
open PySem L2
/-- a comprehension whose elements satisfy P, some left out -/
theorem lcW_any {g : TDG} {tt : TDT} {te : TDE} {ds : DEnv} (P : PyData → Prop) : ∀ (l acc : List PyData) (Q : PyData → Prop), (∀ x ∈ l, ∀ (N2 : Prop) (N : PyData → Prop), (∀ y, P y → N y) → N2 → g x ds fun ds' => tt ds' fun b => (b = true → te ds' N) ∧ (b = false → N2)) →
    (∀ z ∈ acc, P z) → (∀ r : List PyData, r.length ≤ acc.length + l.length → (∀ z ∈ r, P z) → Q (.list r)) → lcW g tt te ds l acc Q
  | [], acc, Q, _, ha, hq => hq acc (Nat.le_refl _) ha
  | x :: l, acc, Q, h, ha, hq => by
    have e : lcW g tt te ds (x :: l) acc Q = g x ds fun ds' => tt ds' fun b => (b = true → te ds' fun y => lcW g tt te ds l (acc ++ [y]) Q) ∧ (b = false → lcW g tt te ds l acc Q) := rfl
    rw [e]
    have hl := fun z hz => h z (List.mem_cons_of_mem x hz)
    refine h x (List.mem_cons_self ..) _ _ (fun y hy => lcW_any P l (acc ++ [y]) Q hl (fun z hz => ?_) fun r hr => hq r ?_) (lcW_any P l acc Q hl ha fun r hr => hq r ?_)
    · rcases List.mem_append.mp hz with hz | hz
      · exact ha z hz
      · rw [List.mem_singleton.mp hz]
        exact hy
    · simp only [List.length_append, List.length_cons, List.length_nil] at hr ⊢
      omega
    · simp only [List.length_cons]
      omega
theorem asc_len : ∀ {l : List Int} {lo hi : Int}, l.Pairwise (· < ·) → (∀ x ∈ l, lo ≤ x ∧ x < hi) → (l.length : Int) ≤ max 0 (hi - lo)
  | [], _, _, _, _ => by
    simp only [List.length_nil]
    omega
  | x :: l, lo, hi, hp, h => by
    obtain ⟨h1, h2⟩ := List.pairwise_cons.mp hp
    have hx := h x (List.mem_cons_self ..)
    have ih := asc_len (lo := x + 1) (hi := hi) h2 fun y hy => by
      have a := h1 y hy
      have b := h y (List.mem_cons_of_mem _ hy)
      omega
    rw [List.length_cons]
    omega
theorem Grp.union {a b ms : List Int} (ha : Grp a) (hb : Grp b) (hp : ms.Pairwise (· < ·)) (hm : ∀ k : Int, k ∈ ms ↔ k ∈ a ++ b) : Grp ms := by
  have mid : ∀ d ∈ ms, 0 ≤ d ∧ d < 8 := fun d hd => by
    rcases List.mem_append.mp ((hm d).mp hd) with h | h
    · exact ha.mid d h
    · exact hb.mid d h
  have l := asc_len hp mid
  exact ⟨by omega, mid⟩
def pairR (C : Addr) : DR := fun xs Q => ∃ (n : Int) (ts : List Tm) (ss one other : List Int) (w : Int), xs = [.dat (brdD C n (ts.map Tm.py)), .dat (.tuple (ss.map .int)), .dat (.int w), .dat (.list (one.map .int)), .dat (.list (other.map .int))] ∧ Sit ts ss w ∧ Grp one ∧ Grp other ∧ Q (.bool true)
theorem okN : OkD .none := ⟨rfl, rfl, Nat.zero_le _, Nat.le_trans leafN.sz (by decide)⟩
theorem ne_self {d : PyData} {Q : PyData → Prop} (ok : OkD d) (h : Q (.bool false)) : rNeA d d Q := by
  have e : PyData.eqv d d = true := eqv_rfl ok
  unfold rNeA
  split
  · rw [decide_eq_true rfl]
    exact h
  · exact ⟨ok.sh, ok.sh, by rw [e]; exact h⟩
theorem gain_ok {ts : List Tm} {ss tt : List Int} (h1 : Fine ts ss) (h2 : Fine ts tt) : OkD (gainV ts ss tt) := by
  have c1 := h1.costs
  have c2 := h2.costs
  unfold gainV
  split
  · exact Mid.ok ⟨by omega, by omega⟩
  · exact okN
end DL
/-! ### exceptions: a def that may raise, its call, raise, try -/
namespace DL
open PySem PySem.Spec L2 PyProof.Rows
/-- what is wanted of an exception: by its class and its fields -/
abbrev XKD := Value → List (Str × PyData) → Prop
abbrev DRX := List DV → (PyData → Prop) → XKD → Prop
/-- .. with the slots of the frame -/
abbrev WD := DEnv → XKD
def ContX (M : Addr → Prop) (B : Gr) (H : Hp) (Ed : XKD) (E : XK) : Prop := ∀ cls d H' fs, Good M B H' → Keep M B H H' → XD M H' d fs → Ed cls fs → E cls d H'
def spX (R : DRX) : Sp := fun vs H Q E => ∃ (M : Addr → Prop) (B : Gr) (xs : List DV) (Qd : PyData → Prop) (Ed : XKD), ArgsAt M B H vs xs ∧ Good M B H ∧ R xs Qd Ed ∧ Cont M B H Qd Q ∧ ContX M B H Ed E
structure FnX (P : Program) (w : World) (K : PySem.W.Frag) (mg : Str → Option Value) (base : Heap) (k : Nat) (f : Addr) (fd : FuncData) (ps : List Str) (sp : Sp) : Prop where
  len : ∀ vs H Q E, sp vs H Q E → vs.length = ps.length
  run : ∀ (A : Around) (outer : List Env) (s : Shared) (H : Hp) (args : Args) (us : List Value) (vs : List V) (Q : VK) (E : XK), A.guards = some [] → Room k A → Env0 P w K mg base A outer s H → BindsTo s fd args (ps.zip us) → Vals vs us → sp vs H Q E →
    codeAny (model P w) A (.call (.ref f) args) (CR (L2.CX P w) outer P w H s Q E) s
theorem FnX.mono {P : Program} {w : World} {K : PySem.W.Frag} {mg : Str → Option Value} {base : Heap} {j k : Nat} {f : Addr} {fd : FuncData} {ps : List Str} {sp : Sp} (F : FnX P w K mg base j f fd ps sp) (h : j ≤ k) : FnX P w K mg base k f fd ps sp :=
  ⟨F.len, fun A outer s H args us vs Q E hg hr => F.run A outer s H args us vs Q E hg (hr.mono h)⟩
theorem FnX.imp {P : Program} {w : World} {K : PySem.W.Frag} {mg : Str → Option Value} {base : Heap} {k : Nat} {f : Addr} {fd : FuncData} {ps : List Str} {sp sp' : Sp} (F : FnX P w K mg base k f fd ps sp) (h : ∀ vs H Q E, sp' vs H Q E → sp vs H Q E) : FnX P w K mg base k f fd ps sp' :=
  ⟨fun vs H Q E z => F.len vs H Q E (h _ _ _ _ z), fun A outer s H args us vs Q E hg hr e b r z => F.run A outer s H args us vs Q E hg hr e b r (h _ _ _ _ z)⟩
/-- a def that may raise, called where it raises nothing -/
theorem FnX.calm {P : Program} {w : World} {K : PySem.W.Frag} {mg : Str → Option Value} {base : Heap} {k : Nat} {f : Addr} {fd : FuncData} {ps : List Str} {R : DRX} (F : FnX P w K mg base k f fd ps (spX R)) : FnG P w K mg base k f fd ps (spD fun xs Q => R xs Q fun _ _ => False) :=
  ⟨fun vs H Q E ⟨M, B, xs, Qd, a, g, r, c⟩ => F.len vs H Q (fun _ _ _ => False) ⟨M, B, xs, Qd, fun _ _ => False, a, g, r, c, fun _ _ _ _ _ _ _ z => z⟩, fun A outer s H args us vs Q hg hr e b rv ⟨M, B, xs, Qd, a, g, r, c⟩ =>
    codeAny_mono (F.run A outer s H args us vs Q (fun _ _ _ => False) hg hr e b rv ⟨M, B, xs, Qd, fun _ _ => False, a, g, r, c, fun _ _ _ _ _ _ _ z => z⟩) fun o s' z => by
      cases o with
      | ok fl => cases fl <;> exact z
      | error er =>
        obtain ⟨_, _, _, _, _, _, _, _, _, _, _, _, z⟩ := z
        exact z⟩
theorem fn_ofX {P : Program} {w : World} {K : PySem.W.Frag} {mg : Str → Option Value} {base : Heap} {k : Nat} {f : Addr} {fd : FuncData} {x qual : Str} {st : Stmt} {N ps : List Str} {sp : Sp} (F : Fun K x qual st f fd) (S : FnScope N ps (defScope st))
    (len : ∀ vs H Q E, sp vs H Q E → vs.length = ps.length)
    (body : ∀ (cdv : Value) (A : Around) (outer : List Env) (s : Shared) (H : Hp) (vs : List V) (Q : VK) (E : XK), A.guards = some [] → Room k (A.deeper (envOfC qual (defScope st) s.heap.objs.size f cdv)) → sp vs H Q E →
      ∃ t, PSs (cxOf (L2.CX P w) P w K mg base N qual (defScope st) f cdv A outer s H E) (defBody st) t ∧ t { nx := fun _ H' => Q .non H', rt := Q } (start N vs) H) : FnX P w K mg base (k + 1) f fd ps sp := by
  obtain ⟨oc, od, kV, doc, pm, an, cdv, ct, osl, rfl, lk, hcd⟩ := F.ex
  refine ⟨len, fun A outer s H args us vs Q E hG hr e0 hb r hs => ?_⟩
  have kin : K.In s.heap := e0.mod.kin.keeps fun b o e => (e0.bs b o e).1
  have lim : s.heap.NoLimit := e0.mod.nolimit.keeps fun b o e => (e0.bs b o e).1
  have kinds : ∀ y ∈ ps.zip us, (defScope st).names.lookup y.1 = some .local ∨ ((defScope st).names.lookup y.1 = some .cell ∧ ((cellsFrom (s.heap.objs.size + 1) (defScope st).names []).lookup y.1).isSome = true) := by
    rintro ⟨n, v⟩ m
    exact (S.par n (List.of_mem_zip m).1).imp_right fun q => ⟨q, PySem.W.cellsFrom_some _ _ _ (.inl q)⟩
  refine codeAny_call_function hr.depth (kin _ _ lk) rfl S.co S.gen rfl (PySem.W.codeRec_of kin hcd) (hb _ _ _ _ (wpAny_newFunctionEnv_cells S.kind kinds fun env eqv s1 ic => ?_))
  subst eqv
  obtain ⟨t, ht, q⟩ := body cdv A outer s H vs Q E hG (hr.deeper _) hs
  refine ⟨lim.keeps ic.toInCall.keep, codeAny_func (wpAny_mono (ht.run [] s1 (start N vs) H _ (inv_start S hr.hd e0 (len _ _ _ _ hs) r ic) q) (fun fl s' z => ?_) fun _ _ z => z)⟩
  cases fl with
  | ret u =>
    obtain ⟨v, _, H', J, rv, qv⟩ := z
    exact ⟨v, H', J.os, J.bare, J.base, J.hok, rv, qv⟩
  | next =>
    obtain ⟨_, H', J, qv⟩ := z
    exact ⟨V.non, H', J.os, J.bare, J.base, J.hok, rfl, qv⟩
  | _ => exact z.elim fun _ y => y.elim fun _ y => y.2.elim
/-- what becomes of an exception, over data -/
structure TkD (X : Cx) (B : Gr) (W : WX) (Wd : WD) : Prop where
  tk : Takes X W
  rel : ∀ (M : Addr → Prop) σ H ds cls d fs, Good M B H → EnvAt M B H σ ds → XD M H d fs → Wd ds cls fs → W cls d σ H
structure CxX (k : Nat) (X : Cx) (B : Gr) (W : WX) (Wd : WD) : Prop extends CxD k X where
  tkd : TkD X B W Wd
  pass : PassesOwn (model X.prog X.w) X.A X.env X.xe
  hs : X.stack = X.env :: X.outer
  hf : X.env.frame = some X.env.locals
  hex : X.ex = []
/-- a def that may raise, by its body's reading over data -/
theorem fn_DX {P : Program} {w : World} {K : PySem.W.Frag} {mg : Str → Option Value} {base : Heap} {k : Nat} {f : Addr} {fd : FuncData} {x qual : Str} {st : Stmt} {N ps : List Str} {R : DRX} (F : Fun K x qual st f fd) (S : FnScope N ps (defScope st))
    (len : ∀ xs Q Ed, R xs Q Ed → xs.length = ps.length)
    (body : ∀ (cdv : Value) (A : Around) (outer : List Env) (s : Shared) (H : Hp) (E : XK) (B : Gr) (W : WX) (Ed : XKD), (∀ v, B.nw v) → CxX k (cxOf (L2.CX P w) P w K mg base N qual (defScope st) f cdv A outer s H E) B W (fun _ => Ed) →
      ∃ ts t, PDSs (cxOf (L2.CX P w) P w K mg base N qual (defScope st) f cdv A outer s H E) B (defBody st) ts t ∧ ∀ xs Q, R xs Q Ed → t { nx := fun _ => Q .none, rt := Q, bk := fun _ => False, ct := fun _ => False } (dstart N xs)) :
    FnX P w K mg base (k + 1) f fd ps (spX R) := by
  refine fn_ofX F S (fun vs H Q E h => ?_) fun cdv A outer s H vs Q E hG hr h => ?_
  · obtain ⟨M, B, xs, Qd, Ed, ha, _, hR, _⟩ := h
    rw [ha.length]
    exact len xs Qd Ed hR
  · obtain ⟨M, B, xs, Qd, Ed, ha, g, hR, c, cx⟩ := h
    obtain ⟨ts, t, hb, ht⟩ := body cdv A outer s H E ⟨B.a, M, H, M, H, fun _ => True⟩ _ Ed (fun _ => trivial) { room := hr, guards := hG, tkd := ⟨takes_of rfl rfl rfl rfl, fun M' σ H' ds cls d fs g' _ hx hd => cx cls d H' fs (g.expr g'.back g'.d.keep) g'.d.keep (hx.map (Stay.less g'.d.sub)) hd⟩, pass := passes_of rfl, hs := rfl, hf := rfl, hex := rfl }
    refine ⟨ts, hb.ps, hb.ss M _ H _ _ _ ⟨g.z.start⟩ ⟨ha.re.start N, fun i j x y v w a e _ _ _ f => absurd (ha.noMut _ i x e) f.mut⟩ (ht xs Qd hR)
      ⟨fun M' σ' H' ds' e' _ _ q => c .non H' .none (g.expr e'.g.back e'.g.d.keep) e'.g.d.keep .non q, fun v H' d g' k' h' _ q => c v H' d (g.expr g' k') k' h' q, fun _ _ _ _ _ _ _ q => q.elim, fun _ _ _ _ _ _ _ q => q.elim⟩⟩
section
variable {X : Cx} {B : Gr} {W : WX} {Wd : WD} {k : Nat} {f : Addr} {fd : FuncData} {ps : List Str} {R : DRX} {sp : Sp} {x : Str} {p pos : Pos} {e : Expr} {es : List Expr} {t : TA} {d : TDA}
/-! #### a call that may raise -/
theorem run_fnX {pins : List (Addr × Obj)} {σ : L2.St} {H : Hp} {s : Shared} {Q : VK} {us : List Value} {vs : List V} (F : FnX X.prog X.w X.K X.mg X.base k f fd ps sp) (hG : X.A.guards = some []) (hr : Room k X.A) (hb : Binds X.K fd ps []) (tk : Takes X W)
    (I : Inv X pins σ H s) (r : Vals vs us) (h : sp vs H Q (fun cls d H' => W cls d σ H')) : wpAny (model X.prog X.w) X.A (call (.ref f) us) (EP X pins σ Q) X.xe s := by
  have n : us.length = ps.length := r.length.symm.trans (F.len _ _ _ _ h)
  have b := hb s us I.kIn (by rw [List.append_nil]; exact n)
  rw [List.append_nil] at b
  refine wpAny_call (codeAny_mono (F.run X.A X.stack s H ⟨us, []⟩ us vs Q _ hG hr I.env0 b r h) fun o s' z => ?_)
  cases o with
  | error er => exact tk er s' (XE.of_call I (fun _ _ _ h => h) z)
  | ok fl => cases fl with
    | ret u => exact I.after z
    | _ => exact False.elim z
def dCallX (R : DRX) (Wd : WD) (t : TDA) : TDE := fun ds Q => t ds fun xs => R xs Q (Wd ds)
theorem d_callX (F : FnX X.prog X.w X.K X.mg X.base k f fd ps (spX R)) (hG : X.A.guards = some []) (hr : Room k X.A) (tk : TkD X B W Wd) (hb : Binds X.K fd ps []) (hm : X.mg x = some (.ref f)) (hk : PySem.W.keepIn X.K (.ref f) = true) (hg : Gl X x)
    (ha : PDA X B (e :: es) t d) (hdb : (x == ("__debug__" : Str)) = false := by decide) (he : starEach (e :: es) X.env = (false, eval e X.env) :: starEach es X.env := by rfl) (hpl : (backTo pos (starEach es X.env)).any (·.1) = false := by rfl) :
    PD X B (.Call (.Name x p) (e :: es) [] pos) (fun σ H Q => t σ H fun vs H1 => spX R vs H1 Q fun cls d H' => W cls d σ H') (dCallX R Wd d) :=
  ⟨⟨fun pins s σ H Q I h => wpAny_Call_Name_kw (ld_glob I hg hm (PySem.W.callWith_K (h₀ := X.base) I.ok.mod.kin hk
    (thn (ha.pa.run pos pins s σ H _ I h) fun us s1 ⟨_, _, I1, r, q⟩ => ⟨I1.kIn, run_fnX F hG hr hb tk.tk I1 r q⟩) he hpl) hdb)⟩,
  fun M σ H ds Q R' g en h c => ha.sa M σ H ds _ _ g en h fun vs H1 xs g1 k1 a1 q1 => ⟨M, B, xs, Q, Wd ds, a1, g1, q1, c.keep k1, fun cls d H' fs g' k' hx hw => tk.rel M σ H' ds cls d fs g' ((en.keep g.1 k1).keep g1.1 k') hx hw⟩⟩
/-! #### raise -/
/-- what the __init__ of an error's class with one field promises -/
def spErr (K : PySem.W.Frag) (fld : Str) : Sp := fun vs H Q _ => ∃ (a C : Addr) (v : V), vs = [.ref a, v] ∧ OexC K C ∧ PySem.W.findIn K (.ref C) fld = some none ∧ H a = some (exo a C none) ∧ ∀ dx, H dx = none → dx ≠ a → Q .non (upd (upd H dx (exd dx [(fld, v)])) a (exo a C (some dx)))
theorem fn_err {P : Program} {w : World} {K : PySem.W.Frag} {mg : Str → Option Value} {base : Heap} {k : Nat} {f : Addr} {qual fld : Str} {params : Arguments} {body : List Stmt} {scope : Scope} {dV kV doc pm cdv ct oc : Value} {an od : Option Addr} {osl : Array (Option Value)} {N ps : List Str}
    (lk : K.lookup f = some ⟨oc, od, .func (PySem.W.fnOf "__init__" qual params body scope dV kV doc pm an cdv ct), osl⟩) (hcd : PySem.W.codeIn K cdv qual = true) (S : FnScope N ps scope) (h2 : ps.length = 2)
    (hb : ∀ (A : Around) (outer : List Env) (s : Shared) (H : Hp) (E : XK), PSs (cxOf CX0 P w K mg base N qual scope f cdv A outer s H E) body (tOst K fld (tVar 0) (tVar 1))) (hN : 2 ≤ N.length) :
    FnOk P w K mg base CX0 (k + 1) f (PySem.W.fnOf "__init__" qual params body scope dV kV doc pm an cdv ct) ps (spErr K fld) := by
  refine fn_of lk hcd S (fun vs H Q E h => ?_) fun A outer s H vs Q E hr h => ⟨_, hb A outer s H E, ?_⟩
  · obtain ⟨a, C, v, rfl, _⟩ := h
    rw [h2]
    rfl
  · obtain ⟨a, C, v, rfl, T, hno, ea, q⟩ := h
    exact ⟨v, rfl, .ref a, rfl, a, C, rfl, T, hno, .inl ⟨ea, fun dx n ne => q dx n ne⟩⟩
def sRaise1 (C : Addr) (fld : Str) (Wd : WD) (t : TDL) : TDS := fun _ ds => t ds fun l => match l with
  | [v] => Wd ds (.ref C) [(fld, v)]
  | _ => False
theorem ds_raise1 {C fI : Addr} {fld : Str} {dl : TDL} {pos' : Pos} (hc : X.calm = true) (T : OexC X.K C) (iC : PySem.W.findIn X.K (.ref C) "__init__" = some (some (.ref fI))) (tI : PySem.W.typeIn X.K (.ref fI) = some (.type "function")) (hno : PySem.W.findIn X.K (.ref C) fld = some none)
    (F1 : FnOk X.prog X.w X.K X.mg X.base CX0 k fI fd ps (spErr X.K fld)) (hr : Room (k + 1) X.A) (hb : Binds X.K fd ps []) (tk : TkD X B W Wd) (hm : X.mg x = some (.ref C)) (hg : Gl X x) (ha : PDL X B [e] t dl)
    (hdb : (x == ("__debug__" : Str)) = false := by decide) (he : starEach [e] X.env = (false, eval e X.env) :: starEach [] X.env := by rfl) :
    PDS X B (.Raise (some (.Call (.Name x p) [e] [] pos)) none pos') (fun _ σ H => tMkO C (spErr X.K fld) [] t σ H fun cls d H' => W cls d σ H') (sRaise1 C fld Wd dl) :=
  ⟨ps_raise hc tk.tk (pmk_oex T iC tI F1 hr hb .nil (fun _ _ _ _ _ _ _ z => z.elim) hg hm ha.pa hdb he rfl), fun M σ H ds DD D en o q c => ha.sl M σ H ds _ _ en.g o.at_ q fun vs H1 l g1 k1 hl q1 => by
    have e1 := o.at_.keep en.g.1 k1
    cases hl with
    | nil => exact (show False from q1).elim
    | @cons v _ dv _ h1 t1 => cases t1 with
      | cons _ _ => exact (show False from q1).elim
      | nil =>
        refine ⟨Nat.le_of_ble_eq_true rfl, fun a hn => ⟨a, C, v, rfl, T, hno, upd_same, fun dx hdx ne => ⟨rfl, dx, [(fld, v)], upd_same, ?_, ?_, ?_⟩⟩⟩
        · rw [upd_ne ne, upd_same]
        · rw [upd_ne ne] at hdx
          exact hdx
        · have hd1 : H1 dx = none := by rw [upd_ne ne] at hdx; exact hdx
          have eH : upd (del (upd (upd (upd H1 a (exo a C none)) dx (exd dx [(fld, v)])) a (exo a C (some dx))) a) dx (.xd [(fld, v)]) = upd H1 dx (.xd [(fld, v)]) := by
            funext b
            by_cases z : b = dx
            · rw [z, upd_same, upd_same]
            · rw [upd_ne z, upd_ne z]
              by_cases y : b = a
              · rw [y, del_same, hn]
              · rw [del_ne y, upd_ne y, upd_ne z, upd_ne y]
          rw [eH]
          have kn : Keep M B.a H1 (upd H1 dx (.xd [(fld, v)])) := Keep.new hd1
          exact tk.rel M σ _ ds _ _ _ (g1.new hd1) (e1.keep g1.1 kn) (.inr ⟨dx, [(fld, v)], rfl, g1.ne hd1, upd_same, .cons (h1.keep g1.1 kn) .nil⟩) q1⟩
end
end DL
/-! ### try .. except C as n; isinstance of what is caught, its fields -/
namespace DL
open PySem PySem.Spec L2 PyProof.Rows
/-! #### another ground with the same bag and the same beginning -/
theorem DvR.regr {M : Addr → Prop} {B B' : Gr} {H : Hp} (ha : B.a = B'.a) (h0 : B.H0 = B'.H0) {v : V} {x : DV} (h : DvR M B H v x) : DvR M B' H v x := by
  cases h with
  | bag hq nq e =>
    rw [ha] at hq ⊢
    exact .bag hq nq e
  | loose hs h o => exact .loose (fun a z => ⟨(hs a z).1, by rw [← ha]; exact (hs a z).2.1, by rw [← h0]; exact (hs a z).2.2.1, (hs a z).2.2.2⟩) h o
  | dat h => exact .dat h
  | obj m n z e a => exact .obj m (by rw [← ha]; exact n) (by rw [← h0]; exact z) e a
  | grow m n z e a => exact .grow m (by rw [← ha]; exact n) (by rw [← h0]; exact z) e a
  | grid m n z e nd a => exact .grid m (by rw [← ha]; exact n) (by rw [← h0]; exact z) e nd (a.map Stay.refl fun r xs _ m n z e => ⟨m, by rw [← ha]; exact n, by rw [← h0]; exact z, e⟩)
  | exc h => exact .exc h
theorem EnvAt.regr {M : Addr → Prop} {B B' : Gr} {H : Hp} (ha : B.a = B'.a) (h0 : B.H0 = B'.H0) : ∀ {σ : L2.St} {ds : DEnv}, EnvAt M B H σ ds → EnvAt M B' H σ ds
  | _, _, .nil => .nil
  | _, _, .cons h t => .cons (by
    cases h with
    | non => exact .non _
    | som h => exact .som (h.regr ha h0)) (EnvAt.regr ha h0 t)
theorem EnvO.regr {M : Addr → Prop} {B B' : Gr} {H : Hp} (ha : B.a = B'.a) (h0 : B.H0 = B'.H0) {σ : L2.St} {ds : DEnv} (o : EnvO M B H σ ds) : EnvO M B' H σ ds := ⟨o.at_.regr ha h0, o.inj⟩
/-- the ground of a try's body -/
abbrev Gr.tr (B : Gr) (M : Addr → Prop) (H : Hp) : Gr := { B with M1 := M, H1 := H }
theorem Good.toTr {M : Addr → Prop} {B : Gr} {H : Hp} (g : Good M B H) : Good M (B.tr M H) H := ⟨g.1, g.2.1, g.2.2.1, g.d.g0, g.d.m0, g.d.sub, g.d.keep, g.d.stay, Stay.refl, fun _ o e => ⟨o, e⟩, g.d.bq, g.d.nt⟩
theorem Good.ofTr {M M' : Addr → Prop} {B : Gr} {H H' : Hp} (g : Good M B H) (g' : Good M' (B.tr M H) H') : Good M' B H' := ⟨g'.1, g'.2.1, g'.2.2.1, g'.d.g0, g'.d.m0, g'.d.sub, g'.d.keep, g'.d.stay, g.d.st.trans g'.d.st, fun a o e => by
  obtain ⟨u, hu⟩ := g.d.al a o e
  exact g'.d.al a u hu, g.d.bq, g'.d.nt⟩
/-- lists that grow are forgotten -/
def dropG (ds : DEnv) : DEnv := ds.map fun o => match o with
  | some (.grow _) => none
  | some (.grid _ _) => none
  | some (.loose _ _) => none
  | some (.obj _) => none
  | o => o
theorem EnvAt.dropG {M : Addr → Prop} {B : Gr} {H : Hp} : ∀ {σ : L2.St} {ds : DEnv}, EnvAt M B H σ ds → EnvAt M B H σ (DL.dropG ds)
  | _, _, .nil => .nil
  | _, _, .cons h t => .cons (by
    cases h with
    | non => exact .non _
    | som h => cases h with
      | bag hq nq e => exact .som (.bag hq nq e)
      | loose _ _ _ => exact .non _
      | obj _ _ _ _ _ => exact .non _
      | dat h => exact .som (.dat h)
      | grow _ _ _ _ _ => exact .non _
      | grid _ _ _ _ _ _ => exact .non _
      | exc h => exact .som (.exc h)) (EnvAt.dropG t)
theorem dropG_no (ds : DEnv) (i : Nat) (x : DV) (e : (DL.dropG ds)[i]? = some (some x)) : x.fix := by
  unfold DL.dropG at e
  rw [List.getElem?_map] at e
  cases q : ds[i]? with
  | none => rw [q] at e; cases e
  | some o =>
    rw [q] at e
    cases o with
    | none => cases e
    | some x => cases x <;> first | (cases e; done) | (cases e; exact trivial)
theorem EnvO.of_no {M : Addr → Prop} {B : Gr} {H : Hp} {σ : L2.St} {ds : DEnv} (h : EnvAt M B H σ ds) (n : ∀ (i : Nat) x, ds[i]? = some (some x) → x.fix) : EnvO M B H σ ds := ⟨h, fun i j x y v w a e _ _ _ f => absurd (n i x e) f.mut⟩
theorem Sub.unset {σ : L2.St} {ds : DEnv} {i : Nat} {o : Option V} : Sub σ ds (σ.set i o) (ds.set i none) := fun j l n e => by
  by_cases z : i = j
  · subst z
    by_cases hl : i < ds.length
    · rw [List.getElem?_set_self hl] at e
      cases e
    · rw [List.getElem?_eq_none (by rw [List.length_set]; omega)] at e
      cases e
  · rw [List.getElem?_set_ne z] at e
    exact ⟨e, List.getElem?_set_ne z⟩
def noName (i : Nat) (DD : DEnds) : DEnds := { nx := fun ds => DD.nx (ds.set i none), rt := DD.rt, bk := fun ds => DD.bk (ds.set i none), ct := fun ds => DD.ct (ds.set i none) }
/-- what the clause wishes of an exception, over data -/
def wdAs (K : PySem.W.Frag) (cv : Value) (i : Nat) (su : Addr → Value → Option Addr → TDS) (Wo : WD) (DD : DEnds) : WD := fun ds cls fs =>
  ∃ b, PySem.W.exmOne K cls cv = some b ∧ (b = true → ∀ a d, su a cls d (noName i DD) ((dropG ds).set i (some (.exc a cls d fs)))) ∧ (b = false → Wo ds cls fs)
def sTryAs (K : PySem.W.Frag) (cv : Value) (i : Nat) (td : WD → TDS) (su : Addr → Value → Option Addr → TDS) (Wo : WD) : TDS := fun DD ds => td (wdAs K cv i su Wo DD) DD ds
section
variable {X : Cx} {k : Nat} {W : WX} {Wo : WD} {x n : Str} {cv : Value} {i : Nat} {body suite : List Stmt} {b₀ : Stmt} {np pos pos' : Pos} {tb : WX → TS} {td : WD → TDS} {ts : Addr → Value → Option Addr → TS} {su : Addr → Value → Option Addr → TDS}
theorem tr_any {B : Gr} {Wd : WD} (c : CxX k X B W Wo) (W' : WX) (B' : Gr) (Wd' : WD) (rel : ∀ (M : Addr → Prop) σ H ds cls d fs, Good M B' H → EnvAt M B' H σ ds → XD M H d fs → Wd' ds cls fs → W' cls d σ H) :
    ∃ xe, CxX k (X.tr [] xe) B' W' Wd' := by
  let xe : Value → Shared → Prop := fun e s' => wpAny (model X.prog X.w) X.A (leaving X.env e) (fun _ s'' => L2.CX X.prog X.w X.outer X.H_0 X.s_0 (fun _ _ _ => True) e s'') (fun _ _ => False) s'
  exact ⟨xe, { room := c.room, guards := c.guards, tkd := ⟨fun u s' y => XE.leave (X := X.tr [] xe) (W := W') (E := fun _ _ _ => True) c.hs c.hf c.hex (fun _ _ _ _ _ => trivial) y, rel⟩, pass := passes_of (X := X.tr [] xe) rfl, hs := c.hs, hf := c.hf, hex := c.hex }⟩
theorem ds_tryAs {B : Gr} (hn : ∀ v, B.nw v) (c : CxX k X B W Wo) (hN : X.N.Nodup) (hi : X.N[i]? = some n) (hln : X.env.kindOf n = some .local) (hc : Names X x cv)
    (hb : ∀ (B' : Gr) (W' : WX) (Wd' : WD) (pn : List (Addr × Obj)) (xe : Value → Shared → Prop), (∀ v, B'.nw v) → CxX k (X.tr pn xe) B' W' Wd' → PDSs (X.tr pn xe) B' body (tb W') (td Wd'))
    (hsu : ∀ (a : Addr) (oe : Obj) (cls : Value) (d : Option Addr) (pn : List (Addr × Obj)), Zc cls d oe → (∃ vs, oe.data = .fields vs) → PDSs (X.suite a ((a, oe) :: pn)) B (b₀ :: suite) (ts a cls d) (su a cls d)) :
    PDS X B (.Try body [.ExceptHandler (some (.Name x np)) (some n) (b₀ :: suite) pos'] [] [] pos) (fun D σ H => tb (wAs X.K cv i ts W D) D σ H) (sTryAs X.K cv i td su Wo) :=
  ⟨ps_try_as c.hs c.hf hN hi hln hc c.tkd.tk (fun W' pn xe tk pass => (hb default W' (fun _ _ _ => False) pn xe (fun _ => trivial) { room := c.room, guards := c.guards, tkd := ⟨tk, fun _ _ _ _ _ _ _ _ _ _ z => z.elim⟩, pass := pass, hs := c.hs, hf := c.hf, hex := c.hex }).ps) (fun a oe cls d pn hz hf => (hsu a oe cls d pn hz hf).ps),
  fun M σ H ds DD D en o q cs => by
    have rel : ∀ (M' : Addr → Prop) σ' H' ds' cls d fs, Good M' (B.tr M H) H' → EnvAt M' (B.tr M H) H' σ' ds' → XD M' H' d fs → wdAs X.K cv i su Wo DD ds' cls fs → wAs X.K cv i ts W D cls d σ' H' := by
      rintro M' σ' H' ds' cls d fs g' en' hx ⟨b, hb1, hy, hno⟩
      have g2 := en.g.ofTr g'
      have e2 : EnvAt M' B H' σ' ds' := en'.regr (B := B.tr M H) (B' := B) rfl rfl
      have st : Stay M H M' H' := g'.d.st
      refine ⟨b, hb1, fun z a ha => ?_, fun z => c.tkd.rel M' σ' H' ds' cls d fs g2 e2 hx (hno z)⟩
      have no : ∀ (j : Nat) x, ((dropG ds').set i (some (DV.exc a cls d fs)))[j]? = some (some x) → x.fix := fun j l e => by
        by_cases y : i = j
        · subst y
          by_cases hl : i < (dropG ds').length
          · rw [List.getElem?_set_self hl] at e
            cases e
            exact trivial
          · rw [List.getElem?_eq_none (by rw [List.length_set]; omega)] at e
            cases e
        · rw [List.getElem?_set_ne y] at e
          exact dropG_no ds' j l e
      have back : ∀ {P : DEnv → Prop} {R : L2.St → Hp → Prop}, ContE B M H P R → ContE B M' H' (fun ds2 => P (ds2.set i none)) (fun σ2 H2 => R (σ2.set i none) H2) := fun {P R} cc M2 σ2 H2 ds2 en2 st2 o2 q2 =>
        cc M2 (σ2.set i none) H2 (ds2.set i none) en2 (st.trans st2) (o2.sub (EnvAt.unset i o2.at_) Sub.unset) q2
      exact (hsu a { cls := cls, dict := d, data := .fields #[] } cls d [] ⟨rfl, rfl⟩ ⟨_, rfl⟩).ss M' (σ'.set i (some (.ref a))) H' _ (noName i DD) _ ⟨g2⟩ (EnvO.of_no (EnvAt.set (.exc hx) i e2.dropG) no) (hy z a d) ⟨back cs.nx, cs.rt, back cs.bk, back cs.ct⟩
    obtain ⟨xe, cx⟩ := tr_any (Wd := Wo) c (wAs X.K cv i ts W D) (B.tr M H) (wdAs X.K cv i su Wo DD) rel
    have cc : ∀ {P : DEnv → Prop} {R : L2.St → Hp → Prop}, ContE B M H P R → ContE (B.tr M H) M H P R := fun {P R} cc M2 σ2 H2 ds2 en2 st2 o2 q2 => cc M2 σ2 H2 ds2 ⟨en.g.ofTr en2.g⟩ st2 (o2.regr (B := B.tr M H) (B' := B) rfl rfl) q2
    exact (hb (B.tr M H) _ _ [] xe hn cx).ss M σ H ds DD D ⟨en.g.toTr⟩ (o.regr (B := B) (B' := B.tr M H) rfl rfl) q ⟨cc cs.nx, cs.rt, cc cs.bk, cc cs.ct⟩⟩
end
/-! #### what is caught -/
section
variable {X : Cx} {a : Addr} {oe : Obj} {cls : Value} {d : Option Addr} {pn : List (Addr × Obj)} {B : Gr} {n x x2 : Str} {i : Nat} {p p1 p2 p3 pos : Pos} {cv cv2 : Value}
theorem exc_inst {pins : List (Addr × Obj)} {σ : L2.St} {H : Hp} {s : Shared} {D : Addr} (hz : Zc (.ref D) d oe) (hf : ∃ vs, oe.data = .fields vs) (hd : d = none ∨ ∃ dd fs, d = some dd ∧ H dd = some (.xd fs)) (I : Inv (X.suite a ((a, oe) :: pn)) pins σ H s) :
    ∃ od, PySem.W.InstAt s.heap a oe D od := by
  obtain ⟨hget, _⟩ := I.pin (a, oe) (List.mem_append.mpr (.inl List.mem_cons_self))
  obtain ⟨vs, hv⟩ := hf
  have nc : PySem.W.notCls oe := by
    unfold PySem.W.notCls
    rw [hv]
  rcases hd with rfl | ⟨dd, fs, rfl, e⟩
  · exact ⟨none, hget, hz.1, nc, by rw [hz.2]; trivial⟩
  · obtain ⟨mA, hns, -⟩ := (show ObjOk X.prog X.w H s.heap dd (.xd fs) from I.hok dd _ e)
    obtain ⟨od, ho, -⟩ := lookIn_ns hns
    exact ⟨some od, hget, hz.1, nc, by rw [hz.2]; exact ho⟩
def rIsX (K : PySem.W.Frag) (D a : Addr) (d : Option Addr) : List V → Hp → VK → Prop := fun xs H Q => (d = none ∨ ∃ dd fs, d = some dd ∧ H dd = some (.xd fs)) ∧ ((∃ (c : V) (cv : Value) (b : Bool), xs = [.ref a, c] ∧ (∀ u, RelV c u → u = cv) ∧ PySem.W.kitOne K (.ref D) cv = some b ∧ Q (.bl b) H) ∨
  ∃ (t : Addr) (cs : List Addr) (b : Bool), xs = [.ref a, .ref t] ∧ SqT K H t (cs.map V.ref) ∧ PySem.W.kitAny K (.ref D) (cs.map Value.ref) = some b ∧ Q (.bl b) H)
theorem refs_eq : ∀ {cs : List Addr} {us : List Value}, Vals (cs.map V.ref) us → us = cs.map Value.ref
  | [], _, h => by cases h; rfl
  | c :: cs, _, h => by
    cases h with
    | cons r t =>
      cases r
      rw [refs_eq t]
      rfl
theorem call_isX {D : Addr} (C : L2.ExcC X.K D) (hz : Zc (.ref D) d oe) (hf : ∃ vs, oe.data = .fields vs) : CallR (X.suite a ((a, oe) :: pn)) (.builtin "isinstance") (rIsX X.K D a d) := by
  intro pins s σ H xs us Q I r h
  obtain ⟨hd, h⟩ := h
  obtain ⟨od, J⟩ := exc_inst hz hf hd I
  have Z := PySem.W.kitx_exc (x := a) (ox := oe) (od := od) (by obtain ⟨cd, hc, _⟩ := PySem.W.any_some C.hd; rw [hc]; rfl) C.hg C.hk C.hs C.ha C.hn C.ht C.hm
  rcases h with ⟨c, cv, b, rfl, hcv, e, q⟩ | ⟨t, cs, b, rfl, hq, e, q⟩
  · cases r with
    | cons rx rr =>
      cases rr with
      | cons rt rr =>
        cases rr
        cases rx
        have ec := hcv _ rt
        subst ec
        exact PySem.W.kia_one Z I.kIn J e (fun z => nomatch z) fun tk => ⟨.bl b, H, I.kept (t' := tk) fun _ _ z => z, rfl, q⟩
  · cases r with
    | cons rx rr =>
      cases rr with
      | cons rt rr =>
        cases rr
        cases rx
        cases rt
        obtain ⟨its, rv, ⟨⟨tc, tdd, tdt, tsl⟩, et, hc, nn, hd2⟩, _⟩ := I.tuple hq
        cases hc
        cases hd2
        rw [← refs_eq rv] at e
        exact PySem.W.kia_tup Z I.kIn J et e (fun z => nomatch z) fun tk => ⟨.bl b, H, I.kept (t' := tk) fun _ _ z => z, rfl, q⟩
theorem xd_dict {M : Addr → Prop} {H : Hp} {d : Option Addr} {fs : List (Str × PyData)} (h : XD M H d fs) : d = none ∨ ∃ dd fs, d = some dd ∧ H dd = some (.xd fs) := by
  rcases h with ⟨e, _⟩ | ⟨dd, vs, e, _, eh, _⟩
  · exact .inl e
  · exact .inr ⟨dd, vs, e, eh⟩
def dIsX (K : PySem.W.Frag) (i : Nat) (a : Addr) (cls : Value) (d : Option Addr) (cv : Value) : TDE := fun ds Q => ∃ fs b, ds[i]? = some (some (.exc a cls d fs)) ∧ PySem.W.kitOne K cls cv = some b ∧ Q (.bool b)
def dIsXT (K : PySem.W.Frag) (i : Nat) (a : Addr) (cls : Value) (d : Option Addr) (cs : List Addr) : TDE := fun ds Q => ∃ fs b, ds[i]? = some (some (.exc a cls d fs)) ∧ PySem.W.kitAny K cls (cs.map Value.ref) = some b ∧ Q (.bool b)
end
end DL
/-! ### isinstance(e, ..), e.f in an except suite -/
namespace DL
open PySem PySem.Spec L2 PyProof.Rows
def tCl : List Addr → TA
  | [] => tNil
  | c :: cs => tCons (tC (.ref c)) (tCl cs)
theorem tCl_of {σ : L2.St} {H : Hp} {R : List V → Hp → Prop} : ∀ {cs : List Addr}, R (cs.map V.ref) H → tCl cs σ H R
  | [], h => h
  | c :: cs, h => tCl_of (cs := cs) (R := fun vs H' => R (.ref c :: vs) H') h
/-- classes of the program, one behind the other -/
structure PCl (X : Cx) (es : List Expr) (cs : List Addr) : Prop where
  pa : PA X es (tCl cs)
def rIsC (K : PySem.W.Frag) (cls : Value) (a : Addr) (d : Option Addr) : List V → Hp → VK → Prop := fun xs H Q => ∃ D, cls = .ref D ∧ L2.ExcC K D ∧ rIsX K D a d xs H Q
def dIs (K : PySem.W.Frag) (i : Nat) (a : Addr) (cls : Value) (d : Option Addr) (cv : Value) : TDE := fun ds Q => ∃ fs b D, ds[i]? = some (some (.exc a cls d fs)) ∧ cls = .ref D ∧ L2.ExcC K D ∧ PySem.W.kitOne K (.ref D) cv = some b ∧ Q (.bool b)
def dIsT (K : PySem.W.Frag) (i : Nat) (a : Addr) (cls : Value) (d : Option Addr) (cs : List Addr) : TDE := fun ds Q => ∃ fs b D, ds[i]? = some (some (.exc a cls d fs)) ∧ cls = .ref D ∧ L2.ExcC K D ∧ PySem.W.kitAny K (.ref D) (cs.map Value.ref) = some b ∧ Q (.bool b)
def dXf (i : Nat) (a C : Addr) (cls : Value) (d : Option Addr) (f : Str) : TDE := fun ds Q => ∃ fs v, ds[i]? = some (some (.exc a cls d fs)) ∧ cls = .ref C ∧ fs.lookup f = some v ∧ Q v
section
variable {X : Cx} {B : Gr} {a : Addr} {oe : Obj} {cls : Value} {d : Option Addr} {pn : List (Addr × Obj)} {x : Str} {es : List Expr} {cs : List Addr} {c : Addr} {p p1 p2 p3 pos : Pos} {T : String}
theorem pcl_nil : PCl X [] [] := ⟨pa_nil⟩
theorem pcl_cons (hg : Gl X x) (hm : X.mg x = some (.ref c)) (h : PCl X es cs) (hd : (x == ("__debug__" : Str)) = false := by decide) (hs : starEach (.Name x p :: es) X.env = (false, eval (.Name x p) X.env) :: starEach es X.env := by rfl) : PCl X (.Name x p :: es) (c :: cs) :=
  ⟨pa_cons (pe_glob hg hm rfl hd) h.pa hs⟩
theorem call_isC (hz : Zc cls d oe) (hf : ∃ vs, oe.data = .fields vs) : CallR (X.suite a ((a, oe) :: pn)) (.builtin "isinstance") (rIsC X.K cls a d) := by
  intro pins s σ H xs us Q I r h
  obtain ⟨D, e, C, h⟩ := h
  subst e
  exact call_isX C hz hf pins s σ H xs us Q I r h
theorem exc_get (i : Nat) {M : Addr → Prop} {H : Hp} {σ : L2.St} {ds : DEnv} {fs : List (Str × PyData)} (en : EnvAt M B H σ ds) (e : ds[i]? = some (some (.exc a cls d fs))) : σ[i]? = some (some (.ref a)) ∧ XD M H d fs := by
  obtain ⟨v, hv, r⟩ := en.get i e
  cases r with
  | exc h => exact ⟨hv, h⟩
theorem d_isC (i : Nat) {n : Str} (hz : Zc cls d oe) (hf : ∃ vs, oe.data = .fields vs) (hv : PE (X.suite a ((a, oe) :: pn)) (.Name n p1) (tVar i)) (hg : Gl X "isinstance") (hm : X.mg "isinstance" = none) (hg2 : Gl X x) (hm2 : X.mg x = some (.ref c))
    (hd : (x == ("__debug__" : Str)) = false := by decide) (hs : starEach [.Name n p1, .Name x p2] X.env = (false, eval (.Name n p1) X.env) :: starEach [.Name x p2] X.env := by rfl) (hs2 : starEach [.Name x p2] X.env = (false, eval (.Name x p2) X.env) :: starEach [] X.env := by rfl) :
    PD (X.suite a ((a, oe) :: pn)) B (.Call (.Name "isinstance" p) [.Name n p1, .Name x p2] [] pos) (tCB (rIsC X.K cls a d) (tCons (tVar i) (tCons (tC (.ref c)) tNil))) (dIs X.K i a cls d (.ref c)) :=
  ⟨pe_callB (X := X.suite a ((a, oe) :: pn)) (call_isC hz hf) hg hm PyProof.Rows.boot_isinstance (pa_cons hv (pa_cons (pe_glob (X := X.suite a ((a, oe) :: pn)) hg2 hm2 rfl hd) pa_nil hs2) hs) (by decide) (by decide) hs rfl, fun M σ H ds Q R g en q c' => by
    obtain ⟨fs, b, D, e, ec, C, hk, q⟩ := q
    obtain ⟨hv, hx⟩ := exc_get i en e
    exact ⟨_, hv, D, ec, C, xd_dict hx, .inl ⟨_, .ref c, b, rfl, fun u z => z, hk, c' _ H _ g Keep.refl (.bl b) q⟩⟩⟩
theorem d_isB (i : Nat) {n : Str} (hz : Zc cls d oe) (hf : ∃ vs, oe.data = .fields vs) (hv : PE (X.suite a ((a, oe) :: pn)) (.Name n p1) (tVar i)) (hg : Gl X "isinstance") (hm : X.mg "isinstance" = none) (hg2 : Gl X x) (hm2 : X.mg x = none) (hb : bootBuiltins x = some (.type T))
    (hd : (x == ("__debug__" : Str)) = false := by decide) (hn : x ≠ "__name__" := by decide) (hs : starEach [.Name n p1, .Name x p2] X.env = (false, eval (.Name n p1) X.env) :: starEach [.Name x p2] X.env := by rfl) (hs2 : starEach [.Name x p2] X.env = (false, eval (.Name x p2) X.env) :: starEach [] X.env := by rfl) :
    PD (X.suite a ((a, oe) :: pn)) B (.Call (.Name "isinstance" p) [.Name n p1, .Name x p2] [] pos) (tCB (rIsC X.K cls a d) (tCons (tVar i) (tCons (tC (.ty T)) tNil))) (dIs X.K i a cls d (.type T)) :=
  ⟨pe_callB (X := X.suite a ((a, oe) :: pn)) (call_isC hz hf) hg hm PyProof.Rows.boot_isinstance (pa_cons hv (pa_cons (pe_bltn (X := X.suite a ((a, oe) :: pn)) hg2 hm2 hb rfl hn hd) pa_nil hs2) hs) (by decide) (by decide) hs rfl, fun M σ H ds Q R g en q c' => by
    obtain ⟨fs, b, D, e, ec, C, hk, q⟩ := q
    obtain ⟨hv, hx⟩ := exc_get i en e
    exact ⟨_, hv, D, ec, C, xd_dict hx, .inl ⟨_, .type T, b, rfl, fun u z => z, hk, c' _ H _ g Keep.refl (.bl b) q⟩⟩⟩
theorem d_isT (i : Nat) {n : Str} {k2} (hz : Zc cls d oe) (hf : ∃ vs, oe.data = .fields vs) (hv : PE (X.suite a ((a, oe) :: pn)) (.Name n p1) (tVar i)) (hg : Gl X "isinstance") (hm : X.mg "isinstance" = none) (hc : PCl (X.suite a ((a, oe) :: pn)) es cs) (hl : cs.length ≤ 100)
    (hs : starEach [.Name n p1, .Tuple es k2 p2] X.env = (false, eval (.Name n p1) X.env) :: starEach [.Tuple es k2 p2] X.env := by rfl) (hs2 : starEach [.Tuple es k2 p2] X.env = (false, eval (.Tuple es k2 p2) X.env) :: starEach [] X.env := by rfl) :
    PD (X.suite a ((a, oe) :: pn)) B (.Call (.Name "isinstance" p) [.Name n p1, .Tuple es k2 p2] [] pos) (tCB (rIsC X.K cls a d) (tCons (tVar i) (tCons (tTup (tCl cs)) tNil))) (dIsT X.K i a cls d cs) :=
  ⟨pe_callB (X := X.suite a ((a, oe) :: pn)) (call_isC hz hf) hg hm PyProof.Rows.boot_isinstance (pa_cons hv (pa_cons (pe_tup hc.pa) pa_nil hs2) hs) (by decide) (by decide) hs rfl, fun M σ H ds Q R g en q c' => by
    obtain ⟨fs, b, D, e, ec, C, hk, q⟩ := q
    obtain ⟨hv, hx⟩ := exc_get i en e
    refine ⟨_, hv, tCl_of ⟨by rw [List.length_map, sizeLine_eq]; omega, fun t ht => ⟨D, ec, C, xd_dict (hx.map ((Keep.new ht).stay g.1)), .inr ⟨t, cs, b, rfl, SqT.of upd_same, hk, c' _ _ _ (g.new ht) (Keep.new ht) (.bl b) q⟩⟩⟩⟩⟩
theorem fld_at {M : Addr → Prop} {H : Hp} {f : Str} {v : PyData} : ∀ {vs : List (Str × V)} {fs : List (Str × PyData)}, FldA M H vs fs → fs.lookup f = some v → ∃ u, vs.lookup f = some u ∧ Dt M H u v
  | _, _, .nil, e => by cases e
  | _, _, .cons (f := g) h t, e => by
    rw [List.lookup_cons] at e ⊢
    split at e
    · cases e
      exact ⟨_, rfl, h⟩
    · exact fld_at t e
theorem d_xf (i : Nat) {n f : Str} {C : Addr} (T : XfC X.K C) (hno : PySem.W.findIn X.K (.ref C) f = some none) (hz : Zc cls d oe) (hf : ∃ vs, oe.data = .fields vs) (hv : PE (X.suite a ((a, oe) :: pn)) (.Name n p1) (tVar i))
    (hb : attributeBase (.Name n p1) f X.env (eval (.Name n p1) X.env) = eval (.Name n p1) X.env := by rfl) :
    PD (X.suite a ((a, oe) :: pn)) B (.Attribute (.Name n p1) f pos) (tXf a cls d C f (tVar i)) (dXf i a C cls d f) :=
  ⟨pe_xf T hno hz hf hv hb, fun M σ H ds Q R g en q c' => by
    obtain ⟨fs, v, e, ec, el, q⟩ := q
    obtain ⟨hv, hx⟩ := exc_get i en e
    rcases hx with ⟨_, rfl⟩ | ⟨dd, vs, ed, _, eh, fa⟩
    · cases el
    · obtain ⟨u, hu, hd⟩ := fld_at fa el
      exact ⟨_, hv, rfl, ec, dd, vs, u, ed, eh, hu, c' _ H _ g Keep.refl hd q⟩⟩
end
end DL
namespace DL
open PySem PySem.Spec L2 PyProof.Rows
theorem fn_errF {P : Program} {w : World} {K : PySem.W.Frag} {mg : Str → Option Value} {base : Heap} {k : Nat} {f : Addr} {fd : FuncData} {qual fld : Str} {st : Stmt} {N ps : List Str} (F : Fun K "__init__" qual st f fd) (S : FnScope N ps (defScope st)) (h2 : ps.length = 2) (hN : 2 ≤ N.length)
    (hb : ∀ (cdv : Value) (A : Around) (outer : List Env) (s : Shared) (H : Hp) (E : XK), PSs (cxOf CX0 P w K mg base N qual (defScope st) f cdv A outer s H E) (defBody st) (tOst K fld (tVar 0) (tVar 1))) :
    FnOk P w K mg base CX0 (k + 1) f fd ps (spErr K fld) := by
  obtain ⟨oc, od, kV, doc, pm, an, cdv, ct, osl, rfl, lk, hcd⟩ := F.ex
  exact fn_err lk hcd S h2 (hb cdv) hN
end DL
namespace DL
open PySem L2
def allowedX (C E : Addr) : DRX := fun xs Q Ed => ∃ (n : Int) (ts : List Tm) (ss : List Int), xs = [.dat (brdD C n (ts.map Tm.py)), .dat (.tuple (ss.map .int))] ∧ Fine ts ss ∧ (isNone (leftV ts ss) = true → Q .none) ∧ (isNone (leftV ts ss) = false → Ed (.ref E) [("at", leftV ts ss)])
def gainX (C E : Addr) : DRX := fun xs Q Ed => ∃ (n : Int) (ts : List Tm) (ss gs : List Int) (w : Int), xs = [.dat (brdD C n (ts.map Tm.py)), .dat (.tuple (ss.map .int)), .dat (.int w), .dat (.list (gs.map .int))] ∧ Fine ts ss ∧ Fine ts (stepV ss gs w) ∧ ss.length < 1000 ∧ w.natAbs < 2 ^ 300 ∧
  (isNone (leftV ts ss) = true → Q (gainV ts ss (stepV ss gs w))) ∧ (isNone (leftV ts ss) = false → Ed (.ref E) [("at", leftV ts ss)])
def toldV (ts : List Tm) (ss tt : List Int) : PyData := if isNone (leftV ts ss) = true then .tuple [.str "gain", gainV ts ss tt] else .tuple [.str "left", leftV ts ss]
def toldX (C : Addr) : DRX := fun xs Q _ => ∃ (n : Int) (ts : List Tm) (ss gs : List Int) (w : Int), xs = [.dat (brdD C n (ts.map Tm.py)), .dat (.tuple (ss.map .int)), .dat (.int w), .dat (.list (gs.map .int))] ∧ Fine ts ss ∧ Fine ts (stepV ss gs w) ∧ ss.length < 1000 ∧ w.natAbs < 2 ^ 300 ∧ Q (toldV ts ss (stepV ss gs w))
end DL
namespace DL
open PySem L2
section
variable {X : Cx} {B : Gr} {a : Expr} {ta : TE} {da : TDE} {p p2 p3 pos : Pos}
def dLRg1 (da : TDE) : TDE := fun ds Q => da ds fun x => match x with
  | .int b => RgOk 0 b ∧ Q (.list (rangeD 0 (b - 0).toNat))
  | _ => False
theorem d_listRg1 (hc : X.calm = true) (hg : Gl X "list") (hm : X.mg "list" = none) (hg2 : Gl X "range") (hm2 : X.mg "range" = none) (ha : PD X B a ta da)
    (na : starEach [.Call (.Name "range" p2) [a] [] p3] X.env = (false, eval (.Call (.Name "range" p2) [a] [] p3) X.env) :: starEach [] X.env := by rfl)
    (n1 : starEach [a] X.env = (false, eval a X.env) :: starEach [] X.env := by rfl) :
    PD X B (.Call (.Name "list" p) [.Call (.Name "range" p2) [a] [] p3] [] pos) (tLstRg (tRg1 ta)) (dLRg1 da) := by
  refine ⟨pe_listRg hc hg hm (prg_1 hg2 hm2 ha.pe n1) na, fun M σ H ds Q R g en q c => ha.se M σ H ds _ _ g en q fun v H1 x g1 k1 hx q1 => ?_⟩
  cases hx <;> first | exact (show False from q1).elim | skip
  rename_i j
  obtain ⟨q3, q4⟩ := (show RgOk 0 j ∧ Q (.list (rangeD 0 (j - 0).toNat)) from q1)
  exact ⟨j, rfl, q3, fun l hl => c _ _ _ (g1.new hl) (k1.trans (Keep.new hl)) (Dt.newL g1 hl (rg_dta _)) q4⟩
end
theorem or_grp {Q : PyData → Prop} {ds : DEnv} {gs : List Int} (hg : Grp gs) (h : ∀ hs : List Int, Grp hs → Q (.list (hs.map .int))) : truD (PyData.list (gs.map PyData.int)) fun c => (c = true → Q (.list (gs.map .int))) ∧ (c = false → dLst (dCons (dC (.int 0)) dNil) ds Q) :=
  ⟨fun _ => h gs hg, fun _ => ⟨by unfold dSize; simp, h [0] ⟨by decide, fun d hd => by rw [List.mem_singleton.mp hd]; decide⟩⟩⟩
theorem range_grp {n : Nat} (hn : n ≤ 8) : ∃ gs : List Int, rangeD 0 n = gs.map .int ∧ Grp gs := by
  refine ⟨(List.range n).map fun (i : Nat) => (0 : Int) + (i : Int), by unfold rangeD; rw [List.map_map]; rfl, by rw [List.length_map, List.length_range]; exact hn, fun d hd => ?_⟩
  obtain ⟨i, hi, rfl⟩ := List.mem_map.mp hd
  have := List.mem_range.mp hi
  omega
theorem told_ok {ts : List Tm} {ss tt : List Int} (h1 : Fine ts ss) (h2 : Fine ts tt) : OkD (toldV ts ss tt) := by
  have c1 := h1.costs
  have c2 := h2.costs
  have str : ∀ z : Str, z = "gain" ∨ z = "left" → Leaf (.str z) := fun z hz => by
    rcases hz with rfl | rfl
    · exact ⟨by decide +kernel, by decide +kernel, by decide +kernel, by rw [PyData.shown_str]; decide +kernel⟩
    · exact ⟨by decide +kernel, by decide +kernel, by decide +kernel, by rw [PyData.shown_str]; decide +kernel⟩
  unfold toldV
  split
  · refine okTup (fun x hx => ?_) (by simp)
    simp only [List.mem_cons, List.not_mem_nil, or_false] at hx
    rcases hx with rfl | rfl
    · exact str _ (.inl rfl)
    · unfold gainV
      split
      · exact leafI ⟨by omega, by omega⟩
      · exact leafN
  · refine okTup (fun x hx => ?_) (by simp)
    simp only [List.mem_cons, List.not_mem_nil, or_false] at hx
    rcases hx with rfl | rfl
    · exact str _ (.inr rfl)
    · exact leaf_left h1
end DL
namespace DL
open PySem PySem.W
theorem kitR {K : Frag} {c C : Addr} {b : Bool} (hn : ((Value.ref c) == (Value.ref C)) = false) (hd : hasDictIn K C = true) (ht : typeIn K (.ref C) = some (.type "type")) (h : subIn K (.ref c) (.ref C) = some b) : kitOne K (.ref c) (.ref C) = some b := by
  obtain ⟨cd, hc, _⟩ := any_some hd
  have e : ((clsIn K C).isSome && typeIn K (.ref C) == some (.type "type")) = true := by rw [hc, ht] <;> rfl
  unfold kitOne kitCls
  rw [hn, if_neg Bool.false_ne_true]
  show (if ((clsIn K C).isSome && typeIn K (.ref C) == some (.type "type")) = true then subIn K (.ref c) (.ref C) else none) = some b
  rw [if_pos e]
  exact h
theorem kitT {K : Frag} {c : Addr} {T : String} {b : Bool} (hm : kitMeta T = true) (h : subIn K (.ref c) (.type T) = some b) : kitOne K (.ref c) (.type T) = some b := by
  unfold kitOne kitCls
  rw [if_neg (show ¬ (Value.ref c == Value.type T) = true from fun z => by simp at z)]
  show (if kitMeta T = true then subIn K (.ref c) (.type T) else none) = some b
  rw [if_pos hm]
  exact h
end DL
/-! ### a list of lists of a def's own: made, changed in place, at rest -/
namespace DL
open PySem PySem.Spec L2 PyProof.Rows
section
variable {X : Cx} {B : Gr} {e a b : Expr} {es : List Expr} {te tb : TE} {ta : TA} {pos : Pos}
/-- [..] * k, a new list -/
def fRep (t : TDL) (db : TDE) : TDL := fun ds Q => t ds fun l => dSize l.length ∧ db ds fun y => match y with
  | .int k => 0 ≤ k ∧ k < 1000 ∧ l.length ≤ 1000 ∧ Q (List.replicate k.toNat l).flatten
  | _ => False
theorem df_rep {t : TDL} {db : TDE} {p2 : Pos} (h : PDL X B es ta t) (hb : PD X B b tb db) :
    PDF X B (.BinOp (.List es p2) .Mult b pos) (tOp (fun x y H Q => rI CMulW (fun i j => .int (i * j)) x y H Q ∨ rRep x y H Q) (tLst ta) tb) (fRep t db) :=
  ⟨pe_op op_mulV (pe_lst h.pa) hb.pe, fun M σ H ds Q R g en hq c => h.sl M σ H ds _ _ g en hq fun vs H1 l g1 k1 hl q1 => by
    have hs : sizeLine = 16777216 := sizeLine_eq
    refine ⟨by rw [hl.length]; exact q1.1.le, fun p hp => ?_⟩
    have k2 := Keep.new (M := M) (B := B.a) (o := .lst vs) hp
    have g2 := g1.new (o := .lst vs) hp
    refine hb.se M σ _ ds _ _ g2 (en.keep g.1 (k1.trans k2)) q1.2 fun y H3 dy g3 k3 hy q3 => ?_
    cases dy <;> first | exact q3.elim | skip
    cases hy
    rename_i kk
    obtain ⟨h0, h1, h2, q⟩ := q3
    have nB : p ≠ B := fun z => by
      obtain ⟨u, hu⟩ := g1.2.1 B g1.1
      rw [z, hu] at hp
      cases hp
    have hl3 : DtA M H3 vs l := (hl.keep g1.1 k2).keep g1.1 k3
    have ll := hl.length
    have hm : l.length * kk.toNat ≤ 1000 * 1000 := Nat.mul_le_mul h2 (by omega)
    exact .inr ⟨_, _, _, rfl, rfl, k3.k p _ nB upd_same, by omega, by omega, by rw [ll]; omega, fun p' hp' => c _ _ _ _ g3 ((k1.trans k2).trans k3) hp' (hl3.replicate _) q⟩⟩

/-! #### [[..] * k for x in l] -/
abbrev gM (M : Addr → Prop) (S : List Addr) : Addr → Prop := fun a => M a ∨ a ∈ S
theorem gM_app {M : Addr → Prop} {D p : Addr} {rs : List Addr} : wM (gM M (D :: rs)) p = gM M (D :: (rs ++ [p])) := by
  funext a
  apply propext
  simp only [gM, wM, List.mem_cons, List.mem_append, List.not_mem_nil, or_false, or_assoc]
theorem RowsA.snoc {M : Addr → Prop} {B : Gr} {H : Hp} {p : Addr} {xs : List V} {l : List PyData} (m : M p) (n : p ≠ B) (z : B.H0 p = none) (e : H p = some (.lst xs)) (h : DtA M H xs l) : ∀ {rs : List Addr} {ls : List (List PyData)}, RowsA M B H rs ls → RowsA M B H (rs ++ [p]) (ls ++ [l])
  | _, _, .nil => .cons m n z e h .nil
  | _, _, .cons m2 n2 z2 e2 h2 t => .cons m2 n2 z2 e2 h2 (RowsA.snoc m n z e h t)
abbrev lcG (g : TDG) (te : TDL) (ds : DEnv) : List PyData → List (List PyData) → (List (List PyData) → Prop) → Prop :=
  fun l => l.rec (motive := fun _ => List (List PyData) → (List (List PyData) → Prop) → Prop) (fun acc Q => Q acc) fun x _ ih acc Q => g x ds fun ds' => te ds' fun y => ih (acc ++ [y]) Q
theorem se_lcG {tg iter : Expr} {wi : TI} {tt : TG} {te : TE} {l : TDL} {g : TDG} {d : TDL} {is vs : List Nat}
    (hi : PDI X B tg iter wi l) (hg : ∀ (M : Addr → Prop) v d σ H ds Q (R : L2.St → Hp → Prop), Good M B H → EnvAt M B H σ ds → Dt M H v d → g d ds Q → (∀ σ' ds', EnvAt M B H σ' ds' → σ'.length = σ.length → (∀ j, j ∉ is → σ'[j]? = σ[j]?) → Sub σ ds σ' ds' → Q ds' → R σ' H) → tt v σ H R)
    (he : SF B te d) (hv : ∀ j ∈ is, j ∈ vs) (M : Addr → Prop) (σ : L2.St) (H : Hp) (ds : DEnv) (Q : List (List PyData) → Prop) (R : VK) (g0 : Good M B H) (en : EnvAt M B H σ ds) (q : l ds fun items => lcG g d (wipeD ds vs) items [] Q)
    (c : ∀ D rs rows H', Good (gM M (D :: rs)) B H' → Keep M B H H' → (∀ a ∈ D :: rs, H a = none) → H' D = some (.lst (rs.map V.ref)) → (D :: rs).Nodup → RowsA (gM M (D :: rs)) B H' rs rows → Q rows → R (.ref D) H') : tLc wi tt tYes te vs σ H R := by
  refine hi.si M σ H ds _ _ g0 en q fun J H1 items g1 k1 ok hsz q1 D hD => ?_
  have mB : M B := g1.1
  have nb : D ≠ B := fun z => by
    obtain ⟨o, e⟩ := g1.2.1 B mB
    rw [z, e] at hD
    cases hD
  have en1 : EnvAt M B H1 (L2.wipe σ vs) (wipeD ds vs) := (en.keep g0.1 k1).wipe vs
  have gs : gM M [D] = wM M D := by
    funext a
    apply propext
    simp only [gM, wM, List.mem_cons, List.not_mem_nil, or_false]
  refine ⟨fun i m H' => m = items.length - i ∧ i ≤ items.length ∧ ∃ rs acc, rs.length ≤ i ∧ Good (gM M (D :: rs)) B H' ∧ Keep M B H1 H' ∧ (∀ a ∈ D :: rs, H1 a = none) ∧ H' D = some (.lst (rs.map V.ref)) ∧ (D :: rs).Nodup ∧ RowsA (gM M (D :: rs)) B H' rs acc ∧ lcG g d (wipeD ds vs) (items.drop i) acc Q,
    ⟨_, rfl, Nat.zero_le _, [], [], Nat.le_refl _, by rw [gs]; exact g1.addM hD, Keep.new hD, fun a ha => by rw [List.mem_singleton.mp ha]; exact hD, upd_same, by simp, .nil, by rw [List.drop_zero]; exact q1⟩, ?_⟩
  rintro i m H' ⟨rfl, hle, rs, acc, hu, g', k', fr, hL, nd, hA, w'⟩
  have st1 : Stay M H1 (gM M (D :: rs)) H' := fun a o n e => ⟨fun z => z.elim n fun z => (by rw [fr a z] at e; cases e), k'.k a o (fun z => n (by rw [z]; exact mB)) e⟩
  by_cases hlt : i < items.length
  · obtain ⟨go, yl⟩ := (ok (gM M (D :: rs)) H' g' st1 i).2 hlt
    refine .inr ⟨go, fun H2 => i + 1 ≤ items.length ∧ ∃ rs acc, rs.length ≤ i + 1 ∧ Good (gM M (D :: rs)) B H2 ∧ Keep M B H1 H2 ∧ (∀ a ∈ D :: rs, H1 a = none) ∧ H2 D = some (.lst (rs.map V.ref)) ∧ (D :: rs).Nodup ∧ RowsA (gM M (D :: rs)) B H2 rs acc ∧ lcG g d (wipeD ds vs) (items.drop (i + 1)) acc Q, fun H2 z => ⟨items.length - (i + 1), by omega, rfl, z⟩, fun x H3 y => ?_⟩
    obtain ⟨g3, k3, dx, hx, rx⟩ := yl x H3 y
    rw [drop_at hx] at w'
    have k13 : Keep M B H1 H3 := k'.trans k3.any
    have st3 : Stay M H1 (gM M (D :: rs)) H3 := fun a o n e => ⟨(st1 a o n e).1, k13.k a o (fun z => n (by rw [z]; exact mB)) e⟩
    have en3 : EnvAt (gM M (D :: rs)) B H3 (L2.wipe σ vs) (wipeD ds vs) := EnvAt.of en1.length fun j y hy => by
      obtain ⟨v, hv, r⟩ := en1.get j hy
      exact ⟨v, hv, r.wide (fun _ => .inl) k13 st3⟩
    refine hg (gM M (D :: rs)) x dx _ H3 _ _ _ g3 en3 rx w' fun σ3 ds3 e3 l3 j3 _ w3 => ?_
    refine ⟨(wipe_eq l3 j3 hv).trans (wipe_idem σ vs), ?_⟩
    unfold tYes
    dsimp only
    rw [if_pos rfl]
    refine he (gM M (D :: rs)) σ3 H3 ds3 _ _ g3 e3 w3 fun p xs row H4 g4 k4 hp hl q4 => ?_
    have mD : gM M (D :: rs) D := .inr (List.mem_cons_self ..)
    have hL4 : H4 D = some (.lst (rs.map V.ref)) := k4.k D _ nb (k3.k D _ nb hL)
    have pD : D ≠ p := ne_of_none hL4 hp
    have pB : p ≠ B := fun z => by
      obtain ⟨u, hu⟩ := g4.2.1 B g4.1
      rw [z, hu] at hp
      cases hp
    have pr : ∀ r, gM M (D :: rs) r → r ≠ p := fun r m z => by
      obtain ⟨u, hu⟩ := g4.2.1 r m
      rw [z, hp] at hu
      cases hu
    have f0D : B.H0 D = none := g1.fresh0 hD
    have k14 : Keep M B H1 H4 := k13.trans k4.any
    have gm := gM_app (M := M) (D := D) (p := p) (rs := rs)
    have mD2 : gM M (D :: (rs ++ [p])) D := .inr (List.mem_cons_self ..)
    have st4 : ∀ {Hx : Hp}, Keep (gM M (D :: rs)) B Hx H4 → Stay (gM M (D :: rs)) Hx (gM M (D :: (rs ++ [p]))) (upd (upd H4 p (.lst xs)) D (.lst (rs.map V.ref ++ [.ref p]))) := fun {Hx} kx a o n e => by
      have e4 : H4 a = some o := kx.k a o (fun z => n (by rw [z]; exact g4.1)) e
      have na : a ≠ p := ne_of_none e4 hp
      refine ⟨fun z => ?_, by rw [upd_ne (show a ≠ D from fun z => n (by rw [z]; exact mD)), upd_ne na]; exact e4⟩
      rw [← gm] at z
      exact z.elim n na
    refine ⟨rs.map V.ref, by rw [upd_ne pD]; exact hL4, by rw [List.length_map]; omega, hlt, rs ++ [p], acc ++ [row], by rw [List.length_append, List.length_singleton]; omega, ?_, ?_, ?_, ?_, ?_, ?_, q4⟩
    · have := g4.addM (o := .lst xs) hp
      rw [gm] at this
      exact this.updD mD2 nb f0D
    · refine ⟨fun b o n e => ?_, fun qq hq => by rw [bagq_upd nb, bagq_upd pB]; exact k14.q qq hq⟩
      have e4 := k14.k b o n e
      rw [upd_ne (ne_of_none e hD), upd_ne (ne_of_none e4 hp)]
      exact e4
    · intro a ha
      rcases List.mem_cons.mp ha with rfl | ha
      · exact hD
      rcases List.mem_append.mp ha with ha | ha
      · exact fr a (List.mem_cons_of_mem _ ha)
      · rw [List.mem_singleton.mp ha]
        cases e : H1 p with
        | none => rfl
        | some u =>
          have := k14.k p u pB e
          rw [hp] at this
          cases this
    · rw [List.map_append]
      exact upd_same
    · have h1 := List.nodup_cons.mp nd
      refine List.nodup_cons.mpr ⟨fun z => ?_, List.nodup_append.mpr ⟨h1.2, by simp, fun a ha b hb => ?_⟩⟩
      · rcases List.mem_append.mp z with z | z
        · exact h1.1 z
        · exact pD (List.mem_singleton.mp z)
      · rw [List.mem_singleton.mp hb]
        exact pr a (.inr (List.mem_cons_of_mem _ ha))
    · refine RowsA.snoc (.inr (by simp)) pB (g4.fresh0 hp) (by rw [upd_ne pD.symm]; exact upd_same) (hl.map (st4 Keep.refl)) (hA.map (st4 (k3.trans k4)) fun r xs hr m n z e => ⟨?_, n, z, ?_⟩)
      · rw [← gm]
        exact .inl m
      · rw [upd_ne (show r ≠ D from fun z => (List.nodup_cons.mp nd).1 (by rw [← z]; exact hr)), upd_ne (pr r m)]
        exact k4.k r _ n (k3.k r _ n e)
  · refine .inl ⟨(ok (gM M (D :: rs)) H' g' st1 i).1 (by omega), ?_⟩
    rw [List.drop_eq_nil_of_le (by omega)] at w'
    refine c D rs acc H' g' (k1.trans k') (fun a ha => ?_) hL nd hA w'
    cases e : H a with
    | none => rfl
    | some u =>
      have nB : a ≠ B := fun z => by
        obtain ⟨u2, hu2⟩ := g1.2.1 B mB
        have := fr a ha
        rw [z, hu2] at this
        cases this
      have := k1.k a u nB e
      rw [fr a ha] at this
      cases this

/-! #### x = [[..] * k for y in l] -/
def sNewG (i : Nat) (l : TDL) (g : TDG) (te : TDL) (vs : List Nat) : TDS := fun DD ds => l ds fun items => lcG g te (wipeD ds vs) items [] fun rows => ∀ rs, DD.nx (ds.set i (some (.grid rs rows)))
theorem ds_newG {i : Nat} {y : Str} {py : Pos} {elt tg iter : Expr} {scope : Scope} {own : List (Str × Nat)} {spos : Pos} {wi : TI} {tt : TG} {te : TE} {l : TDL} {g : TDG} {d : TDL} {is : List Nat} (hc : X.calm = true) (hN : X.N.Nodup) (hy : X.N[i]? = some y) (hyl : X.env.scope.names.lookup y = some .local)
    (hsw : swapsWith (.ListComp elt [⟨tg, iter, [], 0⟩] scope pos) (some (.Name y py)) spos.line X.env = pure true) (hi : PDI X B tg iter wi l) (ok : BlkOk X.N X.env.scope scope own)
    (hg : ∀ (s : Shared) (H : Hp) (C : Addr) (cl : List (Str × Addr)) (fp : List Addr), PDG (X.blk s H scope (compEnvC scope cl C X.env) fp) B tg is tt g)
    (he : ∀ (s : Shared) (H : Hp) (C : Addr) (cl : List (Str × Addr)) (fp : List Addr), PDF (X.blk s H scope (compEnvC scope cl C X.env) fp) B elt te d)
    (hv : ∀ j ∈ is, j ∈ own.map (·.2)) (hs : ∀ x, foldedSetIterable iter X.env x = pure x := by intro _; rfl) :
    PDS X B (.Assign [.Name y py] (.ListComp elt [⟨tg, iter, [], 0⟩] scope pos) spos) (tAsg (tLc wi tt tYes te (own.map (·.2))) (gName i)) (sNewG i l g d (own.map (·.2))) :=
  ⟨ps_setLc hc hN hy hyl hsw hi.pi ok (fun s H C cl fp => (hg s H C cl fp).pg) (fun _ _ _ _ _ => pts_nil) (fun s H C cl fp => (he s H C cl fp).pe) hs, fun M σ H ds DD D en o q c =>
    se_lcG hi (hg X.s_0 X.H_0 0 [] []).sg (he X.s_0 X.H_0 0 [] []).sf hv M σ H ds _ _ en.g o.at_ q fun D rs rows H' g' k fr hL nd hA w => by
      have nb : D ≠ B := fun z => by
        obtain ⟨u, hu⟩ := en.g.2.1 B en.g.1
        have := fr D (List.mem_cons_self ..)
        rw [z, hu] at this
        cases this
      have st : Stay M H (gM M (D :: rs)) H' := fun a u n e => ⟨fun z => z.elim n fun z => (by rw [fr a z] at e; cases e), k.k a u (fun z => n (by rw [z]; exact en.g.1)) e⟩
      exact c.nx (gM M (D :: rs)) _ H' _ ⟨g'⟩ st (o.newO (fun _ => .inl) k st (.grid (.inr (List.mem_cons_self ..)) nb (en.g.fresh0 (fr D (List.mem_cons_self ..))) hL nd hA) fun a f => by
        rcases f with f | f
        · cases f
          exact fr _ (List.mem_cons_self ..)
        · exact fr a (List.mem_cons_of_mem _ f)) (w rs)⟩

/-! #### x[k][m] op= e, ints -/
def sAugG (i : Nat) (op : Int → Int → Int) (tk tm t : TDE) : TDS := fun DD ds => match ds[i]? with
  | some (some (.grid rs rows)) => tk ds fun k => match k with
    | .int k => ∃ (j : Nat) (row : List PyData), k = j ∧ rows[j]? = some row ∧ tm ds fun m => match m with
      | .int m => ∃ (j2 : Nat) (n : Int), m = j2 ∧ row[j2]? = some (.int n) ∧ t ds fun y => match y with
        | .int z => DD.nx (ds.set i (some (.grid rs (rows.set j (row.set j2 (.int (op n z)))))))
        | _ => False
      | _ => False
    | _ => False
  | _ => False
theorem grid_get {M : Addr → Prop} {H : Hp} {σ : L2.St} {ds : DEnv} {i : Nat} {rs : List Addr} {rows : List (List PyData)} (en : EnvAt M B H σ ds) (hi : ds[i]? = some (some (.grid rs rows))) :
    ∃ a, σ[i]? = some (some (.ref a)) ∧ M a ∧ a ≠ B ∧ B.H0 a = none ∧ H a = some (.lst (rs.map V.ref)) ∧ (a :: rs).Nodup ∧ RowsA M B H rs rows := by
  obtain ⟨v, hv, r⟩ := en.get i hi
  cases r with
  | grid ma nb f e nd h => exact ⟨_, hv, ma, nb, f, e, nd, h⟩
theorem RowsA.get {M : Addr → Prop} {H : Hp} : ∀ {rs : List Addr} {ls : List (List PyData)} (j : Nat) {l : List PyData}, RowsA M B H rs ls → ls[j]? = some l → ∃ r xs, rs[j]? = some r ∧ M r ∧ r ≠ B ∧ B.H0 r = none ∧ H r = some (.lst xs) ∧ DtA M H xs l
  | _, _, _, _, .nil, e => by simp at e
  | _, _, 0, _, .cons m n z e h t, q => by
    simp at q
    subst q
    exact ⟨_, _, rfl, m, n, z, e, h⟩
  | _, _, j + 1, _, .cons m n z e h t, q => by
    obtain ⟨r, xs, w⟩ := RowsA.get j t (by simpa using q)
    exact ⟨r, xs, by simpa using w⟩
theorem RowsA.upd {M : Addr → Prop} {H : Hp} {r : Addr} {xs : List V} {l : List PyData} (hl : DtA M H xs l) (mr : M r) (nr : r ≠ B) (zr : B.H0 r = none) : ∀ {rs : List Addr} {ls : List (List PyData)} (j : Nat), RowsA M B H rs ls → rs[j]? = some r → rs.Nodup → RowsA M B (upd H r (.lst xs)) rs (ls.set j l)
  | _, _, _, .nil, e, _ => by simp at e
  | _, _, 0, .cons m n z e h t, q, nd => by
    simp at q
    subst q
    exact .cons m n z upd_same (hl.updD m) (t.map (stay_updD m) fun r2 xs2 hr m n z e => ⟨m, n, z, by rw [upd_ne (show r2 ≠ _ from fun w => (List.nodup_cons.mp nd).1 (by rw [← w]; exact hr))]; exact e⟩)
  | r0 :: rs, _, j + 1, .cons m n z e h t, q, nd => by
    have q2 : rs[j]? = some r := by simpa using q
    have ne : r0 ≠ r := fun w => (List.nodup_cons.mp nd).1 (by rw [w]; exact List.mem_of_getElem? q2)
    exact .cons m n z (by rw [upd_ne ne]; exact e) (h.updD mr) (RowsA.upd hl mr nr zr j t q2 (List.nodup_cons.mp nd).2)
theorem ds_augG {st : Stmt} {ek em : Expr} {tk tm : TE} {d dk dm : TDE} {op : Int → Int → Int} (i : Nat) (he : PD X B e te d) (hk : PD X B ek tk dk) (hm : PD X B em tm dm) (hp : PE X e te → PE X ek tk → PE X em tm → PS X st (tAugS (tOp (rIxL X.K) (tVar i) tk) tm te (rGetL X.K) (ipI op) L2.rSetL)) :
    PDS X B st (tAugS (tOp (rIxL X.K) (tVar i) tk) tm te (rGetL X.K) (ipI op) L2.rSetL) (sAugG i op dk dm d) :=
  ⟨hp he.pe hk.pe hm.pe, fun M σ H ds DD D en o q c => by
    unfold sAugG at q
    split at q
    · rename_i rs rows hl
      obtain ⟨a, hv, ma, nb, z0, ea, nd, ha⟩ := grid_get o.at_ hl
      refine ⟨_, hv, ?_⟩
      refine hk.se M σ H ds _ _ en.g o.at_ q fun w H1 x g1 k1 hx q1 => ?_
      cases x <;> first | exact q1.elim | skip
      cases hx
      obtain ⟨j, row, rfl, hj, q2⟩ := q1
      have ha1 : RowsA M B H1 rs rows := ha.map (k1.stay en.g.1) fun r xs _ m n z e => ⟨m, n, z, k1.k _ _ n e⟩
      obtain ⟨r, xs, hr, mr, nr, zr, er, hrow⟩ := RowsA.get j ha1 hj
      refine ⟨a, _, _, .ref r, rfl, rfl, SqL.of (k1.k a _ nb ea), ?_, ?_⟩
      · have hlt : j < rs.length := (List.getElem?_eq_some_iff.mp hr).1
        unfold atI ixN
        rw [List.length_map, if_pos (Int.natCast_nonneg j), if_pos (by exact_mod_cast hlt)]
        simp [hr]
      refine hm.se M σ H1 ds _ _ g1 (o.at_.keep en.g.1 k1) q2 fun w H2 x g2 k2 hx q3 => ?_
      cases x <;> first | exact q3.elim | skip
      cases hx
      obtain ⟨j2, n, rfl, hj2, q4⟩ := q3
      have er2 := k2.k r _ nr er
      have hrow2 := hrow.keep g1.1 k2
      obtain ⟨v, hv1, r1⟩ := DtA.get j2 hrow2 hj2
      cases r1
      refine ⟨r, xs, _, j2, rfl, rfl, SqL.of er2, hv1, ?_⟩
      refine he.se M σ H2 ds _ _ g2 (o.at_.keep en.g.1 (k1.trans k2)) q4 fun u H3 y g3 k3 hy q5 => ?_
      cases y <;> first | exact q5.elim | skip
      cases hy
      have kk := (k1.trans k2).trans k3
      refine ⟨_, _, rfl, rfl, r, xs, _, j2, rfl, rfl, k3.k r _ nr er2, ?_, ?_⟩
      · rw [hrow2.length]
        have := (List.getElem?_eq_some_iff.mp hj2).1
        unfold L2.ixN
        rw [if_pos (Int.natCast_nonneg j2)]
        simp [this]
      have ha3 : RowsA M B H3 rs rows := ha.map (kk.stay en.g.1) fun r xs _ m n z e => ⟨m, n, z, kk.k _ _ n e⟩
      have ar : a ≠ r := fun z => (List.nodup_cons.mp nd).1 (by rw [z]; exact List.mem_of_getElem? hr)
      exact (c.nx.stay (kk.stay en.g.1)).chg (en.expr g3 kk) (o.expr en.g.1 kk) hl hv (.inr (List.mem_of_getElem? hr)) mr nr zr
        (.grid ma nb z0 (by rw [upd_ne ar]; exact kk.k a _ nb ea) nd (RowsA.upd (DtA.set (.int _) j2 (hrow2.keep g2.1 k3)) mr nr zr j ha3 hr (List.nodup_cons.mp nd).2)) (fun _ f => f) q5
    · exact q.elim⟩
/-- from here on the list of lists at slot i stands still -/
def sFrzG (i : Nat) (t : TDS) : TDS := fun DD ds => match ds[i]? with
  | some (some (.grid _ rows)) => t DD (ds.set i (some (.dat (.list (rows.map PyData.list)))))
  | _ => False
theorem RowsA.still {M M' : Addr → Prop} {H : Hp} (k : Stay M H M' H) : ∀ {rs : List Addr} {ls : List (List PyData)}, RowsA M B H rs ls → (∀ r ∈ rs, ¬ M' r) → DtA M' H (rs.map V.ref) (ls.map PyData.list)
  | _, _, .nil, _ => .nil
  | _, _, .cons m n z e h t, f => .cons (.lst (f _ (List.mem_cons_self ..)) e (h.map k)) (RowsA.still k t fun r hr => f r (List.mem_cons_of_mem _ hr))
theorem RowsA.own {M : Addr → Prop} {H : Hp} : ∀ {rs : List Addr} {ls : List (List PyData)}, RowsA M B H rs ls → ∀ r ∈ rs, B.H0 r = none
  | _, _, .nil, _, h => nomatch h
  | _, _, .cons m n z e h t, r, hr => by
    rcases List.mem_cons.mp hr with rfl | hr
    · exact z
    · exact RowsA.own t r hr
theorem ds_frzG {sts : List Stmt} {ts : TS} {t : TDS} (i : Nat) (h : PDSs X B sts ts t) : PDSs X B sts ts (sFrzG i t) :=
  ⟨h.ps, fun M σ H ds DD D en o q c => by
    unfold sFrzG at q
    split at q
    · rename_i rs rows hl
      obtain ⟨a, hv, ma, nb, z0, ea, nd, ha⟩ := grid_get o.at_ hl
      have ls : Stay M H (DL.lessP M (Fp (.ref a) (.grid rs rows))) H := Stay.less fun b z => z.1
      exact h.ss _ σ H _ DD D (en.still fun b f => by
        rcases f with f | f
        · cases f
          exact z0
        · exact ha.own b f) (o.still hl hv (.lst (fun z => z.2 (.inl rfl)) ea (ha.still ls fun r hr z => z.2 (.inr hr)))) q (c.stay ls)
    · exact q.elim⟩
end
end DL
/-! ### bits; the table of rises -/
namespace DL
open PySem PySem.Spec L2 PyProof.Rows
def rAnd : D2 := fun x y Q => match x, y with
  | .int i, .int j => Q (.int (Builtin.bitAnd i j))
  | _, _ => False
theorem rd_and {B : Gr} : RD B (rI0 fun i j => .int (Builtin.bitAnd i j)) rAnd := by
  intro M x y dx dy H Q R g hx hy h c
  cases dx <;> cases dy <;> first | exact h.elim | skip
  cases hx
  cases hy
  exact ⟨_, _, rfl, rfl, c _ H _ g Keep.refl (.int _) h⟩
def rShr : D2 := fun x y Q => match x, y with
  | .int i, .int j => 0 ≤ j ∧ Q (.int (i / 2 ^ j.toNat))
  | _, _ => False
theorem rd_shr {B : Gr} : RD B (rI (fun _ j => 0 ≤ j) fun i j => .int (i / 2 ^ j.toNat)) rShr := by
  intro M x y dx dy H Q R g hx hy h c
  cases dx <;> cases dy <;> first | exact h.elim | skip
  cases hx
  cases hy
  exact ⟨_, _, rfl, rfl, h.1, c _ H _ g Keep.refl (.int _) h.2⟩
/-! #### tables: rows by a function -/
def rowF (N : Nat) (F : Nat → Nat → Int) (i : Nat) : List PyData := (List.range N).map fun j => .int (F i j)
def tabF (N : Nat) (F : Nat → Nat → Int) : List (List PyData) := (List.range N).map (rowF N F)
theorem rowF_at {N : Nat} {F : Nat → Nat → Int} {i j : Nat} (h : j < N) : (rowF N F i)[j]? = some (.int (F i j)) := by
  unfold rowF
  rw [List.getElem?_map, List.getElem?_range h]
  rfl
theorem tabF_at {N : Nat} {F : Nat → Nat → Int} {i : Nat} (h : i < N) : (tabF N F)[i]? = some (rowF N F i) := by
  unfold tabF
  rw [List.getElem?_map, List.getElem?_range h]
  rfl
/-- v is added at one place -/
def addF (F : Nat → Nat → Int) (a b : Nat) (v : Int) : Nat → Nat → Int := fun i j => if i = a ∧ j = b then F i j + v else F i j
theorem tabF_set {N : Nat} {F : Nat → Nat → Int} {a b : Nat} {v : Int} (ha : a < N) (hb : b < N) : (tabF N F).set a ((rowF N F a).set b (.int (F a b + v))) = tabF N (addF F a b v) := by
  refine List.ext_getElem? fun i => ?_
  by_cases z : a = i
  · subst z
    rw [List.getElem?_set_self (by unfold tabF; rw [List.length_map, List.length_range]; exact ha), tabF_at ha]
    congr 1
    refine List.ext_getElem? fun j => ?_
    by_cases y : b = j
    · subst y
      rw [List.getElem?_set_self (by unfold rowF; rw [List.length_map, List.length_range]; exact hb), rowF_at hb]
      unfold addF
      rw [if_pos ⟨rfl, rfl⟩]
    · rw [List.getElem?_set_ne y]
      by_cases hj : j < N
      · rw [rowF_at hj, rowF_at hj]
        unfold addF
        rw [if_neg fun z => y z.2.symm]
      · unfold rowF
        rw [List.getElem?_eq_none (by rw [List.length_map, List.length_range]; omega), List.getElem?_eq_none (by rw [List.length_map, List.length_range]; omega)]
  · rw [List.getElem?_set_ne z]
    by_cases hi : i < N
    · rw [tabF_at hi, tabF_at hi]
      congr 1
      unfold rowF
      refine List.map_congr_left fun j _ => ?_
      unfold addF
      rw [if_neg fun y => z y.1.symm]
    · unfold tabF
      rw [List.getElem?_eq_none (by rw [List.length_map, List.length_range]; omega), List.getElem?_eq_none (by rw [List.length_map, List.length_range]; omega)]
theorem tab0 (N : Nat) : tabF N (fun _ _ => 0) = List.replicate N (List.replicate N (.int 0)) := by
  have r : ∀ i, rowF N (fun _ _ => 0) i = List.replicate N (.int 0) := fun i => by
    unfold rowF
    rw [List.map_const', List.length_range]
  unfold tabF
  rw [List.map_congr_left (g := fun _ => List.replicate N (.int 0)) fun i _ => r i, List.map_const', List.length_range]
theorem flat1 {n : Nat} {x : PyData} : (List.replicate n [x]).flatten = List.replicate n x := by
  induction n with
  | zero => rfl
  | succ n ih => rw [List.replicate_succ, List.flatten_cons, ih]; rfl
theorem lcG_all {g : TDG} {te : TDL} {ds : DEnv} (row : List PyData) : ∀ (l : List PyData) (acc : List (List PyData)) (Q : List (List PyData) → Prop), (∀ x ∈ l, ∀ (N : List PyData → Prop), N row → g x ds fun ds' => te ds' N) → Q (acc ++ List.replicate l.length row) → lcG g te ds l acc Q
  | [], acc, Q, _, h => by
    rw [List.length_nil, List.replicate_zero, List.append_nil] at h
    exact h
  | x :: l, acc, Q, f, h => f x (List.mem_cons_self ..) _ (lcG_all row l (acc ++ [row]) Q (fun y hy => f y (List.mem_cons_of_mem _ hy)) (by
    rw [List.append_assoc, List.singleton_append, ← List.replicate_succ, ← List.length_cons (a := x)]
    exact h))
namespace Tm
/-- the other node: no dial is one more -/
def node (n : Int) : Tm → Int
  | tie _ o _ _ _ => o
  | bar _ o _ _ => o
  | _ => n
/-- how much the term's strain rises from a to b; v where it is left -/
def rise (t : Tm) (a b v : Int) : Int := if t.soft = true then t.force * (t.dist b - t.dist a) else if t.dist b = 0 then 0 else v
end Tm
def nodesR : DR := fun xs Q => ∃ (t : Tm) (n : Int), xs = [.dat t.py, .dat (.int n)] ∧ Q (.tuple [.int t.dial, .int (t.node n)])
def riseR : DR := fun xs Q => ∃ (t : Tm) (a b v : Int), xs = [.dat t.py, .dat (.int a), .dat (.int b), .dat (.int v)] ∧ t.low ≤ t.high ∧ t.Fr 30 ∧ (t.dist a).natAbs < 2 ^ 300 ∧ (t.dist b).natAbs < 2 ^ 300 ∧ Q (.int (t.rise a b v))
/-- more than all forces together can gain -/
def neverV (ts : List Tm) : Int := 1 + ((ts.filter Tm.soft).map Tm.force).sum
/-- what a term adds to the table -/
def addT (n : Nat) (v : Int) (ss : List Int) (F : Nat → Nat → Int) (t : Tm) : Nat → Nat → Int :=
  addF (addF F t.dial.toNat (t.node n).toNat (t.rise (t.arg ss) (t.arg ss + 1) v)) (t.node n).toNat t.dial.toNat (t.rise (t.arg ss) (t.arg ss - 1) v)
def risesF (ts : List Tm) (ss : List Int) : Nat → Nat → Int := ts.foldl (addT ss.length (neverV ts) ss) fun _ _ => 0
def risesR (C : Addr) : DR := fun xs Q => ∃ (ts : List Tm) (ss : List Int), xs = [.dat (brdD C ss.length (ts.map Tm.py)), .dat (.tuple (ss.map .int))] ∧ Fine ts ss ∧ ss.length ≤ 8 ∧ Q (.list ((tabF (ss.length + 1) (risesF ts ss)).map PyData.list))
theorem Tm.node_lt {t : Tm} {n : Nat} (h : t.In n) : ∃ a b : Nat, t.dial = a ∧ t.node n = b ∧ a < n + 1 ∧ b < n + 1 := by
  cases t with
  | wish d l u f => exact ⟨d.toNat, n, (Int.toNat_of_nonneg h.1).symm, rfl, by have := h.1; have := h.2; omega, by omega⟩
  | stop d l u => exact ⟨d.toNat, n, (Int.toNat_of_nonneg h.1).symm, rfl, by have := h.1; have := h.2; omega, by omega⟩
  | tie d o l u f => exact ⟨d.toNat, o.toNat, (Int.toNat_of_nonneg h.1.1).symm, (Int.toNat_of_nonneg h.2.1).symm, by have := h.1.1; have := h.1.2; omega, by have := h.2.1; have := h.2.2; omega⟩
  | bar d o l u => exact ⟨d.toNat, o.toNat, (Int.toNat_of_nonneg h.1.1).symm, (Int.toNat_of_nonneg h.2.1).symm, by have := h.1.1; have := h.1.2; omega, by have := h.2.1; have := h.2.2; omega⟩
end DL
/-! ### the mathematics of the best steps: sums, the doubled lists, losses of groups -/
namespace DL
/-- f 0 + .. + f (n - 1) -/
def sumN : Nat → (Nat → Int) → Int
  | 0, _ => 0
  | n + 1, f => sumN n f + f n
theorem sumN_succ {n : Nat} {f : Nat → Int} : sumN (n + 1) f = sumN n f + f n := rfl
theorem sumN_congr {n : Nat} {f g : Nat → Int} (h : ∀ i, i < n → f i = g i) : sumN n f = sumN n g := by
  induction n with
  | zero => rfl
  | succ n ih =>
    rw [sumN_succ, sumN_succ, ih fun i hi => h i (by omega), h n (by omega)]
theorem sumN_add {n : Nat} {f g : Nat → Int} : sumN n (fun i => f i + g i) = sumN n f + sumN n g := by
  induction n with
  | zero => rfl
  | succ n ih =>
    simp only [sumN_succ, ih]
    omega
theorem sumN_sub {n : Nat} {f g : Nat → Int} : sumN n (fun i => f i - g i) = sumN n f - sumN n g := by
  induction n with
  | zero => rfl
  | succ n ih =>
    simp only [sumN_succ, ih]
    omega
theorem sumN_zero {n : Nat} : sumN n (fun _ => 0) = 0 := by
  induction n with
  | zero => rfl
  | succ n ih =>
    rw [sumN_succ, ih]
    rfl
/-- one place only -/
theorem sumN_one {n k : Nat} {c : Int} (h : k < n) : sumN n (fun i => if i = k then c else 0) = c := by
  induction n with
  | zero => omega
  | succ n ih =>
    rw [sumN_succ]
    by_cases e : k = n
    · subst e
      rw [if_pos rfl, sumN_congr (g := fun _ => 0) fun i hi => if_neg (by omega), sumN_zero, Int.zero_add]
    · rw [ih (by omega), if_neg (fun z => e z.symm), Int.add_zero]
theorem sumN_le {n : Nat} {f g : Nat → Int} (h : ∀ i, i < n → f i ≤ g i) : sumN n f ≤ sumN n g := by
  induction n with
  | zero => exact Int.le_refl _
  | succ n ih =>
    rw [sumN_succ, sumN_succ]
    have a := ih fun i hi => h i (by omega)
    have b := h n (by omega)
    omega
theorem sumN_list {n : Nat} {f : Nat → Int} : ((List.range n).map f).sum = sumN n f := by
  induction n with
  | zero => rfl
  | succ n ih =>
    rw [List.range_succ, List.map_append, List.sum_append, ih]
    simp [sumN_succ]
/-- what a move up of the dials in g costs: of each beside each other that stays; n is the ground -/
def lossF (R : Nat → Nat → Int) (n : Nat) (g : Nat → Bool) : Int := sumN n fun i => if g i then sumN (n + 1) fun j => if g j then 0 else R i j else 0
/-! #### the doubled lists -/
def savedL (R : Nat → Nat → Int) (d : Nat) : Nat → List Int
  | 0 => [0]
  | m + 1 => savedL R d m ++ (savedL R d m).map (· + (R d m + R m d))
theorem pow2 (d : Nat) : 2 ^ (d + 1) = 2 ^ d + 2 ^ d := by rw [Nat.pow_succ]; omega
theorem savedL_len (R : Nat → Nat → Int) (d : Nat) : ∀ m, (savedL R d m).length = 2 ^ m
  | 0 => rfl
  | m + 1 => by
    unfold savedL
    rw [List.length_append, List.length_map, savedL_len R d m, pow2]
theorem bit_low {m k i : Nat} (h : m < 2 ^ k) (hi : i < k) : (2 ^ k + m).testBit i = m.testBit i := Nat.testBit_two_pow_add_gt hi m
theorem bit_top {m k : Nat} (h : m < 2 ^ k) : (2 ^ k + m).testBit k = true := by
  rw [Nat.testBit_two_pow_add_eq, Nat.testBit_lt_two_pow h]
  rfl
theorem savedL_get (R : Nat → Nat → Int) (d : Nat) : ∀ (k m : Nat), m < 2 ^ k → (savedL R d k)[m]? = some (sumN k fun i => if m.testBit i then R d i + R i d else 0)
  | 0, m, h => by
    have : m = 0 := by simpa using h
    subst this
    rfl
  | k + 1, m, h => by
    unfold savedL
    by_cases c : m < 2 ^ k
    · rw [List.getElem?_append_left (by rw [savedL_len]; exact c), savedL_get R d k m c]
      have e : m.testBit k = false := Nat.testBit_lt_two_pow c
      rw [sumN_succ, e, if_neg Bool.false_ne_true, Int.add_zero]
    · obtain ⟨r, rfl⟩ : ∃ r, m = 2 ^ k + r := ⟨m - 2 ^ k, by omega⟩
      have hr : r < 2 ^ k := by rw [pow2] at h; omega
      rw [List.getElem?_append_right (by rw [savedL_len]; omega), savedL_len, List.getElem?_map, show 2 ^ k + r - 2 ^ k = r by omega, savedL_get R d k r hr]
      show some (sumN k _ + (R d k + R k d)) = _
      rw [sumN_succ, bit_top hr, if_pos rfl]
      congr 2
      exact sumN_congr fun i hi => by rw [bit_low hr hi]
def lossesL (R : Nat → Nat → Int) (n : Nat) : Nat → List Int
  | 0 => [0]
  | d + 1 => lossesL R n d ++ List.zipWith (fun l p => l + sumN (n + 1) (R d) - p) (lossesL R n d) (savedL R d d)
theorem lossesL_len (R : Nat → Nat → Int) (n : Nat) : ∀ d, (lossesL R n d).length = 2 ^ d
  | 0 => rfl
  | d + 1 => by
    unfold lossesL
    rw [List.length_append, List.length_zipWith, lossesL_len R n d, savedL_len, pow2]
    omega
def partF (R : Nat → Nat → Int) (n d m : Nat) : Int := sumN d fun i => if m.testBit i then sumN (n + 1) fun j => if m.testBit j then 0 else R i j else 0
theorem partF_top {R : Nat → Nat → Int} {n d r : Nat} (hd : d < n) (hR : R d d = 0) (hr : r < 2 ^ d) :
    partF R n (d + 1) (2 ^ d + r) = partF R n d r + sumN (n + 1) (R d) - sumN d fun i => if r.testBit i then R d i + R i d else 0 := by
  have high : ∀ j, d < j → (2 ^ d + r).testBit j = false := fun j hj => Nat.testBit_lt_two_pow (Nat.lt_of_lt_of_le (show 2 ^ d + r < 2 ^ (d + 1) by rw [pow2]; omega) (Nat.pow_le_pow_right (by omega) (by omega)))
  have high2 : ∀ j, d ≤ j → r.testBit j = false := fun j hj => Nat.testBit_lt_two_pow (Nat.lt_of_lt_of_le hr (Nat.pow_le_pow_right (by omega) hj))
  have bit : ∀ j, (2 ^ d + r).testBit j = (r.testBit j || decide (j = d)) := fun j => by
    rcases Nat.lt_trichotomy j d with h | h | h
    · rw [bit_low hr h, decide_eq_false (by omega), Bool.or_false]
    · rw [h, bit_top hr, decide_eq_true rfl, Bool.or_true]
    · rw [high j h, high2 j (by omega), decide_eq_false (by omega)]
      rfl
  -- a row of a dial of the group below d
  have row : ∀ i, sumN (n + 1) (fun j => if (2 ^ d + r).testBit j then 0 else R i j) = sumN (n + 1) (fun j => if r.testBit j then 0 else R i j) - R i d := fun i => by
    have e : sumN (n + 1) (fun j => if (2 ^ d + r).testBit j then 0 else R i j) = sumN (n + 1) (fun j => (if r.testBit j then 0 else R i j) - if j = d then R i d else 0) := sumN_congr fun j _ => by
      rw [bit]
      by_cases c : j = d
      · subst c
        rw [high2 j (Nat.le_refl _)]
        simp
      · rw [decide_eq_false c, Bool.or_false, if_neg c]
        omega
    rw [e, sumN_sub, sumN_one (show d < n + 1 by omega)]
  have last : sumN (n + 1) (fun j => if (2 ^ d + r).testBit j then 0 else R d j) = sumN (n + 1) (R d) - sumN d fun i => if r.testBit i then R d i else 0 := by
    rw [row d, hR, Int.sub_zero]
    have e : sumN (n + 1) (fun j => if r.testBit j then 0 else R d j) = sumN (n + 1) (R d) - sumN (n + 1) fun j => if r.testBit j then R d j else 0 := by
      rw [← sumN_sub]
      exact sumN_congr fun j _ => by split <;> omega
    rw [e]
    congr 1
    -- beyond d no bit is set
    have cut : ∀ m, d ≤ m → sumN m (fun j => if r.testBit j then R d j else 0) = sumN d fun j => if r.testBit j then R d j else 0 := fun m hm => by
      induction m with
      | zero =>
        have : d = 0 := by omega
        subst this
        rfl
      | succ m ih =>
        by_cases c : d ≤ m
        · show sumN m _ + _ = _
          rw [ih c]
          dsimp only
          rw [high2 m c, if_neg Bool.false_ne_true, Int.add_zero]
        · have : d = m + 1 := by omega
          rw [this]
    exact cut (n + 1) (by omega)
  unfold partF
  show sumN d _ + _ = _
  dsimp only
  rw [bit_top hr, if_pos rfl, last]
  have e : sumN d (fun i => if (2 ^ d + r).testBit i then sumN (n + 1) (fun j => if (2 ^ d + r).testBit j then 0 else R i j) else 0) = sumN d fun i => (if r.testBit i then sumN (n + 1) (fun j => if r.testBit j then 0 else R i j) else 0) - if r.testBit i then R i d else 0 := sumN_congr fun i hi => by
    rw [bit_low hr hi]
    split
    · rw [row]
    · omega
  rw [e, sumN_sub]
  have e2 : sumN d (fun i => if r.testBit i then R d i + R i d else 0) = sumN d (fun i => if r.testBit i then R d i else 0) + sumN d fun i => if r.testBit i then R i d else 0 := by
    rw [← sumN_add]
    exact sumN_congr fun i _ => by split <;> omega
  rw [e2]
  omega
theorem lossesL_get (R : Nat → Nat → Int) (n : Nat) (hR : ∀ i, i < n → R i i = 0) : ∀ (d m : Nat), d ≤ n → m < 2 ^ d → (lossesL R n d)[m]? = some (partF R n d m)
  | 0, m, _, h => by
    have : m = 0 := by simpa using h
    subst this
    rfl
  | d + 1, m, hd, h => by
    unfold lossesL
    by_cases c : m < 2 ^ d
    · rw [List.getElem?_append_left (by rw [lossesL_len]; exact c), lossesL_get R n hR d m (by omega) c]
      have e : m.testBit d = false := Nat.testBit_lt_two_pow c
      unfold partF
      show _ = some (sumN d _ + _)
      dsimp only
      rw [e, if_neg Bool.false_ne_true, Int.add_zero]
    · obtain ⟨r, rfl⟩ : ∃ r, m = 2 ^ d + r := ⟨m - 2 ^ d, by omega⟩
      have hr : r < 2 ^ d := by rw [pow2] at h; omega
      rw [List.getElem?_append_right (by rw [lossesL_len]; omega), lossesL_len, show 2 ^ d + r - 2 ^ d = r by omega, List.getElem?_zipWith, lossesL_get R n hR d r (by omega) hr, savedL_get R d d r hr]
      show some _ = some _
      rw [partF_top (by omega) (hR d (by omega)) hr]
/-- the list that is made for all dials: each mask's loss -/
theorem losses_all {R : Nat → Nat → Int} {n m : Nat} (hR : ∀ i, i < n → R i i = 0) (h : m < 2 ^ n) : (lossesL R n n)[m]? = some (lossF R n m.testBit) := lossesL_get R n hR n m (Nat.le_refl _) h
end DL
/-! ### groups by their masks, losses by masks: contracts -/
namespace DL
open PySem PySem.Spec L2 PyProof.Rows
theorem bit_one (m k : Nat) : Builtin.bitAnd ((m : Int) / 2 ^ (k : Int).toNat) 1 = if m.testBit k then 1 else 0 := by
  have e := PySem.W.kbt_mask ((m : Int) / 2 ^ (k : Int).toNat) 1
  rw [show ((2 : Int) ^ 1 - 1) = 1 from rfl] at e
  rw [e, Int.toNat_natCast, Nat.testBit_eq_decide_div_mod_eq]
  have e2 : (m : Int) / 2 ^ k % 2 ^ 1 = ((m / 2 ^ k % 2 : Nat) : Int) := by
    rw [Int.natCast_emod, Int.natCast_ediv, Int.natCast_pow]
    rfl
  rw [e2]
  by_cases h : m / 2 ^ k % 2 = 1
  · rw [h]
    simp
  · have : m / 2 ^ k % 2 = 0 := by omega
    rw [this]
    simp
/-- the group of a mask -/
def maskG (n m : Nat) : List Int := ((List.range n).filter fun i => m.testBit i).map Int.ofNat
def maskR : DR := fun xs Q => ∃ m n : Nat, xs = [.dat (.int m), .dat (.int n)] ∧ n ≤ 1000 ∧ Q (.list ((maskG n m).map .int))
/-- the places of c -/
def masksL (ls : List Int) (c : Int) : List Nat := (List.range ls.length).filter fun i => ls.getD i 0 == c
def masksR : DR := fun xs Q => ∃ (ls : List Int) (c : Int), xs = [.dat (.list (ls.map .int)), .dat (.int c)] ∧ ls.length ≤ 1000 ∧ Q (.list ((masksL ls c).map fun i => .int (i : Nat)))
def lossesR : DR := fun xs Q => ∃ (n : Nat) (F : Nat → Nat → Int), xs = [.dat (.list ((tabF (n + 1) F).map PyData.list)), .dat (.int n)] ∧ n ≤ 8 ∧ Q (.list ((lossesL F n n).map .int))
theorem range_enum (ls : List Int) : enumD (ls.map PyData.int) = (List.range ls.length).map fun (i : Nat) => PyData.tuple [.int i, .int (ls.getD i 0)] := by
  refine List.ext_getElem? fun i => ?_
  by_cases h : i < ls.length
  · rw [enumD_at (x := .int ls[i]) (by rw [List.getElem?_map, List.getElem?_eq_getElem h]; rfl), List.getElem?_map, List.getElem?_range h]
    show _ = some (PyData.tuple [_, .int (ls.getD i 0)])
    rw [List.getD_eq_getElem?_getD, List.getElem?_eq_getElem h]
    rfl
  · rw [List.getElem?_eq_none (by rw [enumD_len, List.length_map]; omega), List.getElem?_eq_none (by rw [List.length_map, List.length_range]; omega)]
theorem range_map (n : Nat) : rangeD 0 n = (List.range n).map fun (i : Nat) => PyData.int i := by
  refine List.ext_getElem? fun i => ?_
  by_cases h : i < n
  · rw [rangeD_at h, List.getElem?_map, List.getElem?_range h, Int.zero_add]
    rfl
  · rw [List.getElem?_eq_none (by rw [rangeD_len]; omega), List.getElem?_eq_none (by rw [List.length_map, List.length_range]; omega)]
theorem zip_map (a b : List Int) : zipD (a.map PyData.int) (b.map .int) = (a.zip b).map fun p => .tuple [.int p.1, .int p.2] := by
  unfold zipD
  rw [List.zip_map, List.map_map]
  rfl
theorem rowF_sum {N : Nat} {F : Nat → Nat → Int} {i : Nat} : rowF N F i = ((List.range N).map (F i)).map PyData.int := by
  unfold rowF
  rw [List.map_map]
  rfl
theorem tab_atI {N : Nat} {F : Nat → Nat → Int} {i : Nat} (h : i < N) : atI ((tabF N F).map PyData.list) (i : Int) = some (.list (rowF N F i)) := atI_nat (by rw [List.getElem?_map, tabF_at h]; rfl)
theorem row_atI {N : Nat} {F : Nat → Nat → Int} {i j : Nat} (h : j < N) : atI (rowF N F i) (j : Int) = some (.int (F i j)) := atI_nat (rowF_at h)
theorem savedL_map {F : Nat → Nat → Int} {d m : Nat} : (savedL F d (m + 1)).map PyData.int = (savedL F d m).map PyData.int ++ (savedL F d m).map fun p => PyData.int (p + (F d m + F m d)) := by
  show ((savedL F d m) ++ (savedL F d m).map _).map PyData.int = _
  rw [List.map_append, List.map_map]
  rfl
theorem lossesL_map {F : Nat → Nat → Int} {n d : Nat} : (lossesL F n (d + 1)).map PyData.int = (lossesL F n d).map PyData.int ++ ((lossesL F n d).zip (savedL F d d)).map fun p => PyData.int (p.1 + sumN (n + 1) (F d) - p.2) := by
  show ((lossesL F n d) ++ List.zipWith _ _ _).map PyData.int = _
  rw [List.map_append, ← List.map_uncurry_zip_eq_zipWith, List.map_map]
  rfl
theorem savedL_le {F : Nat → Nat → Int} {d m : Nat} (h : m ≤ 8) : (savedL F d m).length ≤ 256 := by
  rw [savedL_len]
  exact Nat.pow_le_pow_right (by omega) h
theorem lossesL_le {F : Nat → Nat → Int} {n d : Nat} (h : d ≤ 8) : (lossesL F n d).length ≤ 256 := by
  rw [lossesL_len]
  exact Nat.pow_le_pow_right (by omega) h
end DL
/-! ### the losses of the table are the losses of strain -/
namespace DL
open PySem PySem.Spec L2 PyProof.Rows
theorem sumN_none {n k : Nat} {c : Int} (h : ¬ k < n) : sumN n (fun i => if i = k then c else 0) = 0 := by
  rw [sumN_congr (g := fun _ => 0) fun i hi => if_neg (by omega), sumN_zero]
theorem lossF_addF {F : Nat → Nat → Int} {a b n : Nat} {v : Int} {g : Nat → Bool} (hb : b < n + 1) : lossF (addF F a b v) n g = lossF F n g + if a < n then (if g a = true then (if g b = true then 0 else v) else 0) else 0 := by
  have inner : ∀ i, sumN (n + 1) (fun j => if g j = true then 0 else addF F a b v i j) = sumN (n + 1) (fun j => if g j = true then 0 else F i j) + if i = a then (if g b = true then 0 else v) else 0 := fun i => by
    by_cases z : i = a
    · subst z
      rw [if_pos rfl, ← sumN_one (n := n + 1) (k := b) (c := if g b = true then 0 else v) hb, ← sumN_add]
      refine sumN_congr fun j _ => ?_
      by_cases y : j = b
      · subst y
        by_cases gj : g j = true
        · simp [gj]
        · simp [addF, gj]
      · simp [addF, y]
    · rw [if_neg z, Int.add_zero]
      refine sumN_congr fun j _ => ?_
      simp [addF, z]
  unfold lossF
  have e : (sumN n fun i => if g i = true then sumN (n + 1) (fun j => if g j = true then 0 else addF F a b v i j) else 0) = sumN n fun i => (if g i = true then sumN (n + 1) (fun j => if g j = true then 0 else F i j) else 0) + if i = a then (if g a = true then (if g b = true then 0 else v) else 0) else 0 := sumN_congr fun i _ => by
    rw [inner]
    by_cases z : i = a
    · subst z
      rw [if_pos rfl, if_pos rfl]
      split <;> omega
    · rw [if_neg z, if_neg z, Int.add_zero, Int.add_zero]
  rw [e, sumN_add]
  congr 1
  by_cases h : a < n
  · rw [sumN_one h, if_pos h]
  · rw [sumN_none h, if_neg h]
/-- x where the dial is in the group and the other node is not, y the other way -/
def cC (t : Tm) (n : Nat) (g : Nat → Bool) (x y : Int) : Int :=
  (if g t.dial.toNat = true then (if g (t.node n).toNat = true then 0 else x) else 0) + if (t.node n).toNat < n then (if g (t.node n).toNat = true then (if g t.dial.toNat = true then 0 else y) else 0) else 0
def tr (F : Nat → Nat → Int) : Nat → Nat → Int := fun i j => F j i
theorem tr_addF {F : Nat → Nat → Int} {a b : Nat} {v : Int} : tr (addF F a b v) = addF (tr F) b a v := by
  funext i j
  unfold tr addF
  by_cases h : i = b ∧ j = a
  · rw [if_pos h, if_pos ⟨h.2, h.1⟩]
  · rw [if_neg h, if_neg fun w => h ⟨w.2, w.1⟩]
theorem Tm.dial_lt {t : Tm} {n : Nat} (h : t.In n) : t.dial.toNat < n := by
  cases t with
  | wish d l u f => have h1 := h.1; have h2 := h.2; show d.toNat < n; omega
  | stop d l u => have h1 := h.1; have h2 := h.2; show d.toNat < n; omega
  | tie d o l u f => have h1 := h.1.1; have h2 := h.1.2; show d.toNat < n; omega
  | bar d o l u => have h1 := h.1.1; have h2 := h.1.2; show d.toNat < n; omega
theorem Tm.node_lt2 {t : Tm} {n : Nat} (h : t.In n) : (t.node n).toNat < n + 1 := by
  obtain ⟨a, b, _, e, _, l⟩ := Tm.node_lt h
  rw [e]
  omega
theorem loss_up {n : Nat} {v : Int} {ss : List Int} {g : Nat → Bool} : ∀ (ts : List Tm) (F : Nat → Nat → Int), (∀ t ∈ ts, t.In n) → lossF (ts.foldl (addT n v ss) F) n g = lossF F n g + (ts.map fun t => cC t n g (t.rise (t.arg ss) (t.arg ss + 1) v) (t.rise (t.arg ss) (t.arg ss - 1) v)).sum
  | [], F, _ => by simp
  | t :: ts, F, h => by
    have ht := h t (List.mem_cons_self ..)
    rw [List.foldl_cons, loss_up ts _ fun u hu => h u (List.mem_cons_of_mem _ hu), List.map_cons, List.sum_cons]
    unfold addT
    rw [lossF_addF (by have := Tm.dial_lt ht; omega), lossF_addF (Tm.node_lt2 ht), if_pos (Tm.dial_lt ht)]
    unfold cC
    omega
theorem loss_dn {n : Nat} {v : Int} {ss : List Int} {g : Nat → Bool} : ∀ (ts : List Tm) (F : Nat → Nat → Int), (∀ t ∈ ts, t.In n) → lossF (tr (ts.foldl (addT n v ss) F)) n g = lossF (tr F) n g + (ts.map fun t => cC t n g (t.rise (t.arg ss) (t.arg ss - 1) v) (t.rise (t.arg ss) (t.arg ss + 1) v)).sum
  | [], F, _ => by simp
  | t :: ts, F, h => by
    have ht := h t (List.mem_cons_self ..)
    rw [List.foldl_cons, loss_dn ts _ fun u hu => h u (List.mem_cons_of_mem _ hu), List.map_cons, List.sum_cons]
    unfold addT
    rw [tr_addF, tr_addF, lossF_addF (Tm.node_lt2 ht), lossF_addF (by have := Tm.dial_lt ht; omega), if_pos (Tm.dial_lt ht)]
    unfold cC
    omega
theorem rise_self {t : Tm} {ss : List Int} {v : Int} (h : t.gone ss = false) : t.rise (t.arg ss) (t.arg ss) v = 0 := by
  unfold Tm.rise
  cases hs : t.soft with
  | true => rw [if_pos rfl, Int.sub_self, Int.mul_zero]
  | false => rw [if_neg Bool.false_ne_true, if_pos ((gone_zero hs).mp h)]
/-- what a term adds is how much its strain rises by the step -/
theorem cC_rise {t : Tm} {ss gs : List Int} {g : Nat → Bool} {v b : Int} (hi : t.In ss.length) (hg : g ss.length = false) (hm : ∀ i : Nat, i < ss.length → ((i : Int) ∈ gs ↔ g i = true)) (h : t.gone ss = false) :
    cC t ss.length g (t.rise (t.arg ss) (t.arg ss + b) v) (t.rise (t.arg ss) (t.arg ss - b) v) = t.rise (t.arg ss) (t.arg (stepV ss gs b)) v := by
  have z := rise_self (v := v) h
  have mem : ∀ d : Int, 0 ≤ d → d < ss.length → (d ∈ gs ↔ g d.toNat = true) := fun d h0 h1 => by
    have := hm d.toNat (by omega)
    rw [Int.toNat_of_nonneg h0] at this
    exact this
  have one : ∀ d : Int, 0 ≤ d ∧ d < ss.length → t.dial = d → t.node ss.length = ss.length → t.arg (stepV ss gs b) = t.arg ss + (if d ∈ gs then b else 0) → cC t ss.length g (t.rise (t.arg ss) (t.arg ss + b) v) (t.rise (t.arg ss) (t.arg ss - b) v) = t.rise (t.arg ss) (t.arg (stepV ss gs b)) v := fun d hd e1 e2 e3 => by
    unfold cC
    rw [e1, e2, e3, Int.toNat_natCast, hg, if_neg (Nat.lt_irrefl _), Int.add_zero, if_neg Bool.false_ne_true]
    by_cases c : g d.toNat = true
    · rw [if_pos c, if_pos ((mem d hd.1 hd.2).mpr c)]
    · rw [if_neg c, if_neg fun w => c ((mem d hd.1 hd.2).mp w), Int.add_zero, z]
  have two : ∀ d o : Int, (0 ≤ d ∧ d < ss.length) → (0 ≤ o ∧ o < ss.length) → t.dial = d → t.node ss.length = o → t.arg (stepV ss gs b) = t.arg ss + ((if d ∈ gs then b else 0) - (if o ∈ gs then b else 0)) → cC t ss.length g (t.rise (t.arg ss) (t.arg ss + b) v) (t.rise (t.arg ss) (t.arg ss - b) v) = t.rise (t.arg ss) (t.arg (stepV ss gs b)) v := fun d o hd ho e1 e2 e3 => by
    unfold cC
    rw [e1, e2, e3, if_pos (show o.toNat < ss.length by omega)]
    by_cases c : g d.toNat = true <;> by_cases c2 : g o.toNat = true
    · rw [if_pos c, if_pos c2, if_pos c2, if_pos c, if_pos ((mem d hd.1 hd.2).mpr c), if_pos ((mem o ho.1 ho.2).mpr c2)]
      simp only [Int.sub_self, Int.add_zero]
      exact z.symm
    · rw [if_pos c, if_neg c2, if_neg c2, if_pos ((mem d hd.1 hd.2).mpr c), if_neg fun w => c2 ((mem o ho.1 ho.2).mp w)]
      simp only [Int.sub_zero, Int.add_zero]
    · rw [if_neg c, if_pos c2, if_neg c, if_neg (fun w => c ((mem d hd.1 hd.2).mp w)), if_pos ((mem o ho.1 ho.2).mpr c2)]
      simp only [Int.zero_sub, Int.zero_add, Int.sub_eq_add_neg]
    · rw [if_neg c, if_neg c2, if_neg (fun w => c ((mem d hd.1 hd.2).mp w)), if_neg fun w => c2 ((mem o ho.1 ho.2).mp w)]
      simp only [Int.sub_zero, Int.add_zero]
      exact z.symm
  have e := arg_step (b := b) (gs := gs) hi
  cases t with
  | wish d l u f => exact one d hi rfl rfl e
  | stop d l u => exact one d hi rfl rfl e
  | tie d o l u f => exact two d o hi.1 hi.2 rfl rfl e
  | bar d o l u => exact two d o hi.1 hi.2 rfl rfl e
theorem maskG_mem {n m i : Nat} (h : i < n) : ((i : Int) ∈ maskG n m ↔ m.testBit i = true) := by
  unfold maskG
  rw [List.mem_map]
  constructor
  · rintro ⟨j, hj, e⟩
    have : j = i := Int.ofNat.inj e
    rw [← this]
    exact (List.mem_filter.mp hj).2
  · intro e
    exact ⟨i, List.mem_filter.mpr ⟨List.mem_range.mpr h, e⟩, rfl⟩
theorem maskG_lt {n m : Nat} : ∀ d ∈ maskG n m, 0 ≤ d ∧ d < n := fun d hd => by
  unfold maskG at hd
  obtain ⟨j, hj, rfl⟩ := List.mem_map.mp hd
  have := List.mem_range.mp (List.mem_filter.mp hj).1
  exact ⟨Int.natCast_nonneg _, by show (j : Int) < n; omega⟩
/-- the loss of a standing -/
def lossV (ts : List Tm) (ss tt : List Int) : Int := (ts.map fun t => t.rise (t.arg ss) (t.arg tt) (neverV ts)).sum
theorem lossF_zero {n : Nat} {g : Nat → Bool} : lossF (fun _ _ => 0) n g = 0 := by
  unfold lossF
  rw [sumN_congr (g := fun _ => 0) fun i _ => ?_, sumN_zero]
  rw [sumN_congr (g := fun _ => 0) fun j _ => by split <;> rfl, sumN_zero]
  split <;> rfl
theorem loss_of_up {ts : List Tm} {ss : List Int} {m : Nat} (hm : m < 2 ^ ss.length) (hi : ∀ t ∈ ts, t.In ss.length) (ha : isNone (leftV ts ss) = true) : lossF (risesF ts ss) ss.length m.testBit = lossV ts ss (stepV ss (maskG ss.length m) 1) := by
  have al := left_iff.mp ha
  unfold risesF lossV
  rw [loss_up ts _ hi, lossF_zero, Int.zero_add]
  congr 1
  refine List.map_congr_left fun t ht => ?_
  exact cC_rise (hi t ht) (Nat.testBit_lt_two_pow hm) (fun i h => maskG_mem h) (al t ht)
theorem loss_of_dn {ts : List Tm} {ss : List Int} {m : Nat} (hm : m < 2 ^ ss.length) (hi : ∀ t ∈ ts, t.In ss.length) (ha : isNone (leftV ts ss) = true) : lossF (tr (risesF ts ss)) ss.length m.testBit = lossV ts ss (stepV ss (maskG ss.length m) (-1)) := by
  have al := left_iff.mp ha
  unfold risesF lossV
  rw [loss_dn ts _ hi, show tr (fun _ _ => (0 : Int)) = fun _ _ => 0 from rfl, lossF_zero, Int.zero_add]
  congr 1
  refine List.map_congr_left fun t ht => ?_
  have := cC_rise (v := neverV ts) (b := -1) (hi t ht) (Nat.testBit_lt_two_pow hm) (fun i h => maskG_mem h) (al t ht)
  rw [← this, Int.sub_neg, Int.sub_eq_add_neg]
/-- where nothing is left, the loss is the difference of strain -/
theorem rise_costs {ss tt : List Int} {v : Int} : ∀ {ts : List Tm}, (∀ t ∈ ts, t.gone tt = false) → (ts.map fun t => t.rise (t.arg ss) (t.arg tt) v).sum = (costs ts tt).sum - (costs ts ss).sum
  | [], _ => rfl
  | t :: ts, h => by
    rw [List.map_cons, List.sum_cons, costs_cons, costs_cons, rise_costs fun u hu => h u (List.mem_cons_of_mem _ hu)]
    have g := h t (List.mem_cons_self ..)
    unfold Tm.rise
    cases hs : t.soft with
    | true =>
      rw [if_pos rfl, if_pos rfl, if_pos rfl, Int.mul_sub]
      omega
    | false =>
      rw [if_neg Bool.false_ne_true, if_neg Bool.false_ne_true, if_neg Bool.false_ne_true, if_pos ((gone_zero hs).mp g)]
      omega
theorem lossV_left {ts : List Tm} {ss tt : List Int} (h : isNone (leftV ts tt) = true) : lossV ts ss tt = (costs ts tt).sum - (costs ts ss).sum := rise_costs (left_iff.mp h)
theorem rise_never {ss tt : List Int} {v : Int} (hv : 0 ≤ v) : ∀ {ts : List Tm}, (∀ t ∈ ts, 0 ≤ t.force ∧ t.dist (t.arg ss) - 1 ≤ t.dist (t.arg tt)) →
    (0 : Int) ≤ (ts.map fun t => t.rise (t.arg ss) (t.arg tt) v).sum + ((ts.filter Tm.soft).map Tm.force).sum ∧ ((∃ t ∈ ts, t.gone tt = true) → v ≤ (ts.map fun t => t.rise (t.arg ss) (t.arg tt) v).sum + ((ts.filter Tm.soft).map Tm.force).sum)
  | [], _ => ⟨by simp, fun ⟨t, h, _⟩ => nomatch h⟩
  | t :: ts, h => by
    obtain ⟨i1, i2⟩ := rise_never hv (ts := ts) fun u hu => h u (List.mem_cons_of_mem _ hu)
    obtain ⟨f0, dd⟩ := h t (List.mem_cons_self ..)
    rw [List.map_cons, List.sum_cons]
    cases hs : t.soft with
    | true =>
      have ng : t.gone tt = false := by unfold Tm.gone; rw [hs]; rfl
      rw [List.filter_cons_of_pos hs, List.map_cons, List.sum_cons]
      have e : t.rise (t.arg ss) (t.arg tt) v = t.force * (t.dist (t.arg tt) - t.dist (t.arg ss)) := by unfold Tm.rise; rw [if_pos hs]
      rw [e]
      have m : t.force * (-1) ≤ t.force * (t.dist (t.arg tt) - t.dist (t.arg ss)) := Int.mul_le_mul_of_nonneg_left (by omega) f0
      refine ⟨by omega, fun ⟨u, hu, gu⟩ => ?_⟩
      rcases List.mem_cons.mp hu with rfl | hu
      · rw [ng] at gu
        cases gu
      · have := i2 ⟨u, hu, gu⟩
        omega
    | false =>
      rw [List.filter_cons_of_neg (by rw [hs]; exact Bool.false_ne_true)]
      have e : t.rise (t.arg ss) (t.arg tt) v = if t.dist (t.arg tt) = 0 then 0 else v := by unfold Tm.rise; rw [if_neg (by rw [hs]; exact Bool.false_ne_true)]
      rw [e]
      refine ⟨by split <;> omega, fun ⟨u, hu, gu⟩ => ?_⟩
      rcases List.mem_cons.mp hu with rfl | hu
      · have : ¬ u.dist (u.arg tt) = 0 := fun z => by
          rw [(gone_zero hs).mpr z] at gu
          cases gu
        rw [if_neg this]
        omega
      · have := i2 ⟨u, hu, gu⟩
        split <;> omega
theorem dist_one {t : Tm} {a b : Int} (h0 : a - 1 ≤ b) (h1 : b ≤ a + 1) (lh : t.low ≤ t.high) : t.dist a - 1 ≤ t.dist b := by
  unfold Tm.dist
  split <;> split <;> (try split) <;> (try split) <;> omega
theorem arg_one {t : Tm} {ss gs : List Int} {b : Int} (hi : t.In ss.length) (hb : b = 1 ∨ b = -1) : t.arg ss - 1 ≤ t.arg (stepV ss gs b) ∧ t.arg (stepV ss gs b) ≤ t.arg ss + 1 := by
  rw [arg_step hi]
  cases t <;> dsimp only <;> rcases hb with rfl | rfl <;> (repeat' split) <;> omega
/-- where a stop or bar is left, the loss is at least 1 -/
theorem lossV_gone {ts : List Tm} {ss gs : List Int} {b : Int} (fine : Fine ts ss) (hb : b = 1 ∨ b = -1) (h : isNone (leftV ts (stepV ss gs b)) = false) : 1 ≤ lossV ts ss (stepV ss gs b) := by
  have fs : 0 ≤ ((ts.filter Tm.soft).map Tm.force).sum := by
    have : ∀ l : List Tm, (∀ t ∈ l, 0 ≤ t.force) → 0 ≤ (l.map Tm.force).sum := fun l => by
      induction l with
      | nil => intro _; exact Int.le_refl _
      | cons t l ih =>
        intro hl
        have a := ih fun u hu => hl u (List.mem_cons_of_mem _ hu)
        have b := hl t (List.mem_cons_self ..)
        rw [List.map_cons, List.sum_cons]
        omega
    exact this _ fun t ht => (fine.force (List.mem_filter.mp ht).1).1
  have key := (rise_never (ss := ss) (tt := stepV ss gs b) (v := neverV ts) (by unfold neverV; omega) (ts := ts) fun t ht => ⟨(fine.force ht).1, by
    have a := arg_one (gs := gs) (fine.good t ht).inn hb
    exact dist_one a.1 a.2 (fine.good t ht).lh⟩).2 (by
    refine Classical.byContradiction fun w => ?_
    have : isNone (leftV ts (stepV ss gs b)) = true := left_iff.mpr fun t ht => by
      cases e : t.gone (stepV ss gs b) with
      | false => rfl
      | true => exact absurd ⟨t, ht, e⟩ w
    rw [h] at this
    cases this)
  unfold lossV
  unfold neverV at key ⊢
  omega
end DL
/-! ### the best masks: closed under common dials, the smallest one -/
namespace DL
open PySem PySem.Spec L2 PyProof.Rows
theorem and_nat (a b : Nat) : Builtin.bitAnd (a : Int) (b : Int) = ((a &&& b : Nat) : Int) := by
  unfold Builtin.bitAnd
  simp
/-- the loss of a step with a mask -/
def lossM (ts : List Tm) (ss : List Int) (w : Int) (m : Nat) : Int := lossV ts ss (stepV ss (maskG ss.length m) w)
theorem maskG_iff {n m : Nat} {i : Int} : i ∈ maskG n m ↔ ∃ j : Nat, i = j ∧ j < n ∧ m.testBit j = true := by
  unfold maskG
  rw [List.mem_map]
  constructor
  · rintro ⟨j, hj, rfl⟩
    exact ⟨j, rfl, List.mem_range.mp (List.mem_filter.mp hj).1, (List.mem_filter.mp hj).2⟩
  · rintro ⟨j, rfl, h, e⟩
    exact ⟨j, List.mem_filter.mpr ⟨List.mem_range.mpr h, e⟩, rfl⟩
theorem maskG_and {n a b : Nat} (i : Int) : i ∈ maskG n (a &&& b) ↔ i ∈ maskG n a ∧ i ∈ maskG n b := by
  rw [maskG_iff, maskG_iff, maskG_iff]
  constructor
  · rintro ⟨j, rfl, h, e⟩
    rw [Nat.testBit_and, Bool.and_eq_true] at e
    exact ⟨⟨j, rfl, h, e.1⟩, ⟨j, rfl, h, e.2⟩⟩
  · rintro ⟨⟨j, rfl, h, e⟩, ⟨k, ek, h2, e2⟩⟩
    have : k = j := (Int.ofNat.inj ek).symm
    subst this
    exact ⟨k, rfl, h, by rw [Nat.testBit_and, e, e2]; rfl⟩
theorem maskG_or {n a b : Nat} (i : Int) : i ∈ maskG n (a ||| b) ↔ i ∈ maskG n a ∨ i ∈ maskG n b := by
  rw [maskG_iff, maskG_iff, maskG_iff]
  constructor
  · rintro ⟨j, rfl, h, e⟩
    rw [Nat.testBit_or, Bool.or_eq_true] at e
    rcases e with e | e
    · exact .inl ⟨j, rfl, h, e⟩
    · exact .inr ⟨j, rfl, h, e⟩
  · rintro (⟨j, rfl, h, e⟩ | ⟨j, rfl, h, e⟩)
    · exact ⟨j, rfl, h, by rw [Nat.testBit_or, e]; rfl⟩
    · exact ⟨j, rfl, h, by rw [Nat.testBit_or, e, Bool.or_true]⟩
/-- m is a best mask of the way w: its loss is c, below 0, and no mask's is less -/
structure Best (ts : List Tm) (ss : List Int) (w c : Int) : Prop where
  fine : Fine ts ss
  way : w = 1 ∨ w = -1
  neg : c < 0
  least : ∀ m, m < 2 ^ ss.length → c ≤ lossM ts ss w m
theorem Best.left {ts : List Tm} {ss : List Int} {w c : Int} (b : Best ts ss w c) {m : Nat} (e : lossM ts ss w m = c) : isNone (leftV ts (stepV ss (maskG ss.length m) w)) = true := by
  cases h : isNone (leftV ts (stepV ss (maskG ss.length m) w)) with
  | true => rfl
  | false =>
    have := lossV_gone b.fine b.way h
    have n := b.neg
    unfold lossM at e
    omega
theorem Best.and {ts : List Tm} {ss : List Int} {w c : Int} (b : Best ts ss w c) {m k : Nat} (hm : m < 2 ^ ss.length) (hk : k < 2 ^ ss.length) (em : lossM ts ss w m = c) (ek : lossM ts ss w k = c) : lossM ts ss w (m &&& k) = c := by
  have l1 := b.left em
  have l2 := b.left ek
  have inn : ∀ t ∈ ts, t.low ≤ t.high ∧ t.In ss.length := fun t ht => ⟨(b.fine.good t ht).lh, (b.fine.good t ht).inn⟩
  have ls := left_sub (gu := maskG ss.length (m ||| k)) (gi := maskG ss.length (m &&& k)) inn b.way maskG_or maskG_and l1 l2
  have cs := costs_sub (ss := ss) (b := w) (gu := maskG ss.length (m ||| k)) (gi := maskG ss.length (m &&& k)) b.way maskG_or maskG_and (ts := ts) fun t ht => ⟨inn t ht, (b.fine.force ht).1⟩
  have lu := b.least (m ||| k) (Nat.or_lt_two_pow hm hk)
  have li := b.least (m &&& k) (Nat.lt_of_le_of_lt Nat.and_le_left hm)
  unfold lossM at *
  rw [lossV_left l1] at em
  rw [lossV_left l2] at ek
  rw [lossV_left ls.1] at lu
  rw [lossV_left ls.2] at li ⊢
  omega
/-- the common dials of best masks -/
def common : List Nat → Nat
  | [] => 0
  | m :: ms => ms.foldl (· &&& ·) m
theorem Best.fold {ts : List Tm} {ss : List Int} {w c : Int} (b : Best ts ss w c) : ∀ (ms : List Nat) (m : Nat), (m < 2 ^ ss.length ∧ lossM ts ss w m = c) → (∀ k ∈ ms, k < 2 ^ ss.length ∧ lossM ts ss w k = c) →
    (ms.foldl (· &&& ·) m < 2 ^ ss.length ∧ lossM ts ss w (ms.foldl (· &&& ·) m) = c) ∧ (∀ i, (ms.foldl (· &&& ·) m).testBit i = true → m.testBit i = true ∧ ∀ k ∈ ms, k.testBit i = true)
  | [], m, h, _ => ⟨h, fun i e => ⟨e, fun k hk => nomatch hk⟩⟩
  | k :: ms, m, h, hs => by
    have hk := hs k (List.mem_cons_self ..)
    obtain ⟨h1, h2⟩ := Best.fold b ms (m &&& k) ⟨Nat.lt_of_le_of_lt Nat.and_le_left h.1, b.and h.1 hk.1 h.2 hk.2⟩ fun j hj => hs j (List.mem_cons_of_mem _ hj)
    rw [List.foldl_cons]
    refine ⟨h1, fun i e => ?_⟩
    obtain ⟨e1, e2⟩ := h2 i e
    rw [Nat.testBit_and, Bool.and_eq_true] at e1
    refine ⟨e1.1, fun j hj => ?_⟩
    rcases List.mem_cons.mp hj with rfl | hj
    · exact e1.2
    · exact e2 j hj
/-- the common dials are a best group, a part of each other one -/
theorem Best.common {ts : List Tm} {ss : List Int} {w c : Int} (b : Best ts ss w c) {ms : List Nat} (ne : ms ≠ []) (h : ∀ k ∈ ms, k < 2 ^ ss.length ∧ lossM ts ss w k = c) :
    (DL.common ms < 2 ^ ss.length ∧ lossM ts ss w (DL.common ms) = c) ∧ ∀ k ∈ ms, ∀ i, i ∈ maskG ss.length (DL.common ms) → i ∈ maskG ss.length k := by
  cases ms with
  | nil => exact absurd rfl ne
  | cons m ms =>
    obtain ⟨h1, h2⟩ := Best.fold b ms m (h m (List.mem_cons_self ..)) fun k hk => h k (List.mem_cons_of_mem _ hk)
    refine ⟨h1, fun k hk i hi => ?_⟩
    obtain ⟨j, rfl, hj, e⟩ := maskG_iff.mp hi
    obtain ⟨e1, e2⟩ := h2 j e
    refine maskG_iff.mpr ⟨j, rfl, hj, ?_⟩
    rcases List.mem_cons.mp hk with rfl | hk
    · exact e1
    · exact e2 k hk
/-! #### the lists that the program makes -/
def upL (ts : List Tm) (ss : List Int) : List Int := lossesL (risesF ts ss) ss.length ss.length
def downL (ts : List Tm) (ss : List Int) : List Int := lossesL (tr (risesF ts ss)) ss.length ss.length
theorem rises_diag {n : Nat} {v : Int} {ss : List Int} : ∀ (ts : List Tm) (F : Nat → Nat → Int), (∀ t ∈ ts, t.In n ∧ t.Diff) → (∀ i, i < n → F i i = 0) → ∀ i, i < n → ts.foldl (addT n v ss) F i i = 0
  | [], F, _, h => h
  | t :: ts, F, hg, h => by
    rw [List.foldl_cons]
    refine rises_diag ts _ (fun u hu => hg u (List.mem_cons_of_mem _ hu)) fun i hi => ?_
    obtain ⟨hin, hd⟩ := hg t (List.mem_cons_self ..)
    have ne : ¬ (t.dial.toNat = i ∧ (t.node n).toNat = i) := fun ⟨e1, e2⟩ => by
      cases t with
      | wish d l u f => have : n = i := by have := e2; exact (Int.toNat_natCast n).symm.trans this
                        omega
      | stop d l u => have : n = i := by have := e2; exact (Int.toNat_natCast n).symm.trans this
                      omega
      | tie d o l u f =>
        have e1 : d.toNat = i := e1
        have e2 : o.toNat = i := e2
        have h1 := hin.1.1
        have h2 := hin.2.1
        exact hd (show d = o by omega)
      | bar d o l u =>
        have e1 : d.toNat = i := e1
        have e2 : o.toNat = i := e2
        have h1 := hin.1.1
        have h2 := hin.2.1
        exact hd (show d = o by omega)
    unfold addT addF
    rw [if_neg fun z => ne ⟨z.2.symm, z.1.symm⟩, if_neg fun z => ne ⟨z.1.symm, z.2.symm⟩]
    exact h i hi
theorem up_get {ts : List Tm} {ss : List Int} {m : Nat} (hm : m < 2 ^ ss.length) (hg : ∀ t ∈ ts, t.In ss.length ∧ t.Diff) (ha : isNone (leftV ts ss) = true) : (upL ts ss)[m]? = some (lossM ts ss 1 m) := by
  unfold upL lossM
  have d : ∀ i, i < ss.length → risesF ts ss i i = 0 := rises_diag ts _ hg fun _ _ => rfl
  rw [losses_all (R := risesF ts ss) d hm, loss_of_up hm (fun t ht => (hg t ht).1) ha]
theorem down_get {ts : List Tm} {ss : List Int} {m : Nat} (hm : m < 2 ^ ss.length) (hg : ∀ t ∈ ts, t.In ss.length ∧ t.Diff) (ha : isNone (leftV ts ss) = true) : (downL ts ss)[m]? = some (lossM ts ss (-1) m) := by
  unfold downL lossM
  have d : ∀ i, i < ss.length → risesF ts ss i i = 0 := rises_diag ts _ hg fun _ _ => rfl
  rw [losses_all (R := tr (risesF ts ss)) d hm, loss_of_dn hm (fun t ht => (hg t ht).1) ha]
theorem masks_mem {ls : List Int} {c : Int} {m : Nat} : m ∈ masksL ls c ↔ ls[m]? = some c := by
  unfold masksL
  rw [List.mem_filter, List.mem_range, beq_iff_eq, List.getD_eq_getElem?_getD]
  constructor
  · rintro ⟨h, e⟩
    rw [List.getElem?_eq_getElem h] at e ⊢
    exact congrArg some e
  · intro e
    refine ⟨(List.getElem?_eq_some_iff.mp e).1, ?_⟩
    rw [e]
    rfl
end DL
/-! ### the contracts of the best steps -/
namespace DL
open PySem PySem.Spec L2 PyProof.Rows
/-- a standing of a board as the program takes it -/
structure Stand (ts : List Tm) (ss : List Int) : Prop where
  fine : Fine ts ss
  len : ss.length ≤ 8
  good : ∀ t ∈ ts, t.In ss.length ∧ t.Diff
  al : isNone (leftV ts ss) = true
/-- c is the least loss of all -/
def LeastL (ts : List Tm) (ss : List Int) (c : Int) : Prop := (c ∈ upL ts ss ∨ c ∈ downL ts ss) ∧ (∀ x ∈ upL ts ss, c ≤ x) ∧ ∀ x ∈ downL ts ss, c ≤ x
def ups (ts : List Tm) (ss : List Int) (c : Int) : List Nat := masksL (upL ts ss) c
def downs2 (ts : List Tm) (ss : List Int) (c : Int) : List Nat := masksL (downL ts ss) c
def natsD (l : List Nat) : PyData := .list (l.map fun i => .int (i : Nat))
def bmR (C : Addr) : DR := fun xs Q => ∃ (ts : List Tm) (ss : List Int), xs = [.dat (brdD C ss.length (ts.map Tm.py)), .dat (.tuple (ss.map .int))] ∧ Stand ts ss ∧ ∀ c, LeastL ts ss c → Q (.tuple [.int c, natsD (ups ts ss c), natsD (downs2 ts ss c)])
def stepD (ts : List Tm) (ss : List Int) (c : Int) : PyData :=
  if ups ts ss c = [] then .tuple [.int (-1), .list ((maskG ss.length (common (downs2 ts ss c))).map .int), .int (-c)] else .tuple [.int 1, .list ((maskG ss.length (common (ups ts ss c))).map .int), .int (-c)]
def bestR (C : Addr) : DR := fun xs Q => ∃ (ts : List Tm) (ss : List Int), xs = [.dat (brdD C ss.length (ts.map Tm.py)), .dat (.tuple (ss.map .int))] ∧ Stand ts ss ∧ ∀ c, LeastL ts ss c → Q (if c = 0 then .none else stepD ts ss c)
theorem least_some {ts : List Tm} {ss : List Int} {c : Int} (h : LeastL ts ss c) : ups ts ss c ≠ [] ∨ downs2 ts ss c ≠ [] := by
  rcases h.1 with h | h
  · refine .inl fun z => ?_
    obtain ⟨m, hm⟩ := List.getElem?_of_mem h
    have : m ∈ ups ts ss c := masks_mem.mpr hm
    rw [z] at this
    cases this
  · refine .inr fun z => ?_
    obtain ⟨m, hm⟩ := List.getElem?_of_mem h
    have : m ∈ downs2 ts ss c := masks_mem.mpr hm
    rw [z] at this
    cases this
/-- the dials that all of some masks have, one by one -/
theorem common_cons {m : Nat} {ms : List Nat} : (m :: ms).foldl (· &&& ·) m = common (m :: ms) := by
  rw [List.foldl_cons, Nat.and_self]
  rfl
end DL
namespace DL
theorem masks_le {ls : List Int} {c : Int} (h : ls.length ≤ 256) : (masksL ls c).length ≤ 256 := by
  unfold masksL
  refine Nat.le_trans (List.length_filter_le _ _) ?_
  rw [List.length_range]
  exact h
theorem ups_le {ts : List Tm} {ss : List Int} {c : Int} (h : ss.length ≤ 8) : (ups ts ss c).length ≤ 256 := masks_le (lossesL_le h)
theorem downs2_le {ts : List Tm} {ss : List Int} {c : Int} (h : ss.length ≤ 8) : (downs2 ts ss c).length ≤ 256 := masks_le (lossesL_le h)
end DL
/-! ### zip of several lists: zip(*rows) -/
namespace PySem.ZN
open PySem
theorem typeCall_n (vs : List Value) : checkTypeCall "zip" ⟨vs, []⟩ = pure () := by kernel_rfl
theorem args_n (o : Value) (vs : List Value) : argsOk "object.__init__" ⟨o :: vs, []⟩ := by
  unfold argsOk
  kernel_rfl
/-- at most nine arguments -/
theorem newCall_n : ∀ vs : List Value, vs.length ≤ 9 → checkBuiltinCall "zip.__new__" ⟨.type "zip" :: vs, []⟩ = pure ()
  | [], _ => by kernel_rfl
  | [_], _ => by kernel_rfl
  | [_, _], _ => by kernel_rfl
  | [_, _, _], _ => by kernel_rfl
  | [_, _, _, _], _ => by kernel_rfl
  | [_, _, _, _, _], _ => by kernel_rfl
  | [_, _, _, _, _, _], _ => by kernel_rfl
  | [_, _, _, _, _, _, _], _ => by kernel_rfl
  | [_, _, _, _, _, _, _, _], _ => by kernel_rfl
  | [_, _, _, _, _, _, _, _, _], _ => by kernel_rfl
  | _ :: _ :: _ :: _ :: _ :: _ :: _ :: _ :: _ :: _ :: _, h => by
    simp only [List.length_cons] at h
    omega
structure ZA (z TI TO : Addr) (is ls : List Addr) : Prop where
  TIz : TI ≠ z
  TOz : TO ≠ z
  TITO : TI ≠ TO
  ne : ∀ i ∈ is, i ≠ z ∧ i ≠ TI ∧ i ≠ TO
  nd : is.Nodup
  lne : ∀ l ∈ ls, l ≠ z ∧ l ≠ TO ∧ l ∉ is
  len : ls.length = is.length
  pos : 0 < is.length
  nine : is.length ≤ 9
abbrev IsZ (h : Heap) (z TI TO : Addr) (f0 : Value) (b : Bool) : Prop := h.get? z = some { cls := .type "zip", dict := none, data := .fields #[f0, .bool b, .bool false, .ref TI, .ref TO], slots := #[] }
/-- the tuple that was handed out last is gone -/
def Free (h : Heap) (f0 : Value) : Prop := f0 = .none ∨ ∃ T : Addr, f0 = rawInt T ∧ h.get? T = none
abbrev IsTup (h : Heap) (T : Addr) (xs : List Value) : Prop := h.get? T = some { cls := .type "tuple", data := .seq xs.toArray }
theorem some_arg {is : List Addr} (h : 0 < is.length) : (is.map Value.ref).toArray.isEmpty = false := by
  cases is with
  | nil => cases h
  | cons _ _ => rfl
section
variable {prog : Program} {w : World} {A : Around} {E : Value → Shared → Prop} {s : Shared}
theorem kal {a : Addr} {Q : Option Obj → Shared → Prop} (h : Q (s.heap.get? a) s) : wpAny (model prog w) A (loadIfAlive a) Q E s := fun Γ p hΓ => by
  unfold loadIfAlive
  rw [Sem.wp_loadIfAlive]
  exact (wpAny_pure (E := E) (Q := Q) h) Γ p hΓ
theorem free1 {z TI TO : Addr} {f0 : Value} {b : Bool} {Q : Bool → Shared → Prop} (hz : IsZ s.heap z TI TO f0 b) (hf : Free s.heap f0) (hQ : Q true s) : wpAny (model prog w) A (Builtin.SmallTypes.ownedTupleIsFree (.ref z)) Q E s := by
  unfold Builtin.SmallTypes.ownedTupleIsFree
  refine wpAny_bind (wpAny_field hz rfl (x := f0) rfl ?_)
  rcases hf with rfl | ⟨T, rfl, hT⟩
  · exact wpAny_pure hQ
  · show wpAny _ _ (loadIfAlive (T : Int).toNat >>= _) _ _ _
    refine wpAny_bind (kal ?_)
    rw [Int.toNat_natCast, hT]
    exact wpAny_pure hQ
theorem item {z TI TO : Addr} {is ls : List Addr} {k : Nat} {xs old : List Value} {Q : Value → Shared → Prop} (D : ZA z TI TO is ls) (lx : xs.length = is.length) (lo : old.length = is.length)
    {f0 : Value} {b0 : Bool} (hz : IsZ s.heap z TI TO f0 b0) (hf : Free s.heap f0) (hTI : IsTup s.heap TI (is.map Value.ref)) (hTO : IsTup s.heap TO old)
    (hit : ∀ (m : Nat) i l, is[m]? = some i → ls[m]? = some l → s.heap.IsListIter i l k)
    (hls : ∀ (m : Nat) l, ls[m]? = some l → ∃ its x, s.heap.IsList l its ∧ its[k]? = some x ∧ xs[m]? = some x)
    (hQ : ∀ h', IsZ h' z TI TO (rawInt s.heap.objs.size) false → IsTup h' TO xs → (∀ (m : Nat) i l, is[m]? = some i → ls[m]? = some l → h'.IsListIter i l (k + 1)) → IsTup h' s.heap.objs.size xs → h'.objs.size = s.heap.objs.size + 1 →
      (∀ c o, c ≠ z → c ≠ TO → c ∉ is → s.heap.get? c = some o → h'.get? c = some o) → Q (.ref s.heap.objs.size) { s with heap := h' }) :
    wpAny (model prog w) A (Builtin.«zip.__next__» ⟨[.ref z], []⟩) (fun fin s' => ∃ v, fin = .done (.ret v) ∧ Q v s') E s := by
  show wpAny _ _ (field (.ref z) 2 >>= _) _ _ _
  refine wpAny_bind (wpAny_field hz rfl (x := .bool false) rfl ?_)
  show wpAny _ _ (field (.ref z) 3 >>= _) _ _ _
  refine wpAny_bind (wpAny_field hz rfl (x := .ref TI) rfl (wpAny_bind (wpAny_seqItems hTI rfl ?_)))
  dsimp only
  rw [some_arg (D).pos, if_neg Bool.false_ne_true]
  refine wpAny_bind (free1 hz hf ?_)
  simp only [if_true]
  refine wpAny_bind (wpAny_rule ?_)
  refine wpAny_bind (wpAny_field hz rfl (x := .ref TO) rfl ?_)
  refine wpAny_bind (wpAny_setField_rec hz (by simp) fun h₁ hz₁ hs₁ => ?_)
  replace hz₁ : IsZ h₁ z TI TO .ellipsis b0 := hz₁
  refine wpAny_bind (wpAny_forIn_list _ (fun rest b s' => b = (none, ()) ∧ ∃ (j : Nat) (h : Heap) (acc : List Value), rest = ((is.map Value.ref).zipIdx).drop j ∧ j ≤ is.length ∧ s' = { s with heap := h } ∧ IsZ h z TI TO .ellipsis b0 ∧ IsTup h TO acc ∧ acc.length = is.length ∧ (∀ m, m < j → acc[m]? = xs[m]?) ∧
    (∀ (m : Nat) i l, is[m]? = some i → ls[m]? = some l → h.IsListIter i l (if m < j then k + 1 else k)) ∧ h.objs.size = s.heap.objs.size ∧ (∀ c o, c ≠ z → c ≠ TO → c ∉ is → s.heap.get? c = some o → h.get? c = some o)) _ ?_ ?_ _ _ ?_)
  · rintro x rest b s' ⟨rfl, j, h, acc, hr, hj, rfl, hz', hTO', la, ha, hit', hsz, hk⟩
    have hj2 : j < is.length := by
      refine Nat.lt_of_not_le fun w => ?_
      rw [List.drop_eq_nil_of_le (by rw [List.length_zipIdx, List.length_map]; exact w)] at hr
      cases hr
    have hi : is[j]? = some is[j] := List.getElem?_eq_getElem hj2
    have hl : ls[j]? = some (ls[j]'(by rw [D.len]; exact hj2)) := List.getElem?_eq_getElem _
    generalize is[j] = i at hi
    generalize ls[j]'(by rw [D.len]; exact hj2) = l at hl
    have hzi : ((is.map Value.ref).zipIdx)[j]? = some (.ref i, j) := by
      rw [List.getElem?_zipIdx, List.getElem?_map, hi, Nat.zero_add]
      rfl
    rw [DL.drop_at hzi] at hr
    cases hr
    obtain ⟨its, x, hL, hx, hxm⟩ := hls j l hl
    have lm := D.lne l (List.mem_of_getElem? hl)
    have im := D.ne i (List.mem_of_getElem? hi)
    have hLh : h.IsList l its := by
      obtain ⟨o, ho, r⟩ := hL
      exact ⟨o, hk l o lm.1 lm.2.1 lm.2.2 ho, r⟩
    have hIt : h.IsListIter i l k := by
      have := hit' j i l hi hl
      rw [if_neg (Nat.lt_irrefl j)] at this
      exact this
    dsimp only
    refine wpAny_bind (wpAny_onRaise ?_)
    show wpAny _ _ (Builtin.SmallTypes.nextOf (.ref i) >>= _) _ _ _
    refine wpAny_bind (wpAny_nextOf_list_item hIt hLh hx fun h₂ h1₂ hs₂ => wpAny_pure ?_)
    have hTO₂ : IsTup h₂ TO acc := (hs₂.2 TO im.2.2.symm).trans hTO'
    have hz₂ : IsZ h₂ z TI TO .ellipsis b0 := (hs₂.2 z im.1.symm).trans hz'
    dsimp only
    refine wpAny_bind (wpAny_seqItems hTO₂ rfl ?_)
    have sl : sizeLine = 16777216 := sizeLine_eq
    have n9 := D.nine
    dsimp only
    refine wpAny_bind (wpAny_updateSeq hTO₂ rfl ?_ (by rw [List.size_toArray, la]; omega) (by rw [Array.size_setIfInBounds, List.size_toArray, la]; omega))
    refine wpAny_bind (wpAny_letGo (wpAny_pure ?_))
    refine ⟨rfl, j + 1, _, acc.set j x, rfl, hj2, rfl, ?_, ?_, by rw [List.length_set]; exact la, fun m hm => ?_, fun m i2 l2 e1 e2 => ?_, ?_, fun c o c1 c2 c3 e => ?_⟩
    · exact (Heap.get?_update_other _ _ D.TOz).trans hz₂
    · show (h₂.update TO _).get? TO = _
      rw [Heap.get?_update_self _ hTO₂ rfl]
      simp [Obj.mapSeq]
    · by_cases e : m = j
      · subst e
        rw [List.getElem?_set_self (by rw [la]; exact hj2), hxm]
      · rw [List.getElem?_set_ne (fun w => e w.symm)]
        exact ha m (by omega)
    · have i2m := D.ne i2 (List.mem_of_getElem? e1)
      by_cases e : m = j
      · subst e
        rw [hi] at e1
        rw [hl] at e2
        cases e1
        cases e2
        rw [if_pos (Nat.lt_succ_self m)]
        obtain ⟨o, ho, r⟩ := h1₂
        exact ⟨o, (Heap.get?_update_other _ _ i2m.2.2.symm).trans ho, r⟩
      · have ne2 : i2 ≠ i := fun w => by
          subst w
          exact e ((List.getElem?_inj (List.getElem?_eq_some_iff.mp e1).1 D.nd).mp (e1.trans hi.symm))
        obtain ⟨o, ho, r⟩ := hit' m i2 l2 e1 e2
        have q : (if m < j then k + 1 else k) = if m < j + 1 then k + 1 else k := by
          by_cases w : m < j
          · rw [if_pos w, if_pos (by omega)]
          · rw [if_neg w, if_neg (by omega)]
        rw [← q]
        exact ⟨o, (Heap.get?_update_other _ _ i2m.2.2.symm).trans ((hs₂.2 i2 ne2).trans ho), r⟩
    · show (h₂.update TO _).objs.size = _
      rw [Heap.size_after_update, hs₂.1, hsz]
    · exact (Heap.get?_update_other _ _ c2.symm).trans ((hs₂.2 c (fun w => c3 (by rw [w]; exact List.mem_of_getElem? hi))).trans (hk c o c1 c2 c3 e))
  · rintro b s' ⟨rfl, j, h, acc, hr, hj, rfl, hz', hTO', la, ha, hit', hsz, hk⟩
    have ej : j = is.length := by
      refine Nat.le_antisymm hj (Nat.le_of_not_lt fun w => ?_)
      have : (((is.map Value.ref).zipIdx).drop j).length = 0 := by rw [← hr]; rfl
      rw [List.length_drop, List.length_zipIdx, List.length_map] at this
      omega
    subst ej
    have eacc : acc = xs := by
      refine List.ext_getElem? fun m => ?_
      by_cases hm : m < is.length
      · exact ha m hm
      · rw [List.getElem?_eq_none (by omega), List.getElem?_eq_none (by omega)]
    subst eacc
    dsimp only
    refine wpAny_bind (wpAny_seqItems hTO' rfl ?_)
    have sl : sizeLine = 16777216 := sizeLine_eq
    have n9 := D.nine
    dsimp only
    refine wpAny_bind (wpAny_newTuple ?_ (by show acc.length ≤ sizeLine; omega))
    show wpAny _ _ (Builtin.SmallTypes.ownedTupleHandOut (.ref z) (.ref h.objs.size) >>= _) _ _ _
    refine wpAny_bind ?_
    unfold Builtin.SmallTypes.ownedTupleHandOut
    have hzlt : z < h.objs.size := Heap.lt_size hz'
    have hz₆ : IsZ (h.push { cls := .type "tuple", data := .seq acc.toArray.toList.toArray }) z TI TO .ellipsis b0 := Heap.get?_push_of_some _ hz'
    refine wpAny_bind (wpAny_setField_rec hz₆ (by simp) fun h₇ hz₇ hs₇ => ?_)
    replace hz₇ : IsZ h₇ z TI TO (rawInt h.objs.size) b0 := hz₇
    refine wpAny_setField_rec hz₇ (by simp) fun h₈ hz₈ hs₈ => ?_
    replace hz₈ : IsZ h₈ z TI TO (rawInt h.objs.size) false := hz₈
    have up : ∀ c o, c ≠ z → h.get? c = some o → h₈.get? c = some o := fun c o c1 e => hs₈.extBut _ _ c1 (hs₇.extBut _ _ c1 (Heap.get?_push_of_some _ e))
    have hT₈ : IsTup h₈ h.objs.size acc := hs₈.extBut _ _ (Nat.ne_of_gt hzlt) (hs₇.extBut _ _ (Nat.ne_of_gt hzlt) (Heap.get?_push_size _ rfl))
    have hz8 : h₈.objs.size = h.objs.size + 1 := by rw [hs₈.1, hs₇.1, Heap.size_push]
    rw [hsz] at hz₈ hT₈ hz8
    refine wpAny_pure ⟨_, rfl, ?_⟩
    show Q (.ref h.objs.size) _
    rw [hsz]
    refine hQ h₈ hz₈ (up _ _ D.TOz hTO') (fun m i l e1 e2 => ?_) hT₈ hz8 fun c o c1 c2 c3 e => up c o c1 (hk c o c1 c2 c3 e)
    obtain ⟨o, ho, r⟩ := hit' m i l e1 e2
    rw [if_pos (List.getElem?_eq_some_iff.mp e1).1] at r
    exact ⟨o, up _ o (D.ne i (List.mem_of_getElem? e1)).1 ho, r⟩
  · refine ⟨rfl, 0, h₁, old, rfl, Nat.zero_le _, rfl, hz₁, (hs₁.2 TO D.TOz).trans hTO, lo, fun m hm => absurd hm (Nat.not_lt_zero m), fun m i l e1 e2 => ?_, hs₁.1, fun c o c1 _ _ e => (hs₁.2 c c1).trans e⟩
    rw [if_neg (Nat.not_lt_zero m)]
    obtain ⟨o, ho, r⟩ := hit m i l e1 e2
    exact ⟨o, (hs₁.2 i (D.ne i (List.mem_of_getElem? e1)).1).trans ho, r⟩
theorem done {z TI TO i0 l0 : Addr} {is ls : List Addr} {k : Nat} {its : Array Value} {Q : Fin → Shared → Prop} (hh : A.handled = none) (D : ZA z TI TO is ls)
    {f0 : Value} {b0 : Bool} (hz : IsZ s.heap z TI TO f0 b0) (hf : Free s.heap f0) (hTI : IsTup s.heap TI (is.map Value.ref)) (hi : is[0]? = some i0) (hl : ls[0]? = some l0)
    (hit : s.heap.IsListIter i0 l0 k) (hL : s.heap.IsList l0 its) (hx : its[k]? = none)
    (hE : ∀ h' e, (∀ c o, c ≠ z → c ≠ TO → c ∉ is → s.heap.get? c = some o → h'.get? c = some o) → (∃ o, h'.get? e = some o ∧ o.cls = .type "StopIteration") → E (.ref e) { s with heap := h' }) :
    wpAny (model prog w) A (Builtin.«zip.__next__» ⟨[.ref z], []⟩) Q E s := by
  show wpAny _ _ (field (.ref z) 2 >>= _) _ _ _
  refine wpAny_bind (wpAny_field hz rfl (x := .bool false) rfl ?_)
  show wpAny _ _ (field (.ref z) 3 >>= _) _ _ _
  refine wpAny_bind (wpAny_field hz rfl (x := .ref TI) rfl (wpAny_bind (wpAny_seqItems hTI rfl ?_)))
  dsimp only
  rw [some_arg (D).pos, if_neg Bool.false_ne_true]
  refine wpAny_bind (free1 hz hf ?_)
  simp only [if_true]
  refine wpAny_bind (wpAny_rule ?_)
  refine wpAny_bind (wpAny_field hz rfl (x := .ref TO) rfl ?_)
  refine wpAny_bind (wpAny_setField_rec hz (by simp) fun h₁ hz₁ hs₁ => ?_)
  replace hz₁ : IsZ h₁ z TI TO .ellipsis b0 := hz₁
  have im := D.ne i0 (List.mem_of_getElem? hi)
  have lm := D.lne l0 (List.mem_of_getElem? hl)
  have mem := List.mem_of_getElem? hi
  refine wpAny_bind ?_
  cases is with
  | nil => cases hi
  | cons a r =>
  cases hi
  simp only [List.map_cons, List.zipIdx_cons, List.forIn_cons]
  refine wpAny_bind (wpAny_bind (wpAny_onRaise ?_))
  show wpAny _ _ (Builtin.SmallTypes.nextOf (.ref i0) >>= _) _ _ _
  refine wpAny_bind (wpAny_nextOf_list_end hh (hit.extBut hs₁.extBut im.1) (hL.extBut hs₁.extBut lm.1) hx fun h₂ e hs₂ he => ?_)
  obtain ⟨oe, hoe, hce⟩ := he
  have hz₂ : IsZ h₂ z TI TO .ellipsis b0 := hs₂ _ _ im.1.symm hz₁
  have hez : e ≠ z := fun x => by subst x; rw [hz₂] at hoe; cases hoe; simp at hce
  exact wpAny_setField_rec hz₂ (by simp) fun h₃ _ hs₃ => hE h₃ e (fun c o c1 _ c3 x => hs₃.extBut _ _ c1 (hs₂ _ _ (fun w => c3 (by rw [w]; exact List.mem_cons_self ..)) (hs₁.extBut _ _ c1 x))) ⟨oe, hs₃.extBut _ _ hez hoe, hce⟩
end
section
variable {prog : Program} {w : World} {A : Around} {E : Value → Shared → Prop} {s : Shared}
/-- the zip after its first item, which a name holds -/
abbrev IsZip2 (h : Heap) (z TI TO T : Addr) (b : Bool) : Prop := h.get? z = some { cls := .type "zip", dict := none, data := .fields #[rawInt T, .bool b, .bool false, .ref TI, .ref TO], slots := #[] }
theorem free2 {z TI TO T : Addr} {b : Bool} {oT : Obj} {Q : Bool → Shared → Prop} (hz : IsZip2 s.heap z TI TO T b) (hT : s.heap.get? T = some oT) (hQ : ∀ h₁, IsZip2 h₁ z TI TO T true → Heap.SameBut z s.heap h₁ → Q false { s with heap := h₁ }) :
    wpAny (model prog w) A (Builtin.SmallTypes.ownedTupleIsFree (.ref z)) Q E s := by
  unfold Builtin.SmallTypes.ownedTupleIsFree
  refine wpAny_bind (wpAny_field hz rfl (x := rawInt T) rfl ?_)
  show wpAny _ _ (loadIfAlive (T : Int).toNat >>= _) _ _ _
  refine wpAny_bind (PySem.W.kdx_alive (o := oT) (by rw [Int.toNat_natCast]; exact hT) ?_)
  rw [if_neg (show ¬ ((some oT).isNone = true) from Bool.false_ne_true)]
  refine wpAny_bind (wpAny_field hz rfl (x := .bool b) rfl ?_)
  cases b with
  | true =>
    rw [if_neg (by decide)]
    exact wpAny_pure (hQ s.heap hz (Heap.SameBut.refl ..))
  | false =>
    rw [if_pos (by decide)]
    exact wpAny_bind (wpAny_setField_rec hz (by simp) fun h₁ hz₁ hs₁ => wpAny_pure (hQ h₁ hz₁ hs₁))
theorem item2 {z TI TO T : Addr} {b : Bool} {is ls : List Addr} {k : Nat} {xs : List Value} {oT : Obj} {Q : Value → Shared → Prop} (D : ZA z TI TO is ls) (lx : xs.length = is.length)
    (hz : IsZip2 s.heap z TI TO T b) (hTI : IsTup s.heap TI (is.map Value.ref)) (hT : s.heap.get? T = some oT)
    (hit : ∀ (m : Nat) i l, is[m]? = some i → ls[m]? = some l → s.heap.IsListIter i l k)
    (hls : ∀ (m : Nat) l, ls[m]? = some l → ∃ its x, s.heap.IsList l its ∧ its[k]? = some x ∧ xs[m]? = some x)
    (hQ : ∀ h', IsZip2 h' z TI TO T true → (∀ (m : Nat) i l, is[m]? = some i → ls[m]? = some l → h'.IsListIter i l (k + 1)) → IsTup h' s.heap.objs.size xs → h'.objs.size = s.heap.objs.size + 1 →
      (∀ c o, c ≠ z → c ∉ is → s.heap.get? c = some o → h'.get? c = some o) → Q (.ref s.heap.objs.size) { s with heap := h' }) :
    wpAny (model prog w) A (Builtin.«zip.__next__» ⟨[.ref z], []⟩) (fun fin s' => ∃ v, fin = .done (.ret v) ∧ Q v s') E s := by
  show wpAny _ _ (field (.ref z) 2 >>= _) _ _ _
  refine wpAny_bind (wpAny_field hz rfl (x := .bool false) rfl ?_)
  show wpAny _ _ (field (.ref z) 3 >>= _) _ _ _
  refine wpAny_bind (wpAny_field hz rfl (x := .ref TI) rfl (wpAny_bind (wpAny_seqItems hTI rfl ?_)))
  dsimp only
  rw [some_arg (D).pos, if_neg Bool.false_ne_true]
  refine wpAny_bind (free2 hz hT fun h₁ hz₁ hs₁ => ?_)
  rw [if_neg Bool.false_ne_true]
  refine wpAny_bind (wpAny_forIn_array' _ (fun rest b s' => b.1 = none ∧ ∃ (j : Nat) (h : Heap), rest = (is.map Value.ref).drop j ∧ j ≤ is.length ∧ s' = { s with heap := h } ∧ b.2.toList = xs.take j ∧ IsZip2 h z TI TO T true ∧
    (∀ (m : Nat) i l, is[m]? = some i → ls[m]? = some l → h.IsListIter i l (if m < j then k + 1 else k)) ∧ h.objs.size = s.heap.objs.size ∧ (∀ c o, c ≠ z → c ∉ is → s.heap.get? c = some o → h.get? c = some o)) _ ?_ ?_ _ _ ?_)
  · rintro x rest ⟨b1, b2⟩ s' ⟨rfl, j, h, hr, hj, rfl, hb, hz', hit', hsz, hk⟩
    have hj2 : j < is.length := by
      refine Nat.lt_of_not_le fun w => ?_
      rw [List.drop_eq_nil_of_le (by rw [List.length_map]; exact w)] at hr
      cases hr
    have hi : is[j]? = some is[j] := List.getElem?_eq_getElem hj2
    have hl : ls[j]? = some (ls[j]'(by rw [D.len]; exact hj2)) := List.getElem?_eq_getElem _
    generalize is[j] = i at hi
    generalize ls[j]'(by rw [D.len]; exact hj2) = l at hl
    have hzi : (is.map Value.ref)[j]? = some (.ref i) := by
      rw [List.getElem?_map, hi]
      rfl
    rw [DL.drop_at hzi] at hr
    cases hr
    obtain ⟨its, x, hL, hx, hxm⟩ := hls j l hl
    have lm := D.lne l (List.mem_of_getElem? hl)
    have im := D.ne i (List.mem_of_getElem? hi)
    have hLh : h.IsList l its := by
      obtain ⟨o, ho, r⟩ := hL
      exact ⟨o, hk l o lm.1 lm.2.2 ho, r⟩
    have hIt : h.IsListIter i l k := by
      have := hit' j i l hi hl
      rw [if_neg (Nat.lt_irrefl j)] at this
      exact this
    dsimp only
    refine wpAny_bind (wpAny_holding ?_)
    show wpAny _ _ (Builtin.SmallTypes.nextOf (.ref i) >>= _) _ _ _
    refine wpAny_bind (wpAny_nextOf_list_item (s := { s with heap := h }) hIt hLh hx fun h₂ h1₂ hs₂ => wpAny_pure (wpAny_pure ?_))
    refine ⟨rfl, j + 1, h₂, rfl, hj2, rfl, ?_, (hs₂.2 z im.1.symm).trans hz', fun m i2 l2 e1 e2 => ?_, hs₂.1.trans hsz, fun c o c1 c3 e => (hs₂.2 c (fun w => c3 (by rw [w]; exact List.mem_of_getElem? hi))).trans (hk c o c1 c3 e)⟩
    · rw [Array.toList_push, hb, List.take_add_one, hxm]
      rfl
    · by_cases e : m = j
      · subst e
        rw [hi] at e1
        rw [hl] at e2
        cases e1
        cases e2
        rw [if_pos (Nat.lt_succ_self m)]
        exact h1₂
      · have ne2 : i2 ≠ i := fun w => by
          subst w
          exact e ((List.getElem?_inj (List.getElem?_eq_some_iff.mp e1).1 D.nd).mp (e1.trans hi.symm))
        obtain ⟨o, ho, r⟩ := hit' m i2 l2 e1 e2
        have q : (if m < j then k + 1 else k) = if m < j + 1 then k + 1 else k := by
          by_cases w : m < j
          · rw [if_pos w, if_pos (by omega)]
          · rw [if_neg w, if_neg (by omega)]
        rw [← q]
        exact ⟨o, (hs₂.2 i2 ne2).trans ho, r⟩
  · rintro ⟨b1, b2⟩ s' ⟨rfl, j, h, hr, hj, rfl, hb, hz', hit', hsz, hk⟩
    have ej : j = is.length := by
      refine Nat.le_antisymm hj (Nat.le_of_not_lt fun w => ?_)
      have : ((is.map Value.ref).drop j).length = 0 := by rw [← hr]; rfl
      rw [List.length_drop, List.length_map] at this
      omega
    subst ej
    dsimp only at hb ⊢
    rw [← lx, List.take_length] at hb
    have sl : sizeLine = 16777216 := sizeLine_eq
    have n9 := D.nine
    rw [hb]
    refine wpAny_bind (wpAny_newTuple ?_ (by show xs.length ≤ sizeLine; omega))
    refine wpAny_pure ⟨_, rfl, ?_⟩
    show Q (.ref h.objs.size) _
    have hzlt : z < h.objs.size := Heap.lt_size hz'
    rw [hsz]
    refine hQ _ (Heap.get?_push_of_some _ hz') (fun m i l e1 e2 => ?_) ?_ ?_ fun c o c1 c3 e => Heap.get?_push_of_some _ (hk c o c1 c3 e)
    · obtain ⟨o, ho, r⟩ := hit' m i l e1 e2
      rw [if_pos (List.getElem?_eq_some_iff.mp e1).1] at r
      exact ⟨o, Heap.get?_push_of_some _ ho, r⟩
    · rw [← hsz]
      exact Heap.get?_push_size _ rfl
    · show (Heap.push h _).objs.size = _
      rw [Heap.size_push, hsz]
  · refine ⟨rfl, 0, h₁, rfl, Nat.zero_le _, rfl, rfl, hz₁, fun m i l e1 e2 => ?_, hs₁.1, fun c o c1 _ e => (hs₁.2 c c1).trans e⟩
    rw [if_neg (Nat.not_lt_zero m)]
    obtain ⟨o, ho, r⟩ := hit m i l e1 e2
    exact ⟨o, (hs₁.2 i (D.ne i (List.mem_of_getElem? e1)).1).trans ho, r⟩
end
section
variable {prog : Program} {w : World} {A : Around} {E : Value → Shared → Prop} {s : Shared}
theorem done2 {z TI TO T i0 l0 : Addr} {b : Bool} {is ls : List Addr} {k : Nat} {its : Array Value} {oT : Obj} {Q : Fin → Shared → Prop} (hh : A.handled = none) (D : ZA z TI TO is ls)
    (hz : IsZip2 s.heap z TI TO T b) (hTI : IsTup s.heap TI (is.map Value.ref)) (hT : s.heap.get? T = some oT) (hi : is[0]? = some i0) (hl : ls[0]? = some l0)
    (hit : s.heap.IsListIter i0 l0 k) (hL : s.heap.IsList l0 its) (hx : its[k]? = none)
    (hE : ∀ h' e, (∀ c o, c ≠ z → c ≠ TO → c ∉ is → s.heap.get? c = some o → h'.get? c = some o) → (∃ o, h'.get? e = some o ∧ o.cls = .type "StopIteration") → E (.ref e) { s with heap := h' }) :
    wpAny (model prog w) A (Builtin.«zip.__next__» ⟨[.ref z], []⟩) Q E s := by
  show wpAny _ _ (field (.ref z) 2 >>= _) _ _ _
  refine wpAny_bind (wpAny_field hz rfl (x := .bool false) rfl ?_)
  show wpAny _ _ (field (.ref z) 3 >>= _) _ _ _
  refine wpAny_bind (wpAny_field hz rfl (x := .ref TI) rfl (wpAny_bind (wpAny_seqItems hTI rfl ?_)))
  dsimp only
  rw [some_arg (D).pos, if_neg Bool.false_ne_true]
  refine wpAny_bind (free2 hz hT fun h₁ hz₁ hs₁ => ?_)
  rw [if_neg Bool.false_ne_true]
  have im := D.ne i0 (List.mem_of_getElem? hi)
  have lm := D.lne l0 (List.mem_of_getElem? hl)
  have mem := List.mem_of_getElem? hi
  have hm : is.map Value.ref = .ref i0 :: (is.drop 1).map Value.ref := by
    cases is with
    | nil => cases hi
    | cons a r =>
      cases hi
      rfl
  refine wpAny_bind (wpAny_forIn_array' _ (fun rest b s' => b = (none, #[]) ∧ rest = is.map Value.ref ∧ s' = { s with heap := h₁ }) _ ?_ ?_ _ _ ⟨rfl, rfl, rfl⟩)
  · rintro x rest b s' ⟨rfl, hr, rfl⟩
    rw [hm] at hr
    cases hr
    dsimp only
    refine wpAny_bind (wpAny_holding ?_)
    show wpAny _ _ (Builtin.SmallTypes.nextOf (.ref i0) >>= _) _ _ _
    refine wpAny_bind (wpAny_nextOf_list_end (s := { s with heap := h₁ }) hh (hit.extBut hs₁.extBut im.1) (hL.extBut hs₁.extBut lm.1) hx fun h₂ e hs₂ he => ?_)
    exact hE h₂ e (fun c o c1 _ c3 x => hs₂ _ _ (fun w => c3 (by rw [w]; exact mem)) (hs₁.extBut _ _ c1 x)) he
  · rintro b s' ⟨rfl, hr, rfl⟩
    rw [hm] at hr
    cases hr
/-- the zip's first field -/
def Fld (f0 : Value) : Prop := f0 = .none ∨ ∃ T : Addr, f0 = rawInt T
theorem next_item {z TI TO : Addr} {f0 : Value} {b0 : Bool} {is ls : List Addr} {k : Nat} {xs old : List Value} {Q : Option Value → Shared → Prop} (D : ZA z TI TO is ls) (lx : xs.length = is.length) (lo : old.length = is.length)
    (hz : IsZ s.heap z TI TO f0 b0) (hf : Fld f0) (hTI : IsTup s.heap TI (is.map Value.ref)) (hTO : IsTup s.heap TO old)
    (hit : ∀ (m : Nat) i l, is[m]? = some i → ls[m]? = some l → s.heap.IsListIter i l k)
    (hls : ∀ (m : Nat) l, ls[m]? = some l → ∃ its x, s.heap.IsList l its ∧ its[k]? = some x ∧ xs[m]? = some x)
    (hQ : ∀ h' f1 b1 old', IsZ h' z TI TO f1 b1 → Fld f1 → old'.length = is.length → IsTup h' TO old' → (∀ (m : Nat) i l, is[m]? = some i → ls[m]? = some l → h'.IsListIter i l (k + 1)) → IsTup h' s.heap.objs.size xs → h'.objs.size = s.heap.objs.size + 1 →
      (∀ c o, c ≠ z → c ≠ TO → c ∉ is → s.heap.get? c = some o → h'.get? c = some o) → Q (some (.ref s.heap.objs.size)) { s with heap := h' }) :
    wpAny (model prog w) A (pyNext (.ref z)) Q E s := by
  have hT : s.TypeIs (.ref z) "zip" := ⟨_, hz, rfl⟩
  unfold pyNext
  refine wpAny_bind (wpAny_attempt (wpAny_callSpecial?_slot (name := Str.ofString "__next__") hT F.slot_zip_next
    (wpAny_call_entry F.slot_zip_next hT F.entry_zip_next ?_ (F.args_zip_next_1 _))))
  by_cases fr : Free s.heap f0
  · exact item D lx lo hz fr hTI hTO hit hls fun h' a1 a2 a3 a4 a5 a6 => wpAny_pure (hQ h' _ _ xs a1 (.inr ⟨_, rfl⟩) lx a2 a3 a4 a5 a6)
  · rcases hf with rfl | ⟨T, rfl⟩
    · exact absurd (.inl rfl) fr
    · cases e : s.heap.get? T with
      | none => exact absurd (.inr ⟨T, rfl, e⟩) fr
      | some oT =>
        exact item2 D lx hz hTI e hit hls fun h' a1 a3 a4 a5 a6 => wpAny_pure (hQ h' _ _ old a1 (.inr ⟨_, rfl⟩) lo (a6 TO _ D.TOz (fun w => (D.ne TO w).2.2 rfl) hTO) a3 a4 a5 fun c o c1 _ c3 e => a6 c o c1 c3 e)
theorem next_end {z TI TO i0 l0 : Addr} {f0 : Value} {b0 : Bool} {is ls : List Addr} {k : Nat} {its : Array Value} {Q : Option Value → Shared → Prop} (hh : A.handled = none) (D : ZA z TI TO is ls)
    (hz : IsZ s.heap z TI TO f0 b0) (hf : Fld f0) (hTI : IsTup s.heap TI (is.map Value.ref)) (hi : is[0]? = some i0) (hl : ls[0]? = some l0)
    (hit : s.heap.IsListIter i0 l0 k) (hL : s.heap.IsList l0 its) (hx : its[k]? = none)
    (hQ : ∀ h', (∀ c o, c ≠ z → c ≠ TO → c ∉ is → s.heap.get? c = some o → h'.get? c = some o) → Q none { s with heap := h' }) : wpAny (model prog w) A (pyNext (.ref z)) Q E s := by
  have hT : s.TypeIs (.ref z) "zip" := ⟨_, hz, rfl⟩
  have fin : ∀ (h' : Heap) (e : Addr), (∀ c o, c ≠ z → c ≠ TO → c ∉ is → s.heap.get? c = some o → h'.get? c = some o) → (∃ o, h'.get? e = some o ∧ o.cls = .type "StopIteration") →
      wpAny (model prog w) A (do
        let b ← isInstance (.ref e) (.type "StopIteration")
        if b = true then pure none else throw (.ref e)) Q E { s with heap := h' } := fun h' e hk he => by
    obtain ⟨o, ho, hc⟩ := he
    refine wpAny_bind (wpAny_isInstance (T := "StopIteration") (b := true) ⟨o, ho, hc⟩ isSubtype_stop ?_)
    exact wpAny_pure (hQ _ hk)
  unfold pyNext
  refine wpAny_bind (wpAny_attempt (wpAny_callSpecial?_slot (name := Str.ofString "__next__") hT F.slot_zip_next
    (wpAny_call_entry F.slot_zip_next hT F.entry_zip_next ?_ (F.args_zip_next_1 _))))
  by_cases fr : Free s.heap f0
  · exact done hh D hz fr hTI hi hl hit hL hx fun h' e hk he => fin h' e hk he
  · rcases hf with rfl | ⟨T, rfl⟩
    · exact absurd (.inl rfl) fr
    · cases e : s.heap.get? T with
      | none => exact absurd (.inr ⟨T, rfl, e⟩) fr
      | some oT => exact done2 hh D hz hTI e hi hl hit hL hx fun h' e hk he => fin h' e hk he
end
theorem iter_all {prog : Program} {w : World} {A : Around} {E : Value → Shared → Prop} {s : Shared} {ls : List Addr} {Q : List Value → Shared → Prop} (hls : ∀ l ∈ ls, ∃ its, s.heap.IsList l its)
    (hQ : ∀ h', (∀ (m : Nat) l, ls[m]? = some l → h'.IsListIter (s.heap.objs.size + m) l 0) → h'.objs.size = s.heap.objs.size + ls.length → (∀ c o, s.heap.get? c = some o → h'.get? c = some o) → Q (((List.range ls.length).map (s.heap.objs.size + ·)).map Value.ref) { s with heap := h' }) :
    wpAny (model prog w) A (Builtin.SmallTypes.iterAll (ls.map Value.ref)) Q E s := by
  unfold Builtin.SmallTypes.iterAll
  refine wpAny_bind (wpAny_forIn_list _ (fun rest b s' => ∃ (j : Nat) (h : Heap), rest = (ls.map Value.ref).drop j ∧ j ≤ ls.length ∧ s' = { s with heap := h } ∧ b.toList = ((List.range j).map (s.heap.objs.size + ·)).map Value.ref ∧
    (∀ (m : Nat) l, m < j → ls[m]? = some l → h.IsListIter (s.heap.objs.size + m) l 0) ∧ h.objs.size = s.heap.objs.size + j ∧ (∀ c o, s.heap.get? c = some o → h.get? c = some o)) _ ?_ ?_ _ _ ?_)
  · rintro x rest b s' ⟨j, h, hr, hj, rfl, hb, hit, hsz, hk⟩
    have hj2 : j < ls.length := by
      refine Nat.lt_of_not_le fun w => ?_
      rw [List.drop_eq_nil_of_le (by rw [List.length_map]; exact w)] at hr
      cases hr
    have hl : ls[j]? = some ls[j] := List.getElem?_eq_getElem hj2
    generalize ls[j] = l at hl
    have hm : (ls.map Value.ref)[j]? = some (.ref l) := by
      rw [List.getElem?_map, hl]
      rfl
    rw [DL.drop_at hm] at hr
    cases hr
    obtain ⟨its, o, ho, r⟩ := hls l (List.mem_of_getElem? hl)
    have hL : h.IsList l its := ⟨o, hk l o ho, r⟩
    refine wpAny_bind (wpAny_holding (wpAny_pyIter_list (s := { s with heap := h }) hL (wpAny_pure ?_)))
    refine ⟨j + 1, _, rfl, hj2, rfl, ?_, fun m l2 hm2 e2 => ?_, ?_, fun c o e => Heap.get?_push_of_some _ (hk c o e)⟩
    · rw [Array.toList_push, hb, List.range_succ, List.map_append, List.map_append, hsz]
      rfl
    · by_cases z : m = j
      · subst z
        rw [hl] at e2
        cases e2
        rw [← hsz]
        exact ⟨_, Heap.get?_push_size _ rfl, rfl, rfl⟩
      · obtain ⟨o2, h2, r2⟩ := hit m l2 (by omega) e2
        exact ⟨o2, Heap.get?_push_of_some _ h2, r2⟩
    · show (Heap.push _ _).objs.size = _
      rw [Heap.size_push, hsz, Nat.add_assoc]
  · rintro b s' ⟨j, h, hr, hj, rfl, hb, hit, hsz, hk⟩
    have ej : j = ls.length := by
      refine Nat.le_antisymm hj (Nat.le_of_not_lt fun w => ?_)
      have : ((ls.map Value.ref).drop j).length = 0 := by rw [← hr]; rfl
      rw [List.length_drop, List.length_map] at this
      omega
    subst ej
    refine wpAny_pure ?_
    rw [hb]
    exact hQ h (fun m l e => hit m l (List.getElem?_eq_some_iff.mp e).1 e) hsz hk
  · exact ⟨0, s.heap, rfl, Nat.zero_le _, rfl, rfl, fun m l hm => absurd hm (Nat.not_lt_zero m), rfl, fun c o e => e⟩
/-- what the call of zip leaves: iterators, the tuple of them, the tuple that is filled, the zip -/
structure Made (h h' : Heap) (ls : List Addr) : Prop where
  z : IsZip h' (h.objs.size + ls.length + 2) (h.objs.size + ls.length) (h.objs.size + ls.length + 1) .none
  TI : IsTup h' (h.objs.size + ls.length) (((List.range ls.length).map (h.objs.size + ·)).map Value.ref)
  TO : IsTup h' (h.objs.size + ls.length + 1) (List.replicate ls.length .none)
  it : ∀ (m : Nat) l, ls[m]? = some l → h'.IsListIter (h.objs.size + m) l 0
  size : h'.objs.size = h.objs.size + ls.length + 3
  keep : ∀ c o, h.get? c = some o → h'.get? c = some o
theorem push_at {h : Heap} {o : Obj} {a : Addr} (e : h.objs.size = a) (hf : o.isFreed = false) : (h.push o).get? a = some o := by
  subst e
  exact Heap.get?_push_size _ hf
theorem meets_new (ls : List Addr) (h9 : ls.length ≤ 9) :
    Meets (Builtin.«zip.__new__» ⟨.type "zip" :: ls.map Value.ref, []⟩) (fun _ R s => (∀ l ∈ ls, ∃ its, s.heap.IsList l its) ∧ ∀ h', Made s.heap h' ls → R (.ok (.ret (.ref (s.heap.objs.size + ls.length + 2)))) { s with heap := h' }) :=
  .of_wp fun prog w A R s h => by
    obtain ⟨hls, h⟩ := h
    have hsub := sub_zip
    unfold Builtin.«zip.__new__»
    have cls : ∀ (A : Around) (E : Value → Shared → Prop) (Q : (Value × List Value) → Shared → Prop), Q (.type "zip", ls.map Value.ref) s → wpAny (model prog w) A (Builtin.SmallTypes.newClass "zip" ⟨.type "zip" :: ls.map Value.ref, []⟩) Q E s := fun A E Q hq => by
      unfold Builtin.SmallTypes.newClass
      wp_walk
      exact hq
    refine wpAny_bind (cls _ _ _ ?_)
    show wpAny _ _ (Builtin.SmallTypes.iterAll (ls.map Value.ref) >>= _) _ _ s
    refine wpAny_bind (iter_all hls fun h₁ hit hsz hk => ?_)
    have sl : sizeLine = 16777216 := sizeLine_eq
    refine wpAny_bind (wpAny_newTuple ?_ (by rw [List.length_map, List.length_map, List.length_range]; omega))
    refine wpAny_bind (wpAny_newTuple ?_ (by rw [List.length_map, List.length_map, List.length_map, List.length_range]; omega))
    unfold Builtin.SmallTypes.newRecord
    refine wpAny_bind (wpAny_newObj_type ?_ (by show (5 : Nat) ≤ sizeLine + 2; omega))
    refine wpAny_pure ⟨_, rfl, ?_⟩
    have en : (((List.range ls.length).map (s.heap.objs.size + ·)).map Value.ref).map (fun _ => Value.none) = List.replicate ls.length .none := by
      rw [List.map_const', List.length_map, List.length_map, List.length_range]
    rw [en]
    have z2 : (h₁.push { cls := .type "tuple", data := .seq (((List.range ls.length).map (s.heap.objs.size + ·)).map Value.ref).toArray }).objs.size = s.heap.objs.size + ls.length + 1 := by rw [Heap.size_push, hsz]
    have z3 : ((h₁.push { cls := .type "tuple", data := .seq (((List.range ls.length).map (s.heap.objs.size + ·)).map Value.ref).toArray }).push { cls := .type "tuple", data := .seq (List.replicate ls.length Value.none).toArray }).objs.size = s.heap.objs.size + ls.length + 2 := by rw [Heap.size_push, z2]
    have key := h (((h₁.push { cls := .type "tuple", data := .seq (((List.range ls.length).map (s.heap.objs.size + ·)).map Value.ref).toArray }).push { cls := .type "tuple", data := .seq (List.replicate ls.length Value.none).toArray }).push
      { cls := .type "zip", data := .fields #[.none, .bool false, .bool false, .ref (s.heap.objs.size + ls.length), .ref (s.heap.objs.size + ls.length + 1)] }) ?_
    · rw [← z3, ← z2] at key
      rw [← hsz] at key
      exact key
    · refine ⟨?_, ?_, ?_, fun m l e => ?_, by rw [Heap.size_push, z3], fun c o e => Heap.get?_push_of_some _ (Heap.get?_push_of_some _ (Heap.get?_push_of_some _ (hk c o e)))⟩
      · exact push_at z3 rfl
      · exact Heap.get?_push_of_some _ (Heap.get?_push_of_some _ (push_at hsz rfl))
      · exact Heap.get?_push_of_some _ (push_at z2 rfl)
      · obtain ⟨o, ho, r⟩ := hit m l e
        exact ⟨o, Heap.get?_push_of_some _ (Heap.get?_push_of_some _ (Heap.get?_push_of_some _ ho)), r⟩
section
variable {prog : Program} {w : World} {A : Around} {E : Value → Shared → Prop} {s : Shared}
theorem call_n {ls : List Addr} {Q : Value → Shared → Prop} (h9 : ls.length ≤ 9) (hls : ∀ l ∈ ls, ∃ its, s.heap.IsList l its) (h : ∀ h', Made s.heap h' ls → Q (.ref (s.heap.objs.size + ls.length + 2)) { s with heap := h' }) :
    wpAny (model prog w) A (call (.type "zip") (ls.map Value.ref)) Q E s :=
  callType_new F.called_zip (by decide) (typeCall_n _) (newCall_n _ (by rw [List.length_map]; exact h9)) (fun obj => args_n obj _) F.entry_zip_new
    (meets_new ls h9) ⟨hls, fun h' m => ⟨⟨_, m.z, rfl⟩, h h' m⟩⟩
end
end PySem.ZN
/-! ### zip(*rows) as what a loop or a comprehension draws from, with a name as its target -/
namespace PySem.ZN
open PySem PySem.Spec PyProof.Rows L2
/-- the columns of the lists at ls -/
def ItzN (K : PySem.W.Frag) (ls : List Addr) : It :=
  ⟨fun i H => ∀ l ∈ ls, ∃ (xs : List V) (x : V), SqL K H l xs ∧ xs[i]? = some x,
    fun i H v H' => ∃ T ys, v = .ref T ∧ H T = none ∧ H' = upd H T (.tup ys) ∧ ys.length = ls.length ∧ ∀ (m : Nat) l, ls[m]? = some l → ∀ xs, SqL K H l xs → ∃ x, xs[i]? = some x ∧ ys[m]? = some x,
    fun i H => ∃ (l : Addr) (xs : List V), ls[0]? = some l ∧ SqL K H l xs ∧ xs.length ≤ i⟩
structure St (z TI TO : Addr) (is ls : List Addr) (i : Nat) (h : Heap) : Prop where
  z : ∃ f0 b0, IsZ h z TI TO f0 b0 ∧ Fld f0
  TI : IsTup h TI (is.map Value.ref)
  TO : ∃ old, old.length = is.length ∧ IsTup h TO old
  it : ∀ (m : Nat) i0 l, is[m]? = some i0 → ls[m]? = some l → h.IsListIter i0 l i
theorem pick {X : Cx} {pins : List (Addr × Obj)} {s : Shared} {σ : L2.St} {H : Hp} (I : Inv X pins σ H s) {i : Nat} : ∀ ls : List Addr, (∀ l ∈ ls, ∃ (xs : List V) (x : V), SqL X.K H l xs ∧ xs[i]? = some x) →
    ∃ ys us, Vals ys us ∧ us.length = ls.length ∧ ys.length = ls.length ∧ (∀ (m : Nat) l, ls[m]? = some l → ∃ its u, s.heap.IsList l its ∧ its[i]? = some u ∧ us[m]? = some u) ∧
      (∀ (m : Nat) l, ls[m]? = some l → ∀ xs, SqL X.K H l xs → ∃ x, xs[i]? = some x ∧ ys[m]? = some x)
  | [], _ => ⟨[], [], .nil, rfl, rfl, (fun m l e => by simp at e), fun m l e => by simp at e⟩
  | l :: ls, h => by
    obtain ⟨ys, us, rv, l1, l2, a1, a2⟩ := pick I ls fun l hl => h l (List.mem_cons_of_mem _ hl)
    obtain ⟨xs, x, hq, hx⟩ := h l (List.mem_cons_self ..)
    obtain ⟨its, rv2, p, _⟩ := I.list hq
    obtain ⟨u, hu, ru⟩ := rv2.get hx
    refine ⟨x :: ys, u :: us, .cons ru rv, by rw [List.length_cons, List.length_cons, l1], by rw [List.length_cons, List.length_cons, l2], fun m l' e => ?_, fun m l' e xs' hq' => ?_⟩
    · cases m with
      | zero =>
        cases e
        exact ⟨its.toArray, u, p.isList, by simpa using hu, rfl⟩
      | succ m => exact a1 m l' (by simpa using e)
    · cases m with
      | zero =>
        cases e
        rw [I.list_inj hq' hq]
        exact ⟨x, hx, rfl⟩
      | succ m => exact a2 m l' (by simpa using e) xs' hq'
theorem iter_self {prog : Program} {w : World} {A : Around} {E : Value → Shared → Prop} {s : Shared} {z TI TO : Addr} {f0 : Value} {b : Bool} {Q : Value → Shared → Prop} (hz : IsZ s.heap z TI TO f0 b) (h : Q (.ref z) s) : wpAny (model prog w) A (pyIter (.ref z)) Q E s := by
  have hT : s.TypeIs (.ref z) "zip" := ⟨_, hz, rfl⟩
  refine wpAny_pyIter_slot hT F.slot_zip_iter (wpAny_call_entry F.slot_zip_iter hT F.entry_zip_iter ?_ (F.args_zip_iter_1 _))
  show wpAny _ _ (ret (.ref z)) _ _ s
  exact wpAny_pure ⟨_, rfl, "zip", _, hT, F.slot_zip_next.lookup, h⟩
theorem turn_n {P : Program} {w : World} {K : PySem.W.Frag} {x : Str} {p : Pos} {z TI TO : Addr} {is ls : List Addr} (D : ZA z TI TO is ls) : Turn P w K (.Name x p) (ItzN K ls) (z :: TI :: TO :: is) z (St z TI TO is ls) where
  mem := List.mem_cons_self ..
  obj := fun i h st c hc => by
    obtain ⟨⟨f0, b0, hz, _⟩, hTI, ⟨old, _, hTO⟩, hit⟩ := st
    rcases List.mem_cons.mp hc with rfl | hc
    · exact ⟨_, hz, fun v q => nomatch q⟩
    rcases List.mem_cons.mp hc with rfl | hc
    · exact ⟨_, hTI, fun v q => nomatch q⟩
    rcases List.mem_cons.mp hc with rfl | hc
    · exact ⟨_, hTO, fun v q => nomatch q⟩
    obtain ⟨m, hm⟩ := List.getElem?_of_mem hc
    have hl : ls[m]? = some (ls[m]'(by rw [D.len]; exact (List.getElem?_eq_some_iff.mp hm).1)) := List.getElem?_eq_getElem _
    obtain ⟨o, e, _, d⟩ := hit m c _ hm hl
    exact ⟨o, e, fun v q => by rw [d] at q; cases q⟩
  keep := fun i h h' st k => by
    obtain ⟨⟨f0, b0, hz, ff⟩, hTI, ⟨old, lo, hTO⟩, hit⟩ := st
    exact ⟨⟨f0, b0, k z (by simp) _ hz, ff⟩, k TI (by simp) _ hTI, ⟨old, lo, k TO (by simp) _ hTO⟩, fun m i0 l e1 e2 => (hit m i0 l e1 e2).at fun o q => k i0 (List.mem_cons_of_mem _ (List.mem_cons_of_mem _ (List.mem_cons_of_mem _ (List.mem_of_getElem? e1)))) o q⟩
  item := by
    intro X hP hw hK hc i pins s σ H E I hf st hg
    subst hP hw hK
    obtain ⟨⟨f0, b0, hz, ff⟩, hTI, ⟨old, lo, hTO⟩, hit⟩ := st
    obtain ⟨ys, us, rv, l1, l2, a1, a2⟩ := pick I ls hg
    have lu : us.length = is.length := l1.trans D.len
    refine next_item D lu lo hz ff hTI hTO hit a1 fun h' f1 b1 old' z' ff' lo' TO' hit' hT hsz hk => ?_
    have hk2 : ∀ c o, c ∉ z :: TI :: TO :: is → s.heap.get? c = some o → h'.get? c = some o := fun c o n q => by
      simp only [List.mem_cons, not_or] at n
      exact hk c o n.1 n.2.2.1 n.2.2.2 q
    have n9 := D.nine
    have sl : sizeLine = 16777216 := sizeLine_eq
    have new : ObjOk X.prog X.w (upd H s.heap.objs.size (.tup ys)) h' s.heap.objs.size (.tup ys) :=
      ⟨by show ys.length ≤ sizeLine; rw [l2, D.len]; omega, us, rv, ⟨_, hT, rfl, _, rfl⟩⟩
    have I1 : Inv X pins σ (upd H s.heap.objs.size (.tup ys)) { s with heap := h' } := I.turnedNew (t' := s.toks) (ch := z :: TI :: TO :: is) hk2 hf (Nat.le_refl _) new
    refine ⟨_, rfl, ?_⟩
    unfold letOwnedTupleGo
    refine wpAny_pure ⟨.ref s.heap.objs.size, _, I1, rfl, ⟨_, ys, rfl, I.hok.fresh (Nat.le_refl _), rfl, l2, a2⟩, ⟨⟨f1, b1, z', ff'⟩, hk TI _ D.TIz D.TITO (fun w => (D.ne TI w).2.1 rfl) hTI, ⟨old', lo', TO'⟩, hit'⟩, fun c hcm => ?_⟩
    have hlt : c < s.heap.objs.size := by
      rcases List.mem_cons.mp hcm with rfl | hc
      · exact Heap.lt_size hz
      rcases List.mem_cons.mp hc with rfl | hc
      · exact Heap.lt_size hTI
      rcases List.mem_cons.mp hc with rfl | hc
      · exact Heap.lt_size hTO
      obtain ⟨m, hm⟩ := List.getElem?_of_mem hc
      have hl : ls[m]? = some (ls[m]'(by rw [D.len]; exact (List.getElem?_eq_some_iff.mp hm).1)) := List.getElem?_eq_getElem _
      obtain ⟨o, e, _, _⟩ := hit m c _ hm hl
      exact Heap.lt_size e
    rw [upd_ne (Nat.ne_of_lt hlt)]
    exact (hf c hcm).1
  done := by
    intro X hP hw hK hc i pins s σ H E I hf st hg
    subst hP hw hK
    obtain ⟨⟨f0, b0, hz, ff⟩, hTI, ⟨old, lo, hTO⟩, hit⟩ := st
    obtain ⟨l0, xs, hl, hq, hend⟩ := hg
    obtain ⟨its, rv, p, _⟩ := I.list hq
    have l1 := rv.length
    have hi : is[0]? = some (is[0]'D.pos) := List.getElem?_eq_getElem D.pos
    refine next_end (I.ok.hd hc) D hz ff hTI hi hl (hit 0 _ _ hi hl) p.isList (by simp; omega) fun h' hk => ⟨rfl, I.turnedL (t' := s.toks) (ch := z :: TI :: TO :: is) (fun c o n q => ?_) hf⟩
    simp only [List.mem_cons, not_or] at n
    exact hk c o n.1 n.2.2.1 n.2.2.2 q
  self := fun A i s Q E st h => by
    obtain ⟨⟨f0, b0, hz, ff⟩, _⟩ := st
    exact iter_self hz h
end PySem.ZN
/-! ### the expression zip(*rows) -/
namespace PySem.ZN
open PySem PySem.Spec PyProof.Rows L2
def iZipS (K : PySem.W.Frag) (te : TE) : TI := fun σ H R => te σ H fun v H1 => ∃ (a : Addr) (ls : List Addr), v = .ref a ∧ SqL K H1 a (ls.map V.ref) ∧ 0 < ls.length ∧ ls.length ≤ 9 ∧ (∀ l ∈ ls, ∃ xs, SqL K H1 l xs) ∧ R (ItzN K ls) H1
theorem vals_refs : ∀ {ls : List Addr} {us : List Value}, Vals (ls.map V.ref) us → us = ls.map Value.ref
  | [], _, h => by cases h; rfl
  | l :: ls, _, h => by
    cases h with
    | cons r t =>
      obtain rfl := r
      rw [vals_refs t]
      rfl
theorem za_new {n : Nat} {S : Nat} {ls : List Addr} (hl : ls.length = n) (h0 : 0 < n) (h9 : n ≤ 9) (lt : ∀ l ∈ ls, l < S) : ZA (S + n + 2) (S + n) (S + n + 1) ((List.range n).map (S + ·)) ls where
  TIz := by change (S + n : Nat) ≠ (S + n + 2 : Nat); omega
  TOz := by change (S + n + 1 : Nat) ≠ (S + n + 2 : Nat); omega
  TITO := by change (S + n : Nat) ≠ (S + n + 1 : Nat); omega
  ne := fun i hi => by
    obtain ⟨m, hm, rfl⟩ := List.mem_map.mp hi
    have := List.mem_range.mp hm
    exact ⟨(by change (S + m : Nat) ≠ (S + n + 2 : Nat); omega), (by change (S + m : Nat) ≠ (S + n : Nat); omega), by change (S + m : Nat) ≠ (S + n + 1 : Nat); omega⟩
  nd := by
    exact List.pairwise_map.mpr (List.Pairwise.imp (fun {a b} (h : a ≠ b) w => h (Nat.add_left_cancel w)) List.nodup_range)
  lne := fun l hl => by
    have lo : S ≤ S + n := Nat.le_add_right S n
    refine ⟨fun w => ?_, fun w => ?_, fun w => ?_⟩
    · exact absurd (lt l hl) (by rw [w]; exact Nat.not_lt.mpr (Nat.le_trans lo (Nat.le_add_right _ 2)))
    · exact absurd (lt l hl) (by rw [w]; exact Nat.not_lt.mpr (Nat.le_trans lo (Nat.le_add_right _ 1)))
    · obtain ⟨m, hm, e⟩ := List.mem_map.mp w
      exact absurd (lt l hl) (by rw [← e]; exact Nat.not_lt.mpr (Nat.le_add_right S m))
  len := by rw [List.length_map, List.length_range]; exact hl
  pos := by rw [List.length_map, List.length_range]; exact h0
  nine := by rw [List.length_map, List.length_range]; exact h9
theorem pi_zipS {X : Cx} {e : Expr} {te : TE} {p pos sp : Pos} {y : Str} {yp : Pos} (hg : Gl X "zip") (hm : X.mg "zip" = none) (he : PE X e te) (hst : starEach [.Starred e sp] X.env = [(true, eval e X.env)] := by rfl) :
    PI X (.Name y yp) (.Call (.Name "zip" p) [.Starred e sp] [] pos) (iZipS X.K te) := by
  refine ⟨fun pins s σ H R I h => ?_⟩
  refine Call_ (ld_blt I hg hm PyProof.Rows.boot_zip ?_)
  rw [hst]
  refine PySem.W.ks_call (P := fun _ => True) rfl (fun h _ => ⟨.machine, .inr (.inl rfl), PySem.W.Looks.of_pure rfl⟩) (PySem.W.ks_lone (thn (he.run pins s σ H _ I h) fun v s1 ⟨x, H1, I1, ry, a, ls, ey, hxs, h0, h9, hls, q⟩ => ?_))
  subst ey
  obtain rfl : v = Value.ref a := ry
  refine StX.star_lst I1 hxs fun us s2 I2 rv => ⟨trivial, ?_⟩
  obtain rfl := vals_refs rv
  have hls2 : ∀ l ∈ ls, ∃ its, s2.heap.IsList l its := fun l hl => by
    obtain ⟨xs, hx⟩ := hls l hl
    obtain ⟨its, _, pl, _⟩ := I2.list hx
    exact ⟨_, pl.isList⟩
  refine call_n h9 hls2 fun h' M => ?_
  have I3 : Inv X pins σ H1 { s2 with heap := h' } := I2.kept (t' := s2.toks) M.keep
  have D := za_new (n := ls.length) (S := s2.heap.objs.size) (ls := ls) rfl h0 h9 fun l hl => by
    obtain ⟨its, o, ho, _⟩ := hls2 l hl
    exact Heap.lt_size ho
  have hit : ∀ (m : Nat) i0 l, ((List.range ls.length).map (s2.heap.objs.size + ·))[m]? = some i0 → ls[m]? = some l → h'.IsListIter i0 l 0 := fun m i0 l e1 e2 => by
    rw [List.getElem?_map, List.getElem?_range (List.getElem?_eq_some_iff.mp e2).1] at e1
    cases e1
    exact M.it m l e2
  refine iter_self M.z ?_
  refine ⟨_, _, _, _, H1, rfl, I3, turn_n D, ⟨⟨_, _, M.z, .inl rfl⟩, M.TI, ⟨_, by rw [List.length_replicate, List.length_map, List.length_range], M.TO⟩, hit⟩, fun c hc => ?_, q⟩
  have hle : s2.heap.objs.size ≤ c := by
    rcases List.mem_cons.mp hc with rfl | hc
    · change s2.heap.objs.size ≤ (s2.heap.objs.size + ls.length + 2 : Nat)
      omega
    rcases List.mem_cons.mp hc with rfl | hc
    · change s2.heap.objs.size ≤ (s2.heap.objs.size + ls.length : Nat)
      omega
    rcases List.mem_cons.mp hc with rfl | hc
    · change s2.heap.objs.size ≤ (s2.heap.objs.size + ls.length + 1 : Nat)
      omega
    obtain ⟨m, _, rfl⟩ := List.mem_map.mp hc
    exact Nat.le_add_right _ _
  exact I2.fpOk hle (I2.hok.fresh hle)
end PySem.ZN
/-! ### zip(*rows) over data: the columns -/
namespace DL
open PySem L2
def colsD (n : Nat) (rs : List (List PyData)) : List PyData := (List.range n).map fun j => .tuple (rs.map fun r => r.getD j .none)
def diZipS (d : TDE) : TDL := fun ds Q => d ds fun x => match x with
  | .list rows => ∃ (rs : List (List PyData)) (n : Nat), rows = rs.map .list ∧ 0 < rs.length ∧ rs.length ≤ 9 ∧ (∀ r ∈ rs, r.length = n) ∧ dSize n ∧ Q (colsD n rs)
  | _ => False
theorem rows_refs {M : Addr → Prop} {H : Hp} : ∀ {rs : List (List PyData)} {xs : List V}, DtA M H xs (rs.map .list) →
    ∃ ls : List Addr, xs = ls.map V.ref ∧ ls.length = rs.length ∧ ∀ (m : Nat) l, ls[m]? = some l → ∃ r ys, rs[m]? = some r ∧ ¬ M l ∧ H l = some (.lst ys) ∧ DtA M H ys r
  | [], _, h => by
    cases h
    exact ⟨[], rfl, rfl, fun m l e => by simp at e⟩
  | r :: rs, _, h => by
    rw [List.map_cons] at h
    cases h with
    | cons h1 h2 =>
      obtain ⟨ls, rfl, len, f⟩ := rows_refs h2
      cases h1 with
      | @lst a ys _ n e t =>
        refine ⟨a :: ls, rfl, by rw [List.length_cons, List.length_cons, len], fun m l q => ?_⟩
        cases m with
        | zero =>
          cases q
          exact ⟨r, ys, rfl, n, e, t⟩
        | succ m => exact f m l (by simpa using q)
theorem DtA.of_get {M : Addr → Prop} {H : Hp} : ∀ {ds : List PyData} {vs : List V}, vs.length = ds.length → (∀ (m : Nat) d, ds[m]? = some d → ∃ v, vs[m]? = some v ∧ Dt M H v d) → DtA M H vs ds
  | [], [], _, _ => .nil
  | [], _ :: _, e, _ => nomatch e
  | _ :: _, [], e, _ => nomatch e
  | d :: ds, v :: vs, e, h => by
    obtain ⟨u, hu, r⟩ := h 0 d rfl
    cases hu
    exact .cons r (DtA.of_get (by simpa using e) fun m x hx => by simpa using h (m + 1) x (by simpa using hx))
theorem colsD_len {n : Nat} {rs : List (List PyData)} : (colsD n rs).length = n := by
  unfold colsD
  rw [List.length_map, List.length_range]
theorem it_zipN {M : Addr → Prop} {B : Gr} {K : PySem.W.Frag} {H : Hp} {rs : List (List PyData)} {n : Nat} {ls : List Addr} (len : ls.length = rs.length) (h0 : 0 < rs.length) (hn : ∀ r ∈ rs, r.length = n)
    (f : ∀ (m : Nat) l, ls[m]? = some l → ∃ r ys, rs[m]? = some r ∧ ¬ M l ∧ H l = some (.lst ys) ∧ DtA M H ys r) : ItOk M B H (PySem.ZN.ItzN K ls) (colsD n rs) := fun M2 H2 g2 k i => by
  have f2 : ∀ (m : Nat) l, ls[m]? = some l → ∃ r ys, rs[m]? = some r ∧ SqL K H2 l ys ∧ DtA M2 H2 ys r ∧ ys.length = n := fun m l e => by
    obtain ⟨r, ys, e1, n1, e2, t⟩ := f m l e
    exact ⟨r, ys, e1, SqL.of (k _ _ n1 e2).2, t.map k, t.length.trans (hn r (List.mem_of_getElem? e1))⟩
  refine ⟨fun e => ?_, fun hi => ⟨fun l hl => ?_, fun x H3 y => ?_⟩⟩
  · rw [colsD_len] at e
    have hl : ls[0]? = some (ls[0]'(by omega)) := List.getElem?_eq_getElem _
    obtain ⟨r, ys, _, q, _, e2⟩ := f2 0 _ hl
    exact ⟨_, ys, hl, q, by omega⟩
  · rw [colsD_len] at hi
    obtain ⟨m, hm⟩ := List.getElem?_of_mem hl
    obtain ⟨r, ys, _, q, _, e2⟩ := f2 m l hm
    exact ⟨ys, ys[i], q, List.getElem?_eq_getElem (by omega)⟩
  · rw [colsD_len] at hi
    obtain ⟨T, zs, rfl, hT, rfl, lz, hz⟩ := y
    refine ⟨g2.new hT, Keep.new hT, .tuple (rs.map fun r => r.getD i .none), ?_, Dt.newT g2 hT (DtA.of_get (by rw [lz, len, List.length_map]) fun m d hd => ?_)⟩
    · unfold colsD
      rw [List.getElem?_map, List.getElem?_range hi]
      rfl
    · obtain ⟨r, hr, rfl⟩ : ∃ r, rs[m]? = some r ∧ d = r.getD i .none := by
        rw [List.getElem?_map] at hd
        cases e : rs[m]? with
        | none => rw [e] at hd; cases hd
        | some r => rw [e] at hd; exact ⟨r, rfl, (Option.some.inj hd).symm⟩
      have hl : ls[m]? = some (ls[m]'(by rw [len]; exact (List.getElem?_eq_some_iff.mp hr).1)) := List.getElem?_eq_getElem _
      obtain ⟨r', ys, e1, q, t, e2⟩ := f2 m _ hl
      rw [hr] at e1
      cases e1
      obtain ⟨x, hx, hzm⟩ := hz m _ hl ys q
      obtain ⟨d, hd2, dx⟩ := DtA.getV i t hx
      refine ⟨x, hzm, ?_⟩
      rw [List.getD_eq_getElem?_getD, hd2]
      exact dx
theorem di_zipS (K : PySem.W.Frag) {X : Cx} {B : Gr} {e : Expr} {te : TE} {d : TDE} {p pos sp yp : Pos} {y : Str} (hg : Gl X "zip") (hm : X.mg "zip" = none) (he : PD X B e te d) (hst : starEach [.Starred e sp] X.env = [(true, eval e X.env)] := by rfl) (hK : X.K = K := by rfl) :
    PDI X B (.Name y yp) (.Call (.Name "zip" p) [.Starred e sp] [] pos) (PySem.ZN.iZipS K te) (diZipS d) := by
  subst hK
  refine ⟨PySem.ZN.pi_zipS hg hm he.pe hst, fun M σ H ds Q R g en q c => he.se M σ H ds _ _ g en q fun v H1 x g1 k1 hx q1 => ?_⟩
  cases x <;> first | exact q1.elim | skip
  obtain ⟨rs, n, rfl, h0, h9, hn, hs, q2⟩ := q1
  cases hx with
  | @lst a xs _ na ea t =>
    obtain ⟨ls, rfl, len, f⟩ := rows_refs t
    refine ⟨a, ls, rfl, SqL.of ea, by omega, by omega, fun l hl => ?_, c _ H1 _ g1 k1 (it_zipN len h0 hn f) (by rw [colsD_len]; exact hs.le) q2⟩
    obtain ⟨m, hm⟩ := List.getElem?_of_mem hl
    obtain ⟨_, ys, _, _, e2, _⟩ := f m l hm
    exact ⟨ys, SqL.of e2⟩
end DL
/-! ### the columns of a table -/
namespace DL
open PySem L2
theorem col_row {N j : Nat} {F : Nat → Nat → Int} (h : j < N) : ((tabF N F).map fun r => r.getD j .none) = rowF N (tr F) j := by
  unfold tabF
  rw [List.map_map]
  unfold rowF
  refine List.map_congr_left fun i _ => ?_
  show ((List.range N).map fun j => PyData.int (F i j)).getD j .none = .int (F i j)
  rw [List.getD_eq_getElem?_getD, List.getElem?_map, List.getElem?_range h]
  rfl
theorem tab_rows {N : Nat} {F : Nat → Nat → Int} : (tabF N F).map PyData.list = (List.range N).map fun j => .list (rowF N F j) := by
  unfold tabF
  rw [List.map_map]
  rfl
theorem row_len {N : Nat} {F : Nat → Nat → Int} {i : Nat} : (rowF N F i).length = N := by
  unfold rowF
  rw [List.length_map, List.length_range]
theorem tab_len {N : Nat} {F : Nat → Nat → Int} : (tabF N F).length = N := by
  unfold tabF
  rw [List.length_map, List.length_range]
theorem tab_each {N : Nat} {F : Nat → Nat → Int} : ∀ r ∈ tabF N F, r.length = N := fun r hr => by
  unfold tabF at hr
  obtain ⟨i, _, rfl⟩ := List.mem_map.mp hr
  exact row_len
theorem loss_pos {F : Nat → Nat → Int} {n d : Nat} : 0 < (lossesL F n d).length := by
  rw [lossesL_len]
  exact Nat.pow_pos (by omega)
end DL
namespace DL
open PySem L2
theorem boolsOf_map {α : Type} {f : α → Bool} : ∀ l : List α, boolsOf (l.map fun i => PyData.bool (f i)) = some (l.map f)
  | [] => rfl
  | a :: l => by
    rw [List.map_cons, List.map_cons]
    have ih := boolsOf_map (f := f) l
    first
      | (show (boolsOf (l.map fun i => PyData.bool (f i))).map _ = _; rw [ih]; rfl)
      | (simp [boolsOf, ih])
end DL
/-! ### sorted(e), any alike data; while -/
namespace DL
open PySem PySem.Spec L2 PyProof.Rows
def sortZ (xs : List V) (ds : List PyData) : List (V × PyData) := (xs.zip ds).mergeSort (PySem.W.dataLe false Prod.snd)
def rSortedD (K : PySem.W.Frag) : List V → Hp → VK → Prop := fun vs H Q => ∃ (a : Addr) (xs : List V) (ds : List PyData), vs = [V.ref a] ∧ SqL K H a xs ∧ DpAll K H xs ds ∧ PySem.W.AllAlike ds ∧ PySem.W.Sortable ds ∧ (∀ d ∈ ds, d.depth ≤ 20) ∧
  ∀ p, H p = none → Q (.ref p) (upd H p (.lst ((sortZ xs ds).map Prod.fst)))
theorem each_rel : ∀ {xs : List V} {us : List Value} {ds : List PyData}, Vals xs us → xs.length = ds.length → PySem.W.EachIs (fun (v : Value) (b : V × PyData) => RelV b.1 v) us (xs.zip ds)
  | _, _, [], .nil, _ => .nil
  | _, _, _ :: _, .nil, e => nomatch e
  | _, _, [], .cons _ _, e => nomatch e
  | _, _, _ :: _, .cons r t, e => .cons r (each_rel t (by simpa using e))
theorem each_reads {h : Heap} : ∀ {xs : List V} {us : List Value} {ds : List PyData} {as : List Addr}, ReadsAll h us ds as → xs.length = ds.length → PySem.W.EachIs (fun (v : Value) (b : V × PyData) => ∃ as, Reads h v b.2 as) us (xs.zip ds)
  | [], _, [], _, r, _ => by cases r; exact .nil
  | _ :: _, _, [], _, _, e => nomatch e
  | [], _, _ :: _, _, _, e => nomatch e
  | x :: xs, _, d :: ds, _, r, e => by
    cases r with
    | cons h1 h2 => exact .cons ⟨_, h1⟩ (each_reads h2 (by simpa using e))
theorem each_vals : ∀ {zs : List (V × PyData)} {us : List Value}, PySem.W.EachIs (fun (v : Value) (b : V × PyData) => RelV b.1 v) us zs → Vals (zs.map Prod.fst) us
  | _, _, .nil => .nil
  | _, _, .cons r t => .cons r (each_vals t)
theorem DpAll.length {K : PySem.W.Frag} {H : Hp} : ∀ {xs : List V} {ds : List PyData}, DpAll K H xs ds → xs.length = ds.length
  | _, _, .nil => rfl
  | _, _, .cons _ t => by rw [List.length_cons, List.length_cons, DL.DpAll.length t]
theorem call_sortedD {X : Cx} (hu : X.A.units + 64 < cLine) : CallR X (.builtin "sorted") (rSortedD X.K) := by
  intro pins s σ H vs us Q I r h
  obtain ⟨a, xs, ds, rfl, hs, hd, al, so, dp, q⟩ := h
  obtain ⟨its, rv, hl, hz⟩ := I.list hs
  rw [Vals.ref1 r]
  obtain ⟨as, ra⟩ := Dp.readsAll I ds _ its hd rv
  have ld := DL.DpAll.length hd
  have es : (xs.zip ds).map Prod.snd = ds := List.map_snd_zip (by omega)
  have lz : (xs.zip ds).length = xs.length := by rw [List.length_zip]; omega
  refine PySem.W.sorted_data (enc := Prod.snd) (R := fun v b => RelV b.1 v) (vs := its) hl.isList (each_rel rv ld) (each_reads ra ld) (by rw [es]; exact al) (by rw [es]; exact so) (by rw [lz]; exact hz) (fun b hb => ?_) fun out lo eo => ?_
  · have := dp b.2 (by rw [← es]; exact List.mem_map.mpr ⟨b, hb, rfl⟩)
    omega
  obtain ⟨ep, he'⟩ := PyProof.Rows.sortedAll_at s.heap its out.toArray
  have hlen : ((sortZ xs ds).map Prod.fst).length ≤ sizeLine := by
    rw [List.length_map]
    unfold sortZ
    rw [List.length_mergeSort, lz]
    exact hz
  exact ⟨.ref _, upd H (s.heap.objs.size + 1) (.lst ((sortZ xs ds).map Prod.fst)), I.laid (t' := s.toks) (fun _ _ => PyProof.Rows.sortedAll_old) (Nat.le_succ _) ⟨hlen, out, ep, each_vals eo, he'⟩, rfl, q _ (I.hok.fresh (Nat.le_succ _))⟩
theorem call_sortedDK (K : PySem.W.Frag) {X : Cx} (hu : X.A.units + 64 < cLine) (hK : X.K = K := by rfl) : CallR X (.builtin "sorted") (rSortedD K) := by
  subst hK
  exact call_sortedD hu
theorem DtA.zip {M : Addr → Prop} {H : Hp} : ∀ {vs : List V} {ds : List PyData}, DtA M H vs ds → ∀ p ∈ vs.zip ds, Dt M H p.1 p.2
  | _, _, .nil, p, h => nomatch h
  | _, _, .cons h1 t, p, h => by
    rw [List.zip_cons_cons] at h
    rcases List.mem_cons.mp h with z | h
    · rw [z]
      exact h1
    · exact DtA.zip t p h
theorem DtA.of_zip {M : Addr → Prop} {H : Hp} : ∀ {zs : List (V × PyData)}, (∀ p ∈ zs, Dt M H p.1 p.2) → DtA M H (zs.map Prod.fst) (zs.map Prod.snd)
  | [], _ => .nil
  | z :: zs, h => .cons (h z (List.mem_cons_self ..)) (DtA.of_zip fun p hp => h p (List.mem_cons_of_mem _ hp))
def cSorted : DC := fun l Q => match l with
  | [.list ds] => PySem.W.AllAlike ds ∧ PySem.W.Sortable ds ∧ PyData.hasDictAll ds = false ∧ (∀ d ∈ ds, d.depth ≤ 20) ∧ Q (.list (ds.mergeSort (PySem.W.dataLe false id)))
  | _ => False
theorem rdc_sorted {B : Gr} {K : PySem.W.Frag} : RDC B (rSortedD K) cSorted := by
  intro M vs l H Q R g hl h c
  unfold cSorted at h
  split at h
  · rename_i ds
    cases hl with
    | cons h1 h2 =>
      cases h2
      cases h1 with
      | lst n e a =>
        rename_i xs
        obtain ⟨al, so, nd, dp, q⟩ := h
        have es : (xs.zip ds).map Prod.snd = ds := List.map_snd_zip (by rw [a.length]; omega)
        refine ⟨_, xs, ds, rfl, SqL.of e, DtA.dp nd a, al, so, dp, fun p hp => c _ _ _ (g.new hp) (Keep.new hp) (Dt.newL g hp ?_) q⟩
        have z : (sortZ xs ds).map Prod.snd = ds.mergeSort (PySem.W.dataLe false id) := by
          unfold sortZ
          refine (List.map_mergeSort (s := PySem.W.dataLe false id) (r := PySem.W.dataLe false Prod.snd) (f := Prod.snd) (l := xs.zip ds) fun a _ b _ => rfl).trans ?_
          rw [es]
        rw [← z]
        exact DtA.of_zip fun p hp => a.zip p ((List.mem_mergeSort).mp hp)
  · exact h.elim
/-! #### rows of ints -/
def rowD (g : List Int) : PyData := .list (g.map .int)
theorem rows_alike (L : List (List Int)) : PySem.W.AllAlike (L.map rowD) := PySem.W.AllAlike.of fun a b => by
  unfold rowD
  simp only [PySem.W.alike]
  exact PySem.W.alike_ints a b
theorem rows_sortable (L : List (List Int)) : PySem.W.Sortable (L.map rowD) := PySem.W.Sortable.others fun b => ⟨(fun z => nomatch z), fun xs z => nomatch z⟩
theorem rows_depth (L : List (List Int)) : ∀ d ∈ L.map rowD, d.depth ≤ 20 := fun d hd => by
  obtain ⟨g, _, rfl⟩ := List.mem_map.mp hd
  unfold rowD
  simp only [PyData.depth, PySem.W.depth_ints]
  omega
theorem ints_nodict : ∀ g : List Int, PyData.hasDictAll (g.map .int) = false
  | [] => rfl
  | i :: g => by
    rw [List.map_cons]
    simp only [PyData.hasDictAll, PyData.hasDict, Bool.false_or]
    exact ints_nodict g
theorem rows_nodict : ∀ L : List (List Int), PyData.hasDictAll (L.map rowD) = false
  | [] => rfl
  | g :: L => by
    rw [List.map_cons]
    simp only [PyData.hasDictAll, Bool.or_eq_false_iff]
    refine ⟨?_, rows_nodict L⟩
    unfold rowD
    simp only [PyData.hasDict]
    exact ints_nodict g
def rowsS (L : List (List Int)) : List (List Int) := L.mergeSort fun p q => decide (p ≤ q)
theorem rows_sort (L : List (List Int)) : (L.map rowD).mergeSort (PySem.W.dataLe false id) = (rowsS L).map rowD := by
  unfold rowsS
  refine (List.map_mergeSort (s := PySem.W.dataLe false id) (f := rowD) (r := fun p q : List Int => decide (p ≤ q)) (l := L) fun a _ b _ => ?_).symm
  have e := congrFun (congrFun (PySem.W.dataLe_rows (fun b : List Int => b)) a) b
  exact e.symm
theorem cSorted_rows {L : List (List Int)} {Q : PyData → Prop} (q : Q (.list ((rowsS L).map rowD))) : cSorted [.list (L.map rowD)] Q :=
  ⟨rows_alike L, rows_sortable L, rows_nodict L, rows_depth L, by rw [rows_sort]; exact q⟩
/-! #### while -/
def sWhile (c : TDT) (b : TDS) : TDS := fun DD ds => ∃ W : Nat → DEnv → Prop, (∃ m, W m ds) ∧ ∀ m ds, W m ds →
  c ds fun k => (k = true → b { nx := fun ds' => ∃ m', m' < m ∧ W m' ds', rt := DD.rt, bk := DD.nx, ct := fun ds' => ∃ m', m' < m ∧ W m' ds' } ds) ∧ (k = false → DD.nx ds)
theorem ds_while {X : Cx} {B : Gr} {c : Expr} {body : List Stmt} {tc : TT} {dc : TDT} {tb : TS} {db : TDS} {pos : Pos} (hp : PassesOwn (model X.prog X.w) X.A X.env X.xe) (hc : PDT X B c tc dc) (hb : PDSs X B body tb db) :
    PDS X B (.While c body [] pos) (tWhile tc tb) (sWhile dc db) :=
  ⟨ps_while hp hc.pt hb.ps, fun M σ H ds DD D en o q cs => by
    obtain ⟨W, ⟨m0, w0⟩, turn⟩ := q
    refine ⟨fun m σ' H' => ∃ M' ds', Ent B M' H' ∧ Stay M H M' H' ∧ EnvO M' B H' σ' ds' ∧ W m ds', ⟨m0, M, ds, en, Stay.refl, o, w0⟩, ?_⟩
    rintro m σ' H' ⟨M', ds', e', k', o', w'⟩
    refine hc.st M' σ' H' ds' _ _ e'.g o'.at_ (turn m ds' w') fun b H1 g1 k1 q1 => ?_
    have e1 := e'.expr g1 k1
    have o1 := o'.expr e'.g.1 k1
    have s1 : Stay M H M' H1 := k'.trans (k1.stay e'.g.1)
    cases b with
    | true =>
      have kk : ContE B M' H1 (fun ds' => ∃ m', m' < m ∧ W m' ds') (fun σ2 H2 => ∃ m', m' < m ∧ ∃ M2 ds2, Ent B M2 H2 ∧ Stay M H M2 H2 ∧ EnvO M2 B H2 σ2 ds2 ∧ W m' ds2) :=
        fun M4 σ4 H4 ds4 e4 k4 o4 ⟨m', lt, w4⟩ => ⟨m', lt, M4, ds4, e4, s1.trans k4, o4, w4⟩
      exact iteT ⟨_, fun _ _ z => z, hb.ss M' σ' H1 ds' _ _ e1 o1 (q1.1 rfl) ⟨kk, cs.rt, cs.nx.stay s1, kk⟩⟩
    | false => exact iteF (cs.nx M' σ' H1 ds' e1 s1 o1 (q1.2 rfl))⟩
end DL
/-! ### a call's answer whose lists of ints are the caller's own -/
namespace DL
open PySem PySem.Spec L2 PyProof.Rows
/-- data without a list that begins with an int -/
inductive NoInts : PyData → Prop
  | non : NoInts .none
  | bl (b : Bool) : NoInts (.bool b)
  | int (i : Int) : NoInts (.int i)
  | str (s : Str) : NoInts (.str s)
  | lst {ds : List PyData} : (∀ i r, ds ≠ .int i :: r) → (∀ d ∈ ds, NoInts d) → NoInts (.list ds)
  | tup {ds : List PyData} : (∀ d ∈ ds, NoInts d) → NoInts (.tuple ds)
  | brd {C : Addr} {n : Int} {ds : List PyData} : (∀ i r, ds ≠ .int i :: r) → (∀ d ∈ ds, NoInts d) → NoInts (brdD C n ds)
theorem DtA.noHd {M : Addr → Prop} {H : Hp} {xs : List V} {ds : List PyData} (h : DtA M H xs ds) (n : ∀ i r, ds ≠ .int i :: r) : ¬ intHd xs := by
  rintro ⟨i, r, rfl⟩
  cases h with
  | cons h1 h2 =>
    cases h1
    exact n _ _ rfl
theorem Dt.noInts {M : Addr → Prop} {H : Hp} {v : V} {d : PyData} (h : Dt M H v d) : NoInts d → ∀ a xs, Rch H v a → H a = some (.lst xs) → ¬ intHd xs :=
  Dt.rec (motive_1 := fun v d _ => NoInts d → ∀ a xs, Rch H v a → H a = some (.lst xs) → ¬ intHd xs) (motive_2 := fun vs ds _ => (∀ d ∈ ds, NoInts d) → ∀ v ∈ vs, ∀ a xs, Rch H v a → H a = some (.lst xs) → ¬ intHd xs)
    (fun _ b xs r => by cases r) (fun _ _ b xs r => by cases r) (fun _ _ b xs r => by cases r) (fun _ _ b xs r => by cases r)
    (fun n e da ih no b ys r eb => by
      cases no with
      | lst n1 n2 =>
        cases r with
        | self =>
          rw [e] at eb
          cases eb
          exact da.noHd n1
        | lst e2 m r => rw [e] at e2; cases e2; exact ih n2 _ m b ys r eb
        | tup e2 _ _ => rw [e] at e2; cases e2
        | dct e2 => rw [e] at e2; cases e2
        | fld e2 _ _ => rw [e] at e2; cases e2)
    (fun n e da ih no b ys r eb => by
      cases no with
      | tup n2 =>
        cases r with
        | self => rw [e] at eb; cases eb
        | tup e2 m r => rw [e] at e2; cases e2; exact ih n2 _ m b ys r eb
        | lst e2 _ _ => rw [e] at e2; cases e2
        | dct e2 => rw [e] at e2; cases e2
        | fld e2 _ _ => rw [e] at e2; cases e2)
    (fun n n2 e e2 n3 e3 da ih no b ys r eb => by
      cases no with
      | brd m1 m2 =>
        cases r with
        | self => rw [e] at eb; cases eb
        | lst e4 _ _ => rw [e] at e4; cases e4
        | tup e4 _ _ => rw [e] at e4; cases e4
        | dct e4 => rw [e] at e4; cases e4; rw [e2] at eb; cases eb
        | fld e4 m r =>
          rw [e] at e4
          cases e4
          rcases List.mem_cons.mp m with z | m
          · cases z
            cases r
          · have z := List.mem_singleton.mp m
            cases z
            cases r with
            | self =>
              rw [e3] at eb
              cases eb
              exact da.noHd m1
            | lst e5 m r => rw [e3] at e5; cases e5; exact ih m2 _ m b ys r eb
            | tup e5 _ _ => rw [e3] at e5; cases e5
            | dct e5 => rw [e3] at e5; cases e5
            | fld e5 _ _ => rw [e3] at e5; cases e5)
    (fun _ v m => nomatch m) (fun _ _ ih ih2 no v m b ys r eb => by
      rcases List.mem_cons.mp m with z | m
      · subst z
        exact ih (no _ (List.mem_cons_self ..)) b ys r eb
      · exact ih2 (fun d hd => no d (List.mem_cons_of_mem _ hd)) v m b ys r eb) h
/-- in a wider world whose more is not reached -/
theorem Dt.widen {M M' : Addr → Prop} {H : Hp} {v : V} {d : PyData} (h : Dt M H v d) : (∀ b, Rch H v b → ¬ M b → ¬ M' b) → Dt M' H v d :=
  Dt.rec (motive_1 := fun v d _ => (∀ b, Rch H v b → ¬ M b → ¬ M' b) → Dt M' H v d) (motive_2 := fun vs ds _ => (∀ v ∈ vs, ∀ b, Rch H v b → ¬ M b → ¬ M' b) → DtA M' H vs ds)
    (fun _ => .non) (fun b _ => .bl b) (fun i _ => .int i) (fun s _ => .str s)
    (fun n e _ ih k => .lst (k _ (.self _) n) e (ih fun v m b r => k b (.lst e m r)))
    (fun n e _ ih k => .tup (k _ (.self _) n) e (ih fun v m b r => k b (.tup e m r)))
    (fun n n2 e e2 n3 e3 _ ih k => .brd (k _ (.self _) n) (k _ (.dct e) n2) e e2 (k _ (.fld e (List.mem_cons_of_mem _ (List.mem_singleton.mpr rfl)) (.self _)) n3) e3
      (ih fun v m b r => k b (.fld e (List.mem_cons_of_mem _ (List.mem_singleton.mpr rfl)) (.lst e3 m r))))
    (fun _ => .nil) (fun _ _ ih ih2 k => .cons (ih fun b r => k _ (List.mem_cons_self ..) b r) (ih2 fun v m b r => k v (List.mem_cons_of_mem _ m) b r)) h
def AllDat (xs : List DV) : Prop := ∀ x ∈ xs, ∃ d, x = .dat d ∧ NoInts d
theorem AllDat.nil : AllDat [] := fun _ h => nomatch h
theorem AllDat.cons {d : PyData} {xs : List DV} (h : NoInts d) (t : AllDat xs) : AllDat (.dat d :: xs) := fun x hx => by
  rcases List.mem_cons.mp hx with z | hx
  · exact ⟨d, z, h⟩
  · exact t x hx
/-- what a call without the bag cannot hand back -/
def callM (M : Addr → Prop) (H : Hp) (vs : List V) : Addr → Prop := fun b => M b ∨ ((∃ o, H b = some o ∧ ∀ ys, o ≠ .tup ys) ∧ ¬ ∃ u ∈ vs, Rch H u b)
abbrev callB (M : Addr → Prop) (B : Gr) (H : Hp) (vs : List V) : Gr := ⟨B.a, callM M H vs, H, callM M H vs, H, fun _ => True⟩
theorem args_wide {M M' : Addr → Prop} {B B' : Gr} {H : Hp} : ∀ {vs : List V} {xs : List DV}, ArgsAt M B H vs xs → AllDat xs → (∀ v ∈ vs, ∀ b, Rch H v b → ¬ M b → ¬ M' b) → ArgsAt M' B' H vs xs
  | _, _, .nil, _, _ => .nil
  | _, _, .cons h n t, ad, k => by
    obtain ⟨d, e, no⟩ := ad _ (List.mem_cons_self ..)
    subst e
    cases h with
    | dat h => exact .cons (.dat (h.widen (k _ (List.mem_cons_self ..)))) trivial (args_wide t (fun x hx => ad x (List.mem_cons_of_mem _ hx)) fun v m => k v (List.mem_cons_of_mem _ m))
theorem args_noInts {M : Addr → Prop} {B : Gr} {H : Hp} : ∀ {vs : List V} {xs : List DV}, ArgsAt M B H vs xs → AllDat xs → ∀ v ∈ vs, ∀ a ys, Rch H v a → H a = some (.lst ys) → ¬ intHd ys
  | _, _, .nil, _, v, m => nomatch m
  | _, _, .cons h n t, ad, v, m => by
    rcases List.mem_cons.mp m with z | m
    · subst z
      obtain ⟨d, e, no⟩ := ad _ (List.mem_cons_self ..)
      subst e
      cases h with
      | dat h => exact h.noInts no
    · exact args_noInts t (fun x hx => ad x (List.mem_cons_of_mem _ hx)) v m
theorem fresh_good {M : Addr → Prop} {B : Gr} {H : Hp} {vs : List V} (g : Good M B H) : Good (callM M H vs) (callB M B H vs) H :=
  Good0.start ⟨.inl g.1, fun a ma => ma.elim (g.2.1 a) fun z => z.1.imp fun _ w => w.1, g.2.2.1.any, fun a ma ys => ma.elim (fun z => g.d.nt a z ys) fun ⟨⟨o, e, n⟩, _⟩ => by rw [e]; exact fun z => n ys (Option.some.inj z)⟩
theorem fresh_args {M : Addr → Prop} {B : Gr} {H : Hp} {vs : List V} {xs : List DV} (a : ArgsAt M B H vs xs) (ad : AllDat xs) : ArgsAt (callM M H vs) (callB M B H vs) H vs xs :=
  args_wide a ad fun v m b r n z => z.elim n fun w => w.2 ⟨v, m, r⟩
/-- those lists of an answer that may be changed -/
def ansS (H : Hp) (v : V) : Addr → Prop := fun b => Rch H v b ∧ ∃ xs, H b = some (.lst xs) ∧ (intHd xs ∨ v = .ref b)
theorem Good.addS {M : Addr → Prop} {B : Gr} {H : Hp} {S : Addr → Prop} (g : Good M B H) (h0 : ∀ a, S a → B.H0 a = none) (h1 : ∀ a, S a → B.H1 a = none) (hs : ∀ a, S a → ∃ o, H a = some o) (hn : ∀ a, S a → ∀ ys, H a ≠ some (.tup ys)) : Good (fun a => M a ∨ S a) B H :=
  ⟨.inl g.1, fun a ma => ma.elim (g.2.1 a) (hs a), g.2.2.1.any, g.d.g0, g.d.m0, fun a m => .inl (g.d.sub a m), g.d.keep, fun a o n e z => z.elim (g.d.stay a o n e) fun z => (by rw [h0 a z] at e; cases e),
    fun a o n e => ⟨fun z => z.elim (g.d.st a o n e).1 fun z => (by rw [h1 a z] at e; cases e), (g.d.st a o n e).2⟩, g.d.al, g.d.bq, fun a ma ys => ma.elim (fun z => g.d.nt a z ys) fun z => hn a z ys⟩
theorem fresh_back {M : Addr → Prop} {B : Gr} {H H' : Hp} {vs : List V} {xs : List DV} {v : V} {d : PyData} (g : Good M B H) (a : ArgsAt M B H vs xs) (ad : AllDat xs) (g' : Good (callM M H vs) (callB M B H vs) H') (k' : Keep (callM M H vs) B.a H H')
    (hd : Dt (callM M H vs) H' v d) (top : (∀ l, d ≠ .list l) ∨ ∃ p, v = .ref p ∧ H p = none) :
    Good (fun b => M b ∨ ansS H' v b) B H' ∧ Stay M H (fun b => M b ∨ ansS H' v b) H' ∧ DvR (fun b => M b ∨ ansS H' v b) B H' v (.loose (ansS H' v) d) ∧ ∀ b, ansS H' v b → H b = none := by
  have fr : ∀ b, ansS H' v b → H b = none := fun b ⟨r, ys, e, c⟩ => by
    cases q : H b with
    | none => rfl
    | some o =>
      have nm := hd.rch b r
      have nB : b ≠ B.a := fun z => nm (.inl (by rw [z]; exact g.1))
      have e2 := k'.k b o nB q
      rw [e] at e2
      cases e2
      have ⟨u, mu, ru⟩ : ∃ u ∈ vs, Rch H u b := Classical.byContradiction fun z => nm (.inr ⟨⟨_, q, fun _ z => nomatch z⟩, z⟩)
      rcases c with c | c
      · exact absurd c (args_noInts a ad u mu b ys ru q)
      · rcases top with t | ⟨p, hp, hn⟩
        · rw [c] at hd
          cases hd with
          | lst _ _ _ => exact absurd rfl (t _)
          | tup _ e3 _ => rw [e] at e3; cases e3
          | brd _ _ e3 _ _ _ _ => rw [e] at e3; cases e3
        · rw [hp] at c
          cases c
          rw [hn] at q
          cases q
  have g1 : Good M B H' := g.expr ⟨g.1, fun a ma => g'.2.1 a (.inl ma), g'.2.2.1.any, fun a ma => g'.d.nt a (.inl ma)⟩ k'.any
  have hs : ∀ b, ansS H' v b → ∃ o, H' b = some o := fun b ⟨_, ys, e, _⟩ => ⟨_, e⟩
  refine ⟨g1.addS (fun b z => g.fresh0 (fr b z)) (fun b z => g.fresh1 (fr b z)) hs (fun b ⟨_, ys, e, _⟩ zs w => by rw [e] at w; cases w), fun b o n e => ⟨fun z => z.elim n fun z => (by rw [fr b z] at e; cases e), k'.k b o (fun z => n (by rw [z]; exact g.1)) e⟩, ?_, fr⟩
  refine .loose (fun b z => ⟨.inr z, fun w => ?_, g.fresh0 (fr b z), hs b z⟩) (hd.map (Stay.less fun b z => .inl (z.1.resolve_right z.2))) fun b ys r e c => ⟨r, ys, e, c⟩
  obtain ⟨o, e⟩ := g.2.1 B.a g.1
  have := fr b z
  rw [w, e] at this
  cases this
section
variable {X : Cx} {B : Gr} {k : Nat} {f : Addr} {fd : FuncData} {ps : List Str} {R : DR} {x : Str} {p pos spos : Pos} {e : Expr} {es : List Expr} {t : TA} {d : TDA} {i : Nat}
/-- x = f(..), no list as the answer -/
def sSetL (i : Nat) (R : DR) (t : TDA) : TDS := fun DD ds => t ds fun xs => AllDat xs ∧ R xs fun d => (∀ l, d ≠ .list l) ∧ ∀ S, DD.nx (ds.set i (some (.loose S d)))
theorem ds_setL {y : Str} {py : Pos} (hN : X.N.Nodup) (hi : X.N[i]? = some y) (hy : Loc X.env.scope y) (F : FnG X.prog X.w X.K X.mg X.base k f fd ps (spD R)) (hG : X.A.guards = some []) (hr : Room k X.A) (hb : Binds X.K fd ps []) (hm : X.mg x = some (.ref f)) (hk : PySem.W.keepIn X.K (.ref f) = true) (hg : Gl X x)
    (ha : PDA X B (e :: es) t d) (hdb : (x == ("__debug__" : Str)) = false := by decide) (he : starEach (e :: es) X.env = (false, eval e X.env) :: starEach es X.env := by rfl) (hpl : (backTo pos (starEach es X.env)).any (·.1) = false := by rfl)
    (hs : swapsWith (.Call (.Name x p) (e :: es) [] pos) (some (.Name y py)) spos.line X.env = pure false := by rfl) (hf : X.fn y = true ∨ X.env.scope.names.lookup y = some .local := by first | exact .inl rfl | exact .inr rfl | assumption) :
    PDS X B (.Assign [.Name y py] (.Call (.Name x p) (e :: es) [] pos) spos) (tAsg (fun σ H Q => t σ H fun vs H1 => spD R vs H1 Q E0) (gName i)) (sSetL i R d) :=
  ⟨ps_set hN hi hy (pe_callG F hG hr hb hg hm hk ha.pa hdb he hpl) hs hf, fun M σ H ds DD D en o q c => ha.sa M σ H ds _ _ en.g o.at_ q fun vs H1 xs g1 k1 a1 q1 => by
    refine ⟨callM M H1 vs, callB M B H1 vs, xs, _, fresh_args a1 q1.1, fresh_good g1, q1.2, fun v H' dd g' k' hd q2 => ?_⟩
    obtain ⟨g2, st, dv, fr⟩ := fresh_back g1 a1 q1.1 g' k' hd (.inl q2.1)
    exact (c.nx.stay (k1.stay en.g.1)) _ _ H' _ ⟨g2⟩ st ((o.expr en.g.1 k1).newO (fun _ => .inl) k'.any st dv fr) (q2.2 _)⟩
/-! #### such a value, looked at -/
def frzS (i : Nat) (d : PyData) (ds : DEnv) : DEnv := (DL.dropG ds).set i (some (.dat d))
theorem EnvAt.freezeS {M : Addr → Prop} {H : Hp} {σ : L2.St} {ds : DEnv} {S : Addr → Prop} {d : PyData} (en : EnvAt M B H σ ds) (hi : ds[i]? = some (some (.loose S d))) :
    (∀ a, S a → B.H0 a = none) ∧ EnvAt (minS M S) B H σ (frzS i d ds) := by
  obtain ⟨v, hv, r⟩ := en.get i hi
  cases r with
  | loose hs h o =>
    refine ⟨fun a z => (hs a z).2.2.1, ?_⟩
    have dl : (DL.dropG ds).length = ds.length := by unfold DL.dropG; rw [List.length_map]
    refine EnvAt.of (by unfold frzS; rw [List.length_set, dl]; exact en.length) fun j x hx => ?_
    unfold frzS at hx
    by_cases z : i = j
    · subst z
      rw [List.getElem?_set_self (by rw [dl]; exact (List.getElem?_eq_some_iff.mp hi).1)] at hx
      cases hx
      exact ⟨v, hv, .dat h⟩
    · rw [List.getElem?_set_ne z] at hx
      have nf := dropG_no ds j x hx
      obtain ⟨u, hu, ru⟩ := en.dropG.get j hx
      exact ⟨u, hu, ru.lessP fun a f => absurd nf f.mut⟩
def dPeekS (i : Nat) (t : TDE) : TDE := fun ds Q => match ds[i]? with
  | some (some (.loose _ d)) => t (frzS i d ds) fun r => flatD r = true ∧ Q r
  | _ => False
theorem d_peekS {e : Expr} {te : TE} {d : TDE} (i : Nat) (h : PD X B e te d) : PD X B e te (dPeekS i d) := ⟨h.pe, fun M σ H ds Q R g en q c => by
  unfold dPeekS at q
  split at q
  · rename_i S d hl
    obtain ⟨hz, en2⟩ := en.freezeS hl
    refine h.se (minS M S) σ H _ _ _ (g.less (fun b z => z.1) fun b hb => ⟨g.d.sub b hb, fun z => g.own (hz b z) hb⟩) en2 q fun v H' d g' k' hd q' => ?_
    exact c v H' d (g.more k'.any g') k'.any (flat_any q'.1 hd) q'.2
  · exact q.elim⟩
def tPeekS (i : Nat) (t : TDT) : TDT := fun ds Q => match ds[i]? with
  | some (some (.loose _ d)) => t (frzS i d ds) Q
  | _ => False
theorem dt_peekS {e : Expr} {te : TT} {d : TDT} (i : Nat) (h : PDT X B e te d) : PDT X B e te (tPeekS i d) := ⟨h.pt, fun M σ H ds Q R g en q c => by
  unfold tPeekS at q
  split at q
  · rename_i S d hl
    obtain ⟨hz, en2⟩ := en.freezeS hl
    refine h.st (minS M S) σ H _ _ _ (g.less (fun b z => z.1) fun b hb => ⟨g.d.sub b hb, fun z => g.own (hz b z) hb⟩) en2 q fun b H' g' k' q' => ?_
    exact c b H' (g.more k'.any g') k'.any q'
  · exact q.elim⟩
/-! #### such a value, changed: from then on nothing is known of it -/
theorem ContE.spoil {M : Addr → Prop} {H : Hp} {P : DEnv → Prop} {R : L2.St → Hp → Prop} {σ : L2.St} {ds : DEnv} {a : Addr} {v : V} {x : DV} {ob : HO} (c : ContE B M H P R) (e : Ent B M H) (o : EnvO M B H σ ds)
    (hi : ds[i]? = some (some x)) (hv : σ[i]? = some (some v)) (f : Fp v x a) (ma : M a) (nb : a ≠ B) (h0 : B.H0 a = none) (q : P (ds.set i none)) (nt : ∀ ys, ob ≠ .tup ys := by intro _ h; cases h) : R σ (upd H a ob) := by
  have old : ∀ (j : Nat) y, (ds.set i none)[j]? = some (some y) → i ≠ j ∧ ds[j]? = some (some y) := fun j y hj => by
    by_cases z : i = j
    · subst z
      by_cases hl : i < ds.length
      · rw [List.getElem?_set_self hl] at hj
        cases hj
      · rw [List.getElem?_eq_none (by rw [List.length_set]; omega)] at hj
        cases hj
    · rw [List.getElem?_set_ne z] at hj
      exact ⟨z, hj⟩
  refine c M σ _ _ ⟨e.g.updD ma nb h0 nt⟩ (stay_updD ma) ⟨EnvAt.of (by rw [List.length_set]; exact o.at_.length) fun j y hj => ?_, fun j k y z u w b h1 h2 h3 h4 g1 g2 => o.inj j k y z u w b (old j y h1).2 (old k z h2).2 h3 h4 g1 g2⟩ q
  obtain ⟨ne, hj⟩ := old j y hj
  obtain ⟨u, hu, r⟩ := o.at_.get j hj
  exact ⟨u, hu, r.updO ma nb fun g => ne (o.inj i j x y v u a hi hj hv hu f g)⟩
/-- x[k].append(e), x a tuple with a list of ints at k -/
def sAppIn (i : Nat) (k : Int) (t : TDE) : TDS := fun DD ds => match ds[i]? with
  | some (some (.loose _ (.tuple l))) => ∃ z zs, atI l k = some (.list (.int z :: zs)) ∧ zs.length ≤ 1000 ∧ t ds fun _ => DD.nx (ds.set i none)
  | _ => False
theorem ds_appIn {st : Stmt} {e : Expr} {te : TE} {d : TDE} (i : Nat) (k : Int) (he : PD X B e te d) (hp : PE X e te → PS X st (tDrop (tBM X.K "list" rAppend (tOp (rIxT X.K) (tVar i) (tC (.int k))) (tCons te tNil)))) :
    PDS X B st (tDrop (tBM X.K "list" rAppend (tOp (rIxT X.K) (tVar i) (tC (.int k))) (tCons te tNil))) (sAppIn i k d) :=
  ⟨hp he.pe, fun M σ H ds DD D en o q c => by
    unfold sAppIn at q
    split at q
    · rename_i S l hl
      obtain ⟨z, zs, hk, hz, q⟩ := q
      obtain ⟨v, hv, r⟩ := o.at_.get i hl
      have r0 := r
      cases r with
      | loose hs h ow =>
        cases h with
        | tup n e a =>
          rename_i ta xs
          obtain ⟨y, hy, hd⟩ := a.atI hk
          cases hd with
          | lst n2 e2 a2 =>
            rename_i la ys
            have my : V.ref la ∈ xs := by
              unfold L2.atI at hy
              cases q : ixN xs.length k with
              | none => rw [q] at hy; cases hy
              | some j =>
                rw [q] at hy
                exact List.mem_of_getElem? hy
            have sl : S la := ow la ys (.tup e my (.self _)) e2 (.inl (by
              cases a2 with
              | cons h1 _ => cases h1; exact ⟨_, _, rfl⟩))
            obtain ⟨ma, nb, h0, _⟩ := hs la sl
            refine ⟨_, hv, _, xs, k, _, rfl, rfl, SqT.of e, hy, .inl ⟨rfl, ys, SqL.of e2⟩, ?_⟩
            refine he.se M σ H ds _ _ en.g o.at_ q fun w H1 d1 g1 k1 hd1 q1 => ?_
            refine ⟨la, ys, w, rfl, rfl, k1.k la _ nb e2, ?_, ?_⟩
            · have hs : sizeLine = 16777216 := sizeLine_eq
              have h1 := a2.length
              rw [List.length_cons] at h1
              omega
            · exact (c.nx.stay (k1.stay en.g.1)).spoil (en.expr g1 k1) (o.expr en.g.1 k1) hl hv (show Fp _ (.loose S _) la from sl) ma nb h0 q1
    · exact q.elim⟩
end
end DL
/-! ### all groups of some dials, in order; the best steps by all groups -/
namespace DL
open PySem PySem.Spec L2 PyProof.Rows
theorem maskG_low {d m : Nat} (h : m < 2 ^ d) : maskG (d + 1) m = maskG d m := by
  unfold maskG
  rw [List.range_succ, List.filter_append]
  have e : [d].filter (fun i => m.testBit i) = [] := by simp [Nat.testBit_lt_two_pow h]
  rw [e, List.append_nil]
theorem maskG_high {d m : Nat} (h : m < 2 ^ d) : maskG (d + 1) (2 ^ d + m) = maskG d m ++ [(d : Int)] := by
  unfold maskG
  rw [List.range_succ, List.filter_append, List.map_append]
  have e : [d].filter (fun i => (2 ^ d + m).testBit i) = [d] := by simp [Nat.testBit_two_pow_add_eq, Nat.testBit_lt_two_pow h]
  have e2 : (List.range d).filter (fun i => (2 ^ d + m).testBit i) = (List.range d).filter (fun i => m.testBit i) := List.filter_congr fun i hi => Nat.testBit_two_pow_add_gt (List.mem_range.mp hi) m
  rw [e, e2]
  rfl
/-- all groups, the empty one too, by their masks -/
def allG (d : Nat) : List (List Int) := (List.range (2 ^ d)).map (maskG d)
theorem allG_succ (d : Nat) : allG (d + 1) = allG d ++ (allG d).map (· ++ [(d : Int)]) := by
  unfold allG
  rw [Nat.pow_succ, Nat.mul_two, List.range_add, List.map_append, List.map_map, List.map_map]
  congr 1
  · exact List.map_congr_left fun m hm => maskG_low (List.mem_range.mp hm)
  · exact List.map_congr_left fun m hm => maskG_high (List.mem_range.mp hm)
theorem allG_len (d : Nat) : (allG d).length = 2 ^ d := by
  unfold allG
  rw [List.length_map, List.length_range]
theorem maskG_nodup (n m : Nat) : (maskG n m).Nodup := by
  unfold maskG
  exact List.Pairwise.map _ (fun a b h e => h (Int.ofNat.inj e)) (List.nodup_range.filter _)
theorem maskG_len (n m : Nat) : (maskG n m).length ≤ n := by
  unfold maskG
  rw [List.length_map]
  exact Nat.le_trans (List.length_filter_le _ _) (by rw [List.length_range]; exact Nat.le_refl _)
theorem maskG_eq {n a b : Nat} (h : ∀ i, i ∈ maskG n a ↔ i ∈ maskG n b) : maskG n a = maskG n b := by
  unfold maskG
  congr 1
  refine List.filter_congr fun j hj => ?_
  have hj := List.mem_range.mp hj
  have := h (j : Int)
  rw [maskG_iff, maskG_iff] at this
  have e : ∀ m : Nat, (∃ k : Nat, (j : Int) = k ∧ k < n ∧ m.testBit k = true) ↔ m.testBit j = true := fun m => ⟨fun ⟨k, ek, _, e⟩ => by
    have : j = k := by omega
    rw [this]
    exact e, fun e => ⟨j, rfl, hj, e⟩⟩
  rw [e, e] at this
  exact Bool.eq_iff_iff.mpr this
theorem maskG_inj {n a b : Nat} (ha : a < 2 ^ n) (hb : b < 2 ^ n) (h : maskG n a = maskG n b) : a = b := by
  refine Nat.eq_of_testBit_eq fun j => ?_
  by_cases hj : j < n
  · have e : ∀ m : Nat, (j : Int) ∈ maskG n m ↔ m.testBit j = true := fun m => by
      rw [maskG_iff]
      exact ⟨fun ⟨k, ek, _, e⟩ => by
        have : j = k := by omega
        rw [this]
        exact e, fun e => ⟨j, rfl, hj, e⟩⟩
    have := e a
    rw [h, e b] at this
    exact Bool.eq_iff_iff.mpr this.symm
  · rw [Nat.testBit_lt_two_pow (Nat.lt_of_lt_of_le ha (Nat.pow_le_pow_right (by omega) (by omega))), Nat.testBit_lt_two_pow (Nat.lt_of_lt_of_le hb (Nat.pow_le_pow_right (by omega) (by omega)))]
theorem allG_nodup (n : Nat) : (allG n).Nodup := by
  unfold allG
  refine List.pairwise_map.mpr (List.Pairwise.imp_of_mem (fun {a b} ha hb ne e => ne (maskG_inj (List.mem_range.mp ha) (List.mem_range.mp hb) e)) List.nodup_range)
/-! #### rows in order -/
theorem rows_total (a b : List Int) : (decide (a ≤ b) || decide (b ≤ a)) = true := by
  rcases List.le_total a b with h | h <;> simp [h]
theorem rows_trans (a b c : List Int) (h : decide (a ≤ b) = true) (g : decide (b ≤ c) = true) : decide (a ≤ c) = true := by
  have h := of_decide_eq_true h
  have g := of_decide_eq_true g
  exact decide_eq_true (List.le_trans h g)
theorem rowsS_sorted (L : List (List Int)) : (rowsS L).Pairwise fun p q => p ≤ q := by
  have := List.pairwise_mergeSort (le := fun p q : List Int => decide (p ≤ q)) rows_trans rows_total L
  exact this.imp fun h => of_decide_eq_true h
theorem rowsS_perm (L : List (List Int)) : (rowsS L).Perm L := List.mergeSort_perm ..
/-- rows without duplicates are in order in one way alone -/
theorem rows_unique {a b : List (List Int)} (p : a.Perm b) (ha : a.Pairwise fun p q => p ≤ q) (hb : b.Pairwise fun p q => p ≤ q) : a = b :=
  p.eq_of_pairwise (fun x y _ _ h g => List.le_antisymm h g) ha hb
/-- the groups of n dials in ascending order -/
def gsL (n : Nat) : List (List Int) := (rowsS (allG n)).drop 1
theorem gs_cons (n : Nat) : rowsS (allG n) = [] :: gsL n := by
  have e0 : ([] : List Int) ∈ allG n := by
    unfold allG
    exact List.mem_map.mpr ⟨0, List.mem_range.mpr (Nat.two_pow_pos n), by unfold maskG; simp⟩
  have hm := (rowsS_perm (allG n)).mem_iff.mpr e0
  have hs := rowsS_sorted (allG n)
  unfold gsL
  cases h : rowsS (allG n) with
  | nil => rw [h] at hm; cases hm
  | cons x r =>
    rw [h] at hs hm
    have hx : x = [] := by
      rcases List.mem_cons.mp hm with z | z
      · exact z.symm
      · have := (List.pairwise_cons.mp hs).1 _ z
        exact List.le_antisymm this (List.nil_le _)
    rw [hx]
    rfl
theorem gs_nodup (n : Nat) : (gsL n).Nodup ∧ [] ∉ gsL n := by
  have := (rowsS_perm (allG n)).nodup_iff.mpr (allG_nodup n)
  rw [gs_cons] at this
  exact ⟨(List.nodup_cons.mp this).2, (List.nodup_cons.mp this).1⟩
theorem gs_sorted (n : Nat) : (gsL n).Pairwise fun p q => p ≤ q := (rowsS_sorted (allG n)).sublist (List.drop_sublist ..)
theorem gs_mem {n : Nat} {g : List Int} : g ∈ gsL n ↔ ∃ m, 0 < m ∧ m < 2 ^ n ∧ g = maskG n m := by
  have hm : ∀ x, x ∈ [] :: gsL n ↔ x ∈ allG n := fun x => by rw [← gs_cons]; exact (rowsS_perm _).mem_iff
  have h0 : maskG n 0 = [] := by unfold maskG; simp
  constructor
  · intro h
    have h1 := (hm g).mp (List.mem_cons_of_mem _ h)
    unfold allG at h1
    obtain ⟨m, hm1, rfl⟩ := List.mem_map.mp h1
    refine ⟨m, Nat.pos_of_ne_zero fun z => ?_, List.mem_range.mp hm1, rfl⟩
    rw [z, h0] at h
    exact (gs_nodup n).2 h
  · rintro ⟨m, m0, m1, rfl⟩
    have h1 : maskG n m ∈ allG n := by
      unfold allG
      exact List.mem_map.mpr ⟨m, List.mem_range.mpr m1, rfl⟩
    rcases List.mem_cons.mp ((hm _).mpr h1) with z | z
    · have := maskG_inj m1 (Nat.two_pow_pos n) (z.trans h0.symm)
      omega
    · exact z
theorem gs_len (n : Nat) : (gsL n).length + 1 = 2 ^ n := by
  have := (rowsS_perm (allG n)).length_eq
  rw [gs_cons, allG_len, List.length_cons] at this
  exact this
def groupsR : DR := fun xs Q => ∃ n : Nat, xs = [.dat (.int n)] ∧ n ≤ 8 ∧ Q (.list ((gsL n).map rowD))
/-! #### the greatest of some numbers, or 0, and those that have it -/
def mostF {α : Type} (f : α → Int) (L : List α) : Int := L.foldl (fun m x => if f x > m then f x else m) 0
def foundF {α : Type} (f : α → Int) (L : List α) : List α := if mostF f L > 0 then L.filter fun x => f x == mostF f L else []
theorem mostF_snoc {α : Type} (f : α → Int) (L : List α) (x : α) : mostF f (L ++ [x]) = if f x > mostF f L then f x else mostF f L := by
  unfold mostF
  rw [List.foldl_append]
  rfl
theorem foldl_ge {α : Type} (f : α → Int) : ∀ (L : List α) (m : Int), m ≤ L.foldl (fun m x => if f x > m then f x else m) m ∧ ∀ x ∈ L, f x ≤ L.foldl (fun m x => if f x > m then f x else m) m
  | [], m => ⟨Int.le_refl _, fun x h => nomatch h⟩
  | y :: L, m => by
    rw [List.foldl_cons]
    obtain ⟨h1, h2⟩ := foldl_ge f L (if f y > m then f y else m)
    have b1 : m ≤ (if f y > m then f y else m) := by split <;> omega
    have b2 : f y ≤ (if f y > m then f y else m) := by split <;> omega
    refine ⟨Int.le_trans b1 h1, fun x hx => ?_⟩
    rcases List.mem_cons.mp hx with z | hx
    · rw [z]
      exact Int.le_trans b2 h1
    · exact h2 x hx
theorem mostF_ge {α : Type} {f : α → Int} {L : List α} : 0 ≤ mostF f L ∧ ∀ x ∈ L, f x ≤ mostF f L := foldl_ge f L 0
theorem foldl_in {α : Type} (f : α → Int) : ∀ (L : List α) (m : Int), L.foldl (fun m x => if f x > m then f x else m) m = m ∨ ∃ x ∈ L, f x = L.foldl (fun m x => if f x > m then f x else m) m
  | [], m => .inl rfl
  | y :: L, m => by
    rw [List.foldl_cons]
    rcases foldl_in f L (if f y > m then f y else m) with h | ⟨x, hx, e⟩
    · by_cases z : f y > m
      · rw [if_pos z] at h ⊢
        exact .inr ⟨y, List.mem_cons_self .., h.symm⟩
      · rw [if_neg z] at h ⊢
        exact .inl h
    · exact .inr ⟨x, List.mem_cons_of_mem _ hx, e⟩
theorem mostF_in {α : Type} {f : α → Int} {L : List α} (h : mostF f L > 0) : ∃ x ∈ L, f x = mostF f L := by
  rcases foldl_in f L 0 with z | z
  · unfold mostF at h
    omega
  · exact z
theorem foundF_snoc {α : Type} (f : α → Int) (L : List α) (x : α) : foundF f (L ++ [x]) = if f x > mostF f L then [x] else if f x = mostF f L ∧ mostF f L > 0 then foundF f L ++ [x] else foundF f L := by
  have ge := mostF_ge (f := f) (L := L)
  unfold foundF
  rw [mostF_snoc]
  by_cases h : f x > mostF f L
  · rw [if_pos h, if_pos h, if_pos (by omega), List.filter_append]
    have e : L.filter (fun y => f y == f x) = [] := List.filter_eq_nil_iff.mpr fun y hy => by
      have := ge.2 y hy
      simp
      omega
    rw [e]
    simp
  · rw [if_neg h, if_neg h]
    by_cases h2 : mostF f L > 0
    · rw [if_pos h2, if_pos h2, List.filter_append]
      by_cases h3 : f x = mostF f L
      · rw [if_pos ⟨h3, h2⟩]
        have e : [x].filter (fun y => f y == mostF f L) = [x] := by simp [h3]
        rw [e]
      · rw [if_neg fun z => h3 z.1]
        have e : [x].filter (fun y => f y == mostF f L) = [] := by simp [h3]
        rw [e, List.append_nil]
    · rw [if_neg h2, if_neg h2, if_neg fun z => h2 z.2]
theorem foundF_mem {α : Type} {f : α → Int} {L : List α} {x : α} : x ∈ foundF f L ↔ mostF f L > 0 ∧ x ∈ L ∧ f x = mostF f L := by
  unfold foundF
  by_cases h : mostF f L > 0
  · rw [if_pos h, List.mem_filter, beq_iff_eq]
    exact ⟨fun z => ⟨h, z⟩, fun z => z.2⟩
  · rw [if_neg h]
    exact ⟨(fun z => nomatch z), fun z => absurd z.1 h⟩
theorem foundF_nil {α : Type} {f : α → Int} {L : List α} : foundF f L = [] ↔ mostF f L = 0 := by
  constructor
  · intro h
    have g := (mostF_ge (f := f) (L := L)).1
    rcases Int.lt_or_eq_of_le g with z | z
    · obtain ⟨x, hx, e⟩ := mostF_in (f := f) (L := L) z
      have : x ∈ foundF f L := foundF_mem.mpr ⟨z, hx, e⟩
      rw [h] at this
      cases this
    · exact z.symm
  · intro h
    unfold foundF
    rw [if_neg (by omega)]
/-! #### steps -/
abbrev Stp := Int × List Int
def stpD (x : Stp) : PyData := .tuple [.int x.1, rowD x.2]
def stpsW (w : Int) (L : List (List Int)) : List Stp := L.map fun g => (w, g)
def allS (n : Nat) : List Stp := stpsW 1 (gsL n) ++ stpsW (-1) (gsL n)
/-- the gain, -1 where the step is not possible -/
def profV (ts : List Tm) (ss : List Int) (x : Stp) : Int := if isNone (leftV ts (stepV ss x.2 x.1)) = true then (costs ts ss).sum - (costs ts (stepV ss x.2 x.1)).sum else -1
def mostV (ts : List Tm) (ss : List Int) : Int := mostF (profV ts ss) (allS ss.length)
def bestV (ts : List Tm) (ss : List Int) : List Stp := foundF (profV ts ss) (allS ss.length)
theorem allS_mem {n : Nat} {x : Stp} : x ∈ allS n ↔ (x.1 = 1 ∨ x.1 = -1) ∧ x.2 ∈ gsL n := by
  unfold allS stpsW
  rw [List.mem_append, List.mem_map, List.mem_map]
  constructor
  · rintro (⟨g, hg, rfl⟩ | ⟨g, hg, rfl⟩)
    · exact ⟨.inl rfl, hg⟩
    · exact ⟨.inr rfl, hg⟩
  · rintro ⟨e | e, hg⟩
    · exact .inl ⟨x.2, hg, by rw [← e]⟩
    · exact .inr ⟨x.2, hg, by rw [← e]⟩
def lawBestR : DR := fun xs Q => ∃ (ts : List Tm) (ss : List Int), xs = [.dat (.list (ts.map Tm.py)), .dat (.tuple (ss.map .int))] ∧ Fine ts ss ∧ (∀ x ∈ ss, -(10 ^ 50) < x ∧ x < 10 ^ 50) ∧ ss.length ≤ 8 ∧ isNone (leftV ts ss) = true ∧ Q (.tuple [.int (mostV ts ss), .list ((bestV ts ss).map stpD)])
/-! #### the losses of masks are the gains of groups -/
theorem lossM_prof {ts : List Tm} {ss : List Int} {w : Int} {m : Nat} (h : isNone (leftV ts (stepV ss (maskG ss.length m) w)) = true) : lossM ts ss w m = - profV ts ss (w, maskG ss.length m) := by
  unfold lossM profV
  rw [lossV_left h]
  dsimp only
  rw [if_pos h]
  omega
theorem lossM_zero {ts : List Tm} {ss : List Int} {w : Int} (al : isNone (leftV ts ss) = true) : lossM ts ss w 0 = 0 := by
  have e : stepV ss (maskG ss.length 0) w = ss := by
    have : maskG ss.length 0 = [] := by unfold maskG; simp
    rw [this]
    unfold stepV
    refine List.ext_getElem? fun i => ?_
    rw [List.getElem?_mapIdx]
    cases ss[i]? with
    | none => rfl
    | some x => rw [Option.map_some, if_neg (fun z => nomatch z)]
  unfold lossM
  rw [e, lossV_left al]
  omega
theorem up_mem {ts : List Tm} {ss : List Int} (S : Stand ts ss) {c : Int} : c ∈ upL ts ss ↔ ∃ m, m < 2 ^ ss.length ∧ lossM ts ss 1 m = c := by
  constructor
  · intro h
    obtain ⟨m, hm⟩ := List.getElem?_of_mem h
    have hl : m < 2 ^ ss.length := by
      have := (List.getElem?_eq_some_iff.mp hm).1
      unfold upL at this
      rw [lossesL_len] at this
      exact this
    rw [up_get hl S.good S.al] at hm
    exact ⟨m, hl, Option.some.inj hm⟩
  · rintro ⟨m, hl, e⟩
    have := up_get hl S.good S.al
    rw [e] at this
    exact List.mem_of_getElem? this
theorem down_mem {ts : List Tm} {ss : List Int} (S : Stand ts ss) {c : Int} : c ∈ downL ts ss ↔ ∃ m, m < 2 ^ ss.length ∧ lossM ts ss (-1) m = c := by
  constructor
  · intro h
    obtain ⟨m, hm⟩ := List.getElem?_of_mem h
    have hl : m < 2 ^ ss.length := by
      have := (List.getElem?_eq_some_iff.mp hm).1
      unfold downL at this
      rw [lossesL_len] at this
      exact this
    rw [down_get hl S.good S.al] at hm
    exact ⟨m, hl, Option.some.inj hm⟩
  · rintro ⟨m, hl, e⟩
    have := down_get hl S.good S.al
    rw [e] at this
    exact List.mem_of_getElem? this
theorem ups_mem {ts : List Tm} {ss : List Int} (S : Stand ts ss) {c : Int} {m : Nat} : m ∈ ups ts ss c ↔ m < 2 ^ ss.length ∧ lossM ts ss 1 m = c := by
  unfold ups
  rw [masks_mem]
  constructor
  · intro h
    have hl : m < 2 ^ ss.length := by
      have := (List.getElem?_eq_some_iff.mp h).1
      unfold upL at this
      rw [lossesL_len] at this
      exact this
    rw [up_get hl S.good S.al] at h
    exact ⟨hl, Option.some.inj h⟩
  · rintro ⟨hl, e⟩
    rw [up_get hl S.good S.al, e]
theorem downs_mem {ts : List Tm} {ss : List Int} (S : Stand ts ss) {c : Int} {m : Nat} : m ∈ downs2 ts ss c ↔ m < 2 ^ ss.length ∧ lossM ts ss (-1) m = c := by
  unfold downs2
  rw [masks_mem]
  constructor
  · intro h
    have hl : m < 2 ^ ss.length := by
      have := (List.getElem?_eq_some_iff.mp h).1
      unfold downL at this
      rw [lossesL_len] at this
      exact this
    rw [down_get hl S.good S.al] at h
    exact ⟨hl, Option.some.inj h⟩
  · rintro ⟨hl, e⟩
    rw [down_get hl S.good S.al, e]
theorem least_le {ts : List Tm} {ss : List Int} {c : Int} (S : Stand ts ss) (h : LeastL ts ss c) {w : Int} (hw : w = 1 ∨ w = -1) {m : Nat} (hm : m < 2 ^ ss.length) : c ≤ lossM ts ss w m := by
  rcases hw with rfl | rfl
  · exact h.2.1 _ ((up_mem S).mpr ⟨m, hm, rfl⟩)
  · exact h.2.2 _ ((down_mem S).mpr ⟨m, hm, rfl⟩)
theorem least_in {ts : List Tm} {ss : List Int} {c : Int} (S : Stand ts ss) (h : LeastL ts ss c) : ∃ w m, (w = 1 ∨ w = -1) ∧ m < 2 ^ ss.length ∧ lossM ts ss w m = c := by
  rcases h.1 with h | h
  · obtain ⟨m, hm, e⟩ := (up_mem S).mp h
    exact ⟨1, m, .inl rfl, hm, e⟩
  · obtain ⟨m, hm, e⟩ := (down_mem S).mp h
    exact ⟨-1, m, .inr rfl, hm, e⟩
/-- a mask of a loss below 0 is a possible step, and a group -/
theorem loss_step {ts : List Tm} {ss : List Int} {w c : Int} {m : Nat} (S : Stand ts ss) (hw : w = 1 ∨ w = -1) (hm : m < 2 ^ ss.length) (e : lossM ts ss w m = c) (hc : c < 0) :
    maskG ss.length m ∈ gsL ss.length ∧ isNone (leftV ts (stepV ss (maskG ss.length m) w)) = true ∧ profV ts ss (w, maskG ss.length m) = -c := by
  have l : isNone (leftV ts (stepV ss (maskG ss.length m) w)) = true := by
    cases h : isNone (leftV ts (stepV ss (maskG ss.length m) w)) with
    | true => rfl
    | false =>
      have := lossV_gone S.fine hw h
      unfold lossM at e
      omega
  refine ⟨gs_mem.mpr ⟨m, Nat.pos_of_ne_zero fun z => ?_, hm, rfl⟩, l, ?_⟩
  · rw [z, lossM_zero S.al] at e
    omega
  · have := lossM_prof (w := w) l
    omega
theorem prof_loss {ts : List Tm} {ss : List Int} {x : Stp} (S : Stand ts ss) (hx : x ∈ allS ss.length) (h : profV ts ss x > 0) : ∃ m, m < 2 ^ ss.length ∧ x.2 = maskG ss.length m ∧ lossM ts ss x.1 m = - profV ts ss x := by
  obtain ⟨hw, hg⟩ := allS_mem.mp hx
  obtain ⟨m, m0, m1, eg⟩ := gs_mem.mp hg
  refine ⟨m, m1, eg, ?_⟩
  have l : isNone (leftV ts (stepV ss x.2 x.1)) = true := by
    cases q : isNone (leftV ts (stepV ss x.2 x.1)) with
    | true => rfl
    | false =>
      unfold profV at h
      rw [q, if_neg Bool.false_ne_true] at h
      omega
  rw [eg] at l
  have := lossM_prof (w := x.1) l
  rw [this, ← eg]
theorem least_most {ts : List Tm} {ss : List Int} {c : Int} (S : Stand ts ss) (h : LeastL ts ss c) : c = - mostV ts ss := by
  have c0 : c ≤ 0 := by
    have := least_le S h (.inl rfl) (Nat.two_pow_pos ss.length)
    rw [lossM_zero S.al] at this
    exact this
  have ge := mostF_ge (f := profV ts ss) (L := allS ss.length)
  have h1 : c ≤ - mostV ts ss := by
    rcases Int.lt_or_eq_of_le ge.1 with z | z
    · obtain ⟨x, hx, e⟩ := mostF_in (f := profV ts ss) (L := allS ss.length) z
      obtain ⟨m, hm, eg, el⟩ := prof_loss S hx (by omega)
      have := least_le S h (allS_mem.mp hx).1 hm
      unfold mostV
      omega
    · unfold mostV
      omega
  have h2 : - mostV ts ss ≤ c := by
    rcases Int.lt_or_eq_of_le c0 with z | z
    · obtain ⟨w, m, hw, hm, e⟩ := least_in S h
      obtain ⟨hg, _, ep⟩ := loss_step S hw hm e z
      have := ge.2 (w, maskG ss.length m) (allS_mem.mpr ⟨hw, hg⟩)
      unfold mostV
      omega
    · have := ge.1
      unfold mostV
      omega
  omega
/-- the groups of the best steps of a way -/
def wayG (ts : List Tm) (ss : List Int) (w : Int) : List (List Int) := (gsL ss.length).filter fun g => profV ts ss (w, g) == mostV ts ss
theorem best_ways {ts : List Tm} {ss : List Int} (h : mostV ts ss > 0) : bestV ts ss = stpsW 1 (wayG ts ss 1) ++ stpsW (-1) (wayG ts ss (-1)) := by
  unfold bestV foundF
  rw [if_pos (show mostF (profV ts ss) (allS ss.length) > 0 from h)]
  unfold allS stpsW wayG
  rw [List.filter_append, List.filter_map, List.filter_map]
  rfl
theorem way_mem {ts : List Tm} {ss : List Int} {c w : Int} (S : Stand ts ss) (h : LeastL ts ss c) (hc : c < 0) (hw : w = 1 ∨ w = -1) {g : List Int} : g ∈ wayG ts ss w ↔ ∃ m, (m < 2 ^ ss.length ∧ lossM ts ss w m = c) ∧ g = maskG ss.length m := by
  have em := least_most S h
  unfold wayG
  rw [List.mem_filter, beq_iff_eq]
  constructor
  · rintro ⟨hg, e⟩
    obtain ⟨m, hm, eg, el⟩ := prof_loss (x := (w, g)) S (allS_mem.mpr ⟨hw, hg⟩) (by omega)
    exact ⟨m, ⟨hm, by rw [el, e]; omega⟩, eg⟩
  · rintro ⟨m, ⟨hm, el⟩, rfl⟩
    obtain ⟨hg, _, ep⟩ := loss_step S hw hm el hc
    exact ⟨hg, by omega⟩
end DL
/-! ### x, y, z = ..; the smallest best group; the step of a beat -/
namespace DL
open PySem PySem.Spec L2 PyProof.Rows
section
variable {X : Cx} {B : Gr} {a b e : Expr} {te : TE} {pos : Pos}
/-- x, y, z = data, data, a new list -/
def sPar3N (i j k : Nat) (d d2 : TDE) (t : TDL) : TDS := fun DD ds => d ds fun x => d2 ds fun y => t ds fun l => DD.nx (((ds.set i (some (.dat x))).set j (some (.dat y))).set k (some (.grow l)))
theorem ds_par3N {i j k : Nat} {x y z : Str} {te2 te3 : TE} {d d2 : TDE} {t : TDL} {px py pz pt : Pos} {kt k2 pt2} (hc : X.calm = true) (hN : X.N.Nodup) (hi : X.N[i]? = some x) (hj : X.N[j]? = some y) (hk : X.N[k]? = some z) (hij : i ≠ j) (hik : i ≠ k) (hjk : j ≠ k)
    (hx : X.env.scope.names.lookup x = some .local) (hy : X.env.scope.names.lookup y = some .local) (hz : X.env.scope.names.lookup z = some .local) (ha : PD X B a te d) (hb : PD X B b te2 d2) (he : PDF X B e te3 t)
    (hw : swappedStores [.Tuple [.Name x px, .Name y py, .Name z pz] kt pt] (.Tuple [a, b, e] k2 pt2) X.env = pure (some [x, y, z]))
    (hs : swapsWithSole [.Tuple [.Name x px, .Name y py, .Name z pz] kt pt] (.Tuple [a, b, e] k2 pt2) pos.line X.env = pure false := by rfl)
    (h1 : starEach [a, b, e] X.env = (false, eval a X.env) :: starEach [b, e] X.env := by rfl) (h2 : starEach [b, e] X.env = (false, eval b X.env) :: starEach [e] X.env := by rfl) (h3 : starEach [e] X.env = (false, eval e X.env) :: starEach [] X.env := by rfl) :
    PDS X B (.Assign [.Tuple [.Name x px, .Name y py, .Name z pz] kt pt] (.Tuple [a, b, e] k2 pt2) pos) (tPar3 i j k (tCons te (tCons te2 (tCons te3 tNil)))) (sPar3N i j k d d2 t) :=
  ⟨ps_par3 hc hN hi hj hk hij hik hjk hx hy hz (pa_cons ha.pe (pa_cons hb.pe (pa_cons he.pe pa_nil h3) h2) h1) hw hs, fun M σ H ds DD D en o q c =>
    ha.se M σ H ds _ _ en.g o.at_ q fun v H1 x g1 k1 hx q1 => hb.se M σ H1 ds _ _ g1 (o.at_.keep en.g.1 k1) q1 fun v2 H2 y g2 k2 hy q2 => he.sf M σ H2 ds _ _ g2 (o.at_.keep en.g.1 (k1.trans k2)) q2 fun p xs l H3 g3 k3 hp hl q3 => by
      have kk := (k1.trans k2).trans k3
      have o3 := o.expr en.g.1 kk
      exact ⟨_, _, _, rfl, (c.nx.stay (kk.stay en.g.1)).new (σ := (σ.set i (some v)).set j (some v2)) (en.expr g3 kk) (o3.sub (EnvAt.set (.dat (hy.keep en.g.1 k3)) j (EnvAt.set (.dat ((hx.keep en.g.1 k2).keep en.g.1 k3)) i o3.at_)) (Sub.trans Sub.set Sub.set)) hp hl q3⟩⟩
end
/-! #### groups by their lengths -/
theorem maskG_sub {n a b : Nat} (h : ∀ i, i ∈ maskG n a → i ∈ maskG n b) : (maskG n a).length ≤ (maskG n b).length ∧ ((maskG n a).length = (maskG n b).length → maskG n a = maskG n b) := by
  have hb : ∀ j, j < n → a.testBit j = true → b.testBit j = true := fun j hj e => by
    have := h (j : Int) (maskG_iff.mpr ⟨j, rfl, hj, e⟩)
    obtain ⟨k, ek, _, e2⟩ := maskG_iff.mp this
    have : j = k := by omega
    rw [this]
    exact e2
  have ef : (List.range n).filter (fun i => a.testBit i) = ((List.range n).filter fun i => b.testBit i).filter fun i => a.testBit i := by
    rw [List.filter_filter]
    refine List.filter_congr fun j hj => ?_
    cases e : a.testBit j with
    | false => rfl
    | true => rw [hb j (List.mem_range.mp hj) e]; rfl
  unfold maskG
  rw [List.length_map, List.length_map, ef]
  refine ⟨List.length_filter_le _ _, fun z => ?_⟩
  rw [List.filter_eq_self.mpr (List.length_filter_eq_length_iff.mp z)]
theorem filter_one {α : Type} [DecidableEq α] {p : α → Bool} {x : α} : ∀ {l : List α}, l.Nodup → x ∈ l → (∀ y ∈ l, p y = true ↔ y = x) → l.filter p = [x]
  | [], _, h, _ => nomatch h
  | y :: l, nd, h, hp => by
    have nd := List.nodup_cons.mp nd
    by_cases z : y = x
    · subst z
      rw [List.filter_cons, if_pos ((hp y (List.mem_cons_self ..)).mpr rfl)]
      have : l.filter p = [] := List.filter_eq_nil_iff.mpr fun w hw e => nd.1 (by rw [← (hp w (List.mem_cons_of_mem _ hw)).mp e]; exact hw)
      rw [this]
    · have hx : x ∈ l := (List.mem_cons.mp h).resolve_left fun e => z e.symm
      rw [List.filter_cons, if_neg fun e => z ((hp y (List.mem_cons_self ..)).mp e)]
      exact filter_one nd.2 hx fun w hw => hp w (List.mem_cons_of_mem _ hw)
/-- the masks of the best steps of a way -/
def wayM (ts : List Tm) (ss : List Int) (c w : Int) : List Nat := if w = 1 then ups ts ss c else downs2 ts ss c
theorem wayM_mem {ts : List Tm} {ss : List Int} (S : Stand ts ss) {c w : Int} (hw : w = 1 ∨ w = -1) {m : Nat} : m ∈ wayM ts ss c w ↔ m < 2 ^ ss.length ∧ lossM ts ss w m = c := by
  unfold wayM
  rcases hw with rfl | rfl
  · rw [if_pos rfl]
    exact ups_mem S
  · rw [if_neg (by decide)]
    exact downs_mem S
structure Small (ts : List Tm) (ss : List Int) (w : Int) (g : List Int) : Prop where
  mem : g ∈ wayG ts ss w
  part : ∀ x ∈ wayG ts ss w, ∀ i ∈ g, i ∈ x
  le : ∀ x ∈ wayG ts ss w, g.length ≤ x.length
  one : (wayG ts ss w).filter (fun x => x.length == g.length) = [g]
theorem small_common {ts : List Tm} {ss : List Int} {c w : Int} (S : Stand ts ss) (h : LeastL ts ss c) (hc : c < 0) (hw : w = 1 ∨ w = -1) (ne : wayM ts ss c w ≠ []) : Small ts ss w (maskG ss.length (common (wayM ts ss c w))) := by
  have bb : Best ts ss w c := ⟨S.fine, hw, hc, fun m hm => least_le S h hw hm⟩
  obtain ⟨h1, h2⟩ := bb.common ne fun k hk => (wayM_mem S hw).mp hk
  have hg : maskG ss.length (common (wayM ts ss c w)) ∈ wayG ts ss w := (way_mem S h hc hw).mpr ⟨_, h1, rfl⟩
  have hp : ∀ x ∈ wayG ts ss w, ∃ m, x = maskG ss.length m ∧ ∀ i, i ∈ maskG ss.length (common (wayM ts ss c w)) → i ∈ maskG ss.length m := fun x hx => by
    obtain ⟨m, hm, e⟩ := (way_mem S h hc hw).mp hx
    exact ⟨m, e, h2 m ((wayM_mem S hw).mpr hm)⟩
  refine ⟨hg, fun x hx i hi => ?_, fun x hx => ?_, filter_one ((gs_nodup _).1.filter _) hg fun x hx => ?_⟩
  · obtain ⟨m, e, k⟩ := hp x hx
    rw [e]
    exact k i hi
  · obtain ⟨m, e, k⟩ := hp x hx
    rw [e]
    exact (maskG_sub k).1
  · obtain ⟨m, e, k⟩ := hp x hx
    rw [beq_iff_eq]
    refine ⟨fun z => ?_, fun z => by rw [z]⟩
    rw [e] at z ⊢
    exact ((maskG_sub k).2 z.symm).symm
/-- a way without best steps -/
theorem way_nil {ts : List Tm} {ss : List Int} {c w : Int} (S : Stand ts ss) (h : LeastL ts ss c) (hc : c < 0) (hw : w = 1 ∨ w = -1) : wayM ts ss c w = [] ↔ wayG ts ss w = [] := by
  constructor
  · intro e
    refine List.eq_nil_iff_forall_not_mem.mpr fun x hx => ?_
    obtain ⟨m, hm, _⟩ := (way_mem S h hc hw).mp hx
    have := (wayM_mem S hw).mpr hm
    rw [e] at this
    cases this
  · intro e
    refine List.eq_nil_iff_forall_not_mem.mpr fun m hm => ?_
    have : maskG ss.length m ∈ wayG ts ss w := (way_mem S h hc hw).mpr ⟨m, (wayM_mem S hw).mp hm, rfl⟩
    rw [e] at this
    cases this
/-- what the law says is due -/
def dueV (ts : List Tm) (ss : List Int) (d : PyData) : Prop := (mostV ts ss = 0 ∧ d = .none) ∨ ∃ w g, (w = 1 ∨ w = -1) ∧ mostV ts ss > 0 ∧ (w = -1 → wayG ts ss 1 = []) ∧ Small ts ss w g ∧ d = .tuple [.int w, rowD g, .int (mostV ts ss)]
theorem due_step {ts : List Tm} {ss : List Int} {c : Int} (S : Stand ts ss) (h : LeastL ts ss c) : dueV ts ss (if c = 0 then .none else stepD ts ss c) := by
  have em := least_most S h
  have ge : 0 ≤ mostV ts ss := (mostF_ge (f := profV ts ss) (L := allS ss.length)).1
  by_cases z : c = 0
  · rw [if_pos z]
    exact .inl ⟨by omega, rfl⟩
  · rw [if_neg z]
    have hc : c < 0 := by omega
    unfold stepD
    have e2 : -c = mostV ts ss := by omega
    by_cases u : ups ts ss c = []
    · rw [if_pos u, e2]
      have ne : wayM ts ss c (-1) ≠ [] := by
        unfold wayM
        rw [if_neg (by decide)]
        exact fun y => (least_some h).elim (fun q => q u) (fun q => q y)
      refine .inr ⟨-1, _, .inr rfl, by omega, fun _ => (way_nil S h hc (.inl rfl)).mp (by unfold wayM; rw [if_pos rfl]; exact u), ?_, rfl⟩
      have := small_common S h hc (.inr rfl) ne
      unfold wayM at this
      rw [if_neg (by decide)] at this
      exact this
    · rw [if_neg u, e2]
      have ne : wayM ts ss c 1 ≠ [] := by
        unfold wayM
        rw [if_pos rfl]
        exact u
      refine .inr ⟨1, _, .inl rfl, by omega, (fun y => by cases y), ?_, rfl⟩
      have := small_common S h hc (.inl rfl) ne
      unfold wayM at this
      rw [if_pos rfl] at this
      exact this
/-- there is but one -/
theorem due_one {ts : List Tm} {ss : List Int} {d e : PyData} (h : dueV ts ss d) (k : dueV ts ss e) : d = e := by
  rcases h with ⟨m, rfl⟩ | ⟨w, g, hw, m, n, s, rfl⟩
  · rcases k with ⟨_, rfl⟩ | ⟨_, _, _, m2, _⟩
    · rfl
    · omega
  · rcases k with ⟨m2, _⟩ | ⟨w2, g2, hw2, m2, n2, s2, rfl⟩
    · omega
    · have ew : w = w2 := by
        rcases hw with rfl | rfl
        · rcases hw2 with rfl | rfl
          · rfl
          · have := s.mem
            rw [n2 rfl] at this
            cases this
        · rcases hw2 with rfl | rfl
          · have := s2.mem
            rw [n rfl] at this
            cases this
          · rfl
      subst ew
      have eg : g = g2 := by
        have l1 := s.le g2 s2.mem
        have l2 := s2.le g s.mem
        have : g2 ∈ (wayG ts ss w).filter fun x => x.length == g.length := List.mem_filter.mpr ⟨s2.mem, by rw [beq_iff_eq]; omega⟩
        rw [s.one] at this
        exact (List.mem_singleton.mp this).symm
      rw [eg]
/-- a best step's way: the way of the first of all -/
theorem best_head {ts : List Tm} {ss : List Int} (h : mostV ts ss > 0) : ∃ w r g, (w = 1 ∨ w = -1) ∧ bestV ts ss = (w, g) :: r ∧ (w = -1 → wayG ts ss 1 = []) ∧ g ∈ wayG ts ss w ∧
    ((bestV ts ss).filter fun x => x.1 == w) = stpsW w (wayG ts ss w) := by
  have e := best_ways h
  have f1 : ∀ w v L, (stpsW v L).filter (fun x : Stp => x.1 == w) = if v = w then stpsW v L else [] := fun w v L => by
    unfold stpsW
    by_cases z : v = w
    · rw [if_pos z]
      exact List.filter_eq_self.mpr fun x hx => by
        obtain ⟨g, _, rfl⟩ := List.mem_map.mp hx
        exact beq_iff_eq.mpr z
    · rw [if_neg z]
      exact List.filter_eq_nil_iff.mpr fun x hx => by
        obtain ⟨g, _, rfl⟩ := List.mem_map.mp hx
        exact fun y => z (beq_iff_eq.mp y)
  cases q : wayG ts ss 1 with
  | cons g r =>
    refine ⟨1, stpsW 1 r ++ stpsW (-1) (wayG ts ss (-1)), g, .inl rfl, by rw [e, q]; rfl, (fun y => by cases y), (by rw [q]; exact List.mem_cons_self ..), ?_⟩
    rw [e, List.filter_append, f1, f1, if_pos rfl, if_neg (by decide), List.append_nil]
  | nil =>
    have ne : bestV ts ss ≠ [] := fun z => by
      have := foundF_nil.mp z
      unfold mostV at h
      omega
    rw [q] at e
    cases q2 : wayG ts ss (-1) with
    | nil => rw [q2] at e; exact absurd e ne
    | cons g r =>
      refine ⟨-1, stpsW (-1) r, g, .inr rfl, by rw [e, q2]; rfl, fun _ => rfl, (by rw [q2]; exact List.mem_cons_self ..), ?_⟩
      rw [e, List.filter_append, f1, f1, if_neg (by decide), if_pos rfl, q2]
      rfl
theorem best_mem {ts : List Tm} {ss : List Int} {x : Stp} (h : x ∈ bestV ts ss) : (x.1 = 1 ∨ x.1 = -1) ∧ x.2 ∈ gsL ss.length ∧ isNone (leftV ts (stepV ss x.2 x.1)) = true ∧ mostV ts ss > 0 := by
  obtain ⟨m, hx, e⟩ := foundF_mem.mp h
  obtain ⟨hw, hg⟩ := allS_mem.mp hx
  refine ⟨hw, hg, ?_, m⟩
  cases q : isNone (leftV ts (stepV ss x.2 x.1)) with
  | true => rfl
  | false =>
    have e2 : profV ts ss x = -1 := by
      unfold profV
      rw [q, if_neg Bool.false_ne_true]
    rw [e2] at e
    have m : mostF (profV ts ss) (allS ss.length) > 0 := m
    omega
theorem gs_grp {n : Nat} (hn : n ≤ 8) {g : List Int} (h : g ∈ gsL n) : Grp g := by
  obtain ⟨m, _, _, rfl⟩ := gs_mem.mp h
  refine ⟨Nat.le_trans (maskG_len n m) hn, fun d hd => ?_⟩
  obtain ⟨j, rfl, hj, _⟩ := maskG_iff.mp hd
  omega
/-- what the next beat is, as far as it is needed here -/
def nextV (ts : List Tm) (ss : List Int) (d : PyData) : Prop := d = .none ∨ ∃ (w : Int) (g : List Int) (m : Int), (w = 1 ∨ w = -1) ∧ g ∈ gsL ss.length ∧ isNone (leftV ts (stepV ss g w)) = true ∧ d = .tuple [.int w, rowD g, .int m]
def lawNextR : DR := fun xs Q => ∃ (ts : List Tm) (ss : List Int), xs = [.dat (.list (ts.map Tm.py)), .dat (.tuple (ss.map .int))] ∧ Fine ts ss ∧ (∀ x ∈ ss, -(10 ^ 50) < x ∧ x < 10 ^ 50) ∧ ss.length ≤ 8 ∧ isNone (leftV ts ss) = true ∧ ∀ d, nextV ts ss d → Q d
def lawDueR : DR := fun xs Q => ∃ (ts : List Tm) (ss : List Int), xs = [.dat (.list (ts.map Tm.py)), .dat (.tuple (ss.map .int))] ∧ Fine ts ss ∧ (∀ x ∈ ss, -(10 ^ 50) < x ∧ x < 10 ^ 50) ∧ Stand ts ss ∧ ∀ d, dueV ts ss d → Q d
/-! #### steps from a standing: how far they lead -/
/-- all settings within r -/
def Within (r : Int) (ss : List Int) : Prop := ∀ x ∈ ss, -r ≤ x ∧ x ≤ r
theorem stepV_within {ss g : List Int} {w r : Int} (h : Within r ss) (hw : w = 1 ∨ w = -1) : Within (r + 1) (stepV ss g w) := fun x hx => by
  unfold stepV at hx
  obtain ⟨i, hi, e⟩ := List.mem_mapIdx.mp hx
  have := h _ (List.getElem_mem hi)
  rcases hw with rfl | rfl <;> (rw [← e]; split <;> omega)
structure Walk (ts : List Tm) (n : Nat) (r : Int) (ss : List Int) : Prop where
  len : ss.length = n
  within : Within r ss
  al : isNone (leftV ts ss) = true
theorem Walk.step {ts : List Tm} {n : Nat} {r : Int} {ss g : List Int} {w : Int} (h : Walk ts n r ss) (hw : w = 1 ∨ w = -1) (al : isNone (leftV ts (stepV ss g w)) = true) : Walk ts n (r + 1) (stepV ss g w) :=
  ⟨by rw [stepV_len]; exact h.len, stepV_within h.within hw, al⟩
theorem Walk.mono {ts : List Tm} {n : Nat} {r r' : Int} {ss : List Int} (h : Walk ts n r ss) (hr : r ≤ r') : Walk ts n r' ss := ⟨h.len, fun x hx => by have := h.within x hx; omega, h.al⟩
theorem Walk.mid {ts : List Tm} {n : Nat} {r : Int} {ss : List Int} (h : Walk ts n r ss) (hr : r < 10 ^ 40) : ∀ x ∈ ss, -(10 ^ 50) < x ∧ x < 10 ^ 50 := fun x hx => by have := h.within x hx; omega
theorem Walk.fine {ts : List Tm} {n : Nat} {r : Int} {ss : List Int} (h : Walk ts n r ss) (hr : r < 10 ^ 40) (l : ts.length ≤ 24) (g : ∀ t ∈ ts, t.Fair n) : Fine ts ss := ⟨l, fun t ht => by rw [h.len]; exact g t ht, fun x hx => by have := h.within x hx; omega⟩
def wanderR : DR := fun xs Q => ∃ (ts : List Tm) (ss : List Int) (n : Nat) (r m : Int), xs = [.bag, .dat (.list (ts.map Tm.py)), .dat (.tuple (ss.map .int)), .dat (.int m)] ∧ ts.length ≤ 24 ∧ (∀ t ∈ ts, t.Fair n) ∧ 1 ≤ n ∧ n ≤ 8 ∧ Walk ts n r ss ∧ r < 10 ^ 39 ∧ 0 ≤ m ∧ m ≤ 100 ∧
  ∀ uu, Walk ts n (r + m) uu → Q (.tuple (uu.map .int))
def restR : DR := fun xs Q => ∃ (ts : List Tm) (ss : List Int) (n : Nat) (r m : Int), xs = [.dat (.list (ts.map Tm.py)), .dat (.tuple (ss.map .int)), .dat (.int m)] ∧ ts.length ≤ 24 ∧ (∀ t ∈ ts, t.Fair n) ∧ 1 ≤ n ∧ n ≤ 8 ∧ Walk ts n r ss ∧ r < 10 ^ 39 ∧ 0 ≤ m ∧ m ≤ 1000 ∧
  ∀ (uu : List Int) (k : Int), Walk ts n (r + m) uu → Q (.tuple [.tuple (uu.map .int), .int k])
theorem noInts_ints {l : List Int} : NoInts (.tuple (l.map .int)) := .tup fun d hd => by
  obtain ⟨i, _, rfl⟩ := List.mem_map.mp hd
  exact .int i
theorem noInts_py (t : Tm) : NoInts t.py := by
  cases t with
  | wish a b c d =>
    refine .tup fun d hd => ?_
    simp only [Tm.items, List.mem_cons, List.not_mem_nil, or_false] at hd
    rcases hd with rfl | rfl | rfl | rfl | rfl <;> first | exact .str _ | exact .int _
  | tie a b c d e =>
    refine .tup fun d hd => ?_
    simp only [Tm.items, List.mem_cons, List.not_mem_nil, or_false] at hd
    rcases hd with rfl | rfl | rfl | rfl | rfl | rfl <;> first | exact .str _ | exact .int _
  | stop a b c =>
    refine .tup fun d hd => ?_
    simp only [Tm.items, List.mem_cons, List.not_mem_nil, or_false] at hd
    rcases hd with rfl | rfl | rfl | rfl <;> first | exact .str _ | exact .int _
  | bar a b c d =>
    refine .tup fun d hd => ?_
    simp only [Tm.items, List.mem_cons, List.not_mem_nil, or_false] at hd
    rcases hd with rfl | rfl | rfl | rfl | rfl <;> first | exact .str _ | exact .int _
theorem noInts_brd {C : Addr} {n : Int} {ts : List Tm} : NoInts (brdD C n (ts.map Tm.py)) := .brd (fun i r e => by
  cases ts with
  | nil => cases e
  | cons t ts =>
    rw [List.map_cons] at e
    have := (List.cons.inj e).1
    cases t <;> cases this) fun d hd => by
  obtain ⟨t, _, rfl⟩ := List.mem_map.mp hd
  exact noInts_py t
end DL
/-! ### steps may be compared and shown -/
namespace DL
open PySem PySem.Spec L2 PyProof.Rows
theorem shpI {i : Int} (h0 : -1 ≤ i) (h1 : i ≤ 8) : Shp (.int i) 0 2 := by
  have k : i = -1 ∨ i = 0 ∨ i = 1 ∨ i = 2 ∨ i = 3 ∨ i = 4 ∨ i = 5 ∨ i = 6 ∨ i = 7 ∨ i = 8 := by omega
  rcases k with rfl | rfl | rfl | rfl | rfl | rfl | rfl | rfl | rfl | rfl <;> exact ⟨rfl, Nat.le_refl _, by decide +kernel, by decide +kernel⟩
theorem shpG {g : List Int} (h : Grp g) : Shp (rowD g) 1 35 := Shp.lst (dep := 0) (sz := 2) (n := 8) (fun x hx => by
  obtain ⟨i, hi, rfl⟩ := List.mem_map.mp hx
  have := h.mid i hi
  exact shpI (by omega) (by omega)) (by rw [List.length_map]; exact h.len)
theorem shpS {x : Stp} (hw : x.1 = 1 ∨ x.1 = -1) (h : Grp x.2) : Shp (stpD x) 2 77 := Shp.tup (dep := 1) (sz := 35) (n := 2) (fun y hy => by
  simp only [List.mem_cons, List.not_mem_nil, or_false] at hy
  rcases hy with rfl | rfl
  · exact (shpI (by omega) (by omega)).mono (by omega) (by omega)
  · exact shpG h) (Nat.le_refl _)
theorem okSteps {L : List Stp} (hl : L.length ≤ 512) (h : ∀ x ∈ L, (x.1 = 1 ∨ x.1 = -1) ∧ Grp x.2) : OkD (.list (L.map stpD)) := (Shp.lst (dep := 2) (sz := 77) (n := 512) (fun y hy => by
  obtain ⟨x, hx, rfl⟩ := List.mem_map.mp hy
  exact shpS (h x hx).1 (h x hx).2) (by rw [List.length_map]; exact hl)).ok (by decide) (by decide)
theorem best_len {ts : List Tm} {ss : List Int} (h8 : ss.length ≤ 8) : (bestV ts ss).length ≤ 512 := by
  have gl := gs_len ss.length
  have g256 : 2 ^ ss.length ≤ 2 ^ 8 := Nat.pow_le_pow_right (by omega) h8
  have a1 : (bestV ts ss).length ≤ (allS ss.length).length := by
    unfold bestV foundF
    split
    · exact List.length_filter_le _ _
    · exact Nat.zero_le _
  have a2 : (allS ss.length).length = (gsL ss.length).length + (gsL ss.length).length := by
    unfold allS stpsW
    rw [List.length_append, List.length_map, List.length_map]
  omega
theorem best_ok {ts : List Tm} {ss : List Int} (h8 : ss.length ≤ 8) : OkD (.list ((bestV ts ss).map stpD)) := okSteps (best_len h8) fun x hx => ⟨(best_mem hx).1, gs_grp h8 (best_mem hx).2.1⟩
theorem ok_nil : OkD (.list []) := (Shp.lst (dep := 0) (sz := 2) (n := 0) (l := []) (fun x hx => nomatch hx) (Nat.le_refl _)).ok (by decide) (by decide)
theorem eqv_nil {a : PyData} {l : List PyData} : PyData.eqv (.list (a :: l)) (.list []) = false := by
  simp [PyData.eqv, PyData.eqvAll]
/-- is this list empty? -/
theorem eq_nil {l : List PyData} {Q : PyData → Prop} (ok : OkD (.list l)) (h : Q (.bool l.isEmpty)) : rEqA (.list l) (.list []) Q := by
  refine ⟨ok.sh, ok_nil.sh, ?_⟩
  cases l with
  | nil =>
    rw [show PyData.eqv (.list []) (.list []) = true from eqv_rfl ok_nil]
    exact h
  | cons a l =>
    rw [eqv_nil]
    exact h
theorem most_mid {ts : List Tm} {ss : List Int} (fine : Fine ts ss) (mid : ∀ x ∈ ss, -(10 ^ 50) < x ∧ x < 10 ^ 50) : 0 ≤ mostV ts ss ∧ mostV ts ss ≤ 10 ^ 70 := by
  have ge := (mostF_ge (f := profV ts ss) (L := allS ss.length)).1
  refine ⟨ge, ?_⟩
  rcases Int.lt_or_eq_of_le ge with z | z
  · obtain ⟨x, hx, e⟩ := mostF_in (f := profV ts ss) (L := allS ss.length) z
    have c1 := fine.costs
    have c2 := (fine.step (gs := x.2) mid (allS_mem.mp hx).1).costs
    have e2 : profV ts ss x ≤ 10 ^ 70 := by
      unfold profV
      split <;> omega
    unfold mostV
    omega
  · unfold mostV
    omega
theorem dueV_ok {ts : List Tm} {ss : List Int} {d : PyData} (fine : Fine ts ss) (mid : ∀ x ∈ ss, -(10 ^ 50) < x ∧ x < 10 ^ 50) (h8 : ss.length ≤ 8) (h : dueV ts ss d) : OkD d := by
  rcases h with ⟨_, rfl⟩ | ⟨w, g, hw, _, _, s, rfl⟩
  · exact (show Shp .none 0 2000 from Leaf.shp ⟨rfl, rfl, by decide +kernel, by decide +kernel⟩).ok (by decide) (by decide)
  · have m := most_mid fine mid
    have hg := gs_grp h8 (List.mem_filter.mp s.mem).1
    refine (Shp.tup (dep := 1) (sz := 2000) (n := 3) (fun y hy => ?_) (Nat.le_refl _)).ok (by decide) (by decide)
    simp only [List.mem_cons, List.not_mem_nil, or_false] at hy
    rcases hy with rfl | rfl | rfl
    · exact (shpI (by omega) (by omega)).mono (by omega) (by omega)
    · exact (shpG hg).mono (by omega) (by omega)
    · exact (leafI ⟨by omega, by omega⟩).shp.mono (by omega) (by omega)
theorem way_mem_best {ts : List Tm} {ss : List Int} {w : Int} {g : List Int} (hm : mostV ts ss > 0) (hw : w = 1 ∨ w = -1) (h : g ∈ wayG ts ss w) : (w, g) ∈ bestV ts ss := by
  obtain ⟨h1, h2⟩ := List.mem_filter.mp h
  exact foundF_mem.mpr ⟨hm, allS_mem.mpr ⟨hw, h1⟩, beq_iff_eq.mp h2⟩
theorem way_len {ts : List Tm} {ss : List Int} {w : Int} (h8 : ss.length ≤ 8) : (wayG ts ss w).length ≤ 256 := by
  have gl := gs_len ss.length
  have g256 : 2 ^ ss.length ≤ 2 ^ 8 := Nat.pow_le_pow_right (by omega) h8
  unfold wayG
  exact Nat.le_trans (List.length_filter_le _ _) (by omega)
/-! #### tuples of a length and a row, in some order -/
def lenD (g : List Int) : PyData := .tuple [.int g.length, rowD g]
theorem lens_sort {L : List (List Int)} {Q : PyData → Prop} (hg : ∀ g ∈ L, Grp g) (q : ∀ L2 : List (List Int), L2.Perm L → Q (.list (L2.map lenD))) : cSorted [.list (L.map lenD)] Q := by
  have e : (L.map lenD).mergeSort (PySem.W.dataLe false id) = (L.mergeSort (PySem.W.dataLe false lenD)).map lenD :=
    (List.map_mergeSort (s := PySem.W.dataLe false id) (f := lenD) (r := PySem.W.dataLe false lenD) (l := L) fun a _ b _ => rfl).symm
  refine ⟨PySem.W.AllAlike.of fun a b => ?_, PySem.W.Sortable.tuples fun b => ⟨_, _, rfl⟩, ?_, fun d hd => ?_, by rw [e]; exact q _ (List.mergeSort_perm ..)⟩
  · unfold lenD rowD
    simp only [PySem.W.alike, PySem.W.alikeAll, PySem.W.alike_ints, Bool.and_self]
  · have : ∀ L : List (List Int), PyData.hasDictAll (L.map lenD) = false := fun L => by
      induction L with
      | nil => rfl
      | cons g L ih =>
        rw [List.map_cons]
        simp only [PyData.hasDictAll, Bool.or_eq_false_iff]
        refine ⟨?_, ih⟩
        unfold lenD rowD
        simp only [PyData.hasDict, PyData.hasDictAll, ints_nodict, Bool.or_false]
    exact this L
  · obtain ⟨g, _, rfl⟩ := List.mem_map.mp hd
    unfold lenD rowD
    simp only [PyData.depth, PyData.depthAll, PySem.W.depth_ints]
    omega
end DL
namespace DL
open PySem PySem.Spec L2 PyProof.Rows
/-- the smallest best group of a way that has one -/
theorem least_ex {ts : List Tm} {ss : List Int} (S : Stand ts ss) : LeastL ts ss (- mostV ts ss) := by
  have up0 : (0 : Int) ∈ upL ts ss := (up_mem S).mpr ⟨0, Nat.two_pow_pos _, lossM_zero S.al⟩
  have bound : ∀ w m, (w = 1 ∨ w = -1) → m < 2 ^ ss.length → - mostV ts ss ≤ lossM ts ss w m := fun w m hw hm => by
    have ge := mostF_ge (f := profV ts ss) (L := allS ss.length)
    rcases Int.lt_or_le (lossM ts ss w m) 0 with z | z
    · obtain ⟨hg, _, ep⟩ := loss_step S hw hm rfl z
      have := ge.2 (w, maskG ss.length m) (allS_mem.mpr ⟨hw, hg⟩)
      unfold mostV
      omega
    · have := ge.1
      unfold mostV
      omega
  refine ⟨?_, fun x hx => ?_, fun x hx => ?_⟩
  · have ge := mostF_ge (f := profV ts ss) (L := allS ss.length)
    rcases Int.lt_or_eq_of_le ge.1 with z | z
    · obtain ⟨x, hx, e⟩ := mostF_in (f := profV ts ss) (L := allS ss.length) z
      obtain ⟨m, hm, eg, el⟩ := prof_loss S hx (by omega)
      have e3 : lossM ts ss x.1 m = - mostV ts ss := by rw [el, e]; rfl
      rcases (allS_mem.mp hx).1 with w | w
      · rw [w] at e3
        exact .inl ((up_mem S).mpr ⟨m, hm, e3⟩)
      · rw [w] at e3
        exact .inr ((down_mem S).mpr ⟨m, hm, e3⟩)
    · have : - mostV ts ss = 0 := by unfold mostV; omega
      rw [this]
      exact .inl up0
  · obtain ⟨m, hm, rfl⟩ := (up_mem S).mp hx
    exact bound 1 m (.inl rfl) hm
  · obtain ⟨m, hm, rfl⟩ := (down_mem S).mp hx
    exact bound (-1) m (.inr rfl) hm
theorem small_way {ts : List Tm} {ss : List Int} {w : Int} {g : List Int} (S : Stand ts ss) (pos : mostV ts ss > 0) (hw : w = 1 ∨ w = -1) (hg : g ∈ wayG ts ss w) : ∃ g0, Small ts ss w g0 := by
  have h := least_ex S
  refine ⟨_, small_common S h (by omega) hw fun z => ?_⟩
  rw [(way_nil S h (by omega) hw).mp z] at hg
  cases hg
end DL
/-! ### for laws with drawn boards -/
namespace DL
open PySem PySem.Spec L2 PyProof.Rows
/-- an item of two, by a truth -/
theorem pick2 {a b : PyData} {P : PyData → Prop} {c : Bool} (ha : P a) (hb : P b) : ∃ d, atI [a, b] (if c then 1 else 0) = some d ∧ P d := by
  cases c with
  | true => exact ⟨b, rfl, hb⟩
  | false => exact ⟨a, rfl, ha⟩
theorem size2 {x : Int} {P : PyData → Prop} {c : Bool} (h : ∀ z : Int, 1 ≤ z → z ≤ 8 → P (.int z)) (h1 : 1 ≤ x) (h8 : x ≤ 8) : ∃ d, atI [PyData.int x, .int 8] (if c then 1 else 0) = some d ∧ P d := pick2 (h x h1 h8) (h 8 (by decide) (by decide))
theorem due_cases {ts : List Tm} {ss : List Int} {d : PyData} (h : dueV ts ss d) (h8 : ss.length ≤ 8) : d = .none ∨ ∃ (w z m : Int) (zs : List Int), zs.length ≤ 1000 ∧ d = .tuple [.int w, .list (.int z :: zs.map .int), .int m] := by
  rcases h with ⟨_, rfl⟩ | ⟨w, g, _, _, _, s, rfl⟩
  · exact .inl rfl
  · have hg := (List.mem_filter.mp s.mem).1
    obtain ⟨m, _, _, e⟩ := gs_mem.mp hg
    have l1 := maskG_len ss.length m
    cases g with
    | nil => exact absurd hg (gs_nodup _).2
    | cons z zs =>
      have l2 : (z :: zs).length ≤ ss.length := by rw [e]; exact l1
      rw [List.length_cons] at l2
      exact .inr ⟨w, z, mostV ts ss, zs, by omega, rfl⟩
theorem many2 {P : PyData → Prop} {c : Bool} (h : ∀ z : Int, 0 ≤ z → z ≤ 24 → P (.int z)) : ∃ d, atI [PyData.int 16, .int 24] (if c then 1 else 0) = some d ∧ P d := pick2 (h 16 (by decide) (by decide)) (h 24 (by decide) (by decide))
theorem walk_of {ts : List Tm} {ss : List Int} {mid : Int} (near : Near mid ss) (h : ∀ t ∈ ts, t.Good ss.length ∧ t.Holds ss) : Walk ts ss.length (10 ^ 30) ss := by
  obtain ⟨m0, m1, hb⟩ := near
  exact ⟨rfl, fun x hx => by have := hb x hx; omega, left_iff.mpr fun t ht => (h t ht).2.gone⟩
theorem Walk.stand {ts : List Tm} {n : Nat} {r : Int} {ss : List Int} (w : Walk ts n r ss) (hr : r < 10 ^ 40) (l : ts.length ≤ 24) (h8 : n ≤ 8) (g : ∀ t ∈ ts, t.Good n) : Stand ts ss :=
  ⟨w.fine hr l fun t ht => (g t ht).fair, by rw [w.len]; exact h8, fun t ht => by rw [w.len]; exact ⟨(g t ht).inn, (g t ht).dif⟩, w.al⟩
theorem due_nolist {ts : List Tm} {ss : List Int} {d : PyData} (h : dueV ts ss d) : ∀ l, d ≠ .list l := by
  rcases h with ⟨_, rfl⟩ | ⟨w, g, _, _, _, _, rfl⟩ <;> exact fun l e => nomatch e
end DL
/-! ### a def that returns a new list; such lists, and lists within them, changed -/
namespace DL
open PySem PySem.Spec L2 PyProof.Rows
def NewAt (H : Hp) : V → Prop := fun v => ∃ p, v = .ref p ∧ H p = none
/-- a def whose answer is a new object -/
def spN (R : DR) : Sp := fun vs H Q _ => ∃ (M : Addr → Prop) (B : Gr) (xs : List DV) (Qd : PyData → Prop), ArgsAt M B H vs xs ∧ Good M B H ∧ R xs Qd ∧ ∀ v H' d, Good M B H' → Keep M B.a H H' → Dt M H' v d → NewAt H v → Qd d → Q v H'
theorem FnG.plain {P : Program} {w : World} {K : PySem.W.Frag} {mg : Str → Option Value} {base : Heap} {k : Nat} {f : Addr} {fd : FuncData} {ps : List Str} {R : DR} (F : FnG P w K mg base k f fd ps (spN R)) : FnG P w K mg base k f fd ps (spD R) :=
  ⟨fun vs H Q E ⟨M, B, xs, Qd, a, g, r, c⟩ => F.len vs H Q E ⟨M, B, xs, Qd, a, g, r, fun v H' d g' k' hd _ q => c v H' d g' k' hd q⟩,
    fun A outer s H args us vs Q hg hr e b rv ⟨M, B, xs, Qd, a, g, r, c⟩ => F.run A outer s H args us vs Q hg hr e b rv ⟨M, B, xs, Qd, a, g, r, fun v H' d g' k' hd _ q => c v H' d g' k' hd q⟩⟩
theorem fn_DN {P : Program} {w : World} {K : PySem.W.Frag} {mg : Str → Option Value} {base : Heap} {k : Nat} {f : Addr} {fd : FuncData} {x qual : Str} {st : Stmt} {N ps : List Str} {R : DR} (F : Fun K x qual st f fd) (S : FnScope N ps (defScope st))
    (len : ∀ xs Q, R xs Q → xs.length = ps.length)
    (body : ∀ (cdv : Value) (A : Around) (outer : List Env) (s : Shared) (H : Hp) (B : Gr), B.nw = NewAt B.H0 → CxD k (cxOf CX0 P w K mg base N qual (defScope st) f cdv A outer s H E0).nox →
      ∃ ts t, PDSs (cxOf CX0 P w K mg base N qual (defScope st) f cdv A outer s H E0).nox B (defBody st) ts t ∧ ∀ xs Q, R xs Q → t { nx := fun _ => False, rt := Q, bk := fun _ => False, ct := fun _ => False } (dstart N xs)) :
    FnG P w K mg base (k + 1) f fd ps (spN R) := by
  refine fn_ofG F S (fun vs H Q E h => ?_) fun cdv A outer s H vs Q hG hr h => ?_
  · obtain ⟨M, B, xs, Qd, ha, _, hR, _⟩ := h
    rw [ha.length]
    exact len xs Qd hR
  · obtain ⟨M, B, xs, Qd, ha, g, hR, c⟩ := h
    obtain ⟨ts, t, hb, ht⟩ := body cdv A outer s H ⟨B.a, M, H, M, H, NewAt H⟩ rfl ⟨hr, hG⟩
    refine ⟨ts, hb.ps, hb.ss M _ H _ _ _ ⟨g.z.start⟩ ⟨ha.re.start N, fun i j x y v w a e _ _ _ f => absurd (ha.noMut _ i x e) f.mut⟩ (ht xs Qd hR)
      ⟨fun _ _ _ _ _ _ _ q => q.elim, fun v H' d g' k' h' nw q => c v H' d (g.expr g' k') k' h' nw q, fun _ _ _ _ _ _ _ q => q.elim, fun _ _ _ _ _ _ _ q => q.elim⟩⟩
section
variable {X : Cx} {B : Gr} {k : Nat} {f : Addr} {fd : FuncData} {ps : List Str} {R : DR} {x : Str} {p pos spos : Pos} {e a b : Expr} {es : List Expr} {t : TA} {d : TDA} {i : Nat} {te ta tb : TE} {da db : TDE}
/-- return of a new list -/
def sRetN (t : TDL) : TDS := fun DD ds => t ds fun l => DD.rt (.list l)
theorem ds_retN {t : TDL} (hn : B.nw = NewAt B.H0) (h : PDF X B e te t) : PDS X B (.Return (some e) pos) (tRet te) (sRetN t) := ⟨ps_ret h.pe, fun M σ H ds DD D en o q c =>
  h.sf M σ H ds _ _ en.g o.at_ q fun p xs l H1 g1 k1 hp hl q1 => by
    have g2 := g1.new (o := .lst xs) hp
    exact c.rt _ _ _ g2.back g2.d.keep ((Dt.newL g1 hp hl).map (Stay.less g2.d.sub)) (by rw [hn]; exact ⟨p, rfl, g1.fresh0 hp⟩) q1⟩
/-- a + b, lists -/
def fCat (a b : TDE) : TDL := fun ds Q => a ds fun x => b ds fun y => match x, y with
  | .list l, .list m => dSize (l.length + m.length) ∧ Q (l ++ m)
  | _, _ => False
theorem df_cat (ha : PD X B a ta da) (hb : PD X B b tb db) : PDF X B (.BinOp a .Add b pos) (tOp rCat ta tb) (fCat da db) :=
  ⟨pe_op op_cat ha.pe hb.pe, fun M σ H ds Q R g en hq c => ha.se M σ H ds _ _ g en hq fun x H1 dx g1 k1 hx q1 => hb.se M σ H1 ds _ _ g1 (en.keep g.1 k1) q1 fun y H2 dy g2 k2 hy q2 => by
    cases dx <;> cases dy <;> first | exact q2.elim | skip
    have hx2 := hx.keep g.1 k2
    cases hx2 with
    | lst n1 e1 a1 =>
      cases hy with
      | lst n2 e2 a2 => exact ⟨_, _, _, _, rfl, rfl, e1, e2, (by rw [a1.length, a2.length]; exact q2.1.le), fun p hp => c _ _ _ _ g2 (k1.trans k2) hp (a1.append a2) q2.2⟩⟩
/-- x = f(..), a new object -/
def sSetN (i : Nat) (R : DR) (t : TDA) : TDS := fun DD ds => t ds fun xs => AllDat xs ∧ R xs fun d => ∀ S, DD.nx (ds.set i (some (.loose S d)))
theorem FnG.imp {P : Program} {w : World} {K : PySem.W.Frag} {mg : Str → Option Value} {base : Heap} {k : Nat} {f : Addr} {fd : FuncData} {ps : List Str} {sp sp' : Sp} (F : FnG P w K mg base k f fd ps sp) (h : ∀ vs H Q E, sp' vs H Q E → sp vs H Q E) : FnG P w K mg base k f fd ps sp' :=
  ⟨fun vs H Q E z => F.len vs H Q E (h _ _ _ _ z), fun A outer s H args us vs Q hg hr e b r z => F.run A outer s H args us vs Q hg hr e b r (h _ _ _ _ z)⟩
theorem ds_setN {y : Str} {py : Pos} (hN : X.N.Nodup) (hi : X.N[i]? = some y) (hy : Loc X.env.scope y) (F : FnG X.prog X.w X.K X.mg X.base k f fd ps (spN R)) (hG : X.A.guards = some []) (hr : Room k X.A) (hb : Binds X.K fd ps []) (hm : X.mg x = some (.ref f)) (hk : PySem.W.keepIn X.K (.ref f) = true) (hg : Gl X x)
    (ha : PDA X B (e :: es) t d) (hdb : (x == ("__debug__" : Str)) = false := by decide) (he : starEach (e :: es) X.env = (false, eval e X.env) :: starEach es X.env := by rfl) (hpl : (backTo pos (starEach es X.env)).any (·.1) = false := by rfl)
    (hs : swapsWith (.Call (.Name x p) (e :: es) [] pos) (some (.Name y py)) spos.line X.env = pure false := by rfl) (hf : X.fn y = true ∨ X.env.scope.names.lookup y = some .local := by first | exact .inl rfl | exact .inr rfl | assumption) :
    PDS X B (.Assign [.Name y py] (.Call (.Name x p) (e :: es) [] pos) spos) (tAsg (fun σ H Q => t σ H fun vs H1 => spN R vs H1 Q E0) (gName i)) (sSetN i R d) :=
  ⟨ps_set hN hi hy (pe_callG F hG hr hb hg hm hk ha.pa hdb he hpl) hs hf, fun M σ H ds DD D en o q c => ha.sa M σ H ds _ _ en.g o.at_ q fun vs H1 xs g1 k1 a1 q1 => by
    refine ⟨callM M H1 vs, callB M B H1 vs, xs, _, fresh_args a1 q1.1, fresh_good g1, q1.2, fun v H' dd g' k' hd nw q2 => ?_⟩
    obtain ⟨g2, st, dv, fr⟩ := fresh_back g1 a1 q1.1 g' k' hd (.inr nw)
    exact (c.nx.stay (k1.stay en.g.1)) _ _ H' _ ⟨g2⟩ st ((o.expr en.g.1 k1).newO (fun _ => .inl) k'.any st dv fr) (q2 _)⟩
/-! #### for a, b in x: b.append(n); x.append(None) -/
/-- a list of tuples with a list of ints second -/
def pairsOk (l : List PyData) : Prop := l.length ≤ 1000 ∧ ∀ d ∈ l, ∃ (y : PyData) (z : Int) (zs : List PyData), d = .tuple [y, .list (.int z :: zs)] ∧ zs.length ≤ 1000
def sSpoil (i j k : Nat) : TDS := fun DD ds => match ds[i]? with
  | some (some (.loose _ (.list l))) => pairsOk l ∧ DD.nx (((ds.set i none).set j none).set k none)
  | _ => False
/-- what the loop finds at each item -/
def PairAt (H : Hp) (S : Addr → Prop) (q : Addr) (n : Nat) (x : V) : Prop := ∃ (t : Addr) (wv : V) (l : Addr) (ys : List V), x = .ref t ∧ H t = some (.tup [wv, .ref l]) ∧ S l ∧ l ≠ q ∧ H l = some (.lst ys) ∧ ys.length ≤ n
theorem pair_at {M : Addr → Prop} {H : Hp} {S : Addr → Prop} {q : Addr} {xs : List V} {l : List PyData} (ow : OwnIn H (.ref q) S) (eq : H q = some (.lst xs)) (a : DtA (minS M S) H xs l) (h : pairsOk l) : ∀ x ∈ xs, PairAt H S q 1001 x := fun x hx => by
  obtain ⟨n, hn⟩ := List.getElem?_of_mem hx
  obtain ⟨d, hd, r⟩ := a.getV n hn
  obtain ⟨y, z, zs, rfl, hz⟩ := h.2 d (List.mem_of_getElem? hd)
  cases r with
  | tup n1 e1 a1 =>
    cases a1 with
    | cons r1 a2 => cases a2 with
      | cons r2 a3 =>
        cases a3
        cases r2 with
        | @lst la ys _ n2 e2 a4 =>
          have hl := a4.length
          rw [List.length_cons] at hl
          have hd : intHd ys := by
            cases a4 with
            | cons h1 _ => cases h1; exact ⟨_, _, rfl⟩
          refine ⟨_, _, la, ys, rfl, e1, ow la ys (.lst eq hx (.tup e1 (List.mem_cons_of_mem _ (List.mem_singleton.mpr rfl)) (.self _))) e2 (.inl hd), fun w => ?_, e2, by omega⟩
          rw [w, eq] at e2
          cases e2
          obtain ⟨i0, r0, e0⟩ := hd
          rw [e0] at a
          cases l with
          | nil => cases a
          | cons d0 l =>
            cases a with
            | cons h0 _ =>
              obtain ⟨y1, z1, zs1, e3, _⟩ := h.2 d0 (List.mem_cons_self ..)
              rw [e3] at h0
              cases h0
theorem PairAt.upd {H : Hp} {S : Addr → Prop} {q : Addr} {n : Nat} {x : V} {l : Addr} {ys : List V} {v : V} (h : PairAt H S q n x) (e : H l = some (.lst ys)) (hl : ys.length ≤ n) : PairAt (upd H l (.lst (ys ++ [v]))) S q (n + 1) x := by
  obtain ⟨t, wv, m, zs, rfl, et, sm, mq, em, hm⟩ := h
  have tl : t ≠ l := fun w => by rw [w, e] at et; cases et
  by_cases z : m = l
  · subst z
    exact ⟨t, wv, m, _, rfl, by rw [upd_ne tl]; exact et, sm, mq, upd_same, by rw [List.length_append, List.length_singleton]; omega⟩
  · exact ⟨t, wv, m, zs, rfl, by rw [upd_ne tl]; exact et, sm, mq, by rw [upd_ne z]; exact em, by omega⟩
theorem none3 {ds : DEnv} {i j k n : Nat} {y : DV} (h : (((ds.set i none).set j none).set k none)[n]? = some (some y)) : n ≠ i ∧ n ≠ j ∧ n ≠ k ∧ ds[n]? = some (some y) := by
  have one : ∀ (ds : DEnv) (m : Nat), (ds.set m none)[n]? = some (some y) → n ≠ m ∧ ds[n]? = some (some y) := fun ds m h => by
    by_cases z : m = n
    · subst z
      by_cases hl : m < ds.length
      · rw [List.getElem?_set_self hl] at h
        cases h
      · rw [List.getElem?_eq_none (by rw [List.length_set]; omega)] at h
        cases h
    · rw [List.getElem?_set_ne z] at h
      exact ⟨fun w => z w.symm, h⟩
  obtain ⟨a1, h1⟩ := one _ _ h
  obtain ⟨a2, h2⟩ := one _ _ h1
  obtain ⟨a3, h3⟩ := one _ _ h2
  exact ⟨a3, a2, a1, h3⟩
theorem ds_spoil {sts : List Stmt} {K : PySem.W.Frag} {c9 : Int} (i j k : Nat) (ij : i ≠ j) (ik : i ≠ k) (jk : j ≠ k)
    (hp : PSs X sts (tSeq (tFor (iList X.K (tVar i)) (gTup X.K 2 (gCons (gName j) (gCons (gName k) gNil))) (tDrop (tBM X.K "list" rAppend (tVar k) (tCons (tC (.int c9)) tNil)))) (tDrop (tBM X.K "list" rAppend (tVar i) (tCons (tC .non) tNil))))) :
    PDSs X B sts (tSeq (tFor (iList X.K (tVar i)) (gTup X.K 2 (gCons (gName j) (gCons (gName k) gNil))) (tDrop (tBM X.K "list" rAppend (tVar k) (tCons (tC (.int c9)) tNil)))) (tDrop (tBM X.K "list" rAppend (tVar i) (tCons (tC .non) tNil)))) (fun DD ds => k < ds.length ∧ sSpoil i j k DD ds) :=
  ⟨hp, fun M σ H ds DD D en o q c => by
    obtain ⟨kl, q⟩ := q
    unfold sSpoil at q
    split at q
    · rename_i S l hl
      obtain ⟨pk, q⟩ := q
      obtain ⟨v, hv, r⟩ := o.at_.get i hl
      cases r with
      | loose hs h ow =>
        cases h with
        | @lst q0 xs _ n e a =>
          have sq : S q0 := ow q0 xs (.self _) e (.inr rfl)
          have sl : σ.length = ds.length := o.at_.length
          have nofp : ∀ (n : Nat) y u b, n ≠ i → ds[n]? = some (some y) → σ[n]? = some (some u) → S b → ¬ Fp u y b := fun n y u b ne hy hu sb f => ne (o.inj n i y _ u _ b hy hl hu hv f sb)
          have hs2 : sizeLine = 16777216 := sizeLine_eq
          have lx : xs.length ≤ 1000 := by rw [a.length]; exact pk.1
          refine ⟨_, hv, q0, rfl, ⟨xs, SqL.of e⟩, ?_⟩
          refine ⟨fun t m σ' H' => m = xs.length - t ∧ t ≤ xs.length ∧ Ent B M H' ∧ Stay M H M H' ∧ σ'.length = σ.length ∧ (∀ n, n ≠ j → n ≠ k → σ'[n]? = σ[n]?) ∧ EnvAt M B H' σ' (((ds.set i none).set j none).set k none) ∧ H' q0 = some (.lst xs) ∧ ∀ x ∈ xs, PairAt H' S q0 (1001 + t) x,
            ⟨_, rfl, Nat.zero_le _, en, Stay.refl, rfl, fun _ _ _ => rfl, EnvAt.of (by rw [List.length_set, List.length_set, List.length_set]; exact sl) fun n y hy => o.at_.get n (none3 hy).2.2.2, e, pair_at ow e a pk⟩, ?_⟩
          rintro t m σ' H' ⟨rfl, hle, en', st', len', same, env', eq', all'⟩
          by_cases hlt : t < xs.length
          · have hx := List.getElem?_eq_getElem hlt
            refine .inr ⟨⟨xs, _, SqL.of eq', hx⟩, fun σ2 H2 => t + 1 ≤ xs.length ∧ Ent B M H2 ∧ Stay M H M H2 ∧ σ2.length = σ.length ∧ (∀ n, n ≠ j → n ≠ k → σ2[n]? = σ[n]?) ∧ EnvAt M B H2 σ2 (((ds.set i none).set j none).set k none) ∧ H2 q0 = some (.lst xs) ∧ ∀ x ∈ xs, PairAt H2 S q0 (1001 + (t + 1)) x, fun σ2 H2 z => ⟨xs.length - (t + 1), by omega, rfl, z⟩, ?_⟩
            rintro x H3 ⟨rfl, hx2⟩
            have := hx2 xs (SqL.of eq')
            rw [hx] at this
            cases this
            obtain ⟨ta, wv, la, ys, ex, et, sla, nq, el, hy⟩ := all' _ (List.getElem_mem hlt)
            rw [ex]
            obtain ⟨ma, nb, h0, _⟩ := hs la sla
            refine ⟨ta, [wv, .ref la], rfl, SqT.of et, rfl, wv, [.ref la], rfl, .ref la, [], rfl, rfl, ?_⟩
            have kk : k < ((σ'.set j (some wv)).set k (some (.ref la))).length := by rw [List.length_set, List.length_set, len', sl]; exact kl
            refine ⟨.ref la, by rw [List.getElem?_set_self (by rw [List.length_set, len', sl]; exact kl)], .inl ⟨rfl, ys, SqL.of el⟩, la, ys, .int c9, rfl, rfl, el, by omega, ?_⟩
            refine ⟨hlt, ⟨en'.g.updD ma nb h0⟩, st'.trans (stay_updD ma), by rw [List.length_set, List.length_set]; exact len', fun n n1 n2 => ?_, ?_, by rw [upd_ne nq.symm]; exact eq', fun x hx => (all' x hx).upd el hy⟩
            · rw [List.getElem?_set_ne (fun w => n2 w.symm), List.getElem?_set_ne (fun w => n1 w.symm)]
              exact same n n1 n2
            · refine EnvAt.of (by rw [List.length_set, List.length_set, List.length_set, List.length_set, List.length_set, len', sl]) fun n y hy => ?_
              obtain ⟨n0, n1, n2, hy2⟩ := none3 hy
              obtain ⟨u, hu, ru⟩ := env'.get n hy
              refine ⟨u, by rw [List.getElem?_set_ne (fun w => n2 w.symm), List.getElem?_set_ne (fun w => n1 w.symm)]; exact hu, ru.updO ma nb ?_⟩
              rw [same n n1 n2] at hu
              exact nofp n y u la n0 hy2 hu sla
          · refine .inl ⟨⟨xs, SqL.of eq', by omega⟩, ?_⟩
            obtain ⟨mq, nbq, h0q, _⟩ := hs q0 sq
            refine ⟨.ref q0, by rw [same i ij ik]; exact hv, .inl ⟨rfl, xs, SqL.of eq'⟩, q0, xs, .non, rfl, rfl, eq', by omega, ?_⟩
            refine c.nx M σ' _ _ ⟨en'.g.updD mq nbq h0q⟩ (st'.trans (stay_updD mq)) ⟨EnvAt.of env'.length fun n y hy => ?_, fun n n' y y' u u' b h1 h2 h3 h4 f1 f2 => ?_⟩ q
            · obtain ⟨n0, n1, n2, hy2⟩ := none3 hy
              obtain ⟨u, hu, ru⟩ := env'.get n hy
              refine ⟨u, hu, ru.updO mq nbq ?_⟩
              rw [same n n1 n2] at hu
              exact nofp n y u q0 n0 hy2 hu sq
            · obtain ⟨_, a1, a2, b1⟩ := none3 h1
              obtain ⟨_, a3, a4, b2⟩ := none3 h2
              rw [same n a1 a2] at h3
              rw [same n' a3 a4] at h4
              exact o.inj n n' y y' u u' b b1 b2 h3 h4 f1 f2
    · exact q.elim⟩
end
end DL
/-! ### all best steps -/
namespace DL
open PySem PySem.Spec L2 PyProof.Rows
def bestsR (C : Addr) : DR := fun xs Q => ∃ (ts : List Tm) (ss : List Int), xs = [.dat (brdD C ss.length (ts.map Tm.py)), .dat (.tuple (ss.map .int))] ∧ Stand ts ss ∧ Q (.list ((bestV ts ss).map stpD))
theorem masks_nodup {ls : List Int} {c : Int} : (masksL ls c).Nodup := by
  unfold masksL
  exact List.nodup_range.filter _
/-- the groups of the best masks of a way, in order -/
theorem way_rows {ts : List Tm} {ss : List Int} {c w : Int} (S : Stand ts ss) (h : LeastL ts ss c) (hc : c < 0) (hw : w = 1 ∨ w = -1) : rowsS ((wayM ts ss c w).map (maskG ss.length)) = wayG ts ss w := by
  refine rows_unique ((rowsS_perm _).trans ?_) (rowsS_sorted _) ((gs_sorted _).sublist List.filter_sublist)
  refine (List.perm_ext_iff_of_nodup ?_ ((gs_nodup _).1.filter _)).mpr fun g => ?_
  · have nd : (wayM ts ss c w).Nodup := by
      unfold wayM
      split
      · exact masks_nodup
      · exact masks_nodup
    exact List.pairwise_map.mpr (List.Pairwise.imp_of_mem (fun {a b} ha hb ne e => ne (maskG_inj ((wayM_mem S hw).mp ha).1 ((wayM_mem S hw).mp hb).1 e)) nd)
  · have e := way_mem S h hc hw (g := g)
    unfold wayG at e
    rw [e, List.mem_map]
    exact ⟨fun ⟨m, hm, e2⟩ => ⟨m, (wayM_mem S hw).mp hm, e2.symm⟩, fun ⟨m, hm, e2⟩ => ⟨m, (wayM_mem S hw).mpr hm, e2.symm⟩⟩
theorem best_zero {ts : List Tm} {ss : List Int} {c : Int} (S : Stand ts ss) (h : LeastL ts ss c) (z : c = 0) : bestV ts ss = [] := foundF_nil.mpr (by
  have := least_most S h
  unfold mostV at this
  omega)
theorem best_pairs {ts : List Tm} {ss : List Int} (h8 : ss.length ≤ 8) : pairsOk ((bestV ts ss).map stpD) := by
  refine ⟨by rw [List.length_map]; have := best_len (ts := ts) h8; omega, fun d hd => ?_⟩
  obtain ⟨⟨w, g⟩, hx, rfl⟩ := List.mem_map.mp hd
  have hg := (best_mem hx).2.1
  have gl := (gs_grp h8 hg).len
  cases g with
  | nil => exact absurd hg (gs_nodup _).2
  | cons z zs =>
    rw [List.length_cons] at gl
    exact ⟨.int w, z, zs.map .int, rfl, by rw [List.length_map]; omega⟩
end DL
/-! ### a dict of a def's own, by tuples: made, asked, filled -/
namespace DL
open PySem PySem.Spec L2 PyProof.Rows
/-- {k: v}, k a tuple of ints and texts; the new dict stands empty meanwhile -/
def tDisp1 (tk tv : TE) : TE := fun σ H Q => ∀ p, H p = none → tPairs [(tk, tv)] σ (upd H p (.dT [])) fun ps H2 => H2 p = some (.dT []) ∧ ∃ (k : List L2.Key) (b : Addr) (y : V), ps = [(.ref b, y)] ∧ H2 b = some (.tup (k.map kV)) ∧ Q (.ref p) (upd H2 p (.dT [(k, y)]))
theorem pe_disp1 {X : Cx} {k v : Expr} {tk tv : TE} {pos : Pos} (hu : X.A.units + 1 < cLine) (hk : PE X k tk) (hv : PE X v tv) : PE X (.Dict [some k] [v] pos) (tDisp1 tk tv) := by
  refine ⟨fun pins s σ H Q I q => ?_⟩
  have hn := I.hok.fresh (Nat.le_refl s.heap.objs.size)
  have I1 := I.laid (a := s.heap.objs.size) (o := .dT []) (h' := s.heap.push { cls := .type "dict", data := .dict #[] }) (t' := s.toks) (fun _ _ q => Heap.get?_push_of_some _ q) (Nat.le_refl _) (dt_empty s.heap I.big)
  rw [arm_eval_Dict, zip_pairTrees [some k] [v] X.env pos rfl rfl, dictDisplay_pairs (pairTrees [some k] [v] X.env pos) (by intro z; cases z) (by show 1 < 17; decide)]
  refine wpAny_bind (wpAny_standAt (wpAny_bind (wpAny_subDictH (knd := tupleKind (mixKind X.prog X.w)) (Q := fun d s' => wpAny (model X.prog X.w) X.A (pure (Value.ref d)) (EP X pins σ Q) X.xe s') (show X.A.units < cLine by omega) (by show 1 ≤ 15; decide) ?_)))
  refine thn ((pps_cons hk hv pps_nil).run pins _ σ _ _ I1 (q _ hn)) fun ws s2 ⟨ps, H2, I2, rel, e, kk, b, y, ep, eb, q2⟩ => ?_
  subst ep
  cases rel with
  | @cons p0 w0 ps0 ws0 h0 t0 =>
    cases t0
    obtain ⟨wk, wv⟩ := w0
    obtain ⟨r1, r2⟩ := h0
    cases (show wk = Value.ref b from r1)
    obtain ⟨z, hd, xs, relx, dd⟩ := dt_of I2.hok e
    cases relx
    refine ⟨[(kk, b, wv)], ⟨rfl, rfl, key_of I2.hok eb, trivial⟩, dd, fun h' tk' dd' hs => wpAny_pure ⟨.ref s.heap.objs.size, _, ?_, rfl, q2⟩⟩
    obtain ⟨q, es, ep, hq, h2, h3, h4, _, h5⟩ := dd'
    refine d_write I2 (by rw [e]; exact True.intro) hs ⟨q, hq⟩ ⟨by show 1 ≤ sizeLine; rw [sizeLine_eq]; decide, hd, [(kk, b, wv)], KT.keeps (H := H2) (kvs := [(kk, y)]) (.cons ⟨rfl, eb, r2⟩ .nil) fun c ys ec => ?_, q, es, ep, hq, h2, h3, h4, h5⟩
    rw [upd_ne (ne_of ec e (fun z => nomatch z))]
    exact ec
instance memKey (k : List L2.Key) (ks : List (List L2.Key)) : Decidable (k ∈ ks) := decidable_of_iff (ks.any (fun x => decide (x = k)) = true) (by
  rw [List.any_eq_true]
  exact ⟨fun ⟨x, hx, e⟩ => by rw [← of_decide_eq_true e]; exact hx, fun h => ⟨k, h, decide_eq_true rfl⟩⟩)
def keyD : L2.Key → PyData
  | .inl i => .int i
  | .inr x => .str x
theorem key_vals {M : Addr → Prop} {H : Hp} : ∀ {k : List L2.Key} {xs : List V}, DtA M H xs (k.map keyD) → xs = k.map kV
  | [], _, h => by cases h; rfl
  | .inl i :: k, _, h => by
    cases h with
    | cons h1 h2 =>
      cases h1
      rw [key_vals h2]
      rfl
  | .inr x :: k, _, h => by
    cases h with
    | cons h1 h2 =>
      cases h1
      rw [key_vals h2]
      rfl
theorem key_at {M : Addr → Prop} {H : Hp} {k : List L2.Key} {v : V} (h : Dt M H v (.tuple (k.map keyD))) : ∃ b, v = .ref b ∧ H b = some (.tup (k.map kV)) := by
  cases h with
  | tup n e a => exact ⟨_, rfl, by rw [e, key_vals a]⟩
section
variable {X : Cx} {B : Gr} {i j l : Nat} {a b e ek ev : Expr} {te ta tb tk tv : TE} {d da db dk dv : TDE} {pos : Pos}
/-- x, y, z = {k: v}, data, data -/
def sPar3O (i j l : Nat) (dk dv d2 d3 : TDE) : TDS := fun DD ds => dk ds fun key => dv ds fun val => ∃ kk, key = .tuple (kk.map keyD) ∧ d2 ds fun y => d3 ds fun z => DD.nx (((ds.set i (some (.obj (.dT [kk] [val])))).set j (some (.dat y))).set l (some (.dat z)))
theorem ds_par3O {x y z : Str} {px py pz pt pd : Pos} {kt k2 pt2} (hu : X.A.units + 64 < cLine) (hc : X.calm = true) (hN : X.N.Nodup) (hi : X.N[i]? = some x) (hj : X.N[j]? = some y) (hl : X.N[l]? = some z) (hij : i ≠ j) (hil : i ≠ l) (hjl : j ≠ l)
    (hx : X.env.scope.names.lookup x = some .local) (hy : X.env.scope.names.lookup y = some .local) (hz : X.env.scope.names.lookup z = some .local) (hk : PD X B ek tk dk) (hv : PD X B ev tv dv) (ha : PD X B a ta da) (hb : PD X B b tb db)
    (hw : swappedStores [.Tuple [.Name x px, .Name y py, .Name z pz] kt pt] (.Tuple [.Dict [some ek] [ev] pd, a, b] k2 pt2) X.env = pure (some [x, y, z]))
    (hs : swapsWithSole [.Tuple [.Name x px, .Name y py, .Name z pz] kt pt] (.Tuple [.Dict [some ek] [ev] pd, a, b] k2 pt2) pos.line X.env = pure false := by rfl)
    (h1 : starEach [.Dict [some ek] [ev] pd, a, b] X.env = (false, eval (.Dict [some ek] [ev] pd) X.env) :: starEach [a, b] X.env := by rfl) (h2 : starEach [a, b] X.env = (false, eval a X.env) :: starEach [b] X.env := by rfl) (h3 : starEach [b] X.env = (false, eval b X.env) :: starEach [] X.env := by rfl) :
    PDS X B (.Assign [.Tuple [.Name x px, .Name y py, .Name z pz] kt pt] (.Tuple [.Dict [some ek] [ev] pd, a, b] k2 pt2) pos) (tPar3 i j l (tCons (tDisp1 tk tv) (tCons ta (tCons tb tNil)))) (sPar3O i j l dk dv da db) :=
  ⟨ps_par3 hc hN hi hj hl hij hil hjl hx hy hz (pa_cons (pe_disp1 (by omega) hk.pe hv.pe) (pa_cons ha.pe (pa_cons hb.pe pa_nil h3) h2) h1) hw hs, fun M σ H ds DD D en o q c => by
    intro p hp
    have mB := en.g.1
    have nB : p ≠ B.a := fun z => by
      obtain ⟨u, hu⟩ := en.g.2.1 B.a mB
      rw [z, hu] at hp
      cases hp
    have f0 := en.g.fresh0 hp
    have gA := en.g.addM (o := .dT []) hp
    have enA : EnvAt (wM M p) B (upd H p (.dT [])) σ ds := (o.at_.addM hp).keep (.inl mB) (Keep.new hp)
    refine hk.se (wM M p) σ _ ds _ _ gA enA q fun x H1 dx g1 k1 hx q1 => ?_
    refine hv.se (wM M p) σ H1 ds _ _ g1 (enA.keep gA.1 k1) q1 fun y H2 dy g2 k2 hy q2 => ?_
    obtain ⟨kk, ek, q3⟩ := q2
    have e2 : H2 p = some (.dT []) := k2.k p _ nB (k1.k p _ nB upd_same)
    have hx2 := hx.keep gA.1 k2
    rw [ek] at hx2
    obtain ⟨bb, ebb, hbb⟩ := key_at hx2
    refine ⟨e2, kk, bb, y, by rw [ebb], hbb, ?_⟩
    have g3 := g2.updD (o := .dT [(kk, y)]) (.inr rfl) nB f0
    have k12 : Keep (wM M p) B.a (upd H p (.dT [])) H2 := k1.trans k2
    have old : ∀ {c : Addr} {u : HO}, H c = some u → c ≠ p := fun {c u} e => ne_of_none e hp
    have kH : Keep M B.a H (upd H2 p (.dT [(kk, y)])) := ⟨fun c u n e => by
      rw [upd_ne (old e)]
      exact k12.k c u n (by rw [upd_ne (old e)]; exact e), fun qq hq => by
      rw [bagq_upd nB]
      exact k12.q qq (by rw [bagq_upd nB]; exact hq)⟩
    have stH : ∀ {H' : Hp}, Keep M B.a H H' → Stay M H (wM M p) H' := fun {H'} kk c u n e => ⟨fun z => z.elim n (old e), kk.k c u (fun z => n (by rw [z]; exact mB)) e⟩
    have en3 : EnvAt (wM M p) B (upd H2 p (.dT [(kk, y)])) σ ds := EnvAt.of o.at_.length fun n w hw => by
      obtain ⟨u, hu, r⟩ := o.at_.get n hw
      exact ⟨u, hu, r.wide (fun _ => .inl) kH (stH kH)⟩
    refine ha.se (wM M p) σ _ ds _ _ g3 en3 q3 fun v4 H4 d4 g4 k4 hd4 q4 => ?_
    refine hb.se (wM M p) σ H4 ds _ _ g4 (en3.keep g3.1 k4) q4 fun v5 H5 d5 g5 k5 hd5 q5 => ?_
    have k45 : Keep (wM M p) B.a (upd H2 p (.dT [(kk, y)])) H5 := k4.trans k5
    have kH5 : Keep M B.a H H5 := kH.trans k45.any
    have hy2 : Dt (wM M p) H5 y dy := ((hy.updD (o := .dT [(kk, y)]) (.inr rfl)).keep g3.1 k4).keep g4.1 k5
    have ob : DvR (wM M p) B H5 (.ref p) (.obj (.dT [kk] [dy])) := .obj (.inr rfl) nB f0 (k45.k p _ nB upd_same) (show ObR (wM M p) H5 (.dT ([kk].zip [y])) (.dT [kk] [dy]) from .dT rfl (.cons hy2 .nil))
    have o5 : EnvO (wM M p) B H5 (σ.set i (some (.ref p))) (ds.set i (some (.obj (.dT [kk] [dy])))) := o.newO (fun _ => .inl) kH5 (stH kH5) ob fun aa f => by cases f; exact hp
    exact ⟨_, _, _, rfl, c.nx (wM M p) _ H5 _ ⟨g5⟩ (stH kH5) (o5.sub (EnvAt.set (.dat hd5) l (EnvAt.set (.dat (hd4.keep g4.1 k5)) j o5.at_)) (Sub.trans Sub.set Sub.set)) q5⟩⟩
theorem valV_zip {k : List L2.Key} : ∀ {ks : List (List L2.Key)} {vs : List V}, ks.length = vs.length → (valV (ks.zip vs) k).isSome = decide (k ∈ ks)
  | [], _, _ => rfl
  | x :: ks, v :: vs, e => by
    rw [List.zip_cons_cons]
    by_cases h : x = k
    · rw [valV_pos h, Option.isSome_some]
      exact (decide_eq_true (by rw [h]; exact List.mem_cons_self ..)).symm
    · rw [valV_neg h, valV_zip (by simpa using e), Bool.eq_iff_iff, decide_eq_true_eq, decide_eq_true_eq, List.mem_cons]
      exact ⟨.inr, fun z => z.resolve_left fun w => h w.symm⟩
  | _ :: _, [], e => nomatch e
theorem obj_get {M : Addr → Prop} {H : Hp} {σ : L2.St} {ds : DEnv} {ks : List (List L2.Key)} {dd : List PyData} (en : EnvAt M B H σ ds) (hi : ds[i]? = some (some (.obj (.dT ks dd)))) :
    ∃ a vs, σ[i]? = some (some (.ref a)) ∧ M a ∧ a ≠ B ∧ B.H0 a = none ∧ H a = some (.dT (ks.zip vs)) ∧ ks.length = vs.length ∧ DtA M H vs dd := by
  obtain ⟨v, hv, r⟩ := en.get i hi
  cases r with
  | obj ma nb f0 e h =>
    cases h with
    | dT e2 a2 => exact ⟨_, _, hv, ma, nb, f0, e, e2, a2⟩
/-- k in d, k not in d -/
def dInT (neg : Bool) (i : Nat) (dk : TDE) : TDE := fun ds Q => dk ds fun key => match ds[i]? with
  | some (some (.obj (.dT ks _))) => ∃ k : List L2.Key, key = .tuple (k.map keyD) ∧ Q (.bool (if neg then !decide (k ∈ ks) else decide (k ∈ ks)))
  | _ => False
theorem se_inT {neg : Bool} (hk : SE B tk dk) : SE B (if neg then tDNotIn tk (tVar i) else tDIn tk (tVar i)) (dInT neg i dk) := fun M σ H ds Q R g en q c => by
  have main : ∀ {T : TE}, (T = if neg then tDNotIn tk (tVar i) else tDIn tk (tVar i)) → T σ H R := fun {T} eT => by
    cases neg with
    | false =>
      subst eT
      refine hk M σ H ds _ _ g en q fun x H1 dx g1 k1 hx q1 => ?_
      split at q1
      · rename_i ks dd hd
        obtain ⟨k, ek, q2⟩ := q1
        rw [ek] at hx
        obtain ⟨b, eb, hb⟩ := key_at hx
        obtain ⟨a, vs, hv, _, _, _, ea, el, _⟩ := obj_get (en.keep g.1 k1) hd
        refine ⟨_, hv, a, _, rfl, by rw [eb]; exact DGet.t ea hb, ?_⟩
        rw [valV_zip el]
        exact c _ H1 _ g1 k1 (.bl _) q2
      · exact q1.elim
    | true =>
      subst eT
      refine hk M σ H ds _ _ g en q fun x H1 dx g1 k1 hx q1 => ?_
      split at q1
      · rename_i ks dd hd
        obtain ⟨k, ek, q2⟩ := q1
        rw [ek] at hx
        obtain ⟨b, eb, hb⟩ := key_at hx
        obtain ⟨a, vs, hv, _, _, _, ea, el, _⟩ := obj_get (en.keep g.1 k1) hd
        refine ⟨_, hv, a, _, rfl, by rw [eb]; exact DGet.t ea hb, ?_⟩
        rw [valV_zip el]
        exact c _ H1 _ g1 k1 (.bl _) q2
      · exact q1.elim
  exact main rfl
theorem dt_inT {x : Str} {px : Pos} (i : Nat) (hu : X.A.units + 64 < cLine) (hk : PD X B ek tk dk) (hp : PE X (.Name x px) (tVar i)) (hm : behindInMarks .In (.Name x px) = false := by rfl) :
    PDT X B (.Compare ek [.In] [.Name x px] pos) (tB (tDIn tk (tVar i))) (dTest (dInT false i dk)) := ⟨pt_cmp (pc_din (by omega) hk.pe hp) hm, st_test (se_inT (neg := false) hk.se)⟩
theorem dt_notInT {x : Str} {px : Pos} (i : Nat) (hu : X.A.units + 64 < cLine) (hk : PD X B ek tk dk) (hp : PE X (.Name x px) (tVar i)) (hm : behindInMarks .NotIn (.Name x px) = false := by rfl) :
    PDT X B (.Compare ek [.NotIn] [.Name x px] pos) (tB (tDNotIn tk (tVar i))) (dTest (dInT true i dk)) := ⟨pt_cmp (pc_dnotin (by omega) hk.pe hp) hm, st_test (se_inT (neg := true) hk.se)⟩
/-- d[k] = v, k not there before -/
def sPutT (i : Nat) (dk dv : TDE) : TDS := fun DD ds => match ds[i]? with
  | some (some (.obj (.dT ks dd))) => dv ds fun val => dk ds fun key => ∃ k : List L2.Key, key = .tuple (k.map keyD) ∧ k ∉ ks ∧ dSize (ks.length + 1) ∧ DD.nx (ds.set i (some (.obj (.dT (ks ++ [k]) (dd ++ [val])))))
  | _ => False
theorem ds_putT {x : Str} {px ps1 : Pos} (i : Nat) (hu : X.A.units + 64 < cLine) (hp : PE X (.Name x px) (tVar i)) (hk : PD X B ek tk dk) (hv : PD X B ev tv dv) (hs : swapsWith ev (some (.Subscript (.Name x px) ek ps1)) pos.line X.env = pure false := by rfl) :
    PDS X B (.Assign [.Subscript (.Name x px) ek ps1] ev pos) (sDPut (tVar i) tk tv) (sPutT i dk dv) :=
  ⟨ps_dput (by omega) hp hk.pe hv.pe hs, fun M σ H ds DD D en o q c => by
    unfold sPutT at q
    split at q
    · rename_i ks dd hd
      obtain ⟨w, hw, _⟩ := o.at_.get i hd
      refine hv.se M σ H ds _ _ en.g o.at_ q fun v H1 dv g1 k1 hv1 q1 => ?_
      refine ⟨w, hw, ?_⟩
      refine hk.se M σ H1 ds _ _ g1 (o.at_.keep en.g.1 k1) q1 fun x H2 dx g2 k2 hx q2 => ?_
      obtain ⟨k, ek, nk, hl, q3⟩ := q2
      rw [ek] at hx
      obtain ⟨b, eb, hb⟩ := key_at hx
      have kk := k1.trans k2
      obtain ⟨a, vs, hv, ma, nb, f0, ea, el, av⟩ := obj_get (o.at_.keep en.g.1 kk) hd
      rw [hw] at hv
      cases hv
      have hs2 : sizeLine = 16777216 := sizeLine_eq
      have zl : (ks.zip vs).length = ks.length := by rw [List.length_zip]; omega
      have hl2 : ks.length + 1 ≤ 1000000 := hl
      refine ⟨a, _, rfl, by rw [eb]; exact DPut.t ea hb (by rw [zl]; omega), ?_⟩
      have nv : (valV (ks.zip vs) k).isSome = false := by rw [valV_zip el]; exact decide_eq_false nk
      have e2 : putK (ks.zip vs) k v = (ks ++ [k]).zip (vs ++ [v]) := by
        unfold putK
        rw [valV_any, nv, if_neg Bool.false_ne_true, List.zip_append el]
        rfl
      rw [e2]
      exact (c.nx.stay (kk.stay en.g.1)).chg (en.expr g2 kk) (o.expr en.g.1 kk) hd hw rfl ma nb f0 (.obj ma nb f0 upd_same (.dT (by rw [List.length_append, List.length_append, el]; rfl) ((av.updD ma).append (.cons ((hv1.keep en.g.1 k2).updD ma) .nil)))) (fun _ f => f) q3
    · exact q.elim⟩
end
end DL
/-! ### zip of a list and a tuple -/
namespace DL
open PySem PySem.Spec L2 PyProof.Rows
/-- at each turn: the i-th of the list at a and of the tuple at b, in a new pair -/
def ItzW (K : PySem.W.Frag) (a b : Addr) : It where
  go := fun i H => ∃ xs ys x y, SqL K H a xs ∧ SqT K H b ys ∧ xs[i]? = some x ∧ ys[i]? = some y
  yld := fun i H v H' => ∃ p x y, v = .ref p ∧ H p = none ∧ H' = upd H p (.tup [x, y]) ∧ (∀ xs, SqL K H a xs → xs[i]? = some x) ∧ ∀ ys, SqT K H b ys → ys[i]? = some y
  stop := fun i H => ∃ xs ys, SqL K H a xs ∧ SqT K H b ys ∧ i = min xs.length ys.length
theorem turn_zipW {P : Program} {w : World} {K : PySem.W.Frag} {elts : List Expr} {kk : Nat} {tpos : Pos} {a b z TI TO i1 i2 : Addr} (D : ZipApart z TI TO i1 i2 a b) :
    Turn P w K (.Tuple elts kk tpos) (ItzW K a b) [z, TI, TO, i1, i2] z fun i h => IsZip h z TI TO .none ∧ IsPair h TI (.ref i1) (.ref i2) ∧ (∃ x y, IsPair h TO x y) ∧ h.IsListIter i1 a i ∧ h.IsTupleIter i2 b i := by
  have five : ∀ {q : Addr → Prop}, q z → q TI → q TO → q i1 → q i2 → ∀ c ∈ [z, TI, TO, i1, i2], q c := fun h1 h2 h3 h4 h5 c hc => by
    simp only [List.mem_cons, List.not_mem_nil, or_false] at hc
    rcases hc with rfl | rfl | rfl | rfl | rfl <;> assumption
  have S := sep_of D
  refine ⟨List.mem_cons_self .., fun i h st => ?_, fun i h h' st kp => ?_, ?_, ?_, fun A i s Q E st h => wpAny_pyIter_zip st.1 h⟩
  · obtain ⟨hz, hTI, ⟨x, y, hTO⟩, ⟨o1, e1, _, d1⟩, ⟨o2, e2, _, d2⟩⟩ := st
    exact five (q := fun c => ∃ o, h.get? c = some o ∧ ∀ v, o.data ≠ .cell v) ⟨_, hz, fun _ => nofun⟩ ⟨_, hTI, fun _ => nofun⟩ ⟨_, hTO, fun _ => nofun⟩ ⟨o1, e1, fun _ q => by rw [d1] at q; cases q⟩ ⟨o2, e2, fun _ q => by rw [d2] at q; cases q⟩
  · obtain ⟨hz, hTI, ⟨x, y, hTO⟩, h1, h2⟩ := st
    exact ⟨kp z (by simp) _ hz, kp TI (by simp) _ hTI, ⟨x, y, kp TO (by simp) _ hTO⟩, h1.at (kp i1 (by simp)), h2.at (kp i2 (by simp))⟩
  · rintro X rfl rfl rfl hc i pins s σ H E I hf ⟨hz, hTI, ⟨x0, y0, hTO⟩, h1, h2⟩ ⟨xs, ys, x, y, hqx, hqy, hx, hy⟩
    obtain ⟨its, rv, p1, _⟩ := I.list hqx
    obtain ⟨jts, rw2, p2, _⟩ := I.tuple hqy
    obtain ⟨u, hu, ru⟩ := rv.get hx
    obtain ⟨v, hv, rv2⟩ := rw2.get hy
    have lt1 : i < its.toArray.size := by rw [List.size_toArray]; exact (List.getElem?_eq_some_iff.mp hu).1
    have lt2 : i < jts.toArray.size := by rw [List.size_toArray]; exact (List.getElem?_eq_some_iff.mp hv).1
    have hh : X.A.in1.handled = none := I.ok.hd hc
    refine wpAny_pyNext_zipD2_item S (Draws.list hh i1 a D.l1i1 its.toArray) (Draws.tuple hh i2 b D.l2i2 jts.toArray) hz hTI hTO ⟨h1, p1.isList⟩ ⟨h2, p2⟩ lt1 lt2 ?_
    intro u' v' h' tk eu ev hz' hTO' st1 st2 hp hsz kept
    obtain rfl : u = u' := by
      have : its.toArray[i]? = some u := by simpa using hu
      rw [this] at eu
      exact Option.some.inj eu
    obtain rfl : v = v' := by
      have : jts.toArray[i]? = some v := by simpa using hv
      rw [this] at ev
      exact Option.some.inj ev
    refine ⟨_, rfl, wpAny_letOwnedTupleGo_zip (s := { s with heap := h', toks := tk }) hz' fun h2' hz2 sb => ?_⟩
    have oldlt : ∀ c ∈ [z, TI, TO, i1, i2], c < s.heap.objs.size := five (q := fun c => c < s.heap.objs.size) (Heap.lt_size hz) (Heap.lt_size hTI) (Heap.lt_size hTO) (by obtain ⟨_, e, _⟩ := h1; exact Heap.lt_size e) (by obtain ⟨_, e, _⟩ := h2; exact Heap.lt_size e)
    have up : ∀ c o, c ≠ z → h'.get? c = some o → h2'.get? c = some o := fun c o n e => (sb.2 c n).trans e
    have pair : h2'.get? s.heap.objs.size = some { cls := .type "tuple", data := .seq #[u, v] } := up _ _ (Nat.ne_of_gt (Heap.lt_size hz)) hp
    have made : ObjOk X.prog X.w (upd H s.heap.objs.size (.tup [x, y])) h2' s.heap.objs.size (.tup [x, y]) := ⟨(by show 2 ≤ sizeLine; rw [sizeLine_eq]; decide), [u, v], .cons ru (.cons rv2 .nil), ⟨_, pair, rfl, _, rfl⟩⟩
    have J : Inv X pins σ (upd H s.heap.objs.size (.tup [x, y])) { s with heap := h2', toks := tk } := by
      refine I.turnedNew (ch := [z, TI, TO, i1, i2]) (fun c o nc e => ?_) hf (Nat.le_refl _) made
      simp only [List.mem_cons, List.not_mem_nil, or_false, not_or] at nc
      exact up c o nc.1 (kept c o nc.1 nc.2.2.1 nc.2.2.2.1 nc.2.2.2.2 e)
    refine ⟨.ref s.heap.objs.size, _, J, rfl, ⟨_, x, y, rfl, I.hok.fresh (Nat.le_refl _), rfl, fun l hl => ?_, fun l hl => ?_⟩, ⟨hz2, up _ _ D.TIz (kept _ _ D.TIz D.TITO D.TIi1 D.TIi2 hTI), ⟨u, v, up _ _ D.TOz hTO'⟩, st1.1.at fun o e => up _ o D.i1z e, st2.1.at fun o e => up _ o D.i2z e⟩, fun c hcm => ?_⟩
    · rw [I.list_inj hl hqx]
      exact hx
    · rw [I.tuple_inj hl hqy]
      exact hy
    · rw [upd_ne (Nat.ne_of_lt (oldlt c hcm))]
      exact (hf c hcm).1
  · rintro X rfl rfl rfl hc i pins s σ H E I hf ⟨hz, hTI, ⟨x0, y0, hTO⟩, h1, h2⟩ ⟨xs, ys, hqx, hqy, hend⟩
    obtain ⟨its, rv, p1, _⟩ := I.list hqx
    obtain ⟨jts, rw2, p2, _⟩ := I.tuple hqy
    have hh : X.A.in1.handled = none := I.ok.hd hc
    have n1 : xs.length = its.toArray.size := by rw [List.size_toArray, rv.length]
    have n2 : ys.length = jts.toArray.size := by rw [List.size_toArray, rw2.length]
    refine wpAny_pyNext_zipD2_end S (Draws.list hh i1 a D.l1i1 its.toArray) (Draws.tuple hh i2 b D.l2i2 jts.toArray) hz hTI hTO ⟨h1, p1.isList⟩ ⟨h2, p2⟩ (by omega) (by omega) (by omega) fun h' tk kept => ⟨rfl, I.turnedL (ch := [z, TI, TO, i1, i2]) (fun c o nc e => ?_) hf⟩
    simp only [List.mem_cons, List.not_mem_nil, or_false, not_or] at nc
    exact kept c o nc.1 nc.2.2.1 nc.2.2.2.1 nc.2.2.2.2 e
def iZipW (K : PySem.W.Frag) (ta : TA) : TI := fun σ H R => ta σ H fun vs H1 => ∃ a b xs ys, vs = [.ref a, .ref b] ∧ SqL K H1 a xs ∧ SqT K H1 b ys ∧ R (ItzW K a b) H1
theorem pi_zipW {X : Cx} {e e2 : Expr} {ta : TA} {p pos tpos : Pos} {elts : List Expr} {kk : Nat} (hg : Gl X "zip") (hm : X.mg "zip" = none) (ha : PA X [e, e2] ta)
    (hs : starEach [e, e2] X.env = (false, eval e X.env) :: starEach [e2] X.env := by rfl) (hpl : (backTo pos (starEach [e2] X.env)).any (·.1) = false := by rfl) :
    PI X (.Tuple elts kk tpos) (.Call (.Name "zip" p) [e, e2] [] pos) (iZipW X.K ta) := by
  constructor
  intro pins s σ H R I h
  refine Call_ (ld_blt I hg hm PyProof.Rows.boot_zip (PyProof.Rows.callWith_type1 (thn (ha.run pos pins s σ H _ I h) ?_) hs hpl))
  rintro us s1 ⟨vs, H1, I1, r1, a, b, xs, ys, rfl, hqx, hqy, hq⟩
  cases r1 with
  | cons r t =>
    cases t with
    | cons r2 t2 =>
      cases t2
      cases r
      cases r2
      obtain ⟨its, rv, p1, _⟩ := I1.list hqx
      obtain ⟨jts, rw2, p2, _⟩ := I1.tuple hqy
      have lb : b < s1.heap.objs.size := by
        obtain ⟨_, e, _⟩ := id p2
        exact Heap.lt_size e
      have D := PySem.W.ktu_apart s1.heap.objs.size a b p1.lt lb
      refine zip_begins2 (begins_list a its.toArray) (begins_tuple b jts.toArray) p1.isList p2 fun h' hz hTI hTO g1 g2 hsz kept => wpAny_pyIter_zip hz ?_
      have I2 : Inv X pins σ H1 { s1 with heap := h' } := I1.kept (t' := s1.toks) kept
      refine ⟨_, [s1.heap.objs.size + 4, s1.heap.objs.size + 2, s1.heap.objs.size + 3, s1.heap.objs.size, s1.heap.objs.size + 1], _, _, H1, rfl, I2, turn_zipW D, ⟨hz, hTI, ⟨_, _, hTO⟩, ⟨_, g1, rfl, rfl⟩, ⟨_, g2, rfl, rfl⟩⟩, fun c hc => ?_, hq⟩
      have le : s1.heap.objs.size ≤ c := by
        simp only [List.mem_cons, List.not_mem_nil, or_false] at hc
        rcases hc with rfl | rfl | rfl | rfl | rfl <;> first | exact Nat.le_add_right _ _ | exact Nat.le_refl _
      exact I1.fpOk le (I1.hok.fresh le)
theorem it_zipW {M : Addr → Prop} {B : Gr} {K : PySem.W.Frag} {H : Hp} {a b : Addr} {xs ys : List V} {l m : List PyData} (n : ¬ M a) (e : H a = some (.lst xs)) (h : DtA M H xs l) (n2 : ¬ M b) (e2 : H b = some (.tup ys)) (h2 : DtA M H ys m) : ItOk M B H (ItzW K a b) (zipD l m) := fun M2 H2 g2 k i => by
  have ea := (k _ _ n e).2
  have eb := (k _ _ n2 e2).2
  rw [zipD_len]
  refine ⟨fun hi => ⟨xs, ys, SqL.of ea, SqT.of eb, by rw [h.length, h2.length]; exact hi⟩, fun hi => ?_⟩
  have l1 : i < l.length := by omega
  have l2 : i < m.length := by omega
  obtain ⟨v, hv, r⟩ := DtA.get i h (List.getElem?_eq_getElem l1)
  obtain ⟨u, hu, r2⟩ := DtA.get i h2 (List.getElem?_eq_getElem l2)
  refine ⟨⟨xs, ys, v, u, SqL.of ea, SqT.of eb, hv, hu⟩, fun x H3 ⟨T, x', y', ex, hT, eH, f1, f2⟩ => ?_⟩
  have q1 := f1 xs (SqL.of ea)
  rw [hv] at q1
  cases q1
  have q2 := f2 ys (SqT.of eb)
  rw [hu] at q2
  cases q2
  subst ex eH
  exact ⟨g2.new hT, Keep.new hT, _, zipD_at (List.getElem?_eq_getElem l1) (List.getElem?_eq_getElem l2), Dt.newT g2 hT (.cons (r.map k) (.cons (r2.map k) .nil))⟩
def diZipW (t : TDL) : TDL := fun ds Q => t ds fun l => match l with
  | [.list a, .tuple b] => dSize a.length ∧ Q (zipD a b)
  | _ => False
theorem di_zipW (K : PySem.W.Frag) {X : Cx} {B : Gr} {e e2 : Expr} {ta : TA} {p pos tpos : Pos} {elts : List Expr} {kk : Nat} {l : TDL} (hg : Gl X "zip") (hm : X.mg "zip" = none) (ha : PDL X B [e, e2] ta l)
    (hs : starEach [e, e2] X.env = (false, eval e X.env) :: starEach [e2] X.env := by rfl) (hpl : (backTo pos (starEach [e2] X.env)).any (·.1) = false := by rfl) (hK : X.K = K := by rfl) :
    PDI X B (.Tuple elts kk tpos) (.Call (.Name "zip" p) [e, e2] [] pos) (iZipW K ta) (diZipW l) := by
  subst hK
  refine ⟨pi_zipW hg hm ha.pa hs hpl, fun M σ H ds Q R g en q c => ha.sl M σ H ds _ _ g en q fun vs H1 l' g1 k1 hl q1 => ?_⟩
  split at q1
  · cases hl with
    | cons h1 t1 => cases t1 with
      | cons h2 t2 =>
        cases t2
        cases h1 with
        | lst n e a =>
          cases h2 with
          | tup n2 e2 a2 => exact ⟨_, _, _, _, rfl, SqL.of e, SqT.of e2, c _ H1 _ g1 k1 (it_zipW n e a n2 e2 a2) (by rw [zipD_len]; exact Nat.le_trans (Nat.min_le_left _ _) q1.1.le) q1.2⟩
  · exact q1.elim
end DL
/-! ### how far standings are apart; steps from one to another -/
namespace DL
open PySem PySem.Spec L2 PyProof.Rows
/-- the greatest rise of a dial from s to q -/
def upV (s q : List Int) : Int := mostF (fun p : Int × Int => p.2 - p.1) (s.zip q)
def apartV (s q : List Int) : Int := upV s q + upV q s
theorem upV_ge {s q : List Int} : 0 ≤ upV s q := (mostF_ge (f := fun p : Int × Int => p.2 - p.1) (L := s.zip q)).1
theorem le_upV {s q : List Int} {i : Nat} {a b : Int} (ha : s[i]? = some a) (hb : q[i]? = some b) : b - a ≤ upV s q :=
  (mostF_ge (f := fun p : Int × Int => p.2 - p.1) (L := s.zip q)).2 (a, b) (List.mem_of_getElem? (i := i) (by rw [List.getElem?_zip_eq_some]; exact ⟨ha, hb⟩))
theorem upV_at {s q : List Int} (h : upV s q > 0) : ∃ (i : Nat) (a b : Int), s[i]? = some a ∧ q[i]? = some b ∧ b - a = upV s q := by
  obtain ⟨⟨a, b⟩, hx, e⟩ := mostF_in (f := fun p : Int × Int => p.2 - p.1) (L := s.zip q) h
  obtain ⟨i, hi⟩ := List.getElem?_of_mem hx
  rw [List.getElem?_zip_eq_some] at hi
  exact ⟨i, a, b, hi.1, hi.2, e⟩
theorem upV_le {s q : List Int} {m : Int} (h0 : 0 ≤ m) (h : ∀ (i : Nat) a b, s[i]? = some a → q[i]? = some b → b - a ≤ m) : upV s q ≤ m := by
  rcases Int.lt_or_eq_of_le (upV_ge (s := s) (q := q)) with z | z
  · obtain ⟨i, a, b, ha, hb, e⟩ := upV_at z
    rw [← e]
    exact h i a b ha hb
  · omega
theorem upV_self (s : List Int) : upV s s = 0 := by
  have h1 := upV_ge (s := s) (q := s)
  have h2 : upV s s ≤ 0 := upV_le (Int.le_refl 0) fun i a b ha hb => by
    rw [ha] at hb
    cases hb
    omega
  omega
theorem stepV_get {q g : List Int} {w : Int} {i : Nat} : (stepV q g w)[i]? = (q[i]?).map fun b => if (i : Int) ∈ g then b + w else b := by
  unfold stepV
  rw [List.getElem?_mapIdx]
theorem stepV_some {q g : List Int} {w : Int} {i : Nat} {c : Int} (h : (stepV q g w)[i]? = some c) : ∃ b, q[i]? = some b ∧ ((c = b + w ∧ (i : Int) ∈ g) ∨ (c = b ∧ (i : Int) ∉ g)) := by
  rw [stepV_get] at h
  cases e : q[i]? with
  | none => rw [e] at h; cases h
  | some b =>
    rw [e, Option.map_some] at h
    have h := Option.some.inj h
    refine ⟨b, rfl, ?_⟩
    by_cases z : (i : Int) ∈ g
    · rw [if_pos z] at h
      exact .inl ⟨h.symm, z⟩
    · rw [if_neg z] at h
      exact .inr ⟨h.symm, z⟩
/-- a step changes how far apart standings are by one at most -/
theorem apart_step {s q g : List Int} {w : Int} (hw : w = 1 ∨ w = -1) : apartV s (stepV q g w) ≤ apartV s q + 1 := by
  have g1 := upV_ge (s := s) (q := q)
  have g2 := upV_ge (s := q) (q := s)
  unfold apartV
  rcases hw with rfl | rfl
  · have h1 : upV s (stepV q g 1) ≤ upV s q + 1 := upV_le (by omega) fun i a c ha hc => by
      obtain ⟨b, hb, k⟩ := stepV_some hc
      have := le_upV ha hb
      omega
    have h2 : upV (stepV q g 1) s ≤ upV q s := upV_le (by omega) fun i c a hc ha => by
      obtain ⟨b, hb, k⟩ := stepV_some hc
      have := le_upV hb ha
      omega
    omega
  · have h1 : upV s (stepV q g (-1)) ≤ upV s q := upV_le (by omega) fun i a c ha hc => by
      obtain ⟨b, hb, k⟩ := stepV_some hc
      have := le_upV ha hb
      omega
    have h2 : upV (stepV q g (-1)) s ≤ upV q s + 1 := upV_le (by omega) fun i c a hc ha => by
      obtain ⟨b, hb, k⟩ := stepV_some hc
      have := le_upV hb ha
      omega
    omega
theorem apart_self (s : List Int) : apartV s s = 0 := by
  unfold apartV
  rw [upV_self]
  rfl
theorem apart_ge {s q : List Int} : 0 ≤ apartV s q := by
  have g1 := upV_ge (s := s) (q := q)
  have g2 := upV_ge (s := q) (q := s)
  unfold apartV
  omega
theorem apart_zero {s q : List Int} (hl : s.length = q.length) (h : apartV s q ≤ 0) : q = s := by
  have g1 := upV_ge (s := s) (q := q)
  have g2 := upV_ge (s := q) (q := s)
  unfold apartV at h
  refine List.ext_getElem? fun i => ?_
  cases hs : s[i]? with
  | none =>
    rw [List.getElem?_eq_none_iff] at hs ⊢
    omega
  | some a =>
    have hi := (List.getElem?_eq_some_iff.mp hs).1
    have hq : q[i]? = some q[i] := List.getElem?_eq_getElem (by omega)
    have k1 := le_upV hs hq
    have k2 := le_upV hq hs
    rw [hq]
    exact congrArg some (by omega)
/-! #### any set of dials is a mask -/
theorem mask_of (P : Nat → Bool) : ∀ n : Nat, ∃ m, m < 2 ^ n ∧ ∀ i, i < n → m.testBit i = P i
  | 0 => ⟨0, by decide, fun i h => absurd h (Nat.not_lt_zero i)⟩
  | n + 1 => by
    obtain ⟨m, hm, h⟩ := mask_of P n
    cases e : P n with
    | false =>
      refine ⟨m, Nat.lt_of_lt_of_le hm (Nat.pow_le_pow_right (by omega) (by omega)), fun i hi => ?_⟩
      by_cases z : i = n
      · rw [z, e]
        exact Nat.testBit_lt_two_pow hm
      · exact h i (by omega)
    | true =>
      refine ⟨2 ^ n + m, by rw [Nat.pow_succ]; omega, fun i hi => ?_⟩
      by_cases z : i = n
      · rw [z, Nat.testBit_two_pow_add_eq, Nat.testBit_lt_two_pow hm, e]
        rfl
      · rw [Nat.testBit_two_pow_add_gt (by omega : i < n)]
        exact h i (by omega)
theorem group_of (P : Nat → Bool) (n : Nat) (h : ∃ i, i < n ∧ P i = true) : ∃ g ∈ gsL n, ∀ i : Nat, i < n → ((i : Int) ∈ g ↔ P i = true) := by
  obtain ⟨m, hm, hb⟩ := mask_of P n
  have hi : ∀ i : Nat, i < n → ((i : Int) ∈ maskG n m ↔ P i = true) := fun i hi => by
    rw [maskG_iff, ← hb i hi]
    exact ⟨fun ⟨j, ej, _, e⟩ => by
      have : i = j := by omega
      rw [this]
      exact e, fun e => ⟨i, rfl, hi, e⟩⟩
  refine ⟨maskG n m, gs_mem.mpr ⟨m, Nat.pos_of_ne_zero fun z => ?_, hm, rfl⟩, hi⟩
  obtain ⟨i, hl, e⟩ := h
  have := hb i hl
  rw [z, e, Nat.zero_testBit] at this
  cases this
/-! #### what stops and bars hold is held between -/
theorem holds_of {t : Tm} {ss : List Int} (h : t.gone ss = false) : t.Holds ss := fun hs => by
  unfold Tm.gone at h
  rw [hs] at h
  have h2 : t.dist (t.arg ss) = 0 := by simpa using h
  unfold Tm.dist at h2
  split at h2
  · omega
  · split at h2 <;> omega
theorem at_get {s : List Int} {d : Int} (d0 : 0 ≤ d) (d1 : d < s.length) : s[d.toNat]? = some (Tm.at_ s d) := by
  have hl : d.toNat < s.length := by omega
  unfold Tm.at_
  rw [List.getD_eq_getElem?_getD, List.getElem?_eq_getElem hl]
  rfl
theorem at_step2 {q g : List Int} {w d : Int} (d0 : 0 ≤ d) (d1 : d < q.length) : Tm.at_ (stepV q g w) d = if d ∈ g then Tm.at_ q d + w else Tm.at_ q d := by
  have h1 := at_get (s := stepV q g w) d0 (by rw [stepV_len]; exact d1)
  rw [stepV_get, at_get d0 d1, Option.map_some, Int.toNat_of_nonneg d0] at h1
  exact (Option.some.inj h1).symm
/-- a step nearer: the dials that are farthest behind move on -/
theorem nearer {ts : List Tm} {s q : List Int} {w : Int} (hw : w = 1 ∨ w = -1) (hl : s.length = q.length) (hin : ∀ t ∈ ts, t.In s.length ∧ t.low ≤ t.high) (as : isNone (leftV ts s) = true) (aq : isNone (leftV ts q) = true)
    {m : Int} (m0 : m > 0) (hm : ∀ (i : Nat) a b, s[i]? = some a → q[i]? = some b → w * (a - b) ≤ m) (hx : ∃ (i : Nat) (a b : Int), s[i]? = some a ∧ q[i]? = some b ∧ w * (a - b) = m) :
    ∃ g ∈ gsL s.length, isNone (leftV ts (stepV q g w)) = true ∧ (∀ i : Nat, i < s.length → ((i : Int) ∈ g ↔ w * (Tm.at_ s i - Tm.at_ q i) = m)) := by
  obtain ⟨g, hg, hi⟩ := group_of (fun i => decide (w * (Tm.at_ s i - Tm.at_ q i) = m)) s.length (by
    obtain ⟨i, a, b, ha, hb, e⟩ := hx
    have h1 := (List.getElem?_eq_some_iff.mp ha).1
    refine ⟨i, h1, decide_eq_true ?_⟩
    have e1 := at_get (s := s) (d := i) (by omega) (by omega)
    have e2 := at_get (s := q) (d := i) (by omega) (by omega)
    rw [Int.toNat_natCast] at e1 e2
    rw [ha] at e1
    rw [hb] at e2
    rw [← Option.some.inj e1, ← Option.some.inj e2]
    exact e)
  have hi2 : ∀ i : Nat, i < s.length → ((i : Int) ∈ g ↔ w * (Tm.at_ s i - Tm.at_ q i) = m) := fun i h => by rw [hi i h, decide_eq_true_eq]
  refine ⟨g, hg, left_iff.mpr fun t ht => ?_, hi2⟩
  have k1 := holds_of (left_iff.mp as t ht)
  have k2 := holds_of (left_iff.mp aq t ht)
  have dd : ∀ d : Int, 0 ≤ d → d < s.length → (d ∈ g ↔ w * (Tm.at_ s d - Tm.at_ q d) = m) ∧ w * (Tm.at_ s d - Tm.at_ q d) ≤ m ∧ Tm.at_ (stepV q g w) d = (if d ∈ g then Tm.at_ q d + w else Tm.at_ q d) := fun d d0 d1 => by
    have z := hi2 d.toNat (by omega)
    rw [Int.toNat_of_nonneg d0] at z
    refine ⟨z, hm d.toNat _ _ (at_get d0 d1) (at_get d0 (by omega)), at_step2 d0 (by omega)⟩
  have inn := (hin t ht).1
  refine Tm.Holds.gone fun hs => ?_
  have k1 := k1 hs
  have k2 := k2 hs
  cases t with
  | wish d l u f => cases hs
  | tie d o l u f => cases hs
  | stop d l u =>
    obtain ⟨z1, z2, z3⟩ := dd d inn.1 inn.2
    show l ≤ Tm.at_ (stepV q g w) d ∧ Tm.at_ (stepV q g w) d ≤ u
    have k1 : l ≤ Tm.at_ s d ∧ Tm.at_ s d ≤ u := k1
    have k2 : l ≤ Tm.at_ q d ∧ Tm.at_ q d ≤ u := k2
    rw [z3]
    by_cases y : d ∈ g
    · rw [if_pos y]
      have e := z1.mp y
      rcases hw with rfl | rfl <;> omega
    · rw [if_neg y]
      exact k2
  | bar d o l u =>
    obtain ⟨z1, z2, z3⟩ := dd d inn.1.1 inn.1.2
    obtain ⟨y1, y2, y3⟩ := dd o inn.2.1 inn.2.2
    show l ≤ Tm.at_ (stepV q g w) d - Tm.at_ (stepV q g w) o ∧ Tm.at_ (stepV q g w) d - Tm.at_ (stepV q g w) o ≤ u
    have k1 : l ≤ Tm.at_ s d - Tm.at_ s o ∧ Tm.at_ s d - Tm.at_ s o ≤ u := k1
    have k2 : l ≤ Tm.at_ q d - Tm.at_ q o ∧ Tm.at_ q d - Tm.at_ q o ≤ u := k2
    rw [z3, y3]
    by_cases y : d ∈ g
    · rw [if_pos y]
      have e := z1.mp y
      by_cases x : o ∈ g
      · rw [if_pos x]
        omega
      · rw [if_neg x]
        have ne : ¬ w * (Tm.at_ s o - Tm.at_ q o) = m := fun z => x (y1.mpr z)
        rcases hw with rfl | rfl <;> omega
    · rw [if_neg y]
      have ne : ¬ w * (Tm.at_ s d - Tm.at_ q d) = m := fun z => y (z1.mpr z)
      by_cases x : o ∈ g
      · rw [if_pos x]
        have e := y1.mp x
        rcases hw with rfl | rfl <;> omega
      · rw [if_neg x]
        exact k2
theorem stepV_back {q g : List Int} {w : Int} : stepV (stepV q g w) g (-w) = q := by
  refine List.ext_getElem? fun i => ?_
  rw [stepV_get, stepV_get]
  cases q[i]? with
  | none => rfl
  | some b =>
    rw [Option.map_some, Option.map_some]
    by_cases z : (i : Int) ∈ g
    · rw [if_pos z, if_pos z]
      exact congrArg some (by omega)
    · rw [if_neg z, if_neg z]
/-- an allowed standing that is not the same has an allowed one nearer, one step from it -/
theorem nearer_one {ts : List Tm} {s q : List Int} (hl : s.length = q.length) (hin : ∀ t ∈ ts, t.In s.length ∧ t.low ≤ t.high) (as : isNone (leftV ts s) = true) (aq : isNone (leftV ts q) = true) (h : apartV s q > 0) :
    ∃ (p g : List Int) (w : Int), (w = 1 ∨ w = -1) ∧ g ∈ gsL s.length ∧ isNone (leftV ts p) = true ∧ p.length = s.length ∧ apartV s p = apartV s q - 1 ∧ q = stepV p g w := by
  have g1 := upV_ge (s := s) (q := q)
  have g2 := upV_ge (s := q) (q := s)
  have fin : ∀ (g : List Int) (w : Int), (w = 1 ∨ w = -1) → g ∈ gsL s.length → isNone (leftV ts (stepV q g w)) = true → apartV s (stepV q g w) ≤ apartV s q - 1 → ∃ (p g : List Int) (w : Int), (w = 1 ∨ w = -1) ∧ g ∈ gsL s.length ∧ isNone (leftV ts p) = true ∧ p.length = s.length ∧ apartV s p = apartV s q - 1 ∧ q = stepV p g w := fun g w hw hg al hd => by
    have e : stepV (stepV q g w) g (-w) = q := stepV_back
    have hw2 : -w = 1 ∨ -w = -1 := by omega
    have k := apart_step (s := s) (q := stepV q g w) (g := g) hw2
    rw [e] at k
    exact ⟨stepV q g w, g, -w, hw2, hg, al, by rw [stepV_len]; exact hl.symm, by omega, e.symm⟩
  by_cases z : upV q s > 0
  · obtain ⟨g, hg, al, hi⟩ := nearer (w := 1) (.inl rfl) hl hin as aq z (fun i a b ha hb => by have := le_upV hb ha; omega) (by
      obtain ⟨i, b, a, hb, ha, e⟩ := upV_at z
      exact ⟨i, a, b, ha, hb, by omega⟩)
    refine fin g 1 (.inl rfl) hg al ?_
    have conv : ∀ (i : Nat) a b, s[i]? = some a → q[i]? = some b → ((i : Int) ∈ g ↔ a - b = upV q s) := fun i a b ha hb => by
      have hlt := (List.getElem?_eq_some_iff.mp ha).1
      have e1 := at_get (s := s) (d := i) (by omega) (by omega)
      have e2 := at_get (s := q) (d := i) (by omega) (by omega)
      rw [Int.toNat_natCast, ha] at e1
      rw [Int.toNat_natCast, hb] at e2
      have := hi i hlt
      rw [← Option.some.inj e1, ← Option.some.inj e2] at this
      rw [this]
      constructor <;> intro _ <;> omega
    have h1 : upV s (stepV q g 1) ≤ upV s q := upV_le (by omega) fun i a c ha hc => by
      obtain ⟨b, hb, k⟩ := stepV_some hc
      have := le_upV ha hb
      have cv := conv i a b ha hb
      rcases k with ⟨k, kg⟩ | ⟨k, _⟩
      · have := cv.mp kg
        omega
      · omega
    have h2 : upV (stepV q g 1) s ≤ upV q s - 1 := upV_le (by omega) fun i c a hc ha => by
      obtain ⟨b, hb, k⟩ := stepV_some hc
      have := le_upV hb ha
      have cv := conv i a b ha hb
      rcases k with ⟨k, kg⟩ | ⟨k, kg⟩
      · omega
      · have : ¬ a - b = upV q s := fun z => kg (cv.mpr z)
        omega
    unfold apartV
    omega
  · have z2 : upV s q > 0 := by unfold apartV at h; omega
    obtain ⟨g, hg, al, hi⟩ := nearer (w := -1) (.inr rfl) hl hin as aq z2 (fun i a b ha hb => by have := le_upV ha hb; omega) (by
      obtain ⟨i, a, b, ha, hb, e⟩ := upV_at z2
      exact ⟨i, a, b, ha, hb, by omega⟩)
    refine fin g (-1) (.inr rfl) hg al ?_
    have conv : ∀ (i : Nat) a b, s[i]? = some a → q[i]? = some b → ((i : Int) ∈ g ↔ b - a = upV s q) := fun i a b ha hb => by
      have hlt := (List.getElem?_eq_some_iff.mp ha).1
      have e1 := at_get (s := s) (d := i) (by omega) (by omega)
      have e2 := at_get (s := q) (d := i) (by omega) (by omega)
      rw [Int.toNat_natCast, ha] at e1
      rw [Int.toNat_natCast, hb] at e2
      have := hi i hlt
      rw [← Option.some.inj e1, ← Option.some.inj e2] at this
      rw [this]
      constructor <;> intro _ <;> omega
    have h1 : upV s (stepV q g (-1)) ≤ upV s q - 1 := upV_le (by omega) fun i a c ha hc => by
      obtain ⟨b, hb, k⟩ := stepV_some hc
      have := le_upV ha hb
      have cv := conv i a b ha hb
      rcases k with ⟨k, kg⟩ | ⟨k, kg⟩
      · omega
      · have : ¬ b - a = upV s q := fun z => kg (cv.mpr z)
        omega
    have h2 : upV (stepV q g (-1)) s ≤ upV q s := upV_le (by omega) fun i c a hc ha => by
      obtain ⟨b, hb, k⟩ := stepV_some hc
      have := le_upV hb ha
      have cv := conv i a b ha hb
      rcases k with ⟨k, kg⟩ | ⟨k, kg⟩
      · have := cv.mp kg
        omega
      · omega
    unfold apartV
    omega
/-! #### how many standings are near -/
def codeV : List Int → List Int → Nat
  | a :: s, b :: q => (b - a + 7).toNat + 15 * codeV s q
  | _, _ => 0
theorem code_lt : ∀ {s q : List Int}, (∀ (i : Nat) a b, s[i]? = some a → q[i]? = some b → -7 ≤ b - a ∧ b - a ≤ 7) → codeV s q < 15 ^ s.length
  | [], _, _ => by
    unfold codeV
    decide
  | a :: s, [], _ => by
    unfold codeV
    exact Nat.pow_pos (by decide)
  | a :: s, b :: q, h => by
    have h0 := h 0 a b rfl rfl
    have ih := code_lt (s := s) (q := q) fun i a b ha hb => h (i + 1) a b (by simpa using ha) (by simpa using hb)
    unfold codeV
    rw [List.length_cons, Nat.pow_succ]
    omega
theorem code_inj : ∀ {s p q : List Int}, p.length = s.length → q.length = s.length → (∀ (i : Nat) a b, s[i]? = some a → p[i]? = some b → -7 ≤ b - a ∧ b - a ≤ 7) → (∀ (i : Nat) a b, s[i]? = some a → q[i]? = some b → -7 ≤ b - a ∧ b - a ≤ 7) → codeV s p = codeV s q → p = q
  | [], p, q, e1, e2, _, _, _ => by
    rw [List.eq_nil_of_length_eq_zero e1, List.eq_nil_of_length_eq_zero e2]
  | a :: s, [], _, e1, _, _, _, _ => by simp at e1
  | a :: s, _ :: _, [], _, e2, _, _, _ => by simp at e2
  | a :: s, b :: p, c :: q, e1, e2, h1, h2, e => by
    have b1 := h1 0 a b rfl rfl
    have b2 := h2 0 a c rfl rfl
    unfold codeV at e
    have k : b = c ∧ codeV s p = codeV s q := by omega
    rw [k.1, code_inj (by simpa using e1) (by simpa using e2) (fun i a b ha hb => h1 (i + 1) a b (by simpa using ha) (by simpa using hb)) (fun i a b ha hb => h2 (i + 1) a b (by simpa using ha) (by simpa using hb)) k.2]
theorem nodup_lt : ∀ (m : Nat) {L : List Nat}, L.Nodup → (∀ x ∈ L, x < m) → L.length ≤ m
  | 0, L, _, h => by
    cases L with
    | nil => exact Nat.le_refl 0
    | cons x L => exact absurd (h x (List.mem_cons_self ..)) (Nat.not_lt_zero x)
  | m + 1, L, nd, h => by
    have h1 := nodup_lt m (nd.erase m) fun x hx => by
      have := (nd.mem_erase_iff).mp hx
      have := h x this.2
      omega
    have e := List.length_erase (a := m) (l := L)
    split at e <;> omega
theorem near_count {s : List Int} {L : List (List Int)} (nd : L.Nodup) (h : ∀ q ∈ L, q.length = s.length ∧ apartV s q ≤ 7) : L.length ≤ 15 ^ s.length := by
  have hb : ∀ q ∈ L, ∀ (i : Nat) a b, s[i]? = some a → q[i]? = some b → -7 ≤ b - a ∧ b - a ≤ 7 := fun q hq i a b ha hb => by
    have k := (h q hq).2
    have k1 := le_upV ha hb
    have k2 := le_upV hb ha
    have g1 := upV_ge (s := s) (q := q)
    have g2 := upV_ge (s := q) (q := s)
    unfold apartV at k
    omega
  have := nodup_lt (15 ^ s.length) (L := L.map (codeV s)) (List.pairwise_map.mpr (List.Pairwise.imp_of_mem (fun {p q} hp hq ne e => ne (code_inj (h p hp).1 (h q hq).1 (hb p hp) (hb q hq) e)) nd)) fun x hx => by
    obtain ⟨q, hq, rfl⟩ := List.mem_map.mp hx
    exact code_lt (hb q hq)
  rw [List.length_map] at this
  exact this
end DL
/-! ### layer by layer; straight plans -/
namespace DL
open PySem PySem.Spec L2 PyProof.Rows
/-- allowed standings, k apart at most -/
def RkV (ts : List Tm) (s : List Int) (k : Int) (q : List Int) : Prop := q.length = s.length ∧ isNone (leftV ts q) = true ∧ apartV s q ≤ k
structure Layer (ts : List Tm) (s : List Int) (k : Int) (keys layer : List (List Int)) : Prop where
  nd : keys.Nodup
  all : ∀ q, q ∈ keys ↔ RkV ts s k q
  lay : ∀ q, q ∈ layer ↔ RkV ts s k q ∧ apartV s q = k
theorem Layer.start {ts : List Tm} {s : List Int} (as : isNone (leftV ts s) = true) : Layer ts s 0 [s] [s] := by
  have one : ∀ q, q ∈ [s] ↔ RkV ts s 0 q := fun q => by
    rw [List.mem_singleton]
    constructor
    · rintro rfl
      exact ⟨rfl, as, by rw [apart_self]; exact Int.le_refl 0⟩
    · rintro ⟨h1, _, h3⟩
      exact apart_zero h1.symm h3
  refine ⟨by simp, one, fun q => ?_⟩
  rw [one]
  exact ⟨fun h => ⟨h, by have := h.2.2; have := apart_ge (s := s) (q := q); omega⟩, fun h => h.1⟩
structure Mdl (ts : List Tm) (s : List Int) (k : Int) (keys later seen : List (List Int)) : Prop where
  nd : (keys ++ later).Nodup
  ok : ∀ q ∈ later, RkV ts s (k + 1) q
  cov : ∀ x ∈ seen, isNone (leftV ts x) = true → x ∈ keys ++ later
theorem Mdl.start {ts : List Tm} {s : List Int} {k : Int} {keys layer : List (List Int)} (L : Layer ts s k keys layer) : Mdl ts s k keys [] [] :=
  ⟨by rw [List.append_nil]; exact L.nd, fun q h => (nomatch h), fun q h => (nomatch h)⟩
theorem Mdl.old {ts : List Tm} {s : List Int} {k : Int} {keys later seen : List (List Int)} (h : Mdl ts s k keys later seen) {x : List Int} (hx : isNone (leftV ts x) = true → x ∈ keys ++ later) : Mdl ts s k keys later (seen ++ [x]) :=
  ⟨h.nd, h.ok, fun y hy al => by
    rcases List.mem_append.mp hy with hy | hy
    · exact h.cov y hy al
    · rw [List.mem_singleton.mp hy] at al ⊢
      exact hx al⟩
theorem Mdl.new {ts : List Tm} {s : List Int} {k : Int} {keys later seen : List (List Int)} (h : Mdl ts s k keys later seen) {x : List Int} (n : x ∉ keys ++ later) (r : RkV ts s (k + 1) x) : Mdl ts s k keys (later ++ [x]) (seen ++ [x]) := by
  refine ⟨?_, fun q hq => ?_, fun y hy al => ?_⟩
  · rw [← List.append_assoc]
    refine List.nodup_append.mpr ⟨h.nd, by simp, fun a ha b hb e => ?_⟩
    rw [List.mem_singleton.mp hb] at e
    exact n (by rw [← e]; exact ha)
  · rcases List.mem_append.mp hq with hq | hq
    · exact h.ok q hq
    · rw [List.mem_singleton.mp hq]
      exact r
  · rw [← List.append_assoc]
    rcases List.mem_append.mp hy with hy | hy
    · exact List.mem_append_left _ (h.cov y hy al)
    · exact List.mem_append_right _ hy
theorem Mdl.done {ts : List Tm} {s : List Int} {k : Int} {keys layer later seen : List (List Int)} (hin : ∀ t ∈ ts, t.In s.length ∧ t.low ≤ t.high) (as : isNone (leftV ts s) = true) (k0 : 0 ≤ k) (L : Layer ts s k keys layer) (h : Mdl ts s k keys later seen)
    (hs : ∀ one ∈ layer, ∀ w : Int, (w = 1 ∨ w = -1) → ∀ g ∈ gsL s.length, stepV one g w ∈ seen) : Layer ts s (k + 1) (keys ++ later) later := by
  have reach : ∀ q, RkV ts s (k + 1) q → apartV s q = k + 1 → q ∈ later := fun q r e => by
    obtain ⟨p, g, w, hw, hg, al, hl, hd, eq⟩ := nearer_one r.1.symm hin as r.2.1 (by omega)
    have hp : p ∈ layer := (L.lay p).mpr ⟨⟨hl, al, by omega⟩, by omega⟩
    have hm := h.cov _ (hs p hp w hw g hg) (by rw [← eq]; exact r.2.1)
    rw [← eq] at hm
    rcases List.mem_append.mp hm with hm | hm
    · have := ((L.all q).mp hm).2.2
      omega
    · exact hm
  have lat : ∀ q ∈ later, apartV s q = k + 1 := fun q hq => by
    have r := h.ok q hq
    have := r.2.2
    rcases Int.lt_or_eq_of_le this with z | z
    · have hk : q ∈ keys := (L.all q).mpr ⟨r.1, r.2.1, by omega⟩
      have := List.nodup_append.mp h.nd
      exact absurd rfl (this.2.2 q hk q hq)
    · exact z
  refine ⟨h.nd, fun q => ?_, fun q => ?_⟩
  · rw [List.mem_append]
    constructor
    · rintro (hq | hq)
      · have r := (L.all q).mp hq
        exact ⟨r.1, r.2.1, by have := r.2.2; omega⟩
      · exact h.ok q hq
    · intro r
      rcases Int.lt_or_eq_of_le r.2.2 with z | z
      · exact .inl ((L.all q).mpr ⟨r.1, r.2.1, by omega⟩)
      · exact .inr (reach q r z)
  · exact ⟨fun hq => ⟨h.ok q hq, lat q hq⟩, fun ⟨r, e⟩ => reach q r e⟩
theorem Mdl.count {ts : List Tm} {s : List Int} {k : Int} {keys layer later seen : List (List Int)} (L : Layer ts s k keys layer) (h : Mdl ts s k keys later seen) (k6 : k ≤ 6) (h3 : s.length ≤ 3) : (keys ++ later).length ≤ 3375 := by
  have := near_count (s := s) h.nd fun q hq => by
    rcases List.mem_append.mp hq with hq | hq
    · have r := (L.all q).mp hq
      exact ⟨r.1, by have := r.2.2; omega⟩
    · have r := h.ok q hq
      exact ⟨r.1, by have := r.2.2; omega⟩
  have e : 15 ^ s.length ≤ 15 ^ 3 := Nat.pow_le_pow_right (by decide) h3
  have : (15 : Nat) ^ 3 = 3375 := by decide
  omega
/-- the steps from a standing, one after another -/
def nextsW (n : Nat) (one : List Int) (w : Int) : List (List Int) := (gsL n).map fun g => stepV one g w
def nextsV (n : Nat) (one : List Int) : List (List Int) := ([1, -1] : List Int).flatMap (nextsW n one)
theorem nexts_mem {n : Nat} {one g : List Int} {w : Int} (hw : w = 1 ∨ w = -1) (hg : g ∈ gsL n) : stepV one g w ∈ nextsV n one := by
  unfold nextsV
  refine List.mem_flatMap.mpr ⟨w, by rcases hw with rfl | rfl <;> simp, ?_⟩
  exact List.mem_map.mpr ⟨g, hg, rfl⟩
/-! #### keys -/
def keyOf (q : List Int) : List L2.Key := q.map Sum.inl
theorem keyOf_inj {p q : List Int} (h : keyOf p = keyOf q) : p = q := by
  unfold keyOf at h
  exact List.map_inj_right (fun a b e => Sum.inl.inj e) |>.mp h
theorem keyOf_mem {q : List Int} {L : List (List Int)} : keyOf q ∈ L.map keyOf ↔ q ∈ L := by
  rw [List.mem_map]
  exact ⟨fun ⟨p, hp, e⟩ => by rw [← keyOf_inj e]; exact hp, fun h => ⟨q, h, rfl⟩⟩
theorem keyOf_dat (q : List Int) : PyData.tuple ((keyOf q).map keyD) = .tuple (q.map .int) := by
  unfold keyOf
  rw [List.map_map]
  rfl
/-! #### the greatest of some: in any order, with what is below 0 cut off -/
theorem mostF_perm {α : Type} {f : α → Int} {L M : List α} (h : L.Perm M) : mostF f L = mostF f M := by
  have one : ∀ {L M : List α}, (∀ x, x ∈ L → x ∈ M) → mostF f L ≤ mostF f M := fun {L M} h => by
    rcases Int.lt_or_eq_of_le (mostF_ge (f := f) (L := L)).1 with z | z
    · obtain ⟨x, hx, e⟩ := mostF_in z
      rw [← e]
      exact (mostF_ge (f := f) (L := M)).2 x (h x hx)
    · rw [← z]
      exact (mostF_ge (f := f) (L := M)).1
  exact Int.le_antisymm (one fun x hx => h.mem_iff.mp hx) (one fun x hx => h.mem_iff.mpr hx)
theorem foldl_cut {α : Type} (f h : α → Int) (e : ∀ x, h x = if f x > 0 then f x else 0) : ∀ (L : List α) (m : Int), 0 ≤ m → (L.map h).foldl (fun m x => if id x > m then id x else m) m = L.foldl (fun m x => if f x > m then f x else m) m
  | [], m, _ => rfl
  | x :: L, m, m0 => by
    rw [List.map_cons, List.foldl_cons, List.foldl_cons]
    have k : (if id (h x) > m then id (h x) else m) = if f x > m then f x else m := by
      show (if h x > m then h x else m) = _
      rw [e]
      by_cases z : f x > 0
      · rw [if_pos z]
      · rw [if_neg z, if_neg (by omega), if_neg (by omega)]
    rw [k]
    exact foldl_cut f h e L _ (by split <;> omega)
theorem mostF_cut {α : Type} (f h : α → Int) (e : ∀ x, h x = if f x > 0 then f x else 0) (L : List α) : mostF id (L.map h) = mostF f L := foldl_cut f h e L 0 (Int.le_refl 0)
def topV (s q : List Int) : List Int := (s.zip q).map fun p => if p.2 > p.1 then p.2 else p.1
theorem top_up : ∀ s q : List Int, ((topV s q).zip s).map (fun p => p.1 - p.2) = (s.zip q).map fun p => if p.2 - p.1 > 0 then p.2 - p.1 else 0
  | [], _ => rfl
  | _ :: _, [] => rfl
  | a :: s, b :: q => by
    have ih := top_up s q
    unfold topV at ih ⊢
    simp only [List.zip_cons_cons, List.map_cons]
    rw [ih]
    congr 1
    by_cases z : b > a
    · rw [if_pos z, if_pos (by omega)]
    · rw [if_neg z, if_neg (by omega)]
      omega
theorem top_down : ∀ s q : List Int, ((topV s q).zip q).map (fun p => p.1 - p.2) = (q.zip s).map fun p => if p.2 - p.1 > 0 then p.2 - p.1 else 0
  | [], q => by
    unfold topV
    simp
  | _ :: _, [] => rfl
  | a :: s, b :: q => by
    have ih := top_down s q
    unfold topV at ih ⊢
    simp only [List.zip_cons_cons, List.map_cons]
    rw [ih]
    congr 1
    by_cases z : b > a
    · rw [if_pos z, if_neg (by omega)]
      omega
    · rw [if_neg z]
      by_cases y : a - b > 0
      · rw [if_pos y]
      · rw [if_neg y]
        omega
theorem top_most {s q : List Int} : mostF id (((topV s q).zip s).map fun p => p.1 - p.2) = upV s q := by
  rw [top_up]
  exact mostF_cut (fun p : Int × Int => p.2 - p.1) _ (fun _ => rfl) _
theorem top_most2 {s q : List Int} : mostF id (((topV s q).zip q).map fun p => p.1 - p.2) = upV q s := by
  rw [top_down]
  exact mostF_cut (fun p : Int × Int => p.2 - p.1) _ (fun _ => rfl) _
/-! #### sorted ints -/
theorem ints_sorted {L : List Int} {Q : PyData → Prop} (q : ∀ M : List Int, M.Perm L → M.Pairwise (· ≤ ·) → Q (.list (M.map .int))) : cSorted [.list (L.map .int)] Q := by
  have e : (L.map PyData.int).mergeSort (PySem.W.dataLe false id) = (L.mergeSort fun a b => decide (a ≤ b)).map .int :=
    (List.map_mergeSort (s := PySem.W.dataLe false id) (f := PyData.int) (r := fun a b : Int => decide (a ≤ b)) (l := L) fun a _ b _ => by
      have e := congrFun (congrFun (PySem.W.dataLe_int (fun b : Int => b)) a) b
      exact e.symm).symm
  refine ⟨PySem.W.AllAlike.of fun a b => by simp [PySem.W.alike], PySem.W.Sortable.others fun b => ⟨(fun z => nomatch z), fun xs z => nomatch z⟩, ints_nodict L, fun d hd => ?_, ?_⟩
  · obtain ⟨i, _, rfl⟩ := List.mem_map.mp hd
    simp [PyData.depth]
  · rw [e]
    refine q _ (List.mergeSort_perm ..) ?_
    have := List.pairwise_mergeSort (le := fun a b : Int => decide (a ≤ b)) (fun a b c h g => decide_eq_true (Int.le_trans (of_decide_eq_true h) (of_decide_eq_true g))) (fun a b => by rcases Int.le_total a b with h | h <;> simp [h]) L
    exact this.imp fun h => of_decide_eq_true h
/-! #### contracts -/
abbrev Itm := Int × List Int × Int
def itmD (x : Itm) : PyData := .tuple [.int x.1, rowD x.2.1, .int x.2.2]
def timesV (L : List Itm) : Int := (L.map fun x => x.2.2).sum
theorem times_app (L M : List Itm) : timesV (L ++ M) = timesV L + timesV M := by
  unfold timesV
  rw [List.map_append, List.sum_append]
def lawApartR : DR := fun xs Q => ∃ s q : List Int, xs = [.dat (.tuple (s.map .int)), .dat (.tuple (q.map .int))] ∧ s.length = q.length ∧ s.length < 1000 ∧ Q (.tuple [.int (upV s q), .int (upV q s)])
def straightR : DR := fun xs Q => ∃ (w : Int) (L : List Int), xs = [.dat (.int w), .dat (.list (L.map .int))] ∧ L.length ≤ 8 ∧ ∀ items : List Itm, items.length ≤ 8 → timesV items = mostF id L → Q (.list (items.map itmD))
def shortR (C : Addr) : DR := fun xs Q => ∃ (n : Int) (ts : List Tm) (s q : List Int), xs = [.dat (brdD C n (ts.map Tm.py)), .dat (.tuple (s.map .int)), .dat (.tuple (q.map .int))] ∧ Fine ts s ∧ Fine ts q ∧ isNone (leftV ts s) = true ∧ isNone (leftV ts q) = true ∧ s.length ≤ 8 ∧ q.length = s.length ∧
  ∀ items : List Itm, items.length ≤ 16 → timesV items = apartV s q → Q (.list (items.map itmD))
def wander2R : DR := fun xs Q => ∃ (ts : List Tm) (ss : List Int) (n : Nat) (r m : Int), xs = [.bag, .dat (.list (ts.map Tm.py)), .dat (.tuple (ss.map .int)), .dat (.int m)] ∧ ts.length ≤ 24 ∧ (∀ t ∈ ts, t.Fair n) ∧ 1 ≤ n ∧ n ≤ 8 ∧ Walk ts n r ss ∧ r < 10 ^ 39 ∧ 0 ≤ m ∧ m ≤ 100 ∧
  ∀ uu, Walk ts n (r + m) uu → apartV ss uu ≤ m → Q (.tuple (uu.map .int))
def layersR : DR := fun xs Q => ∃ (ts : List Tm) (s o : List Int) (n : Nat) (m : Int), xs = [.dat (.list (ts.map Tm.py)), .dat (.tuple (s.map .int)), .dat (.tuple (o.map .int)), .dat (.int m)] ∧ ts.length ≤ 24 ∧ (∀ t ∈ ts, t.Fair n) ∧ 1 ≤ n ∧ n ≤ 3 ∧ Walk ts n 1000 s ∧ Walk ts n 1000 o ∧ apartV s o ≤ m ∧ 0 ≤ m ∧ m ≤ 6 ∧ Q (.int (apartV s o))
def nearR2 : DR := fun xs Q => ∃ n : Nat, xs = [.bag, .dat (.int n)] ∧ 1 ≤ n ∧ n ≤ 3 ∧ ∀ (ss : List Int) (ts : List Tm), ss.length = n → (∀ x ∈ ss, -3 ≤ x ∧ x ≤ 3) → ts.length ≤ 7 → (∀ t ∈ ts, t.Good n ∧ t.Holds ss) → Q (.tuple [.tuple (ss.map .int), .list (ts.map Tm.py)])
end DL
/-! ### x, y = data, a new list, where it is one assignment of a tuple -/
namespace DL
open PySem PySem.Spec L2 PyProof.Rows
section
variable {X : Cx} {B : Gr} {a b : Expr} {te te2 : TE} {d : TDE} {t : TDL} {pos : Pos}
theorem ds_asgDN {i j : Nat} {x y : Str} {px py pt : Pos} {kt k2 pt2} (hc : X.calm = true) (hN : X.N.Nodup) (hi : X.N[i]? = some x) (hj : X.N[j]? = some y) (hx : Loc X.env.scope x) (hy : Loc X.env.scope y) (ha : PD X B a te d) (hb : PDF X B b te2 t)
    (hf : X.fn x = true ∨ X.env.scope.names.lookup x = some .local := by first | exact .inl rfl | exact .inr rfl) (hf2 : X.fn y = true ∨ X.env.scope.names.lookup y = some .local := by first | exact .inl rfl | exact .inr rfl)
    (hp : PG X (.Tuple [.Name x px, .Name y py] kt pt) (gTup X.K 2 (gCons (gName i) (gCons (gName j) gNil))))
    (hs : swapsWithSole [.Tuple [.Name x px, .Name y py] kt pt] (.Tuple [a, b] k2 pt2) pos.line X.env = pure false := by rfl) (hw : swappedStores [.Tuple [.Name x px, .Name y py] kt pt] (.Tuple [a, b] k2 pt2) X.env = pure none := by rfl)
    (h0 : (assignEach [.Tuple [.Name x px, .Name y py] kt pt] X.env).map (·.2) = [assign (.Tuple [.Name x px, .Name y py] kt pt) X.env] := by rfl)
    (h1 : starEach [a, b] X.env = (false, eval a X.env) :: starEach [b] X.env := by rfl) (h2 : starEach [b] X.env = (false, eval b X.env) :: starEach [] X.env := by rfl) :
    PDS X B (.Assign [.Tuple [.Name x px, .Name y py] kt pt] (.Tuple [a, b] k2 pt2) pos) (tAsg (tTup (tCons te (tCons te2 tNil))) (gTup X.K 2 (gCons (gName i) (gCons (gName j) gNil)))) (sParDN i j d t) :=
  ⟨ps_asg (pe_tup (pa_cons ha.pe (pa_cons hb.pe pa_nil h2) h1)) hp hs hw h0, fun M σ H ds DD D en o q c =>
    ha.se M σ H ds _ _ en.g o.at_ q fun v H1 x g1 k1 hx q1 => hb.sf M σ H1 ds _ _ g1 (o.at_.keep en.g.1 k1) q1 fun p xs l H2 g2 k2 hp hl q2 => by
      refine ⟨by show 2 ≤ sizeLine; rw [sizeLine_eq]; decide, fun z hz => ⟨z, [v, .ref p], rfl, SqT.of upd_same, rfl, v, [.ref p], rfl, .ref p, [], rfl, rfl, ?_⟩⟩
      have kk := k1.trans k2
      have mB := en.g.1
      have nB : p ≠ B.a := fun w => by
        obtain ⟨u, hu⟩ := g2.2.1 B.a g2.1
        rw [w, hu] at hp
        cases hp
      have gA := g2.addM (o := .lst xs) hp
      have gQ := gA.new (o := .tup [v, .ref p]) hz
      have pz : p ≠ z := fun w => by rw [← w, upd_same] at hz; cases hz
      have k3 : Keep M B.a H2 (upd (upd H2 p (.lst xs)) z (.tup [v, .ref p])) := (Keep.new hp).trans (Keep.new hz)
      have st3 : Stay M H2 (wM M p) (upd (upd H2 p (.lst xs)) z (.tup [v, .ref p])) := fun c u n e => ⟨fun w => w.elim n (ne_of_none e hp), k3.k c u (fun w => n (by rw [w]; exact mB)) e⟩
      have o2 := (o.expr mB kk).sub (EnvAt.set (.dat (hx.keep mB k2)) i (o.expr mB kk).at_) Sub.set
      have o3 := o2.newO (i := j) (vi := .ref p) (xi := .grow l) (fun _ => .inl) k3 st3 (.grow (.inr rfl) nB (g2.fresh0 hp) (by rw [upd_ne pz]; exact upd_same) (hl.map st3)) fun aa f => by cases f; exact hp
      exact c.nx (wM M p) _ _ _ ⟨gQ⟩ ((kk.stay mB).trans st3) o3 q2⟩
end
end DL
/-! ### layer by layer: what a turn needs -/
namespace DL
open PySem PySem.Spec L2 PyProof.Rows
theorem RkV.walk {ts : List Tm} {s q : List Int} {k r : Int} {n : Nat} (h : RkV ts s k q) (w : Walk ts n r s) : Walk ts n (r + k) q := by
  refine ⟨by rw [h.1, w.len], fun x hx => ?_, h.2.1⟩
  obtain ⟨i, hi⟩ := List.getElem?_of_mem hx
  have hl := (List.getElem?_eq_some_iff.mp hi).1
  have hs : s[i]? = some (s[i]'(by rw [← h.1]; exact hl)) := List.getElem?_eq_getElem _
  have a1 := w.within _ (List.mem_of_getElem? hs)
  have a2 := le_upV hs hi
  have a3 := le_upV hi hs
  have a4 := upV_ge (s := s) (q := q)
  have a5 := upV_ge (s := q) (q := s)
  have a6 := h.2.2
  unfold apartV at a6
  omega
theorem RkV.next {ts : List Tm} {s q g : List Int} {k w : Int} (h : RkV ts s k q) (hw : w = 1 ∨ w = -1) (al : isNone (leftV ts (stepV q g w)) = true) : RkV ts s (k + 1) (stepV q g w) :=
  ⟨by rw [stepV_len]; exact h.1, al, by have := apart_step (s := s) (q := q) (g := g) hw; have := h.2.2; omega⟩
def tpD (q : List Int) : PyData := .tuple (q.map .int)
theorem tp_key (q : List Int) : tpD q = .tuple ((keyOf q).map keyD) := (keyOf_dat q).symm
/-- the keys of a dict of standings -/
def knownD (keys : List (List Int)) : DV := .obj (.dT (keys.map keyOf) (keys.map fun _ => .bool true))
theorem known_snoc (keys : List (List Int)) (q : List Int) : DV.obj (.dT (keys.map keyOf ++ [keyOf q]) ((keys.map fun _ => PyData.bool true) ++ [.bool true])) = knownD (keys ++ [q]) := by
  unfold knownD
  rw [List.map_append, List.map_append]
  rfl
theorem known_in {keys : List (List Int)} {q : List Int} : decide (keyOf q ∈ keys.map keyOf) = decide (q ∈ keys) := by
  rw [Bool.eq_iff_iff, decide_eq_true_eq, decide_eq_true_eq]
  exact keyOf_mem
/-- a statement, and what the rest needs of where it ends -/
theorem seq_post {a b : TDS} {DD : DEnds} {ds : DEnv} (P : DEnv → Prop) (h : ∀ N : DEnv → Prop, (∀ ds', P ds' → N ds') → a { nx := N, rt := DD.rt, bk := DD.bk, ct := DD.ct } ds) (k : ∀ ds', P ds' → b DD ds') : sSeq a b DD ds := h _ k
/-- an if whose both ways are good -/
theorem if_any {c : TDT} {t u : TDS} {DD : DEnds} {ds : DEnv} (hc : ∀ Q : Bool → Prop, Q true → Q false → c ds Q) (ht : t DD ds) (hu : u DD ds) : sIf c t u DD ds :=
  hc _ ⟨fun _ => ht, fun z => nomatch z⟩ ⟨(fun z => nomatch z), fun _ => hu⟩
/-- a chained comparison of ints, whatever it says -/
theorem chain_ints {a b c : TDE} {ds : DEnv} {i j k : Int} {p p' : Int → Int → Bool} {Q : PyData → Prop} (ha : a ds = fun Q => Q (.int i)) (hb : b ds = fun Q => Q (.int j)) (hc : c ds = fun Q => Q (.int k)) (q : ∀ x : Bool, Q (.bool x)) : dChain (rCmpI p) (rCmpI p') a b c ds Q := by
  unfold dChain
  rw [ha]
  dsimp only
  rw [hb]
  dsimp only [rCmpI]
  cases p i j with
  | false => exact q false
  | true =>
    dsimp only
    rw [hc]
    exact q _
/-- two ints in order -/
theorem two_sorted {a b : Int} {Q : PyData → Prop} (q : ∀ l h : Int, l ≤ h → (l = a ∨ l = b) → (h = a ∨ h = b) → Q (.list [.int l, .int h])) : cSorted [.list [.int a, .int b]] Q :=
  ints_sorted (L := [a, b]) fun M pm srt => by
    have l := pm.length_eq
    match M, l, pm, srt with
    | [x, y], _, pm, srt =>
      have hx := pm.mem_iff.mp (List.mem_cons_self (a := x) (l := [y]))
      have hy := pm.mem_iff.mp (List.mem_cons_of_mem x (List.mem_singleton.mpr (rfl : y = y)))
      refine q x y ((List.pairwise_cons.mp srt).1 y (List.mem_singleton.mpr rfl)) (by simpa using hx) (by simpa using hy)
end DL
/-! ### sorted(d), d a dict by tuples -/
namespace DL
open PySem PySem.Spec L2 PyProof.Rows
def keyTD (k : List L2.Key) : PyData := .tuple (k.map keyD)
def rSortedT (K : PySem.W.Frag) : List V → Hp → VK → Prop := fun vs H Q => ∃ (a : Addr) (kvs : List (List L2.Key × V)), vs = [.ref a] ∧ H a = some (.dT kvs) ∧ PySem.W.AllAlike (kvs.map fun p => keyTD p.1) ∧ PySem.W.Sortable (kvs.map fun p => keyTD p.1) ∧
  ∀ (p : Addr) (bs : List Addr), H p = none → IsKeys H kvs bs → Q (.ref p) (upd H p (.lst ((sortZ (bs.map V.ref) (kvs.map fun p => keyTD p.1)).map Prod.fst)))
theorem keys_dp {K : PySem.W.Frag} {H : Hp} : ∀ {k : List L2.Key}, DpAll K H (k.map kV) (k.map keyD)
  | [] => .nil
  | .inl i :: k => .cons (.int i) keys_dp
  | .inr x :: k => .cons (.str x) keys_dp
theorem isKeys_dp {K : PySem.W.Frag} {H : Hp} : ∀ {kvs : List (List L2.Key × V)} {bs : List Addr}, IsKeys H kvs bs → DpAll K H (bs.map V.ref) (kvs.map fun p => keyTD p.1)
  | [], _, h => by cases h; exact .nil
  | p :: kvs, _, h => by
    cases h with
    | cons h1 h2 => exact .cons (.tup (.inl (.inl h1)) keys_dp) (isKeys_dp h2)
theorem key_depth (k : List L2.Key) : (keyTD k).depth ≤ 1 := by
  unfold keyTD
  simp only [PyData.depth]
  have : ∀ k : List L2.Key, PyData.depthAll (k.map keyD) = 0 := fun k => by
    induction k with
    | nil => rfl
    | cons x k ih => cases x <;> simp [PyData.depthAll, PyData.depth, keyD, ih]
  rw [this]
  omega
theorem call_sortedT {X : Cx} (hc : X.calm = true) (hu : X.A.units + 64 < cLine) : CallR X (.builtin "sorted") (rSortedT X.K) := by
  intro pins s σ H vs us Q I r h
  obtain ⟨a, kvs, rfl, eA, al, so, q⟩ := h
  obtain ⟨u, rfl, rx⟩ := r.one
  cases rx
  obtain ⟨z, hs, ks, pr, o, es, ep, ho, hx, hdt, he, hn⟩ := (show ObjOk X.prog X.w H s.heap a (.dT kvs) from I.hok _ _ eA)
  have l1 : es.size = ks.length := size_of_entries he
  have l2 : kvs.length = ks.length := Paired.length pr
  refine Calls.call_function_entry PyProof.Rows.kind_sorted PyProof.Rows.plain_sorted PyProof.Rows.entry_sorted (PyProof.Rows.args_sorted1 _) ?_
  unfold Builtin.«sorted»
  refine wpAny_bind (m := checkCount "sorted" 1 1 _) (wpAny_pure ?_)
  refine wpAny_bind (PySem.W.kdu_collect (A := X.A.in1) (kdl_raw hs hx hdt) (I.ok.hd hc) ho (by omega) fun h' tk acc hk it => ?_)
  have ea : acc.toList = ks.map fun x => Value.ref x.2.1 := by
    have hl : acc.toList.length = ks.length := by rw [Array.length_toList, it.1]; exact l1
    apply List.ext_getElem?
    intro j
    rw [List.getElem?_map]
    cases hj : acc.toList[j]? with
    | none =>
      have h1 := List.getElem?_eq_none_iff.mp hj
      rw [List.getElem?_eq_none (by omega)]
      all_goals rfl
    | some v =>
      obtain ⟨en, hen, hv⟩ := it.2 j v (by rw [← Array.getElem?_toList]; exact hj)
      have qe := entry_at he j
      rw [hen] at qe
      cases hb : ks[j]? with
      | none =>
        rw [hb] at qe
        exact nomatch (show some en = none from qe)
      | some b =>
        rw [hb] at qe
        have e2 : en = entryOfKey (tupleKind (mixKind X.prog X.w)) b := Option.some.inj qe
        rw [hv, e2]
        all_goals rfl
  have eb : acc.toList = (ks.map fun x => x.2.1).map Value.ref := by rw [ea, List.map_map]; all_goals rfl
  have rv : Vals ((ks.map fun x => x.2.1).map V.ref) acc.toList := by rw [eb]; exact vals_refs _
  have ik : IsKeys H kvs (ks.map fun x => x.2.1) := isKeys_of pr
  have I1 : Inv X pins σ H { s with heap := h', toks := tk } := I.kept hk
  have dp := isKeys_dp (K := X.K) ik
  obtain ⟨as, ra⟩ := Dp.readsAll I1 _ _ _ dp rv
  have ld := DL.DpAll.length dp
  have es2 : (((ks.map fun x => x.2.1).map V.ref).zip (kvs.map fun p => keyTD p.1)).map Prod.snd = kvs.map fun p => keyTD p.1 := List.map_snd_zip (by omega)
  have e1 := each_rel rv ld
  have er := each_reads ra ld
  generalize hzs : ((ks.map fun x => x.2.1).map V.ref).zip (kvs.map fun p => keyTD p.1) = zs at *
  have hal : acc.toList.length = ks.length := by rw [ea, List.length_map]
  refine wpAny_bind (wpAny_newList ?_ (by rw [hal]; omega))
  have hoL : (h'.push (seqObj "list" acc.toList.toArray 0)).get? h'.objs.size = some (seqObj "list" acc.toList.toArray 0) := Heap.get?_push_size _ rfl
  have er' : PySem.W.EachIs (fun (v : Value) (b : V × PyData) => ∃ as, Reads (PySem.W.sortingHeap (h'.push (seqObj "list" acc.toList.toArray 0)) h'.objs.size acc.toList) v b.2 as) acc.toList zs := er.mono fun _ _ ⟨as, r⟩ => ⟨as, Reads.keeps (fun b o e => PySem.W.sortingHeap_old (Nat.ne_of_lt (Heap.lt_size e)) (Heap.get?_push_of_some _ e)) r⟩
  have al2 : PySem.W.AllAlike (zs.map Prod.snd) := by rw [es2]; exact al
  have so2 : PySem.W.Sortable (zs.map Prod.snd) := by rw [es2]; exact so
  have eo := PySem.W.sortVals_data (h' := PySem.W.sortingHeap (h'.push (seqObj "list" acc.toList.toArray 0)) h'.objs.size acc.toList) (enc := Prod.snd) false e1 er' al2
  have lo := PySem.W.sortVals_length (κ := PySem.W.dataKind (PySem.W.sortingHeap (h'.push (seqObj "list" acc.toList.toArray 0)) h'.objs.size acc.toList) (zs.map Prod.snd)) false (rfl : acc.toList.length = acc.toList.length)
  have hdep : ∀ d ∈ zs.map Prod.snd, X.A.in1.units + 1 + d.depth < cLine := fun d hd => by
    rw [es2] at hd
    obtain ⟨p, _, rfl⟩ := List.mem_map.mp hd
    have := key_depth p.1
    show X.A.units + 1 + 1 + _ < cLine
    omega
  show wpAny _ _ _ _ _ { s with heap := h'.push (seqObj "list" acc.toList.toArray 0), toks := tk }
  refine wpAny_bind (wpAny_holding (wpAny_call_entry PyProof.Rows.slot_list_sort ⟨_, hoL, rfl⟩ PyProof.Rows.entry_list_sort
    (PySem.W.list_sort_vals (κ := PySem.W.dataKind (PySem.W.sortingHeap (h'.push (seqObj "list" acc.toList.toArray 0)) h'.objs.size acc.toList) (zs.map Prod.snd)) hoL
      (PySem.W.SortsAt.data (s := { s with heap := PySem.W.sortingHeap (h'.push (seqObj "list" acc.toList.toArray 0)) h'.objs.size acc.toList, toks := tk }) (PySem.W.each_map (R := fun v d => ∃ as, Reads (PySem.W.sortingHeap (h'.push (seqObj "list" acc.toList.toArray 0)) h'.objs.size acc.toList) v d as) Prod.snd er') al2 so2 hdep) (by rw [hal]; omega) ⟨_, rfl, ?_⟩) (PyProof.Rows.args_list_sort _)))
  generalize PySem.W.sortVals (PySem.W.dataKind (PySem.W.sortingHeap (h'.push (seqObj "list" acc.toList.toArray 0)) h'.objs.size acc.toList) (zs.map Prod.snd)) false acc.toList acc.toList = out at *
  obtain ⟨e', he'⟩ := PyProof.Rows.sortedHeap_at (vs := acc.toList) (out := out.toArray) hoL
  have ez : sortZ ((ks.map fun x => x.2.1).map V.ref) (kvs.map fun p => keyTD p.1) = zs.mergeSort (PySem.W.dataLe false Prod.snd) := by
    unfold sortZ
    rw [hzs]
  have lz : zs.length = ks.length := by rw [← hzs, List.length_zip, List.length_map, List.length_map, List.length_map]; omega
  have hlen : ((sortZ ((ks.map fun x => x.2.1).map V.ref) (kvs.map fun p => keyTD p.1)).map Prod.fst).length ≤ sizeLine := by
    rw [ez, List.length_map, List.length_mergeSort, lz]
    omega
  refine wpAny_pure ⟨_, rfl, .ref h'.objs.size, upd H h'.objs.size (.lst ((sortZ ((ks.map fun x => x.2.1).map V.ref) (kvs.map fun p => keyTD p.1)).map Prod.fst)), I1.laid (t' := tk) (fun b u e => ?_) (Nat.le_refl _)
    ⟨hlen, out, e', by rw [ez]; exact each_vals eo, he'⟩, rfl, q _ _ (I1.hok.fresh (Nat.le_refl _)) ik⟩
  have hb : b < h'.objs.size := Heap.lt_size e
  rw [PyProof.Rows.sortedHeap_old (Nat.ne_of_lt hb) (by rw [size_push']; exact Nat.lt_succ_of_lt hb)]
  exact Heap.get?_push_of_some _ e
end DL
/-! ### dicts by tuples: empty, asked, filled again, walked, sorted -/
namespace DL
open PySem PySem.Spec L2 PyProof.Rows
/-- what is at k -/
def atP {β : Type} (ps : List (List L2.Key × β)) (k : List L2.Key) : Option β := (ps.find? fun p => decide (p.1 = k)).map (·.2)
def putP {β : Type} (ps : List (List L2.Key × β)) (k : List L2.Key) (v : β) : List (List L2.Key × β) :=
  if (ps.any fun p => decide (p.1 = k)) = true then ps.map (fun p => if p.1 = k then (p.1, v) else p) else ps ++ [(k, v)]
theorem atP_V (ps : List (List L2.Key × V)) (k : List L2.Key) : valV ps k = atP ps k := rfl
theorem putP_V (ps : List (List L2.Key × V)) (k : List L2.Key) (v : V) : putK ps k v = putP ps k v := rfl
theorem atP_rel {M : Addr → Prop} {H : Hp} {k : List L2.Key} : ∀ {ks : List (List L2.Key)} {vs : List V} {dd : List PyData}, ks.length = vs.length → DtA M H vs dd →
    (atP (ks.zip vs) k = none ∧ atP (ks.zip dd) k = none) ∨ ∃ v d, atP (ks.zip vs) k = some v ∧ atP (ks.zip dd) k = some d ∧ Dt M H v d
  | [], _, _, _, _ => .inl ⟨rfl, rfl⟩
  | _ :: _, [], _, e, _ => nomatch e
  | x :: ks, v :: vs, _, e, .cons (d := d) (ds := ds) h t => by
    rw [List.zip_cons_cons, List.zip_cons_cons]
    unfold atP
    rw [List.find?_cons, List.find?_cons]
    by_cases z : x = k
    · rw [decide_eq_true z]
      exact .inr ⟨v, d, rfl, rfl, h⟩
    · rw [decide_eq_false z]
      exact atP_rel (by simpa using e) t
theorem any_keys {β : Type} {k : List L2.Key} : ∀ {ks : List (List L2.Key)} {vs : List β}, ks.length = vs.length → ((ks.zip vs).any fun p => decide (p.1 = k)) = decide (k ∈ ks)
  | [], _, _ => rfl
  | _ :: _, [], e => nomatch e
  | x :: ks, v :: vs, e => by
    rw [List.zip_cons_cons, List.any_cons, any_keys (by simpa using e), Bool.eq_iff_iff, Bool.or_eq_true, decide_eq_true_eq, decide_eq_true_eq, decide_eq_true_eq, List.mem_cons]
    exact ⟨fun z => z.imp Eq.symm id, fun z => z.imp Eq.symm id⟩
def putKs (ks : List (List L2.Key)) (k : List L2.Key) : List (List L2.Key) := if k ∈ ks then ks else ks ++ [k]
theorem put_keys {β : Type} {k : List L2.Key} {v : β} {ks : List (List L2.Key)} {vs : List β} (e : ks.length = vs.length) : (putP (ks.zip vs) k v).map Prod.fst = putKs ks k := by
  unfold putP putKs
  rw [any_keys e]
  by_cases z : k ∈ ks
  · rw [if_pos (decide_eq_true z), if_pos z, List.map_map]
    have : ∀ p : List L2.Key × β, (Prod.fst ∘ fun p : List L2.Key × β => if p.1 = k then (p.1, v) else p) p = p.1 := fun p => by
      show (if p.1 = k then (p.1, v) else p).1 = p.1
      split <;> rfl
    rw [List.map_congr_left (g := Prod.fst) fun p _ => this p]
    exact List.map_fst_zip (by omega)
  · rw [if_neg (by rw [decide_eq_true_eq]; exact z), if_neg z, List.map_append, List.map_fst_zip (by omega)]
    rfl
theorem put_vals {M : Addr → Prop} {H : Hp} {k : List L2.Key} {v : V} {d : PyData} (h : Dt M H v d) {ks : List (List L2.Key)} {vs : List V} {dd : List PyData} (e : ks.length = vs.length) (a : DtA M H vs dd) :
    DtA M H ((putP (ks.zip vs) k v).map Prod.snd) ((putP (ks.zip dd) k d).map Prod.snd) := by
  have e2 : ks.length = dd.length := by rw [e, a.length]
  have rep : ∀ {ks : List (List L2.Key)} {vs : List V} {dd : List PyData}, ks.length = vs.length → DtA M H vs dd → DtA M H (((ks.zip vs).map fun p => if p.1 = k then (p.1, v) else p).map Prod.snd) (((ks.zip dd).map fun p => if p.1 = k then (p.1, d) else p).map Prod.snd) := by
    intro ks
    induction ks with
    | nil => intro vs dd _ _; exact .nil
    | cons x ks ih =>
      intro vs dd e a
      cases a with
      | nil => cases e
      | cons h1 t =>
        rw [List.zip_cons_cons, List.zip_cons_cons, List.map_cons, List.map_cons, List.map_cons, List.map_cons]
        refine .cons ?_ (ih (by simpa using e) t)
        by_cases z : x = k
        · rw [if_pos z, if_pos z]
          exact h
        · rw [if_neg z, if_neg z]
          exact h1
  unfold putP
  rw [any_keys e, any_keys e2]
  by_cases z : k ∈ ks
  · rw [if_pos (decide_eq_true z), if_pos (decide_eq_true z)]
    exact rep e a
  · rw [if_neg (by rw [decide_eq_true_eq]; exact z), if_neg (by rw [decide_eq_true_eq]; exact z), List.map_append, List.map_append, List.map_snd_zip (by omega), List.map_snd_zip (by omega)]
    exact a.append (.cons h .nil)
theorem zip_split {α β : Type} : ∀ l : List (α × β), l = (l.map Prod.fst).zip (l.map Prod.snd)
  | [] => rfl
  | p :: l => by rw [List.map_cons, List.map_cons, List.zip_cons_cons, ← zip_split l]
theorem put_len {β : Type} {k : List L2.Key} {v : β} {ks : List (List L2.Key)} {vs : List β} (e : ks.length = vs.length) : (putP (ks.zip vs) k v).length ≤ ks.length + 1 := by
  unfold putP
  split
  · rw [List.length_map, List.length_zip]
    omega
  · rw [List.length_append, List.length_zip]
    simp only [List.length_cons, List.length_nil]
    omega
/-! #### values by a function of the key -/
theorem atP_fun {β : Type} {W : List L2.Key → β} {k : List L2.Key} : ∀ {ks : List (List L2.Key)}, atP (ks.zip (ks.map W)) k = if k ∈ ks then some (W k) else none
  | [] => rfl
  | x :: ks => by
    rw [List.map_cons, List.zip_cons_cons]
    have ih := atP_fun (W := W) (k := k) (ks := ks)
    unfold atP at ih ⊢
    rw [List.find?_cons]
    by_cases z : x = k
    · rw [decide_eq_true z, if_pos (by rw [z]; exact List.mem_cons_self ..), ← z]
      rfl
    · rw [decide_eq_false z]
      show Option.map _ (List.find? _ _) = _
      rw [ih]
      by_cases y : k ∈ ks
      · rw [if_pos y, if_pos (List.mem_cons_of_mem _ y)]
      · rw [if_neg y, if_neg fun w => y ((List.mem_cons.mp w).resolve_left fun q => z q.symm)]
theorem putP_fun {β : Type} {W : List L2.Key → β} {k : List L2.Key} {v : β} {ks : List (List L2.Key)} : (putP (ks.zip (ks.map W)) k v).map Prod.snd = (putKs ks k).map fun j => if j = k then v else W j := by
  have rep : ∀ ks : List (List L2.Key), (((ks.zip (ks.map W)).map fun p => if p.1 = k then (p.1, v) else p).map Prod.snd) = ks.map fun j => if j = k then v else W j := fun ks => by
    induction ks with
    | nil => rfl
    | cons x ks ih =>
      rw [List.map_cons, List.zip_cons_cons, List.map_cons, List.map_cons, ih, List.map_cons]
      congr 1
      show (if x = k then (x, v) else (x, W x)).2 = _
      split <;> rfl
  unfold putP putKs
  rw [any_keys (by rw [List.length_map])]
  by_cases z : k ∈ ks
  · rw [if_pos (decide_eq_true z), if_pos z]
    exact rep ks
  · rw [if_neg (by rw [decide_eq_true_eq]; exact z), if_neg z, List.map_append, List.map_append, List.map_snd_zip (by rw [List.length_map]; omega)]
    congr 1
    · refine List.map_congr_left fun j hj => ?_
      rw [if_neg fun w => z (by rw [← w]; exact hj)]
    · show [v] = [if k = k then v else W k]
      rw [if_pos rfl]
/-! #### rules -/
section
variable {X : Cx} {B : Gr} {i : Nat} {b e ek ev : Expr} {te ta tb tk tv : TE} {d da db dk dv : TDE} {pos : Pos}
/-- x = {} -/
def sNewT (i : Nat) : TDS := fun DD ds => DD.nx (ds.set i (some (.obj (.dT [] []))))
theorem ds_newT {x : Str} {px pd : Pos} (hN : X.N.Nodup) (hi : X.N[i]? = some x) (hx : Loc X.env.scope x) (hs : swapsWith (.Dict [] [] pd) (some (.Name x px)) pos.line X.env = pure false := by rfl) (hf : X.fn x = true ∨ X.env.scope.names.lookup x = some .local := by first | exact .inl rfl | exact .inr rfl | assumption) :
    PDS X B (.Assign [.Name x px] (.Dict [] [] pd) pos) (tAsg tDNewT (gName i)) (sNewT i) := ⟨ps_set hN hi hx pe_dnewT hs hf, fun M σ H ds DD D en o q c => by
  intro p hp
  have nB : p ≠ B.a := fun z => by
    obtain ⟨u, hu⟩ := en.g.2.1 B.a en.g.1
    rw [z, hu] at hp
    cases hp
  have st : Stay M H (wM M p) (upd H p (.dT [])) := fun a u n ha => ⟨fun z => z.elim n (ne_of_none ha hp), by rw [upd_ne (ne_of_none ha hp)]; exact ha⟩
  exact c.nx (wM M p) _ _ _ ⟨en.g.addM hp⟩ st (o.newO (fun _ => .inl) (Keep.new hp) st (.obj (.inr rfl) nB (en.g.fresh0 hp) upd_same (show ObR (wM M p) _ (.dT (([] : List (List L2.Key)).zip ([] : List V))) (.dT [] []) from .dT rfl .nil)) fun a f => by cases f; exact hp) q⟩
/-- a dict's keys and values, locked or not -/
def tabT (o : Option (Option DV)) : Option (List (List L2.Key) × List PyData) := match o with
  | some (some (.obj (.dT ks dd))) => some (ks, dd)
  | some (some (.obj (.fT ks dd))) => some (ks, dd)
  | _ => none
theorem tab_get {M : Addr → Prop} {H : Hp} {σ : L2.St} {ds : DEnv} {ks : List (List L2.Key)} {dd : List PyData} (en : EnvAt M B H σ ds) (hi : tabT ds[i]? = some (ks, dd)) :
    ∃ a vs, σ[i]? = some (some (.ref a)) ∧ Rd H a (.dT (ks.zip vs)) ∧ ks.length = vs.length ∧ DtA M H vs dd := by
  unfold tabT at hi
  split at hi
  · rename_i ks' dd' e
    cases hi
    obtain ⟨v, hv, r⟩ := en.get i e
    cases r with
    | obj ma nb f0 e h =>
      cases h with
      | dT e2 a2 => exact ⟨_, _, hv, .inl e, e2, a2⟩
  · rename_i ks' dd' e
    cases hi
    obtain ⟨v, hv, r⟩ := en.get i e
    cases r with
    | obj ma nb f0 e h =>
      cases h with
      | fT e2 a2 => exact ⟨_, _, hv, .inr ⟨_, e⟩, e2, a2⟩
  · cases hi
/-- d[k] -/
def dAtT (i : Nat) (dk : TDE) : TDE := fun ds Q => match tabT ds[i]? with
  | some (ks, dd) => dk ds fun key => ∃ k y, key = keyTD k ∧ atP (ks.zip dd) k = some y ∧ Q y
  | none => False
theorem d_atT {x : Str} {px : Pos} (i : Nat) (hu : X.A.units + 64 < cLine) (hp : PE X (.Name x px) (tVar i)) (hk : PD X B ek tk dk) (hs : NoSl ek) : PD X B (.Subscript (.Name x px) ek pos) (tDGet (tVar i) tk) (dAtT i dk) :=
  ⟨pe_dget (by omega) hp hk.pe hs, fun M σ H ds Q R g en q c => by
    unfold dAtT at q
    split at q
    · rename_i ks dd hd
      obtain ⟨a, _, hv, _⟩ := tab_get en hd
      refine ⟨_, hv, hk.se M σ H ds _ _ g en q fun x H1 dx g1 k1 hx q1 => ?_⟩
      obtain ⟨k, y, ek, ey, q2⟩ := q1
      rw [ek] at hx
      obtain ⟨b, eb, hb⟩ := key_at hx
      obtain ⟨a2, vs, hv2, ra, el, av⟩ := tab_get (en.keep g.1 k1) hd
      rw [hv] at hv2
      cases hv2
      rcases atP_rel (k := k) el av with ⟨_, z⟩ | ⟨v, y2, e1, e2, hy⟩
      · rw [ey] at z
        cases z
      · rw [ey] at e2
        cases e2
        exact ⟨a, v, rfl, by rw [eb]; exact .inr ⟨_, _, _, ra, rfl, hb, by rw [atP_V, e1]⟩, c v H1 _ g1 k1 hy q2⟩
    · exact q.elim⟩
/-- d.get(k, z) -/
def dGetT (i : Nat) (dk dz : TDE) : TDE := fun ds Q => match tabT ds[i]? with
  | some (ks, dd) => dk ds fun key => dz ds fun z => ∃ k, key = keyTD k ∧ Q ((atP (ks.zip dd) k).getD z)
  | none => False
theorem d_getT {x : Str} {px apos cpos : Pos} {ez : Expr} {tz : TE} {dz : TDE} (i : Nat) (hu : X.A.units + 64 < cLine) (hp : PE X (.Name x px) (tVar i)) (hk : PD X B ek tk dk) (hz : PD X B ez tz dz) (m : M2 X (.Name x px) "get" apos ek ez cpos) :
    PD X B (.Call (.Attribute (.Name x px) "get" apos) [ek, ez] [] cpos) (tDGet2 (tVar i) tk tz) (dGetT i dk dz) :=
  ⟨pe_dget2 (by omega) hp hk.pe hz.pe m, fun M σ H ds Q R g en q c => by
    unfold dGetT at q
    split at q
    · rename_i ks dd hd
      obtain ⟨a, _, hv, ra0, _⟩ := tab_get en hd
      refine ⟨_, hv, a, rfl, .inr ⟨_, ra0⟩, hk.se M σ H ds _ _ g en q fun x H1 dx g1 k1 hx q1 => hz.se M σ H1 ds _ _ g1 (en.keep g.1 k1) q1 fun y H2 dy g2 k2 hy q2 => ?_⟩
      obtain ⟨k, ek, q3⟩ := q2
      have hx2 := hx.keep g1.1 k2
      rw [ek] at hx2
      obtain ⟨b, eb, hb⟩ := key_at hx2
      have kk := k1.trans k2
      obtain ⟨a2, vs, hv2, ra, el, av⟩ := tab_get (en.keep g.1 kk) hd
      rw [hv] at hv2
      cases hv2
      rcases atP_rel (k := k) el av with ⟨z1, z2⟩ | ⟨v, y2, e1, e2, hy2⟩
      · rw [z2] at q3
        exact ⟨none, by rw [eb]; exact .inr ⟨_, _, _, ra, rfl, hb, by rw [atP_V, z1]⟩, c y H2 _ g2 kk hy q3⟩
      · rw [e2] at q3
        exact ⟨some v, by rw [eb]; exact .inr ⟨_, _, _, ra, rfl, hb, by rw [atP_V, e1]⟩, c v H2 _ g2 kk hy2 q3⟩
    · exact q.elim⟩
/-- d[k] = v, k there before or not -/
def sPutA (i : Nat) (dk dv : TDE) : TDS := fun DD ds => match ds[i]? with
  | some (some (.obj (.dT ks dd))) => dv ds fun val => dk ds fun key => ∃ k : List L2.Key, key = keyTD k ∧ dSize (ks.length + 1) ∧ DD.nx (ds.set i (some (.obj (.dT (putKs ks k) ((putP (ks.zip dd) k val).map Prod.snd)))))
  | _ => False
theorem ds_putA {x : Str} {px ps1 : Pos} (i : Nat) (hu : X.A.units + 64 < cLine) (hp : PE X (.Name x px) (tVar i)) (hk : PD X B ek tk dk) (hv : PD X B ev tv dv) (hs : swapsWith ev (some (.Subscript (.Name x px) ek ps1)) pos.line X.env = pure false := by rfl) :
    PDS X B (.Assign [.Subscript (.Name x px) ek ps1] ev pos) (sDPut (tVar i) tk tv) (sPutA i dk dv) :=
  ⟨ps_dput (by omega) hp hk.pe hv.pe hs, fun M σ H ds DD D en o q c => by
    unfold sPutA at q
    split at q
    · rename_i ks dd hd
      obtain ⟨w, hw, _⟩ := o.at_.get i hd
      refine hv.se M σ H ds _ _ en.g o.at_ q fun v H1 dv g1 k1 hv1 q1 => ?_
      refine ⟨w, hw, ?_⟩
      refine hk.se M σ H1 ds _ _ g1 (o.at_.keep en.g.1 k1) q1 fun x H2 dx g2 k2 hx q2 => ?_
      obtain ⟨k, ek, hl, q3⟩ := q2
      rw [ek] at hx
      obtain ⟨b, eb, hb⟩ := key_at hx
      have kk := k1.trans k2
      obtain ⟨a, vs, hv, ma, nb, f0, ea, el, av⟩ := obj_get (o.at_.keep en.g.1 kk) hd
      rw [hw] at hv
      cases hv
      have hs2 : sizeLine = 16777216 := sizeLine_eq
      have zl : (ks.zip vs).length = ks.length := by rw [List.length_zip]; omega
      have hl2 : ks.length + 1 ≤ 1000000 := hl
      refine ⟨a, _, rfl, by rw [eb]; exact DPut.t ea hb (by rw [zl]; omega), ?_⟩
      rw [putP_V]
      have eZ : putP (ks.zip vs) k v = (putKs ks k).zip ((putP (ks.zip vs) k v).map Prod.snd) := by
        rw [← put_keys (v := v) el]
        exact zip_split _
      have el2 : (putKs ks k).length = ((putP (ks.zip vs) k v).map Prod.snd).length := by
        rw [← put_keys (v := v) el, List.length_map, List.length_map]
      have pv := put_vals (k := k) (hv1.keep en.g.1 k2) el av
      generalize hps : (putP (ks.zip vs) k v).map Prod.snd = vs2 at *
      rw [eZ]
      exact (c.nx.stay (kk.stay en.g.1)).chg (en.expr g2 kk) (o.expr en.g.1 kk) hd hw rfl ma nb f0 (.obj ma nb f0 upd_same (.dT el2 (pv.updD ma))) (fun _ f => f) q3
    · exact q.elim⟩
/-- sorted(d) -/
def dSortT (i : Nat) : TDE := fun ds Q => match ds[i]? with
  | some (some (.obj (.dT ks _))) => PySem.W.AllAlike (ks.map keyTD) ∧ PySem.W.Sortable (ks.map keyTD) ∧ Q (.list ((ks.map keyTD).mergeSort (PySem.W.dataLe false id)))
  | _ => False
theorem keyA {M : Addr → Prop} {H : Hp} : ∀ {k : List L2.Key}, DtA M H (k.map kV) (k.map keyD)
  | [] => .nil
  | .inl i :: k => .cons (.int i) keyA
  | .inr x :: k => .cons (.str x) keyA
theorem keys_dtA {M : Addr → Prop} {B : Gr} {H : Hp} (g : Good M B H) : ∀ {kvs : List (List L2.Key × V)} {bs : List Addr}, IsKeys H kvs bs → DtA M H (bs.map V.ref) (kvs.map fun p => keyTD p.1)
  | [], _, h => by cases h; exact .nil
  | p :: kvs, _, h => by
    cases h with
    | cons h1 h2 => exact .cons (.tup (fun m => g.d.nt _ m _ h1) h1 keyA) (keys_dtA g h2)
theorem sort_snd {xs : List V} {ds : List PyData} (e : xs.length = ds.length) : (sortZ xs ds).map Prod.snd = ds.mergeSort (PySem.W.dataLe false id) := by
  have es : (xs.zip ds).map Prod.snd = ds := List.map_snd_zip (by omega)
  unfold sortZ
  refine (List.map_mergeSort (s := PySem.W.dataLe false id) (r := PySem.W.dataLe false Prod.snd) (f := Prod.snd) (l := xs.zip ds) fun a _ b _ => rfl).trans ?_
  rw [es]
theorem d_sortT {x y : Str} {p px : Pos} (i : Nat) (K : PySem.W.Frag) (hc : X.calm = true) (hu : X.A.units + 64 < cLine) (hg : Gl X y) (hm : X.mg y = none) (hv : bootBuiltins y = some (.builtin "sorted")) (hp : PE X (.Name x px) (tVar i)) (hn : y ≠ "__name__" := by decide)
    (hdb : (y == ("__debug__" : Str)) = false := by decide) (he : starEach [.Name x px] X.env = (false, eval (.Name x px) X.env) :: starEach [] X.env := by rfl) (hpl : (backTo pos (starEach [] X.env)).any (·.1) = false := by rfl) (hK : X.K = K := by rfl) :
    PD X B (.Call (.Name y p) [.Name x px] [] pos) (tCB (rSortedT K) (tCons (tVar i) tNil)) (dSortT i) := by
  subst hK
  refine ⟨pe_callB (call_sortedT hc hu) hg hm hv (pa_cons hp pa_nil he) hn hdb he hpl, fun M σ H ds Q R g en q c => ?_⟩
  unfold dSortT at q
  split at q
  · rename_i ks dd hd
    obtain ⟨al, so, q2⟩ := q
    obtain ⟨a, vs, hv, ma, nb, f0, ea, el, av⟩ := obj_get en hd
    have ek : (ks.zip vs).map (fun p => keyTD p.1) = ks.map keyTD := by
      rw [show (fun p : List L2.Key × V => keyTD p.1) = keyTD ∘ Prod.fst from rfl, ← List.map_map, List.map_fst_zip (by omega)]
    refine ⟨_, hv, a, ks.zip vs, rfl, ea, by rw [ek]; exact al, by rw [ek]; exact so, fun p bs hp ik => c (.ref p) _ _ (g.new hp) (Keep.new hp) (Dt.newL g hp ?_) q2⟩
    have ka := keys_dtA g ik
    rw [ek] at ka ⊢
    rw [← sort_snd ka.length]
    exact DtA.of_zip fun p hp => ka.zip p ((List.mem_mergeSort).mp hp)
  · exact q.elim
/-! #### a comprehension over the keys -/
def ItOkK (M : Addr → Prop) (B : Gr) (H : Hp) (J : It) (items : List PyData) : Prop := ∀ D H2, Good (wM M D) B H2 → Keep M B.a H H2 → ∀ i, (i = items.length → J.stop i H2) ∧
  (i < items.length → J.go i H2 ∧ ∀ x H3, J.yld i H2 x H3 → Good (wM M D) B H3 ∧ Keep (wM M D) B H2 H3 ∧ ∃ d, items[i]? = some d ∧ Dt (wM M D) H3 x d)
theorem se_lcK {elt tg iter : Expr} {wi : TI} {tt : TG} {tT : TT} {te : TE} {g : TDG} {t : TDT} {d : TDE} {is vs : List Nat} {M : Addr → Prop} {σ : L2.St} {H : Hp} {ds : DEnv} {Q : PyData → Prop} {R : VK} {items : List PyData} {J : It}
    (hi : ∀ (R : It → Hp → Prop), R J H → wi σ H R) (ok : ItOkK M B H J items)
    (hg : ∀ (M : Addr → Prop) v d σ H ds Q (R : L2.St → Hp → Prop), Good M B H → EnvAt M B H σ ds → Dt M H v d → g d ds Q → (∀ σ' ds', EnvAt M B H σ' ds' → σ'.length = σ.length → (∀ j, j ∉ is → σ'[j]? = σ[j]?) → Sub σ ds σ' ds' → Q ds' → R σ' H) → tt v σ H R)
    (ht : ∀ (M : Addr → Prop) σ H ds Q (R : Bool → Hp → Prop), Good M B H → EnvAt M B H σ ds → t ds Q → (∀ b H', Good M B H' → Keep M B H H' → Q b → R b H') → tT σ H R)
    (he : SE B te d) (hv : ∀ j ∈ is, j ∈ vs) (g1 : Good M B H) (en : EnvAt M B H σ ds) (q1 : lcW g t d (wipeD ds vs) items [] Q) (hsz : items.length ≤ sizeLine) (c : Cont M B H Q R) : tLc wi tt tT te vs σ H R := by
  refine hi _ fun D hD => ?_
  have mB : M B := g1.1
  have nb : D ≠ B := fun z => by
    obtain ⟨o, e⟩ := g1.2.1 B mB
    rw [z, e] at hD
    cases hD
  have en1 : EnvAt (wM M D) B H (L2.wipe σ vs) (wipeD ds vs) := (en.wipe vs).addM hD
  refine ⟨fun i m H' => m = items.length - i ∧ i ≤ items.length ∧ Good (wM M D) B H' ∧ Keep M B H H' ∧ (∃ us acc, H' D = some (.lst us) ∧ us.length ≤ i ∧ DtA (wM M D) H' us acc ∧ lcW g t d (wipeD ds vs) (items.drop i) acc Q),
    ⟨_, rfl, Nat.zero_le _, g1.addM hD, Keep.new hD, [], [], upd_same, Nat.le_refl _, .nil, by rw [List.drop_zero]; exact q1⟩, ?_⟩
  rintro i m H' ⟨rfl, hle, g', k', us, acc, hL, hu, hA, w'⟩
  have stay : ∀ {b : Addr} {o : HO}, H b = some o → b ≠ D := fun e => ne_of_none e hD
  by_cases hlt : i < items.length
  · obtain ⟨go, yl⟩ := (ok D H' g' k' i).2 hlt
    refine .inr ⟨go, fun H2 => i + 1 ≤ items.length ∧ Good (wM M D) B H2 ∧ Keep M B H H2 ∧ (∃ us acc, H2 D = some (.lst us) ∧ us.length ≤ i + 1 ∧ DtA (wM M D) H2 us acc ∧ lcW g t d (wipeD ds vs) (items.drop (i + 1)) acc Q), fun H2 z => ⟨items.length - (i + 1), by omega, rfl, z⟩, fun x H3 y => ?_⟩
    obtain ⟨g3, k3, dx, hx, rx⟩ := yl x H3 y
    rw [drop_at hx] at w'
    have kD : Keep (wM M D) B H H3 := k'.any.trans k3
    have mD : wM M D B := .inl mB
    have hL3 : H3 D = some (.lst us) := k3.k D _ nb hL
    have hA3 := hA.keep mD k3
    refine hg (wM M D) x dx _ H3 _ _ _ g3 (en1.keep mD kD) rx w' fun σ3 ds3 e3 l3 j3 _ w3 => ?_
    refine ⟨(wipe_eq l3 j3 hv).trans (wipe_idem σ vs), ?_⟩
    refine ht (wM M D) σ3 H3 ds3 _ _ g3 e3 w3 fun b H4 g4 k4 w4 => ?_
    have keepD : ∀ {Ha Hb : Hp} {o : HO}, Keep (wM M D) B Ha Hb → Ha D = some o → Hb D = some o := fun k e => k.k D _ nb e
    cases b with
    | false => exact iteF ⟨hlt, g4, (kD.trans k4).any, us, acc, keepD k4 hL3, by omega, hA3.keep mD k4, w4.2 rfl⟩
    | true =>
      refine iteT ?_
      refine he (wM M D) σ3 H4 ds3 _ _ g4 (e3.keep mD k4) (w4.1 rfl) fun v H5 dv g5 k5 hd5 w5 => ?_
      have hL5 := keepD k5 (keepD k4 hL3)
      have kk := (kD.trans k4).trans k5
      refine ⟨us, hL5, by omega, hlt, g5.updD (.inr rfl) nb (g1.fresh0 hD), ⟨fun b o n e => ?_, fun q e => by rw [bagq_upd nb]; exact kk.q q e⟩, us ++ [v], acc ++ [dv], upd_same, by rw [List.length_append, List.length_singleton]; omega,
        DtA.updD (.inr rfl) (((hA3.keep mD k4).keep mD k5).append (.cons hd5 .nil)), w5⟩
      rw [upd_ne (stay e)]
      exact kk.k b o n e
  · refine .inl ⟨(ok D H' g' k' i).1 (by omega), ?_⟩
    rw [List.drop_eq_nil_of_le (by omega)] at w'
    exact c (.ref D) H' _ (g'.lessM g1.d.sub) k' (.lst (fun z => by
      obtain ⟨o, e⟩ := g1.2.1 D z
      rw [hD] at e
      cases e) hL hA.lessM) w'
/-- [.. for k in d], d locked: no other own things are asked in it -/
def dLcT (i : Nat) (g : TDG) (te : TDE) (vs : List Nat) : TDE := fun ds Q => match ds[i]? with
  | some (some (.obj (.dT ks dd))) => dSize ks.length ∧ lcW g dYes te (wipeD ((dropG ds).set i (some (.obj (.fT ks dd)))) vs) (ks.map keyTD) [] Q
  | _ => False
theorem d_lcT {elt tg : Expr} {x : Str} {px : Pos} {scope : Scope} {own : List (Str × Nat)} {tt : TG} {te : TE} {g : TDG} {d : TDE} {is : List Nat} (i : Nat) (hc : X.calm = true) (hN : X.N.Nodup) (hp : PE X (.Name x px) (tVar i)) (ok : BlkOk X.N X.env.scope scope own)
    (hg : ∀ (s : Shared) (H : Hp) (C : Addr) (cl : List (Str × Addr)) (fp : List Addr), PDG (X.blk s H scope (compEnvC scope cl C X.env) fp) B tg is tt g)
    (he : ∀ (s : Shared) (H : Hp) (C : Addr) (cl : List (Str × Addr)) (fp : List Addr), PD (X.blk s H scope (compEnvC scope cl C X.env) fp) B elt te d)
    (hv : ∀ j ∈ is, j ∈ own.map (·.2)) (hs : ∀ y, foldedSetIterable (.Name x px) X.env y = pure y := by intro _; rfl) :
    PD X B (.ListComp elt [⟨tg, .Name x px, [], 0⟩] scope pos) (tLockE (tLc (iKeys (tVar i)) tt tYes te (own.map (·.2)))) (dLcT i g d (own.map (·.2))) :=
  ⟨pe_lock (pe_lc hc hN (pi_keys hp) ok (fun s H C cl fp => (hg s H C cl fp).pg) (fun _ _ _ _ _ => pts_nil) (fun s H C cl fp => (he s H C cl fp).pe) hs), fun M σ H ds Q R g0 en q c => by
    unfold dLcT at q
    split at q
    · rename_i ks dd hd
      obtain ⟨sz, q⟩ := q
      obtain ⟨a, vs, hw, ma, nb, f0, ea, el, av⟩ := obj_get en hd
      refine ⟨a, _, ea, True.intro, fun od => ?_⟩
      have g1 : Good M B (upd H a (.frz od (.dT (ks.zip vs)))) := g0.updD ma nb f0
      have en1 : EnvAt M B (upd H a (.frz od (.dT (ks.zip vs)))) σ ((dropG ds).set i (some (.obj (.fT ks dd)))) := EnvAt.updO en.dropG ma nb hw (.obj ma nb f0 upd_same (.fT el (av.updD ma))) fun j x v hj _ f => absurd (dropG_no _ _ _ hj) f.mut
      have lz : (ks.zip vs).length = ks.length := by rw [List.length_zip]; omega
      have hs2 : sizeLine = 16777216 := sizeLine_eq
      have hsz : ks.length ≤ 1000000 := sz
      refine se_lcK (elt := elt) (tg := tg) (iter := .Name x px) (J := Itkt a od (ks.zip vs)) (fun R r => ⟨_, hw, a, od, rfl, .inr ⟨_, upd_same, r⟩⟩) (fun D H2 g2 k2 j => ?_) (hg X.s_0 X.H_0 0 [] []).sg st_yes (he X.s_0 X.H_0 0 [] []).se hv g1 en1 q (by rw [List.length_map]; omega) fun v H2 x g2 k2 hx qx => ?_
      · have e2 : H2 a = some (.frz od (.dT (ks.zip vs))) := k2.k a _ nb upd_same
        rw [List.length_map]
        refine ⟨fun e => ⟨e2, by omega⟩, fun e => ⟨⟨e2, by omega⟩, fun x H3 ⟨h3, k, v, b, ek, ex, eb⟩ => ?_⟩⟩
        subst h3
        subst ex
        refine ⟨g2, Keep.refl, keyTD k, ?_, .tup (fun m => g2.d.nt _ m _ eb) eb keyA⟩
        rw [List.getElem?_zip_eq_some] at ek
        rw [List.getElem?_map, ek.1]
        rfl
      · have e2 : H2 a = some (.frz od (.dT (ks.zip vs))) := k2.k a _ nb upd_same
        refine ⟨e2, c v _ x (g2.updD ma nb f0) ⟨fun b o n e => ?_, fun z hz => ?_⟩ (hx.updD ma) qx⟩
        · by_cases z : b = a
          · rw [z] at e ⊢
            rw [upd_same, ← e]
            exact ea.symm
          · rw [upd_ne z]
            exact k2.k b o n (by rw [upd_ne z]; exact e)
        · rw [bagq_upd nb]
          exact k2.q z (by rw [bagq_upd nb]; exact hz)
    · exact q.elim⟩
end
end DL
/-! ### kinks: places with weights, in order -/
namespace DL
open PySem PySem.Spec L2 PyProof.Rows
theorem dataLe_tps : PySem.W.dataLe false tpD = fun p q : List Int => decide (p ≤ q) := by
  funext p q
  show (!PySem.W.dataLt (tpD q) (tpD p)) = _
  unfold tpD
  rw [PySem.W.dataLt_tuple]
  show (!PySem.W.rowLt (q.map .int) (p.map .int)) = _
  rw [PySem.W.dataLt_ints]
  by_cases h : q < p
  · have h' : ¬ p ≤ q := fun r => List.not_lt.mpr r h
    simp [h, h']
  · have h' : p ≤ q := List.not_lt.mp h
    simp [h, h']
theorem tps_sort (L : List (List Int)) : (L.map tpD).mergeSort (PySem.W.dataLe false id) = (rowsS L).map tpD := by
  unfold rowsS
  refine (List.map_mergeSort (s := PySem.W.dataLe false id) (f := tpD) (r := fun p q : List Int => decide (p ≤ q)) (l := L) fun a _ b _ => ?_).symm
  exact (congrFun (congrFun dataLe_tps a) b).symm
theorem tps_alike (L : List (List Int)) : PySem.W.AllAlike (L.map tpD) := PySem.W.AllAlike.of fun a b => by
  unfold tpD
  simp only [PySem.W.alike]
  exact PySem.W.alike_ints a b
theorem tps_sortable {L : List (List Int)} (h : ∀ r ∈ L, r ≠ []) : PySem.W.Sortable (L.map tpD) := .inl fun d hd => by
  obtain ⟨r, hr, rfl⟩ := List.mem_map.mp hd
  cases r with
  | nil => exact absurd rfl (h [] hr)
  | cons x r => exact ⟨.int x, r.map .int, rfl⟩
theorem tps_depth (L : List (List Int)) : ∀ d ∈ L.map tpD, d.depth ≤ 20 := fun d hd => by
  obtain ⟨g, _, rfl⟩ := List.mem_map.mp hd
  unfold tpD
  simp only [PyData.depth, PySem.W.depth_ints]
  omega
theorem tps_nodict : ∀ L : List (List Int), PyData.hasDictAll (L.map tpD) = false
  | [] => rfl
  | g :: L => by
    rw [List.map_cons]
    simp only [PyData.hasDictAll, Bool.or_eq_false_iff]
    refine ⟨?_, tps_nodict L⟩
    unfold tpD
    simp only [PyData.hasDict]
    exact ints_nodict g
theorem cSorted_tps {L : List (List Int)} {Q : PyData → Prop} (h : ∀ r ∈ L, r ≠ []) (q : Q (.list ((rowsS L).map tpD))) : cSorted [.list (L.map tpD)] Q :=
  ⟨tps_alike L, tps_sortable h, tps_nodict L, tps_depth L, by rw [tps_sort]; exact q⟩
/-! #### entries -/
abbrev Ent2 := List (List Int × Int)
def twoV (d o l u : Int) : List (List Int) := if d < o then [[d, o, l], [d, o, u]] else [[o, d, -l], [o, d, -u]]
theorem two_len {d o l u : Int} : (twoV d o l u).length = 2 := by
  unfold twoV
  split <;> rfl
theorem two_len3 {d o l u : Int} {q : List Int} (hq : q ∈ twoV d o l u) : q.length = 3 := by
  unfold twoV at hq
  split at hq <;> (simp only [List.mem_cons, List.not_mem_nil, or_false] at hq; rcases hq with rfl | rfl <;> rfl)
def plV : Tm → List (List Int)
  | .wish d l u _ => [[d, -1, l], [d, -1, u]]
  | .stop d l u => [[d, -1, l], [d, -1, u]]
  | .tie d o l u _ => twoV d o l u
  | .bar d o l u => twoV d o l u
def entT (t : Tm) : Ent2 := (plV t).map fun p => (p, t.force)
def entV (ts : List Tm) : Ent2 := ts.flatMap entT
def wOf : Ent2 → List Int → Int
  | [], _ => 0
  | p :: E, k => (if p.1 = k then p.2 else 0) + wOf E k
theorem wOf_app (k : List Int) : ∀ E F : Ent2, wOf (E ++ F) k = wOf E k + wOf F k
  | [], F => by
    show wOf F k = 0 + _
    omega
  | p :: E, F => by
    show (if p.1 = k then p.2 else 0) + wOf (E ++ F) k = (if p.1 = k then p.2 else 0) + wOf E k + wOf F k
    rw [wOf_app k E F]
    omega
def addK (ks : List (List Int)) (k : List Int) : List (List Int) := if k ∈ ks then ks else ks ++ [k]
def ksOf (E : Ent2) : List (List Int) := E.foldl (fun ks p => addK ks p.1) []
theorem ksOf_snoc (E : Ent2) (p : List Int × Int) : ksOf (E ++ [p]) = addK (ksOf E) p.1 := by
  unfold ksOf
  rw [List.foldl_append]
  rfl
theorem addK_nodup {ks : List (List Int)} {k : List Int} (h : ks.Nodup) : (addK ks k).Nodup := by
  unfold addK
  split
  · exact h
  · rename_i n
    refine List.nodup_append.mpr ⟨h, by simp, fun a ha b hb e => n ?_⟩
    rw [← List.mem_singleton.mp hb, ← e]
    exact ha
theorem addK_mem {ks : List (List Int)} {k j : List Int} : j ∈ addK ks k ↔ j ∈ ks ∨ j = k := by
  unfold addK
  split
  · rename_i m
    exact ⟨.inl, fun z => z.elim id fun w => by rw [w]; exact m⟩
  · rw [List.mem_append, List.mem_singleton]
theorem ks_fold : ∀ (E : Ent2) (ks : List (List Int)), ks.Nodup → (E.foldl (fun ks p => addK ks p.1) ks).Nodup ∧ ∀ k, k ∈ E.foldl (fun ks p => addK ks p.1) ks ↔ k ∈ ks ∨ ∃ p ∈ E, p.1 = k
  | [], ks, h => ⟨h, fun k => ⟨.inl, fun z => z.elim id fun ⟨_, m, _⟩ => nomatch m⟩⟩
  | p :: E, ks, h => by
    rw [List.foldl_cons]
    obtain ⟨h1, h2⟩ := ks_fold E (addK ks p.1) (addK_nodup h)
    refine ⟨h1, fun k => ?_⟩
    rw [h2, addK_mem]
    constructor
    · rintro ((z | z) | ⟨q, hq, e⟩)
      · exact .inl z
      · exact .inr ⟨p, List.mem_cons_self .., z.symm⟩
      · exact .inr ⟨q, List.mem_cons_of_mem _ hq, e⟩
    · rintro (z | ⟨q, hq, e⟩)
      · exact .inl (.inl z)
      · rcases List.mem_cons.mp hq with w | w
        · exact .inl (.inr (by rw [← e, w]))
        · exact .inr ⟨q, w, e⟩
theorem ksOf_nodup (E : Ent2) : (ksOf E).Nodup := (ks_fold E [] List.nodup_nil).1
theorem ksOf_mem {E : Ent2} {k : List Int} : k ∈ ksOf E ↔ ∃ p ∈ E, p.1 = k := by
  have := (ks_fold E [] List.nodup_nil).2 k
  unfold ksOf
  rw [this]
  exact ⟨fun z => z.elim (fun w => nomatch w) id, .inr⟩
theorem wOf_ge {k : List Int} : ∀ {E : Ent2}, (∀ p ∈ E, 1 ≤ p.2) → 0 ≤ wOf E k ∧ ((∃ p ∈ E, p.1 = k) ↔ 0 < wOf E k)
  | [], _ => ⟨Int.le_refl 0, ⟨(fun ⟨_, m, _⟩ => nomatch m), fun z => absurd z (Int.lt_irrefl 0)⟩⟩
  | p :: E, h => by
    obtain ⟨h1, h2⟩ := wOf_ge (k := k) (E := E) fun q hq => h q (List.mem_cons_of_mem _ hq)
    have hp := h p (List.mem_cons_self ..)
    have e : wOf (p :: E) k = (if p.1 = k then p.2 else 0) + wOf E k := rfl
    by_cases z : p.1 = k
    · rw [if_pos z] at e
      exact ⟨by omega, ⟨fun _ => by omega, fun _ => ⟨p, List.mem_cons_self .., z⟩⟩⟩
    · rw [if_neg z] at e
      refine ⟨by omega, ⟨fun ⟨q, hq, y⟩ => ?_, fun y => ?_⟩⟩
      · rcases List.mem_cons.mp hq with w | w
        · exact absurd (by rw [← w]; exact y) z
        · have := h2.mp ⟨q, w, y⟩
          omega
      · obtain ⟨q, hq, y⟩ := h2.mpr (by omega)
        exact ⟨q, List.mem_cons_of_mem _ hq, y⟩
theorem wOf_none {E : Ent2} {k : List Int} (h : k ∉ ksOf E) : wOf E k = 0 := by
  have key : ∀ E : Ent2, (∀ p ∈ E, p.1 ≠ k) → wOf E k = 0 := fun E => by
    induction E with
    | nil => exact fun _ => rfl
    | cons p E ih =>
      intro h
      show (if p.1 = k then p.2 else 0) + wOf E k = 0
      rw [if_neg (h p (List.mem_cons_self ..)), ih fun q hq => h q (List.mem_cons_of_mem _ hq)]
      rfl
  exact key E fun p hp e => h (ksOf_mem.mpr ⟨p, hp, e⟩)
def kinkV (E : Ent2) : List (List Int) := (rowsS (ksOf E)).map fun k => k ++ [wOf E k]
theorem rows_perm_eq {a b : List (List Int)} (p : a.Perm b) : rowsS a = rowsS b :=
  rows_unique ((rowsS_perm a).trans (p.trans (rowsS_perm b).symm)) (rowsS_sorted a) (rowsS_sorted b)
theorem kink_eq {E F : Ent2} (hE : ∀ p ∈ E, 1 ≤ p.2) (hF : ∀ p ∈ F, 1 ≤ p.2) (h : ∀ k, wOf E k = wOf F k) : kinkV E = kinkV F := by
  have pm : (ksOf E).Perm (ksOf F) := (List.perm_ext_iff_of_nodup (ksOf_nodup E) (ksOf_nodup F)).mpr fun k => by
    rw [ksOf_mem, ksOf_mem, (wOf_ge hE).2, (wOf_ge hF).2, h]
  unfold kinkV
  rw [rows_perm_eq pm]
  exact List.map_congr_left fun k _ => by rw [h]
theorem lt_snoc {x y : Int} : ∀ {a b : List Int}, a.length = b.length → a < b → a ++ [x] < b ++ [y]
  | [], [], _, h => absurd h (by simp)
  | [], _ :: _, e, _ => nomatch e
  | _ :: _, [], e, _ => nomatch e
  | c :: a, d :: b, e, h => by
    rw [List.cons_append, List.cons_append, List.cons_lt_cons_iff]
    rw [List.cons_lt_cons_iff] at h
    exact h.imp id fun ⟨h1, h2⟩ => ⟨h1, lt_snoc (by simpa using e) h2⟩
theorem kink_sort {E : Ent2} (hl : ∀ p ∈ E, p.1.length = 3) : rowsS ((ksOf E).map fun k => k ++ [wOf E k]) = kinkV E := by
  have len : ∀ k ∈ rowsS (ksOf E), k.length = 3 := fun k hk => by
    obtain ⟨p, hp, e⟩ := ksOf_mem.mp ((rowsS_perm _).mem_iff.mp hk)
    rw [← e]
    exact hl p hp
  refine rows_unique ((rowsS_perm _).trans ((rowsS_perm (ksOf E)).symm.map _)) (rowsS_sorted _) ?_
  unfold kinkV
  rw [List.pairwise_map]
  have nd := (rowsS_perm (ksOf E)).nodup_iff.mpr (ksOf_nodup E)
  refine (List.Pairwise.and (rowsS_sorted (ksOf E)) nd).imp_of_mem fun {a b} ha hb ⟨h1, h2⟩ => ?_
  have lt : a < b := List.not_le.mp fun z => h2 (List.le_antisymm h1 z)
  exact List.le_of_lt (lt_snoc (by rw [len a ha, len b hb]) lt)
/-! #### the dict -/
def keysT (E : Ent2) : List (List L2.Key) := (ksOf E).map keyOf
def unKey (k : List L2.Key) : List Int := k.map fun
  | .inl i => i
  | .inr _ => 0
theorem unKey_of (q : List Int) : unKey (DL.keyOf q) = q := by
  unfold unKey DL.keyOf
  rw [List.map_map]
  exact List.map_id q
def WK (E : Ent2) (k : List L2.Key) : PyData := .int (wOf E (unKey k))
def tabE (E : Ent2) : DV := .obj (.dT (keysT E) ((keysT E).map (WK E)))
theorem key_in {E : Ent2} {p : List Int} : DL.keyOf p ∈ keysT E ↔ p ∈ ksOf E := keyOf_mem
theorem putKs_keys {E : Ent2} {p : List Int} {f : Int} : putKs (keysT E) (DL.keyOf p) = keysT (E ++ [(p, f)]) := by
  unfold putKs keysT
  rw [ksOf_snoc]
  unfold addK
  by_cases z : p ∈ ksOf E
  · rw [if_pos (keyOf_mem.mpr z), if_pos z]
  · rw [if_neg fun w => z (keyOf_mem.mp w), if_neg z, List.map_append]
    rfl
theorem tabE_put {E : Ent2} {p : List Int} {f : Int} : DV.obj (.dT (putKs (keysT E) (DL.keyOf p)) ((putP ((keysT E).zip ((keysT E).map (WK E))) (DL.keyOf p) (.int (wOf E p + f))).map Prod.snd)) = tabE (E ++ [(p, f)]) := by
  rw [putP_fun, putKs_keys (f := f)]
  unfold tabE
  congr 2
  refine List.map_congr_left fun j hj => ?_
  unfold keysT at hj
  obtain ⟨q, hq, rfl⟩ := List.mem_map.mp hj
  unfold WK
  rw [unKey_of, wOf_app]
  show _ = PyData.int (wOf E q + ((if p = q then f else 0) + 0))
  by_cases z : q = p
  · rw [if_pos (by rw [z]), if_pos z.symm, z, Int.add_zero]
  · rw [if_neg fun w => z (keyOf_inj w), if_neg fun w => z w.symm, Int.add_zero, Int.add_zero]
theorem tabE_get {E : Ent2} {p : List Int} : (atP ((keysT E).zip ((keysT E).map (WK E))) (DL.keyOf p)).getD (.int 0) = .int (wOf E p) := by
  rw [atP_fun]
  by_cases z : p ∈ ksOf E
  · rw [if_pos (key_in.mpr z)]
    show WK E _ = _
    unfold WK
    rw [unKey_of]
  · rw [if_neg fun w => z (key_in.mp w), wOf_none z]
    rfl
theorem tabE_at {E : Ent2} {p : List Int} (h : p ∈ ksOf E) : atP ((keysT E).zip ((keysT E).map (WK E))) (DL.keyOf p) = some (.int (wOf E p)) := by
  rw [atP_fun, if_pos (key_in.mpr h)]
  unfold WK
  rw [unKey_of]
theorem keysT_tp (E : Ent2) : (keysT E).map keyTD = (ksOf E).map tpD := by
  unfold keysT
  rw [List.map_map]
  exact List.map_congr_left fun q _ => (tp_key q).symm
theorem keysT_len (E : Ent2) : (keysT E).length ≤ E.length := by
  unfold keysT
  rw [List.length_map]
  have key : ∀ (E : Ent2) (ks : List (List Int)), (E.foldl (fun ks p => addK ks p.1) ks).length ≤ ks.length + E.length := fun E => by
    induction E with
    | nil => exact fun ks => Nat.le_refl _
    | cons p E ih =>
      intro ks
      rw [List.foldl_cons]
      have h1 := ih (addK ks p.1)
      have h2 : (addK ks p.1).length ≤ ks.length + 1 := by
        unfold addK
        split
        · omega
        · rw [List.length_append]
          exact Nat.le_refl _
      rw [List.length_cons]
      omega
  have := key E []
  unfold ksOf
  simpa using this
theorem ent_len3 (t : Tm) : ∀ p ∈ entT t, p.1.length = 3 := fun p hp => by
  unfold entT at hp
  obtain ⟨q, hq, rfl⟩ := List.mem_map.mp hp
  cases t with
  | wish d l u f => simp only [plV, List.mem_cons, List.not_mem_nil, or_false] at hq; rcases hq with rfl | rfl <;> rfl
  | stop d l u => simp only [plV, List.mem_cons, List.not_mem_nil, or_false] at hq; rcases hq with rfl | rfl <;> rfl
  | tie d o l u f => exact two_len3 hq
  | bar d o l u => exact two_len3 hq
theorem entV_len3 {ts : List Tm} : ∀ p ∈ entV ts, p.1.length = 3 := fun p hp => by
  obtain ⟨t, _, h⟩ := List.mem_flatMap.mp hp
  exact ent_len3 t p h
theorem plV_len (t : Tm) : (plV t).length = 2 := by
  cases t with
  | wish d l u f => rfl
  | stop d l u => rfl
  | tie d o l u f => exact two_len
  | bar d o l u => exact two_len
theorem entV_pos {ts : List Tm} (h : ∀ t ∈ ts, 1 ≤ t.force) : ∀ p ∈ entV ts, 1 ≤ p.2 := fun p hp => by
  obtain ⟨t, ht, hq⟩ := List.mem_flatMap.mp hp
  unfold entT at hq
  obtain ⟨q, _, rfl⟩ := List.mem_map.mp hq
  exact h t ht
/-! #### contracts -/
def freeR (C : Addr) : DR := fun xs Q => ∃ (n : Int) (ts : List Tm), xs = [.dat (brdD C n (ts.map Tm.py))] ∧ (∀ t ∈ ts, t.soft = true) ∧ ts.length ≤ 24 ∧ Q .none
def placesR : DR := fun xs Q => ∃ t : Tm, xs = [.dat t.py] ∧ Q (.list ((plV t).map tpD))
def kinksR (C : Addr) : DR := fun xs Q => ∃ (n : Int) (ts : List Tm), xs = [.dat (brdD C n (ts.map Tm.py))] ∧ (∀ t ∈ ts, t.soft = true) ∧ ts.length ≤ 24 ∧ Q (.list ((kinkV (entV ts)).map tpD))
def lawKinksR : DR := fun xs Q => ∃ ts : List Tm, xs = [.dat (.list (ts.map Tm.py))] ∧ (∀ t ∈ ts, t.soft = true ∧ 1 ≤ t.force ∧ t.Diff) ∧ ts.length ≤ 24 ∧ Q (.list ((kinkV (entV ts)).map tpD))
def freeTermsR : DR := fun xs Q => ∃ (n : Nat) (s m : Int), xs = [.bag, .dat (.int n), .dat (.int s), .dat (.int m)] ∧ 1 ≤ n ∧ n ≤ 8 ∧ 1 ≤ s ∧ s ≤ 9 ∧ 0 ≤ m ∧ m ≤ 24 ∧ ∀ ts : List Tm, ts.length ≤ 24 → (∀ t ∈ ts, t.Good n ∧ t.soft = true) → Q (.list (ts.map Tm.py))
def splitR : DR := fun xs Q => ∃ (n : Nat) (ts : List Tm), xs = [.bag, .dat (.list (ts.map Tm.py))] ∧ ts.length ≤ 24 ∧ (∀ t ∈ ts, t.Good n ∧ t.soft = true) ∧ ∀ us : List Tm, us.length ≤ 48 → (∀ t ∈ us, t.Good n ∧ t.soft = true) → (∀ k, wOf (entV us) k = wOf (entV ts) k) → Q (.list (us.map Tm.py))
end DL
/-! ### x.append(None); x.reverse(), x an answer of its own -/
namespace DL
open PySem PySem.Spec L2 PyProof.Rows
section
variable {X : Cx} {B : Gr}
def sSpoilAR (i : Nat) : TDS := fun DD ds => match ds[i]? with
  | some (some (.loose _ (.list l))) => l.length ≤ 1000 ∧ DD.nx (ds.set i none)
  | _ => False
theorem ds_spoilAR {sts : List Stmt} {K : PySem.W.Frag} (i : Nat) (hp : PSs X sts (tSeq (tDrop (tBM X.K "list" rAppend (tVar i) (tCons (tC .non) tNil))) (tDrop (tBM0 X.K "list" rReverse (tVar i))))) :
    PDSs X B sts (tSeq (tDrop (tBM X.K "list" rAppend (tVar i) (tCons (tC .non) tNil))) (tDrop (tBM0 X.K "list" rReverse (tVar i)))) (sSpoilAR i) :=
  ⟨hp, fun M σ H ds DD D en o q c => by
    unfold sSpoilAR at q
    split at q
    · rename_i S l hl
      obtain ⟨hlen, q⟩ := q
      obtain ⟨v, hv, r⟩ := o.at_.get i hl
      cases r with
      | loose hs h ow =>
        cases h with
        | @lst q0 xs _ n e a =>
          have sq : S q0 := ow q0 xs (.self _) e (.inr rfl)
          obtain ⟨ma, nb, h0, _⟩ := hs q0 sq
          have hs2 : sizeLine = 16777216 := sizeLine_eq
          have lx : xs.length ≤ 1000 := by rw [a.length]; exact hlen
          refine ⟨.ref q0, hv, .inl ⟨rfl, xs, SqL.of e⟩, q0, xs, .non, rfl, rfl, e, by omega, ?_⟩
          refine ⟨.ref q0, hv, .inl ⟨rfl, _, SqL.of upd_same⟩, q0, _, rfl, rfl, upd_same, ?_⟩
          rw [upd_upd]
          exact c.nx.spoil en o hl hv sq ma nb h0 q
    · exact q.elim⟩
/-- sorted(e), a new list -/
def fSorted (t : TDL) : TDL := fun ds Q => t ds fun l => match l with
  | [.list ls] => PySem.W.AllAlike ls ∧ PySem.W.Sortable ls ∧ PyData.hasDictAll ls = false ∧ (∀ d ∈ ls, d.depth ≤ 20) ∧ Q (ls.mergeSort (PySem.W.dataLe false id))
  | _ => False
theorem df_sorted {e : Expr} {ta : TA} {t : TDL} {x : Str} {p pos : Pos} (K : PySem.W.Frag) (hu : X.A.units + 64 < cLine) (hg : Gl X x) (hm : X.mg x = none) (hv : bootBuiltins x = some (.builtin "sorted")) (ha : PDL X B [e] ta t) (hn : x ≠ "__name__" := by decide)
    (hdb : (x == ("__debug__" : Str)) = false := by decide) (he : starEach [e] X.env = (false, eval e X.env) :: starEach [] X.env := by rfl) (hpl : (backTo pos (starEach [] X.env)).any (·.1) = false := by rfl) (hK : X.K = K := by rfl) :
    PDF X B (.Call (.Name x p) [e] [] pos) (tCB (rSortedD K) ta) (fSorted t) :=
  ⟨pe_callB (call_sortedDK K hu hK) hg hm hv ha.pa hn hdb he hpl, fun M σ H ds Q R g en q c => ha.sl M σ H ds _ _ g en q fun vs H1 l g1 k1 hl q1 => by
    split at q1
    · rename_i ls
      cases hl with
      | cons h1 h2 =>
        cases h2
        cases h1 with
        | lst n e a =>
          rename_i xs
          obtain ⟨al, so, nd, dp, q⟩ := q1
          refine ⟨_, xs, ls, rfl, SqL.of e, DtA.dp nd a, al, so, dp, fun p hp => c p _ _ H1 g1 k1 hp ?_ q⟩
          rw [← sort_snd a.length]
          exact DtA.of_zip fun p hp => a.zip p ((List.mem_mergeSort).mp hp)
    · exact q1.elim⟩
end
section
theorem soft_last {t : Tm} (h : t.soft = true) : atI t.items (-1) = some (.int t.force) := by
  cases t with
  | wish d l u f => rfl
  | tie d o l u f => rfl
  | stop d l u => cases h
  | bar d o l u => cases h
/-- the law's own entries -/
def twoL (d o l u f : Int) : Ent2 := if o < d then [([o, d] ++ [-u], f), ([o, d] ++ [-l], f)] else [([d, o] ++ [l], f), ([d, o] ++ [u], f)]
def lawT : Tm → Ent2
  | .wish d l u f => [([d, -1] ++ [l], f), ([d, -1] ++ [u], f)]
  | .stop d l u => []
  | .tie d o l u f => twoL d o l u f
  | .bar d o l u => []
def lawE (ts : List Tm) : Ent2 := ts.flatMap lawT
theorem lawT_w {t : Tm} (hs : t.soft = true) (hd : t.Diff) (k : List Int) : wOf (lawT t) k = wOf (entT t) k := by
  cases t with
  | wish d l u f => rfl
  | stop d l u => cases hs
  | bar d o l u => cases hs
  | tie d o l u f =>
    have hd : d ≠ o := hd
    have e : entT (.tie d o l u f) = (twoV d o l u).map fun p => (p, f) := rfl
    rw [e]
    show wOf (twoL d o l u f) k = _
    unfold twoL twoV
    by_cases z : d < o
    · rw [if_pos z, if_neg (by omega)]
      rfl
    · rw [if_neg z, if_pos (by omega)]
      show (if [o, d, -u] = k then f else 0) + ((if [o, d, -l] = k then f else 0) + 0) = (if [o, d, -l] = k then f else 0) + ((if [o, d, -u] = k then f else 0) + 0)
      omega
theorem lawT_one {t : Tm} (hs : t.soft = true) : ∃ (kk : List Int) (a b : Int), kk.length = 2 ∧ lawT t = [(kk ++ [a], t.force), (kk ++ [b], t.force)] := by
  cases t with
  | wish d l u f => exact ⟨[d, -1], l, u, rfl, rfl⟩
  | stop d l u => cases hs
  | bar d o l u => cases hs
  | tie d o l u f =>
    show ∃ (kk : List Int) (a b : Int), kk.length = 2 ∧ twoL d o l u f = _
    unfold twoL
    by_cases z : o < d
    · rw [if_pos z]
      exact ⟨[o, d], -u, -l, rfl, rfl⟩
    · rw [if_neg z]
      exact ⟨[d, o], l, u, rfl, rfl⟩
theorem flat_w {F G : Tm → Ent2} {k : List Int} : ∀ {ts : List Tm}, (∀ t ∈ ts, wOf (F t) k = wOf (G t) k) → wOf (ts.flatMap F) k = wOf (ts.flatMap G) k
  | [], _ => rfl
  | t :: ts, h => by
    rw [List.flatMap_cons, List.flatMap_cons, wOf_app, wOf_app, h t (List.mem_cons_self ..), flat_w fun u hu => h u (List.mem_cons_of_mem _ hu)]
theorem lawE_pos {ts : List Tm} (h : ∀ t ∈ ts, t.soft = true ∧ 1 ≤ t.force ∧ t.Diff) : ∀ p ∈ lawE ts, 1 ≤ p.2 := fun p hp => by
  obtain ⟨t, ht, hq⟩ := List.mem_flatMap.mp hp
  obtain ⟨kk, a, b, _, e⟩ := lawT_one (h t ht).1
  rw [e] at hq
  have := (h t ht).2.1
  simp only [List.mem_cons, List.not_mem_nil, or_false] at hq
  rcases hq with rfl | rfl <;> exact this
theorem lawE_kink {ts : List Tm} (h : ∀ t ∈ ts, t.soft = true ∧ 1 ≤ t.force ∧ t.Diff) : kinkV (lawE ts) = kinkV (entV ts) :=
  kink_eq (lawE_pos h) (entV_pos fun t ht => (h t ht).2.1) fun k => flat_w fun t ht => lawT_w (h t ht).1 (h t ht).2.2 k
theorem lawE_len {ts : List Tm} (h : ∀ t ∈ ts, t.soft = true) : (lawE ts).length = 2 * ts.length := by
  induction ts with
  | nil => rfl
  | cons t ts ih =>
    obtain ⟨kk, a, b, _, e⟩ := lawT_one (h t (List.mem_cons_self ..))
    have e2 : lawE (t :: ts) = lawT t ++ lawE ts := rfl
    rw [e2, List.length_append, ih fun u hu => h u (List.mem_cons_of_mem _ hu), e]
    simp only [List.length_cons, List.length_nil]
    omega
theorem lawE_len3 {ts : List Tm} (h : ∀ t ∈ ts, t.soft = true) : ∀ p ∈ lawE ts, p.1.length = 3 := fun p hp => by
  obtain ⟨t, ht, hq⟩ := List.mem_flatMap.mp hp
  obtain ⟨kk, a, b, l2, e⟩ := lawT_one (h t ht)
  rw [e] at hq
  simp only [List.mem_cons, List.not_mem_nil, or_false] at hq
  rcases hq with rfl | rfl <;> (rw [List.length_append, l2]; rfl)
theorem pickB {a b : PyData} {P : PyData → Prop} {c : Bool} (ha : c = false → P a) (hb : c = true → P b) : ∃ d, atI [a, b] (if c then 1 else 0) = some d ∧ P d := by
  cases c with
  | true => exact ⟨b, rfl, hb rfl⟩
  | false => exact ⟨a, rfl, ha rfl⟩
end
end DL
/-! ### terms that gain alike -/
namespace DL
open PySem PySem.Spec L2 PyProof.Rows
section
variable {X : Cx} {B : Gr}
/-- x[k], x a list that grows -/
def dIxG (i : Nat) (dk : TDE) : TDE := fun ds Q => match ds[i]? with
  | some (some (.grow l)) => dk ds fun key => match key with
    | .int k => ∃ d, atI l k = some d ∧ Q d
    | _ => False
  | _ => False
theorem d_ixG {x : Str} {px pos : Pos} {b : Expr} {tb : TE} {db : TDE} (i : Nat) (K : PySem.W.Frag) (hp : PE X (.Name x px) (tVar i)) (hk : PD X B b tb db) (hs : PlainIx b := by exact fun _ _ => rfl) (hK : X.K = K := by rfl) :
    PD X B (.Subscript (.Name x px) b pos) (tOp (rIxK K) (tVar i) tb) (dIxG i db) := by
  subst hK
  refine ⟨pe_ix (IxR.or ix_list (IxR.or ix_tup ix_str)) hp hk.pe hs, fun M σ H ds Q R g en q c => ?_⟩
  unfold dIxG at q
  split at q
  · rename_i l hl
    obtain ⟨v, hv, r⟩ := en.get i hl
    cases r with
    | grow ma nb f0 e h =>
      refine ⟨_, hv, hk.se M σ H ds _ _ g en q fun y H1 dy g1 k1 hy q1 => ?_⟩
      split at q1
      · cases hy
        obtain ⟨d, hd, q2⟩ := q1
        obtain ⟨w, hw, rw'⟩ := (h.keep g.1 k1).atI hd
        exact .inl ⟨_, _, _, w, rfl, rfl, SqL.of (k1.k _ _ nb e), hw, c _ H1 _ g1 k1 rw' q2⟩
      · exact q1.elim
  · exact q.elim
end
/-- how often a place is an end of a term -/
def uOf (t : Tm) (k : List Int) : Int := wOf ((plV t).map fun p => (p, 1)) k
theorem w_scale (f : Int) (k : List Int) : ∀ L : List (List Int), wOf (L.map fun p => (p, f)) k = f * wOf (L.map fun p => (p, 1)) k
  | [] => (Int.mul_zero f).symm
  | p :: L => by
    show (if p = k then f else 0) + wOf (L.map fun p => (p, f)) k = f * ((if p = k then 1 else 0) + wOf (L.map fun p => (p, 1)) k)
    rw [w_scale f k L, Int.mul_add]
    split
    · rw [Int.mul_one]
    · rw [Int.mul_zero]
theorem ent_u (t : Tm) (k : List Int) : wOf (entT t) k = t.force * uOf t k := w_scale _ _ _
theorem soft_frc {t : Tm} (h : t.soft = true) : t.frc = .int t.force := by
  cases t with
  | wish d l u f => rfl
  | tie d o l u f => rfl
  | stop d l u => cases h
  | bar d o l u => cases h
theorem soft_force {t : Tm} {m : Int} (h : t.soft = true) (g : t.Fr m) : 1 ≤ t.force ∧ t.force ≤ m := by
  cases t with
  | wish d l u f => exact g
  | tie d o l u f => exact g
  | stop d l u => cases h
  | bar d o l u => cases h
theorem turn_u {d o l u f f0 : Int} (h : d ≠ o) (k : List Int) : uOf (.tie o d (-u) (-l) f) k = uOf (.tie d o l u f0) k := by
  show wOf ((twoV o d (-u) (-l)).map fun p => (p, 1)) k = wOf ((twoV d o l u).map fun p => (p, 1)) k
  unfold twoV
  by_cases z : d < o
  · rw [if_pos z, if_neg (by omega), Int.neg_neg, Int.neg_neg]
    show (if [d, o, u] = k then (1 : Int) else 0) + ((if [d, o, l] = k then 1 else 0) + 0) = (if [d, o, l] = k then 1 else 0) + ((if [d, o, u] = k then 1 else 0) + 0)
    omega
  · rw [if_neg z, if_pos (by omega)]
    show (if [o, d, -u] = k then (1 : Int) else 0) + ((if [o, d, -l] = k then 1 else 0) + 0) = (if [o, d, -l] = k then 1 else 0) + ((if [o, d, -u] = k then 1 else 0) + 0)
    omega
/-- one's dials are the other's -/
def Same (p q : Tm) : Prop := p.dial = q.dial ∧ p.oth = q.oth ∧ p.force = q.force
theorem swap_w {p q : Tm} (hp : p.soft = true) (hq : q.soft = true) (h : Same p q) (k : List Int) : wOf (entT (p.put p.low q.high)) k + wOf (entT (q.put q.low p.high)) k = wOf (entT p) k + wOf (entT q) k := by
  obtain ⟨h1, h2, h3⟩ := h
  cases p with
  | stop d l u => cases hp
  | bar d o l u => cases hp
  | wish d l u f =>
    cases q with
    | stop _ _ _ => cases hq
    | bar _ _ _ _ => cases hq
    | tie _ _ _ _ _ => cases h2
    | wish d' l' u' f' =>
      have h1 : d = d' := h1
      have h3 : f = f' := h3
      subst h1
      subst h3
      show ((if [d, -1, l] = k then f else 0) + ((if [d, -1, u'] = k then f else 0) + 0)) + ((if [d, -1, l'] = k then f else 0) + ((if [d, -1, u] = k then f else 0) + 0)) = ((if [d, -1, l] = k then f else 0) + ((if [d, -1, u] = k then f else 0) + 0)) + ((if [d, -1, l'] = k then f else 0) + ((if [d, -1, u'] = k then f else 0) + 0))
      omega
  | tie d o l u f =>
    cases q with
    | stop _ _ _ => cases hq
    | bar _ _ _ _ => cases hq
    | wish _ _ _ _ => cases h2
    | tie d' o' l' u' f' =>
      have h1 : d = d' := h1
      have h2 : PyData.int o = .int o' := h2
      have h3 : f = f' := h3
      cases h2
      subst h1
      subst h3
      show wOf ((twoV d o l u').map fun p => (p, f)) k + wOf ((twoV d o l' u).map fun p => (p, f)) k = wOf ((twoV d o l u).map fun p => (p, f)) k + wOf ((twoV d o l' u').map fun p => (p, f)) k
      unfold twoV
      split
      · show ((if [d, o, l] = k then f else 0) + ((if [d, o, u'] = k then f else 0) + 0)) + ((if [d, o, l'] = k then f else 0) + ((if [d, o, u] = k then f else 0) + 0)) = ((if [d, o, l] = k then f else 0) + ((if [d, o, u] = k then f else 0) + 0)) + ((if [d, o, l'] = k then f else 0) + ((if [d, o, u'] = k then f else 0) + 0))
        omega
      · show ((if [o, d, -l] = k then f else 0) + ((if [o, d, -u'] = k then f else 0) + 0)) + ((if [o, d, -l'] = k then f else 0) + ((if [o, d, -u] = k then f else 0) + 0)) = ((if [o, d, -l] = k then f else 0) + ((if [o, d, -u] = k then f else 0) + 0)) + ((if [o, d, -l'] = k then f else 0) + ((if [o, d, -u'] = k then f else 0) + 0))
        omega
theorem set_w {t t' : Tm} (k : List Int) : ∀ {us : List Tm} {i : Nat}, us[i]? = some t → wOf (entV (us.set i t')) k + wOf (entT t) k = wOf (entV us) k + wOf (entT t') k
  | [], _, h => nomatch h
  | u :: us, 0, h => by
    have h : u = t := Option.some.inj h
    subst h
    show wOf (entT t' ++ entV us) k + _ = wOf (entT u ++ entV us) k + _
    rw [wOf_app, wOf_app]
    omega
  | u :: us, i + 1, h => by
    have ih := set_w (t := t) (t' := t') k (us := us) (i := i) h
    show wOf (entT u ++ entV (us.set i t')) k + _ = wOf (entT u ++ entV us) k + _
    rw [wOf_app, wOf_app]
    omega
theorem put_good {t : Tm} {n : Nat} {l u : Int} (g : t.Good n) (h : l ≤ u) (h1 : -(10 ^ 18) ≤ l) (h2 : u ≤ 10 ^ 18) : (t.put l u).Good n := by
  cases t with
  | wish d _ _ f => exact ⟨g.inn, g.dif, h, h1, h2, g.fr⟩
  | tie d o _ _ f => exact ⟨g.inn, g.dif, h, h1, h2, g.fr⟩
  | stop d _ _ => exact ⟨g.inn, g.dif, h, h1, h2, g.fr⟩
  | bar d o _ _ => exact ⟨g.inn, g.dif, h, h1, h2, g.fr⟩
theorem put_soft {t : Tm} {l u : Int} (h : t.soft = true) : (t.put l u).soft = true := by cases t <;> exact h
theorem put_items {t : Tm} {l u : Int} (h : t.soft = true) : PyData.tuple (cutD t.items none (some (-3)) ++ [.int l, .int u, .int t.force]) = (t.put l u).py := by
  cases t with
  | wish d _ _ f => rfl
  | tie d o _ _ f => rfl
  | stop d _ _ => cases h
  | bar d o _ _ => cases h
theorem oth_shaped {p : Tm} : SeqAt.shaped (.tuple [.int p.dial, p.oth]) = true := by cases p <;> rfl
theorem same_eqv {p q : Tm} (h : PyData.eqv (.tuple [.int p.dial, p.oth]) (.tuple [.int q.dial, q.oth]) = true) : p.dial = q.dial ∧ p.oth = q.oth := by
  cases p <;> cases q <;> simp_all [PyData.eqv, PyData.eqvAll, Tm.dial, Tm.oth]
theorem ent_app (us vs : List Tm) : entV (us ++ vs) = entV us ++ entV vs := List.flatMap_append
theorem ent_one (t : Tm) : entV [t] = entT t := List.append_nil _
theorem rot_w (us : List Tm) (i : Nat) (k : List Int) : wOf (entV (us.drop i ++ us.take i)) k = wOf (entV us) k := by
  conv => rhs; rw [← List.take_append_drop i us]
  rw [ent_app, ent_app, wOf_app, wOf_app]
  omega
end DL
/-! ### kinks may be compared and shown -/
namespace DL
open PySem PySem.Spec L2 PyProof.Rows
theorem mid18 {x : Int} (h : -(10 ^ 18) ≤ x ∧ x ≤ 10 ^ 18) : Mid x := ⟨by omega, by omega⟩
theorem tp_shp {r : List Int} (h : ∀ x ∈ r, Mid x) (l : r.length ≤ 4) : Shp (tpD r) 1 (2000 * 4 + 2 * 4 + 3) :=
  Shp.tup (dep := 0) (sz := 2000) (n := 4) (fun y hy => by
    obtain ⟨i, hi, rfl⟩ := List.mem_map.mp hy
    exact (leafI (h i hi)).shp) (by rw [List.length_map]; exact l)
theorem okTps {L : List (List Int)} (hl : L.length ≤ 48) (h : ∀ r ∈ L, r.length ≤ 4 ∧ ∀ x ∈ r, Mid x) : OkD (.list (L.map tpD)) :=
  (Shp.lst (dep := 1) (n := 48) (fun y hy => by
    obtain ⟨r, hr, rfl⟩ := List.mem_map.mp hy
    exact tp_shp (h r hr).2 (h r hr).1) (by rw [List.length_map]; exact hl)).ok (by decide) (by decide)
theorem two_mid {d o l u : Int} (hd : -1 ≤ d ∧ d ≤ 8) (ho : -1 ≤ o ∧ o ≤ 8) (hl : -(10 ^ 18) ≤ l ∧ l ≤ 10 ^ 18) (hu : -(10 ^ 18) ≤ u ∧ u ≤ 10 ^ 18) : ∀ p ∈ twoV d o l u, ∀ x ∈ p, Mid x := fun p hp x hx => by
  refine mid18 ?_
  unfold twoV at hp
  split at hp <;> (simp only [List.mem_cons, List.not_mem_nil, or_false] at hp; rcases hp with rfl | rfl <;> (simp only [List.mem_cons, List.not_mem_nil, or_false] at hx; rcases hx with rfl | rfl | rfl <;> omega))
theorem plV_mid {t : Tm} {n : Nat} (g : t.Good n) (h8 : n ≤ 8) : ∀ p ∈ plV t, ∀ x ∈ p, Mid x := by
  have l1 := g.lo
  have l2 := g.hi
  have l3 := g.lh
  have inn := g.inn
  cases t with
  | wish d l u f =>
    have l1 : -(10 ^ 18) ≤ l := l1
    have l2 : u ≤ 10 ^ 18 := l2
    have l3 : l ≤ u := l3
    have inn : 0 ≤ d ∧ d < n := inn
    intro p hp x hx
    refine mid18 ?_
    simp only [plV, List.mem_cons, List.not_mem_nil, or_false] at hp
    rcases hp with rfl | rfl <;> (simp only [List.mem_cons, List.not_mem_nil, or_false] at hx; rcases hx with rfl | rfl | rfl <;> omega)
  | stop d l u =>
    have l1 : -(10 ^ 18) ≤ l := l1
    have l2 : u ≤ 10 ^ 18 := l2
    have l3 : l ≤ u := l3
    have inn : 0 ≤ d ∧ d < n := inn
    intro p hp x hx
    refine mid18 ?_
    simp only [plV, List.mem_cons, List.not_mem_nil, or_false] at hp
    rcases hp with rfl | rfl <;> (simp only [List.mem_cons, List.not_mem_nil, or_false] at hx; rcases hx with rfl | rfl | rfl <;> omega)
  | tie d o l u f =>
    have l1 : -(10 ^ 18) ≤ l := l1
    have l2 : u ≤ 10 ^ 18 := l2
    have l3 : l ≤ u := l3
    have inn : (0 ≤ d ∧ d < n) ∧ (0 ≤ o ∧ o < n) := inn
    exact two_mid (by omega) (by omega) (by omega) (by omega)
  | bar d o l u =>
    have l1 : -(10 ^ 18) ≤ l := l1
    have l2 : u ≤ 10 ^ 18 := l2
    have l3 : l ≤ u := l3
    have inn : (0 ≤ d ∧ d < n) ∧ (0 ≤ o ∧ o < n) := inn
    exact two_mid (by omega) (by omega) (by omega) (by omega)
theorem entV_len : ∀ ts : List Tm, (entV ts).length = 2 * ts.length
  | [] => rfl
  | t :: ts => by
    have e : entV (t :: ts) = entT t ++ entV ts := rfl
    rw [e, List.length_append, entV_len ts]
    unfold entT
    rw [List.length_map, plV_len, List.length_cons]
    omega
theorem wOf_le {k : List Int} : ∀ {E : Ent2}, (∀ p ∈ E, 0 ≤ p.2 ∧ p.2 ≤ 30) → 0 ≤ wOf E k ∧ wOf E k ≤ 30 * E.length
  | [], _ => ⟨Int.le_refl 0, Int.le_refl 0⟩
  | p :: E, h => by
    obtain ⟨h1, h2⟩ := wOf_le (k := k) (E := E) fun q hq => h q (List.mem_cons_of_mem _ hq)
    have hp := h p (List.mem_cons_self ..)
    have e : wOf (p :: E) k = (if p.1 = k then p.2 else 0) + wOf E k := rfl
    rw [e, List.length_cons]
    split <;> omega
theorem kink_len (ts : List Tm) : (kinkV (entV ts)).length ≤ 2 * ts.length := by
  unfold kinkV
  rw [List.length_map, (rowsS_perm _).length_eq]
  have := keysT_len (entV ts)
  unfold keysT at this
  rw [List.length_map, entV_len] at this
  exact this
theorem kink_ok {ts : List Tm} {n : Nat} (l24 : ts.length ≤ 24) (h8 : n ≤ 8) (g : ∀ t ∈ ts, t.Good n ∧ t.soft = true) : OkD (.list ((kinkV (entV ts)).map tpD)) := by
  refine okTps (by have := kink_len ts; omega) fun r hr => ?_
  unfold kinkV at hr
  obtain ⟨k, hk, rfl⟩ := List.mem_map.mp hr
  obtain ⟨p, hp, ep⟩ := ksOf_mem.mp ((rowsS_perm _).mem_iff.mp hk)
  have l3 := entV_len3 p hp
  rw [ep] at l3
  have w := wOf_le (k := k) (E := entV ts) fun q hq => by
    obtain ⟨t, ht, hq⟩ := List.mem_flatMap.mp hq
    unfold entT at hq
    obtain ⟨z, _, rfl⟩ := List.mem_map.mp hq
    have := soft_force (g t ht).2 (g t ht).1.fr
    exact ⟨by show 0 ≤ t.force; omega, this.2⟩
  rw [entV_len] at w
  refine ⟨by rw [List.length_append, l3]; exact Nat.le_refl 4, fun x hx => ?_⟩
  rcases List.mem_append.mp hx with hx | hx
  · obtain ⟨t, ht, hq⟩ := List.mem_flatMap.mp hp
    unfold entT at hq
    obtain ⟨z, hz, rfl⟩ := List.mem_map.mp hq
    have ep : z = k := ep
    exact plV_mid (g t ht).1 h8 z hz x (by rw [ep]; exact hx)
  · rw [List.mem_singleton.mp hx]
    exact mid18 ⟨by omega, by omega⟩
theorem kink_alike {ts us : List Tm} {n : Nat} (g : ∀ t ∈ ts, t.Good n ∧ t.soft = true) (g' : ∀ t ∈ us, t.Good n ∧ t.soft = true) (h : ∀ k, wOf (entV us) k = wOf (entV ts) k) : kinkV (entV us) = kinkV (entV ts) :=
  kink_eq (entV_pos fun t ht => (soft_force (g' t ht).2 (g' t ht).1.fr).1) (entV_pos fun t ht => (soft_force (g t ht).2 (g t ht).1.fr).1) h
end DL
namespace K80
open PySem L2 DL
def top (i : Nat) : Stmt := PySem.Challenge.pw_mostpulled_k80_kinks_by_their_definition.main.body.getD i (.Pass ⟨0, 0, 0, 0⟩)

local macro_rules | `(tactic| walk_at "dx") => `(tactic| try simp -implicitDefEqProofs only [sSeq, sNext, sRet, sIf, sAsg, sPar, sAugI, sFor, sBreak, sCont, dgName, v_tup, v_gcons, v_gnil, dVar, dC, dOp, dUn, dChain, dTup, dLst, dNil, dCons, aNil, aCons, aVar, dCall, dCB, dSl, v_part, dPart, dAndV, dOrV, dNotV, dIfE, dTru, dTest, dAndT, dOrT, dNotT, dLc, diSeq, diR1, diR2,
  v_add, v_addL, v_addT, v_sub, v_mul, v_mulL, v_fdiv, v_mod, v_pow, v_neg, v_cmp, v_eqI, v_neI, v_eqB, v_neB, v_eqS, v_neS, v_isN, v_isI, v_notN, v_notI, v_inT, v_inL, v_ixT, v_ixL, v_slT, v_slL, v_lenT, v_lenL, v_max2, v_min2, v_max3, v_intI, v_intB, v_abs, v_tupL, v_tupT, v_lstL, v_lstT, v_asB, v_truB, v_truI, v_truN, v_flN, v_flB, v_flI, v_flS, v_if,
  cRepr, cAll, dIsi, isInt, isBool, isTup, wipeD, dstart, List.map_cons, List.map_nil, List.length_cons, List.length_nil, List.cons_append, List.nil_append, List.replicate_zero, List.replicate_succ, List.getElem?_cons_zero, List.getElem?_cons_succ, List.set_cons_zero, List.set_cons_succ, List.all_cons, List.all_nil, Bool.and_self,
  Nat.sub_self, Nat.reduceSub, Nat.reduceAdd, Int.reduceAdd, Int.reduceSub, Int.reduceMul, Int.reduceNeg, Int.reduceBEq, Int.reduceEq, Int.reduceLT, Int.reduceBNe, decide_true, decide_false, List.append_nil, true_and, and_true, true_implies, forall_const, Bool.false_eq_true, Bool.true_eq_false, if_true, if_false, Bool.not_true, Bool.not_false])

abbrev cs34_18 : Scope := { kind := .function, names := [(".0", .«local»), ("place", .«local»), ("weights", .free)], isGenerator := false, isCoroutine := false, more := [] }
abbrev cs34_18c : Scope := { kind := .function, names := [(".0", .«local»), ("place", .«local»), ("weights", .cell)], isGenerator := false, isCoroutine := false, more := [] }
abbrev cs41_15 : Scope := { kind := .function, names := [(".0", .«local»), ("end", .«local»), ("term", .free)], isGenerator := false, isCoroutine := false, more := [] }
abbrev cs41_15c : Scope := { kind := .function, names := [(".0", .«local»), ("end", .«local»), ("term", .cell)], isGenerator := false, isCoroutine := false, more := [] }
abbrev cs44_15 : Scope := { kind := .function, names := [(".0", .«local»), ("end", .«local»), ("dial", .free), ("other", .free)], isGenerator := false, isCoroutine := false, more := [] }
abbrev cs44_15c : Scope := { kind := .function, names := [(".0", .«local»), ("end", .«local»), ("dial", .cell), ("other", .cell)], isGenerator := false, isCoroutine := false, more := [] }
abbrev cs45_11 : Scope := { kind := .function, names := [(".0", .«local»), ("end", .«local»), ("dial", .free), ("other", .free)], isGenerator := false, isCoroutine := false, more := [] }
abbrev cs45_11c : Scope := { kind := .function, names := [(".0", .«local»), ("end", .«local»), ("dial", .cell), ("other", .cell)], isGenerator := false, isCoroutine := false, more := [] }
abbrev cs68_15 : Scope := { kind := .function, names := [(".0", .«local»), ("part", .«local»), ("is_dial", .globalImplicit), ("size", .free)], isGenerator := false, isCoroutine := false, more := [] }
abbrev cs68_15c : Scope := { kind := .function, names := [(".0", .«local»), ("part", .«local»), ("is_dial", .globalImplicit), ("size", .cell)], isGenerator := false, isCoroutine := false, more := [] }
abbrev cs130_15 : Scope := { kind := .function, names := [(".0", .«local»), ("term", .«local»), ("is_term", .globalImplicit), ("size", .free)], isGenerator := false, isCoroutine := false, more := [] }
abbrev cs130_15c : Scope := { kind := .function, names := [(".0", .«local»), ("term", .«local»), ("is_term", .globalImplicit), ("size", .cell)], isGenerator := false, isCoroutine := false, more := [] }
abbrev cs133_30 : Scope := { kind := .function, names := [(".0", .«local»), ("_law_cell", .«local»), ("abs", .globalImplicit)], isGenerator := false, isCoroutine := false, more := [] }
abbrev cs133_30c : Scope := { kind := .function, names := [(".0", .«local»), ("_law_cell", .«local»), ("abs", .globalImplicit)], isGenerator := false, isCoroutine := false, more := [] }
abbrev cs182_11 : Scope := { kind := .function, names := [(".0", .«local»), ("_law_key", .«local»), ("_law_found", .free)], isGenerator := false, isCoroutine := false, more := [] }
abbrev cs182_11c : Scope := { kind := .function, names := [(".0", .«local»), ("_law_key", .«local»), ("_law_found", .cell)], isGenerator := false, isCoroutine := false, more := [] }
abbrev s0 : Stmt := top 6
abbrev N0 : List Str := ["term"]
theorem sc0 : FnScope N0 ["term"] (defScope s0) := ⟨rfl, rfl, rfl, by decide +kernel, rfl, by decide +kernel, by decide +kernel⟩
abbrev s1 : Stmt := top 7
abbrev N1 : List Str := ["term"]
theorem sc1 : FnScope N1 ["term"] (defScope s1) := ⟨rfl, rfl, rfl, by decide +kernel, rfl, by decide +kernel, by decide +kernel⟩
abbrev s2 : Stmt := top 8
abbrev N2 : List Str := ["term"]
theorem sc2 : FnScope N2 ["term"] (defScope s2) := ⟨rfl, rfl, rfl, by decide +kernel, rfl, by decide +kernel, by decide +kernel⟩
abbrev s3 : Stmt := top 9
abbrev N3 : List Str := ["term", "at"]
theorem sc3 : FnScope N3 ["term"] (defScope s3) := ⟨rfl, rfl, rfl, by decide +kernel, rfl, by decide +kernel, by decide +kernel⟩
abbrev s4 : Stmt := top 10
abbrev N4 : List Str := ["term"]
theorem sc4 : FnScope N4 ["term"] (defScope s4) := ⟨rfl, rfl, rfl, by decide +kernel, rfl, by decide +kernel, by decide +kernel⟩
abbrev s5 : Stmt := top 12
abbrev N5 : List Str := ["board", "weights", "term", "place"]
theorem sc5 : FnScope N5 ["board"] (defScope s5) := ⟨rfl, rfl, rfl, by decide +kernel, rfl, by decide +kernel, by decide +kernel⟩
abbrev s6 : Stmt := top 13
abbrev N6 : List Str := ["board", "at", "term"]
theorem sc6 : FnScope N6 ["board"] (defScope s6) := ⟨rfl, rfl, rfl, by decide +kernel, rfl, by decide +kernel, by decide +kernel⟩
abbrev s7 : Stmt := top 14
abbrev N7 : List Str := ["term", "dial", "other", "end"]
theorem sc7 : FnScope N7 ["term"] (defScope s7) := ⟨rfl, rfl, rfl, by decide +kernel, rfl, by decide +kernel, by decide +kernel⟩
abbrev s8 : Stmt := top 17
abbrev N8 : List Str := ["thing"]
theorem sc8 : FnScope N8 ["thing"] (defScope s8) := ⟨rfl, rfl, rfl, by decide +kernel, rfl, by decide +kernel, by decide +kernel⟩
abbrev s9 : Stmt := top 18
abbrev N9 : List Str := ["thing"]
theorem sc9 : FnScope N9 ["thing"] (defScope s9) := ⟨rfl, rfl, rfl, by decide +kernel, rfl, by decide +kernel, by decide +kernel⟩
abbrev s10 : Stmt := top 19
abbrev N10 : List Str := ["thing"]
theorem sc10 : FnScope N10 ["thing"] (defScope s10) := ⟨rfl, rfl, rfl, by decide +kernel, rfl, by decide +kernel, by decide +kernel⟩
abbrev s11 : Stmt := top 20
abbrev N11 : List Str := ["thing", "size"]
theorem sc11 : FnScope N11 ["thing", "size"] (defScope s11) := ⟨rfl, rfl, rfl, by decide +kernel, rfl, by decide +kernel, by decide +kernel⟩
abbrev s12 : Stmt := top 21
abbrev N12 : List Str := ["thing", "size", "word"]
theorem sc12 : FnScope N12 ["thing", "size"] (defScope s12) := ⟨rfl, rfl, rfl, by decide +kernel, rfl, by decide +kernel, by decide +kernel⟩
abbrev s13 : Stmt := top 22
abbrev N13 : List Str := ["thing"]
theorem sc13 : FnScope N13 ["thing"] (defScope s13) := ⟨rfl, rfl, rfl, by decide +kernel, rfl, by decide +kernel, by decide +kernel⟩
abbrev s14 : Stmt := top 23
abbrev N14 : List Str := ["parts", "size", "part"]
theorem sc14 : FnScope N14 ["parts", "size"] (defScope s14) := ⟨rfl, rfl, rfl, by decide +kernel, rfl, by decide +kernel, by decide +kernel⟩
abbrev s15 : Stmt := top 24
abbrev N15 : List Str := ["parts", "low", "high"]
theorem sc15 : FnScope N15 ["parts"] (defScope s15) := ⟨rfl, rfl, rfl, by decide +kernel, rfl, by decide +kernel, by decide +kernel⟩
abbrev s16 : Stmt := top 27
abbrev N16 : List Str := ["thing", "size", "term"]
theorem sc16 : FnScope N16 ["thing", "size"] (defScope s16) := ⟨rfl, rfl, rfl, by decide +kernel, rfl, by decide +kernel, by decide +kernel⟩
abbrev s17 : Stmt := top 29
abbrev N17 : List Str := ["_law_script", "_law_cell"]
theorem sc17 : FnScope N17 ["_law_script"] (defScope s17) := ⟨rfl, rfl, rfl, by decide +kernel, rfl, by decide +kernel, by decide +kernel⟩
abbrev s18 : Stmt := top 30
abbrev N18 : List Str := ["_law_bag_here", "_law_many", "_law_first", "_law_second", "_law_cell", "_law_value"]
theorem sc18 : FnScope N18 ["_law_bag_here", "_law_many"] (defScope s18) := ⟨rfl, rfl, rfl, by decide +kernel, rfl, by decide +kernel, by decide +kernel⟩
abbrev s19 : Stmt := top 31
abbrev N19 : List Str := ["_law_found", "_law_due"]
theorem sc19 : FnScope N19 ["_law_found", "_law_due"] (defScope s19) := ⟨rfl, rfl, rfl, by decide +kernel, rfl, by decide +kernel, by decide +kernel⟩
abbrev s20 : Stmt := top 32
abbrev N20 : List Str := ["_law_term", "_law_begin", "_law_other"]
theorem sc20 : FnScope N20 ["_law_term"] (defScope s20) := ⟨rfl, rfl, rfl, by decide +kernel, rfl, by decide +kernel, by decide +kernel⟩
abbrev s21 : Stmt := top 33
abbrev N21 : List Str := ["_law_bag_here", "_law_scale"]
theorem sc21 : FnScope N21 ["_law_bag_here", "_law_scale"] (defScope s21) := ⟨rfl, rfl, rfl, by decide +kernel, rfl, by decide +kernel, by decide +kernel⟩
abbrev s22 : Stmt := top 34
abbrev N22 : List Str := ["_law_bag_here", "_law_size", "_law_scale", "_law_many", "_law_found", "_law_turn", "_law_middles", "_law_mixed", "_law_middle", "_law_most", "_law_low", "_law_force", "_law_high", "_law_dial"]
theorem sc22 : FnScope N22 ["_law_bag_here", "_law_size", "_law_scale", "_law_many"] (defScope s22) := ⟨rfl, rfl, rfl, by decide +kernel, rfl, by decide +kernel, by decide +kernel⟩
abbrev s23 : Stmt := top 35
abbrev N23 : List Str := ["_law_terms", "_law_found", "_law_term", "_law_end", "_law_dial", "_law_other", "_law_low", "_law_high", "_law_force", "_law_key", "_law_ends"]
theorem sc23 : FnScope N23 ["_law_terms"] (defScope s23) := ⟨rfl, rfl, rfl, by decide +kernel, rfl, by decide +kernel, by decide +kernel⟩
abbrev s24 : Stmt := top 36
abbrev N24 : List Str := ["_law_bag_here", "_law_terms", "_law_found", "_law_term", "_law_at", "_law_turn", "_law_parts_here", "_law_part", "_law_dial", "_law_other", "_law_low", "_law_high", "_law_force", "_law_first", "_law_one"]
theorem sc24 : FnScope N24 ["_law_bag_here", "_law_terms"] (defScope s24) := ⟨rfl, rfl, rfl, by decide +kernel, rfl, by decide +kernel, by decide +kernel⟩
abbrev s25 : Stmt := top 37
abbrev N25 : List Str := ["_law_script", "_law_bag_here", "_law_k", "_law_size", "_law_terms", "_law_again", "_law_split_here", "_law_board", "_law_due", "_law_found"]
theorem sc25 : FnScope N25 ["_law_script"] (defScope s25) := ⟨rfl, rfl, rfl, by decide +kernel, rfl, by decide +kernel, by decide +kernel⟩
abbrev s26 : Stmt := inClass (top 26) 0
abbrev N26 : List Str := ["self", "size", "terms"]
theorem sc26 : FnScope N26 ["self", "size", "terms"] (defScope s26) := ⟨rfl, rfl, rfl, by decide +kernel, rfl, by decide +kernel, by decide +kernel⟩
abbrev s27 : Stmt := inClass (top 26) 2
abbrev N27 : List Str := ["self"]
theorem sc27 : FnScope N27 ["self"] (defScope s27) := ⟨rfl, rfl, rfl, by decide +kernel, rfl, by decide +kernel, by decide +kernel⟩
abbrev s28 : Stmt := inClass (top 26) 4
abbrev N28 : List Str := ["self", "other"]
theorem sc28 : FnScope N28 ["self", "other"] (defScope s28) := ⟨rfl, rfl, rfl, by decide +kernel, rfl, by decide +kernel, by decide +kernel⟩
abbrev s29 : Stmt := inClass (top 26) 6
abbrev N29 : List Str := ["self"]
theorem sc29 : FnScope N29 ["self"] (defScope s29) := ⟨rfl, rfl, rfl, by decide +kernel, rfl, by decide +kernel, by decide +kernel⟩
abbrev s30 : Stmt := inClass (top 26) 10
abbrev N30 : List Str := ["self", "at"]
theorem sc30 : FnScope N30 ["self", "at"] (defScope s30) := ⟨rfl, rfl, rfl, by decide +kernel, rfl, by decide +kernel, by decide +kernel⟩
abbrev s31 : Stmt := inClass (top 26) 13
abbrev N31 : List Str := ["self", "terms", "board"]
theorem sc31 : FnScope N31 ["self", "terms"] (defScope s31) := ⟨rfl, rfl, rfl, by decide +kernel, rfl, by decide +kernel, by decide +kernel⟩
structure Txt (w : World) (K : PySem.W.Frag) (mg : Str → Option Value) (C L : Addr) (f : Nat → Addr) (fd : Nat → FuncData) : Prop where
  cl : Cls K C
  nS : NoAttr K C "_size"
  nT : NoAttr K C "_terms"
  mgC : mg "Board" = some (.ref C)
  isi : IsiC K C
  mL : mg "TERMS" = some (.ref L)
  len : LenAt K w L
  d0 : DefAt K mg "has_other" s0 ["term"] (f 0) (fd 0)
  d1 : DefAt K mg "has_force" s1 ["term"] (f 1) (fd 1)
  d2 : DefAt K mg "dials_of" s2 ["term"] (f 2) (fd 2)
  d3 : DefAt K mg "ends_of" s3 ["term"] (f 3) (fd 3)
  d4 : DefAt K mg "_low_at" s4 ["term"] (f 4) (fd 4)
  d5 : DefAt K mg "kinks" s5 ["board"] (f 5) (fd 5)
  d6 : DefAt K mg "check_free" s6 ["board"] (f 6) (fd 6)
  d7 : DefAt K mg "_places" s7 ["term"] (f 7) (fd 7)
  d8 : DefAt K mg "is_integer" s8 ["thing"] (f 8) (fd 8)
  d9 : DefAt K mg "is_value" s9 ["thing"] (f 9) (fd 9)
  d10 : DefAt K mg "is_force" s10 ["thing"] (f 10) (fd 10)
  d11 : DefAt K mg "is_dial" s11 ["thing", "size"] (f 11) (fd 11)
  d12 : DefAt K mg "is_term" s12 ["thing", "size"] (f 12) (fd 12)
  d13 : DefAt K mg "_word" s13 ["thing"] (f 13) (fd 13)
  d14 : DefAt K mg "_are_dials" s14 ["parts", "size"] (f 14) (fd 14)
  d15 : DefAt K mg "_are_ends" s15 ["parts"] (f 15) (fd 15)
  d16 : DefAt K mg "_are_terms" s16 ["thing", "size"] (f 16) (fd 16)
  d17 : DefAt K mg "_law_bag" s17 ["_law_script"] (f 17) (fd 17)
  d18 : DefAt K mg "_law_take" s18 ["_law_bag_here", "_law_many"] (f 18) (fd 18)
  d19 : DefAt K mg "_law_alike" s19 ["_law_found", "_law_due"] (f 19) (fd 19)
  d20 : DefAt K mg "_law_parts" s20 ["_law_term"] (f 20) (fd 20)
  d21 : DefAt K mg "_law_number" s21 ["_law_bag_here", "_law_scale"] (f 21) (fd 21)
  d22 : DefAt K mg "_law_free_terms" s22 ["_law_bag_here", "_law_size", "_law_scale", "_law_many"] (f 22) (fd 22)
  d23 : DefAt K mg "_law_kinks" s23 ["_law_terms"] (f 23) (fd 23)
  d24 : DefAt K mg "_law_split" s24 ["_law_bag_here", "_law_terms"] (f 24) (fd 24)
  d25 : DefAt K mg "law" s25 ["_law_script"] (f 25) (fd 25)
  i26 : Fun K "__init__" "Board.__init__" s26 (f 26) (fd 26)
  ib : Binds K (fd 26) ["self", "size", "terms"] []
  mkC : Mk K C (f 26)
  d27 : Fun K "size" "Board.size" s27 (f 27) (fd 27)
  b27 : Binds K (fd 27) ["self"] []
  p27 : PropOf K C "size" (f 1027) (f 27)
  m28 : MethAt K C "__eq__" "Board.__eq__" s28 ["self", "other"] (f 28) (fd 28)
  m29 : MethAt K C "terms" "Board.terms" s29 ["self"] (f 29) (fd 29)
  m30 : MethAt K C "without" "Board.without" s30 ["self", "at"] (f 30) (fd 30)
  m31 : MethAt K C "_with_terms" "Board._with_terms" s31 ["self", "terms"] (f 31) (fd 31)
  b_abs : mg "abs" = none
  b_all : mg "all" = none
  b_bool : mg "bool" = none
  b_enumerate : mg "enumerate" = none
  b_int : mg "int" = none
  b_isinstance : mg "isinstance" = none
  b_len : mg "len" = none
  b_list : mg "list" = none
  b_max : mg "max" = none
  b_min : mg "min" = none
  b_range : mg "range" = none
  b_repr : mg "repr" = none
  b_sorted : mg "sorted" = none
  b_str : mg "str" = none
  b_tuple : mg "tuple" = none

def hasOtherR : DR := fun xs Q => ∃ t : Tm, xs = [.dat t.py] ∧ Q (.bool t.two)
def lowAtR : DR := fun xs Q => ∃ t : Tm, xs = [.dat t.py] ∧ Q (.int (if t.two then 3 else 2))
def endsR : DR := fun xs Q => ∃ t : Tm, xs = [.dat t.py] ∧ Q (.tuple [.int t.low, .int t.high])
def partsR : DR := fun xs Q => ∃ t : Tm, xs = [.dat t.py] ∧ Q (.tuple [.int t.dial, t.oth, .int t.low, .int t.high, t.frc])
def numR : DR := fun xs Q => ∃ s : Int, xs = [.bag, .dat (.int s)] ∧ 0 ≤ s ∧ s < 10 ^ 50 ∧ ∀ v : Int, -s ≤ v → v ≤ s → Q (.int v)
def dialsR : DR := fun xs Q => ∃ t : Tm, xs = [.dat t.py] ∧ Q (.tuple t.dials)
def isIntR : DR := fun xs Q => ∃ i : Int, xs = [.dat (.int i)] ∧ Q (.bool true)
def isValR : DR := fun xs Q => ∃ i : Int, xs = [.dat (.int i)] ∧ -(10 ^ 18) ≤ i ∧ i ≤ 10 ^ 18 ∧ Q (.bool true)
def isForceR : DR := fun xs Q => ∃ i : Int, xs = [.dat (.int i)] ∧ 1 ≤ i ∧ i ≤ 30 ∧ Q (.bool true)
def isDialR : DR := fun xs Q => ∃ i n : Int, xs = [.dat (.int i), .dat (.int n)] ∧ 0 ≤ i ∧ i < n ∧ Q (.bool true)
def wordR : DR := fun xs Q => ∃ t : Tm, xs = [.dat t.py] ∧ Q (.str t.word)
def areDialsR : DR := fun xs Q => ∃ (t : Tm) (n : Int), xs = [.dat (.tuple t.dials), .dat (.int n)] ∧ t.In n.toNat ∧ t.Diff ∧ Q (.bool true)
def areEndsR : DR := fun xs Q => ∃ l h : Int, xs = [.dat (.tuple [.int l, .int h])] ∧ l ≤ h ∧ -(10 ^ 18) ≤ l ∧ h ≤ 10 ^ 18 ∧ Q (.bool true)
def isTermR : DR := fun xs Q => ∃ (t : Tm) (n : Int), xs = [.dat t.py, .dat (.int n)] ∧ t.Good n.toNat ∧ Q (.bool true)
def areTermsR : DR := fun xs Q => ∃ (ts : List Tm) (n : Int), xs = [.dat (.list (ts.map Tm.py)), .dat (.int n)] ∧ ts.length ≤ 24 ∧ (∀ t ∈ ts, t.Good n.toNat) ∧ Q (.bool true)
section
variable {P : Program} {w : World} {K : PySem.W.Frag} {mg : Str → Option Value} {base : Heap} {C L : Addr} {f : Nat → Addr} {fd : Nat → FuncData} {e ei : Nat → Addr} {fe : Nat → FuncData}
theorem ok_0 (T : Txt w K mg C L f fd) : FnG P w K mg base 1 (f 0) (fd 0) ["term"] (spD hasOtherR) := by
  have S := sc0
  refine fn_D T.d0.fn S (fun xs Q h => ?_) fun cdv A outer s H B hn c => ⟨_, _, (ds_one (ds_ret hn (d_cmp (op_inK K) (rd_in) (d_ixK K (d_var 0) d_int) (d_tup (dl_cons d_str (dl_cons d_str dl_nil))) (by rfl)))), fun xs Q h => ?_⟩
  · obtain ⟨t, rfl, _⟩ := h
    rfl
  · obtain ⟨t, rfl, h⟩ := h
    cases t <;> (simp only [Tm.py, Tm.items]; walk_at "dx"; simp only [atI_0, Option.some.injEq, exists_eq_left', inTB_w, inTB_t, inTB_s, inTB_b, v_flS, true_and]; exact ⟨szr, h⟩)
theorem ok_1 (T : Txt w K mg C L f fd) : FnG P w K mg base 1 (f 1) (fd 1) ["term"] (spD hasForceR) := by
  have S := sc1
  refine fn_D T.d1.fn S (fun xs Q h => ?_) fun cdv A outer s H B hn c => ⟨_, _, (ds_one (ds_ret hn (d_cmp (op_inK K) (rd_in) (d_ixK K (d_var 0) d_int) (d_tup (dl_cons d_str (dl_cons d_str dl_nil))) (by rfl)))), fun xs Q h => ?_⟩
  · obtain ⟨t, rfl, _⟩ := h
    rfl
  · obtain ⟨t, rfl, h⟩ := h
    cases t <;> (simp only [Tm.py, Tm.items]; walk_at "dx"; simp only [atI_0, Option.some.injEq, exists_eq_left', inWT_w, inWT_t, inWT_s, inWT_b, v_flS, true_and]; exact ⟨szr, h⟩)
theorem ok_8 (T : Txt w K mg C L f fd) : FnG P w K mg base 1 (f 8) (fd 8) ["thing"] (spD isIntR) := by
  have S := sc8
  refine fn_D T.d8.fn S (fun xs Q h => ?_) fun cdv A outer s H B hn c => ⟨_, _, (ds_one (ds_ret hn (d_and (d_isi K okInt (d_var 0) (by rfl) T.b_isinstance (by rfl) T.b_int (by decide +kernel)) (d_one (d_not (d_isi K okBool (d_var 0) (by rfl) T.b_isinstance (by rfl) T.b_bool (by decide +kernel))))))), fun xs Q h => ?_⟩
  · obtain ⟨i, rfl, _⟩ := h
    rfl
  · obtain ⟨i, rfl, h⟩ := h
    exact ⟨fun _ => h, (fun z => nomatch z)⟩
theorem ok_13 (T : Txt w K mg C L f fd) : FnG P w K mg base 1 (f 13) (fd 13) ["thing"] (spD wordR) := by
  have S := sc13
  refine fn_D T.d13.fn S (fun xs Q h => ?_) fun cdv A outer s H B hn c => ⟨_, _, (ds_cons (ds_if (dt_w (dw_or (dt_not (dt_valK K (d_isi K okTupI (d_var 0) (by rfl) T.b_isinstance (by rfl) T.b_tuple (by decide +kernel)))) (dw_or (dt_cmp (op_eqK K c.room.units) rd_eq (d_callB (call_lenK K) rdc_len (by rfl) T.b_len (by decide +kernel) (dl_cons (d_var 0) dl_nil)) d_int (nomark _)) (dw_or1 (dt_not (dt_valK K (d_isi K okStrI (d_ixK K (d_var 0) d_int) (by rfl) T.b_isinstance (by rfl) T.b_str (by decide +kernel)))))))) (ds_one (ds_ret hn d_str)) ds_nil)
      (ds_one (ds_ret hn (d_ixK K (d_var 0) d_int)))), fun xs Q h => ?_⟩
  · obtain ⟨t, rfl, _⟩ := h
    rfl
  · obtain ⟨t, rfl, h⟩ := h
    have e0 : PyData.eqv (.int t.items.length) (.int 0) = false := by cases t <;> rfl
    have w0 : atI t.items 0 = some (.str t.word) := by cases t <;> rfl
    refine ⟨(fun z => nomatch z), fun _ => ⟨rfl, rfl, ⟨fun z => absurd (e0.symm.trans z) Bool.false_ne_true, fun _ => ⟨_, w0, ⟨(fun z => nomatch z), fun _ => ⟨_, w0, h⟩⟩⟩⟩⟩⟩
theorem ok_17 (T : Txt w K mg C L f fd) : FnG P w K mg base 1 (f 17) (fd 17) ["_law_script"] (spBag K) := by
  have S := sc17
  refine fn_ofG T.d17.fn S (fun vs H Q E h => ?_) fun cdv A outer s H vs Q hG hr h => ?_
  · obtain ⟨a, ns, rfl, _⟩ := h
    rfl
  obtain ⟨a, ns, rfl, hS, hlen, k⟩ := h
  refine ⟨_, pss_one (ps_ret (pe_lst (pa_cons pe_int (pa_cons pe_int (pa_cons pe_int (pa_cons (pe_lc (own := [("_law_cell", 1)]) (g := gName 1) (tt := tYes) rfl S.nd
    (pi_list (pe_slice sl_list (pv 0) po_none (po_some pe_int))) (blkOk_by (N := N17) (sc := defScope s17) (by decide +kernel)) (fun _ _ _ _ _ => pg_name (i := 1) S.nd rfl (Or.inl rfl)) (fun _ _ _ _ _ => pts_nil)
    (fun _ _ _ _ _ => pe_callB call_abs (by rfl) T.b_abs (by decide +kernel) (pa_cons (pv 1) pa_nil))) pa_nil)))))), ?_⟩
  refine ⟨_, rfl, _, rfl, a, _, rfl, hS, fun p hp => ⟨p, rfl, ⟨_, SqL.of upd_same⟩, fun D hD => ?_⟩⟩
  have hpD : p ≠ D := fun z => by
    rw [← z, upd_same] at hD
    cases hD
  have cl : (cutV (ns.map V.int) none (some 63)).length ≤ 63 := Nat.le_trans (cutV_length _ _ _) (by rw [List.length_map]; exact hlen)
  refine lc_list (K := K) (a := p) (xs := cutV (ns.map V.int) none (some 63)) (fun i H2 => H2 p = some (.lst (cutV (ns.map V.int) none (some 63))) ∧ ∃ ms : List Int, H2 D = some (.lst (ms.map V.int)) ∧ ms.length ≤ i ∧ ∀ m ∈ ms, (0 : Int) ≤ m)
    ⟨by rw [upd_ne hpD]; exact upd_same, [], upd_same, Nat.le_refl _, fun _ z => nomatch z⟩ (fun i H2 _ h => SqL.of h.1) ?_ ?_
  · rintro i y H2 hy ⟨e1, ms, e2, hm, nn⟩
    have hi : i < 63 := Nat.lt_of_lt_of_le (List.getElem?_eq_some_iff.mp hy).1 cl
    obtain ⟨v, rfl⟩ : ∃ v, y = V.int v := by
      have mem : y ∈ ns.map V.int := List.mem_of_mem_drop (List.mem_of_mem_take (List.mem_of_getElem? hy))
      obtain ⟨v, _, e⟩ := List.mem_map.mp mem
      exact ⟨v, e.symm⟩
    refine ⟨rfl, ?_⟩
    refine ⟨_, rfl, _, rfl, ms.map V.int, e2, ?_, ?_, ms ++ [if v < 0 then -v else v], ?_, ?_, fun z hz => ?_⟩
    · have hs : sizeLine = 16777216 := sizeLine_eq
      rw [List.length_map]
      omega
    · rw [upd_ne hpD]
      exact e1
    · rw [upd_same, List.map_append]
      rfl
    · rw [List.length_append, List.length_singleton]
      omega
    · rcases List.mem_append.mp hz with hz | hz
      · exact nn z hz
      · rw [List.mem_singleton.mp hz]
        split <;> omega
  · rintro H2 ⟨e1, ms, e2, hm, nn⟩
    refine ⟨by show 4 ≤ sizeLine; rw [sizeLine_eq]; decide, fun B hB => ?_⟩
    have nD : D ≠ B := ne_of_none e2 hB
    exact k B D ms _ upd_same nD (by rw [upd_ne nD]; exact e2) nn
theorem ok_18 (T : Txt w K mg C L f fd) : FnG P w K mg base 1 (f 18) (fd 18) ["_law_bag_here", "_law_many"] (spD takeR) := by
  have S := sc18
  refine fn_ofG T.d18.fn S (fun vs H Q E h => ?_) fun cdv A outer s H vs Q hG hr h => ?_
  · obtain ⟨M, B, xs, Qd, ha, _, ⟨m, rfl, _⟩, _⟩ := h
    exact ha.length
  obtain ⟨M, B, xs, Qd, ha, g, ⟨m, rfl, m0, m1, hq⟩, c⟩ := h
  obtain ⟨b0, b1, b2, q, ns, ok, eH, h0, h1, h2, h3⟩ := id (g.ok ha)
  cases ha with
  | cons r1 _ t1 => cases t1 with
    | cons r2 _ t2 =>
    cases t2
    cases r1
    cases r2 with
    | dat r2 =>
    cases r2
    -- the state behind the first if
    obtain ⟨u, hu, ru⟩ : ∃ u, PSs (cxOf CX0 P w K mg base N18 "_law_take" (defScope s18) (f 18) cdv A outer s H E0).nox ((defBody s18).drop 1) u ∧
        ∀ (c0 c1 c2 : Int) (o2 o3 o4 o5 : Option V), 0 ≤ c0 → 0 ≤ c1 → c1 < 2147483647 → 0 ≤ c2 → u { nx := fun _ H' => Q .non H', rt := Q } [some (.ref B), some (.int m), o2, o3, o4, o5] (upd H B (bagL c0 c1 c2 q)) := by
      refine ⟨_, pss_cons (ps_if (pt_cmpR op_gt (pe_ix ix_list (pv 0) pe_int (fun _ _ => rfl)) pe_int (nomark _))
          (pss_cons (ps_set (i := 5) S.nd rfl (Or.inl rfl) (pe_op op_mod (pe_ix ix_list (pv 0) pe_int (fun _ _ => rfl)) (pv 1)))
          (pss_cons (ps_asg (pe_op op_fdivW (pe_ix ix_list (pv 0) pe_int (fun _ _ => rfl)) (pv 1)) (pg_sub (pv 0) pe_int set_list)) (pss_one (ps_ret (pv 5))))) pss_nil)
        (pss_cons (ps_set (i := 2) S.nd rfl (Or.inl rfl) (pe_op op_mod (pe_op op_mul (pe_op op_add (pe_ix ix_list (pv 0) pe_int (fun _ _ => rfl)) pe_int) pe_int) pe_int))
        (pss_cons (ps_set (i := 3) S.nd rfl (Or.inl rfl) (pe_op op_mod (pe_op op_mul (pe_op op_mod (pe_op op_mul (pv 2) (pv 2)) pe_int) pe_int) pe_int))
        (pss_cons (ps_if (pt_cmpR op_gt (pv 1) pe_int (nomark _)) (pss_one (ps_ret (pe_op op_mod (pe_op op_add (pe_op op_mul (pv 3) pe_int) (pv 2)) (pv 1)))) pss_nil)
        (pss_one (ps_ret (pe_op op_mod (pe_op op_fdiv (pv 3) pe_int) (pv 1))))))), ?_⟩
      intro c0 c1 c2 o2 o3 o4 o5 k0 k1 k2 k3
      have back : ∀ (v : Int) (d0 : Int), 0 ≤ d0 → 0 ≤ v → v < m → Q (.int v) (upd H B (bagL d0 c1 c2 q)) := fun v d0 hd hv hm => have kk : Keep M B.a H (upd H B.a (bagL d0 c1 c2 q)) := (Keep.at ok.m fun q' e' => by
        unfold bagq at e' ⊢
        rw [eH, upd_same] at e'
        rw [upd_same]
        exact e')
        c _ _ _ (g.expr (ok.good hd k1 k2 k3) kk) kk (.int v) (hq v hv hm)
      have rem : ∀ x : Int, 0 ≤ x % m ∧ x % m < m := fun x => ⟨Int.emod_nonneg _ (by omega), Int.emod_lt_of_pos _ m0⟩
      refine ⟨_, rfl, B, _, _, _, rfl, rfl, SqL.of upd_same, rfl, _, _, rfl, rfl, _, rfl, ite2 (fun hc => ?_) fun hc => ?_⟩
      · refine ⟨_, rfl, B, _, _, _, rfl, rfl, SqL.of upd_same, rfl, _, rfl, _, _, rfl, rfl, m0, ?_⟩
        refine ⟨_, rfl, B, _, _, _, rfl, rfl, SqL.of upd_same, rfl, _, rfl, _, _, rfl, rfl, wide_div m0 (b := 1000) ?_ (by decide) (by decide), ?_⟩
        · have e : ((2 : Int) ^ 1000) = (((2 : Nat) ^ 1000 : Nat) : Int) := by rfl
          rw [e] at m1
          generalize (2 : Nat) ^ 1000 = mm at m1 ⊢
          omega
        refine ⟨_, rfl, B, _, _, 0, rfl, rfl, upd_same, rfl, _, rfl, ?_⟩
        rw [upd_upd]
        exact back _ _ (Int.ediv_nonneg k0 (by omega)) (rem c0).1 (rem c0).2
      · have fl : 0 ≤ (c1 + 1) * 39373 % 1000000007 ∧ (c1 + 1) * 39373 % 1000000007 < 1000000007 := ⟨Int.emod_nonneg _ (by decide), Int.emod_lt_of_pos _ (by decide)⟩
        refine ⟨_, rfl, B, _, _, _, rfl, rfl, SqL.of upd_same, rfl, _, _, rfl, rfl, _, _, rfl, rfl, .inr ⟨by decide, by decide⟩, _, _, rfl, rfl, (by show (0 : Int) < 1000000007; decide), ?_⟩
        generalize (c1 + 1) * 39373 % 1000000007 = v1 at fl
        have sl : ∀ x : Int, 0 ≤ x % 998244353 ∧ x % 998244353 < 998244353 := fun x => ⟨Int.emod_nonneg _ (by decide), Int.emod_lt_of_pos _ (by decide)⟩
        refine ⟨_, rfl, _, rfl, _, _, rfl, rfl, .inl ⟨by omega, by omega⟩, _, _, rfl, rfl, (by show (0 : Int) < 998244353; decide), _, _, rfl, rfl, .inr ⟨by decide, by decide⟩, _, _, rfl, rfl, (by show (0 : Int) < 998244353; decide), ?_⟩
        have s2 := sl (v1 * v1 % 998244353 * 30011)
        generalize v1 * v1 % 998244353 * 30011 % 998244353 = v2 at s2
        refine ⟨_, rfl, _, _, rfl, rfl, _, rfl, ite2 (fun hm => ?_) fun hm => ?_⟩
        · exact ⟨_, rfl, _, _, rfl, rfl, .inr ⟨by decide, by decide⟩, _, rfl, _, _, rfl, rfl, _, rfl, _, _, rfl, rfl, m0, back _ _ k0 (rem _).1 (rem _).2⟩
        · exact ⟨_, rfl, _, _, rfl, rfl, ⟨by decide, by decide⟩, _, rfl, _, _, rfl, rfl, m0, back _ _ k0 (rem _).1 (rem _).2⟩
    -- behind the cell is drawn
    obtain ⟨u2, hu2, ru2⟩ : ∃ u2, PSs (cxOf CX0 P w K mg base N18 "_law_take" (defScope s18) (f 18) cdv A outer s H E0).nox ((ifBody ((defBody s18).getD 0 (.Pass ⟨0, 0, 0, 0⟩))).drop 2) u2 ∧
        ∀ (cell : Int) (o2 o3 o5 : Option V), 0 ≤ cell → b0 = 0 → u2 { nx := u { nx := fun _ H' => Q .non H', rt := Q }, rt := Q } [some (.ref B), some (.int m), o2, o3, some (.int cell), o5] (upd H B (bagL b0 b1 b2 q)) := by
      refine ⟨_, pss_cons (ps_augS (pv 0) pe_int get_list pe_int ip_add set_list)
        (pss_cons (ps_if (pt_cmpR op_ge (pv 4) pe_int (nomark _)) (pss_one (ps_asg (pv 4) (pg_sub (pv 0) pe_int set_list))) pss_nil)
        (pss_one (ps_asg (pe_op op_mod (pe_op op_add (pe_op op_add (pe_op op_mul (pe_ix ix_list (pv 0) pe_int (fun _ _ => rfl)) pe_int) (pe_op op_mod (pv 4) pe_int)) (pe_op op_mul pe_int (pe_ix ix_list (pv 0) pe_int (fun _ _ => rfl)))) pe_int) (pg_sub (pv 0) pe_int set_list)))), ?_⟩
      intro cell o2 o3 o5 hc hz
      refine ⟨_, rfl, B, _, _, 2, rfl, rfl, SqL.of upd_same, rfl, _, _, rfl, rfl, B, _, _, 2, rfl, rfl, upd_same, rfl, ?_⟩
      rw [upd_upd]
      have sd : ∀ x : Int, 0 ≤ x % 2147483647 ∧ x % 2147483647 < 2147483647 := fun x => ⟨Int.emod_nonneg _ (by decide), Int.emod_lt_of_pos _ (by decide)⟩
      have last : ∀ c0 : Int, 0 ≤ c0 → tAsg (tOp (rI (fun _ j => 0 < j) fun i j => .int (i % j)) (tOp (rI0 fun i j => .int (i + j)) (tOp (rI0 fun i j => .int (i + j)) (tOp (rI CMul fun i j => .int (i * j)) (tOp (rIxL K) (tVar 0) (tC (.int 1))) (tC (.int 48271))) (tOp (rI (fun _ j => 0 < j) fun i j => .int (i % j)) (tVar 4) (tC (.int 2147483647)))) (tOp (rI CMul fun i j => .int (i * j)) (tC (.int 7919)) (tOp (rIxL K) (tVar 0) (tC (.int 2))))) (tC (.int 2147483647)))
          (gSub (tVar 0) (tC (.int 1)) rSetL) { nx := u { nx := fun _ H' => Q .non H', rt := Q }, rt := Q } [some (.ref B), some (.int m), o2, o3, some (.int cell), o5] (upd H B (bagL c0 b1 (b2 + 1) q)) := by
        intro c0 hc0
        refine ⟨_, rfl, B, _, _, _, rfl, rfl, SqL.of upd_same, rfl, _, _, rfl, rfl, .inr ⟨by decide, by decide⟩, _, rfl, _, _, rfl, rfl, (by show (0 : Int) < 2147483647; decide), _, _, rfl, rfl, ?_⟩
        refine ⟨_, rfl, B, _, _, _, rfl, rfl, SqL.of upd_same, rfl, _, _, rfl, rfl, .inl ⟨by decide, by decide⟩, _, _, rfl, rfl, _, _, rfl, rfl, (by show (0 : Int) < 2147483647; decide), ?_⟩
        refine ⟨_, rfl, B, _, _, 1, rfl, rfl, upd_same, rfl, ?_⟩
        rw [upd_upd]
        exact ru c0 _ (b2 + 1) _ _ _ _ hc0 (sd _).1 (sd _).2 (by omega)
      refine ⟨_, rfl, _, _, rfl, rfl, _, rfl, ite2 (fun hb => ?_) fun hb => last b0 h0⟩
      refine ⟨_, rfl, _, rfl, B, _, _, 0, rfl, rfl, upd_same, rfl, ?_⟩
      rw [upd_upd]
      exact last cell hc
    refine ⟨_, pss_cons (ps_if (pt_cmpR op_eq (pe_ix ix_list (pv 0) pe_int (fun _ _ => rfl)) pe_int (nomark _))
        (pss_cons (ps_set (i := 4) S.nd rfl (Or.inl rfl) pe_int)
        (pss_cons (ps_if (pt_cmpR op_lt (pe_ix ix_list (pv 0) pe_int (fun _ _ => rfl)) (pe_callB call_len_seq (by rfl) T.b_len PySem.boot_len (pa_cons (pe_ix ix_list (pv 0) pe_int (fun _ _ => rfl)) pa_nil)) (nomark _))
          (pss_one (ps_set (i := 4) S.nd rfl (Or.inl rfl) (pe_ix ix_list (pe_ix ix_list (pv 0) pe_int (fun _ _ => rfl)) (pe_ix ix_list (pv 0) pe_int (fun _ _ => rfl)) (fun _ _ => rfl)))) pss_nil) hu2)) pss_nil) hu, ?_⟩
    rw [eH]
    refine ⟨_, rfl, B, _, _, _, rfl, rfl, SqL.of upd_same, rfl, rfl, _, rfl, ite2 (fun hz => ?_) fun hz => ru b0 b1 b2 _ _ _ _ h0 h1 h2 h3⟩
    have hz0 : b0 = 0 := by simpa using hz
    have hqB : (upd H B (bagL b0 b1 b2 q)) q = some (.lst (ns.map V.int)) := by
      rw [upd_ne ok.ne]
      exact ok.cells
    refine ⟨_, rfl, B, _, _, _, rfl, rfl, SqL.of upd_same, rfl, _, rfl, B, _, _, _, rfl, rfl, SqL.of upd_same, rfl, q, _, rfl, .inl (SqL.of hqB), _, _, rfl, rfl, _, rfl, ite2 (fun hl => ?_) fun hl => ru2 0 _ _ _ (by decide) hz0⟩
    have hl2 : b2 < ((ns.map V.int).length : Int) := by simpa using hl
    rw [List.length_map] at hl2
    have hn : b2.toNat < ns.length := by omega
    refine ⟨_, rfl, B, _, _, _, rfl, rfl, SqL.of upd_same, rfl, _, rfl, B, _, _, _, rfl, rfl, SqL.of upd_same, rfl, q, _, _, .int ns[b2.toNat], rfl, rfl, SqL.of hqB, ?_, ru2 ns[b2.toNat] _ _ _ (ok.nn _ (List.getElem_mem hn)) hz0⟩
    obtain ⟨k, rfl⟩ := Int.eq_ofNat_of_zero_le h3
    refine atI_nat ?_
    rw [List.getElem?_map, List.getElem?_eq_getElem (by simpa using hn)]
    rfl
theorem ok_19 (T : Txt w K mg C L f fd) : FnG P w K mg base 1 (f 19) (fd 19) ["_law_found", "_law_due"] (spD alikeR) := by
  have S := sc19
  refine fn_D T.d19.fn S (fun xs Q h => ?_) fun cdv A outer s H B hn c => ⟨_, _, (ds_one (ds_ret hn (d_and (d_cmp (op_eqK K c.room.units) rd_eq (d_var 0) (d_var 1) (nomark _)) (d_one (d_cmp (op_eqK K c.room.units) rd_eq (d_callB (call_reprK K c.guards c.room.units) rdc_repr (by rfl) T.b_repr (by decide +kernel) (dl_cons (d_var 0) dl_nil)) (d_callB (call_reprK K c.guards c.room.units) rdc_repr (by rfl) T.b_repr (by decide +kernel) (dl_cons (d_var 1) dl_nil)) (nomark _)))))), fun xs Q h => ?_⟩
  · obtain ⟨d, rfl, _⟩ := h
    rfl
  · obtain ⟨d, rfl, ok, h⟩ := h
    have e1 : rEqA d d = fun Q => rEqA d d Q := rfl
    walk_at "dx"
    refine alike_eq ok ?_
    walk_at "dx"
    exact ⟨ok.nd, ok.sw, ok.dp, ok.sz, ok.nd, ok.sw, ok.dp, ok.sz, by simpa using h⟩
theorem ok_20 (T : Txt w K mg C L f fd) : FnG P w K mg base 1 (f 20) (fd 20) ["_law_term"] (spD partsR) := by
  have S := sc20
  refine fn_D T.d20.fn S (fun xs Q h => ?_) fun cdv A outer s H B hn c => ⟨_, _, (ds_cons (ds_set (i := 1) S.nd rfl (by first | exact Or.inl rfl | exact Or.inr rfl) (d_op (op_addK K) rd_add d_int (d_callTy call_int1 rdc_int (by rfl) T.b_int (by decide +kernel) (dl_cons (d_cmp (op_inK K) (rd_in) (d_ixK K (d_var 0) d_int) (d_tup (dl_cons d_str (dl_cons d_str dl_nil))) (by rfl)) dl_nil))))
      (ds_cons (ds_set (i := 2) S.nd rfl (by first | exact Or.inl rfl | exact Or.inr rfl) (d_if (dt_cmp (op_eqK K c.room.units) rd_eq (d_var 1) d_int (nomark _)) (d_ixK K (d_var 0) d_int) d_non))
      (ds_one (ds_ret hn (d_tup (dl_cons (d_ixK K (d_var 0) d_int) (dl_cons (d_var 2) (dl_cons (d_ixK K (d_var 0) (d_var 1)) (dl_cons (d_ixK K (d_var 0) (d_op (op_addK K) rd_add (d_var 1) d_int)) (dl_cons (d_if (dt_cmp (op_inK K) (rd_in) (d_ixK K (d_var 0) d_int) (d_tup (dl_cons d_str (dl_cons d_str dl_nil))) (by rfl)) (d_ixK K (d_var 0) (d_neg d_int)) d_non) dl_nil)))))))))), fun xs Q h => ?_⟩
  · obtain ⟨t, rfl, _⟩ := h
    rfl
  · obtain ⟨t, rfl, h⟩ := h
    cases t <;> (simp only [Tm.py, Tm.items]; walk_at "dx"; simp only [atI_0, Option.some.injEq, exists_eq_left', inTB_w, inTB_t, inTB_s, inTB_b, v_flS, true_and]; refine ⟨szr, ?_⟩; walk_at "dx"; simp only [atI_1, atI_2, atI_3, atI_4, atI_0, atI_m4, atI_m5, atI_m6, Option.some.injEq, exists_eq_left', inWT_w, inWT_t, inWT_s, inWT_b, v_flS, true_and]; walk_at "dx"; exact ⟨szr, szr, h⟩)
theorem ok_27 (T : Txt w K mg C L f fd) : FnG P w K mg base 1 (f 27) (fd 27) ["self"] (spD (brdSizeR C)) := by
  have S := sc27
  refine fn_D T.d27 S (fun xs Q h => ?_) fun cdv A outer s H B hn c => ⟨_, _, (ds_one (ds_ret hn (d_fldS K T.cl T.nS (d_var 0)))), fun xs Q h => ?_⟩
  · obtain ⟨n, l, rfl, _⟩ := h
    rfl
  · obtain ⟨n, l, rfl, h⟩ := h
    exact ⟨n, l, rfl, h⟩
theorem ok_28 (T : Txt w K mg C L f fd) : FnG P w K mg base 1 (f 28) (fd 28) ["self", "other"] (spD (brdEqR C)) := by
  have S := sc28
  refine fn_D T.m28.fn S (fun xs Q h => ?_) fun cdv A outer s H B hn c => ⟨_, _, (ds_one (ds_ret hn (d_and (d_isiB K T.cl T.isi (d_var 1) (by rfl) T.b_isinstance (by rfl) T.mgC) (d_and (d_cmp (op_eqK K c.room.units) rd_eq (d_fldS K T.cl T.nS (d_var 0)) (d_fldS K T.cl T.nS (d_var 1)) (nomark _)) (d_one (d_cmp (op_eqK K c.room.units) rd_eq (d_fldT K T.cl T.nT (d_var 0)) (d_fldT K T.cl T.nT (d_var 1)) (nomark _))))))), fun xs Q h => ?_⟩
  · obtain ⟨n, l, rfl, _⟩ := h
    rfl
  · obtain ⟨n, l, rfl, ok, h⟩ := h
    refine ⟨n, l, rfl, fun _ => ?_, (fun z => nomatch z)⟩
    refine ⟨n, l, rfl, n, l, rfl, rfl, rfl, ?_⟩
    have e : PyData.eqv (.int n) (.int n) = true := by rw [eqvI, beq_iff_eq]
    rw [e]
    refine ⟨fun _ => ⟨n, l, rfl, n, l, rfl, ok.sh, ok.sh, ?_⟩, (fun z => nomatch z)⟩
    rw [eqv_rfl ok]
    exact h
theorem ok_29 (T : Txt w K mg C L f fd) : FnG P w K mg base 1 (f 29) (fd 29) ["self"] (spD (brdTermsR C)) := by
  have S := sc29
  refine fn_D T.m29.fn S (fun xs Q h => ?_) fun cdv A outer s H B hn c => ⟨_, _, (ds_one (ds_ret hn (d_callTy (call_listK K) rdc_list (by rfl) T.b_list (by decide +kernel) (dl_cons (d_fldT K T.cl T.nT (d_var 0)) dl_nil)))), fun xs Q h => ?_⟩
  · obtain ⟨n, l, rfl, _⟩ := h
    rfl
  · obtain ⟨n, l, rfl, h⟩ := h
    exact ⟨n, l, rfl, h⟩
theorem ok_4 (T : Txt w K mg C L f fd) : FnG P w K mg base 2 (f 4) (fd 4) ["term"] (spD lowAtR) := by
  have S := sc4
  refine fn_D T.d4.fn S (fun xs Q h => ?_) fun cdv A outer s H B hn c => ⟨_, _, (ds_one (ds_ret hn (d_if (dt_valK K (d_call (ok_0 T) c.guards (c.room.mono (by decide)) T.d0.bd T.d0.mg T.d0.fn.kp (by rfl) (da_var 0 da_nil))) d_int d_int))), fun xs Q h => ?_⟩
  · obtain ⟨t, rfl, _⟩ := h
    rfl
  · obtain ⟨t, rfl, h⟩ := h
    walk_at "dx"
    refine ⟨t, rfl, ?_⟩
    walk_at "dx"
    cases t <;> exact h
theorem ok_6 (T : Txt w K mg C L f fd) : FnG P w K mg base 2 (f 6) (fd 6) ["board"] (spD (freeR C)) := by
  have S := sc6
  refine fn_D T.d6.fn S (fun xs Q h => ?_) fun cdv A outer s H B hn c => ⟨_, _, (ds_one (ds_for PassesOwn.never rfl (di_enum K (by rfl) T.b_enumerate (dl_cons (d_meth0 T.cl T.m29.me (ok_29 T) c.guards (c.room.mono (by decide)) T.m29.bd (d_var 0)) dl_nil)) (dg_tup (n := 2) rfl (dgs_consA (dg_name (i := 1) S.nd rfl (by first | exact Or.inl rfl | exact Or.inr rfl)) (dgs_consA (dg_name (i := 2) S.nd rfl (by first | exact Or.inl rfl | exact Or.inr rfl)) dgs_nil))) (ds_one (ds_if (dt_not (dt_valK K (d_call (ok_1 T) c.guards (c.room.mono (by decide)) T.d1.bd T.d1.mg T.d1.fn.kp (by rfl) (da_var 2 da_nil)))) (ds_one ds_never) ds_nil)))), fun xs Q h => ?_⟩
  · obtain ⟨n, ts, rfl, _⟩ := h
    rfl
  · obtain ⟨n, ts, rfl, soft, l24, h⟩ := h
    refine ⟨_, _, rfl, _, _, rfl, szr0 (by rw [List.length_map]; omega), ?_⟩
    refine forW_at (fun i ds => ∃ x1 x2, ds = [some (.dat (brdD C n (ts.map Tm.py))), x1, x2]) (fun i x N ds hx hds hN => ?_) (fun ds hds => ?_) ⟨none, none, rfl⟩
    · obtain ⟨x1, x2, rfl⟩ := hds
      obtain ⟨t, ht, rfl⟩ := enumD_map hx
      have st := soft t (List.mem_of_getElem? ht)
      refine ⟨rfl, t, rfl, ?_⟩
      rw [st]
      exact ⟨(fun z => nomatch z), fun _ => hN _ ⟨_, _, rfl⟩⟩
    · exact h
theorem ok_9 (T : Txt w K mg C L f fd) : FnG P w K mg base 2 (f 9) (fd 9) ["thing"] (spD isValR) := by
  have S := sc9
  refine fn_D T.d9.fn S (fun xs Q h => ?_) fun cdv A outer s H B hn c => ⟨_, _, (ds_one (ds_ret hn (d_and (d_call (ok_8 T) c.guards (c.room.mono (by decide)) T.d8.bd T.d8.mg T.d8.fn.kp (by rfl) (da_var 0 da_nil)) (d_one (d_chain op_le op_le rd_cmpI rd_cmpI (d_neg (d_op op_pow rd_pow d_int d_int)) (d_var 0) (d_op op_pow rd_pow d_int d_int)))))), fun xs Q h => ?_⟩
  · obtain ⟨i, rfl, _⟩ := h
    rfl
  · obtain ⟨i, rfl, h0, h1, h⟩ := h
    refine ⟨i, rfl, fun _ => ⟨cp, ?_⟩, (fun z => nomatch z)⟩
    have e1 : decide (-(10 ^ Int.toNat 18) ≤ i) = true := decide_eq_true (by rw [p18]; omega)
    have e2 : decide (i ≤ 10 ^ Int.toNat 18) = true := decide_eq_true (by rw [p18]; omega)
    show (match PyData.bool (decide (-(10 ^ Int.toNat 18) ≤ i)) with
      | .bool true => _
      | .bool false => _
      | _ => False)
    rw [e1]
    refine ⟨cp, ?_⟩
    show Q (.bool (decide (i ≤ 10 ^ Int.toNat 18)))
    rw [e2]
    exact h
theorem ok_10 (T : Txt w K mg C L f fd) : FnG P w K mg base 2 (f 10) (fd 10) ["thing"] (spD isForceR) := by
  have S := sc10
  refine fn_D T.d10.fn S (fun xs Q h => ?_) fun cdv A outer s H B hn c => ⟨_, _, (ds_one (ds_ret hn (d_and (d_call (ok_8 T) c.guards (c.room.mono (by decide)) T.d8.bd T.d8.mg T.d8.fn.kp (by rfl) (da_var 0 da_nil)) (d_one (d_chain op_le op_le rd_cmpI rd_cmpI d_int (d_var 0) d_int))))), fun xs Q h => ?_⟩
  · obtain ⟨i, rfl, _⟩ := h
    rfl
  · obtain ⟨i, rfl, h0, h1, h⟩ := h
    refine ⟨i, rfl, fun _ => ?_, (fun z => nomatch z)⟩
    have e1 : decide ((1 : Int) ≤ i) = true := decide_eq_true h0
    have e2 : decide (i ≤ 30) = true := decide_eq_true h1
    show (match PyData.bool (decide ((1 : Int) ≤ i)) with
      | .bool true => _
      | .bool false => _
      | _ => False)
    rw [e1]
    show Q (.bool (decide (i ≤ 30)))
    rw [e2]
    exact h
theorem ok_11 (T : Txt w K mg C L f fd) : FnG P w K mg base 2 (f 11) (fd 11) ["thing", "size"] (spD isDialR) := by
  have S := sc11
  refine fn_D T.d11.fn S (fun xs Q h => ?_) fun cdv A outer s H B hn c => ⟨_, _, (ds_one (ds_ret hn (d_and (d_call (ok_8 T) c.guards (c.room.mono (by decide)) T.d8.bd T.d8.mg T.d8.fn.kp (by rfl) (da_var 0 da_nil)) (d_one (d_chain op_le op_lt rd_cmpI rd_cmpI d_int (d_var 0) (d_var 1)))))), fun xs Q h => ?_⟩
  · obtain ⟨i, n, rfl, _⟩ := h
    rfl
  · obtain ⟨i, n, rfl, h0, h1, h⟩ := h
    refine ⟨i, rfl, fun _ => ?_, (fun z => nomatch z)⟩
    have e1 : decide ((0 : Int) ≤ i) = true := decide_eq_true h0
    have e2 : decide (i < n) = true := decide_eq_true h1
    show (match PyData.bool (decide ((0 : Int) ≤ i)) with
      | .bool true => _
      | .bool false => _
      | _ => False)
    rw [e1]
    show Q (.bool (decide (i < n)))
    rw [e2]
    exact h
theorem ok_21 (T : Txt w K mg C L f fd) : FnG P w K mg base 2 (f 21) (fd 21) ["_law_bag_here", "_law_scale"] (spD numR) := by
  have S := sc21
  refine fn_D T.d21.fn S (fun xs Q h => ?_) fun cdv A outer s H B hn c => ⟨_, _, (ds_one (ds_ret hn (d_op op_sub rd_sub (d_call (ok_18 T) c.guards (c.room.mono (by decide)) T.d18.bd T.d18.mg T.d18.fn.kp (by rfl) (da_var 0 (da_cons (d_op (op_addK K) rd_add (d_op op_mulV rd_mul d_int (d_var 1)) d_int) da_nil))) (d_var 1)))), fun xs Q h => ?_⟩
  · obtain ⟨s, rfl, _⟩ := h
    rfl
  · obtain ⟨s, rfl, h0, h1, h⟩ := h
    refine ⟨mulW (by decide) (by omega), ?_⟩
    refine ⟨_, rfl, by omega, lt_big2 (by omega), fun v hv hm => ?_⟩
    exact h _ (by omega) (by omega)
theorem ok_23 (T : Txt w K mg C L f fd) : FnG P w K mg base 2 (f 23) (fd 23) ["_law_terms"] (spD lawKinksR) := by
  have S := sc23
  refine fn_D T.d23.fn S (fun xs Q h => ?_) fun cdv A outer s H B hn c => ⟨_, _, (ds_cons (ds_newT (i := 1) S.nd rfl (by first | exact Or.inl rfl | exact Or.inr rfl))
      (ds_cons (ds_for PassesOwn.never rfl (di_seq (d_var 0)) (dg_name (i := 2) S.nd rfl (by first | exact Or.inl rfl | exact Or.inr rfl)) (ds_cons (ds_asg (d_call (ok_20 T) c.guards (c.room.mono (by decide)) T.d20.bd T.d20.mg T.d20.fn.kp (by rfl) (da_var 2 da_nil)) (dg_tup (n := 5) rfl (dgs_consA (dg_name (i := 4) S.nd rfl (by first | exact Or.inl rfl | exact Or.inr rfl)) (dgs_consA (dg_name (i := 5) S.nd rfl (by first | exact Or.inl rfl | exact Or.inr rfl)) (dgs_consA (dg_name (i := 6) S.nd rfl (by first | exact Or.inl rfl | exact Or.inr rfl)) (dgs_consA (dg_name (i := 7) S.nd rfl (by first | exact Or.inl rfl | exact Or.inr rfl)) (dgs_consA (dg_name (i := 8) S.nd rfl (by first | exact Or.inl rfl | exact Or.inr rfl)) dgs_nil)))))))
      (ds_cons (ds_par (i := 9) (j := 10) rfl S.nd rfl rfl (by decide) rfl rfl (dl_cons (d_tup (dl_cons (d_var 4) (dl_cons (d_neg d_int) dl_nil))) (dl_cons (d_tup (dl_cons (d_var 6) (dl_cons (d_var 7) dl_nil))) dl_nil)) (by rfl))
      (ds_cons (ds_if (dt_cmp op_notN rd_notN (d_var 5) d_non (nomark _)) (ds_one (ds_par (i := 9) (j := 10) rfl S.nd rfl rfl (by decide) rfl rfl (dl_cons (d_tup (dl_cons (d_callB (call_min2 rfl) rdc_min2 (by rfl) T.b_min (by decide +kernel) (dl_cons (d_var 4) (dl_cons (d_var 5) dl_nil))) (dl_cons (d_callB (call_max2 rfl) rdc_max2 (by rfl) T.b_max (by decide +kernel) (dl_cons (d_var 4) (dl_cons (d_var 5) dl_nil))) dl_nil))) (dl_cons (d_ixK K (d_lst (dl_cons (d_tup (dl_cons (d_var 6) (dl_cons (d_var 7) dl_nil))) (dl_cons (d_tup (dl_cons (d_neg (d_var 7)) (dl_cons (d_neg (d_var 6)) dl_nil))) dl_nil))) (d_callTy call_int1 rdc_int (by rfl) T.b_int (by decide +kernel) (dl_cons (d_cmp op_gt rd_cmpI (d_var 4) (d_var 5) (nomark _)) dl_nil))) dl_nil)) (by rfl))) ds_nil)
      (ds_one (ds_for PassesOwn.never rfl (di_seq (d_var 10)) (dg_name (i := 3) S.nd rfl (by first | exact Or.inl rfl | exact Or.inr rfl)) (ds_one (ds_putA 1 c.room.units (pv 1) (d_op (op_addK K) rd_add (d_var 9) (d_tup (dl_cons (d_var 3) dl_nil))) (d_op (op_addK K) rd_add (d_getT 1 c.room.units (pv 1) (d_op (op_addK K) rd_add (d_var 9) (d_tup (dl_cons (d_var 3) dl_nil))) d_int ⟨rfl, rfl, rfl, rfl⟩) (d_var 8))))))))))
      (ds_one (ds_ret hn (d_lc (own := [("_law_key", 9)]) (is := [9]) rfl S.nd (di_seq (d_sortT 1 K rfl c.room.units (by rfl) T.b_sorted (by decide +kernel) (pv 1))) (blkOk_by (N := N23) (sc := defScope s23) (by decide +kernel)) (fun _ _ _ _ _ => (dg_name S.nd rfl (Or.inl rfl))) (fun _ _ _ _ _ => pts_nil) (fun M σ H ds Q R g e h c => st_yes M σ H ds Q R g e h c) (fun s' H' C cl fp => (d_op (op_addK K) rd_add (d_var 9) (d_tup (dl_cons (d_atT 1 (CxD.blk (scope := cs182_11) c s' H' C cl fp).room.units (pv 1) (d_var 9) (fun _ _ => rfl)) dl_nil)))) (by decide)))))), fun xs Q h => ?_⟩
  · obtain ⟨ts, rfl, _⟩ := h
    rfl
  · obtain ⟨ts, rfl, hs, l24, h⟩ := h
    have soft : ∀ t ∈ ts, t.soft = true := fun t ht => (hs t ht).1
    have tl : ∀ i, (lawE (ts.take i)).length ≤ 48 := fun i => by
      rw [lawE_len fun t ht => soft t (List.mem_of_mem_take ht), List.length_take]
      omega
    refine ⟨szr0 (by rw [List.length_map]; omega), ?_⟩
    refine forW_at (fun i ds => ∃ x2 x3 x4 x5 x6 x7 x8 x9 x10, ds = [some (.dat (.list (ts.map Tm.py))), some (tabE (lawE (ts.take i))), x2, x3, x4, x5, x6, x7, x8, x9, x10]) (fun i x N ds hx hds hN => ?_) (fun ds hds => ?_) ⟨none, none, none, none, none, none, none, none, none, rfl⟩
    · obtain ⟨x2, x3, x4, x5, x6, x7, x8, x9, x10, rfl⟩ := hds
      obtain ⟨t, ht, rfl⟩ := get_map hx
      have st := soft t (List.mem_of_getElem? ht)
      have et : lawE (ts.take (i + 1)) = lawE (ts.take i) ++ lawT t := by
        unfold lawE
        rw [List.take_add_one, ht, List.flatMap_append]
        simp
      rw [et] at hN
      have le := tl i
      generalize lawE (ts.take i) = E at *
      refine ⟨t, rfl, rfl, szr, szr, ?_⟩
      dsimp only [dNil]
      refine seq_post (fun ds' => ∃ (kk : List Int) (a b : Int) (x4 x5 x6 x7 : Option DV), (kk.length = 2 ∧ lawT t = [(kk ++ [a], t.force), (kk ++ [b], t.force)]) ∧ ds' = [some (.dat (.list (ts.map Tm.py))), some (tabE E), some (.dat t.py), x3, x4, x5, x6, x7, some (.dat (.int t.force)), some (.dat (.tuple (kk.map .int))), some (.dat (.tuple [.int a, .int b]))]) (fun N2 hN2 => ?_) (fun ds' hds' => ?_)
      · cases t with
        | stop d l u => cases st
        | bar d o l u => cases st
        | wish d l u f => exact ⟨rfl, (fun z => nomatch z), fun _ => hN2 _ ⟨[d, -1], l, u, _, _, _, _, ⟨rfl, rfl⟩, rfl⟩⟩
        | tie d o l u f =>
          refine ⟨rfl, fun _ => ?_, (fun z => nomatch z)⟩
          refine ⟨szr, szr, szr, szr, ?_⟩
          refine pickB (c := decide (o < d)) (fun z => ?_) fun z => ?_
          · have z := of_decide_eq_false z
            change N2 [_, _, _, _, _, _, _, _, _, some (.dat (.tuple [.int (if o < d then o else d), .int (if o > d then o else d)])), some (.dat (.tuple [.int l, .int u]))]
            have e2 : (if o > d then o else d) = o := by split <;> omega
            rw [if_neg z, e2]
            refine hN2 _ ⟨[d, o], l, u, _, _, _, _, ⟨rfl, ?_⟩, rfl⟩
            show twoL d o l u f = _
            unfold twoL
            rw [if_neg z]
            rfl
          · have z := of_decide_eq_true z
            change N2 [_, _, _, _, _, _, _, _, _, some (.dat (.tuple [.int (if o < d then o else d), .int (if o > d then o else d)])), some (.dat (.tuple [.int (-u), .int (-l)]))]
            have e2 : (if o > d then o else d) = d := by split <;> omega
            rw [if_pos z, e2]
            refine hN2 _ ⟨[o, d], -u, -l, _, _, _, _, ⟨rfl, ?_⟩, rfl⟩
            show twoL d o l u f = _
            unfold twoL
            rw [if_pos z]
            rfl
      · obtain ⟨kk, a, b, x4, x5, x6, x7, ⟨l2, el⟩, rfl⟩ := hds'
        rw [el] at hN
        refine ⟨szr, ?_⟩
        refine forW_at (fun j ds => ∃ x3, ds = [some (.dat (.list (ts.map Tm.py))), some (tabE (E ++ (([a, b] : List Int).take j).map fun e => (kk ++ [e], t.force))), some (.dat t.py), x3, x4, x5, x6, x7, some (.dat (.int t.force)), some (.dat (.tuple (kk.map .int))), some (.dat (.tuple [.int a, .int b]))]) (fun j x N ds hx hds hN => ?_) (fun ds hds => ?_) ⟨x3, by rw [List.take_zero, List.map_nil, List.append_nil]⟩
        · obtain ⟨x3, rfl⟩ := hds
          have hx : (([a, b] : List Int).map PyData.int)[j]? = some x := hx
          obtain ⟨e, he, rfl⟩ := get_map hx
          have hj : j < 2 := (List.getElem?_eq_some_iff.mp he).1
          have ep : ([a, b] : List Int).take (j + 1) = ([a, b] : List Int).take j ++ [e] := by
            rw [List.take_add_one, he]
            rfl
          rw [ep, List.map_append, ← List.append_assoc] at hN
          have lE : (E ++ (([a, b] : List Int).take j).map fun e => (kk ++ [e], t.force)).length ≤ 50 := by
            rw [List.length_append, List.length_map, List.length_take]
            omega
          generalize (E ++ (([a, b] : List Int).take j).map fun e => (kk ++ [e], t.force)) = F at *
          have ek : PyData.tuple (kk.map .int ++ [.int e]) = tpD (kk ++ [e]) := by
            unfold tpD
            rw [List.map_append]
            rfl
          have szk : dSize ((kk.map PyData.int).length + [PyData.int e].length) := szr0 (by rw [List.length_map, l2]; show 2 + 1 ≤ 1000000; omega)
          refine ⟨szr, szk, DL.keyOf (kk ++ [e]), by rw [ek]; exact tp_key _, ?_⟩
          rw [tabE_get]
          refine ⟨szr, szk, DL.keyOf (kk ++ [e]), by rw [ek]; exact tp_key _, szr0 (by have := keysT_len F; omega), ?_⟩
          refine hN _ ⟨some (.dat (.int e)), ?_⟩
          show _ = [_, some (tabE (F ++ [(kk ++ [e], t.force)])), _, _, _, _, _, _, _, _, _]
          rw [← tabE_put]
          rfl
        · obtain ⟨x3, rfl⟩ := hds
          exact hN _ ⟨_, x3, x4, x5, x6, x7, _, _, _, rfl⟩
    · obtain ⟨x2, x3, x4, x5, x6, x7, x8, x9, x10, rfl⟩ := hds
      rw [List.length_map, List.take_length]
      have le := tl ts.length
      rw [List.take_length] at le
      have len3 := lawE_len3 soft
      rw [← lawE_kink hs] at h
      generalize lawE ts = E at *
      have lk := keysT_len E
      have so : PySem.W.Sortable ((ksOf E).map tpD) := tps_sortable fun r hr => by
        obtain ⟨p, hp, ep⟩ := ksOf_mem.mp hr
        intro z
        have := len3 p hp
        rw [ep, z] at this
        cases this
      refine ⟨by rw [keysT_tp]; exact tps_alike _, by rw [keysT_tp]; exact so, ?_⟩
      rw [keysT_tp, tps_sort]
      have lr : ((rowsS (ksOf E)).map tpD).length ≤ 48 := by
        rw [List.length_map, (rowsS_perm (ksOf E)).length_eq]
        unfold keysT at lk
        rw [List.length_map] at lk
        omega
      refine ⟨szr0 (by omega), ?_⟩
      refine lcW_mapOf tpD (fun k => tpD (k ++ [wOf E k])) (rowsS (ksOf E)) _ _ (fun k hk N hN => ?_) ?_
      · have hk := (rowsS_perm _).mem_iff.mp hk
        obtain ⟨p, hp, ep⟩ := ksOf_mem.mp hk
        have l3 := len3 p hp
        rw [ep] at l3
        refine ⟨DL.keyOf k, _, tp_key k, tabE_at hk, szr, szr0 (by rw [List.length_map, l3]; show 3 + 1 ≤ 1000000; omega), ?_⟩
        have e : tpD (k ++ [wOf E k]) = .tuple (k.map .int ++ [.int (wOf E k)]) := by
          unfold tpD
          rw [List.map_append]
          rfl
        rw [e] at hN
        exact hN
      rw [List.nil_append]
      have em : (rowsS (ksOf E)).map (fun k => tpD (k ++ [wOf E k])) = (kinkV E).map tpD := by
        unfold kinkV
        rw [List.map_map]
        rfl
      rw [em]
      exact h
theorem ok_24 (T : Txt w K mg C L f fd) : FnG P w K mg base 2 (f 24) (fd 24) ["_law_bag_here", "_law_terms"] (spD splitR) := by
  have S := sc24
  refine fn_D T.d24.fn S (fun xs Q h => ?_) fun cdv A outer s H B hn c => ⟨_, _, (ds_cons (ds_new (i := 2) S.nd rfl (by first | exact Or.inl rfl | exact Or.inr rfl) (df_lst dl_nil))
      (ds_cons (ds_for PassesOwn.never rfl (di_seq (d_var 1)) (dg_name (i := 3) S.nd rfl (by first | exact Or.inl rfl | exact Or.inr rfl)) (ds_cons (ds_asg (d_call (ok_20 T) c.guards (c.room.mono (by decide)) T.d20.bd T.d20.mg T.d20.fn.kp (by rfl) (da_var 3 da_nil)) (dg_tup (n := 5) rfl (dgs_consA (dg_name (i := 8) S.nd rfl (by first | exact Or.inl rfl | exact Or.inr rfl)) (dgs_consA (dg_name (i := 9) S.nd rfl (by first | exact Or.inl rfl | exact Or.inr rfl)) (dgs_consA (dg_name (i := 10) S.nd rfl (by first | exact Or.inl rfl | exact Or.inr rfl)) (dgs_consA (dg_name (i := 11) S.nd rfl (by first | exact Or.inl rfl | exact Or.inr rfl)) (dgs_consA (dg_name (i := 12) S.nd rfl (by first | exact Or.inl rfl | exact Or.inr rfl)) dgs_nil)))))))
      (ds_cons (ds_set (i := 6) S.nd rfl (by first | exact Or.inl rfl | exact Or.inr rfl) (d_lst (dl_cons (d_var 12) dl_nil)))
      (ds_cons (ds_if (dt_w (dw_and (dt_cmp op_gt rd_cmpI (d_var 12) d_int (nomark _)) (dw_and1 (dt_cmp (op_eqK K c.room.units) rd_eq (d_call (ok_18 T) c.guards (c.room.mono (by decide)) T.d18.bd T.d18.mg T.d18.fn.kp (by rfl) (da_var 0 (da_cons d_int da_nil))) d_int (nomark _))))) (ds_cons (ds_set (i := 13) S.nd rfl (by first | exact Or.inl rfl | exact Or.inr rfl) (d_op (op_addK K) rd_add d_int (d_call (ok_18 T) c.guards (c.room.mono (by decide)) T.d18.bd T.d18.mg T.d18.fn.kp (by rfl) (da_var 0 (da_cons (d_op op_sub rd_sub (d_var 12) d_int) da_nil)))))
      (ds_one (ds_set (i := 6) S.nd rfl (by first | exact Or.inl rfl | exact Or.inr rfl) (d_lst (dl_cons (d_var 13) (dl_cons (d_op op_sub rd_sub (d_var 12) (d_var 13)) dl_nil)))))) ds_nil)
      (ds_one (ds_for PassesOwn.never rfl (di_seq (d_var 6)) (dg_name (i := 7) S.nd rfl (by first | exact Or.inl rfl | exact Or.inr rfl)) (ds_one (ds_if (dt_cmp op_isN rd_isN (d_var 9) d_non (nomark _)) (ds_one (ds_app 2 (d_tup (dl_cons d_str (dl_cons (d_var 8) (dl_cons (d_var 10) (dl_cons (d_var 11) (dl_cons (d_var 7) dl_nil)))))) (fun h => ps_expr (pe_bm PySem.F.plainAttrs_list PySem.F.slot_list_append PySem.F.type_list_append mt_append (pv 2) (pa_cons h pa_nil))))) (ds_one (ds_if (dt_cmp (op_eqK K c.room.units) rd_eq (d_call (ok_18 T) c.guards (c.room.mono (by decide)) T.d18.bd T.d18.mg T.d18.fn.kp (by rfl) (da_var 0 (da_cons d_int da_nil))) d_int (nomark _)) (ds_one (ds_app 2 (d_tup (dl_cons d_str (dl_cons (d_var 9) (dl_cons (d_var 8) (dl_cons (d_neg (d_var 11)) (dl_cons (d_neg (d_var 10)) (dl_cons (d_var 7) dl_nil))))))) (fun h => ps_expr (pe_bm PySem.F.plainAttrs_list PySem.F.slot_list_append PySem.F.type_list_append mt_append (pv 2) (pa_cons h pa_nil))))) (ds_one (ds_app 2 (d_tup (dl_cons d_str (dl_cons (d_var 8) (dl_cons (d_var 9) (dl_cons (d_var 10) (dl_cons (d_var 11) (dl_cons (d_var 7) dl_nil))))))) (fun h => ps_expr (pe_bm PySem.F.plainAttrs_list PySem.F.slot_list_append PySem.F.type_list_append mt_append (pv 2) (pa_cons h pa_nil)))))))))))))))
      (ds_cons (ds_for PassesOwn.never rfl (di_range1 (by rfl) T.b_range (dl_cons (d_op op_sub rd_sub (d_peek 2 (d_callB (call_lenK K) rdc_len (by rfl) T.b_len (by decide +kernel) (dl_cons (d_var 2) dl_nil))) d_int) dl_nil)) (dg_name (i := 4) S.nd rfl (by first | exact Or.inl rfl | exact Or.inr rfl)) (ds_cons (ds_par (i := 14) (j := 9) rfl S.nd rfl rfl (by decide) rfl rfl (dl_cons (d_call (ok_20 T) c.guards (c.room.mono (by decide)) T.d20.bd T.d20.mg T.d20.fn.kp (by rfl) (da_cons (d_ixG 2 K (pv 2) (d_var 4)) da_nil)) (dl_cons (d_call (ok_20 T) c.guards (c.room.mono (by decide)) T.d20.bd T.d20.mg T.d20.fn.kp (by rfl) (da_cons (d_ixG 2 K (pv 2) (d_op (op_addK K) rd_add (d_var 4) d_int)) da_nil)) dl_nil)) (by rfl))
      (ds_one (ds_if (dt_w (dw_and (dt_cmp (op_eqK K c.room.units) rd_eq (d_sliceK K (d_var 14) do_none (do_some d_int)) (d_sliceK K (d_var 9) do_none (do_some d_int)) (nomark _)) (dw_and (dt_cmp (op_eqK K c.room.units) rd_eq (d_ixK K (d_var 14) d_int) (d_ixK K (d_var 9) d_int) (nomark _)) (dw_and (dt_cmp op_le rd_cmpI (d_ixK K (d_var 14) d_int) (d_ixK K (d_var 9) d_int) (nomark _)) (dw_and1 (dt_cmp op_le rd_cmpI (d_ixK K (d_var 9) d_int) (d_ixK K (d_var 14) d_int) (nomark _))))))) (ds_cons (ds_put 2 (d_op (op_addK K) rd_add (d_sliceK K (d_ixG 2 K (pv 2) (d_var 4)) do_none (do_some (d_neg d_int))) (d_tup (dl_cons (d_ixK K (d_var 14) d_int) (dl_cons (d_ixK K (d_var 9) d_int) (dl_cons (d_ixK K (d_var 14) d_int) dl_nil))))) (d_var 4) (fun h hk => ps_asg h (pg_sub (pv 2) hk set_list)))
      (ds_one (ds_put 2 (d_op (op_addK K) rd_add (d_sliceK K (d_ixG 2 K (pv 2) (d_op (op_addK K) rd_add (d_var 4) d_int)) do_none (do_some (d_neg d_int))) (d_tup (dl_cons (d_ixK K (d_var 9) d_int) (dl_cons (d_ixK K (d_var 14) d_int) (dl_cons (d_ixK K (d_var 14) d_int) dl_nil))))) (d_op (op_addK K) rd_add (d_var 4) d_int) (fun h hk => ps_asg h (pg_sub (pv 2) hk set_list))))) ds_nil))))
      (ds_frz 2 (ds_cons (ds_set (i := 5) S.nd rfl (by first | exact Or.inl rfl | exact Or.inr rfl) (d_call (ok_18 T) c.guards (c.room.mono (by decide)) T.d18.bd T.d18.mg T.d18.fn.kp (by rfl) (da_var 0 (da_cons (d_op (op_addK K) rd_add (d_callB (call_lenK K) rdc_len (by rfl) T.b_len (by decide +kernel) (dl_cons (d_var 2) dl_nil)) d_int) da_nil))))
      (ds_one (ds_ret hn (d_op (op_addK K) rd_add (d_sliceK K (d_var 2) (do_some (d_var 5)) do_none) (d_sliceK K (d_var 2) do_none (do_some (d_var 5))))))))))), fun xs Q h => ?_⟩
  · obtain ⟨n, ts, rfl, _⟩ := h
    rfl
  · obtain ⟨n, ts, rfl, l24, gt, h⟩ := h
    refine ⟨szr, szr0 (by rw [List.length_map]; omega), ?_⟩
    refine forW_at (fun i ds => ∃ (us : List Tm) (x3 x4 x5 x6 x7 x8 x9 x10 x11 x12 x13 x14 : Option DV), (us.length ≤ 2 * i ∧ (∀ t ∈ us, t.Good n ∧ t.soft = true) ∧ ∀ k, wOf (entV us) k = wOf (entV (ts.take i)) k) ∧ ds = [some .bag, some (.dat (.list (ts.map Tm.py))), some (.grow (us.map Tm.py)), x3, x4, x5, x6, x7, x8, x9, x10, x11, x12, x13, x14]) (fun i x N ds hx hds hN => ?_) (fun ds hds => ?_) ⟨[], none, none, none, none, none, none, none, none, none, none, none, none, ⟨Nat.le_refl 0, (fun t ht => nomatch ht), fun k => rfl⟩, rfl⟩
    · obtain ⟨us, x3, x4, x5, x6, x7, x8, x9, x10, x11, x12, x13, x14, ⟨lu, gu, wu⟩, rfl⟩ := hds
      obtain ⟨t, ht, rfl⟩ := get_map hx
      have hi : i < ts.length := (List.getElem?_eq_some_iff.mp ht).1
      obtain ⟨g, st⟩ := gt t (List.mem_of_getElem? ht)
      have fr := soft_force st g.fr
      have et : entV (ts.take (i + 1)) = entV (ts.take i) ++ entT t := by
        rw [List.take_add_one, ht, ent_app]
        show _ ++ entV [t] = _
        rw [ent_one]
      rw [et] at hN
      refine ⟨t, rfl, ?_⟩
      rw [soft_frc st]
      refine ⟨rfl, szr, ?_⟩
      dsimp only [dNil]
      refine seq_post (fun ds' => ∃ (fs : List Int) (x13 : Option DV), (fs.length ≤ 2 ∧ (∀ f ∈ fs, 1 ≤ f ∧ f ≤ 30) ∧ fs.sum = t.force) ∧ ds' = [some .bag, some (.dat (.list (ts.map Tm.py))), some (.grow (us.map Tm.py)), some (.dat t.py), x4, x5, some (.dat (.list (fs.map .int))), x7, some (.dat (.int t.dial)), some (.dat t.oth), some (.dat (.int t.low)), some (.dat (.int t.high)), some (.dat (.int t.force)), x13, x14]) (fun N2 hN2 => ?_) (fun ds' hds' => ?_)
      · have one : N2 [some .bag, some (.dat (.list (ts.map Tm.py))), some (.grow (us.map Tm.py)), some (.dat t.py), x4, x5, some (.dat (.list [.int t.force])), x7, some (.dat (.int t.dial)), some (.dat t.oth), some (.dat (.int t.low)), some (.dat (.int t.high)), some (.dat (.int t.force)), x13, x14] := hN2 _ ⟨[t.force], x13, ⟨by show 1 ≤ 2; omega, fun f hf => by rw [List.mem_singleton.mp hf]; exact fr, by show t.force + 0 = _; omega⟩, rfl⟩
        refine ⟨fun z => ⟨2, rfl, by decide, lt_big (by decide), fun y y0 y1 => ⟨rfl, rfl, fun _ => ?_, fun _ => one⟩⟩, fun z => ⟨(fun y => nomatch y), fun _ => one⟩⟩
        have z := of_decide_eq_true z
        refine ⟨_, rfl, by omega, lt_big (by omega), fun v v0 v1 => ⟨szr, ?_⟩⟩
        refine hN2 _ ⟨[1 + v, t.force - (1 + v)], _, ⟨Nat.le_refl 2, fun f hf => ?_, by show 1 + v + (t.force - (1 + v) + 0) = _; omega⟩, rfl⟩
        simp only [List.mem_cons, List.not_mem_nil, or_false] at hf
        rcases hf with rfl | rfl <;> omega
      · obtain ⟨fs, x13, ⟨fl, fb, fsum⟩, rfl⟩ := hds'
        refine ⟨szr0 (by rw [List.length_map]; omega), ?_⟩
        refine forW_at (fun j ds => ∃ (vs : List Tm) (x7 : Option DV), (vs.length ≤ j ∧ (∀ t ∈ vs, t.Good n ∧ t.soft = true) ∧ ∀ k, wOf (entV vs) k = (fs.take j).sum * uOf t k) ∧ ds = [some .bag, some (.dat (.list (ts.map Tm.py))), some (.grow ((us ++ vs).map Tm.py)), some (.dat t.py), x4, x5, some (.dat (.list (fs.map .int))), x7, some (.dat (.int t.dial)), some (.dat t.oth), some (.dat (.int t.low)), some (.dat (.int t.high)), some (.dat (.int t.force)), x13, x14]) (fun j x N ds hx hds hN => ?_) (fun ds hds => ?_) ⟨[], x7, ⟨Nat.le_refl 0, (fun t ht => nomatch ht), fun k => (Int.zero_mul _).symm⟩, by rw [List.append_nil]⟩
        · obtain ⟨vs, x7, ⟨lv, gv, wv⟩, rfl⟩ := hds
          obtain ⟨f, hf, rfl⟩ := get_map hx
          have hj : j < fs.length := (List.getElem?_eq_some_iff.mp hf).1
          have fb := fb f (List.mem_of_getElem? hf)
          have lw : ((us ++ vs).map Tm.py).length + 1 ≤ 1000000 := by rw [List.length_map, List.length_append]; omega
          have ep : (fs.take (j + 1)).sum = (fs.take j).sum + f := by
            rw [List.take_add_one, hf, List.sum_append]
            show _ + (f + 0) = _
            omega
          rw [ep] at hN
          have fin : ∀ (u : Tm), u.Good n → u.soft = true → (∀ k, wOf (entT u) k = f * uOf t k) → N [some .bag, some (.dat (.list (ts.map Tm.py))), some (.grow ((us ++ vs).map Tm.py ++ [u.py])), some (.dat t.py), x4, x5, some (.dat (.list (fs.map .int))), some (.dat (.int f)), some (.dat (.int t.dial)), some (.dat t.oth), some (.dat (.int t.low)), some (.dat (.int t.high)), some (.dat (.int t.force)), x13, x14] := fun u gu su wu => hN _ ⟨vs ++ [u], some (.dat (.int f)), ⟨by rw [List.length_append]; show vs.length + 1 ≤ _; omega, fun w hw => by
            rcases List.mem_append.mp hw with hw | hw
            · exact gv w hw
            · rw [List.mem_singleton.mp hw]
              exact ⟨gu, su⟩, fun k => by rw [ent_app, ent_one, wOf_app, wv, wu, Int.add_mul]⟩, by rw [← List.append_assoc, List.map_append (l₁ := us ++ vs)]; rfl⟩
          clear hN
          cases t with
          | stop d l u => cases st
          | bar d o l u => cases st
          | wish d l u f0 =>
            refine ⟨rfl, fun _ => ⟨szr, szr0 lw, ?_⟩, (fun z => nomatch z)⟩
            exact fin (.wish d l u f) ⟨g.inn, g.dif, g.lh, g.lo, g.hi, fb⟩ rfl fun k => ent_u _ k
          | tie d o l u f0 =>
            have go : 0 ≤ d ∧ d < n := g.inn.1
            have lo : -(10 ^ 18) ≤ l := g.lo
            have hi : u ≤ 10 ^ 18 := g.hi
            have lh : l ≤ u := g.lh
            refine ⟨rfl, (fun z => nomatch z), fun _ => ⟨2, rfl, by decide, lt_big (by decide), fun y y0 y1 => ⟨rfl, rfl, fun _ => ⟨szr, szr0 lw, ?_⟩, fun _ => ⟨szr, szr0 lw, ?_⟩⟩⟩⟩
            · refine fin (.tie o d (-u) (-l) f) ⟨⟨g.inn.2, g.inn.1⟩, fun e => g.dif e.symm, by show -u ≤ -l; omega, by show -(10 ^ 18) ≤ -u; omega, by show -l ≤ 10 ^ 18; omega, fb⟩ rfl fun k => ?_
              rw [ent_u, turn_u g.dif]
              rfl
            · exact fin (.tie d o l u f) ⟨g.inn, g.dif, g.lh, g.lo, g.hi, fb⟩ rfl fun k => ent_u _ k
        · obtain ⟨vs, x7, ⟨lv, gv, wv⟩, rfl⟩ := hds
          rw [List.length_map] at lv
          rw [List.length_map, List.take_length, fsum] at wv
          refine hN _ ⟨us ++ vs, _, x4, x5, _, x7, _, _, _, _, _, x13, x14, ⟨by rw [List.length_append]; omega, fun w hw => ?_, fun k => ?_⟩, rfl⟩
          · rcases List.mem_append.mp hw with hw | hw
            · exact gu w hw
            · exact gv w hw
          · rw [ent_app, wOf_app, wOf_app, wu, wv, ent_u]
    · obtain ⟨us, x3, x4, x5, x6, x7, x8, x9, x10, x11, x12, x13, x14, ⟨lu, gu, wu⟩, rfl⟩ := hds
      rw [List.length_map] at lu
      rw [List.length_map, List.take_length] at wu
      have lm : ((us.map Tm.py).length : Int) = us.length := by rw [List.length_map]
      refine ⟨rfl, by rw [lm]; omega, by rw [lm]; omega, ?_⟩
      refine forW_range (fun i ds => ∃ (vs : List Tm) (x4 x9 x14 : Option DV), (vs.length = us.length ∧ (∀ t ∈ vs, t.Good n ∧ t.soft = true) ∧ ∀ k, wOf (entV vs) k = wOf (entV ts) k) ∧ ds = [some .bag, some (.dat (.list (ts.map Tm.py))), some (.grow (vs.map Tm.py)), x3, x4, x5, x6, x7, x8, x9, x10, x11, x12, x13, x14]) (fun i N ds hi hds hN => ?_) (fun ds hds => ?_) ⟨us, x4, x9, x14, ⟨rfl, gu, wu⟩, rfl⟩
      · obtain ⟨vs, x4, x9, x14, ⟨lv, gv, wv⟩, rfl⟩ := hds
        rw [lm] at hi
        have h0 : vs[i]? = some vs[i] := List.getElem?_eq_getElem (by omega)
        have h1 : vs[i + 1]? = some vs[i + 1] := List.getElem?_eq_getElem (by omega)
        obtain ⟨p, hp⟩ : ∃ p, vs[i]? = some p := ⟨_, h0⟩
        obtain ⟨q, hq⟩ : ∃ q, vs[i + 1]? = some q := ⟨_, h1⟩
        obtain ⟨gp, sp⟩ := gv p (List.mem_of_getElem? hp)
        obtain ⟨gq, sq⟩ := gv q (List.mem_of_getElem? hq)
        have ap : atI (vs.map Tm.py) (0 + (i : Int)) = some p.py := by
          rw [Int.zero_add]
          exact atI_nat (by rw [List.getElem?_map, hp]; rfl)
        have aq : atI (vs.map Tm.py) (0 + (i : Int) + 1) = some q.py := by
          have : (0 : Int) + (i : Int) + 1 = ((i + 1 : Nat) : Int) := by omega
          rw [this]
          exact atI_nat (by rw [List.getElem?_map, hq]; rfl)
        refine ⟨_, ap, p, rfl, ?_⟩
        rw [soft_frc sp]
        refine ⟨_, aq, q, rfl, ?_⟩
        rw [soft_frc sq]
        have skip := hN _ ⟨vs, some (.dat (.int (0 + (i : Int)))), some (.dat (.tuple [.int q.dial, q.oth, .int q.low, .int q.high, .int q.force])), some (.dat (.tuple [.int p.dial, p.oth, .int p.low, .int p.high, .int p.force])), ⟨lv, gv, wv⟩, rfl⟩
        dsimp only [dNil]
        refine ⟨oth_shaped (p := p), oth_shaped (p := q), fun z1 => ?_, fun _ => ⟨(fun y => nomatch y), fun _ => skip⟩⟩
        refine ⟨_, atI_4, _, atI_4, rfl, rfl, fun z2 => ?_, fun _ => ⟨(fun y => nomatch y), fun _ => skip⟩⟩
        refine ⟨_, atI_2, _, atI_3, fun z3 => ?_, fun _ => ⟨(fun y => nomatch y), fun _ => skip⟩⟩
        refine ⟨_, atI_2, _, atI_3, fun z4 => ?_, fun _ => skip⟩
        have s12 := same_eqv (p := p) (q := q) z1
        have s3 : p.force = q.force := by
          rw [eqvI] at z2
          exact beq_iff_eq.mp z2
        have z3 := of_decide_eq_true z3
        have z4 := of_decide_eq_true z4
        have il : ∀ t : Tm, t.items.length ≤ 6 := fun t => by cases t <;> exact Nat.le_of_ble_eq_true rfl
        have cl : ∀ (t : Tm) (a b c : PyData), dSize ((cutD t.items none (some (-3))).length + [a, b, c].length) := fun t a b c => szr0 (by
          have h1 := cut_len t.items none (some (-3))
          have h2 := il t
          show (cutD t.items none (some (-3))).length + 3 ≤ 1000000
          omega)
        have aq2 : ∀ d : PyData, atI ((vs.map Tm.py).set i d) (0 + (i : Int) + 1) = some q.py := fun d => by
          have : (0 : Int) + (i : Int) + 1 = ((i + 1 : Nat) : Int) := by omega
          rw [this]
          exact atI_nat (by rw [List.getElem?_set_ne (by omega), List.getElem?_map, hq]; rfl)
        have ix : ∀ (L : List PyData) (j : Nat) (z : Int), z = (j : Int) → j < L.length → ixN L.length z = some j := fun L j z e h => by
          rw [e]
          unfold ixN
          rw [if_pos (by omega), if_pos (by omega), Int.toNat_natCast]
        refine ⟨_, ap, _, atI_2, _, atI_3, _, atI_4, szr, cl p _ _ _, i, ix _ _ _ (Int.zero_add _) (by rw [List.length_map]; omega), ?_⟩
        refine ⟨_, aq2 _, _, atI_2, _, atI_3, _, atI_4, szr, cl q _ _ _, i + 1, ix _ _ _ (by omega) (by rw [List.length_set, List.length_map]; omega), ?_⟩
        refine hN _ ⟨(vs.set i (p.put p.low q.high)).set (i + 1) (q.put q.low p.high), some (.dat (.int (0 + (i : Int)))), some (.dat (.tuple [.int q.dial, q.oth, .int q.low, .int q.high, .int q.force])), some (.dat (.tuple [.int p.dial, p.oth, .int p.low, .int p.high, .int p.force])), ⟨by rw [List.length_set, List.length_set]; exact lv, fun t ht => ?_, fun k => ?_⟩, ?_⟩
        · rcases List.mem_or_eq_of_mem_set ht with ht | rfl
          · rcases List.mem_or_eq_of_mem_set ht with ht | rfl
            · exact gv t ht
            · exact ⟨put_good gp z3 gp.lo gq.hi, put_soft sp⟩
          · exact ⟨put_good gq z4 gq.lo gp.hi, put_soft sq⟩
        · have w1 := set_w (t' := p.put p.low q.high) k hp
          have hq2 : (vs.set i (p.put p.low q.high))[i + 1]? = some q := by
            rw [List.getElem?_set_ne (by omega)]
            exact hq
          have w2 := set_w (t' := q.put q.low p.high) k hq2
          have w3 := swap_w sp sq ⟨s12.1, s12.2, s3⟩ k
          have w4 := wv k
          omega
        · rw [List.map_set, List.map_set, ← put_items sp, ← put_items sq, ← s3]
          rfl
      · obtain ⟨vs, x4, x9, x14, ⟨lv, gv, wv⟩, rfl⟩ := hds
        have lm2 : ((vs.map Tm.py).length : Int) = vs.length := by rw [List.length_map]
        refine ⟨_, rfl, by omega, lt_big (by rw [lm2]; omega), fun v v0 v1 => ?_⟩
        obtain ⟨k, rfl⟩ : ∃ k : Nat, v = k := ⟨v.toNat, by omega⟩
        have e : cutD (vs.map Tm.py) (some (k : Int)) none ++ cutD (vs.map Tm.py) none (some (k : Int)) = (vs.drop k ++ vs.take k).map Tm.py := by
          rw [cut_from, cut_to, ← List.map_append]
        have le : (cutD (vs.map Tm.py) (some (k : Int)) none).length + (cutD (vs.map Tm.py) none (some (k : Int))).length ≤ 96 := by
          rw [cut_from, cut_to, List.length_map, List.length_map, List.length_drop, List.length_take]
          omega
        refine ⟨szr0 (by omega), ?_⟩
        show Q (.list (cutD (vs.map Tm.py) (some (k : Int)) none ++ cutD (vs.map Tm.py) none (some (k : Int))))
        rw [e]
        refine h _ (by rw [List.length_append, List.length_drop, List.length_take]; omega) (fun t ht => ?_) fun j => by rw [rot_w, wv]
        rcases List.mem_append.mp ht with ht | ht
        · exact gv t (List.mem_of_mem_drop ht)
        · exact gv t (List.mem_of_mem_take ht)
theorem ok_2 (T : Txt w K mg C L f fd) : FnG P w K mg base 3 (f 2) (fd 2) ["term"] (spD dialsR) := by
  have S := sc2
  refine fn_D T.d2.fn S (fun xs Q h => ?_) fun cdv A outer s H B hn c => ⟨_, _, (ds_one (ds_ret hn (d_sliceK K (d_var 0) (do_some d_int) (do_some (d_call (ok_4 T) c.guards (c.room.mono (by decide)) T.d4.bd T.d4.mg T.d4.fn.kp (by rfl) (da_var 0 da_nil)))))), fun xs Q h => ?_⟩
  · obtain ⟨t, rfl, _⟩ := h
    rfl
  · obtain ⟨t, rfl, h⟩ := h
    refine ⟨t, rfl, ?_⟩
    cases t <;> exact h
theorem ok_3 (T : Txt w K mg C L f fd) : FnG P w K mg base 3 (f 3) (fd 3) ["term"] (spD endsR) := by
  have S := sc3
  refine fn_D T.d3.fn S (fun xs Q h => ?_) fun cdv A outer s H B hn c => ⟨_, _, (ds_cons (ds_set (i := 1) S.nd rfl (by first | exact Or.inl rfl | exact Or.inr rfl) (d_call (ok_4 T) c.guards (c.room.mono (by decide)) T.d4.bd T.d4.mg T.d4.fn.kp (by rfl) (da_var 0 da_nil)))
      (ds_one (ds_ret hn (d_sliceK K (d_var 0) (do_some (d_var 1)) (do_some (d_op (op_addK K) rd_add (d_var 1) d_int)))))), fun xs Q h => ?_⟩
  · obtain ⟨t, rfl, _⟩ := h
    rfl
  · obtain ⟨t, rfl, h⟩ := h
    walk_at "dx"
    refine ⟨t, rfl, ?_⟩
    cases t <;> (simp only [Tm.py, Tm.items, Tm.two, if_true, if_false, Bool.false_eq_true]; walk_at "dx"; first | exact h | (simp only [cut4_24, cut5_24, cut5_35, cut6_35]; exact h))
theorem ok_14 (T : Txt w K mg C L f fd) : FnG P w K mg base 3 (f 14) (fd 14) ["parts", "size"] (spD areDialsR) := by
  have S := sc14
  refine fn_D T.d14.fn S (fun xs Q h => ?_) fun cdv A outer s H B hn c => ⟨_, _, (ds_cons (ds_if (dt_not (dt_valK K (d_callB (call_allK K rfl) rdc_all (by rfl) T.b_all (by decide +kernel) (dl_cons (d_lc (own := [("part", 2)]) (is := [2]) rfl S.nd (di_seq (d_var 0)) (blkOk_by (N := N14) (sc := defScope s14) (by decide +kernel)) (fun _ _ _ _ _ => (dg_name S.nd rfl (Or.inl rfl))) (fun _ _ _ _ _ => pts_nil) (fun M σ H ds Q R g e h c => st_yes M σ H ds Q R g e h c) (fun s' H' C cl fp => (d_call (ok_11 T) (CxD.blk (scope := cs68_15) c s' H' C cl fp).guards ((CxD.blk (scope := cs68_15) c s' H' C cl fp).room.mono (by decide)) T.d11.bd T.d11.mg T.d11.fn.kp (by rfl) (da_var 2 (da_var 1 da_nil)))) (by decide)) dl_nil)))) (ds_one (ds_ret hn d_bl)) ds_nil)
      (ds_one (ds_ret hn (d_or (d_cmp (op_eqK K c.room.units) rd_eq (d_callB (call_lenK K) rdc_len (by rfl) T.b_len (by decide +kernel) (dl_cons (d_var 0) dl_nil)) d_int (nomark _)) (d_one (d_cmp (op_neK K c.room.units) rd_ne (d_ixK K (d_var 0) d_int) (d_ixK K (d_var 0) d_int) (nomark _))))))), fun xs Q h => ?_⟩
  · obtain ⟨t, n, rfl, _⟩ := h
    rfl
  · obtain ⟨t, n, rfl, hi, hd, h⟩ := h
    have dl : t.dials.length ≤ 2 := by cases t <;> exact Nat.le_of_ble_eq_true rfl
    refine ⟨szr0 (by omega), lcW_map (fun _ => .bool true) _ _ _ (fun x hx N hN => ?_) ?_⟩
    · have : ∃ i : Int, x = .int i ∧ 0 ≤ i ∧ i < n := by
        cases t with
        | wish d l h' f =>
          simp only [Tm.dials, List.mem_cons, List.not_mem_nil, or_false] at hx
          exact ⟨d, hx, hi.1, by have h1 := hi.1; have h2 := hi.2; omega⟩
        | stop d l h' =>
          simp only [Tm.dials, List.mem_cons, List.not_mem_nil, or_false] at hx
          exact ⟨d, hx, hi.1, by have h1 := hi.1; have h2 := hi.2; omega⟩
        | tie d o l h' f =>
          simp only [Tm.dials, List.mem_cons, List.not_mem_nil, or_false] at hx
          rcases hx with rfl | rfl
          · exact ⟨d, rfl, hi.1.1, by have h1 := hi.1.1; have h2 := hi.1.2; omega⟩
          · exact ⟨o, rfl, hi.2.1, by have h1 := hi.2.1; have h2 := hi.2.2; omega⟩
        | bar d o l h' =>
          simp only [Tm.dials, List.mem_cons, List.not_mem_nil, or_false] at hx
          rcases hx with rfl | rfl
          · exact ⟨d, rfl, hi.1.1, by have h1 := hi.1.1; have h2 := hi.1.2; omega⟩
          · exact ⟨o, rfl, hi.2.1, by have h1 := hi.2.1; have h2 := hi.2.2; omega⟩
      obtain ⟨i, rfl, h0, h1⟩ := this
      exact ⟨i, n, rfl, h0, h1, hN⟩
    rw [List.nil_append]
    refine ⟨List.replicate t.dials.length true, ?_, ⟨(fun z => absurd z (by simp)), fun _ => ?_⟩⟩
    · cases t <;> rfl
    · cases t with
      | wish d l h' f => exact ⟨rfl, rfl, ⟨fun _ => h, fun z => nomatch z⟩⟩
      | stop d l h' => exact ⟨rfl, rfl, ⟨fun _ => h, fun z => nomatch z⟩⟩
      | tie d o l h' f =>
        refine ⟨rfl, rfl, ⟨(fun z => nomatch z), fun _ => ?_⟩⟩
        refine ⟨_, atI_0, _, atI_1, rfl, rfl, ?_⟩
        have e : PyData.eqv (.int d) (.int o) = false := by
          have hd' : d ≠ o := hd
          simp [PyData.eqv, hd']
        rw [e]
        exact h
      | bar d o l h' =>
        refine ⟨rfl, rfl, ⟨(fun z => nomatch z), fun _ => ?_⟩⟩
        refine ⟨_, atI_0, _, atI_1, rfl, rfl, ?_⟩
        have e : PyData.eqv (.int d) (.int o) = false := by
          have hd' : d ≠ o := hd
          simp [PyData.eqv, hd']
        rw [e]
        exact h
theorem ok_15 (T : Txt w K mg C L f fd) : FnG P w K mg base 3 (f 15) (fd 15) ["parts"] (spD areEndsR) := by
  have S := sc15
  refine fn_D T.d15.fn S (fun xs Q h => ?_) fun cdv A outer s H B hn c => ⟨_, _, (ds_cons (ds_asg (d_var 0) (dg_tup (n := 2) rfl (dgs_consA (dg_name (i := 1) S.nd rfl (by first | exact Or.inl rfl | exact Or.inr rfl)) (dgs_consA (dg_name (i := 2) S.nd rfl (by first | exact Or.inl rfl | exact Or.inr rfl)) dgs_nil))))
      (ds_one (ds_ret hn (d_and (d_call (ok_9 T) c.guards (c.room.mono (by decide)) T.d9.bd T.d9.mg T.d9.fn.kp (by rfl) (da_var 1 da_nil)) (d_and (d_call (ok_9 T) c.guards (c.room.mono (by decide)) T.d9.bd T.d9.mg T.d9.fn.kp (by rfl) (da_var 2 da_nil)) (d_one (d_cmp op_le rd_cmpI (d_var 1) (d_var 2) (nomark _)))))))), fun xs Q h => ?_⟩
  · obtain ⟨l, u, rfl, _⟩ := h
    rfl
  · obtain ⟨l, u, rfl, hlu, h0, h1, h⟩ := h
    refine ⟨rfl, ?_⟩
    refine ⟨l, rfl, h0, by omega, ⟨fun _ => ⟨u, rfl, by omega, h1, ⟨fun _ => ?_, (fun z => nomatch z)⟩⟩, (fun z => nomatch z)⟩⟩
    have e : decide (l ≤ u) = true := decide_eq_true hlu
    show Q (.bool (decide (l ≤ u)))
    rw [e]
    exact h
theorem ok_22 (T : Txt w K mg C L f fd) : FnG P w K mg base 3 (f 22) (fd 22) ["_law_bag_here", "_law_size", "_law_scale", "_law_many"] (spD freeTermsR) := by
  have S := sc22
  refine fn_D T.d22.fn S (fun xs Q h => ?_) fun cdv A outer s H B hn c => ⟨_, _, (ds_cons (ds_par (i := 6) (j := 7) rfl S.nd rfl rfl (by decide) rfl rfl (dl_cons (d_lst (dl_cons d_int (dl_cons (d_op op_pow rd_pow d_int d_int) (dl_cons (d_neg (d_op op_pow rd_pow d_int d_int)) (dl_cons (d_op op_sub rd_sub (d_op op_pow rd_pow d_int d_int) d_int) dl_nil))))) (dl_cons (d_call (ok_18 T) c.guards (c.room.mono (by decide)) T.d18.bd T.d18.mg T.d18.fn.kp (by rfl) (da_var 0 (da_cons d_int da_nil))) dl_nil)) (by rfl))
      (ds_cons (ds_par (i := 8) (j := 9) rfl S.nd rfl rfl (by decide) rfl rfl (dl_cons (d_ixK K (d_lst (dl_cons d_int (dl_cons d_int (dl_cons (d_op op_pow rd_pow d_int d_int) (dl_cons (d_neg (d_op op_pow rd_pow d_int d_int)) dl_nil))))) (d_call (ok_18 T) c.guards (c.room.mono (by decide)) T.d18.bd T.d18.mg T.d18.fn.kp (by rfl) (da_var 0 (da_cons d_int da_nil)))) (dl_cons (d_ixK K (d_lst (dl_cons d_int (dl_cons d_int (dl_cons d_int dl_nil)))) (d_call (ok_18 T) c.guards (c.room.mono (by decide)) T.d18.bd T.d18.mg T.d18.fn.kp (by rfl) (da_var 0 (da_cons d_int da_nil)))) dl_nil)) (by rfl))
      (ds_cons (ds_new (i := 4) S.nd rfl (by first | exact Or.inl rfl | exact Or.inr rfl) (df_lst dl_nil))
      (ds_cons (ds_for PassesOwn.never rfl (di_range1 (by rfl) T.b_range (dl_cons (d_call (ok_18 T) c.guards (c.room.mono (by decide)) T.d18.bd T.d18.mg T.d18.fn.kp (by rfl) (da_var 0 (da_cons (d_op (op_addK K) rd_add (d_var 3) d_int) da_nil))) dl_nil)) (dg_name (i := 5) S.nd rfl (by first | exact Or.inl rfl | exact Or.inr rfl)) (ds_cons (ds_set (i := 8) S.nd rfl (by first | exact Or.inl rfl | exact Or.inr rfl) (d_ixK K (d_lst (dl_cons (d_var 8) (dl_cons (d_ixK K (d_var 6) (d_call (ok_18 T) c.guards (c.room.mono (by decide)) T.d18.bd T.d18.mg T.d18.fn.kp (by rfl) (da_var 0 (da_cons d_int da_nil)))) dl_nil))) (d_var 7)))
      (ds_cons (ds_par (i := 10) (j := 11) rfl S.nd rfl rfl (by decide) rfl rfl (dl_cons (d_op (op_addK K) rd_add (d_var 8) (d_call (ok_21 T) c.guards (c.room.mono (by decide)) T.d21.bd T.d21.mg T.d21.fn.kp (by rfl) (da_var 0 (da_var 2 da_nil)))) (dl_cons (d_op (op_addK K) rd_add d_int (d_call (ok_18 T) c.guards (c.room.mono (by decide)) T.d18.bd T.d18.mg T.d18.fn.kp (by rfl) (da_var 0 (da_var 9 da_nil)))) dl_nil)) (by rfl))
      (ds_cons (ds_par (i := 12) (j := 13) rfl S.nd rfl rfl (by decide) rfl rfl (dl_cons (d_op (op_addK K) rd_add (d_var 10) (d_ixK K (d_lst (dl_cons d_int (dl_cons (d_call (ok_18 T) c.guards (c.room.mono (by decide)) T.d18.bd T.d18.mg T.d18.fn.kp (by rfl) (da_var 0 (da_var 2 da_nil))) (dl_cons (d_op op_mulV rd_mul d_int (d_var 2)) dl_nil)))) (d_call (ok_18 T) c.guards (c.room.mono (by decide)) T.d18.bd T.d18.mg T.d18.fn.kp (by rfl) (da_var 0 (da_cons d_int da_nil))))) (dl_cons (d_call (ok_18 T) c.guards (c.room.mono (by decide)) T.d18.bd T.d18.mg T.d18.fn.kp (by rfl) (da_var 0 (da_var 1 da_nil))) dl_nil)) (by rfl))
      (ds_one (ds_if (dt_w (dw_or (dt_cmp (op_eqK K c.room.units) rd_eq (d_var 1) d_int (nomark _)) (dw_or1 (dt_cmp (op_eqK K c.room.units) rd_eq (d_call (ok_18 T) c.guards (c.room.mono (by decide)) T.d18.bd T.d18.mg T.d18.fn.kp (by rfl) (da_var 0 (da_cons d_int da_nil))) d_int (nomark _))))) (ds_one (ds_app 4 (d_tup (dl_cons d_str (dl_cons (d_var 13) (dl_cons (d_var 10) (dl_cons (d_var 12) (dl_cons (d_var 11) dl_nil)))))) (fun h => ps_expr (pe_bm PySem.F.plainAttrs_list PySem.F.slot_list_append PySem.F.type_list_append mt_append (pv 4) (pa_cons h pa_nil))))) (ds_one (ds_app 4 (d_tup (dl_cons d_str (dl_cons (d_var 13) (dl_cons (d_op op_mod rd_mod (d_op (op_addK K) rd_add (d_op (op_addK K) rd_add (d_var 13) d_int) (d_call (ok_18 T) c.guards (c.room.mono (by decide)) T.d18.bd T.d18.mg T.d18.fn.kp (by rfl) (da_var 0 (da_cons (d_op op_sub rd_sub (d_var 1) d_int) da_nil)))) (d_var 1)) (dl_cons (d_var 10) (dl_cons (d_var 12) (dl_cons (d_var 11) dl_nil))))))) (fun h => ps_expr (pe_bm PySem.F.plainAttrs_list PySem.F.slot_list_append PySem.F.type_list_append mt_append (pv 4) (pa_cons h pa_nil)))))))))))
      (ds_frz 4 (ds_one (ds_ret hn (d_var 4)))))))), fun xs Q h => ?_⟩
  · obtain ⟨n, s, m, rfl, _⟩ := h
    rfl
  · obtain ⟨n, s, m, rfl, n1, n8, s1, s9, m0, m24, h⟩ := h
    refine ⟨cp, cp, cp, szr, 2, rfl, by decide, lt_big (by decide), fun mx mx0 mx1 => ?_⟩
    refine ⟨cp, cp, szr, 4, rfl, by decide, lt_big (by decide), fun md md0 md1 => ?_⟩
    refine atI_ex (P := fun d => ∃ i : Int, d = .int i ∧ -(10 ^ 17) ≤ i ∧ i ≤ 10 ^ 18 - 27) md0 md1 (fun z hz => ?_) ?_
    · simp only [List.mem_cons, List.not_mem_nil, or_false] at hz
      rcases hz with rfl | rfl | rfl | rfl <;> exact ⟨_, rfl, by decide, by decide⟩
    rintro _ ⟨mid, rfl, mid0, mid1⟩
    refine ⟨szr, 3, rfl, by decide, lt_big (by decide), fun x x0 x1 => ?_⟩
    refine atI_ex (P := fun d => ∃ i : Int, d = .int i ∧ 1 ≤ i ∧ i ≤ 30) x0 x1 (fun z hz => ?_) ?_
    · simp only [List.mem_cons, List.not_mem_nil, or_false] at hz
      rcases hz with rfl | rfl | rfl <;> exact ⟨_, rfl, by decide, by decide⟩
    rintro _ ⟨most, rfl, p0, p1⟩
    refine ⟨szr, _, rfl, by omega, lt_big (by omega), fun cnt c0 c1 => ⟨by omega, by omega, ?_⟩⟩
    refine forW_range (fun i ds => ∃ (tms : List Tm) (mid : Int) (x5 x10 x11 x12 x13 : Option DV), (tms.length ≤ i ∧ (∀ t ∈ tms, t.Good n ∧ t.soft = true) ∧ -(10 ^ 17) ≤ mid ∧ mid ≤ 10 ^ 18 - 27) ∧ ds = [some .bag, some (.dat (.int n)), some (.dat (.int s)), some (.dat (.int m)), some (.grow (tms.map Tm.py)), x5, some (.dat (.list [.int 0, .int (10 ^ 9), .int (-(10 ^ 17)), .int (10 ^ 18 - 27)])), some (.dat (.int mx)), some (.dat (.int mid)), some (.dat (.int most)), x10, x11, x12, x13]) (fun i N ds hi hds hN => ?_) (fun ds hds => ?_) ⟨[], mid, none, none, none, none, none, ⟨Nat.le_refl 0, (fun t ht => nomatch ht), mid0, mid1⟩, rfl⟩
    · obtain ⟨tms, mid, x5, x10, x11, x12, x13, ⟨lt, gt, mid0, mid1⟩, rfl⟩ := hds
      have fin : ∀ (t : Tm) (mid : Int) (y5 y10 y11 y12 y13 : Option DV), -(10 ^ 17) ≤ mid → mid ≤ 10 ^ 18 - 27 → t.Good n → t.soft = true → N [some .bag, some (.dat (.int n)), some (.dat (.int s)), some (.dat (.int m)), some (.grow (tms.map Tm.py ++ [t.py])), y5, some (.dat (.list [.int 0, .int (10 ^ 9), .int (-(10 ^ 17)), .int (10 ^ 18 - 27)])), some (.dat (.int mx)), some (.dat (.int mid)), some (.dat (.int most)), y10, y11, y12, y13] := fun t mid y5 y10 y11 y12 y13 q0 q1 g gs => hN _ ⟨tms ++ [t], mid, y5, y10, y11, y12, y13, ⟨by rw [List.length_append]; show tms.length + 1 ≤ _; omega, fun u hu => by
        rcases List.mem_append.mp hu with hu | hu
        · exact gt u hu
        · rw [List.mem_singleton.mp hu]
          exact ⟨g, gs⟩, q0, q1⟩, by rw [List.map_append]; rfl⟩
      have lw : (tms.map Tm.py).length + 1 ≤ 1000000 := by rw [List.length_map]; omega
      clear hN
      refine ⟨4, rfl, by decide, lt_big (by decide), fun k k0 k1 => ?_⟩
      refine atI_ex (P := fun d => ∃ i : Int, d = .int i ∧ -(10 ^ 17) ≤ i ∧ i ≤ 10 ^ 18 - 27) k0 k1 (fun z hz => ?_) ?_
      · simp only [List.mem_cons, List.not_mem_nil, or_false] at hz
        rcases hz with rfl | rfl | rfl | rfl <;> exact ⟨_, rfl, by decide, by decide⟩
      rintro _ ⟨md2, rfl, e0, e1⟩
      refine ⟨szr, ?_⟩
      refine atI_ex (P := fun d => ∃ i : Int, d = .int i ∧ -(10 ^ 17) ≤ i ∧ i ≤ 10 ^ 18 - 27) mx0 mx1 (fun z hz => ?_) ?_
      · simp only [List.mem_cons, List.not_mem_nil, or_false] at hz
        rcases hz with rfl | rfl
        · exact ⟨_, rfl, mid0, mid1⟩
        · exact ⟨_, rfl, e0, e1⟩
      rintro _ ⟨mi, rfl, mi0, mi1⟩
      refine ⟨s, rfl, by omega, by omega, fun v v0 v1 => ⟨most, rfl, by omega, lt_big (by omega), fun f f0 f1 => ?_⟩⟩
      refine ⟨s, rfl, by omega, lt_big (by omega), fun a a0 a1 => ⟨mulW (by decide) (by omega), szr, 3, rfl, by decide, lt_big (by decide), fun w w0 w1 => ?_⟩⟩
      refine atI_ex (P := fun d => ∃ i : Int, d = .int i ∧ 0 ≤ i ∧ i ≤ 18) w0 w1 (fun z hz => ?_) ?_
      · simp only [List.mem_cons, List.not_mem_nil, or_false] at hz
        rcases hz with rfl | rfl | rfl
        · exact ⟨_, rfl, by decide, by decide⟩
        · exact ⟨_, rfl, by omega, by omega⟩
        · exact ⟨_, rfl, by omega, by omega⟩
      rintro _ ⟨up, rfl, up0, up1⟩
      refine ⟨n, rfl, by omega, lt_big (by omega), fun d d0 d1 => ?_⟩
      have gw : Tm.Good (.wish d (mi + v) (mi + v + up) (1 + f)) n := ⟨⟨d0, d1⟩, trivial, by show mi + v ≤ mi + v + up; omega, by show -(10 ^ 18) ≤ mi + v; omega, by show mi + v + up ≤ 10 ^ 18; omega, ⟨by omega, by omega⟩⟩
      refine ⟨rfl, rfl, fun z => ⟨fun _ => ⟨szr, szr0 lw, fin _ mi _ _ _ _ _ mi0 mi1 gw rfl⟩, (fun y => nomatch y)⟩, fun z => ⟨2, rfl, by decide, lt_big (by decide), fun y y0 y1 => ⟨rfl, rfl, fun _ => ⟨szr, szr0 lw, fin _ mi _ _ _ _ _ mi0 mi1 gw rfl⟩, fun _ => ?_⟩⟩⟩
      have hn : (n : Int) ≠ 1 := fun e => by
        rw [eqvI, e] at z
        exact absurd z (by decide)
      refine ⟨_, rfl, by omega, lt_big (by omega), fun k k0 k1 => ⟨by omega, szr, szr0 lw, ?_⟩⟩
      have o0 : 0 ≤ (d + 1 + k) % (n : Int) := Int.emod_nonneg _ (by omega)
      have o1 : (d + 1 + k) % (n : Int) < (n : Int) := Int.emod_lt_of_pos _ (by omega)
      have od : d ≠ (d + 1 + k) % (n : Int) := fun e => by
        by_cases y : d + 1 + k < n
        · rw [Int.emod_eq_of_lt (by omega) y] at e
          omega
        · have e2 : (d + 1 + k) % (n : Int) = d + 1 + k - n := by
            rw [← Int.sub_emod_right, Int.emod_eq_of_lt (by omega) (by omega)]
          omega
      exact fin (.tie d _ (mi + v) (mi + v + up) (1 + f)) mi _ _ _ _ _ mi0 mi1 ⟨⟨⟨d0, d1⟩, ⟨o0, o1⟩⟩, od, by show mi + v ≤ mi + v + up; omega, by show -(10 ^ 18) ≤ mi + v; omega, by show mi + v + up ≤ 10 ^ 18; omega, ⟨by omega, by omega⟩⟩ rfl
    · obtain ⟨tms, mid, x5, x10, x11, x12, x13, ⟨lt, gt, _, _⟩, rfl⟩ := hds
      exact h tms (by omega) gt
theorem ok_7 (T : Txt w K mg C L f fd) : FnG P w K mg base 4 (f 7) (fd 7) ["term"] (spD placesR) := by
  have S := sc7
  refine fn_D T.d7.fn S (fun xs Q h => ?_) fun cdv A outer s H B hn c => ⟨_, _, (ds_cons (ds_if (dt_not (dt_valK K (d_call (ok_0 T) c.guards (c.room.mono (by decide)) T.d0.bd T.d0.mg T.d0.fn.kp (by rfl) (da_var 0 da_nil)))) (ds_one (ds_ret hn (d_lc (own := [("end", 3)]) (is := [3]) rfl S.nd (di_seq (d_call (ok_3 T) c.guards (c.room.mono (by decide)) T.d3.bd T.d3.mg T.d3.fn.kp (by rfl) (da_var 0 da_nil))) (blkOk_by (N := N7) (sc := defScope s7) (by decide +kernel)) (fun _ _ _ _ _ => (dg_name S.nd rfl (Or.inl rfl))) (fun _ _ _ _ _ => pts_nil) (fun M σ H ds Q R g e h c => st_yes M σ H ds Q R g e h c) (fun s' H' C cl fp => (d_tup (dl_cons (d_ixK K (d_var 0) d_int) (dl_cons (d_neg d_int) (dl_cons (d_var 3) dl_nil))))) (by decide)))) ds_nil)
      (ds_cons (ds_asg (d_tup (dl_cons (d_ixK K (d_var 0) d_int) (dl_cons (d_ixK K (d_var 0) d_int) dl_nil))) (dg_tup (n := 2) rfl (dgs_consA (dg_name (i := 1) S.nd rfl (by first | exact Or.inl rfl | exact Or.inr rfl)) (dgs_consA (dg_name (i := 2) S.nd rfl (by first | exact Or.inl rfl | exact Or.inr rfl)) dgs_nil))))
      (ds_cons (ds_if (dt_cmp op_lt rd_cmpI (d_var 1) (d_var 2) (nomark _)) (ds_one (ds_ret hn (d_lc (own := [("end", 3)]) (is := [3]) rfl S.nd (di_seq (d_call (ok_3 T) c.guards (c.room.mono (by decide)) T.d3.bd T.d3.mg T.d3.fn.kp (by rfl) (da_var 0 da_nil))) (blkOk_by (N := N7) (sc := defScope s7) (by decide +kernel)) (fun _ _ _ _ _ => (dg_name S.nd rfl (Or.inl rfl))) (fun _ _ _ _ _ => pts_nil) (fun M σ H ds Q R g e h c => st_yes M σ H ds Q R g e h c) (fun s' H' C cl fp => (d_tup (dl_cons (d_var 1) (dl_cons (d_var 2) (dl_cons (d_var 3) dl_nil))))) (by decide)))) ds_nil)
      (ds_one (ds_ret hn (d_lc (own := [("end", 3)]) (is := [3]) rfl S.nd (di_seq (d_call (ok_3 T) c.guards (c.room.mono (by decide)) T.d3.bd T.d3.mg T.d3.fn.kp (by rfl) (da_var 0 da_nil))) (blkOk_by (N := N7) (sc := defScope s7) (by decide +kernel)) (fun _ _ _ _ _ => (dg_name S.nd rfl (Or.inl rfl))) (fun _ _ _ _ _ => pts_nil) (fun M σ H ds Q R g e h c => st_yes M σ H ds Q R g e h c) (fun s' H' C cl fp => (d_tup (dl_cons (d_var 2) (dl_cons (d_var 1) (dl_cons (d_neg (d_var 3)) dl_nil))))) (by decide))))))), fun xs Q h => ?_⟩
  · obtain ⟨t, rfl, _⟩ := h
    rfl
  · obtain ⟨t, rfl, h⟩ := h
    refine ⟨t, rfl, ?_⟩
    have lc : ∀ (g : TDG) (te : TDE) (ds : DEnv) (a b : Int) (F : Int → PyData) (Q : PyData → Prop), (∀ (e : Int) (N : PyData → Prop), N (F e) → g (.int e) ds fun ds' => te ds' N) → Q (.list [F a, F b]) → lcW g dYes te ds [.int a, .int b] [] Q := fun g te ds a b F Q h q => lcW_mapOf PyData.int F [a, b] [] Q (fun e _ N hN => h e N hN) q
    cases t with
    | wish d l u f =>
      refine ⟨fun _ => ?_, (fun z => nomatch z)⟩
      refine ⟨_, rfl, szr, ?_⟩
      exact lc _ _ _ l u (fun e => .tuple [.int d, .int (-1), .int e]) _ (fun e N hN => ⟨_, atI_1, szr, hN⟩) h
    | stop d l u =>
      refine ⟨fun _ => ?_, (fun z => nomatch z)⟩
      refine ⟨_, rfl, szr, ?_⟩
      exact lc _ _ _ l u (fun e => .tuple [.int d, .int (-1), .int e]) _ (fun e N hN => ⟨_, atI_1, szr, hN⟩) h
    | tie d o l u f =>
      refine ⟨(fun z => nomatch z), fun _ => ?_⟩
      refine ⟨_, atI_1, _, atI_2, szr, rfl, fun z => ?_, fun z => ?_⟩
      · have z := of_decide_eq_true z
        refine ⟨_, rfl, szr, ?_⟩
        refine lc _ _ _ l u (fun e => .tuple [.int d, .int o, .int e]) _ (fun e N hN => ⟨szr, hN⟩) ?_
        have e : plV (.tie d o l u f) = [[d, o, l], [d, o, u]] := by
          show twoV d o l u = _
          unfold twoV
          rw [if_pos z]
        rw [e] at h
        exact h
      · have z := of_decide_eq_false z
        refine ⟨_, rfl, szr, ?_⟩
        refine lc _ _ _ l u (fun e => .tuple [.int o, .int d, .int (-e)]) _ (fun e N hN => ⟨szr, hN⟩) ?_
        have e : plV (.tie d o l u f) = [[o, d, -l], [o, d, -u]] := by
          show twoV d o l u = _
          unfold twoV
          rw [if_neg z]
        rw [e] at h
        exact h
    | bar d o l u =>
      refine ⟨(fun z => nomatch z), fun _ => ?_⟩
      refine ⟨_, atI_1, _, atI_2, szr, rfl, fun z => ?_, fun z => ?_⟩
      · have z := of_decide_eq_true z
        refine ⟨_, rfl, szr, ?_⟩
        refine lc _ _ _ l u (fun e => .tuple [.int d, .int o, .int e]) _ (fun e N hN => ⟨szr, hN⟩) ?_
        have e : plV (.bar d o l u) = [[d, o, l], [d, o, u]] := by
          show twoV d o l u = _
          unfold twoV
          rw [if_pos z]
        rw [e] at h
        exact h
      · have z := of_decide_eq_false z
        refine ⟨_, rfl, szr, ?_⟩
        refine lc _ _ _ l u (fun e => .tuple [.int o, .int d, .int (-e)]) _ (fun e N hN => ⟨szr, hN⟩) ?_
        have e : plV (.bar d o l u) = [[o, d, -l], [o, d, -u]] := by
          show twoV d o l u = _
          unfold twoV
          rw [if_neg z]
        rw [e] at h
        exact h
theorem ok_12 (T : Txt w K mg C L f fd) : FnG P w K mg base 4 (f 12) (fd 12) ["thing", "size"] (spD isTermR) := by
  have S := sc12
  refine fn_D T.d12.fn S (fun xs Q h => ?_) fun cdv A outer s H B hn c => ⟨_, _, (ds_cons (ds_set (i := 2) S.nd rfl (by first | exact Or.inl rfl | exact Or.inr rfl) (d_call (ok_13 T) c.guards (c.room.mono (by decide)) T.d13.bd T.d13.mg T.d13.fn.kp (by rfl) (da_var 0 da_nil)))
      (ds_cons (ds_if (dt_w (dw_or (dt_notInLen K T.len (d_var 2) (by rfl) T.mL) (dw_or1 (dt_cmp (op_neK K c.room.units) rd_ne (d_callB (call_lenK K) rdc_len (by rfl) T.b_len (by decide +kernel) (dl_cons (d_var 0) dl_nil)) (d_ixLen K T.len (d_var 2) (by rfl) T.mL) (nomark _))))) (ds_one (ds_ret hn d_bl)) ds_nil)
      (ds_cons (ds_if (dt_w (dw_and (dt_valK K (d_call (ok_1 T) c.guards (c.room.mono (by decide)) T.d1.bd T.d1.mg T.d1.fn.kp (by rfl) (da_var 0 da_nil))) (dw_and1 (dt_not (dt_valK K (d_call (ok_10 T) c.guards (c.room.mono (by decide)) T.d10.bd T.d10.mg T.d10.fn.kp (by rfl) (da_cons (d_ixK K (d_var 0) (d_neg d_int)) da_nil))))))) (ds_one (ds_ret hn d_bl)) ds_nil)
      (ds_one (ds_ret hn (d_and (d_call (ok_14 T) c.guards (c.room.mono (by decide)) T.d14.bd T.d14.mg T.d14.fn.kp (by rfl) (da_cons (d_call (ok_2 T) c.guards (c.room.mono (by decide)) T.d2.bd T.d2.mg T.d2.fn.kp (by rfl) (da_var 0 da_nil)) (da_var 1 da_nil))) (d_one (d_call (ok_15 T) c.guards (c.room.mono (by decide)) T.d15.bd T.d15.mg T.d15.fn.kp (by rfl) (da_cons (d_call (ok_3 T) c.guards (c.room.mono (by decide)) T.d3.bd T.d3.mg T.d3.fn.kp (by rfl) (da_var 0 da_nil)) da_nil))))))))), fun xs Q h => ?_⟩
  · obtain ⟨t, n, rfl, _⟩ := h
    rfl
  · obtain ⟨t, n, rfl, hg, h⟩ := h
    refine ⟨t, rfl, t, rfl, ⟨(fun z => nomatch z), fun _ => ⟨t, rfl, rfl, rfl, ⟨fun z => absurd (show (!PyData.eqv (.int (t.items.length : Int)) (.int (t.items.length : Int))) = false by simp [PyData.eqv]) (fun w => Bool.false_ne_true (w.symm.trans z)), fun _ => ?_⟩⟩⟩⟩
    have fin : ∀ c : Bool, c = false → (c = true → Q (.bool false)) ∧ (c = false → dialsR [.dat t.py] fun x => areDialsR [.dat x, .dat (.int n)] fun y => asB y fun b => (b = true → endsR [.dat t.py] fun z => areEndsR [.dat z] Q) ∧ (b = false → Q (.bool false))) := fun c hc => by
      subst hc
      refine ⟨(fun z => nomatch z), fun _ => ?_⟩
      exact ⟨t, rfl, t, n, rfl, hg.inn, hg.dif, ⟨fun _ => ⟨t, rfl, _, _, rfl, hg.lh, hg.lo, hg.hi, h⟩, (fun z => nomatch z)⟩⟩
    cases hs : t.soft with
    | false => exact ⟨t, rfl, by rw [hs]; exact ⟨(fun z => nomatch z), fun _ => fin _ rfl⟩⟩
    | true =>
      have hf : ∃ f : Int, atI t.items (-1) = some (.int f) ∧ 1 ≤ f ∧ f ≤ 30 := by
        have fr := hg.fr
        cases t with
        | wish d l u f => exact ⟨f, rfl, fr.1, fr.2⟩
        | tie d o l u f => exact ⟨f, rfl, fr.1, fr.2⟩
        | stop d l u => cases hs
        | bar d o l u => cases hs
      obtain ⟨f, ef, f0, f1⟩ := hf
      exact ⟨t, rfl, by rw [hs]; exact ⟨fun _ => ⟨_, ef, f, rfl, f0, f1, fin _ rfl⟩, (fun z => nomatch z)⟩⟩
theorem ok_5 (T : Txt w K mg C L f fd) : FnG P w K mg base 5 (f 5) (fd 5) ["board"] (spN (kinksR C)) := by
  have S := sc5
  refine fn_DN T.d5.fn S (fun xs Q h => ?_) fun cdv A outer s H B hn c => ⟨_, _, (ds_cons (ds_expr (d_call (ok_6 T) c.guards (c.room.mono (by decide)) T.d6.bd T.d6.mg T.d6.fn.kp (by rfl) (da_var 0 da_nil)))
      (ds_cons (ds_newT (i := 1) S.nd rfl (by first | exact Or.inl rfl | exact Or.inr rfl))
      (ds_cons (ds_for PassesOwn.never rfl (di_seq (d_meth0 T.cl T.m29.me (ok_29 T) c.guards (c.room.mono (by decide)) T.m29.bd (d_var 0))) (dg_name (i := 2) S.nd rfl (by first | exact Or.inl rfl | exact Or.inr rfl)) (ds_one (ds_for PassesOwn.never rfl (di_seq (d_call (ok_7 T) c.guards (c.room.mono (by decide)) T.d7.bd T.d7.mg T.d7.fn.kp (by rfl) (da_var 2 da_nil))) (dg_name (i := 3) S.nd rfl (by first | exact Or.inl rfl | exact Or.inr rfl)) (ds_one (ds_putA 1 c.room.units (pv 1) (d_var 3) (d_op (op_addK K) rd_add (d_getT 1 c.room.units (pv 1) (d_var 3) d_int ⟨rfl, rfl, rfl, rfl⟩) (d_ixK K (d_var 2) (d_neg d_int))))))))
      (ds_one (ds_retN hn (df_sorted K c.room.units (by rfl) T.b_sorted (by decide +kernel) (dl_cons (d_lcT (own := [("place", 3)]) (is := [3]) 1 rfl S.nd (pv 1) (blkOk_by (N := N5) (sc := defScope s5) (by decide +kernel)) (fun _ _ _ _ _ => (dg_name S.nd rfl (Or.inl rfl))) (fun s' H' C cl fp => (d_op (op_addK K) rd_add (d_var 3) (d_tup (dl_cons (d_atT 1 (CxD.blk (scope := cs34_18) c s' H' C cl fp).room.units (pv 1) (d_var 3) (fun _ _ => rfl)) dl_nil)))) (by decide)) dl_nil))))))), fun xs Q h => ?_⟩
  · obtain ⟨n, ts, rfl, _⟩ := h
    rfl
  · obtain ⟨n, ts, rfl, soft, l24, h⟩ := h
    refine ⟨n, ts, rfl, soft, l24, ?_⟩
    refine ⟨_, _, rfl, _, _, rfl, szr0 (by rw [List.length_map]; omega), ?_⟩
    refine forW_at (fun i ds => ∃ x2 x3, ds = [some (.dat (brdD C n (ts.map Tm.py))), some (tabE (entV (ts.take i))), x2, x3]) (fun i x N ds hx hds hN => ?_) (fun ds hds => ?_) ⟨none, none, rfl⟩
    · obtain ⟨x2, x3, rfl⟩ := hds
      obtain ⟨t, ht, rfl⟩ := get_map hx
      have hi : i < ts.length := (List.getElem?_eq_some_iff.mp ht).1
      have et : entV (ts.take (i + 1)) = entV (ts.take i) ++ entT t := by
        unfold entV
        rw [List.take_add_one, ht, List.flatMap_append]
        simp
      rw [et] at hN
      have le : (entV (ts.take i)).length ≤ 48 := by
        have : ∀ L : List Tm, (entV L).length = 2 * L.length := fun L => by
          induction L with
          | nil => rfl
          | cons t L ih =>
            have e : entV (t :: L) = entT t ++ entV L := rfl
            rw [e, List.length_append, ih]
            unfold entT
            rw [List.length_map, plV_len, List.length_cons]
            omega
        rw [this, List.length_take]
        omega
      generalize entV (ts.take i) = E at *
      refine ⟨t, rfl, szr0 (by rw [List.length_map, plV_len]; decide), ?_⟩
      refine forW_at (fun j ds => ∃ x3, ds = [some (.dat (brdD C n (ts.map Tm.py))), some (tabE (E ++ ((plV t).take j).map fun p => (p, t.force))), some (.dat t.py), x3]) (fun j x N ds hx hds hN => ?_) (fun ds hds => ?_) ⟨x3, by rw [List.take_zero, List.map_nil, List.append_nil]; rfl⟩
      · obtain ⟨x3, rfl⟩ := hds
        obtain ⟨p, hp, rfl⟩ := get_map hx
        have hj : j < 2 := by rw [← plV_len t]; exact (List.getElem?_eq_some_iff.mp hp).1
        have ep : (plV t).take (j + 1) = (plV t).take j ++ [p] := by
          rw [List.take_add_one, hp]
          rfl
        rw [ep, List.map_append, ← List.append_assoc] at hN
        have lE : (E ++ ((plV t).take j).map fun p => (p, t.force)).length ≤ 50 := by
          rw [List.length_append, List.length_map, List.length_take]
          omega
        generalize (E ++ ((plV t).take j).map fun p => (p, t.force)) = F at *
        refine ⟨DL.keyOf p, tp_key p, ?_⟩
        rw [tabE_get]
        refine ⟨_, soft_last (soft t (List.mem_of_getElem? ht)), ?_⟩
        refine ⟨DL.keyOf p, tp_key p, szr0 (by have := keysT_len F; omega), ?_⟩
        refine hN _ ⟨some (.dat (tpD p)), ?_⟩
        show _ = [_, some (tabE (F ++ [(p, t.force)])), _, _]
        rw [← tabE_put]
        rfl
      · obtain ⟨x3, rfl⟩ := hds
        rw [List.length_map, List.take_length] at *
        exact hN _ ⟨_, x3, rfl⟩
    · obtain ⟨x2, x3, rfl⟩ := hds
      rw [List.length_map, List.take_length]
      have len3 := entV_len3 (ts := ts)
      have lE : (entV ts).length ≤ 48 := by
        have : ∀ L : List Tm, (entV L).length = 2 * L.length := fun L => by
          induction L with
          | nil => rfl
          | cons t L ih =>
            have e : entV (t :: L) = entT t ++ entV L := rfl
            rw [e, List.length_append, ih]
            unfold entT
            rw [List.length_map, plV_len, List.length_cons]
            omega
        rw [this]
        omega
      generalize entV ts = E at *
      have lk := keysT_len E
      refine ⟨szr0 (by omega), ?_⟩
      rw [keysT_tp]
      refine lcW_mapOf tpD (fun k => tpD (k ++ [wOf E k])) (ksOf E) _ _ (fun k hk N hN => ?_) ?_
      · obtain ⟨p, hp, ep⟩ := ksOf_mem.mp hk
        have l3 := len3 p hp
        rw [ep] at l3
        refine ⟨DL.keyOf k, _, tp_key k, tabE_at hk, szr, szr0 (by rw [List.length_map, l3]; show 3 + 1 ≤ 1000000; omega), ?_⟩
        have e : tpD (k ++ [wOf E k]) = .tuple (k.map .int ++ [.int (wOf E k)]) := by
          unfold tpD
          rw [List.map_append]
          rfl
        rw [e] at hN
        exact hN
      rw [List.nil_append]
      have em : (ksOf E).map (fun k => tpD (k ++ [wOf E k])) = ((ksOf E).map fun k => k ++ [wOf E k]).map tpD := by
        rw [List.map_map]
        rfl
      rw [em]
      refine ⟨tps_alike _, tps_sortable fun r hr => ?_, tps_nodict _, tps_depth _, ?_⟩
      · obtain ⟨k, _, rfl⟩ := List.mem_map.mp hr
        simp
      · show Q _
        rw [tps_sort, kink_sort len3]
        exact h
theorem ok_16 (T : Txt w K mg C L f fd) : FnG P w K mg base 5 (f 16) (fd 16) ["thing", "size"] (spD areTermsR) := by
  have S := sc16
  refine fn_D T.d16.fn S (fun xs Q h => ?_) fun cdv A outer s H B hn c => ⟨_, _, (ds_cons (ds_if (dt_w (dw_or (dt_not (dt_valK K (d_isi K okLstI (d_var 0) (by rfl) T.b_isinstance (by rfl) T.b_list (by decide +kernel)))) (dw_or1 (dt_cmp op_gt rd_cmpI (d_callB (call_lenK K) rdc_len (by rfl) T.b_len (by decide +kernel) (dl_cons (d_var 0) dl_nil)) d_int (nomark _))))) (ds_one (ds_ret hn d_bl)) ds_nil)
      (ds_one (ds_ret hn (d_callB (call_allK K rfl) rdc_all (by rfl) T.b_all (by decide +kernel) (dl_cons (d_lc (own := [("term", 2)]) (is := [2]) rfl S.nd (di_seq (d_var 0)) (blkOk_by (N := N16) (sc := defScope s16) (by decide +kernel)) (fun _ _ _ _ _ => (dg_name S.nd rfl (Or.inl rfl))) (fun _ _ _ _ _ => pts_nil) (fun M σ H ds Q R g e h c => st_yes M σ H ds Q R g e h c) (fun s' H' C cl fp => (d_call (ok_12 T) (CxD.blk (scope := cs130_15) c s' H' C cl fp).guards ((CxD.blk (scope := cs130_15) c s' H' C cl fp).room.mono (by decide)) T.d12.bd T.d12.mg T.d12.fn.kp (by rfl) (da_var 2 (da_var 1 da_nil)))) (by decide)) dl_nil))))), fun xs Q h => ?_⟩
  · obtain ⟨ts, n, rfl, _⟩ := h
    rfl
  · obtain ⟨ts, n, rfl, hl, hg, h⟩ := h
    have e1 : decide (((ts.map Tm.py).length : Int) > 24) = false := decide_eq_false (by rw [List.length_map]; omega)
    refine ⟨(fun z => nomatch z), fun _ => ⟨fun z => absurd (e1.symm.trans z) Bool.false_ne_true, fun _ => ?_⟩⟩
    refine ⟨szr0 (by rw [List.length_map]; omega), lcW_map (fun _ => .bool true) _ _ _ (fun x hx N hN => ?_) ?_⟩
    · obtain ⟨t, ht, rfl⟩ := List.mem_map.mp hx
      exact ⟨t, n, rfl, hg t ht, hN⟩
    rw [List.nil_append]
    obtain ⟨bs, e, e2⟩ := all_true (r := (ts.map Tm.py).map fun _ => PyData.bool true) fun z hz => by
      obtain ⟨_, _, rfl⟩ := List.mem_map.mp hz
      rfl
    refine ⟨bs, e, ?_⟩
    rw [e2]
    exact h
theorem ok_26 (T : Txt w K mg C L f fd) : FnG P w K mg base 6 (f 26) (fd 26) ["self", "size", "terms"] (spInit C BrdOk) := by
  have S := sc26
  refine fn_ofG T.i26 S (fun vs H Q E h => ?_) fun cdv A outer s H vs Q hG hr h => ?_
  · obtain ⟨M, B, x, dx, vt, n, l, rfl, _⟩ := h
    rfl
  obtain ⟨M, B, x, dx, vt, n, l, rfl, g, f0, nx, nd, ne, hx, hdx, ht, hok, k⟩ := h
  have c : CxD (6 - 1) (cxOf CX0 P w K mg base N26 "Board.__init__" (defScope s26) (f 26) cdv A outer s H E0).nox := ⟨hr, hG⟩
  have en : EnvAt M B H [some (.ref x), some (.int n), some vt] [none, some (.dat (.int n)), some (.dat (.list l))] := .cons (.non _) (.cons (.som (.dat (.int n))) (.cons (.som (.dat ht)) .nil))
  obtain ⟨t1, d1, h1, q1⟩ : ∃ t1 d1, PDT (cxOf CX0 P w K mg base N26 "Board.__init__" (defScope s26) (f 26) cdv A outer s H E0).nox B (ifTest ((defBody s26).getD 0 (.Pass ⟨0, 0, 0, 0⟩))) t1 d1 ∧ d1 [none, some (.dat (.int n)), some (.dat (.list l))] (fun b => b = false) := by
    refine ⟨_, _, (dt_w (dw_or (dt_not (dt_valK K (d_call (ok_8 T) c.guards (c.room.mono (by decide)) T.d8.bd T.d8.mg T.d8.fn.kp (by rfl) (da_var 1 da_nil)))) (dw_or1 (dt_not (dt_chain op_le op_le rd_cmpI rd_cmpI d_int (d_var 1) d_int))))), ?_⟩
    obtain ⟨n1, n8, _⟩ := hok
    refine ⟨n, rfl, ⟨(fun z => nomatch z), fun _ => ?_⟩⟩
    have e1 : decide ((1 : Int) ≤ n) = true := decide_eq_true n1
    have e2 : decide (n ≤ 8) = true := decide_eq_true n8
    show (match PyData.bool (decide ((1 : Int) ≤ n)) with
      | .bool true => _
      | .bool false => _
      | _ => False)
    rw [e1]
    show (!decide (n ≤ 8)) = false
    rw [e2]
    rfl
  obtain ⟨t2, d2, h2, q2⟩ : ∃ t2 d2, PDT (cxOf CX0 P w K mg base N26 "Board.__init__" (defScope s26) (f 26) cdv A outer s H E0).nox B (ifTest ((defBody s26).getD 1 (.Pass ⟨0, 0, 0, 0⟩))) t2 d2 ∧ d2 [none, some (.dat (.int n)), some (.dat (.list l))] (fun b => b = false) := by
    refine ⟨_, _, (dt_not (dt_valK K (d_call (ok_16 T) c.guards (c.room.mono (by decide)) T.d16.bd T.d16.mg T.d16.fn.kp (by rfl) (da_var 2 (da_var 1 da_nil))))), ?_⟩
    obtain ⟨_, _, l24, ts, rfl, hg⟩ := hok
    exact ⟨ts, n, rfl, by rw [List.length_map] at l24; exact l24, hg, rfl⟩
  refine ⟨_, pss_cons (ps_if h1.pt (pss_one ps_never) pss_nil) (pss_cons (ps_if h2.pt (pss_one ps_never) pss_nil) (pss_cons (ps_fld (pv 0) (pv 1) rfl) (pss_one (ps_fld (pv 0) (pe_callTy call_list_of (by rfl) T.b_list (by decide +kernel) (pa_cons (pv 2) pa_nil)) rfl)))), ?_⟩
  refine h1.st M _ H _ _ _ g en q1 fun b H1 g1 k1 e1 => ?_
  subst e1
  refine iteF ?_
  have mB := g.1
  refine h2.st M _ H1 _ _ _ g1 (en.keep mB k1) q2 fun b H2 g2 k2 e2 => ?_
  subst e2
  refine iteF ?_
  have kk := k1.trans k2
  have xB : x ≠ B := fun z => nx (by rw [z]; exact mB)
  have dB : dx ≠ B := fun z => nd (by rw [z]; exact mB)
  have hx2 := kk.k x _ xB hx
  have hd2 := kk.k dx _ dB hdx
  have ht2 := ht.keep mB kk
  cases ht2 with
  | lst na ea ha =>
    rename_i a xs
    have ax : a ≠ x := fun z => by
      rw [z, hx2] at ea
      cases ea
    refine ⟨_, rfl, _, rfl, x, C, dx, [], rfl, hx2, T.cl, T.nS, (by show 0 < 1000; decide), ?_⟩
    refine ⟨_, rfl, a, xs, rfl, .inl (SqL.of (by rw [upd_ne ax]; exact ea)), fun p hp => ?_⟩
    have px : p ≠ x := fun z => by
      rw [z, upd_same] at hp
      cases hp
    have hp2 : H2 p = none := by rw [upd_ne px] at hp; exact hp
    refine ⟨_, rfl, x, C, dx, _, rfl, (by rw [upd_ne px.symm]; exact upd_same), T.cl, T.nT, (by show 1 < 1000; decide), ?_⟩
    have gp := g2.new (o := .lst xs) hp2
    have np := g2.ne hp2
    have pB : p ≠ B := fun z => np (by rw [z]; exact mB)
    have pd : p ≠ dx := fun z => by
      rw [z, hd2] at hp2
      cases hp2
    have eH : ∀ b, b ≠ x → (upd (upd (upd H2 x (.ins C dx (putF "_size" (.int n) []))) p (.lst xs)) x (.ins C dx (putF "_terms" (.ref p) (putF "_size" (.int n) [])))) b = upd H2 p (.lst xs) b := fun b hb => by
      rw [upd_ne hb]
      unfold upd
      split
      · rfl
      · first | rfl | rw [if_neg hb]
    have eF : upd (upd (upd H2 x (.ins C dx (putF "_size" (.int n) []))) p (.lst xs)) x (.ins C dx (putF "_terms" (.ref p) (putF "_size" (.int n) []))) = upd (upd H2 p (.lst xs)) x (.ins C dx (putF "_terms" (.ref p) (putF "_size" (.int n) []))) := by
      funext b
      by_cases z : b = x
      · rw [z, upd_same, upd_same]
      · rw [eH b z, upd_ne z]
    have gf := gp.updI (o := .ins C dx (putF "_terms" (.ref p) (putF "_size" (.int n) []))) nx xB (by rw [upd_ne px.symm]; exact hx2) f0.1 f0.2
    refine k p xs _ (by rw [eF]; exact gf) (fun b o nb nbx hb => ?_) (fun q' hq => ?_) (by rw [upd_same, init_flds]) np ?_ ?_
    · rw [eH b nbx, upd_ne (ne_of_none (kk.k b o nb hb) hp2)]
      exact kk.k b o nb hb
    · have e := kk.q q' hq
      unfold bagq at e ⊢
      rw [eH B xB.symm, upd_ne pB.symm]
      exact e
    · rw [eH p px]
      exact upd_same
    · exact ha.mapX ⟨C, dx, hx2⟩ fun b o hbx nb hb => ⟨nb, by rw [eH b hbx, upd_ne (ne_of_none hb hp2)]; exact hb⟩

theorem ok_25 (T : Txt w K mg C L f fd) : FnG P w K mg base 8 (f 25) (fd 25) ["_law_script"] (spLaw K) := by
  have S := sc25
  refine fn_ofG T.d25.fn S (fun vs H Q E h => ?_) fun cdv A outer s H vs Q hG hr h => ?_
  · obtain ⟨a, ns, rfl, _⟩ := h
    rfl
  obtain ⟨a, ns, rfl, hS, hlen, k⟩ := h
  have c : CxD 7 (cxOf CX0 P w K mg base N25 "law" (defScope s25) (f 25) cdv A outer s H E0).nox := ⟨hr, hG⟩
  obtain ⟨ts, t, hb, ht⟩ : ∃ ts t, (∀ B : Gr, (∀ v, B.nw v) → PDSs (cxOf CX0 P w K mg base N25 "law" (defScope s25) (f 25) cdv A outer s H E0).nox B ((defBody s25).drop 1) ts t) ∧
      t { nx := fun _ => False, rt := fun d => d = .bool true, bk := fun _ => False, ct := fun _ => False } (none :: some .bag :: List.replicate 8 none) := by
    refine ⟨_, _, fun B hn => (ds_cons (ds_for PassesOwn.never rfl (di_range1 (by rfl) T.b_range (dl_cons d_int dl_nil)) (dg_name (i := 2) S.nd rfl (by first | exact Or.inl rfl | exact Or.inr rfl)) (ds_cons (ds_set (i := 3) S.nd rfl (by first | exact Or.inl rfl | exact Or.inr rfl) (d_op (op_addK K) rd_add d_int (d_call (ok_18 T) c.guards (c.room.mono (by decide)) T.d18.bd T.d18.mg T.d18.fn.kp (by rfl) (da_var 1 (da_cons d_int da_nil)))))
      (ds_cons (ds_set (i := 4) S.nd rfl (by first | exact Or.inl rfl | exact Or.inr rfl) (d_call (ok_22 T) c.guards (c.room.mono (by decide)) T.d22.bd T.d22.mg T.d22.fn.kp (by rfl) (da_var 1 (da_var 3 (da_cons (d_ixK K (d_lst (dl_cons d_int (dl_cons d_int dl_nil))) (d_call (ok_18 T) c.guards (c.room.mono (by decide)) T.d18.bd T.d18.mg T.d18.fn.kp (by rfl) (da_var 1 (da_cons d_int da_nil)))) (da_cons d_int da_nil))))))
      (ds_cons (ds_par (i := 7) (j := 8) rfl S.nd rfl rfl (by decide) rfl rfl (dl_cons (d_make T.mkC (ok_26 T) c.guards (c.room.mono (by decide)) T.ib T.mgC (by rfl) (dl_cons (d_var 3) (dl_cons (d_var 4) dl_nil))) (dl_cons (d_call (ok_23 T) c.guards (c.room.mono (by decide)) T.d23.bd T.d23.mg T.d23.fn.kp (by rfl) (da_var 4 da_nil)) dl_nil)) (by rfl))
      (ds_cons (ds_for PassesOwn.never rfl (di_range1 (by rfl) T.b_range (dl_cons d_int dl_nil)) (dg_name (i := 5) S.nd rfl (by first | exact Or.inl rfl | exact Or.inr rfl)) (ds_cons (ds_setN (i := 9) S.nd rfl (by first | exact Or.inl rfl | exact Or.inr rfl) (ok_5 T) c.guards (c.room.mono (by decide)) T.d5.bd T.d5.mg T.d5.fn.kp (by rfl) (da_var 7 da_nil))
      (ds_cons (ds_if (dt_w (dw_or (dt_not (dt_peekS 9 (dt_valK K (d_call (ok_19 T) c.guards (c.room.mono (by decide)) T.d19.bd T.d19.mg T.d19.fn.kp (by rfl) (da_var 9 (da_var 8 da_nil)))))) (dw_or1 (dt_cmp (op_neK K c.room.units) rd_ne (d_meth0 T.cl T.m29.me (ok_29 T) c.guards (c.room.mono (by decide)) T.m29.bd (d_var 7)) (d_var 4) (nomark _))))) (ds_one (ds_ret hn d_bl)) ds_nil)
      (ds_spoilAR (K := K) 9 (pss_cons (ps_expr (pe_bm PySem.F.plainAttrs_list PySem.F.slot_list_append PySem.F.type_list_append mt_append (pv 9) (pa_cons pe_non pa_nil))) (pss_one (ps_expr (pe_bm0 PySem.F.plainAttrs_list PySem.F.slot_list_reverse PySem.F.type_list_reverse mt_reverse (pv 9)))))))))
      (ds_cons (ds_set (i := 6) S.nd rfl (by first | exact Or.inl rfl | exact Or.inr rfl) (d_call (ok_24 T) c.guards (c.room.mono (by decide)) T.d24.bd T.d24.mg T.d24.fn.kp (by rfl) (da_var 1 (da_var 4 da_nil))))
      (ds_one (ds_if (dt_w (dw_and (dt_cmp op_le rd_cmpI (d_callB (call_lenK K) rdc_len (by rfl) T.b_len (by decide +kernel) (dl_cons (d_var 6) dl_nil)) d_int (nomark _)) (dw_and1 (dt_cmp (op_neK K c.room.units) rd_ne (d_call (ok_5 T).plain c.guards (c.room.mono (by decide)) T.d5.bd T.d5.mg T.d5.fn.kp (by rfl) (da_cons (d_make T.mkC (ok_26 T) c.guards (c.room.mono (by decide)) T.ib T.mgC (by rfl) (dl_cons (d_var 3) (dl_cons (d_var 6) dl_nil))) da_nil)) (d_var 8) (nomark _))))) (ds_one (ds_ret hn d_bl)) ds_nil))))))))
      (ds_one (ds_ret hn d_bl))), ?_⟩

    refine ⟨by decide, by decide, forW_range (fun i ds => ∃ a b c d e f g h, ds = [none, some .bag, a, b, c, d, e, f, g, h]) (fun i N ds hi hds hN => ?_) (fun ds _ => rfl) ⟨_, _, _, _, _, _, _, _, rfl⟩⟩
    obtain ⟨_, _, _, _, _, _, _, _, rfl⟩ := hds
    refine ⟨8, rfl, by decide, lt_big (by decide), fun x x0 x1 => ?_⟩
    obtain ⟨n, en⟩ : ∃ n : Nat, 1 + x = n := ⟨(1 + x).toNat, by omega⟩
    have n1 : 1 ≤ n := by omega
    have n8 : n ≤ 8 := by omega
    dsimp only [DL.rAdd]
    rw [en]
    refine ⟨szr, 2, rfl, by decide, lt_big (by decide), fun y y0 y1 => ?_⟩
    refine atI_ex (P := fun d => ∃ i : Int, d = .int i ∧ 1 ≤ i ∧ i ≤ 9) y0 y1 (fun z hz => ?_) ?_
    · simp only [List.mem_cons, List.not_mem_nil, or_false] at hz
      rcases hz with rfl | rfl <;> exact ⟨_, rfl, by decide, by decide⟩
    rintro _ ⟨s, rfl, s1, s9⟩
    refine ⟨n, s, 24, rfl, n1, n8, s1, s9, by decide, by decide, fun ts l24 gt => ?_⟩
    have soft : ∀ t ∈ ts, t.soft = true := fun t ht => (gt t ht).2
    have hs : ∀ t ∈ ts, t.soft = true ∧ 1 ≤ t.force ∧ t.Diff := fun t ht => ⟨soft t ht, (soft_force (gt t ht).2 (gt t ht).1.fr).1, (gt t ht).1.dif⟩
    have okB : ∀ us : List Tm, us.length ≤ 24 → (∀ t ∈ us, t.Good n ∧ t.soft = true) → BrdOk n (us.map Tm.py) := fun us l g => ⟨by omega, by omega, by rw [List.length_map]; exact l, us, rfl, fun t ht => by rw [Int.toNat_natCast]; exact (g t ht).1⟩
    have okT : OkD (.list (ts.map Tm.py)) := okTerms l24 (by omega : n < 1000) fun t ht => (gt t ht).1.fair
    have okK := kink_ok l24 n8 gt
    have lk := kink_len ts
    refine ⟨okB ts l24 gt, ts, rfl, hs, l24, ?_⟩
    refine ⟨by decide, by decide, ?_⟩
    refine forW_range (fun i ds => ∃ a b c d, ds = [none, some .bag, a, some (.dat (.int n)), some (.dat (.list (ts.map Tm.py))), b, c, some (.dat (brdD C n (ts.map Tm.py))), some (.dat (.list ((kinkV (entV ts)).map tpD))), d]) (fun i N2 ds hi hds hN2 => ?_) (fun ds hds => ?_) ⟨_, _, _, _, rfl⟩
    · obtain ⟨a, b, c, d, rfl⟩ := hds
      refine ⟨AllDat.cons noInts_brd .nil, n, ts, rfl, soft, l24, fun S => ?_⟩
      refine ⟨_, rfl, okK, (fun z => nomatch z), fun _ => ?_⟩
      refine ⟨_, _, rfl, _, _, rfl, okT.sh, okT.sh, ?_⟩
      rw [eqv_rfl okT]
      refine ⟨(fun z => nomatch z), fun _ => ?_⟩
      exact ⟨by rw [List.length_map]; omega, hN2 _ ⟨_, _, _, _, rfl⟩⟩
    · obtain ⟨a, b, c, d, rfl⟩ := hds
      refine ⟨n, ts, rfl, l24, gt, fun us lu gu wu => ?_⟩
      refine ⟨fun z => ?_, fun _ => ⟨(fun y => nomatch y), fun _ => hN _ ⟨_, _, _, _, _, _, _, _, rfl⟩⟩⟩
      have z := of_decide_eq_true z
      have lu2 : us.length ≤ 24 := by
        rw [List.length_map] at z
        omega
      refine ⟨okB us lu2 gu, n, us, rfl, fun t ht => (gu t ht).2, lu2, ?_⟩
      rw [kink_alike gt gu wu]
      refine ⟨okK.sh, okK.sh, ?_⟩
      rw [eqv_rfl okK]
      exact ⟨(fun y => nomatch y), fun _ => hN _ ⟨_, _, _, _, _, _, _, _, rfl⟩⟩
  refine ⟨_, pss_cons (ps_set (i := 1) S.nd rfl (by first | exact Or.inl rfl | exact Or.inr rfl) (pe_callG (ok_17 T) hG (hr.mono (by decide)) T.d17.bd (by rfl) T.d17.mg T.d17.fn.kp (pa_cons (pv 0) pa_nil))) (hb default fun _ => trivial).ps, ?_⟩
  refine ⟨_, rfl, a, ns, rfl, hS, hlen, fun B q ms H' e1 nq e2 nn => ?_⟩
  have gg : Good (fun a => a = B) ⟨B, fun a => a = B, H', fun a => a = B, H', fun _ => True⟩ H' := Good0.start ⟨rfl, fun b (z : b = B) => ⟨_, (congrArg H' z).trans e1⟩, ⟨0, 1234567891, 0, q, ms, e1, e2, by decide, by decide, by decide, by decide, nn⟩, fun b (z : b = B) ys w => by rw [show H' b = _ from (congrArg H' z).trans e1] at w; cases w⟩
  have nm : ∀ (i : Nat) x, (none :: some DV.bag :: List.replicate 8 none)[i]? = some (some x) → x.fix := fun i l e => by
    rcases i with _ | _ | i
    · cases e
    · cases e
      exact trivial
    · rw [List.getElem?_cons_succ, List.getElem?_cons_succ, List.getElem?_replicate] at e
      split at e <;> cases e
  refine (hb ⟨B, fun a => a = B, H', fun a => a = B, H', fun _ => True⟩ fun _ => trivial).ss (fun a => a = B) _ H' _ _ _ ⟨gg⟩ ⟨.cons (.non _) (.cons (.som (.bag (B := ⟨B, fun a => a = B, H', fun a => a = B, H', fun _ => True⟩) (by unfold bagq; rw [e1]) nq e2)) (EnvAt.nones 8)), fun i j x y v w a e _ _ _ f => absurd (nm i x e) f.mut⟩ ht
    ⟨fun _ _ _ _ _ _ _ q => q.elim, fun v H2 d _ _ hd _ e => ?_, fun _ _ _ _ _ _ _ q => q.elim, fun _ _ _ _ _ _ _ q => q.elim⟩
  subst e
  cases hd
  exact k _
theorem ok_31 (T : Txt w K mg C L f fd) : FnG P w K mg base 8 (f 31) (fd 31) ["self", "terms"] (spD (withR C)) := by
  have S := sc31
  refine fn_ofG T.m31.fn S (fun vs H Q E h => ?_) fun cdv A outer s H vs Q hG hr h => ?_
  · obtain ⟨M, B, xs, Qd, ha, _, ⟨n, l, l2, rfl, _⟩, _⟩ := h
    exact ha.length
  obtain ⟨M, B, xs, Qd, ha, g, ⟨n, l, l2, rfl, n1, n8, hq⟩, k⟩ := h
  cases ha with
  | cons r1 _ t1 => cases t1 with
    | cons r2 _ t2 =>
    cases t2
    cases r1 with
    | dat r1 =>
    cases r2 with
    | dat r2 =>
    cases r1 with
    | @brd p dx C' a n' xs' ds' np nd ep ed na ea hd =>
    cases r2 with
    | @lst t ys l2' nt et ht =>
    refine ⟨_, pss_cons (ps_set (i := 2) S.nd rfl (by first | exact Or.inl rfl | exact Or.inr rfl) (pe_makeG T.mkC (ok_26 T) hG (hr.mono (by decide)) T.ib T.mgC (by rfl) (pa_cons (pe_fld (pv 0) rfl) (pa_cons (pe_lst pa_nil) pa_nil))))
      (pss_cons (ps_fld (pv 2) (pv 1) rfl) (pss_one (ps_ret (pv 2)))), ?_⟩
    have mB := g.1
    refine ⟨_, rfl, p, C, dx, _, _, rfl, ep, T.cl, T.nS, lk_size, Nat.zero_le _, fun q hq0 => fun x dy hx hdy ne => ?_⟩
    have g1 := g.new (o := .lst []) hq0
    have g2 := g1.new (o := .own x) hdy
    have hx2 : (upd (upd H q (.lst [])) dy (.own x)) x = none := by rw [upd_ne ne.symm]; exact hx
    have g3 := g2.new (o := .ins C dy []) hx2
    have ks : Keep M B H (upd (upd (upd H q (.lst [])) dy (.own x)) x (.ins C dy [])) := (Keep.new hq0).trans ((Keep.new hdy).trans (Keep.new hx2))
    have nx : ¬ M x := g1.ne hx
    have ny : ¬ M dy := g1.ne hdy
    have nq : ¬ M q := g.ne hq0
    have xB : x ≠ B := fun z => nx (by rw [z]; exact mB)
    have dB : dy ≠ B := fun z => ny (by rw [z]; exact mB)
    have qx : q ≠ x := fun z => by
      rw [← z, upd_same] at hx
      cases hx
    have qd : q ≠ dy := fun z => by
      rw [← z, upd_same] at hdy
      cases hdy
    have f0 := g2.fresh0 hx2
    have f1 := g2.fresh1 hx2
    refine ⟨M, B, x, dy, .ref q, n, [], rfl, g3, ⟨f0, f1⟩, nx, ny, ne.symm, upd_same, by rw [upd_ne ne]; exact upd_same, .lst nq (by rw [upd_ne qx, upd_ne qd]; exact upd_same) .nil, ⟨n1, n8, Nat.zero_le _, [], rfl, fun _ z => nomatch z⟩, fun a2 xs2 H' g' kp kq e1 n3 e3 hx' => ⟨rfl, ?_⟩⟩
    have old : ∀ (b : Addr) o, b ≠ B.a → H b = some o → H' b = some o := fun b o nb hb => by
      have hb1 := ks.k b o nb hb
      refine kp b o nb (fun z => ?_) hb1
      rw [z] at hb
      have hqx : (upd H q (.lst [])) x = some o := by rw [upd_ne qx.symm]; exact hb
      rw [hx] at hqx
      cases hqx
    have notx : ∀ (b : Addr) o, b ≠ B.a → H b = some o → b ≠ x := fun b o nb hb z => by
      rw [z] at hb
      have hqx : (upd H q (.lst [])) x = some o := by rw [upd_ne qx.symm]; exact hb
      rw [hx] at hqx
      cases hqx
    have tB : t ≠ B := fun z => nt (by rw [z]; exact mB)
    have h1 : H' dy = some (.own x) := by
      refine kp dy _ dB ne ?_
      rw [upd_ne ne]
      exact upd_same
    refine ⟨_, rfl, _, rfl, x, C, dy, _, rfl, e1, T.cl, T.nT, (by show 2 < 1000; decide), _, rfl, ?_⟩
    refine k _ _ _ (g'.updI nx xB e1 f0 f1) ⟨fun b o nb hb => ?_, fun q' hq' => ?_⟩ (.brd (xs := ys) nx ny ?_ ?_ nt ?_ ?_) hq
    · rw [upd_ne (notx b o nb hb)]
      exact old b o nb hb
    · rw [bagq_upd xB]
      exact kq q' (ks.q q' hq')
    · rw [upd_same, with_flds]
    · rw [upd_ne ne]
      exact h1
    · rw [upd_ne (notx t _ tB et)]
      exact old t _ tB et
    · exact ht.map fun b o nb hb => ⟨nb, by
        have bB : b ≠ B.a := fun z => nb (by rw [z]; exact mB)
        rw [upd_ne (notx b o bB hb)]
        exact old b o bB hb⟩

theorem ok_30 (T : Txt w K mg C L f fd) : FnG P w K mg base 9 (f 30) (fd 30) ["self", "at"] (spD (withoutR C)) := by
  have S := sc30
  refine fn_D T.m30.fn S (fun xs Q h => ?_) fun cdv A outer s H B hn c => ⟨_, _, (ds_one (ds_ret hn (d_meth T.cl T.m31.me (ok_31 T) c.guards (c.room.mono (by decide)) T.m31.bd (d_var 0) (da_cons (d_op (op_addK K) rd_add (d_sliceK K (d_fldT K T.cl T.nT (d_var 0)) do_none (do_some (d_var 1))) (d_sliceK K (d_fldT K T.cl T.nT (d_var 0)) (do_some (d_op (op_addK K) rd_add (d_var 1) d_int)) do_none)) da_nil)))), fun xs Q h => ?_⟩
  · obtain ⟨n, ts, i, rfl, _⟩ := h
    rfl
  · obtain ⟨n, ts, i, rfl, n1, n8, hl, h⟩ := h
    rw [← cut_out] at h
    have c1 := cut_len (ts.map Tm.py) none (some (i : Int))
    have c2 := cut_len (ts.map Tm.py) (some ((i : Int) + 1)) none
    rw [List.length_map] at c1 c2
    exact ⟨n, _, rfl, n, _, rfl, n, _, rfl, szr0 (by omega), n, _, _, rfl, n1, n8, h⟩
end
theorem all_mk {l : PySem.W.OpenLaw} {w : World} {K : PySem.W.Frag} {h : Heap} {mg : Str → Option Value} {fa : Addr} (X : K.In h) (G : h.Ns mainGlobals mg) (hfa : mg "law" = some (.ref fa))
    {C L : Addr}
    {esL : Array DictEntry} {nL : Nat} {tw tt ts tb : Tok}
    {a0 : Addr} {od0 an0 : Option Addr} {sl0 : Array (Option Value)} {oc0 kV0 dc0 pm0 cd0 ct0 : Value}
    {a1 : Addr} {od1 an1 : Option Addr} {sl1 : Array (Option Value)} {oc1 kV1 dc1 pm1 cd1 ct1 : Value}
    {a2 : Addr} {od2 an2 : Option Addr} {sl2 : Array (Option Value)} {oc2 kV2 dc2 pm2 cd2 ct2 : Value}
    {a3 : Addr} {od3 an3 : Option Addr} {sl3 : Array (Option Value)} {oc3 kV3 dc3 pm3 cd3 ct3 : Value}
    {a4 : Addr} {od4 an4 : Option Addr} {sl4 : Array (Option Value)} {oc4 kV4 dc4 pm4 cd4 ct4 : Value}
    {a5 : Addr} {od5 an5 : Option Addr} {sl5 : Array (Option Value)} {oc5 kV5 dc5 pm5 cd5 ct5 : Value}
    {a6 : Addr} {od6 an6 : Option Addr} {sl6 : Array (Option Value)} {oc6 kV6 dc6 pm6 cd6 ct6 : Value}
    {a7 : Addr} {od7 an7 : Option Addr} {sl7 : Array (Option Value)} {oc7 kV7 dc7 pm7 cd7 ct7 : Value}
    {a8 : Addr} {od8 an8 : Option Addr} {sl8 : Array (Option Value)} {oc8 kV8 dc8 pm8 cd8 ct8 : Value}
    {a9 : Addr} {od9 an9 : Option Addr} {sl9 : Array (Option Value)} {oc9 kV9 dc9 pm9 cd9 ct9 : Value}
    {a10 : Addr} {od10 an10 : Option Addr} {sl10 : Array (Option Value)} {oc10 kV10 dc10 pm10 cd10 ct10 : Value}
    {a11 : Addr} {od11 an11 : Option Addr} {sl11 : Array (Option Value)} {oc11 kV11 dc11 pm11 cd11 ct11 : Value}
    {a12 : Addr} {od12 an12 : Option Addr} {sl12 : Array (Option Value)} {oc12 kV12 dc12 pm12 cd12 ct12 : Value}
    {a13 : Addr} {od13 an13 : Option Addr} {sl13 : Array (Option Value)} {oc13 kV13 dc13 pm13 cd13 ct13 : Value}
    {a14 : Addr} {od14 an14 : Option Addr} {sl14 : Array (Option Value)} {oc14 kV14 dc14 pm14 cd14 ct14 : Value}
    {a15 : Addr} {od15 an15 : Option Addr} {sl15 : Array (Option Value)} {oc15 kV15 dc15 pm15 cd15 ct15 : Value}
    {a16 : Addr} {od16 an16 : Option Addr} {sl16 : Array (Option Value)} {oc16 kV16 dc16 pm16 cd16 ct16 : Value}
    {a17 : Addr} {od17 an17 : Option Addr} {sl17 : Array (Option Value)} {oc17 kV17 dc17 pm17 cd17 ct17 : Value}
    {a18 : Addr} {od18 an18 : Option Addr} {sl18 : Array (Option Value)} {oc18 kV18 dc18 pm18 cd18 ct18 : Value}
    {a19 : Addr} {od19 an19 : Option Addr} {sl19 : Array (Option Value)} {oc19 kV19 dc19 pm19 cd19 ct19 : Value}
    {a20 : Addr} {od20 an20 : Option Addr} {sl20 : Array (Option Value)} {oc20 kV20 dc20 pm20 cd20 ct20 : Value}
    {a21 : Addr} {od21 an21 : Option Addr} {sl21 : Array (Option Value)} {oc21 kV21 dc21 pm21 cd21 ct21 : Value}
    {a22 : Addr} {od22 an22 : Option Addr} {sl22 : Array (Option Value)} {oc22 kV22 dc22 pm22 cd22 ct22 : Value}
    {a23 : Addr} {od23 an23 : Option Addr} {sl23 : Array (Option Value)} {oc23 kV23 dc23 pm23 cd23 ct23 : Value}
    {a24 : Addr} {od24 an24 : Option Addr} {sl24 : Array (Option Value)} {oc24 kV24 dc24 pm24 cd24 ct24 : Value}
    {a25 : Addr} {od25 an25 : Option Addr} {sl25 : Array (Option Value)} {oc25 kV25 dc25 pm25 cd25 ct25 : Value}
    {a26 : Addr} {od26 an26 : Option Addr} {sl26 : Array (Option Value)} {oc26 kV26 dc26 pm26 cd26 ct26 : Value}
    {a27 : Addr} {od27 an27 : Option Addr} {sl27 : Array (Option Value)} {oc27 kV27 dc27 pm27 cd27 ct27 : Value}
    {pr27 : Addr} {re27 : List Value}
    {a28 : Addr} {od28 an28 : Option Addr} {sl28 : Array (Option Value)} {oc28 kV28 dc28 pm28 cd28 ct28 : Value}
    {a29 : Addr} {od29 an29 : Option Addr} {sl29 : Array (Option Value)} {oc29 kV29 dc29 pm29 cd29 ct29 : Value}
    {a30 : Addr} {od30 an30 : Option Addr} {sl30 : Array (Option Value)} {oc30 kV30 dc30 pm30 cd30 ct30 : Value}
    {a31 : Addr} {od31 an31 : Option Addr} {sl31 : Array (Option Value)} {oc31 kV31 dc31 pm31 cd31 ct31 : Value}
    (aC : PySem.W.nsIn K mainGlobals "Board" = some (some (.ref C))) (pg : PySem.W.plainGet K C Str.empty = true) (hd : PySem.W.hasDictIn K C = true) (po : PySem.W.plainOver K C = true) (sa : PySem.W.findIn K (.ref C) "__setattr__" = some (some (.builtin "object.__setattr__"))) (mk : PySem.W.makesIn K C = true) (kc : PySem.W.keepIn K (.ref C) = true) (nS : PySem.W.findIn K (.ref C) "_size" = some none) (nT : PySem.W.findIn K (.ref C) "_terms" = some none)
    (iA : PySem.W.findIn K (.ref C) "__class__" = some (some (.builtin "object.__class__"))) (iN : PySem.W.specialIn K (.builtin "object.__class__") "__get__" = some (some (.builtin "getset_descriptor.__get__"))) (iT : PySem.W.takesIn K (.builtin "object.__class__") = some true) (iM : PySem.W.mroIn K C (.type "object") = some true) (iK : PySem.W.kitOne K (.ref C) (.ref C) = some true)
    (aL : PySem.W.nsIn K mainGlobals "TERMS" = some (some (.ref L))) (lL : K.lookup L = some ⟨.type "dict", none, .dict esL nL, #[]⟩) (kL : PySem.W.KeysLit w.params esL.toList) (loL : (L == sysModules) = false) (w1 : PySem.W.nsIn K L "wish" = some (some (.int 5 tw))) (w2 : PySem.W.nsIn K L "tie" = some (some (.int 6 tt))) (w3 : PySem.W.nsIn K L "stop" = some (some (.int 4 ts))) (w4 : PySem.W.nsIn K L "bar" = some (some (.int 5 tb)))
    (n0 : PySem.W.nsIn K mainGlobals "has_other" = some (some (.ref a0))) (l0 : K.lookup a0 = some ⟨oc0, od0, .func (PySem.W.fnOf "has_other" "has_other" (defArgs s0) (defBody s0) (defScope s0) .none kV0 dc0 pm0 an0 cd0 ct0), sl0⟩) (c0 : PySem.W.codeIn K cd0 "has_other" = true) (k0 : PySem.W.keepIn K (.ref a0) = true)
    (n1 : PySem.W.nsIn K mainGlobals "has_force" = some (some (.ref a1))) (l1 : K.lookup a1 = some ⟨oc1, od1, .func (PySem.W.fnOf "has_force" "has_force" (defArgs s1) (defBody s1) (defScope s1) .none kV1 dc1 pm1 an1 cd1 ct1), sl1⟩) (c1 : PySem.W.codeIn K cd1 "has_force" = true) (k1 : PySem.W.keepIn K (.ref a1) = true)
    (n2 : PySem.W.nsIn K mainGlobals "dials_of" = some (some (.ref a2))) (l2 : K.lookup a2 = some ⟨oc2, od2, .func (PySem.W.fnOf "dials_of" "dials_of" (defArgs s2) (defBody s2) (defScope s2) .none kV2 dc2 pm2 an2 cd2 ct2), sl2⟩) (c2 : PySem.W.codeIn K cd2 "dials_of" = true) (k2 : PySem.W.keepIn K (.ref a2) = true)
    (n3 : PySem.W.nsIn K mainGlobals "ends_of" = some (some (.ref a3))) (l3 : K.lookup a3 = some ⟨oc3, od3, .func (PySem.W.fnOf "ends_of" "ends_of" (defArgs s3) (defBody s3) (defScope s3) .none kV3 dc3 pm3 an3 cd3 ct3), sl3⟩) (c3 : PySem.W.codeIn K cd3 "ends_of" = true) (k3 : PySem.W.keepIn K (.ref a3) = true)
    (n4 : PySem.W.nsIn K mainGlobals "_low_at" = some (some (.ref a4))) (l4 : K.lookup a4 = some ⟨oc4, od4, .func (PySem.W.fnOf "_low_at" "_low_at" (defArgs s4) (defBody s4) (defScope s4) .none kV4 dc4 pm4 an4 cd4 ct4), sl4⟩) (c4 : PySem.W.codeIn K cd4 "_low_at" = true) (k4 : PySem.W.keepIn K (.ref a4) = true)
    (n5 : PySem.W.nsIn K mainGlobals "kinks" = some (some (.ref a5))) (l5 : K.lookup a5 = some ⟨oc5, od5, .func (PySem.W.fnOf "kinks" "kinks" (defArgs s5) (defBody s5) (defScope s5) .none kV5 dc5 pm5 an5 cd5 ct5), sl5⟩) (c5 : PySem.W.codeIn K cd5 "kinks" = true) (k5 : PySem.W.keepIn K (.ref a5) = true)
    (n6 : PySem.W.nsIn K mainGlobals "check_free" = some (some (.ref a6))) (l6 : K.lookup a6 = some ⟨oc6, od6, .func (PySem.W.fnOf "check_free" "check_free" (defArgs s6) (defBody s6) (defScope s6) .none kV6 dc6 pm6 an6 cd6 ct6), sl6⟩) (c6 : PySem.W.codeIn K cd6 "check_free" = true) (k6 : PySem.W.keepIn K (.ref a6) = true)
    (n7 : PySem.W.nsIn K mainGlobals "_places" = some (some (.ref a7))) (l7 : K.lookup a7 = some ⟨oc7, od7, .func (PySem.W.fnOf "_places" "_places" (defArgs s7) (defBody s7) (defScope s7) .none kV7 dc7 pm7 an7 cd7 ct7), sl7⟩) (c7 : PySem.W.codeIn K cd7 "_places" = true) (k7 : PySem.W.keepIn K (.ref a7) = true)
    (n8 : PySem.W.nsIn K mainGlobals "is_integer" = some (some (.ref a8))) (l8 : K.lookup a8 = some ⟨oc8, od8, .func (PySem.W.fnOf "is_integer" "is_integer" (defArgs s8) (defBody s8) (defScope s8) .none kV8 dc8 pm8 an8 cd8 ct8), sl8⟩) (c8 : PySem.W.codeIn K cd8 "is_integer" = true) (k8 : PySem.W.keepIn K (.ref a8) = true)
    (n9 : PySem.W.nsIn K mainGlobals "is_value" = some (some (.ref a9))) (l9 : K.lookup a9 = some ⟨oc9, od9, .func (PySem.W.fnOf "is_value" "is_value" (defArgs s9) (defBody s9) (defScope s9) .none kV9 dc9 pm9 an9 cd9 ct9), sl9⟩) (c9 : PySem.W.codeIn K cd9 "is_value" = true) (k9 : PySem.W.keepIn K (.ref a9) = true)
    (n10 : PySem.W.nsIn K mainGlobals "is_force" = some (some (.ref a10))) (l10 : K.lookup a10 = some ⟨oc10, od10, .func (PySem.W.fnOf "is_force" "is_force" (defArgs s10) (defBody s10) (defScope s10) .none kV10 dc10 pm10 an10 cd10 ct10), sl10⟩) (c10 : PySem.W.codeIn K cd10 "is_force" = true) (k10 : PySem.W.keepIn K (.ref a10) = true)
    (n11 : PySem.W.nsIn K mainGlobals "is_dial" = some (some (.ref a11))) (l11 : K.lookup a11 = some ⟨oc11, od11, .func (PySem.W.fnOf "is_dial" "is_dial" (defArgs s11) (defBody s11) (defScope s11) .none kV11 dc11 pm11 an11 cd11 ct11), sl11⟩) (c11 : PySem.W.codeIn K cd11 "is_dial" = true) (k11 : PySem.W.keepIn K (.ref a11) = true)
    (n12 : PySem.W.nsIn K mainGlobals "is_term" = some (some (.ref a12))) (l12 : K.lookup a12 = some ⟨oc12, od12, .func (PySem.W.fnOf "is_term" "is_term" (defArgs s12) (defBody s12) (defScope s12) .none kV12 dc12 pm12 an12 cd12 ct12), sl12⟩) (c12 : PySem.W.codeIn K cd12 "is_term" = true) (k12 : PySem.W.keepIn K (.ref a12) = true)
    (n13 : PySem.W.nsIn K mainGlobals "_word" = some (some (.ref a13))) (l13 : K.lookup a13 = some ⟨oc13, od13, .func (PySem.W.fnOf "_word" "_word" (defArgs s13) (defBody s13) (defScope s13) .none kV13 dc13 pm13 an13 cd13 ct13), sl13⟩) (c13 : PySem.W.codeIn K cd13 "_word" = true) (k13 : PySem.W.keepIn K (.ref a13) = true)
    (n14 : PySem.W.nsIn K mainGlobals "_are_dials" = some (some (.ref a14))) (l14 : K.lookup a14 = some ⟨oc14, od14, .func (PySem.W.fnOf "_are_dials" "_are_dials" (defArgs s14) (defBody s14) (defScope s14) .none kV14 dc14 pm14 an14 cd14 ct14), sl14⟩) (c14 : PySem.W.codeIn K cd14 "_are_dials" = true) (k14 : PySem.W.keepIn K (.ref a14) = true)
    (n15 : PySem.W.nsIn K mainGlobals "_are_ends" = some (some (.ref a15))) (l15 : K.lookup a15 = some ⟨oc15, od15, .func (PySem.W.fnOf "_are_ends" "_are_ends" (defArgs s15) (defBody s15) (defScope s15) .none kV15 dc15 pm15 an15 cd15 ct15), sl15⟩) (c15 : PySem.W.codeIn K cd15 "_are_ends" = true) (k15 : PySem.W.keepIn K (.ref a15) = true)
    (n16 : PySem.W.nsIn K mainGlobals "_are_terms" = some (some (.ref a16))) (l16 : K.lookup a16 = some ⟨oc16, od16, .func (PySem.W.fnOf "_are_terms" "_are_terms" (defArgs s16) (defBody s16) (defScope s16) .none kV16 dc16 pm16 an16 cd16 ct16), sl16⟩) (c16 : PySem.W.codeIn K cd16 "_are_terms" = true) (k16 : PySem.W.keepIn K (.ref a16) = true)
    (n17 : PySem.W.nsIn K mainGlobals "_law_bag" = some (some (.ref a17))) (l17 : K.lookup a17 = some ⟨oc17, od17, .func (PySem.W.fnOf "_law_bag" "_law_bag" (defArgs s17) (defBody s17) (defScope s17) .none kV17 dc17 pm17 an17 cd17 ct17), sl17⟩) (c17 : PySem.W.codeIn K cd17 "_law_bag" = true) (k17 : PySem.W.keepIn K (.ref a17) = true)
    (n18 : PySem.W.nsIn K mainGlobals "_law_take" = some (some (.ref a18))) (l18 : K.lookup a18 = some ⟨oc18, od18, .func (PySem.W.fnOf "_law_take" "_law_take" (defArgs s18) (defBody s18) (defScope s18) .none kV18 dc18 pm18 an18 cd18 ct18), sl18⟩) (c18 : PySem.W.codeIn K cd18 "_law_take" = true) (k18 : PySem.W.keepIn K (.ref a18) = true)
    (n19 : PySem.W.nsIn K mainGlobals "_law_alike" = some (some (.ref a19))) (l19 : K.lookup a19 = some ⟨oc19, od19, .func (PySem.W.fnOf "_law_alike" "_law_alike" (defArgs s19) (defBody s19) (defScope s19) .none kV19 dc19 pm19 an19 cd19 ct19), sl19⟩) (c19 : PySem.W.codeIn K cd19 "_law_alike" = true) (k19 : PySem.W.keepIn K (.ref a19) = true)
    (n20 : PySem.W.nsIn K mainGlobals "_law_parts" = some (some (.ref a20))) (l20 : K.lookup a20 = some ⟨oc20, od20, .func (PySem.W.fnOf "_law_parts" "_law_parts" (defArgs s20) (defBody s20) (defScope s20) .none kV20 dc20 pm20 an20 cd20 ct20), sl20⟩) (c20 : PySem.W.codeIn K cd20 "_law_parts" = true) (k20 : PySem.W.keepIn K (.ref a20) = true)
    (n21 : PySem.W.nsIn K mainGlobals "_law_number" = some (some (.ref a21))) (l21 : K.lookup a21 = some ⟨oc21, od21, .func (PySem.W.fnOf "_law_number" "_law_number" (defArgs s21) (defBody s21) (defScope s21) .none kV21 dc21 pm21 an21 cd21 ct21), sl21⟩) (c21 : PySem.W.codeIn K cd21 "_law_number" = true) (k21 : PySem.W.keepIn K (.ref a21) = true)
    (n22 : PySem.W.nsIn K mainGlobals "_law_free_terms" = some (some (.ref a22))) (l22 : K.lookup a22 = some ⟨oc22, od22, .func (PySem.W.fnOf "_law_free_terms" "_law_free_terms" (defArgs s22) (defBody s22) (defScope s22) .none kV22 dc22 pm22 an22 cd22 ct22), sl22⟩) (c22 : PySem.W.codeIn K cd22 "_law_free_terms" = true) (k22 : PySem.W.keepIn K (.ref a22) = true)
    (n23 : PySem.W.nsIn K mainGlobals "_law_kinks" = some (some (.ref a23))) (l23 : K.lookup a23 = some ⟨oc23, od23, .func (PySem.W.fnOf "_law_kinks" "_law_kinks" (defArgs s23) (defBody s23) (defScope s23) .none kV23 dc23 pm23 an23 cd23 ct23), sl23⟩) (c23 : PySem.W.codeIn K cd23 "_law_kinks" = true) (k23 : PySem.W.keepIn K (.ref a23) = true)
    (n24 : PySem.W.nsIn K mainGlobals "_law_split" = some (some (.ref a24))) (l24 : K.lookup a24 = some ⟨oc24, od24, .func (PySem.W.fnOf "_law_split" "_law_split" (defArgs s24) (defBody s24) (defScope s24) .none kV24 dc24 pm24 an24 cd24 ct24), sl24⟩) (c24 : PySem.W.codeIn K cd24 "_law_split" = true) (k24 : PySem.W.keepIn K (.ref a24) = true)
    (n25 : PySem.W.nsIn K mainGlobals "law" = some (some (.ref a25))) (l25 : K.lookup a25 = some ⟨oc25, od25, .func (PySem.W.fnOf "law" "law" (defArgs s25) (defBody s25) (defScope s25) .none kV25 dc25 pm25 an25 cd25 ct25), sl25⟩) (c25 : PySem.W.codeIn K cd25 "law" = true) (k25 : PySem.W.keepIn K (.ref a25) = true)
    (n26 : PySem.W.findIn K (.ref C) "__init__" = some (some (.ref a26))) (i26 : PySem.W.isFn K (.ref a26) = true) (l26 : K.lookup a26 = some ⟨oc26, od26, .func (PySem.W.fnOf "__init__" "Board.__init__" (defArgs s26) (defBody s26) (defScope s26) .none kV26 dc26 pm26 an26 cd26 ct26), sl26⟩) (c26 : PySem.W.codeIn K cd26 "Board.__init__" = true) (k26 : PySem.W.keepIn K (.ref a26) = true)
    (pa27 : PySem.W.findIn K (.ref C) "size" = some (some (.ref pr27))) (pt27 : PySem.W.specialIn K (.ref pr27) "__get__" = some (some (.builtin "property.__get__"))) (pk27 : PySem.W.takesIn K (.ref pr27) = some true) (pc27 : PySem.W.recIn K pr27 "property" = some (.ref a27 :: re27)) (l27 : K.lookup a27 = some ⟨oc27, od27, .func (PySem.W.fnOf "size" "Board.size" (defArgs s27) (defBody s27) (defScope s27) .none kV27 dc27 pm27 an27 cd27 ct27), sl27⟩) (c27 : PySem.W.codeIn K cd27 "Board.size" = true) (k27 : PySem.W.keepIn K (.ref a27) = true)
    (n28 : PySem.W.findIn K (.ref C) "__eq__" = some (some (.ref a28))) (i28 : PySem.W.isFn K (.ref a28) = true) (l28 : K.lookup a28 = some ⟨oc28, od28, .func (PySem.W.fnOf "__eq__" "Board.__eq__" (defArgs s28) (defBody s28) (defScope s28) .none kV28 dc28 pm28 an28 cd28 ct28), sl28⟩) (c28 : PySem.W.codeIn K cd28 "Board.__eq__" = true) (k28 : PySem.W.keepIn K (.ref a28) = true)
    (n29 : PySem.W.findIn K (.ref C) "terms" = some (some (.ref a29))) (i29 : PySem.W.isFn K (.ref a29) = true) (l29 : K.lookup a29 = some ⟨oc29, od29, .func (PySem.W.fnOf "terms" "Board.terms" (defArgs s29) (defBody s29) (defScope s29) .none kV29 dc29 pm29 an29 cd29 ct29), sl29⟩) (c29 : PySem.W.codeIn K cd29 "Board.terms" = true) (k29 : PySem.W.keepIn K (.ref a29) = true)
    (n30 : PySem.W.findIn K (.ref C) "without" = some (some (.ref a30))) (i30 : PySem.W.isFn K (.ref a30) = true) (l30 : K.lookup a30 = some ⟨oc30, od30, .func (PySem.W.fnOf "without" "Board.without" (defArgs s30) (defBody s30) (defScope s30) .none kV30 dc30 pm30 an30 cd30 ct30), sl30⟩) (c30 : PySem.W.codeIn K cd30 "Board.without" = true) (k30 : PySem.W.keepIn K (.ref a30) = true)
    (n31 : PySem.W.findIn K (.ref C) "_with_terms" = some (some (.ref a31))) (i31 : PySem.W.isFn K (.ref a31) = true) (l31 : K.lookup a31 = some ⟨oc31, od31, .func (PySem.W.fnOf "_with_terms" "Board._with_terms" (defArgs s31) (defBody s31) (defScope s31) .none kV31 dc31 pm31 an31 cd31 ct31), sl31⟩) (c31 : PySem.W.codeIn K cd31 "Board._with_terms" = true) (k31 : PySem.W.keepIn K (.ref a31) = true)
    (z_abs : PySem.W.nsIn K mainGlobals "abs" = some none)
    (z_all : PySem.W.nsIn K mainGlobals "all" = some none)
    (z_bool : PySem.W.nsIn K mainGlobals "bool" = some none)
    (z_enumerate : PySem.W.nsIn K mainGlobals "enumerate" = some none)
    (z_int : PySem.W.nsIn K mainGlobals "int" = some none)
    (z_isinstance : PySem.W.nsIn K mainGlobals "isinstance" = some none)
    (z_len : PySem.W.nsIn K mainGlobals "len" = some none)
    (z_list : PySem.W.nsIn K mainGlobals "list" = some none)
    (z_max : PySem.W.nsIn K mainGlobals "max" = some none)
    (z_min : PySem.W.nsIn K mainGlobals "min" = some none)
    (z_range : PySem.W.nsIn K mainGlobals "range" = some none)
    (z_repr : PySem.W.nsIn K mainGlobals "repr" = some none)
    (z_sorted : PySem.W.nsIn K mainGlobals "sorted" = some none)
    (z_str : PySem.W.nsIn K mainGlobals "str" = some none)
    (z_tuple : PySem.W.nsIn K mainGlobals "tuple" = some none) :
    ∃ fd : FuncData, (∀ (s : Shared) (v : Value), BindsTo s fd ⟨[v], []⟩ [("_law_script", v)]) ∧ ∀ base : Heap, K.In base → base.Ns mainGlobals mg → FnG l.prog w K mg base 8 fa fd ["_law_script"] (spLaw K) := by
  have e := hfa.symm.trans (PySem.W.mg_of X G n25)
  cases e
  have T : Txt w K mg C L (fun i => match i with
    | 0 => a0
    | 1 => a1
    | 2 => a2
    | 3 => a3
    | 4 => a4
    | 5 => a5
    | 6 => a6
    | 7 => a7
    | 8 => a8
    | 9 => a9
    | 10 => a10
    | 11 => a11
    | 12 => a12
    | 13 => a13
    | 14 => a14
    | 15 => a15
    | 16 => a16
    | 17 => a17
    | 18 => a18
    | 19 => a19
    | 20 => a20
    | 21 => a21
    | 22 => a22
    | 23 => a23
    | 24 => a24
    | 25 => fa
    | 26 => a26
    | 27 => a27
    | 28 => a28
    | 29 => a29
    | 30 => a30
    | 31 => a31
    | 1027 => pr27
    | _ => fa) (fun i => match i with
    | 0 => PySem.W.fnOf "has_other" "has_other" (defArgs s0) (defBody s0) (defScope s0) .none kV0 dc0 pm0 an0 cd0 ct0
    | 1 => PySem.W.fnOf "has_force" "has_force" (defArgs s1) (defBody s1) (defScope s1) .none kV1 dc1 pm1 an1 cd1 ct1
    | 2 => PySem.W.fnOf "dials_of" "dials_of" (defArgs s2) (defBody s2) (defScope s2) .none kV2 dc2 pm2 an2 cd2 ct2
    | 3 => PySem.W.fnOf "ends_of" "ends_of" (defArgs s3) (defBody s3) (defScope s3) .none kV3 dc3 pm3 an3 cd3 ct3
    | 4 => PySem.W.fnOf "_low_at" "_low_at" (defArgs s4) (defBody s4) (defScope s4) .none kV4 dc4 pm4 an4 cd4 ct4
    | 5 => PySem.W.fnOf "kinks" "kinks" (defArgs s5) (defBody s5) (defScope s5) .none kV5 dc5 pm5 an5 cd5 ct5
    | 6 => PySem.W.fnOf "check_free" "check_free" (defArgs s6) (defBody s6) (defScope s6) .none kV6 dc6 pm6 an6 cd6 ct6
    | 7 => PySem.W.fnOf "_places" "_places" (defArgs s7) (defBody s7) (defScope s7) .none kV7 dc7 pm7 an7 cd7 ct7
    | 8 => PySem.W.fnOf "is_integer" "is_integer" (defArgs s8) (defBody s8) (defScope s8) .none kV8 dc8 pm8 an8 cd8 ct8
    | 9 => PySem.W.fnOf "is_value" "is_value" (defArgs s9) (defBody s9) (defScope s9) .none kV9 dc9 pm9 an9 cd9 ct9
    | 10 => PySem.W.fnOf "is_force" "is_force" (defArgs s10) (defBody s10) (defScope s10) .none kV10 dc10 pm10 an10 cd10 ct10
    | 11 => PySem.W.fnOf "is_dial" "is_dial" (defArgs s11) (defBody s11) (defScope s11) .none kV11 dc11 pm11 an11 cd11 ct11
    | 12 => PySem.W.fnOf "is_term" "is_term" (defArgs s12) (defBody s12) (defScope s12) .none kV12 dc12 pm12 an12 cd12 ct12
    | 13 => PySem.W.fnOf "_word" "_word" (defArgs s13) (defBody s13) (defScope s13) .none kV13 dc13 pm13 an13 cd13 ct13
    | 14 => PySem.W.fnOf "_are_dials" "_are_dials" (defArgs s14) (defBody s14) (defScope s14) .none kV14 dc14 pm14 an14 cd14 ct14
    | 15 => PySem.W.fnOf "_are_ends" "_are_ends" (defArgs s15) (defBody s15) (defScope s15) .none kV15 dc15 pm15 an15 cd15 ct15
    | 16 => PySem.W.fnOf "_are_terms" "_are_terms" (defArgs s16) (defBody s16) (defScope s16) .none kV16 dc16 pm16 an16 cd16 ct16
    | 17 => PySem.W.fnOf "_law_bag" "_law_bag" (defArgs s17) (defBody s17) (defScope s17) .none kV17 dc17 pm17 an17 cd17 ct17
    | 18 => PySem.W.fnOf "_law_take" "_law_take" (defArgs s18) (defBody s18) (defScope s18) .none kV18 dc18 pm18 an18 cd18 ct18
    | 19 => PySem.W.fnOf "_law_alike" "_law_alike" (defArgs s19) (defBody s19) (defScope s19) .none kV19 dc19 pm19 an19 cd19 ct19
    | 20 => PySem.W.fnOf "_law_parts" "_law_parts" (defArgs s20) (defBody s20) (defScope s20) .none kV20 dc20 pm20 an20 cd20 ct20
    | 21 => PySem.W.fnOf "_law_number" "_law_number" (defArgs s21) (defBody s21) (defScope s21) .none kV21 dc21 pm21 an21 cd21 ct21
    | 22 => PySem.W.fnOf "_law_free_terms" "_law_free_terms" (defArgs s22) (defBody s22) (defScope s22) .none kV22 dc22 pm22 an22 cd22 ct22
    | 23 => PySem.W.fnOf "_law_kinks" "_law_kinks" (defArgs s23) (defBody s23) (defScope s23) .none kV23 dc23 pm23 an23 cd23 ct23
    | 24 => PySem.W.fnOf "_law_split" "_law_split" (defArgs s24) (defBody s24) (defScope s24) .none kV24 dc24 pm24 an24 cd24 ct24
    | 25 => PySem.W.fnOf "law" "law" (defArgs s25) (defBody s25) (defScope s25) .none kV25 dc25 pm25 an25 cd25 ct25
    | 26 => PySem.W.fnOf "__init__" "Board.__init__" (defArgs s26) (defBody s26) (defScope s26) .none kV26 dc26 pm26 an26 cd26 ct26
    | 27 => PySem.W.fnOf "size" "Board.size" (defArgs s27) (defBody s27) (defScope s27) .none kV27 dc27 pm27 an27 cd27 ct27
    | 28 => PySem.W.fnOf "__eq__" "Board.__eq__" (defArgs s28) (defBody s28) (defScope s28) .none kV28 dc28 pm28 an28 cd28 ct28
    | 29 => PySem.W.fnOf "terms" "Board.terms" (defArgs s29) (defBody s29) (defScope s29) .none kV29 dc29 pm29 an29 cd29 ct29
    | 30 => PySem.W.fnOf "without" "Board.without" (defArgs s30) (defBody s30) (defScope s30) .none kV30 dc30 pm30 an30 cd30 ct30
    | 31 => PySem.W.fnOf "_with_terms" "Board._with_terms" (defArgs s31) (defBody s31) (defScope s31) .none kV31 dc31 pm31 an31 cd31 ct31
    | _ => PySem.W.fnOf "law" "law" (defArgs s25) (defBody s25) (defScope s25) .none kV25 dc25 pm25 an25 cd25 ct25) := {
    cl := ⟨pg, hd, po, sa⟩
    nS := nS
    nT := nT
    mgC := PySem.W.mg_of X G aC
    isi := ⟨iA, iN, iT, iM, iK⟩
    mL := PySem.W.mg_of X G aL
    len := ⟨⟨_, _, lL, kL⟩, loL, ⟨_, w1⟩, ⟨_, w2⟩, ⟨_, w3⟩, ⟨_, w4⟩⟩
    d0 := .mk' X G n0 l0 c0 k0 (fun us hl => match us, hl with | [_], _ => rfl)
    d1 := .mk' X G n1 l1 c1 k1 (fun us hl => match us, hl with | [_], _ => rfl)
    d2 := .mk' X G n2 l2 c2 k2 (fun us hl => match us, hl with | [_], _ => rfl)
    d3 := .mk' X G n3 l3 c3 k3 (fun us hl => match us, hl with | [_], _ => rfl)
    d4 := .mk' X G n4 l4 c4 k4 (fun us hl => match us, hl with | [_], _ => rfl)
    d5 := .mk' X G n5 l5 c5 k5 (fun us hl => match us, hl with | [_], _ => rfl)
    d6 := .mk' X G n6 l6 c6 k6 (fun us hl => match us, hl with | [_], _ => rfl)
    d7 := .mk' X G n7 l7 c7 k7 (fun us hl => match us, hl with | [_], _ => rfl)
    d8 := .mk' X G n8 l8 c8 k8 (fun us hl => match us, hl with | [_], _ => rfl)
    d9 := .mk' X G n9 l9 c9 k9 (fun us hl => match us, hl with | [_], _ => rfl)
    d10 := .mk' X G n10 l10 c10 k10 (fun us hl => match us, hl with | [_], _ => rfl)
    d11 := .mk' X G n11 l11 c11 k11 (fun us hl => match us, hl with | [_, _], _ => rfl)
    d12 := .mk' X G n12 l12 c12 k12 (fun us hl => match us, hl with | [_, _], _ => rfl)
    d13 := .mk' X G n13 l13 c13 k13 (fun us hl => match us, hl with | [_], _ => rfl)
    d14 := .mk' X G n14 l14 c14 k14 (fun us hl => match us, hl with | [_, _], _ => rfl)
    d15 := .mk' X G n15 l15 c15 k15 (fun us hl => match us, hl with | [_], _ => rfl)
    d16 := .mk' X G n16 l16 c16 k16 (fun us hl => match us, hl with | [_, _], _ => rfl)
    d17 := .mk' X G n17 l17 c17 k17 (fun us hl => match us, hl with | [_], _ => rfl)
    d18 := .mk' X G n18 l18 c18 k18 (fun us hl => match us, hl with | [_, _], _ => rfl)
    d19 := .mk' X G n19 l19 c19 k19 (fun us hl => match us, hl with | [_, _], _ => rfl)
    d20 := .mk' X G n20 l20 c20 k20 (fun us hl => match us, hl with | [_], _ => rfl)
    d21 := .mk' X G n21 l21 c21 k21 (fun us hl => match us, hl with | [_, _], _ => rfl)
    d22 := .mk' X G n22 l22 c22 k22 (fun us hl => match us, hl with | [_, _, _, _], _ => rfl)
    d23 := .mk' X G n23 l23 c23 k23 (fun us hl => match us, hl with | [_], _ => rfl)
    d24 := .mk' X G n24 l24 c24 k24 (fun us hl => match us, hl with | [_, _], _ => rfl)
    d25 := .mk' X G n25 l25 c25 k25 (fun us hl => match us, hl with | [_], _ => rfl)
    i26 := fun_mk l26 c26 k26
    ib := .all (fun us hl => match us, hl with | [_, _, _], _ => rfl)
    mkC := ⟨mk, n26, i26, kc⟩
    d27 := fun_mk l27 c27 k27
    b27 := .all (fun us hl => match us, hl with | [_], _ => rfl)
    p27 := ⟨pa27, pt27, pk27, ⟨_, pc27⟩⟩
    m28 := .mk' n28 i28 l28 c28 k28 (fun us hl => match us, hl with | [_, _], _ => rfl)
    m29 := .mk' n29 i29 l29 c29 k29 (fun us hl => match us, hl with | [_], _ => rfl)
    m30 := .mk' n30 i30 l30 c30 k30 (fun us hl => match us, hl with | [_, _], _ => rfl)
    m31 := .mk' n31 i31 l31 c31 k31 (fun us hl => match us, hl with | [_, _], _ => rfl)
    b_abs := PySem.W.mg_none_of X G z_abs
    b_all := PySem.W.mg_none_of X G z_all
    b_bool := PySem.W.mg_none_of X G z_bool
    b_enumerate := PySem.W.mg_none_of X G z_enumerate
    b_int := PySem.W.mg_none_of X G z_int
    b_isinstance := PySem.W.mg_none_of X G z_isinstance
    b_len := PySem.W.mg_none_of X G z_len
    b_list := PySem.W.mg_none_of X G z_list
    b_max := PySem.W.mg_none_of X G z_max
    b_min := PySem.W.mg_none_of X G z_min
    b_range := PySem.W.mg_none_of X G z_range
    b_repr := PySem.W.mg_none_of X G z_repr
    b_sorted := PySem.W.mg_none_of X G z_sorted
    b_str := PySem.W.mg_none_of X G z_str
    b_tuple := PySem.W.mg_none_of X G z_tuple }
  exact ⟨PySem.W.fnOf "law" "law" (defArgs s25) (defBody s25) (defScope s25) .none kV25 dc25 pm25 an25 cd25 ct25, fun s v => .of_eq rfl, fun base _ _ => ok_25 T⟩
theorem walk {l : PySem.W.OpenLaw} {q : Program} {loose : List Str} {XP : (Str → Option Value) → Heap → Prop} {YP : World → Heap → Prop} {d : DefRec} {K : Params → PySem.W.Frag} (hn : l.most = some 63) (hdf : d.params.defaults = [])
    (hY : ∀ (w : World) (h : Heap), YP w h → (K w.params).In h)
    (F : ∀ (w : World) (mg : Str → Option Value) (fa : Addr) (h : Heap), (K w.params).In h → h.Ns mainGlobals mg → mg d.name = some (.ref fa) →
      ∃ fd : FuncData, (∀ (s : Shared) (u : Value), BindsTo s fd ⟨[u], []⟩ [("_law_script", u)]) ∧ ∀ base : Heap, (K w.params).In base → base.Ns mainGlobals mg → FnG l.prog w (K w.params) mg base 8 fa fd ["_law_script"] (spLaw (K w.params))) :
    PySem.W.WalkO q loose XP YP l.row.toRowW d [] (fun f vs => PySem.call f vs) :=
  walk_ofG (n := 63) (k := 8) (x := "_law_script") hn (by decide) hdf ⟨rfl, by decide, by decide⟩ hY F fun _ _ a ns hl hS => ⟨a, ns, rfl, hS, hl, fun _ => rfl⟩
end K80

open PySem PySem.W PyProof.Rows in
set_option maxRecDepth 100000 in
set_option maxHeartbeats 0 in
theorem PySem.Challenge.cw_mostpulled_k80_kinks_by_their_definition_holds : PySem.Challenge.rw_mostpulled_k80_kinks_by_their_definition.Holds := by
  w_on; o_law; k_head; (case hw => w_witness2)
  k_fill
  refine K80.walk (l := PySem.Challenge.rw_mostpulled_k80_kinks_by_their_definition) rfl rfl (fun w h Y => PySem.W.kIn_of Y) ?F
  case F =>
    intro w mg fa h KX G hmg
    refine' K80.all_mk KX G hmg ?aC ?pg ?hd ?po ?sa ?mk ?kc ?nS ?nT ?iA ?iN ?iT ?iM ?iK ?aL ?lL ?kL ?loL ?w1 ?w2 ?w3 ?w4 ?n0 ?l0 ?c0 ?k0 ?n1 ?l1 ?c1 ?k1 ?n2 ?l2 ?c2 ?k2 ?n3 ?l3 ?c3 ?k3 ?n4 ?l4 ?c4 ?k4 ?n5 ?l5 ?c5 ?k5 ?n6 ?l6 ?c6 ?k6 ?n7 ?l7 ?c7 ?k7 ?n8 ?l8 ?c8 ?k8 ?n9 ?l9 ?c9 ?k9 ?n10 ?l10 ?c10 ?k10 ?n11 ?l11 ?c11 ?k11 ?n12 ?l12 ?c12 ?k12 ?n13 ?l13 ?c13 ?k13 ?n14 ?l14 ?c14 ?k14 ?n15 ?l15 ?c15 ?k15 ?n16 ?l16 ?c16 ?k16 ?n17 ?l17 ?c17 ?k17 ?n18 ?l18 ?c18 ?k18 ?n19 ?l19 ?c19 ?k19 ?n20 ?l20 ?c20 ?k20 ?n21 ?l21 ?c21 ?k21 ?n22 ?l22 ?c22 ?k22 ?n23 ?l23 ?c23 ?k23 ?n24 ?l24 ?c24 ?k24 ?n25 ?l25 ?c25 ?k25 ?n26 ?i26 ?l26 ?c26 ?k26 ?pa27 ?pt27 ?pk27 ?pc27 ?l27 ?c27 ?k27 ?n28 ?i28 ?l28 ?c28 ?k28 ?n29 ?i29 ?l29 ?c29 ?k29 ?n30 ?i30 ?l30 ?c30 ?k30 ?n31 ?i31 ?l31 ?c31 ?k31 ?z_abs ?z_all ?z_bool ?z_enumerate ?z_int ?z_isinstance ?z_len ?z_list ?z_max ?z_min ?z_range ?z_repr ?z_sorted ?z_str ?z_tuple
    (case aC => k_is)
    (case pg => k_is)
    (case hd => k_is)
    (case po => k_is)
    (case sa => k_is)
    (case mk => k_is)
    (case kc => k_is)
    (case nS => k_is)
    (case nT => k_is)
    (case iA => k_is)
    (case iN => k_is)
    (case iT => k_is)
    (case iM => k_is)
    (case iK => exact if_pos (beq_self_eq_true _))
    (case aL => k_is)
    (case lL => k_is)
    (case kL => k_keys)
    (case loL => decide)
    (case w1 => k_is)
    (case w2 => k_is)
    (case w3 => k_is)
    (case w4 => k_is)
    (case n0 => k_is)
    (case l0 => k_is)
    (case c0 => k_is)
    (case k0 => k_is)
    (case n1 => k_is)
    (case l1 => k_is)
    (case c1 => k_is)
    (case k1 => k_is)
    (case n2 => k_is)
    (case l2 => k_is)
    (case c2 => k_is)
    (case k2 => k_is)
    (case n3 => k_is)
    (case l3 => k_is)
    (case c3 => k_is)
    (case k3 => k_is)
    (case n4 => k_is)
    (case l4 => k_is)
    (case c4 => k_is)
    (case k4 => k_is)
    (case n5 => k_is)
    (case l5 => k_is)
    (case c5 => k_is)
    (case k5 => k_is)
    (case n6 => k_is)
    (case l6 => k_is)
    (case c6 => k_is)
    (case k6 => k_is)
    (case n7 => k_is)
    (case l7 => k_is)
    (case c7 => k_is)
    (case k7 => k_is)
    (case n8 => k_is)
    (case l8 => k_is)
    (case c8 => k_is)
    (case k8 => k_is)
    (case n9 => k_is)
    (case l9 => k_is)
    (case c9 => k_is)
    (case k9 => k_is)
    (case n10 => k_is)
    (case l10 => k_is)
    (case c10 => k_is)
    (case k10 => k_is)
    (case n11 => k_is)
    (case l11 => k_is)
    (case c11 => k_is)
    (case k11 => k_is)
    (case n12 => k_is)
    (case l12 => k_is)
    (case c12 => k_is)
    (case k12 => k_is)
    (case n13 => k_is)
    (case l13 => k_is)
    (case c13 => k_is)
    (case k13 => k_is)
    (case n14 => k_is)
    (case l14 => k_is)
    (case c14 => k_is)
    (case k14 => k_is)
    (case n15 => k_is)
    (case l15 => k_is)
    (case c15 => k_is)
    (case k15 => k_is)
    (case n16 => k_is)
    (case l16 => k_is)
    (case c16 => k_is)
    (case k16 => k_is)
    (case n17 => k_is)
    (case l17 => k_is)
    (case c17 => k_is)
    (case k17 => k_is)
    (case n18 => k_is)
    (case l18 => k_is)
    (case c18 => k_is)
    (case k18 => k_is)
    (case n19 => k_is)
    (case l19 => k_is)
    (case c19 => k_is)
    (case k19 => k_is)
    (case n20 => k_is)
    (case l20 => k_is)
    (case c20 => k_is)
    (case k20 => k_is)
    (case n21 => k_is)
    (case l21 => k_is)
    (case c21 => k_is)
    (case k21 => k_is)
    (case n22 => k_is)
    (case l22 => k_is)
    (case c22 => k_is)
    (case k22 => k_is)
    (case n23 => k_is)
    (case l23 => k_is)
    (case c23 => k_is)
    (case k23 => k_is)
    (case n24 => k_is)
    (case l24 => k_is)
    (case c24 => k_is)
    (case k24 => k_is)
    (case n25 => k_is)
    (case l25 => k_is)
    (case c25 => k_is)
    (case k25 => k_is)
    (case n26 => k_is)
    (case i26 => k_is)
    (case l26 => k_is)
    (case c26 => k_is)
    (case k26 => k_is)
    (case pa27 => k_is)
    (case pt27 => k_is)
    (case pk27 => k_is)
    (case pc27 => k_is)
    (case l27 => k_is)
    (case c27 => k_is)
    (case k27 => k_is)
    (case n28 => k_is)
    (case i28 => k_is)
    (case l28 => k_is)
    (case c28 => k_is)
    (case k28 => k_is)
    (case n29 => k_is)
    (case i29 => k_is)
    (case l29 => k_is)
    (case c29 => k_is)
    (case k29 => k_is)
    (case n30 => k_is)
    (case i30 => k_is)
    (case l30 => k_is)
    (case c30 => k_is)
    (case k30 => k_is)
    (case n31 => k_is)
    (case i31 => k_is)
    (case l31 => k_is)
    (case c31 => k_is)
    (case k31 => k_is)
    (case z_abs => k_is)
    (case z_all => k_is)
    (case z_bool => k_is)
    (case z_enumerate => k_is)
    (case z_int => k_is)
    (case z_isinstance => k_is)
    (case z_len => k_is)
    (case z_list => k_is)
    (case z_max => k_is)
    (case z_min => k_is)
    (case z_range => k_is)
    (case z_repr => k_is)
    (case z_sorted => k_is)
    (case z_str => k_is)
    (case z_tuple => k_is)

