import PyProof.Rows.All
import Wide.All
import OpenK.AllK
import Wide.FinOn
import HandS.ForMost
import HandS.ForExc
import HandS.IsInst
import KE.DataEq
import HandS.TupAny
import PyProof.ReprReads
import HandS.More
import PyProof.StrLawsRepr
import PyProof.FitsInt
import HandS.NoneIn
import HandS.Wide
import KE.KExcSuper
import HandS.ExcInit
import HandS.ExcCtx
import HandS.ExcIs
import HandS.ExcField
import KE.KExcIs
import PyProof.ReprRoads
import HandS.Style
import HandS.WideBits
import KE.SortData
import HandS.Property
import HandS.MakeKwOnly
import HandS.Star
import HandS.Iter
import HandS.Walk
import KE.GoesEnum
import HandS.ClsMeth
import HandS.ExcOwn
import HandS.Defaults
import HandS.SortKw
import KE.DatumOrd
import HandS.TupSets
import KE.KDictCopyH
import KE.KDictSum
import HandS.SetFor
import HandS.Strs
import HandS.Zip
import KE.DataCmp
import HandS.SetTxt0
import HandS.Set
import PyProof.Rows.SortShellAny
import KE.KStar
import HandS.Text
import PySem.Challenge.RW_grantroll_k70_small_later_grants
set_option Elab.async false
set_option linter.all false
set_option maxRecDepth 100000
set_option maxHeartbeats 4000000
/-! DS0: values as data (PyData), a def's frame as slots of data, what a piece of the text does to them. -/
namespace DS
open PySem L2
abbrev D := PyData
abbrev Fg := PySem.W.Frag

/-- the text's own classes by number: where the class stands, its instances' fields in order -/
structure Cl where
  adr : Nat → Option Addr
  flds : Nat → List Str

mutual
/-- the value v, in the heap A, is the data d -/
inductive DR (K : Fg) (cl : Cl) (A : Hp) : V → D → Prop
  | non : DR K cl A .non .none
  | bl (b : Bool) : DR K cl A (.bl b) (.bool b)
  | int (i : Int) : DR K cl A (.int i) (.int i)
  | str (x : Str) : DR K cl A (.str x) (.str x)
  | lst {a : Addr} {xs : List V} {ds : List D} : A a = some (.lst xs) → DRs K cl A xs ds → DR K cl A (.ref a) (.list ds)
  | tup {a : Addr} {xs : List V} {ds : List D} : SqT K A a xs → DRs K cl A xs ds → (tr : xs ≠ [] → A a = some (.tup xs) := by exact fun _ => upd_same) → DR K cl A (.ref a) (.tuple ds)
  | ins {n : Nat} {C a dx : Addr} {vs : List V} {ds : List D} : cl.adr n = some C → A a = some (.ins C dx ((cl.flds n).zip vs)) → vs.length = (cl.flds n).length → DRs K cl A vs ds →
      DR K cl A (.ref a) (.dict [(.int n, .tuple ds)])
inductive DRs (K : Fg) (cl : Cl) (A : Hp) : List V → List D → Prop
  | nil : DRs K cl A [] []
  | cons {v : V} {vs : List V} {d : D} {ds : List D} : DR K cl A v d → DRs K cl A vs ds → DRs K cl A (v :: vs) (d :: ds)
end
section
variable {K : Fg} {cl : Cl} {A A' : Hp}
theorem sqt_same {a : Addr} {xs : List V} (e : Same A A') (h : SqT K A a xs) : SqT K A' a xs := by
  rcases h with (h | ⟨o, h⟩) | h
  · exact .inl (.inl (e _ _ h))
  · exact .inl (.inr ⟨o, e _ _ h⟩)
  · exact .inr h
mutual
theorem DR.mono (e : Same A A') : ∀ {v : V} {d : D}, DR K cl A v d → DR K cl A' v d
  | _, _, .non => .non
  | _, _, .bl b => .bl b
  | _, _, .int i => .int i
  | _, _, .str x => .str x
  | _, _, .lst h t => .lst (e _ _ h) (DRs.mono e t)
  | _, _, .tup h t tr => .tup (sqt_same e h) (DRs.mono e t) fun z => e _ _ (tr z)
  | _, _, .ins h1 h2 h3 t => .ins h1 (e _ _ h2) h3 (DRs.mono e t)
theorem DRs.mono (e : Same A A') : ∀ {vs : List V} {ds : List D}, DRs K cl A vs ds → DRs K cl A' vs ds
  | _, _, .nil => .nil
  | _, _, .cons h t => .cons (DR.mono e h) (DRs.mono e t)
end
mutual
theorem DR.dp : ∀ {v : V} {d : D}, DR K cl A v d → d.plain = true → Dp K A v d
  | _, _, .non, _ => .non
  | _, _, .bl b, _ => .bl b
  | _, _, .int i, _ => .int i
  | _, _, .str x, _ => .str x
  | _, _, .lst h t, c => .lst (SqL.of h) (DRs.dp t (by simpa [PyData.plain] using c))
  | _, _, .tup h t _, c => .tup h (DRs.dp t (by simpa [PyData.plain] using c))
  | _, _, .ins _ _ _ _, c => by simp [PyData.plain] at c
theorem DRs.dp : ∀ {vs : List V} {ds : List D}, DRs K cl A vs ds → PyData.plainAll ds = true → DpAll K A vs ds
  | _, _, .nil, _ => .nil
  | _, _, .cons h t, c => by
    have c' := c
    simp only [PyData.plainAll, Bool.and_eq_true] at c'
    exact .cons (DR.dp h c'.1) (DRs.dp t c'.2)
end
theorem DRs.length : ∀ {vs : List V} {ds : List D}, DRs K cl A vs ds → vs.length = ds.length
  | _, _, .nil => rfl
  | _, _, .cons _ t => congrArg (· + 1) (DRs.length t)
theorem DRs.get : ∀ {vs : List V} {ds : List D} {i : Nat} {v : V}, DRs K cl A vs ds → vs[i]? = some v → ∃ d, ds[i]? = some d ∧ DR K cl A v d
  | _, _, i, v, .nil, e => by simp at e
  | _, _, 0, v, .cons h _, e => by simp at e; subst e; exact ⟨_, rfl, h⟩
  | _, _, i + 1, v, .cons _ t, e => by
    obtain ⟨d, h1, h2⟩ := DRs.get (i := i) t (by simpa using e)
    exact ⟨d, by simpa using h1, h2⟩
theorem DRs.getV : ∀ {vs : List V} {ds : List D} {i : Nat} {d : D}, DRs K cl A vs ds → ds[i]? = some d → ∃ v, vs[i]? = some v ∧ DR K cl A v d
  | _, _, i, v, .nil, e => by simp at e
  | _, _, 0, v, .cons h _, e => by simp at e; subst e; exact ⟨_, rfl, h⟩
  | _, _, i + 1, v, .cons _ t, e => by
    obtain ⟨d, h1, h2⟩ := DRs.getV (i := i) t (by simpa using e)
    exact ⟨d, by simpa using h1, h2⟩
theorem DRs.append : ∀ {vs ws : List V} {ds es : List D}, DRs K cl A vs ds → DRs K cl A ws es → DRs K cl A (vs ++ ws) (ds ++ es)
  | _, _, _, _, .nil, s => s
  | _, _, _, _, .cons h t, s => .cons h (DRs.append t s)
theorem DRs.take : ∀ {vs : List V} {ds : List D} (n : Nat), DRs K cl A vs ds → DRs K cl A (vs.take n) (ds.take n)
  | _, _, 0, _ => by simpa using DRs.nil
  | _, _, n + 1, .nil => by simpa using DRs.nil
  | _, _, n + 1, .cons h t => by simpa using DRs.cons h (DRs.take n t)
theorem DRs.drop : ∀ {vs : List V} {ds : List D} (n : Nat), DRs K cl A vs ds → DRs K cl A (vs.drop n) (ds.drop n)
  | _, _, 0, s => by simpa using s
  | _, _, n + 1, .nil => by simpa using DRs.nil
  | _, _, n + 1, .cons h t => by simpa using DRs.drop n t
theorem DRs.set : ∀ {vs : List V} {ds : List D} (n : Nat) {v : V} {d : D}, DR K cl A v d → DRs K cl A vs ds → DRs K cl A (vs.set n v) (ds.set n d)
  | _, _, _, _, _, h, .nil => .nil
  | _, _, 0, _, _, h, .cons _ t => .cons h t
  | _, _, n + 1, _, _, h, .cons g t => .cons g (DRs.set n h t)
theorem DRs.ints : ∀ {vs : List V} {ns : List Int}, vs = ns.map V.int → DRs K cl A vs (ns.map PyData.int)
  | _, [], e => by subst e; exact .nil
  | _, n :: r, e => by subst e; exact .cons (.int n) (DRs.ints rfl)
end

/-! ### the script's source: a list [cells, turn] -/
abbrev Sc := Option (Addr × Addr)
def inS (sc : Sc) (a : Addr) : Prop := match sc with
  | none => False
  | some p => a = p.1 ∨ a = p.2
instance (sc : Sc) (a : Addr) : Decidable (inS sc a) := by unfold inS; cases sc <;> infer_instance
/-- all that was tracked stands, the source apart -/
def Ext (sc : Sc) (H H' : Hp) : Prop := ∀ a o, ¬ inS sc a → H a = some o → H' a = some o
theorem Ext.refl (sc : Sc) (H : Hp) : Ext sc H H := fun _ _ _ h => h
theorem Ext.trans {sc : Sc} {H H1 H2 : Hp} (a : Ext sc H H1) (b : Ext sc H1 H2) : Ext sc H H2 := fun x o n h => b x o n (a x o n h)
theorem Ext.new {sc : Sc} {H : Hp} {p : Addr} {o : HO} (h : H p = none) : Ext sc H (upd H p o) := fun a u _ e => by
  rw [upd_ne (ne_of_none e h)]; exact e
def hid (sc : Sc) (H : Hp) : Hp := fun a => if inS sc a then none else H a
theorem hid_of {sc : Sc} {H : Hp} {a : Addr} (h : ¬ inS sc a) : hid sc H a = H a := by unfold hid; rw [if_neg h]
theorem hid_sub {sc : Sc} {H : Hp} : Same (hid sc H) H := fun a o e => by
  unfold hid at e; split at e
  · cases e
  · exact e
theorem Ext.hid {sc : Sc} {H H' : Hp} (e : Ext sc H H') : Same (hid sc H) (hid sc H') := fun a o q => by
  unfold DS.hid at q ⊢
  split at q
  · cases q
  · rename_i n; rw [if_neg n]; exact e a o n q
/-- a cell of the source: not too great -/
def cellOk (z : Int) : Prop := -(10 ^ 18) < z ∧ z < (10 ^ 60) ^ 20
/-- the source with n draws left at least -/
def SrcOk (sc : Sc) (H : Hp) (n : Nat) : Prop := match sc with
  | none => True
  | some (s, c) => s ≠ c ∧ ∃ (ns : List Int) (t : Nat), H s = some (.lst [.ref c, .int t]) ∧ H c = some (.lst (ns.map V.int)) ∧ 0 < ns.length ∧ ns.length ≤ 63 ∧ (∀ z ∈ ns, cellOk z) ∧ t + n ≤ 2 ^ 60

/-! ### slots -/
/-- an error of the text's own classes: the class by number, the field where it has one -/
structure Er where
  c : Nat
  f : List D
/-- at a: an error of the class cls, its dict (d | none) -/
def hldO (a : Addr) (cls : Value) (d : Option Addr) : HO := .ext fun h => ∃ (o : Obj) (vs : Array Value), h.get? a = some o ∧ o.cls = cls ∧ o.dict = d ∧ o.data = .fields vs
inductive Sl where
  | no
  | dat (d : D)
  | own (ds : List D)
  | src
  | bld (x : Addr) (n : Nat) (ds : List D)
  | dic (lk : Bool) (es : List (Key × D))
  | dit (lk : Bool) (es : List (List Key × D))
  | hld (er : Er)
  | bor (ds : List D)
/-- a thing of the frame's own, that may change -/
def isOw : Sl → Bool
  | .own _ => true
  | .dic _ _ => true
  | .dit _ _ => true
  | _ => false
/-- how such a thing stands in the heap -/
inductive OwO : HO → Prop
  | lst (xs : List V) : OwO (.lst xs)
  | dK (kvs : List (Key × V)) : OwO (.dK kvs)
  | dT (kvs : List (List Key × V)) : OwO (.dT kvs)
  | frz (o : Obj) (u : HO) : OwO (.frz o u)
/-- u stands at p, or u locked -/
inductive AtL (H : Hp) : Bool → Addr → HO → Prop
  | no {p : Addr} {u : HO} (h : H p = some u) : AtL H false p u
  | lk {p : Addr} {u : HO} {o : Obj} (h : H p = some (.frz o u)) : AtL H true p u
theorem AtL.ex {H : Hp} {lk : Bool} {p : Addr} {u : HO} (h : AtL H lk p u) : ∃ o, H p = some o := by
  cases h with
  | no h => exact ⟨_, h⟩
  | lk h => exact ⟨_, h⟩
theorem AtL.rd {H : Hp} {lk : Bool} {p : Addr} {u : HO} (h : AtL H lk p u) : Rd H p u := by
  cases h with
  | no h => exact .inl h
  | lk h => exact .inr ⟨_, h⟩
theorem AtL.same {H H' : Hp} {lk : Bool} {p : Addr} {u : HO} (h : AtL H lk p u) (e : ∀ o, H p = some o → H' p = some o) : AtL H' lk p u := by
  cases h with
  | no h => exact .no (e _ h)
  | lk h => exact .lk (e _ h)
theorem AtL.ow {H : Hp} {lk : Bool} {p : Addr} {u o : HO} (h : AtL H lk p u) (hu : OwO u) (e : H p = some o) : OwO o := by
  cases h with
  | no h => rw [h] at e; cases e; exact hu
  | lk h => rw [h] at e; cases e; exact .frz _ _
theorem AtL.ntup {H : Hp} {lk : Bool} {p : Addr} {u o : HO} (h : AtL H lk p u) (hu : ∀ xs, u ≠ .tup xs) (e : H p = some o) : ∀ xs, o ≠ .tup xs := by
  cases h with
  | no h => rw [h] at e; cases e; exact hu
  | lk h => rw [h] at e; cases e; intro _ z; cases z
/-- an own dict's entries -/
abbrev DVs {κ : Type} (K : Fg) (cl : Cl) (B : Hp) : List (κ × V) → List (κ × D) → Prop := Paired fun a b => a.1 = b.1 ∧ DR K cl B a.2 b.2
theorem DVs.mono {κ : Type} {K : Fg} {cl : Cl} {B B' : Hp} {kvs : List (κ × V)} {es : List (κ × D)} (h : DVs K cl B kvs es) (e : Same B B') : DVs K cl B' kvs es := Paired.mapP h fun _ _ q => ⟨q.1, q.2.mono e⟩
inductive SlR (K : Fg) (cl : Cl) (sc : Sc) (H0 B H : Hp) : Option V → Sl → Prop
  | no (v : Option V) : SlR K cl sc H0 B H v .no
  | dat {v : V} {d : D} (h : DR K cl B v d) : SlR K cl sc H0 B H (some v) (.dat d)
  | own {p : Addr} {vs : List V} {ds : List D} (h0 : H0 p = none) (hB : B p = none) (hs : ¬ inS sc p) (h : H p = some (.lst vs)) (r : DRs K cl B vs ds) : SlR K cl sc H0 B H (some (.ref p)) (.own ds)
  | src {s c : Addr} (h : sc = some (s, c)) : SlR K cl sc H0 B H (some (.ref s)) .src
  /-- an object under way: its first fields are set -/
  | bld {x Ad dx : Addr} {n : Nat} {vs : List V} {ds : List D} (hA : cl.adr n = some Ad) (h0 : H0 x = none) (hB : B x = none) (hs : ¬ inS sc x) (h : H x = some (.ins Ad dx ((cl.flds n).zip vs))) (r : DRs K cl B vs ds) : SlR K cl sc H0 B H (some (.ref x)) (.bld x n ds)
  /-- an own dict -/
  | dic {p : Addr} {lk : Bool} {kvs : List (Key × V)} {es : List (Key × D)} (h0 : H0 p = none) (hB : B p = none) (hs : ¬ inS sc p) (h : AtL H lk p (.dK kvs)) (r : DVs K cl B kvs es) : SlR K cl sc H0 B H (some (.ref p)) (.dic lk es)
  | dit {p : Addr} {lk : Bool} {kvs : List (List Key × V)} {es : List (List Key × D)} (h0 : H0 p = none) (hB : B p = none) (hs : ¬ inS sc p) (h : AtL H lk p (.dT kvs)) (r : DVs K cl B kvs es) : SlR K cl sc H0 B H (some (.ref p)) (.dit lk es)
  /-- an error that was caught -/
  | hld {a A : Addr} {d : Option Addr} {er : Er} (hA : cl.adr er.c = some A) (hs : ¬ inS sc a) (h : H a = some (hldO a (.ref A) d)) (hd : (er.f = [] ∧ d = none) ∨ ∃ x dd v f, er.f = [x] ∧ d = some dd ∧ cl.flds er.c = [f] ∧ ¬ inS sc dd ∧ H dd = some (.xd [(f, v)]) ∧ DR K cl B v x) : SlR K cl sc H0 B H (some (.ref a)) (.hld er)
  /-- a caller's list, read only -/
  | bor {p : Addr} {vs : List V} {ds : List D} (h0 : H0 p ≠ none) (hs : ¬ inS sc p) (h : H p = some (.lst vs)) (r : DRs K cl B vs ds) : SlR K cl sc H0 B H (some (.ref p)) (.bor ds)
/-- where a thing of one's own stands -/
theorem SlR.ow {K : Fg} {cl : Cl} {sc : Sc} {H0 B H : Hp} {v : Option V} {a : Sl} (h : SlR K cl sc H0 B H v a) (w : isOw a = true) : ∃ p o, v = some (.ref p) ∧ H0 p = none ∧ B p = none ∧ ¬ inS sc p ∧ H p = some o ∧ OwO o := by
  cases h with
  | no => cases w
  | dat => cases w
  | src => cases w
  | bld => cases w
  | hld => cases w
  | bor => cases w
  | own h0 hB hs h r => exact ⟨_, _, rfl, h0, hB, hs, h, .lst _⟩
  | dic h0 hB hs h r =>
    obtain ⟨o, e⟩ := h.ex
    exact ⟨_, o, rfl, h0, hB, hs, e, h.ow (.dK _) e⟩
  | dit h0 hB hs h r =>
    obtain ⟨o, e⟩ := h.ex
    exact ⟨_, o, rfl, h0, hB, hs, e, h.ow (.dT _) e⟩

/-- what is fixed through a def: the written part, the classes, the source, the heap at the entry and its settled part, the wish of exceptions -/
structure Cn where
  K : Fg
  cl : Cl
  sc : Sc
  H0 : Hp
  B0 : Hp
  E : XK
/-- from (B, H) to (B', H'): settled things stay settled, all stands but the source -/
structure Stp (sc : Sc) (B H B' H' : Hp) : Prop where
  sub : Same B' H'
  old : Same B B'
  new : ∀ p o, H p = some o → (∀ xs, o ≠ .tup xs) → B' p = B p
  nos : ∀ a, inS sc a → B' a = none
  ext : Ext sc H H'
structure Fr (C : Cn) (B : Hp) (σ : St) (H : Hp) (ρ : List Sl) (n : Nat) : Prop where
  sub : Same B H
  old : Same C.B0 B
  new : ∀ p o, C.H0 p = some o → (∀ xs, o ≠ .tup xs) → B p = C.B0 p
  nos : ∀ a, inS C.sc a → B a = none
  ext : Ext C.sc C.H0 H
  src : SrcOk C.sc H n
  slo : Paired (SlR C.K C.cl C.sc C.H0 B H) σ ρ
  dis : ∀ (i j : Nat) (p : Addr) (a b : Sl), σ[i]? = some (some (.ref p)) → σ[j]? = some (some (.ref p)) → ρ[i]? = some a → ρ[j]? = some b → isOw a = true → isOw b = true → i = j
section
variable {sc : Sc} {B H B1 H1 B2 H2 B' H' : Hp}
theorem Stp.refl (h : Same B H) (n : ∀ a, inS sc a → B a = none) : Stp sc B H B H := ⟨h, Same.refl _, fun _ _ _ _ => rfl, n, Ext.refl _ _⟩
theorem Stp.trans (a : Stp sc B H B1 H1) (b : Stp sc B1 H1 B2 H2) : Stp sc B H B2 H2 where
  sub := b.sub
  old := a.old.trans b.old
  new := fun p o q nt => by
    by_cases hs : inS sc p
    · rw [b.nos p hs]
      have := a.new p o q nt
      rw [a.nos p hs] at this
      exact this
    · rw [b.new p o (a.ext p o hs q) nt, a.new p o q nt]
  nos := b.nos
  ext := a.ext.trans b.ext
/-- a new object p is laid in H alone -/
theorem Stp.lay {p : Addr} {o : HO} (a : Stp sc B H B1 H1) (hp : H1 p = none) : Stp sc B H B1 (upd H1 p o) where
  sub := fun x u e => by rw [upd_ne (ne_of_none (a.sub x u e) hp)]; exact a.sub x u e
  old := a.old
  new := a.new
  nos := a.nos
  ext := a.ext.trans (Ext.new hp)
/-- .. and settled -/
theorem Stp.settle {p : Addr} {o : HO} (a : Stp sc B H B1 H1) (hp : H p = none) (h1 : H1 p = some o) (hb : B1 p = none) (hs : ¬ inS sc p) : Stp sc B H (upd B1 p o) H1 where
  sub := fun x u e => by
    by_cases hx : x = p
    · subst hx; rw [upd_same] at e; cases e; exact h1
    · rw [upd_ne hx] at e; exact a.sub x u e
  old := fun x u e => by rw [upd_ne (ne_of_none (a.old x u e) hb)]; exact a.old x u e
  new := fun x o' q nt => by
    have hx : x ≠ p := fun z => by rw [z, hp] at q; cases q
    rw [upd_ne hx]; exact a.new x o' q nt
  nos := fun x q => by
    have hx : x ≠ p := fun z => hs (z ▸ q)
    rw [upd_ne hx]; exact a.nos x q
  ext := a.ext
/-- a tuple may be settled at any time -/
theorem Stp.settleT {p : Addr} {xs : List V} (a : Stp sc B H B1 H1) (h1 : H1 p = some (.tup xs)) (hs : ¬ inS sc p) : Stp sc B H (upd B1 p (.tup xs)) H1 where
  sub := fun x u e => by
    by_cases hx : x = p
    · subst hx; rw [upd_same] at e; cases e; exact h1
    · rw [upd_ne hx] at e; exact a.sub x u e
  old := fun x u e => by
    by_cases hx : x = p
    · subst hx
      have := a.sub x u (a.old x u e)
      rw [h1] at this; cases this
      exact upd_same
    · rw [upd_ne hx]; exact a.old x u e
  new := fun x o' q nt => by
    have hx : x ≠ p := fun z => by
      rw [z] at q
      have := a.ext p o' hs q
      rw [h1] at this; cases this
      exact nt _ rfl
    rw [upd_ne hx]; exact a.new x o' q nt
  nos := fun x q => by
    have hx : x ≠ p := fun z => hs (z ▸ q)
    rw [upd_ne hx]; exact a.nos x q
  ext := a.ext
theorem same_settleT {p : Addr} {xs : List V} (a : Stp sc B H B1 H1) (h1 : H1 p = some (.tup xs)) : Same B1 (upd B1 p (.tup xs)) := fun x u e => by
  by_cases hx : x = p
  · subst hx
    have := a.sub x u e
    rw [h1] at this; cases this
    exact upd_same
  · rw [upd_ne hx]; exact e
theorem same_upd {p : Addr} {o : HO} (hb : B p = none) : Same B (upd B p o) := fun x u e => by rw [upd_ne (ne_of_none e hb)]; exact e
theorem Stp.hid (a : Stp sc B H B1 H1) : Same B1 (DS.hid sc H1) := fun x o e => by
  have hs : ¬ inS sc x := fun z => by rw [a.nos x z] at e; cases e
  rw [hid_of hs]; exact a.sub x o e
/-- the source stands in H: what is new is not of it -/
theorem src_in {n : Nat} (h : SrcOk sc H n) : ∀ a, inS sc a → H a ≠ none := fun a q => by
  unfold SrcOk at h
  unfold inS at q
  cases sc with
  | none => exact q.elim
  | some p =>
    obtain ⟨s, c⟩ := p
    obtain ⟨_, ns, t, h1, h2, _⟩ := h
    rcases q with q | q
    · have e : a = s := q
      subst e; rw [h1]; exact fun z => by cases z
    · have e : a = c := q
      subst e; rw [h2]; exact fun z => by cases z
theorem src_new {n : Nat} {p : Addr} (h : SrcOk sc H n) (hp : H p = none) : ¬ inS sc p := fun q => src_in h p q hp
theorem src_lay {n : Nat} {p : Addr} {o : HO} (h : SrcOk sc H n) (hp : H p = none) : SrcOk sc (upd H p o) n := by
  have f := src_new h hp
  unfold SrcOk at h ⊢
  cases sc with
  | none => trivial
  | some q =>
    obtain ⟨s, c⟩ := q
    obtain ⟨a0, ns, t, h1, h2, r⟩ := h
    exact ⟨a0, ns, t, by rw [upd_ne (ne_of_none h1 hp)]; exact h1, by rw [upd_ne (ne_of_none h2 hp)]; exact h2, r⟩
theorem src_less {n m : Nat} (h : SrcOk sc H n) (l : m ≤ n) : SrcOk sc H m := by
  unfold SrcOk at h ⊢
  cases sc with
  | none => trivial
  | some q =>
    obtain ⟨s, c⟩ := q
    obtain ⟨a0, ns, t, h1, h2, h3, h4, h5, h6⟩ := h
    exact ⟨a0, ns, t, h1, h2, h3, h4, h5, by omega⟩
theorem paired_mono {α β : Type} {F G : α → β → Prop} (f : ∀ a b, F a b → G a b) {l : List α} {r : List β} (p : Paired F l r) : Paired G l r := Paired.mapP p f
theorem SlR.step {K : Fg} {cl : Cl} {H0 : Hp} {v : Option V} {x : Sl} (h : SlR K cl sc H0 B H v x) (s : Stp sc B H B' H') : SlR K cl sc H0 B' H' v x := by
  cases h with
  | no v => exact .no v
  | dat h => exact .dat (h.mono s.old)
  | own h0 hB hs h r => exact .own h0 (by rw [s.new _ _ h (fun _ z => by cases z)]; exact hB) hs (s.ext _ _ hs h) (r.mono s.old)
  | src h => exact .src h
  | bld hA h0 hB hs h r => exact .bld hA h0 (by rw [s.new _ _ h (fun _ z => by cases z)]; exact hB) hs (s.ext _ _ hs h) (r.mono s.old)
  | dic h0 hB hs h r =>
    obtain ⟨o, e⟩ := h.ex
    exact .dic h0 (by rw [s.new _ _ e (h.ntup (fun _ z => by cases z) e)]; exact hB) hs (h.same fun o q => s.ext _ o hs q) (r.mono s.old)
  | bor h0 hs h r => exact .bor h0 hs (s.ext _ _ hs h) (r.mono s.old)
  | hld hA hs h hd =>
    refine .hld hA hs (s.ext _ _ hs h) ?_
    rcases hd with z | ⟨x, dd, v, f, e1, e2, e3, e4, e5, e6⟩
    · exact .inl z
    · exact .inr ⟨x, dd, v, f, e1, e2, e3, e4, s.ext _ _ e4 e5, e6.mono s.old⟩
  | dit h0 hB hs h r =>
    obtain ⟨o, e⟩ := h.ex
    exact .dit h0 (by rw [s.new _ _ e (h.ntup (fun _ z => by cases z) e)]; exact hB) hs (h.same fun o q => s.ext _ o hs q) (r.mono s.old)
theorem Fr.step {C : Cn} {σ : St} {ρ : List Sl} {n n' : Nat} (F : Fr C B σ H ρ n) (s : Stp C.sc B H B' H') (k : SrcOk C.sc H' n') : Fr C B' σ H' ρ n' where
  sub := s.sub
  old := F.old.trans s.old
  new := fun p o q nt => by
    by_cases hs : inS C.sc p
    · rw [s.nos p hs, ← F.new p o q nt, F.nos p hs]
    · rw [s.new p o (F.ext p o hs q) nt, F.new p o q nt]
  nos := s.nos
  ext := F.ext.trans s.ext
  src := k
  slo := Paired.mapP F.slo fun a b h => h.step s
  dis := F.dis
theorem Fr.self {C : Cn} {σ : St} {ρ : List Sl} {n : Nat} (F : Fr C B σ H ρ n) : Stp C.sc B H B H := Stp.refl F.sub F.nos
/-- from the entry -/
theorem Fr.entry {C : Cn} {σ : St} {ρ : List Sl} {n : Nat} (F : Fr C B σ H ρ n) : Stp C.sc C.B0 C.H0 B H := ⟨F.sub, F.old, F.new, F.nos, F.ext⟩
end
theorem paired_get {α β : Type} {F : α → β → Prop} : ∀ {l : List α} {r : List β} {i : Nat} {b : β}, Paired F l r → r[i]? = some b → ∃ a, l[i]? = some a ∧ F a b
  | _, _, _, _, .nil, e => by simp at e
  | _, _, 0, _, .cons h _, e => by simp at e; subst e; exact ⟨_, rfl, h⟩
  | _, _, i + 1, b, .cons _ t, e => by
    obtain ⟨a, h1, h2⟩ := paired_get (i := i) (b := b) t (by simpa using e)
    exact ⟨a, by simpa using h1, h2⟩
theorem paired_set {α β : Type} {F : α → β → Prop} {a : α} {b : β} (h : F a b) : ∀ {l : List α} {r : List β} (i : Nat), Paired F l r → Paired F (l.set i a) (r.set i b)
  | _, _, _, .nil => .nil
  | _, _, 0, .cons _ t => .cons h t
  | _, _, i + 1, .cons g t => .cons g (paired_set h i t)
theorem paired_len {α β : Type} {F : α → β → Prop} : ∀ {l : List α} {r : List β}, Paired F l r → l.length = r.length
  | _, _, .nil => rfl
  | _, _, .cons _ t => congrArg (· + 1) (paired_len t)

theorem paired_at {α β : Type} {F : α → β → Prop} {l : List α} {r : List β} {i : Nat} {a : α} {b : β} (p : Paired F l r) (h1 : l[i]? = some a) (h2 : r[i]? = some b) : F a b := by
  obtain ⟨x, e1, e2⟩ := paired_get p h2
  rw [h1] at e1; cases e1; exact e2
theorem paired_ix {α β : Type} {F : α → β → Prop} : ∀ {l : List α} {r : List β}, l.length = r.length → (∀ (j : Nat) a b, l[j]? = some a → r[j]? = some b → F a b) → Paired F l r
  | [], [], _, _ => .nil
  | a :: l, b :: r, e, h => .cons (h 0 a b rfl rfl) (paired_ix (by simpa using e) fun j x y h1 h2 => h (j + 1) x y (by simpa using h1) (by simpa using h2))
abbrev Dis (σ : St) (ρ : List Sl) : Prop := ∀ (i j : Nat) (p : Addr) (a b : Sl), σ[i]? = some (some (.ref p)) → σ[j]? = some (some (.ref p)) → ρ[i]? = some a → ρ[j]? = some b → isOw a = true → isOw b = true → i = j
theorem set_at {α : Type} {l : List α} {i j : Nat} {x y : α} (h : (l.set i x)[j]? = some y) : (j = i ∧ y = x) ∨ (j ≠ i ∧ l[j]? = some y) := by
  by_cases e : j = i
  · subst e
    by_cases hl : j < l.length
    · rw [List.getElem?_set_self hl] at h; exact .inl ⟨rfl, (Option.some.inj h).symm⟩
    · rw [List.getElem?_eq_none (by rw [List.length_set]; omega)] at h; cases h
  · rw [List.getElem?_set_ne (Ne.symm e)] at h; exact .inr ⟨e, h⟩
/-- a slot gets what is not of the frame's own -/
theorem dis_set {σ : St} {ρ : List Sl} (d : Dis σ ρ) (i : Nat) (x : Option V) {s : Sl} (h : isOw s = false) : Dis (σ.set i x) (ρ.set i s) := fun a b p u v h1 h2 h3 h4 w1 w2 => by
  rcases set_at h3 with ⟨_, e⟩ | ⟨na, h3⟩
  · rw [e, h] at w1; cases w1
  · rcases set_at h4 with ⟨_, e⟩ | ⟨nb, h4⟩
    · rw [e, h] at w2; cases w2
    · rw [List.getElem?_set_ne (Ne.symm na)] at h1
      rw [List.getElem?_set_ne (Ne.symm nb)] at h2
      exact d a b p u v h1 h2 h3 h4 w1 w2
/-- .. something of its own, new -/
theorem dis_new {σ : St} {ρ : List Sl} (d : Dis σ ρ) (i : Nat) {q : Addr} (s : Sl) (h : ∀ (j : Nat) (a : Sl), j ≠ i → σ[j]? = some (some (.ref q)) → ρ[j]? = some a → isOw a = true → False) : Dis (σ.set i (some (.ref q))) (ρ.set i s) := fun a b p u v h1 h2 h3 h4 w1 w2 => by
  rcases set_at h3 with ⟨ea, _⟩ | ⟨na, h3⟩
  · rcases set_at h4 with ⟨eb, _⟩ | ⟨nb, h4⟩
    · rw [ea, eb]
    · rcases set_at h1 with ⟨_, e⟩ | ⟨n, _⟩
      · cases e
        rw [List.getElem?_set_ne (Ne.symm nb)] at h2
        exact (h b v nb h2 h4 w2).elim
      · exact absurd ea n
  · rcases set_at h4 with ⟨eb, _⟩ | ⟨nb, h4⟩
    · rcases set_at h2 with ⟨_, e⟩ | ⟨n, _⟩
      · cases e
        rw [List.getElem?_set_ne (Ne.symm na)] at h1
        exact (h a u na h1 h3 w1).elim
      · exact absurd eb n
    · rw [List.getElem?_set_ne (Ne.symm na)] at h1
      rw [List.getElem?_set_ne (Ne.symm nb)] at h2
      exact d a b p u v h1 h2 h3 h4 w1 w2
/-- .. its own thing anew, at the same place -/
theorem dis_mut {σ : St} {ρ : List Sl} (d : Dis σ ρ) {i : Nat} {a0 : Sl} (e : ρ[i]? = some a0) (w : isOw a0 = true) (s : Sl) : Dis σ (ρ.set i s) := fun a b p u v h1 h2 h3 h4 w1 w2 => by
  have f : ∀ (j : Nat) (u : Sl), (ρ.set i s)[j]? = some u → isOw u = true → ∃ u', ρ[j]? = some u' ∧ isOw u' = true := fun j u h hw => by
    rcases set_at h with ⟨ej, _⟩ | ⟨_, h⟩
    · exact ⟨a0, by rw [ej]; exact e, w⟩
    · exact ⟨u, h, hw⟩
  obtain ⟨u', e1, w1'⟩ := f a u h3 w1
  obtain ⟨v', e2, w2'⟩ := f b v h4 w2
  exact d a b p u' v' h1 h2 e1 e2 w1' w2'
/-- a thing of one's own at p is changed -/
theorem ow_mut {C : Cn} {B H : Hp} {σ : St} {ρ : List Sl} {n i : Nat} {a0 a1 : Sl} {p : Addr} {o1 : HO} (F : Fr C B σ H ρ n) (e : ρ[i]? = some a0) (w : isOw a0 = true) (e1 : σ[i]? = some (some (.ref p)))
    (hsrc : ∀ m, SrcOk C.sc H m → ¬ inS C.sc p → SrcOk C.sc (upd H p o1) m) (new : C.H0 p = none → B p = none → ¬ inS C.sc p → SlR C.K C.cl C.sc C.H0 B (upd H p o1) (some (.ref p)) a1) : Fr C B σ (upd H p o1) (ρ.set i a1) n := by
  obtain ⟨p', o, e2, h0, hB, hs, ho, hni⟩ := (paired_at F.slo e1 e).ow w
  cases e2
  refine ⟨fun a u x => by rw [upd_ne (ne_of_none x hB)]; exact F.sub a u x, F.old, F.new, F.nos, fun a u ns x => by rw [upd_ne (ne_of_none x h0)]; exact F.ext a u ns x, hsrc _ F.src hs, ?_, dis_mut F.dis e w a1⟩
  refine paired_ix (by rw [List.length_set]; exact paired_len F.slo) fun j a b h1 h2 => ?_
  rcases set_at h2 with ⟨ej, eb⟩ | ⟨hj, h2⟩
  · subst ej eb
    rw [e1] at h1; cases h1
    exact new h0 hB hs
  · have q := paired_at F.slo h1 h2
    have apart : ∀ q', a = some (.ref q') → isOw b = true → q' ≠ p := fun q' ea hw z => by
      rw [ea, z] at h1
      exact hj (F.dis j i p b a0 h1 e1 h2 e hw w)
    cases q with
    | no _ => exact .no _
    | dat h => exact .dat h
    | src h => exact .src h
    | own g0 gB gs g gr => exact .own g0 gB gs (by rw [upd_ne (apart _ rfl rfl)]; exact g) gr
    | dic g0 gB gs g gr => exact .dic g0 gB gs (g.same fun o x => by rw [upd_ne (apart _ rfl rfl)]; exact x) gr
    | dit g0 gB gs g gr => exact .dit g0 gB gs (g.same fun o x => by rw [upd_ne (apart _ rfl rfl)]; exact x) gr
    | @bor q us _ g0 gs g gr =>
      have ne : q ≠ p := fun z => g0 (z ▸ h0)
      exact .bor g0 gs (by rw [upd_ne ne]; exact g) gr
    | @hld q A d er hA gs g hd =>
      have ne : q ≠ p := fun z => by
        rw [z, ho] at g
        cases g; cases hni
      refine .hld hA gs (by rw [upd_ne ne]; exact g) ?_
      rcases hd with z | ⟨x, dd, v, f, z1, z2, z3, z4, z5, z6⟩
      · exact .inl z
      · have ne2 : dd ≠ p := fun z => by
          rw [z, ho] at z5
          cases z5; cases hni
        exact .inr ⟨x, dd, v, f, z1, z2, z3, z4, by rw [upd_ne ne2]; exact z5, z6⟩
    | @bld q Ad dx n us _ gA g0 gB gs g gr =>
      have ne : q ≠ p := fun z => by
        rw [z, ho] at g
        cases g; cases hni
      exact .bld gA g0 gB gs (by rw [upd_ne ne]; exact g) gr

/-! ### readings over data -/
/-- the classes of errors: where they stand, the field's name -/
abbrev PD := D → Nat → Prop
abbrev PX := Er → Nat → Prop
abbrev Env := List Sl
/-- what an expression gives: of the slots and the draws left, what is wanted of its data and of its errors -/
abbrev M := Env → Nat → PD → PX → Prop
abbrev MT := Env → Nat → (Bool → Nat → Prop) → PX → Prop
abbrev ML := Env → Nat → (List D → Nat → Prop) → PX → Prop
abbrev MA := Env → Nat → (List Sl → Nat → Prop) → PX → Prop
structure DEnds where
  nx : Env → Nat → Prop
  rt : PD
  ex : PX
  bk : Env → Nat → Prop := fun _ _ => False
  ct : Env → Nat → Prop := fun _ _ => False
abbrev MS := DEnds → Env → Nat → Prop

/-- how an error lies in the heap -/
def ErR (C : Cn) (B' H' : Hp) (cls : Value) (d : Option Addr) (er : Er) : Prop :=
  ∃ A, C.cl.adr er.c = some A ∧ cls = .ref A ∧ ((er.f = [] ∧ d = none) ∨ ∃ x a v f, er.f = [x] ∧ d = some a ∧ C.cl.flds er.c = [f] ∧ H' a = some (.xd [(f, v)]) ∧ DR C.K C.cl B' v x)
def OkX (C : Cn) (B H : Hp) (R : PX) : Prop := ∀ er n', R er n' → ∀ cls d B' H', Stp C.sc B H B' H' → SrcOk C.sc H' n' → ErR C B' H' cls d er → C.E cls d H'

/-- data, settled -/
def tD (C : Cn) (m : M) : TE := fun σ H Q => ∃ B ρ n P R, Fr C B σ H ρ n ∧ m ρ n P R ∧ OkX C B H R ∧ ∀ d n', P d n' → ∀ v B' H', Stp C.sc B H B' H' → SrcOk C.sc H' n' → DR C.K C.cl B' v d → Q v H'
/-- a value to be read now: settled data, or a list of one's own with settled items -/
inductive QR (K : Fg) (cl : Cl) (A B : Hp) : V → D → Prop
  | set {v : V} {d : D} (h : DR K cl B v d) : QR K cl A B v d
  | lst {a : Addr} {xs : List V} {ds : List D} (h : A a = some (.lst xs)) (r : DRs K cl B xs ds) : QR K cl A B (.ref a) (.list ds)
theorem QR.mono {K : Fg} {cl : Cl} {A B A' B' : Hp} {v : V} {d : D} (h : QR K cl A B v d) (a : Same A A') (b : Same B B') : QR K cl A' B' v d := by
  cases h with
  | set h => exact .set (h.mono b)
  | lst h r => exact .lst (a _ _ h) (r.mono b)
theorem QR.dr {K : Fg} {cl : Cl} {A B : Hp} {v : V} {d : D} (h : QR K cl A B v d) (s : Same B A) : DR K cl A v d := by
  cases h with
  | set h => exact h.mono s
  | lst h r => exact .lst h (r.mono s)
def tQ (C : Cn) (m : M) : TE := fun σ H Q => ∃ B ρ n P R, Fr C B σ H ρ n ∧ m ρ n P R ∧ OkX C B H R ∧ ∀ d n', P d n' → ∀ v B' H', Stp C.sc B H B' H' → SrcOk C.sc H' n' → QR C.K C.cl (hid C.sc H') B' v d → Q v H'
/-- a new list -/
def tL (C : Cn) (m : ML) : TE := fun σ H Q => ∃ B ρ n P R, Fr C B σ H ρ n ∧ m ρ n P R ∧ OkX C B H R ∧ ∀ ds n', P ds n' → ∀ p vs B' H', H p = none → Stp C.sc B H B' H' → B' p = none → SrcOk C.sc H' n' → H' p = some (.lst vs) → DRs C.K C.cl B' vs ds → Q (.ref p) H'
def tT (C : Cn) (m : MT) : TT := fun σ H Q => ∃ B ρ n P R, Fr C B σ H ρ n ∧ m ρ n P R ∧ OkX C B H R ∧ ∀ b n', P b n' → ∀ B' H', Stp C.sc B H B' H' → SrcOk C.sc H' n' → Q b H'
/-- an argument's value: data, or the source -/
inductive AgR (K : Fg) (cl : Cl) (sc : Sc) (B H : Hp) : V → Sl → Prop
  | dat {v : V} {d : D} (h : DR K cl B v d) : AgR K cl sc B H v (.dat d)
  | src {s c : Addr} (h : sc = some (s, c)) : AgR K cl sc B H (.ref s) .src
  | bor {p : Addr} {vs : List V} {ds : List D} (hs : ¬ inS sc p) (h : H p = some (.lst vs)) (r : DRs K cl B vs ds) : AgR K cl sc B H (.ref p) (.bor ds)
theorem AgR.step {K : Fg} {cl : Cl} {sc : Sc} {B H B' H' : Hp} {v : V} {x : Sl} (h : AgR K cl sc B H v x) (s : Stp sc B H B' H') : AgR K cl sc B' H' v x := by
  cases h with
  | dat h => exact .dat (h.mono s.old)
  | src h => exact .src h
  | bor hs h r => exact .bor hs (s.ext _ _ hs h) (r.mono s.old)
def tA (C : Cn) (m : MA) : TA := fun σ H Q => ∃ B ρ n P R, Fr C B σ H ρ n ∧ m ρ n P R ∧ OkX C B H R ∧ ∀ as n', P as n' → ∀ vs B' H', Stp C.sc B H B' H' → SrcOk C.sc H' n' → Paired (AgR C.K C.cl C.sc B' H') vs as → Q vs H'
/-- a statement -/
def tS (C : Cn) (m : MS) : TS := fun Z σ H => ∃ B ρ n De, Fr C B σ H ρ n ∧ m De ρ n ∧
  (∀ ρ' n', De.nx ρ' n' → ∀ σ' B' H', Same B B' → Fr C B' σ' H' ρ' n' → Z.nx σ' H') ∧
  (∀ d n', De.rt d n' → ∀ v B' H', Stp C.sc C.B0 C.H0 B' H' → SrcOk C.sc H' n' → DR C.K C.cl B' v d → Z.rt v H') ∧
  OkX C C.B0 C.H0 De.ex ∧
  (∀ ρ' n', De.bk ρ' n' → ∀ σ' B' H', Same B B' → Fr C B' σ' H' ρ' n' → Z.bk σ' H') ∧
  (∀ ρ' n', De.ct ρ' n' → ∀ σ' B' H', Same B B' → Fr C B' σ' H' ρ' n' → Z.ct σ' H')

section
variable {X : Cx}
theorem pe_weak {e : Expr} {t t' : TE} (h : PE X e t) (w : ∀ σ H Q, t' σ H Q → t σ H Q) : PE X e t' := ⟨fun pins s σ H Q I q => h.run pins s σ H Q I (w σ H Q q)⟩
theorem pt_weak {e : Expr} {t t' : TT} (h : PT X e t) (w : ∀ σ H Q, t' σ H Q → t σ H Q) : PT X e t' := ⟨fun pins s σ H Q I q => h.run pins s σ H Q I (w σ H Q q)⟩
theorem pa_weak {e : List Expr} {t t' : TA} (h : PA X e t) (w : ∀ σ H Q, t' σ H Q → t σ H Q) : PA X e t' := ⟨fun p pins s σ H Q I q => h.run p pins s σ H Q I (w σ H Q q)⟩
theorem ps_weak {e : Stmt} {t t' : TS} (h : PS X e t) (w : ∀ D σ H, t' D σ H → t D σ H) : PS X e t' := ⟨fun pins s σ H D I q => h.run pins s σ H D I (w D σ H q)⟩
theorem pss_weak {e : List Stmt} {t t' : TS} (h : PSs X e t) (w : ∀ D σ H, t' D σ H → t D σ H) : PSs X e t' := ⟨fun pins s σ H D I q => h.run pins s σ H D I (w D σ H q)⟩
theorem pi_weak {tg e : Expr} {t t' : TI} (h : PI X tg e t) (w : ∀ σ H Q, t' σ H Q → t σ H Q) : PI X tg e t' := ⟨fun pins s σ H Q I q => h.run pins s σ H Q I (w σ H Q q)⟩
end
abbrev DE (X : Cx) (C : Cn) (e : Expr) (m : M) : Prop := PE X e (tD C m)
abbrev QE (X : Cx) (C : Cn) (e : Expr) (m : M) : Prop := PE X e (tQ C m)
abbrev LE (X : Cx) (C : Cn) (e : Expr) (m : ML) : Prop := PE X e (tL C m)
abbrev DT (X : Cx) (C : Cn) (e : Expr) (m : MT) : Prop := PT X e (tT C m)
abbrev DA (X : Cx) (C : Cn) (es : List Expr) (m : MA) : Prop := PA X es (tA C m)
abbrev DS (X : Cx) (C : Cn) (st : Stmt) (m : MS) : Prop := PS X st (tS C m)
abbrev DSs (X : Cx) (C : Cn) (st : List Stmt) (m : MS) : Prop := PSs X st (tS C m)
/-- a new list as settled data -/
def mL (m : ML) : M := fun ρ n P R => m ρ n (fun ds => P (.list ds)) R
section
variable {X : Cx} {C : Cn} {e : Expr} {m : M} {l : ML}
theorem qe_of (h : DE X C e m) : QE X C e m := pe_weak h fun σ H Q ⟨B, ρ, n, P, R, F, w, x, k⟩ => ⟨B, ρ, n, P, R, F, w, x, fun d n' p v B' H' s c r => k d n' p v B' H' s c (.set r)⟩
theorem de_ofL (h : LE X C e l) : DE X C e (mL l) := pe_weak h fun σ H Q ⟨B, ρ, n, P, R, F, w, x, k⟩ =>
  ⟨B, ρ, n, fun ds => P (.list ds), R, F, w, x, fun ds n' q p vs B' H' hp s hb c h1 r =>
    k (.list ds) n' q (.ref p) (upd B' p (.lst vs)) H' (s.settle hp h1 hb (src_new F.src hp)) c (.lst upd_same (r.mono (same_upd hb)))⟩
theorem qe_ofL (h : LE X C e l) : QE X C e (mL l) := qe_of (de_ofL h)
end
theorem OkX.step {C : Cn} {B H B' H' : Hp} {R : PX} (h : OkX C B H R) (s : Stp C.sc B H B' H') : OkX C B' H' R := fun er n' r cls d B2 H2 s2 k q => h er n' r cls d B2 H2 (s.trans s2) k q
theorem OkX.lift {C : Cn} {B H : Hp} {σ : St} {ρ : List Sl} {n : Nat} {R : PX} (F : Fr C B σ H ρ n) (h : OkX C C.B0 C.H0 R) : OkX C B H R := h.step F.entry
end DS

/-! DS1: rules for expressions. -/
namespace DS
open PySem L2
section
variable {X : Cx} {C : Cn} {K : Fg} {cl : Cl}
/-! ### names, constants -/
def mVar (i : Nat) : M := fun ρ n P _ => ∃ d, ρ[i]? = some (.dat d) ∧ P d n
def slD : Sl → Option D
  | .dat d => some d
  | .own ds => some (.list ds)
  | .bor ds => some (.list ds)
  | _ => none
def mVarQ (i : Nat) : M := fun ρ n P _ => ∃ s d, ρ[i]? = some s ∧ slD s = some d ∧ P d n
def mC (d : D) : M := fun _ n P _ => P d n
theorem de_var (i : Nat) {x : Str} {pos : Pos} (hN : X.N[i]? = some x := by rfl) (hv : Vis X.env.scope x := by first | exact Or.inl rfl | exact Or.inr (Or.inl rfl) | exact Or.inr (Or.inr rfl)) (hd : (x == ("__debug__" : Str)) = false := by decide)
    (hcd : (x == ("__classdict__" : Str)) = false := by decide) : DE X C (.Name x pos) (mVar i) := pe_weak (pe_var hN hv hd hcd) fun σ H Q ⟨B, ρ, n, P, R, F, ⟨d, e, p⟩, x, k⟩ => by
  obtain ⟨a, h1, h2⟩ := paired_get F.slo e
  cases h2 with
  | dat h => exact ⟨_, h1, k d n p _ B H F.self F.src h⟩
theorem qe_var (i : Nat) {x : Str} {pos : Pos} (hN : X.N[i]? = some x := by rfl) (hv : Vis X.env.scope x := by first | exact Or.inl rfl | exact Or.inr (Or.inl rfl) | exact Or.inr (Or.inr rfl)) (hd : (x == ("__debug__" : Str)) = false := by decide)
    (hcd : (x == ("__classdict__" : Str)) = false := by decide) : QE X C (.Name x pos) (mVarQ i) := pe_weak (pe_var hN hv hd hcd) fun σ H Q ⟨B, ρ, n, P, R, F, ⟨s, d, e, e2, p⟩, x, k⟩ => by
  obtain ⟨a, h1, h2⟩ := paired_get F.slo e
  cases h2 with
  | dat h => cases e2; exact ⟨_, h1, k _ n p _ B H F.self F.src (.set h)⟩
  | own h0 hB hs h r => cases e2; exact ⟨_, h1, k _ n p _ B H F.self F.src (.lst (by rw [hid_of hs]; exact h) r)⟩
  | no _ => cases e2
  | src _ => cases e2
  | bld _ _ _ _ _ _ => cases e2
  | hld _ _ _ _ => cases e2
  | bor h0 hs h r => cases e2; exact ⟨_, h1, k _ n p _ B H F.self F.src (.lst (by rw [hid_of hs]; exact h) r)⟩
  | dic _ _ _ _ _ => cases e2
  | dit _ _ _ _ _ => cases e2
theorem de_c {e : Expr} {v : V} {d : D} (h : PE X e (tC v)) (r : ∀ B, DR C.K C.cl B v d) : DE X C e (mC d) := pe_weak h fun σ H Q ⟨B, ρ, n, P, R, F, p, x, k⟩ => k d n p v B H F.self F.src (r B)
theorem de_int {i : Int} {j pos} : DE X C (.Constant (.int i) j pos) (mC (.int i)) := de_c pe_int fun _ => .int i
theorem de_bl {b : Bool} {j pos} : DE X C (.Constant (.bool b) j pos) (mC (.bool b)) := de_c pe_bl fun _ => .bl b
theorem de_non {j pos} : DE X C (.Constant .none j pos) (mC .none) := de_c pe_non fun _ => .non
theorem de_str {x : Str} {j pos} : DE X C (.Constant (.str x) j pos) (mC (.str x)) := de_c pe_str fun _ => .str x
/-! ### operators whose answer is no object -/
/-- r answers on data as f says -/
def OpF (K : Fg) (cl : Cl) (r : R2) (f : D → D → Option D) : Prop := ∀ (A H : Hp) (x y : V) (dx dy z : D), Same A H → DR K cl A x dx → DR K cl A y dy → f dx dy = some z → ∀ Q : VK, (∀ v, (∀ A', DR K cl A' v z) → Q v H) → r x y H Q
def m2 (f : D → D → Option D) (a b : M) : M := fun ρ n P R => a ρ n (fun x n1 => b ρ n1 (fun y n2 => ∃ z, f x y = some z ∧ P z n2) R) R
theorem t2_ok {r : R2} {f : D → D → Option D} {a b : M} (hf : OpF C.K C.cl r f) {σ : St} {H : Hp} {Q : VK} (h : tD C (m2 f a b) σ H Q) : tOp r (tQ C a) (tQ C b) σ H Q := by
  obtain ⟨B, ρ, n, P, R, F, w, ox, k⟩ := h
  refine ⟨B, ρ, n, _, R, F, w, ox, fun dx n1 hb x B1 H1 s1 k1 rx => ⟨B1, ρ, n1, _, R, F.step s1 k1, hb, ox.step s1, fun dy n2 hz y B2 H2 s2 k2 ry => ?_⟩⟩
  obtain ⟨z, hz, p⟩ := hz
  exact hf (hid C.sc H2) H2 x y dx dy z hid_sub ((rx.mono s2.ext.hid s2.old).dr s2.hid) (ry.dr s2.hid) hz Q fun v hv => k z n2 p v B2 H2 (s1.trans s2) k2 (hv B2)
theorem de_op {op : Operator} {r : R2} {f : D → D → Option D} {x y : Expr} {a b : M} {pos : Pos} (ho : OpR X (binaryOp op) r) (hf : OpF C.K C.cl r f) (ha : QE X C x a) (hb : QE X C y b) : DE X C (.BinOp x op y pos) (m2 f a b) :=
  pe_weak (pe_op ho ha hb) fun _ _ _ => t2_ok hf
theorem de_cmp {op : CmpOp} {r : R2} {f : D → D → Option D} {x y : Expr} {a b : M} {pos : Pos} (ho : OpR X (compareOp op) r) (hf : OpF C.K C.cl r f) (ha : QE X C x a) (hb : QE X C y b) (hm : behindInMarks op y = false) : DE X C (.Compare x [op] [y] pos) (m2 f a b) :=
  pe_weak (pe_cmpR ho ha hb hm) fun _ _ _ => t2_ok hf
def mT (m : M) : MT := fun ρ n P R => m ρ n (fun d n' => ∃ b, d = .bool b ∧ P b n') R
theorem tT_ok {t : TE} {m : M} (h : ∀ σ H Q, tD C m σ H Q → t σ H Q) {σ : St} {H : Hp} {Q : Bool → Hp → Prop} (q : tT C (mT m) σ H Q) : tTest t σ H Q := by
  obtain ⟨B, ρ, n, P, R, F, w, ox, k⟩ := q
  refine h _ _ _ ⟨B, ρ, n, _, R, F, w, ox, fun d n' hb v B' H' s c r => ?_⟩
  obtain ⟨b, rfl, p⟩ := hb
  cases r
  exact ⟨b, rfl, k b n' p B' H' s c⟩
theorem dt_cmp {op : CmpOp} {r : R2} {f : D → D → Option D} {x y : Expr} {a b : M} {pos : Pos} (ho : OpR X (compareOp op) r) (hf : OpF C.K C.cl r f) (ha : QE X C x a) (hb : QE X C y b) (hm : behindInMarks op y = false) : DT X C (.Compare x [op] [y] pos) (mT (m2 f a b)) :=
  pt_weak (pt_cmpR ho ha hb hm) fun _ _ _ => tT_ok fun _ _ _ => t2_ok hf
/-- an expression that gives True or False, as a test -/
theorem dt_val {e : Expr} {m : M} (h : DE X C e m) (he : ∀ whole, isTrue e X.env whole = (do let v ← whole; standAt e.pos; holding [v] (truthy v)) := by intro _; rfl) : DT X C e (mT m) :=
  pt_weak (pt_val h he) fun _ _ _ q => tT_ok (t := tD C m) (fun _ _ _ z => z) q
def mNot (m : MT) : MT := fun ρ n P R => m ρ n (fun b n' => P (!b) n') R
theorem dt_not {a : Expr} {m : MT} {pos : Pos} (h : DT X C a m) : DT X C (.UnaryOp .Not a pos) (mNot m) := pt_weak (pt_not h) fun _ _ _ ⟨B, ρ, n, P, R, F, w, ox, k⟩ => ⟨B, ρ, n, _, R, F, w, ox, fun b n' p B' H' s c => k (!b) n' p B' H' s c⟩
abbrev DW (X : Cx) (C : Cn) (e : Expr) (m : MT) : Prop := PW X e (tT C m)
theorem pw_weak {e : Expr} {t t' : TT} (h : PW X e t) (w : ∀ σ H Q, t' σ H Q → t σ H Q) : PW X e t' := ⟨fun wh pins s σ H Q I q => h.run wh pins s σ H Q I (w σ H Q q)⟩
def mAnd (a b : MT) : MT := fun ρ n P R => a ρ n (fun k n1 => if k = true then b ρ n1 P R else P false n1) R
def mOr (a b : MT) : MT := fun ρ n P R => a ρ n (fun k n1 => if k = true then P true n1 else b ρ n1 P R) R
theorem dw_and1 {a : Expr} {m : MT} {pos : Pos} (h : DT X C a m) : DW X C (.BoolOp .And [a] pos) m := pw_and1 h
theorem dw_or1 {a : Expr} {m : MT} {pos : Pos} (h : DT X C a m) : DW X C (.BoolOp .Or [a] pos) m := pw_or1 h
theorem dw_and {a b : Expr} {rest : List Expr} {ma mb : MT} {pos : Pos} (ha : DT X C a ma) (hb : DW X C (.BoolOp .And (b :: rest) pos) mb) : DW X C (.BoolOp .And (a :: b :: rest) pos) (mAnd ma mb) := pw_weak (pw_and ha hb) fun σ H Q ⟨B, ρ, n, P, R, F, w, ox, k⟩ => by
  refine ⟨B, ρ, n, _, R, F, w, ox, fun c n1 p B1 H1 s1 k1 => ?_⟩
  cases c with
  | true => exact ⟨B1, ρ, n1, P, R, F.step s1 k1, p, ox.step s1, fun b n' q B' H' s2 c2 => k b n' q B' H' (s1.trans s2) c2⟩
  | false => exact k false n1 p B1 H1 s1 k1
theorem dw_or {a b : Expr} {rest : List Expr} {ma mb : MT} {pos : Pos} (ha : DT X C a ma) (hb : DW X C (.BoolOp .Or (b :: rest) pos) mb) : DW X C (.BoolOp .Or (a :: b :: rest) pos) (mOr ma mb) := pw_weak (pw_or ha hb) fun σ H Q ⟨B, ρ, n, P, R, F, w, ox, k⟩ => by
  refine ⟨B, ρ, n, _, R, F, w, ox, fun c n1 p B1 H1 s1 k1 => ?_⟩
  cases c with
  | false => exact ⟨B1, ρ, n1, P, R, F.step s1 k1, p, ox.step s1, fun b n' q B' H' s2 c2 => k b n' q B' H' (s1.trans s2) c2⟩
  | true => exact k true n1 p B1 H1 s1 k1
theorem dt_bool {e : Expr} {m : MT} (h : DW X C e m) : DT X C e m := h.pt
/-- and, or as values: all but the last True or False -/
def mAndV (a b : M) : M := fun ρ n P R => a ρ n (fun x n1 => ∃ k, x = .bool k ∧ if k = true then b ρ n1 P R else P (.bool false) n1) R
def mOrV (a b : M) : M := fun ρ n P R => a ρ n (fun x n1 => ∃ k, x = .bool k ∧ if k = true then P (.bool true) n1 else b ρ n1 P R) R
def mNotV (a : M) : M := fun ρ n P R => a ρ n (fun x n1 => ∃ k, x = .bool k ∧ P (.bool (!k)) n1) R
theorem de_one {op} {a : Expr} {m : M} {pos : Pos} (h : DE X C a m) : DE X C (.BoolOp op [a] pos) m := pe_one h
theorem de_and {a b : Expr} {rest : List Expr} {ma mb : M} {pos : Pos} (ha : DE X C a ma) (hb : DE X C (.BoolOp .And (b :: rest) pos) mb) : DE X C (.BoolOp .And (a :: b :: rest) pos) (mAndV ma mb) := pe_weak (pe_and ha hb) fun σ H Q ⟨B, ρ, n, P, R, F, w, ox, k⟩ => by
  refine ⟨B, ρ, n, _, R, F, w, ox, fun d n1 p v B1 H1 s1 k1 r => ?_⟩
  obtain ⟨c, rfl, p⟩ := p
  cases r
  refine ⟨c, rfl, ?_⟩
  cases c with
  | true => exact ⟨B1, ρ, n1, P, R, F.step s1 k1, p, ox.step s1, fun b n' q v B' H' s2 c2 r => k b n' q v B' H' (s1.trans s2) c2 r⟩
  | false => exact k _ n1 p _ B1 H1 s1 k1 (.bl false)
theorem de_or {a b : Expr} {rest : List Expr} {ma mb : M} {pos : Pos} (ha : DE X C a ma) (hb : DE X C (.BoolOp .Or (b :: rest) pos) mb) : DE X C (.BoolOp .Or (a :: b :: rest) pos) (mOrV ma mb) := pe_weak (pe_or ha hb) fun σ H Q ⟨B, ρ, n, P, R, F, w, ox, k⟩ => by
  refine ⟨B, ρ, n, _, R, F, w, ox, fun d n1 p v B1 H1 s1 k1 r => ?_⟩
  obtain ⟨c, rfl, p⟩ := p
  cases r
  refine ⟨c, rfl, ?_⟩
  cases c with
  | false => exact ⟨B1, ρ, n1, P, R, F.step s1 k1, p, ox.step s1, fun b n' q v B' H' s2 c2 r => k b n' q v B' H' (s1.trans s2) c2 r⟩
  | true => exact k _ n1 p _ B1 H1 s1 k1 (.bl true)
theorem de_not {a : Expr} {ma : M} {pos : Pos} (ha : DE X C a ma) : DE X C (.UnaryOp .Not a pos) (mNotV ma) := pe_weak (pe_not ha) fun σ H Q ⟨B, ρ, n, P, R, F, w, ox, k⟩ => by
  refine ⟨B, ρ, n, _, R, F, w, ox, fun d n1 p v B1 H1 s1 k1 r => ?_⟩
  obtain ⟨c, rfl, p⟩ := p
  cases r
  exact ⟨c, rfl, k _ n1 p _ B1 H1 s1 k1 (.bl _)⟩
def mIf (t : MT) (a b : M) : M := fun ρ n P R => t ρ n (fun k n1 => if k = true then a ρ n1 P R else b ρ n1 P R) R
theorem de_if {c a b : Expr} {mc : MT} {ma mb : M} {pos : Pos} (hc : DT X C c mc) (ha : DE X C a ma) (hb : DE X C b mb) : DE X C (.IfExp c a b pos) (mIf mc ma mb) := pe_weak (pe_ifExp hc ha hb) fun σ H Q ⟨B, ρ, n, P, R, F, w, ox, k⟩ => by
  refine ⟨B, ρ, n, _, R, F, w, ox, fun c n1 p B1 H1 s1 k1 => ?_⟩
  cases c with
  | true => exact ⟨B1, ρ, n1, P, R, F.step s1 k1, p, ox.step s1, fun b n' q v B' H' s2 c2 r => k b n' q v B' H' (s1.trans s2) c2 r⟩
  | false => exact ⟨B1, ρ, n1, P, R, F.step s1 k1, p, ox.step s1, fun b n' q v B' H' s2 c2 r => k b n' q v B' H' (s1.trans s2) c2 r⟩
/-- a < b < c -/
def mChain (f g : D → D → Option D) (a b c : M) : M := fun ρ n P R => a ρ n (fun x n1 => b ρ n1 (fun y n2 => ∃ k, f x y = some (.bool k) ∧ if k = true then c ρ n2 (fun z n3 => ∃ u, g y z = some u ∧ P u n3) R else P (.bool false) n2) R) R
end
end DS

/-! DS2: operators on data. -/
namespace DS
open PySem L2
def okD (d : D) : Bool := d.plain && decide (d.depth ≤ 64)
def okDs (ds : List D) : Bool := PyData.plainAll ds && decide (PyData.depthAll ds ≤ 64)
section
variable {X : Cx} {C : Cn} {K : Fg} {cl : Cl}
/-! ### == != in, not in, over data -/
def rEqA (K : Fg) (neg : Bool) : R2 := fun x y H Q => ∃ d e, Dp K H x d ∧ Dp K H y e ∧ okD d = true ∧ okD e = true ∧ Q (.bl (if neg then !PyData.eqv d e else PyData.eqv d e)) H
def rInA (K : Fg) (neg : Bool) : R2 := fun x y H Q => ∃ d ds e, Dp K H x d ∧ Dp K H y e ∧ (e = .list ds ∨ e = .tuple ds) ∧ okD d = true ∧ PyData.plainAll ds = true ∧ Q (.bl (if neg then !ds.any (fun z => PyData.eqv z d) else ds.any fun z => PyData.eqv z d)) H
theorem okD_iff {d : D} (h : okD d = true) : d.plain = true ∧ d.depth ≤ 64 := by
  unfold okD at h
  rw [Bool.and_eq_true, decide_eq_true_eq] at h
  exact h
theorem op_eqA (hu : X.A.units + 64 < cLine) : OpR X (compareOp .Eq) (rEqA X.K false) := by
  intro pins s σ H x y v u Q I rx ry h
  obtain ⟨d, e, hd, he, sd, se, q⟩ := h
  obtain ⟨as, r1⟩ := Dp.reads I d x v hd rx
  obtain ⟨bs, r2⟩ := Dp.reads I e y u he ry
  have h1 := okD_iff sd
  have h2 := okD_iff se
  have h3 : min d.depth e.depth ≤ 64 := Nat.le_trans (Nat.min_le_left _ _) h1.2
  exact SeqAt.eq_plain r1 r2 h1.1 h2.1 (by omega) ⟨.bl _, H, I, rfl, q⟩
theorem op_neA (hu : X.A.units + 64 < cLine) : OpR X (compareOp .NotEq) (rEqA X.K true) := by
  intro pins s σ H x y v u Q I rx ry h
  obtain ⟨d, e, hd, he, sd, se, q⟩ := h
  obtain ⟨as, r1⟩ := Dp.reads I d x v hd rx
  obtain ⟨bs, r2⟩ := Dp.reads I e y u he ry
  have h1 := okD_iff sd
  have h2 := okD_iff se
  have h3 : min d.depth e.depth ≤ 64 := Nat.le_trans (Nat.min_le_left _ _) h1.2
  exact SeqAt.ne_plain r1 r2 h1.1 h2.1 (by omega) ⟨.bl _, H, I, rfl, q⟩
theorem op_inA (hu : X.A.units + 65 < cLine) : OpR X (compareOp .In) (rInA X.K false) := by
  intro pins s σ H x y v u Q I rx ry h
  obtain ⟨d, ds, e, hd, he, hl, sd, se, q⟩ := h
  obtain ⟨as, r1⟩ := Dp.reads I d x v hd rx
  obtain ⟨bs, r2⟩ := Dp.reads I e y u he ry
  have h1 := okD_iff sd
  have h3 : min (PyData.depthAll ds) d.depth ≤ 64 := Nat.le_trans (Nat.min_le_right _ _) h1.2
  rcases hl with rfl | rfl
  · exact SeqAt.in_list_data r2 r1 se h1.1 (by omega) ⟨.bl _, H, I, rfl, q⟩
  · exact SeqAt.in_tuple_data r2 r1 se h1.1 (by omega) ⟨.bl _, H, I, rfl, q⟩
theorem op_notInA (hu : X.A.units + 65 < cLine) : OpR X (compareOp .NotIn) (rInA X.K true) := by
  intro pins s σ H x y v u Q I rx ry h
  obtain ⟨d, ds, e, hd, he, hl, sd, se, q⟩ := h
  obtain ⟨as, r1⟩ := Dp.reads I d x v hd rx
  obtain ⟨bs, r2⟩ := Dp.reads I e y u he ry
  have h1 := okD_iff sd
  have h3 : min (PyData.depthAll ds) d.depth ≤ 64 := Nat.le_trans (Nat.min_le_right _ _) h1.2
  rcases hl with rfl | rfl
  · exact SeqAt.notIn_list_data r2 r1 se h1.1 (by omega) ⟨.bl _, H, I, rfl, q⟩
  · exact SeqAt.notIn_tuple_data r2 r1 se h1.1 (by omega) ⟨.bl _, H, I, rfl, q⟩
def fEq (neg : Bool) (x y : D) : Option D := if okD x = true ∧ okD y = true then some (.bool (if neg then !PyData.eqv x y else PyData.eqv x y)) else none
def fIn (neg : Bool) (x y : D) : Option D := match y with
  | .list ds => if okD x = true ∧ PyData.plainAll ds = true then some (.bool (if neg then !ds.any (fun z => PyData.eqv z x) else ds.any fun z => PyData.eqv z x)) else none
  | .tuple ds => if okD x = true ∧ PyData.plainAll ds = true then some (.bool (if neg then !ds.any (fun z => PyData.eqv z x) else ds.any fun z => PyData.eqv z x)) else none
  | _ => none
theorem ite_some' {c : Prop} [Decidable c] {α : Type} {a b : α} (h : (if c then some a else none) = some b) : c ∧ a = b := by
  split at h
  · exact ⟨by assumption, Option.some.inj h⟩
  · cases h
theorem Dp.mono' {A A' : Hp} : ∀ {v : V} {d : D}, DR K cl A v d → Same A A' → d.plain = true → Dp K A' v d := fun h e p => (h.mono e).dp p
theorem f_eq (neg : Bool) : OpF K cl (rEqA K neg) (fEq neg) := fun A H x y dx dy z s hx hy e Q q => by
  obtain ⟨⟨h1, h2⟩, rfl⟩ := ite_some' e
  exact ⟨dx, dy, Dp.mono' hx s (okD_iff h1).1, Dp.mono' hy s (okD_iff h2).1, h1, h2, q _ fun _ => .bl _⟩
theorem f_in (neg : Bool) : OpF K cl (rInA K neg) (fIn neg) := fun A H x y dx dy z s hx hy e Q q => by
  cases dy with
  | list ds =>
    obtain ⟨⟨h1, h2⟩, rfl⟩ := ite_some' e
    exact ⟨dx, ds, _, Dp.mono' hx s (okD_iff h1).1, Dp.mono' hy s (by simpa [PyData.plain] using h2), .inl rfl, h1, h2, q _ fun _ => .bl _⟩
  | tuple ds =>
    obtain ⟨⟨h1, h2⟩, rfl⟩ := ite_some' e
    exact ⟨dx, ds, _, Dp.mono' hx s (okD_iff h1).1, Dp.mono' hy s (by simpa [PyData.plain] using h2), .inr rfl, h1, h2, q _ fun _ => .bl _⟩
  | none => cases e
  | bool _ => cases e
  | int _ => cases e
  | str _ => cases e
  | dict _ => cases e
/-! ### whole numbers -/
def fI (g : Int → Int → D) (x y : D) : Option D := match x, y with
  | .int i, .int j => some (g i j)
  | _, _ => none
def fIc (c : Int → Int → Bool) (g : Int → Int → D) (x y : D) : Option D := match x, y with
  | .int i, .int j => if c i j = true then some (g i j) else none
  | _, _ => none
theorem f_I {g : Int → Int → V} {g' : Int → Int → D} (hg : ∀ i j A, DR K cl A (g i j) (g' i j)) : OpF K cl (rI0 g) (fI g') := fun A H x y dx dy z s hx hy e Q q => by
  cases hx <;> cases hy <;> cases e
  exact ⟨_, _, rfl, rfl, q _ fun A' => hg _ _ A'⟩
theorem f_Ic {c : Int → Int → Bool} {P : Int → Int → Prop} (hc : ∀ i j, c i j = true → P i j) {g : Int → Int → V} {g' : Int → Int → D} (hg : ∀ i j A, DR K cl A (g i j) (g' i j)) : OpF K cl (rI P g) (fIc c g') := fun A H x y dx dy z s hx hy e Q q => by
  cases hx <;> cases hy <;> first
    | (cases e; done)
    | (obtain ⟨h1, rfl⟩ := ite_some' (show (if c _ _ = true then some (g' _ _) else none) = some z from e)
       exact ⟨_, _, rfl, rfl, hc _ _ h1, q _ fun A' => hg _ _ A'⟩)
abbrev fAdd := fI fun i j => .int (i + j)
abbrev fSub := fI fun i j => .int (i - j)
abbrev fLt := fI fun i j => .bool (decide (i < j))
abbrev fLe := fI fun i j => .bool (decide (i ≤ j))
abbrev fGt := fI fun i j => .bool (decide (j < i))
abbrev fGe := fI fun i j => .bool (decide (j ≤ i))
abbrev fMul := fIc (fun i _ => decide (-(2 ^ 64) < i ∧ i < 2 ^ 64)) fun i j => .int (i * j)
abbrev fMod := fIc (fun _ j => decide (0 < j)) fun i j => .int (i % j)
abbrev fPow := fIc (fun i j => decide (0 ≤ j ∧ j ≤ 1000000 ∧ i.natAbs < 2 ^ 64)) fun i j => .int (i ^ j.toNat)
theorem f_add : OpF K cl (rI0 fun i j => .int (i + j)) fAdd := f_I fun _ _ _ => .int _
theorem f_sub : OpF K cl (rI0 fun i j => .int (i - j)) fSub := f_I fun _ _ _ => .int _
theorem f_lt : OpF K cl (rI0 fun i j => .bl (decide (i < j))) fLt := f_I fun _ _ _ => .bl _
theorem f_le : OpF K cl (rI0 fun i j => .bl (decide (i ≤ j))) fLe := f_I fun _ _ _ => .bl _
theorem f_gt : OpF K cl (rI0 fun i j => .bl (decide (j < i))) fGt := f_I fun _ _ _ => .bl _
theorem f_ge : OpF K cl (rI0 fun i j => .bl (decide (j ≤ i))) fGe := f_I fun _ _ _ => .bl _
theorem f_mul : OpF K cl (rI CMul fun i j => .int (i * j)) fMul := f_Ic (fun i j h => .inl (of_decide_eq_true h)) fun _ _ _ => .int _
theorem f_mod : OpF K cl (rI (fun _ j => 0 < j) fun i j => .int (i % j)) fMod := f_Ic (fun i j h => of_decide_eq_true h) fun _ _ _ => .int _
theorem f_pow : OpF K cl (rI CPow fun i j => .int (i ^ j.toNat)) fPow := f_Ic (P := CPow) (fun i j h => by have q : 0 ≤ j ∧ j ≤ 1000000 ∧ i.natAbs < 2 ^ 64 := of_decide_eq_true h; exact q) fun _ _ _ => .int _
/-- is None, is not None -/
def fIsN (neg : Bool) (x y : D) : Option D := match y with
  | .none => some (.bool (if neg then !(match x with | .none => true | _ => false) else (match x with | .none => true | _ => false)))
  | _ => none
theorem f_isN : OpF K cl (fun x y H Q => y = .non ∧ Q (.bl (decide (x = .non))) H) (fIsN false) := fun A H x y dx dy z s hx hy e Q q => by
  cases hy <;> cases e
  refine ⟨rfl, ?_⟩
  cases hx <;> exact q _ fun _ => .bl _
theorem f_notN : OpF K cl (fun x y H Q => y = .non ∧ Q (.bl (!decide (x = .non))) H) (fIsN true) := fun A H x y dx dy z s hx hy e Q q => by
  cases hy <;> cases e
  refine ⟨rfl, ?_⟩
  cases hx <;> exact q _ fun _ => .bl _
/-- texts by the order of their signs -/
def fLeS (x y : D) : Option D := match x, y with
  | .str a, .str b => some (.bool (!decide (b.cps.toList < a.cps.toList)))
  | _, _ => none
theorem f_leS : OpF K cl (fun x y H Q => ∃ i j, x = .str i ∧ y = .str j ∧ Q (.bl (!decide (j.cps.toList < i.cps.toList))) H) fLeS := fun A H x y dx dy z s hx hy e Q q => by
  cases hx <;> cases hy <;> cases e
  exact ⟨_, _, rfl, rfl, q _ fun _ => .bl _⟩
def fAddS (x y : D) : Option D := match x, y with
  | .str a, .str b => if a.length + b.length ≤ sizeLine then some (.str (a ++ b)) else none
  | _, _ => none
theorem f_addS : OpF K cl (fun x y H Q => ∃ i j, x = .str i ∧ y = .str j ∧ i.length + j.length ≤ sizeLine ∧ Q (.str (i ++ j)) H) fAddS := fun A H x y dx dy z s hx hy e Q q => by
  cases hx <;> cases hy <;> first
    | (cases e; done)
    | (obtain ⟨h1, rfl⟩ := ite_some' (show (if _ ≤ sizeLine then some (PyData.str _) else none) = some z from e)
       exact ⟨_, _, rfl, rfl, h1, q _ fun _ => .str _⟩)
theorem qe_chain {op op' : CmpOp} {r r' : R2} {f g : D → D → Option D} {a b c : Expr} {ma mb mc : M} {pos : Pos} (ho : OpR X (compareOp op) r) (ho' : OpR X (compareOp op') r') (hf : OpF C.K C.cl r f) (hg : OpF C.K C.cl r' g) (ha : QE X C a ma) (hb : QE X C b mb) (hc : QE X C c mc)
    (hm : lastMarks [op, op'] [b, c] = false := by with_unfolding_all rfl) : DE X C (.Compare a [op, op'] [b, c] pos) (mChain f g ma mb mc) := pe_weak (pe_chain ho ho' ha hb hc hm) fun σ H Q ⟨B, ρ, n, P, R, F, w, ox, k⟩ => by
  refine ⟨B, ρ, n, _, R, F, w, ox, fun dx n1 hb x B1 H1 s1 k1 rx => ⟨B1, ρ, n1, _, R, F.step s1 k1, hb, ox.step s1, fun dy n2 hz y B2 H2 s2 k2 ry => ?_⟩⟩
  obtain ⟨b, hz, p⟩ := hz
  refine hf (hid C.sc H2) H2 x y dx dy _ hid_sub ((rx.mono s2.ext.hid s2.old).dr s2.hid) (ry.dr s2.hid) hz _ fun v hv => ?_
  cases hv B2
  refine ⟨b, rfl, ?_⟩
  cases b with
  | false => exact k _ n2 p _ B2 H2 (s1.trans s2) k2 (.bl false)
  | true =>
    rw [if_pos rfl]
    refine ⟨B2, ρ, n2, _, R, (F.step s1 k1).step s2 k2, p, (ox.step s1).step s2, fun dz n3 hu z B3 H3 s3 k3 rz => ?_⟩
    obtain ⟨u, hu, p⟩ := hu
    exact hg (hid C.sc H3) H3 y z dy dz u hid_sub ((ry.mono s3.ext.hid s3.old).dr s3.hid) (rz.dr s3.hid) hu Q fun v hv => k u n3 p v B3 H3 ((s1.trans s2).trans s3) k3 (hv B3)
theorem t_chain {r r' : R2} {f g : D → D → Option D} {ma mb mc : M} (hf : OpF C.K C.cl r f) (hg : OpF C.K C.cl r' g) {σ : St} {H : Hp} {Q : VK} (h : tD C (mChain f g ma mb mc) σ H Q) : tChain r r' (tQ C ma) (tQ C mb) (tQ C mc) σ H Q := by
  obtain ⟨B, ρ, n, P, R, F, w, ox, k⟩ := h
  refine ⟨B, ρ, n, _, R, F, w, ox, fun dx n1 hb x B1 H1 s1 k1 rx => ⟨B1, ρ, n1, _, R, F.step s1 k1, hb, ox.step s1, fun dy n2 hz y B2 H2 s2 k2 ry => ?_⟩⟩
  obtain ⟨b, hz, p⟩ := hz
  refine hf (hid C.sc H2) H2 x y dx dy _ hid_sub ((rx.mono s2.ext.hid s2.old).dr s2.hid) (ry.dr s2.hid) hz _ fun v hv => ?_
  cases hv B2
  refine ⟨b, rfl, ?_⟩
  cases b with
  | false => exact k _ n2 p _ B2 H2 (s1.trans s2) k2 (.bl false)
  | true =>
    rw [if_pos rfl]
    refine ⟨B2, ρ, n2, _, R, (F.step s1 k1).step s2 k2, p, (ox.step s1).step s2, fun dz n3 hu z B3 H3 s3 k3 rz => ?_⟩
    obtain ⟨u, hu, p⟩ := hu
    exact hg (hid C.sc H3) H3 y z dy dz u hid_sub ((ry.mono s3.ext.hid s3.old).dr s3.hid) (rz.dr s3.hid) hu Q fun v hv => k u n3 p v B3 H3 ((s1.trans s2).trans s3) k3 (hv B3)
theorem dt_chain {op op' : CmpOp} {r r' : R2} {f g : D → D → Option D} {a b c : Expr} {ma mb mc : M} {pos : Pos} (ho : OpR X (compareOp op) r) (ho' : OpR X (compareOp op') r') (hf : OpF C.K C.cl r f) (hg : OpF C.K C.cl r' g) (ha : QE X C a ma) (hb : QE X C b mb) (hc : QE X C c mc)
    (hm : lastMarks [op, op'] [b, c] = false := by with_unfolding_all rfl) : DT X C (.Compare a [op, op'] [b, c] pos) (mT (mChain f g ma mb mc)) := pt_weak (pt_chain ho ho' ha hb hc hm) fun _ _ _ => tT_ok fun _ _ _ => t_chain hf hg
end
end DS

/-! DS3: arguments, displays, calls, items, slices, comprehensions. -/
namespace DS
open PySem L2
section
variable {X : Cx} {C : Cn} {K : Fg} {cl : Cl}
/-! ### arguments -/
def mNil : MA := fun _ n P _ => P [] n
def mCons (m : M) (r : MA) : MA := fun ρ n P R => m ρ n (fun d n1 => r ρ n1 (fun as n2 => P (.dat d :: as) n2) R) R
def mSrc (i : Nat) (r : MA) : MA := fun ρ n P R => ρ[i]? = some .src ∧ r ρ n (fun as n2 => P (.src :: as) n2) R
theorem da_nil : DA X C [] mNil := pa_weak pa_nil fun σ H Q ⟨B, ρ, n, P, R, F, w, ox, k⟩ => k [] n w [] B H F.self F.src .nil
theorem da_cons {e : Expr} {es : List Expr} {m : M} {r : MA} (ha : DE X C e m) (hr : DA X C es r) (hs : starEach (e :: es) X.env = (false, eval e X.env) :: starEach es X.env := by rfl) : DA X C (e :: es) (mCons m r) :=
  pa_weak (pa_cons ha hr hs) fun σ H Q ⟨B, ρ, n, P, R, F, w, ox, k⟩ =>
    ⟨B, ρ, n, _, R, F, w, ox, fun d n1 hb v B1 H1 s1 k1 rv => ⟨B1, ρ, n1, _, R, F.step s1 k1, hb, ox.step s1, fun as n2 p vs B2 H2 s2 k2 rs => k _ n2 p (v :: vs) B2 H2 (s1.trans s2) k2 (.cons (.dat (rv.mono s2.old)) rs)⟩⟩
theorem da_src (i : Nat) {x : Str} {pos : Pos} {es : List Expr} {r : MA} (hr : DA X C es r) (hN : X.N[i]? = some x := by rfl) (hv : Vis X.env.scope x := by first | exact Or.inl rfl | exact Or.inr (Or.inl rfl) | exact Or.inr (Or.inr rfl)) (hd : (x == ("__debug__" : Str)) = false := by decide)
    (hcd : (x == ("__classdict__" : Str)) = false := by decide) (hs : starEach (.Name x pos :: es) X.env = (false, eval (.Name x pos) X.env) :: starEach es X.env := by rfl) : DA X C (.Name x pos :: es) (mSrc i r) :=
  pa_weak (pa_cons (pe_var hN hv hd hcd) hr hs) fun σ H Q ⟨B, ρ, n, P, R, F, ⟨e, w⟩, ox, k⟩ => by
    obtain ⟨a, h1, h2⟩ := paired_get F.slo e
    cases h2 with
    | src h => exact ⟨_, h1, B, ρ, n, _, R, F, w, ox, fun as n2 p vs B2 H2 s2 k2 rs => k _ n2 p _ B2 H2 s2 k2 (.cons (.src h) rs)⟩
/-- a list of one's own, lent -/
def mLend (i : Nat) (r : MA) : MA := fun ρ n P R => ∃ ds, (ρ[i]? = some (.own ds) ∨ ρ[i]? = some (.bor ds)) ∧ r ρ n (fun as n2 => P (.bor ds :: as) n2) R
theorem da_lend (i : Nat) {x : Str} {pos : Pos} {es : List Expr} {r : MA} (hr : DA X C es r) (hN : X.N[i]? = some x := by rfl) (hv : Vis X.env.scope x := by first | exact Or.inl rfl | exact Or.inr (Or.inl rfl) | exact Or.inr (Or.inr rfl)) (hd : (x == ("__debug__" : Str)) = false := by decide)
    (hcd : (x == ("__classdict__" : Str)) = false := by decide) (hs : starEach (.Name x pos :: es) X.env = (false, eval (.Name x pos) X.env) :: starEach es X.env := by rfl) : DA X C (.Name x pos :: es) (mLend i r) :=
  pa_weak (pa_cons (pe_var hN hv hd hcd) hr hs) fun σ H Q ⟨B, ρ, n, P, R, F, ⟨ds, e, w⟩, ox, k⟩ => by
    have at_ : ∃ p vs, σ[i]? = some (some (.ref p)) ∧ ¬ inS C.sc p ∧ H p = some (.lst vs) ∧ DRs C.K C.cl B vs ds := by
      rcases e with e | e
      · obtain ⟨a, h1, h2⟩ := paired_get F.slo e
        cases h2 with
        | own h0 hB hs h r => exact ⟨_, _, h1, hs, h, r⟩
      · obtain ⟨a, h1, h2⟩ := paired_get F.slo e
        cases h2 with
        | bor h0 hs h r => exact ⟨_, _, h1, hs, h, r⟩
    obtain ⟨p, vs0, h1, hs, h, r0⟩ := at_
    exact ⟨_, h1, B, ρ, n, _, R, F, w, ox, fun as n2 p vs B2 H2 s2 k2 rs => k _ n2 p _ B2 H2 s2 k2 (.cons (.bor hs (s2.ext _ _ hs h) (r0.mono s2.old)) rs)⟩
def datAll : List Sl → Option (List D)
  | [] => some []
  | .dat d :: r => (datAll r).map (d :: ·)
  | _ :: _ => none
theorem datAll_rel {sc : Sc} {B H : Hp} : ∀ {vs : List V} {as : List Sl} {ds : List D}, Paired (AgR K cl sc B H) vs as → datAll as = some ds → DRs K cl B vs ds
  | _, [], _, .nil, e => by cases e; exact .nil
  | _, .dat d :: r, ds, .cons (.dat h) t, e => by
    unfold datAll at e
    cases q : datAll r with
    | none => rw [q] at e; cases e
    | some es => rw [q] at e; cases e; exact .cons h (datAll_rel t q)
  | _, .src :: r, ds, .cons (.src h) t, e => by cases e
  | _, .bor _ :: r, ds, .cons (.bor _ _ _) t, e => by cases e
/-! ### displays -/
def mTup (a : MA) : M := fun ρ n P R => a ρ n (fun as n1 => ∃ ds, datAll as = some ds ∧ ds.length ≤ sizeLine ∧ P (.tuple ds) n1) R
def mLst (a : MA) : ML := fun ρ n P R => a ρ n (fun as n1 => ∃ ds, datAll as = some ds ∧ ds.length ≤ sizeLine ∧ P ds n1) R
theorem fresh_of {sc : Sc} {B H B' H' : Hp} {p : Addr} {n : Nat} (s : Stp sc B H B' H') (h : H' p = none) (k : SrcOk sc H' n) : H p = none := by
  cases e : H p with
  | none => rfl
  | some o =>
    have hs : ¬ inS sc p := src_new k h
    rw [s.ext p o hs e] at h; cases h
theorem none_of {sc : Sc} {B H B' H' : Hp} {p : Addr} (s : Stp sc B H B' H') (h : H' p = none) : B' p = none := by
  cases e : B' p with
  | none => rfl
  | some o => rw [s.sub p o e] at h; cases h
/-- a new settled object -/
theorem Stp.put {sc : Sc} {B H B' H' : Hp} {p : Addr} {o : HO} {n : Nat} (s : Stp sc B H B' H') (h : H' p = none) (k : SrcOk sc H' n) : Stp sc B H (upd B' p o) (upd H' p o) :=
  (s.lay h).settle (fresh_of s h k) upd_same (none_of s h) (src_new k h)
theorem de_tup {es : List Expr} {a : MA} {pos : Pos} {x2} (h : DA X C es a) : DE X C (.Tuple es x2 pos) (mTup a) := pe_weak (pe_tup h) fun σ H Q ⟨B, ρ, n, P, R, F, w, ox, k⟩ =>
  ⟨B, ρ, n, _, R, F, w, ox, fun as n1 ⟨ds, e, l, p⟩ vs B1 H1 s1 k1 rs => ⟨by rw [(datAll_rel rs e).length]; exact l, fun q hq => k _ n1 p (.ref q) (upd B1 q (.tup vs)) _ (s1.put hq k1) (src_lay k1 hq)
    (.tup (SqT.of upd_same) ((datAll_rel rs e).mono (same_upd (none_of s1 hq))))⟩⟩
theorem le_lst {es : List Expr} {a : MA} {pos : Pos} (h : DA X C es a) : LE X C (.List es pos) (mLst a) := pe_weak (pe_lst h) fun σ H Q ⟨B, ρ, n, P, R, F, w, ox, k⟩ =>
  ⟨B, ρ, n, _, R, F, w, ox, fun as n1 ⟨ds, e, l, p⟩ vs B1 H1 s1 k1 rs => ⟨by rw [(datAll_rel rs e).length]; exact l, fun q hq => k _ n1 p q vs B1 _ (fresh_of s1 hq k1) (s1.lay hq) (none_of s1 hq) (src_lay k1 hq) upd_same (datAll_rel rs e)⟩⟩
/-! ### calls of the text's own defs -/
abbrev G := List Sl → Nat → PD → PX → Prop
def spW (K : Fg) (cl : Cl) (ar : Nat) (g : G) : Sp := fun vs H Q E => ∃ sc B n as P R, Same B H ∧ (∀ a, inS sc a → B a = none) ∧ SrcOk sc H n ∧ Paired (AgR K cl sc B H) vs as ∧ as.length = ar ∧ g as n P R ∧ OkX ⟨K, cl, sc, H, B, E⟩ B H R ∧
  ∀ d n', P d n' → ∀ v B' H', Stp sc B H B' H' → SrcOk sc H' n' → DR K cl B' v d → Q v H'
def mCall (g : G) (ar : Nat) (a : MA) : M := fun ρ n P R => a ρ n (fun as n1 => as.length = ar ∧ g as n1 P R) R
theorem t_call {g : G} {ar : Nat} {a : MA} {σ : St} {H : Hp} {Q : VK} (h : tD C (mCall g ar a) σ H Q) : tCall (spW C.K C.cl ar g) [] C.E (tA C a) σ H Q := by
  obtain ⟨B, ρ, n, P, R, F, w, ox, k⟩ := h
  refine ⟨B, ρ, n, _, R, F, w, ox, fun as n1 q vs B1 H1 s1 k1 rs => ?_⟩
  show spW C.K C.cl ar g (vs ++ []) H1 Q C.E
  rw [List.append_nil]
  exact ⟨C.sc, B1, n1, as, P, R, s1.sub, s1.nos, k1, rs, q.1, q.2, ox.step s1, fun d n' p v B' H' s2 k2 r => k d n' p v B' H' (s1.trans s2) k2 r⟩
theorem de_call {k ar : Nat} {f : Addr} {fd : FuncData} {ps : List Str} {g : G} {a : MA} {x : Str} {p pos : Pos} {e : Expr} {es : List Expr} (F : FnOk X.prog X.w X.K X.mg X.base (L2.CX X.prog X.w) k f fd ps (spW C.K C.cl ar g)) (hr : Room k X.A) (hg : Gl X x) (hm : X.mg x = some (.ref f))
    (hk : PySem.W.keepIn X.K (.ref f) = true) (hb : Binds X.K fd ps []) (hx : Passes (L2.CX X.prog X.w) X C.E) (ha : DA X C (e :: es) a) (hdb : (x == ("__debug__" : Str)) = false := by decide)
    (he : starEach (e :: es) X.env = (false, eval e X.env) :: starEach es X.env := by rfl) (hpl : (backTo pos (starEach es X.env)).any (·.1) = false := by rfl) : DE X C (.Call (.Name x p) (e :: es) [] pos) (mCall g ar a) :=
  pe_weak (pe_call F hr hg hm hk hb .nil hx ha hdb he hpl) fun _ _ _ => t_call
theorem de_call0 {k ar : Nat} {f : Addr} {fd : FuncData} {ps : List Str} {g : G} {x : Str} {p pos : Pos} (F : FnOk X.prog X.w X.K X.mg X.base (L2.CX X.prog X.w) k f fd ps (spW C.K C.cl ar g)) (hr : Room k X.A) (hg : Gl X x) (hm : X.mg x = some (.ref f))
    (hk : PySem.W.keepIn X.K (.ref f) = true) (hb : Binds X.K fd ps []) (hx : Passes (L2.CX X.prog X.w) X C.E) (hdb : (x == ("__debug__" : Str)) = false := by decide) : DE X C (.Call (.Name x p) [] [] pos) (mCall g ar mNil) :=
  pe_weak (pe_call0 F hr hg hm hk hb .nil hx hdb) fun σ H Q ⟨B, ρ, n, P, R, F, w, ox, k⟩ => by
    show spW C.K C.cl ar g ([] ++ []) H Q C.E
    exact ⟨C.sc, B, n, [], P, R, F.sub, F.nos, F.src, .nil, w.1, w.2, ox, k⟩
/-! ### items -/
def fIx (x y : D) : Option D := match x, y with
  | .list ds, .int i => atI ds i
  | .tuple ds, .int i => atI ds i
  | .str z, .int i => if z.length ≤ sizeLine then (atI z.cps.toList i).map fun c => .str ⟨#[c]⟩ else none
  | _, _ => none
def mIx (a b : M) : M := m2 fIx a b
theorem atI_rel {A : Hp} {vs : List V} {ds : List D} {i : Int} {d : D} (h : DRs K cl A vs ds) (e : atI ds i = some d) : ∃ v, atI vs i = some v ∧ DR K cl A v d := by
  unfold atI at e ⊢
  rw [h.length]
  cases q : ixN ds.length i with
  | none => rw [q] at e; cases e
  | some j =>
    rw [q] at e
    exact h.getV e
theorem de_ix {x y : Expr} {a b : M} {pos : Pos} (hK : X.K = C.K) (ha : QE X C x a) (hb : QE X C y b) (hs : PlainIx y) : DE X C (.Subscript x y pos) (mIx a b) := pe_weak (pe_ix ix_seq ha hb hs) fun σ H Q ⟨B, ρ, n, P, R, F, w, ox, k⟩ => by
  rw [hK]
  refine ⟨B, ρ, n, _, R, F, w, ox, fun dx n1 hb x B1 H1 s1 k1 rx => ⟨B1, ρ, n1, _, R, F.step s1 k1, hb, ox.step s1, fun dy n2 hz y B2 H2 s2 k2 ry => ?_⟩⟩
  obtain ⟨z, hz, p⟩ := hz
  have rx2 := rx.mono s2.ext.hid s2.old
  have fin := fun v (h : DR C.K C.cl B2 v z) => k z n2 p v B2 H2 (s1.trans s2) k2 h
  cases ry with
  | lst _ _ => exact absurd hz (by cases dx <;> simp [fIx])
  | set ry =>
    cases rx2 with
    | lst h r =>
      cases ry <;> first
        | (simp [fIx] at hz; done)
        | (obtain ⟨v, h1, h2⟩ := atI_rel r hz
           exact .inl ⟨_, _, _, v, rfl, rfl, SqL.of (hid_sub _ _ h), h1, fin v h2⟩)
    | set rx =>
      cases rx with
      | lst h r =>
        cases ry <;> first
          | (simp [fIx] at hz; done)
          | (obtain ⟨v, h1, h2⟩ := atI_rel r hz
             exact .inl ⟨_, _, _, v, rfl, rfl, SqL.of (s2.sub _ _ h), h1, fin v h2⟩)
      | tup h r =>
        cases ry <;> first
          | (simp [fIx] at hz; done)
          | (obtain ⟨v, h1, h2⟩ := atI_rel r hz
             exact .inr (.inl ⟨_, _, _, v, rfl, rfl, sqt_same s2.sub h, h1, fin v h2⟩))
      | str w =>
        cases ry <;> first
          | (simp [fIx] at hz; done)
          | (rename_i i
             have hz' : (if w.length ≤ sizeLine then (atI w.cps.toList i).map (fun c => (PyData.str ⟨#[c]⟩ : D)) else none) = some z := hz
             have h1 : w.length ≤ sizeLine := by
               by_cases q : w.length ≤ sizeLine
               · exact q
               · rw [if_neg q] at hz'; cases hz'
             rw [if_pos h1] at hz'
             have h2 := hz'
             obtain ⟨c, e1, e2⟩ := Option.map_eq_some_iff.mp h2
             subst e2
             exact .inr (.inr ⟨w, _, c, rfl, rfl, h1, e1, fin _ (.str _)⟩))
      | non => exact absurd hz (by cases dy <;> simp [fIx])
      | bl _ => exact absurd hz (by cases dy <;> simp [fIx])
      | int _ => exact absurd hz (by cases dy <;> simp [fIx])
      | ins _ _ _ _ => exact absurd hz (by cases dy <;> simp [fIx])
end
end DS

/-! DS4: what is walked, comprehensions; slices, sums of lists, built-in functions. -/
namespace DS
open PySem L2
section
variable {X : Cx} {C : Cn} {K : Fg} {cl : Cl}
/-! ### built-in functions, one argument, an answer that is no object -/
def CF1 (K : Fg) (cl : Cl) (r : List V → Hp → VK → Prop) (f : D → Option D) : Prop := ∀ (A H : Hp) (x : V) (dx z : D), Same A H → DR K cl A x dx → f dx = some z → ∀ Q : VK, (∀ v, (∀ A', DR K cl A' v z) → Q v H) → r [x] H Q
def CF2 (K : Fg) (cl : Cl) (r : List V → Hp → VK → Prop) (f : D → D → Option D) : Prop := ∀ (A H : Hp) (x y : V) (dx dy z : D), Same A H → DR K cl A x dx → DR K cl A y dy → f dx dy = some z → ∀ Q : VK, (∀ v, (∀ A', DR K cl A' v z) → Q v H) → r [x, y] H Q
def m1 (f : D → Option D) (a : M) : M := fun ρ n P R => a ρ n (fun x n1 => ∃ z, f x = some z ∧ P z n1) R
theorem t_cb1 {r : List V → Hp → VK → Prop} {f : D → Option D} {a : M} (hf : CF1 C.K C.cl r f) {σ : St} {H : Hp} {Q : VK} (h : tD C (m1 f a) σ H Q) : tCB r (tCons (tQ C a) tNil) σ H Q := by
  obtain ⟨B, ρ, n, P, R, F, w, ox, k⟩ := h
  refine ⟨B, ρ, n, _, R, F, w, ox, fun dx n1 hz x B1 H1 s1 k1 rx => ?_⟩
  obtain ⟨z, hz, p⟩ := hz
  exact hf (hid C.sc H1) H1 x dx z hid_sub (rx.dr s1.hid) hz Q fun v hv => k z n1 p v B1 H1 s1 k1 (hv B1)
theorem t_cb2 {r : List V → Hp → VK → Prop} {f : D → D → Option D} {a b : M} (hf : CF2 C.K C.cl r f) {σ : St} {H : Hp} {Q : VK} (h : tD C (m2 f a b) σ H Q) : tCB r (tCons (tQ C a) (tCons (tQ C b) tNil)) σ H Q := by
  obtain ⟨B, ρ, n, P, R, F, w, ox, k⟩ := h
  refine ⟨B, ρ, n, _, R, F, w, ox, fun dx n1 hb x B1 H1 s1 k1 rx => ⟨B1, ρ, n1, _, R, F.step s1 k1, hb, ox.step s1, fun dy n2 hz y B2 H2 s2 k2 ry => ?_⟩⟩
  obtain ⟨z, hz, p⟩ := hz
  exact hf (hid C.sc H2) H2 x y dx dy z hid_sub ((rx.mono s2.ext.hid s2.old).dr s2.hid) (ry.dr s2.hid) hz Q fun v hv => k z n2 p v B2 H2 (s1.trans s2) k2 (hv B2)
theorem de_cb1 {id : String} {r : List V → Hp → VK → Prop} {f : D → Option D} {a : M} {x : Str} {e : Expr} {p pos : Pos} (hc : CallR X (.builtin id) r) (hf : CF1 C.K C.cl r f) (hg : Gl X x) (hm : X.mg x = none) (hv : bootBuiltins x = some (.builtin id)) (ha : QE X C e a)
    (hn : x ≠ "__name__" := by decide) (hdb : (x == ("__debug__" : Str)) = false := by decide) (he : starEach (e :: []) X.env = (false, eval e X.env) :: starEach [] X.env := by rfl) : DE X C (.Call (.Name x p) [e] [] pos) (m1 f a) :=
  pe_weak (pe_callB hc hg hm hv (pa_cons ha pa_nil he) hn hdb he) fun _ _ _ => t_cb1 hf
theorem de_ct1 {T : String} {r : List V → Hp → VK → Prop} {f : D → Option D} {a : M} {x : Str} {e : Expr} {p pos : Pos} (hc : CallR X (.type T) r) (hf : CF1 C.K C.cl r f) (hg : Gl X x) (hm : X.mg x = none) (hv : bootBuiltins x = some (.type T)) (ha : QE X C e a)
    (hn : x ≠ "__name__" := by decide) (hdb : (x == ("__debug__" : Str)) = false := by decide) (he : starEach (e :: []) X.env = (false, eval e X.env) :: starEach [] X.env := by rfl) : DE X C (.Call (.Name x p) [e] [] pos) (m1 f a) :=
  pe_weak (pe_callTy hc hg hm hv (pa_cons ha pa_nil he) hn hdb he) fun _ _ _ => t_cb1 hf
theorem de_cb2 {id : String} {r : List V → Hp → VK → Prop} {f : D → D → Option D} {a b : M} {x : Str} {e e2 : Expr} {p pos : Pos} (hc : CallR X (.builtin id) r) (hf : CF2 C.K C.cl r f) (hg : Gl X x) (hm : X.mg x = none) (hv : bootBuiltins x = some (.builtin id)) (ha : QE X C e a) (hb : QE X C e2 b)
    (hn : x ≠ "__name__" := by decide) (hdb : (x == ("__debug__" : Str)) = false := by decide) (he : starEach (e :: [e2]) X.env = (false, eval e X.env) :: starEach [e2] X.env := by rfl) (he2 : starEach (e2 :: []) X.env = (false, eval e2 X.env) :: starEach [] X.env := by rfl) (hpl : (backTo pos (starEach [e2] X.env)).any (·.1) = false := by rfl) : DE X C (.Call (.Name x p) [e, e2] [] pos) (m2 f a b) :=
  pe_weak (pe_callB hc hg hm hv (pa_cons ha (pa_cons hb pa_nil he2) he) hn hdb he hpl) fun _ _ _ => t_cb2 hf
/-- len -/
def fLen : D → Option D
  | .list ds => some (.int ds.length)
  | .tuple ds => some (.int ds.length)
  | .str z => if z.length ≤ sizeLine then some (.int z.length) else none
  | _ => none
theorem f_len : CF1 K cl (fun xs H Q => ∃ x n, xs = [x] ∧ LenV K x H n ∧ Q (.int n) H) fLen := fun A H x dx z s hx e Q q => by
  cases hx with
  | lst h r => cases e; exact ⟨_, _, rfl, .inl ⟨_, SqL.of (s _ _ h), rfl⟩, q _ fun _ => by rw [r.length]; exact .int _⟩
  | tup h r => cases e; exact ⟨_, _, rfl, .inr ⟨_, sqt_same s h, rfl⟩, q _ fun _ => by rw [r.length]; exact .int _⟩
  | str y =>
    obtain ⟨h1, rfl⟩ := ite_some' (show (if y.length ≤ sizeLine then some (PyData.int (y.length : Int)) else none) = some z from e)
    exact ⟨_, _, rfl, ⟨h1, rfl⟩, q _ fun _ => .int _⟩
  | non => cases e
  | bl _ => cases e
  | int _ => cases e
  | ins _ _ _ _ => cases e
def fAbs : D → Option D
  | .int i => some (.int (if i < 0 then -i else i))
  | _ => none
theorem f_abs : CF1 K cl (fun xs H Q => ∃ i, xs = [.int i] ∧ Q (.int (if i < 0 then -i else i)) H) fAbs := fun A H x dx z s hx e Q q => by
  cases hx <;> cases e
  exact ⟨_, rfl, q _ fun _ => .int _⟩
def fInt : D → Option D
  | .int i => some (.int i)
  | .bool b => some (.int (if b then 1 else 0))
  | _ => none
theorem f_int : CF1 K cl (fun xs H Q => (∃ i, xs = [.int i] ∧ Q (.int i) H) ∨ ∃ k, xs = [.bl k] ∧ Q (.int (if k then 1 else 0)) H) fInt := fun A H x dx z s hx e Q q => by
  cases hx <;> cases e
  · exact .inr ⟨_, rfl, q _ fun _ => .int _⟩
  · exact .inl ⟨_, rfl, q _ fun _ => .int _⟩
abbrev fMax := fI fun i j => .int (if j > i then j else i)
abbrev fMin := fI fun i j => .int (if j < i then j else i)
theorem f_max : CF2 K cl (fun xs H Q => ∃ i j, xs = [.int i, .int j] ∧ Q (.int (if j > i then j else i)) H) fMax := fun A H x y dx dy z s hx hy e Q q => by
  cases hx <;> cases hy <;> cases e
  exact ⟨_, _, rfl, q _ fun _ => .int _⟩
theorem f_min : CF2 K cl (fun xs H Q => ∃ i j, xs = [.int i, .int j] ∧ Q (.int (if j < i then j else i)) H) fMin := fun A H x y dx dy z s hx hy e Q q => by
  cases hx <;> cases hy <;> cases e
  exact ⟨_, _, rfl, q _ fun _ => .int _⟩
/-- -i -/
def fNeg : D → Option D
  | .int i => some (.int (-i))
  | _ => none
theorem de_neg {a : Expr} {m : M} {pos : Pos} (h : QE X C a m) : DE X C (.UnaryOp .USub a pos) (m1 fNeg m) := pe_weak (pe_un un_neg h) fun σ H Q ⟨B, ρ, n, P, R, F, w, ox, k⟩ =>
  ⟨B, ρ, n, _, R, F, w, ox, fun dx n1 ⟨z, hz, p⟩ x B1 H1 s1 k1 rx => by
    have r := rx.dr s1.hid
    cases r <;> cases hz
    exact ⟨_, rfl, k _ n1 p _ B1 H1 s1 k1 (.int _)⟩⟩
/-! ### isinstance with a built-in class -/
/-- the class of data -/
def clsOf : D → Option String
  | .none => some "NoneType"
  | .bool _ => some "bool"
  | .int _ => some "int"
  | .str _ => some "str"
  | .list _ => some "list"
  | .tuple _ => some "tuple"
  | .dict _ => none
def fIs (T : String) (x : D) : Option D := (clsOf x).bind fun c => (kitB c T).map .bool
theorem tyx_of {A H : Hp} {x : V} {dx : D} {c : String} (s : Same A H) (h : DR K cl A x dx) (e : clsOf dx = some c) : TyX K H x (.type c) := by
  cases h with
  | non => cases e; exact .base .non
  | bl _ => cases e; exact .base (.bl _)
  | int _ => cases e; exact .base (.int _)
  | str _ => cases e; exact .base (.str _)
  | lst h _ => cases e; exact .base (.lst (s _ _ h))
  | tup h _ =>
    cases e
    rcases h with (h | ⟨o, h⟩) | ⟨o, its, n, h1, h2, _⟩
    · exact .base (.tup (s _ _ h))
    · exact .fTuple (s _ _ h)
    · exact .kTuple h1 h2
  | ins _ _ _ _ => cases e
def mIs (T : String) (m : M) : M := m1 (fIs T) m
theorem de_is {T : String} {a : M} {e t : Expr} {p pos : Pos} (hK : X.K = C.K) (hg : Gl X "isinstance") (hm : X.mg "isinstance" = none) (ha : QE X C e a) (ht : PE X t (tC (.ty T)))
    (he : starEach (e :: [t]) X.env = (false, eval e X.env) :: starEach [t] X.env := by rfl) (he2 : starEach (t :: []) X.env = (false, eval t X.env) :: starEach [] X.env := by rfl) (hpl : (backTo pos (starEach [t] X.env)).any (·.1) = false := by rfl) : DE X C (.Call (.Name "isinstance" p) [e, t] [] pos) (mIs T a) :=
  pe_weak (pe_callB call_isi hg hm (by decide +kernel) (pa_cons ha (pa_cons ht pa_nil he2) he) (by decide) (by decide) he hpl) fun σ H Q ⟨B, ρ, n, P, R, F, w, ox, k⟩ => by
    refine ⟨B, ρ, n, _, R, F, w, ox, fun dx n1 hz x B1 H1 s1 k1 rx => ?_⟩
    obtain ⟨z, hz, p⟩ := hz
    unfold fIs at hz
    obtain ⟨c, e1, e2⟩ := Option.bind_eq_some_iff.mp hz
    obtain ⟨b, e3, e4⟩ := Option.map_eq_some_iff.mp e2
    subst e4
    refine ⟨x, .ty T, .type c, .type T, b, rfl, .ty T, ?_, kit_ty e3, k _ n1 p _ B1 H1 s1 k1 (.bl b)⟩
    rw [hK]
    exact tyx_of hid_sub (rx.dr s1.hid) e1
/-! ### targets -/
abbrev GD := D → Env → Option Env
/-- the target's store, on data -/
def GOk (C : Cn) (g : TG) (gd : GD) : Prop := ∀ (B H : Hp) (σ : St) (ρ ρ1 : Env) (n : Nat) (v : V) (d : D), Fr C B σ H ρ n → DR C.K C.cl B v d → gd d ρ = some ρ1 → ∀ Q : St → Hp → Prop, (∀ σ1, Fr C B σ1 H ρ1 n → Q σ1 H) → g v σ H Q
theorem Fr.set {B H : Hp} {σ : St} {ρ : Env} {n : Nat} {v : V} {d : D} (F : Fr C B σ H ρ n) (h : DR C.K C.cl B v d) (i : Nat) : Fr C B (σ.set i (some v)) H (ρ.set i (.dat d)) n :=
  { F with
    slo := paired_set (.dat h) i F.slo
    dis := dis_set F.dis i _ rfl }
def gdName (i : Nat) : GD := fun d ρ => some (ρ.set i (.dat d))
theorem g_name (i : Nat) : GOk C (gName i) (gdName i) := fun B H σ ρ ρ1 n v d F h e Q q => by
  cases e
  exact q _ (F.set h i)
/-- a, b, .. of a tuple -/
def setAll : List Nat → List D → Env → Env
  | i :: is, d :: ds, ρ => setAll is ds (ρ.set i (.dat d))
  | _, _, ρ => ρ
def gdTup (is : List Nat) : GD := fun d ρ => match d with
  | .tuple ds => if ds.length = is.length then some (setAll is ds ρ) else none
  | _ => none
def gNames : List Nat → TGs
  | [] => gNil
  | i :: is => gCons (gName i) (gNames is)
theorem g_names : ∀ (is : List Nat) (vs : List V) (ds : List D) {B H : Hp} {σ : St} {ρ : Env} {n : Nat}, Fr C B σ H ρ n → DRs C.K C.cl B vs ds → ds.length = is.length → ∀ Q : St → Hp → Prop, (∀ σ1, Fr C B σ1 H (setAll is ds ρ) n → Q σ1 H) → gNames is vs σ H Q
  | [], vs, ds, B, H, σ, ρ, n, F, h, e, Q, q => by
    cases ds with
    | nil => cases h; exact ⟨rfl, q σ F⟩
    | cons _ _ => cases e
  | i :: is, vs, ds, B, H, σ, ρ, n, F, h, e, Q, q => by
    cases ds with
    | nil => cases e
    | cons d ds =>
      cases h with
      | cons h t => exact ⟨_, _, rfl, g_names is _ ds (F.set h i) t (by simpa using e) Q q⟩
theorem g_tup (is : List Nat) : GOk C (gTup C.K is.length (gNames is)) (gdTup is) := fun B H σ ρ ρ1 n v d F h e Q q => by
  cases h with
  | tup h t =>
    obtain ⟨h1, rfl⟩ := ite_some' e
    exact ⟨_, _, rfl, sqt_same F.sub h, by rw [t.length]; exact h1, g_names is _ _ F t h1 Q q⟩
  | non => cases e
  | bl _ => cases e
  | int _ => cases e
  | str _ => cases e
  | lst _ _ => cases e
  | ins _ _ _ _ => cases e
/-! ### what is walked -/
/-- J gives the data ds, wherever Kp holds -/
def Wk (C : Cn) (J : It) (ds : List D) (Kp : Hp → Hp → Prop) : Prop := ∀ (B H : Hp) (i n : Nat), Kp B H → Same B H → (∀ a, inS C.sc a → B a = none) → SrcOk C.sc H n →
  (i < ds.length → J.go i H ∧ ∀ x H', J.yld i H x H' → ∃ B' d, ds[i]? = some d ∧ Stp C.sc B H B' H' ∧ SrcOk C.sc H' n ∧ DR C.K C.cl B' x d) ∧ (ds.length ≤ i → J.stop i H)
abbrev MI := Env → Nat → (List D → Nat → Prop) → PX → Prop
/-- a walk over settled things -/
def tI (C : Cn) (m : MI) : TI := fun σ H R => ∃ B ρ n P R0, Fr C B σ H ρ n ∧ m ρ n P R0 ∧ OkX C B H R0 ∧ ∀ ds n', P ds n' → ∀ J B' H', Stp C.sc B H B' H' → SrcOk C.sc H' n' → Wk C J ds (fun B H => Same B' B) → R J H'
/-- a walk while nothing of one's own changes -/
def tIq (C : Cn) (m : MI) : TI := fun σ H R => ∃ B ρ n P R0, Fr C B σ H ρ n ∧ m ρ n P R0 ∧ OkX C B H R0 ∧ ∀ ds n', P ds n' → ∀ J B' H' Kp, Stp C.sc B H B' H' → SrcOk C.sc H' n' → Kp B' H' → (∀ B H B' H', Kp B H → Stp C.sc B H B' H' → Kp B' H') → Wk C J ds Kp → R J H'
abbrev IE (X : Cx) (C : Cn) (tg e : Expr) (m : MI) : Prop := PI X tg e (tI C m)
abbrev IQ (X : Cx) (C : Cn) (tg e : Expr) (m : MI) : Prop := PI X tg e (tIq C m)
theorem iq_of {tg e : Expr} {m : MI} (h : IE X C tg e m) : IQ X C tg e m := pi_weak h fun σ H R ⟨B, ρ, n, P, R0, F, w, ox, k⟩ =>
  ⟨B, ρ, n, P, R0, F, w, ox, fun ds n' p J B' H' s c wk => k ds n' p J B' H' (fun B H => Same B' B) s c (Same.refl _) (fun _ _ _ _ h s => h.trans s.old) wk⟩
theorem wk_list {a : Addr} {vs : List V} {ds : List D} {Kp : Hp → Hp → Prop} (h : ∀ B H, Kp B H → Same B H → H a = some (.lst vs) ∧ DRs C.K C.cl B vs ds) : Wk C (Itl C.K a) ds Kp := fun B H i n kp s ns sr => by
  obtain ⟨h1, r⟩ := h B H kp s
  refine ⟨fun hi => ⟨?_, fun x H' y => ?_⟩, fun hi => ⟨vs, SqL.of h1, by rw [r.length]; exact hi⟩⟩
  · have hi' : i < vs.length := by rw [r.length]; exact hi
    exact ⟨vs, vs[i], SqL.of h1, List.getElem?_eq_getElem hi'⟩
  · obtain ⟨rfl, y⟩ := y
    obtain ⟨d, e, q⟩ := r.get (y vs (SqL.of h1))
    exact ⟨B, d, e, Stp.refl s ns, sr, q⟩
theorem wk_tup {a : Addr} {vs : List V} {ds : List D} {Kp : Hp → Hp → Prop} (h : ∀ B H, Kp B H → Same B H → SqT C.K H a vs ∧ DRs C.K C.cl B vs ds) : Wk C (Itt C.K a) ds Kp := fun B H i n kp s ns sr => by
  obtain ⟨h1, r⟩ := h B H kp s
  refine ⟨fun hi => ⟨?_, fun x H' y => ?_⟩, fun hi => ⟨vs, h1, by rw [r.length]; exact hi⟩⟩
  · have hi' : i < vs.length := by rw [r.length]; exact hi
    exact ⟨vs, vs[i], h1, List.getElem?_eq_getElem hi'⟩
  · obtain ⟨rfl, y⟩ := y
    obtain ⟨d, e, q⟩ := r.get (y vs h1)
    exact ⟨B, d, e, Stp.refl s ns, sr, q⟩
theorem hid_not {sc : Sc} {H : Hp} {a : Addr} {o : HO} (h : hid sc H a = some o) : ¬ inS sc a := fun z => by
  unfold hid at h; rw [if_pos z] at h; cases h
/-- the items of a list -/
def mItems (m : M) : MI := fun ρ n P R => m ρ n (fun d n1 => ∃ ds, d = .list ds ∧ P ds n1) R
def mItemsT (m : M) : MI := fun ρ n P R => m ρ n (fun d n1 => ∃ ds, d = .tuple ds ∧ P ds n1) R
theorem ie_list {tg e : Expr} {m : M} (hK : X.K = C.K) (h : DE X C e m) : IE X C tg e (mItems m) := pi_weak (pi_list h) fun σ H R ⟨B, ρ, n, P, R0, F, w, ox, k⟩ => by
  rw [hK]
  refine ⟨B, ρ, n, _, R0, F, w, ox, fun d n1 p v B1 H1 s1 k1 r => ?_⟩
  obtain ⟨ds, rfl, p⟩ := p
  cases r with
  | lst h t => exact ⟨_, rfl, ⟨_, SqL.of (s1.sub _ _ h)⟩, k ds n1 p _ B1 H1 s1 k1 (wk_list fun B' H' kp s => ⟨s _ _ (kp _ _ h), t.mono kp⟩)⟩
theorem ie_tup {tg e : Expr} {m : M} (hK : X.K = C.K) (h : DE X C e m) : IE X C tg e (mItemsT m) := pi_weak (pi_tup h) fun σ H R ⟨B, ρ, n, P, R0, F, w, ox, k⟩ => by
  rw [hK]
  refine ⟨B, ρ, n, _, R0, F, w, ox, fun d n1 p v B1 H1 s1 k1 r => ?_⟩
  obtain ⟨ds, rfl, p⟩ := p
  cases r with
  | tup h t => exact ⟨_, rfl, ⟨_, sqt_same s1.sub h⟩, k ds n1 p _ B1 H1 s1 k1 (wk_tup fun B' H' kp s => ⟨sqt_same s (sqt_same kp h), t.mono kp⟩)⟩
theorem iq_list {tg e : Expr} {m : M} (hK : X.K = C.K) (h : QE X C e m) : IQ X C tg e (mItems m) := pi_weak (pi_list h) fun σ H R ⟨B, ρ, n, P, R0, F, w, ox, k⟩ => by
  rw [hK]
  refine ⟨B, ρ, n, _, R0, F, w, ox, fun d n1 p v B1 H1 s1 k1 r => ?_⟩
  obtain ⟨ds, rfl, p⟩ := p
  cases r with
  | set r =>
    cases r with
    | lst h t => exact ⟨_, rfl, ⟨_, SqL.of (s1.sub _ _ h)⟩, k ds n1 p _ B1 H1 (fun B H => Same B1 B) s1 k1 (Same.refl _) (fun _ _ _ _ h s => h.trans s.old) (wk_list fun B' H' kp s => ⟨s _ _ (kp _ _ h), t.mono kp⟩)⟩
  | @lst a xs _ h t => exact ⟨_, rfl, ⟨_, SqL.of (hid_sub _ _ h)⟩, k ds n1 p _ B1 H1 (fun B H => (¬ inS C.sc a ∧ H a = some (.lst xs)) ∧ DRs C.K C.cl B xs ds) s1 k1
      ⟨⟨hid_not h, hid_sub _ _ h⟩, t⟩ (fun _ _ _ _ h s => ⟨⟨h.1.1, s.ext _ _ h.1.1 h.1.2⟩, h.2.mono s.old⟩) (wk_list fun B' H' kp s => ⟨kp.1.2, kp.2⟩)⟩
/-- range(n), range(a, b) -/
def rngD (lo : Int) (n : Nat) : List D := (List.range n).map fun (i : Nat) => .int (lo + (i : Int))
theorem wk_rng {lo : Int} {k : Nat} {Kp : Hp → Hp → Prop} : Wk C (Itr lo k) (rngD lo k) Kp := fun B H i n kp s ns sr => by
  have hl : (rngD lo k).length = k := by unfold rngD; rw [List.length_map, List.length_range]
  rw [hl]
  refine ⟨fun hi => ⟨hi, fun x H' y => ?_⟩, fun hi => hi⟩
  obtain ⟨rfl, rfl⟩ := y
  refine ⟨B, .int (lo + i), ?_, Stp.refl s ns, sr, .int _⟩
  unfold rngD
  rw [List.getElem?_map, List.getElem?_range hi]
  rfl
def mRng1 (m : M) : MI := fun ρ n P R => m ρ n (fun d n1 => ∃ j : Int, d = .int j ∧ (-(2 ^ 62) ≤ j ∧ j < 2 ^ 62) ∧ P (rngD 0 j.toNat) n1) R
def mRng2 (a b : M) : MI := fun ρ n P R => a ρ n (fun d n1 => b ρ n1 (fun e n2 => ∃ i j : Int, d = .int i ∧ e = .int j ∧ (-(2 ^ 62) ≤ i ∧ i < 2 ^ 62 ∧ -(2 ^ 62) ≤ j ∧ j < 2 ^ 62) ∧ P (rngD i (j - i).toNat) n2) R) R
theorem ie_rng1 {tg a : Expr} {m : M} {p pos : Pos} (hg : Gl X "range") (hm : X.mg "range" = none) (h : DE X C a m) (hs : starEach [a] X.env = [(false, eval a X.env)] := by rfl) : IE X C tg (.Call (.Name "range" p) [a] [] pos) (mRng1 m) :=
  pi_weak (pi_range1 hg hm (pa_cons h pa_nil hs) hs) fun σ H R ⟨B, ρ, n, P, R0, F, w, ox, k⟩ => by
    refine ⟨B, ρ, n, _, R0, F, w, ox, fun d n1 p v B1 H1 s1 k1 r => ?_⟩
    obtain ⟨j, rfl, ⟨h1, h2⟩, p⟩ := p
    cases r
    exact ⟨j, rfl, h1, h2, k _ n1 p _ B1 H1 s1 k1 wk_rng⟩
theorem ie_rng2 {tg a b : Expr} {ma mb : M} {p pos : Pos} (hg : Gl X "range") (hm : X.mg "range" = none) (ha : DE X C a ma) (hb : DE X C b mb) (hs : starEach [a, b] X.env = [(false, eval a X.env), (false, eval b X.env)] := by rfl) (hs2 : starEach [b] X.env = [(false, eval b X.env)] := by rfl)
    (hs3 : starEach (a :: [b]) X.env = (false, eval a X.env) :: starEach [b] X.env := by rfl) : IE X C tg (.Call (.Name "range" p) [a, b] [] pos) (mRng2 ma mb) :=
  pi_weak (pi_range2 hg hm (pa_cons ha (pa_cons hb pa_nil hs2) hs3) hs hs2) fun σ H R ⟨B, ρ, n, P, R0, F, w, ox, k⟩ => by
    refine ⟨B, ρ, n, _, R0, F, w, ox, fun d n1 p v B1 H1 s1 k1 r => ⟨B1, ρ, n1, _, R0, F.step s1 k1, p, ox.step s1, fun e n2 q u B2 H2 s2 k2 r2 => ?_⟩⟩
    obtain ⟨i, j, rfl, rfl, h1, q⟩ := q
    cases r
    cases r2
    exact ⟨i, j, rfl, h1, k _ n2 q _ B2 H2 (s1.trans s2) k2 wk_rng⟩
/-- the signs of a text -/
def signs (x : Str) : List D := x.cps.toList.map fun c => .str ⟨#[c]⟩
def mSigns (m : M) : MI := fun ρ n P R => m ρ n (fun d n1 => ∃ x, d = .str x ∧ P (signs x) n1) R
theorem ie_str {tg e : Expr} {m : M} (h : DE X C e m) : IE X C tg e (mSigns m) := pi_weak (pi_str h) fun σ H R ⟨B, ρ, n, P, R0, F, w, ox, k⟩ => by
  refine ⟨B, ρ, n, _, R0, F, w, ox, fun d n1 p v B1 H1 s1 k1 r => ?_⟩
  obtain ⟨x, rfl, p⟩ := p
  cases r
  refine ⟨x, rfl, k _ n1 p _ B1 H1 s1 k1 fun B H i n kp s ns sr => ?_⟩
  have hl : (signs x).length = x.cps.size := by unfold signs; rw [List.length_map, Array.length_toList]
  rw [hl]
  refine ⟨fun hi => ⟨hi, fun y H' q => ?_⟩, fun hi => hi⟩
  obtain ⟨rfl, c, e, rfl⟩ := q
  refine ⟨B, .str ⟨#[c]⟩, ?_, Stp.refl s ns, sr, .str _⟩
  unfold signs
  rw [List.getElem?_map, Array.getElem?_toList, e]
  rfl
end
end DS

/-! DS5: comprehensions, statements, defs. -/
namespace DS
open PySem L2
section
variable {X : Cx} {C : Cn} {K : Fg} {cl : Cl}
/-! ### comprehensions -/
def wipeR (ρ : Env) : List Nat → Env
  | [] => ρ
  | v :: vs => (wipeR ρ vs).set v .no
theorem Fr.drop {B H : Hp} {σ : St} {ρ : Env} {n : Nat} (F : Fr C B σ H ρ n) (i : Nat) (o : Option V) : Fr C B (σ.set i o) H (ρ.set i .no) n :=
  { F with
    slo := paired_set (.no o) i F.slo
    dis := dis_set F.dis i _ rfl }
theorem Fr.wipe {B H : Hp} {σ : St} {ρ : Env} {n : Nat} (F : Fr C B σ H ρ n) : ∀ vs : List Nat, Fr C B (wipe σ vs) H (wipeR ρ vs) n
  | [] => F
  | v :: vs => (Fr.wipe F vs).drop v none
/-- how a target stores in the comprehension's own slots -/
def GIn (g : TG) (vs : List Nat) : Prop := ∀ (v : V) (σ : St) (H : Hp) (Q : St → Hp → Prop), g v σ H Q → g v σ H fun σ2 H2 => wipe σ2 vs = wipe σ vs ∧ Q σ2 H2
theorem wipe_set (σ : St) (o : Option V) : ∀ (vs : List Nat) (i : Nat), i ∈ vs → wipe (σ.set i o) vs = wipe σ vs
  | v :: vs, i, h => by
    by_cases e : i = v
    · subst e
      by_cases hm : i ∈ vs
      · unfold wipe; rw [wipe_set σ o vs i hm]
      · unfold wipe
        have : ∀ (us : List Nat), i ∉ us → wipe (σ.set i o) us = (wipe σ us).set i o := fun us => by
          induction us with
          | nil => intro _; rfl
          | cons u us ih =>
            intro hu
            unfold wipe
            rw [ih (fun z => hu (List.mem_cons_of_mem _ z)), List.set_comm _ _ (fun z => hu (by rw [z]; exact List.mem_cons_self))]
        rw [this vs hm, List.set_set]
    · have hm : i ∈ vs := (List.mem_cons.mp h).resolve_left e
      unfold wipe; rw [wipe_set σ o vs i hm]
theorem wipe_wipe (σ : St) (vs : List Nat) : wipe (wipe σ vs) vs = wipe σ vs := by
  have gen : ∀ (us vs : List Nat), (∀ u ∈ us, u ∈ vs) → wipe (wipe σ us) vs = wipe σ vs := fun us => by
    induction us with
    | nil => intro vs _; rfl
    | cons u us ih =>
      intro vs h
      show wipe ((wipe σ us).set u none) vs = wipe σ vs
      rw [wipe_set _ none vs u (h u List.mem_cons_self)]
      exact ih vs fun x hx => h x (List.mem_cons_of_mem _ hx)
  exact gen vs vs fun _ h => h
theorem gin_name {i : Nat} {vs : List Nat} (h : i ∈ vs) : GIn (gName i) vs := fun v σ H Q q => ⟨wipe_set σ _ vs i h, q⟩
theorem gin_names : ∀ (is : List Nat) (vs : List Nat), (∀ i ∈ is, i ∈ vs) → ∀ (xs : List V) (σ σ0 : St) (H : Hp) (Q : St → Hp → Prop), wipe σ vs = wipe σ0 vs → gNames is xs σ H Q → gNames is xs σ H fun σ2 H2 => wipe σ2 vs = wipe σ0 vs ∧ Q σ2 H2
  | [], vs, h, xs, σ, σ0, H, Q, e, q => ⟨q.1, e, q.2⟩
  | i :: is, vs, h, xs, σ, σ0, H, Q, e, ⟨v, r, e1, q⟩ => ⟨v, r, e1, gin_names is vs (fun j hj => h j (List.mem_cons_of_mem _ hj)) r _ σ0 H Q (by rw [wipe_set σ _ vs i (h i List.mem_cons_self)]; exact e) q⟩
theorem gin_tup {is vs : List Nat} {k : Nat} (h : ∀ i ∈ is, i ∈ vs) : GIn (gTup K k (gNames is)) vs := fun v σ H Q ⟨a, xs, e, s, l, q⟩ => ⟨a, xs, e, s, l, gin_names is vs h xs σ σ H Q rfl q⟩
/-- no error at all -/
def nvr : PX := fun _ _ => False
/-- within a comprehension nothing is let out -/
def Cn.qt (C : Cn) : Cn := { C with E := fun _ _ _ => False }
theorem Fr.qt {B H : Hp} {σ : St} {ρ : Env} {n : Nat} (F : Fr C B σ H ρ n) : Fr C.qt B σ H ρ n := ⟨F.sub, F.old, F.new, F.nos, F.ext, F.src, F.slo, F.dis⟩
theorem okx_qt {B H : Hp} : OkX C.qt B H nvr := fun _ _ z => z.elim
def compW (gd : GD) (tt : MT) (te : M) (ρ : Env) (P : List D → Nat → Prop) : List D → List D → Nat → Prop
  | [], acc, n => P acc n
  | d :: r, acc, n => ∃ ρ1, gd d ρ = some ρ1 ∧ tt ρ1 n (fun b n1 => if b = true then te ρ1 n1 (fun y n2 => acc.length < sizeLine ∧ compW gd tt te ρ P r (acc ++ [y]) n2) nvr else compW gd tt te ρ P r acc n1) nvr
def mComp (mi : MI) (gd : GD) (vs : List Nat) (tt : MT) (te : M) : ML := fun ρ n P R => mi ρ n (fun ds n1 => compW gd tt te (wipeR ρ vs) P ds [] n1) R
theorem Stp.mut {sc : Sc} {B H B' H' : Hp} {p : Addr} {o : HO} (s : Stp sc B H B' H') (hp : H p = none) (hb : B' p = none) : Stp sc B H B' (upd H' p o) where
  sub := fun a u e => by rw [upd_ne (ne_of_none e hb)]; exact s.sub a u e
  old := s.old
  new := s.new
  nos := s.nos
  ext := fun a u n e => by rw [upd_ne (ne_of_none e hp)]; exact s.ext a u n e
theorem src_mut {sc : Sc} {H : Hp} {n : Nat} {p : Addr} {o : HO} (h : SrcOk sc H n) (hs : ¬ inS sc p) : SrcOk sc (upd H p o) n := by
  unfold SrcOk at h ⊢
  cases sc with
  | none => trivial
  | some q =>
    obtain ⟨s, c⟩ := q
    obtain ⟨a0, ns, t, h1, h2, r⟩ := h
    have n1 : s ≠ p := fun z => hs (.inl z.symm)
    have n2 : c ≠ p := fun z => hs (.inr z.symm)
    exact ⟨a0, ns, t, by rw [upd_ne n1]; exact h1, by rw [upd_ne n2]; exact h2, r⟩
theorem g_in {g : TG} {gd : GD} {vs : List Nat} (hg : GOk C g gd) (hi : GIn g vs) {B H : Hp} {σ : St} {ρ ρ1 : Env} {n : Nat} {v : V} {d : D} (F : Fr C B (wipe σ vs) H ρ n) (h : DR C.K C.cl B v d) (e : gd d ρ = some ρ1) {Q : St → Hp → Prop} (q : ∀ σ1, Fr C B σ1 H ρ1 n → Q σ1 H) :
    g v (wipe σ vs) H fun σ2 H2 => wipe σ2 vs = wipe σ vs ∧ Q σ2 H2 := by
  have z := hi v (wipe σ vs) H Q (hg B H _ ρ ρ1 n v d F h e Q q)
  rw [wipe_wipe] at z
  exact z
theorem t_comp {mi : MI} {g : TG} {gd : GD} {vs : List Nat} {tt : MT} {te : M} (hg : GOk C g gd) (hi : GIn g vs) {σ : St} {H : Hp} {Q : VK} (h : tL C (mComp mi gd vs tt te) σ H Q) : tLc (tIq C mi) g (tT C.qt tt) (tD C.qt te) vs σ H Q := by
  obtain ⟨B, ρ, n, P, R, F, w, ox, k⟩ := h
  refine ⟨B, ρ, n, _, R, F, w, ox, fun ds n1 cw J B1 H1 Kp s1 k1 kp kps wk D hD => ?_⟩
  have hDH : H D = none := fresh_of s1 hD k1
  have hDB : B1 D = none := none_of s1 hD
  have hDS : ¬ inS C.sc D := src_new k1 hD
  refine ⟨fun i m Hc => m = ds.length - i ∧ i ≤ ds.length ∧ ∃ (Bc : Hp) (nc : Nat) (acc : List _) (accV : List V), Stp C.sc B1 H1 Bc Hc ∧ SrcOk C.sc Hc nc ∧ Bc D = none ∧ Hc D = some (.lst accV) ∧ DRs C.K C.cl Bc accV acc ∧
    compW gd tt te (wipeR ρ vs) P (ds.drop i) acc nc, ⟨ds.length, by omega, Nat.zero_le _, B1, n1, [], [], (Stp.refl s1.sub s1.nos).lay hD, src_lay k1 hD, hDB, upd_same, .nil, by simpa using cw⟩, ?_⟩
  rintro i m Hc ⟨rfl, hi1, Bc, nc, acc, accV, s2, k2, hb, hd, ra, cw⟩
  have kpc : Kp Bc Hc := kps _ _ _ _ kp s2
  obtain ⟨wgo, wst⟩ := wk Bc Hc i nc kpc s2.sub s2.nos k2
  by_cases hlt : i < ds.length
  · obtain ⟨go, yl⟩ := wgo hlt
    refine .inr ⟨go, _, fun H' q => ⟨ds.length - (i + 1), by omega, q⟩, fun x H' y => ?_⟩
    obtain ⟨B', d, e, s3, k3, rd⟩ := yl x H' y
    have ed : ds.drop i = d :: ds.drop (i + 1) := by
      rw [List.drop_eq_getElem_cons hlt]
      have := List.getElem?_eq_getElem hlt
      rw [e] at this
      rw [Option.some.inj this]
    rw [ed] at cw
    obtain ⟨ρ1, eg, q⟩ := cw
    have Fc : Fr C Bc σ Hc ρ nc := (F.step s1 k1).step s2 k2
    have Fy : Fr C B' (wipe σ vs) H' (wipeR ρ vs) nc := (Fc.step s3 k3).wipe vs
    refine g_in hg hi Fy rd eg fun σ1 F1 => ?_
    refine ⟨B', ρ1, nc, _, nvr, F1.qt, q, okx_qt, fun b n3 qb B3 H3 s4 k4 => ?_⟩
    have sB : Stp C.sc B1 H1 B3 H3 := (s2.trans s3).trans s4
    have hD3 : H3 D = some (.lst accV) := s4.ext _ _ hDS (s3.ext _ _ hDS hd)
    have hb3 : B3 D = none := by
      rw [s4.new D _ (s3.ext _ _ hDS hd) (fun _ z => by cases z), s3.new D _ hd (fun _ z => by cases z)]
      exact hb
    have ra3 : DRs C.K C.cl B3 accV acc := ra.mono (s3.old.trans s4.old)
    cases b with
    | false =>
      rw [if_neg Bool.false_ne_true] at qb
      exact iteF ⟨rfl, hlt, B3, n3, acc, accV, sB, k4, hb3, hD3, ra3, qb⟩
    | true =>
      rw [if_pos rfl] at qb
      refine iteT ⟨B3, ρ1, n3, _, nvr, (F1.step s4 k4).qt, qb, okx_qt, fun y n4 ⟨hl, cw⟩ yv B4 H4 s5 k5 ry => ?_⟩
      have hD4 : H4 D = some (.lst accV) := s5.ext _ _ hDS hD3
      have hb4 : B4 D = none := by
        rw [s5.new D _ hD3 (fun _ z => by cases z)]
        exact hb3
      have sC := (sB.trans s5).mut (o := .lst (accV ++ [yv])) hD hb4
      exact ⟨accV, hD4, by rw [ra.length]; exact hl, rfl, hlt, B4, n4, acc ++ [y], accV ++ [yv], sC, src_mut k5 hDS, hb4, upd_same, (ra3.mono s5.old).append (.cons ry .nil), cw⟩
  · have e : i = ds.length := by omega
    refine .inl ⟨wst (by omega), ?_⟩
    rw [e, List.drop_length] at cw
    exact k acc nc cw D accV Bc Hc hDH (s1.trans s2) hb k2 hd ra
def mYes : MT := fun _ n P _ => P true n
abbrev DTs (X : Cx) (C : Cn) (es : List Expr) (m : MT) : Prop := PTs X es (tT C m)
theorem dts_nil : DTs X C [] mYes := ⟨fun pins s σ H Q I ⟨B, ρ, n, P, R, F, w, ox, k⟩ => pts_nil.run pins s σ H Q I (k true n w B H F.self F.src)⟩
theorem dts_one {c : Expr} {m : MT} (h : DT X C c m) : DTs X C [c] m := pts_one h
theorem le_comp {elt tg iter : Expr} {ifs : List Expr} {scope : Scope} {own : List (Str × Nat)} {pos : Pos} {mi : MI} {g : TG} {gd : GD} {tt : MT} {te : M} (hc : X.calm = true) (hN : X.N.Nodup) (hi : IQ X C tg iter mi) (ok : BlkOk X.N X.env.scope scope own) (hgd : GOk C g gd) (hin : GIn g (own.map (·.2)))
    (hg : ∀ (s : Shared) (H : Hp) (A : Addr) (cl : List (Str × Addr)) (fp : List Addr), PG (X.blk s H scope (compEnvC scope cl A X.env) fp) tg g) (ht : ∀ (s : Shared) (H : Hp) (A : Addr) (cl : List (Str × Addr)) (fp : List Addr), DTs (X.blk s H scope (compEnvC scope cl A X.env) fp) C.qt ifs tt)
    (he : ∀ (s : Shared) (H : Hp) (A : Addr) (cl : List (Str × Addr)) (fp : List Addr), DE (X.blk s H scope (compEnvC scope cl A X.env) fp) C.qt elt te) (hs : ∀ x, foldedSetIterable iter X.env x = pure x := by intro _; rfl) :
    LE X C (.ListComp elt [⟨tg, iter, ifs, 0⟩] scope pos) (mComp mi gd (own.map (·.2)) tt te) := pe_weak (pe_lc hc hN hi ok hg ht he hs) fun _ _ _ => t_comp hgd hin
/-! ### statements -/
def mSeq (a b : MS) : MS := fun De ρ n => a { De with nx := fun ρ n => b De ρ n } ρ n
def mNext : MS := fun De ρ n => De.nx ρ n
theorem ds_nil : DSs X C [] mNext := pss_weak pss_nil fun Z σ H ⟨B, ρ, n, De, F, w, nx, _⟩ => nx ρ n w σ B H (Same.refl _) F
theorem ds_cons {st : Stmt} {rest : List Stmt} {a b : MS} (h1 : DS X C st a) (h2 : DSs X C rest b) : DSs X C (st :: rest) (mSeq a b) := pss_weak (pss_cons h1 h2) fun Z σ H ⟨B, ρ, n, De, F, w, nx, rt, ex, bk, ct⟩ =>
  ⟨B, ρ, n, _, F, w, fun ρ' n' q σ' B' H' s F' => ⟨B', ρ', n', De, F', q, fun ρ2 n2 q2 σ2 B2 H2 s2 F2 => nx ρ2 n2 q2 σ2 B2 H2 (s.trans s2) F2, rt, ex, fun ρ2 n2 q2 σ2 B2 H2 s2 F2 => bk ρ2 n2 q2 σ2 B2 H2 (s.trans s2) F2, fun ρ2 n2 q2 σ2 B2 H2 s2 F2 => ct ρ2 n2 q2 σ2 B2 H2 (s.trans s2) F2⟩, rt, ex, bk, ct⟩
theorem ds_one {st : Stmt} {a : MS} (h : DS X C st a) : DSs X C [st] a := pss_one h
def mSet (te : M) (gd : GD) : MS := fun De ρ n => te ρ n (fun d n1 => ∃ ρ1, gd d ρ = some ρ1 ∧ De.nx ρ1 n1) De.ex
theorem t_set {te : M} {g : TG} {gd : GD} (hg : GOk C g gd) {Z : Ends} {σ : St} {H : Hp} (h : tS C (mSet te gd) Z σ H) : tAsg (tD C te) g Z σ H := by
  obtain ⟨B, ρ, n, De, F, w, nx, rt, ex, bk, ct⟩ := h
  refine ⟨B, ρ, n, _, De.ex, F, w, ex.lift F, fun d n1 q v B1 H1 s1 k1 r => ?_⟩
  obtain ⟨ρ1, e, q⟩ := q
  exact hg B1 H1 σ ρ ρ1 n1 v d (F.step s1 k1) r e _ fun σ1 F1 => nx ρ1 n1 q σ1 B1 H1 s1.old F1
theorem ds_asg {tg e : Expr} {te : M} {g : TG} {gd : GD} {pos : Pos} (hgd : GOk C g gd) (he : DE X C e te) (hg : PG X tg g) (hs : swapsWithSole [tg] e pos.line X.env = pure false := by rfl) (hw : swappedStores [tg] e X.env = pure none := by rfl)
    (h1 : (assignEach [tg] X.env).map (·.2) = [assign tg X.env] := by rfl) : DS X C (.Assign [tg] e pos) (mSet te gd) := ps_weak (ps_asg he hg hs hw h1) fun _ _ _ => t_set hgd
theorem ds_set {i : Nat} {x : Str} {e : Expr} {te : M} {pos pos' : Pos} (hN : X.N.Nodup) (hi : X.N[i]? = some x) (hx : Loc X.env.scope x) (he : DE X C e te) (hs : swapsWith e (some (.Name x pos')) pos.line X.env = pure false := by rfl) (hf : X.fn x = true ∨ X.env.scope.names.lookup x = some .local := by first | exact .inl rfl | exact .inr rfl | assumption) :
    DS X C (.Assign [.Name x pos'] e pos) (mSet te (gdName i)) := ps_weak (ps_set hN hi hx he hs hf) fun _ _ _ => t_set (g_name i)
/-- a list of one's own -/
def mOwn (i : Nat) (l : ML) : MS := fun De ρ n => l ρ n (fun ds n1 => De.nx (ρ.set i (.own ds)) n1) De.ex
theorem own_step {B H B1 H1 : Hp} {σ : St} {ρ : Env} {n n1 : Nat} {p : Addr} {vs : List V} {ds : List D} (F : Fr C B σ H ρ n) (s : Stp C.sc B H B1 H1) (k : SrcOk C.sc H1 n1) (hp : H p = none) (hb : B1 p = none) (h1 : H1 p = some (.lst vs)) (r : DRs C.K C.cl B1 vs ds) (i : Nat) :
    Fr C B1 (σ.set i (some (.ref p))) H1 (ρ.set i (.own ds)) n1 :=
  have F1 := F.step s k
  have hs : ¬ inS C.sc p := src_new F.src hp
  have h0 : C.H0 p = none := by
    cases e : C.H0 p with
    | none => rfl
    | some o => rw [F.ext p o hs e] at hp; cases hp
  { F1 with
    slo := paired_set (.own h0 hb hs h1 r) i F1.slo
    dis := dis_new F.dis i _ fun j a hj e1 e2 w => by
      obtain ⟨p', o, e3, _, _, _, e4, _⟩ := (paired_at F.slo e1 e2).ow w
      cases e3
      rw [hp] at e4; cases e4 }
theorem t_own {i : Nat} {l : ML} {Z : Ends} {σ : St} {H : Hp} (h : tS C (mOwn i l) Z σ H) : tAsg (tL C l) (gName i) Z σ H := by
  obtain ⟨B, ρ, n, De, F, w, nx, rt, ex, bk, ct⟩ := h
  exact ⟨B, ρ, n, _, De.ex, F, w, ex.lift F, fun ds n1 q p vs B1 H1 hp s1 hb k1 h1 r => nx _ n1 q _ B1 H1 s1.old (own_step F s1 k1 hp hb h1 r i)⟩
theorem ds_own {i : Nat} {x : Str} {e : Expr} {l : ML} {pos pos' : Pos} (hN : X.N.Nodup) (hi : X.N[i]? = some x) (hx : Loc X.env.scope x) (he : LE X C e l) (hs : swapsWith e (some (.Name x pos')) pos.line X.env = pure false := by rfl) (hf : X.fn x = true ∨ X.env.scope.names.lookup x = some .local := by first | exact .inl rfl | exact .inr rfl | assumption) :
    DS X C (.Assign [.Name x pos'] e pos) (mOwn i l) := ps_weak (ps_set hN hi hx he hs hf) fun _ _ _ => t_own
/-- a list of one's own is settled -/
def mFrz (i : Nat) (m : MS) : MS := fun De ρ n => ∃ ds, ρ[i]? = some (.own ds) ∧ m De (ρ.set i (.dat (.list ds))) n
theorem frz_step {B H : Hp} {σ : St} {ρ : Env} {n : Nat} {i : Nat} {ds : List D} (F : Fr C B σ H ρ n) (e : ρ[i]? = some (.own ds)) : ∃ B', Same B B' ∧ Fr C B' σ H (ρ.set i (.dat (.list ds))) n := by
  obtain ⟨x, e1, e2⟩ := paired_get F.slo e
  cases e2 with
  | @own p vs _ h0 hB hs h r =>
    refine ⟨upd B p (.lst vs), same_upd hB, ?_⟩
    have sub : Same (upd B p (.lst vs)) H := fun a u q => by
      by_cases ha : a = p
      · subst ha; rw [upd_same] at q; cases q; exact h
      · rw [upd_ne ha] at q; exact F.sub a u q
    refine ⟨sub, F.old.trans (same_upd hB), fun a o q nt => ?_, fun a q => ?_, F.ext, F.src, ?_, fun a b q u v h1 h2 h3 h4 w1 w2 => ?dis⟩
    case dis =>
      rcases set_at h3 with ⟨_, z⟩ | ⟨_, h3⟩
      · rw [z] at w1; cases w1
      · rcases set_at h4 with ⟨_, z⟩ | ⟨_, h4⟩
        · rw [z] at w2; cases w2
        · exact F.dis a b q u v h1 h2 h3 h4 w1 w2
    · have ha : a ≠ p := fun z => by rw [z, h0] at q; cases q
      rw [upd_ne ha]; exact F.new a o q nt
    · have ha : a ≠ p := fun z => hs (z ▸ q)
      rw [upd_ne ha]; exact F.nos a q
    · refine paired_ix (by rw [List.length_set]; exact paired_len F.slo) fun j a b h1 h2 => ?_
      by_cases hj : j = i
      · subst hj
        rw [e1] at h1; cases h1
        have hl : j < ρ.length := (List.getElem?_eq_some_iff.mp e).1
        rw [List.getElem?_set_self hl] at h2; cases h2
        exact .dat (.lst upd_same (r.mono (same_upd hB)))
      · rw [List.getElem?_set_ne (Ne.symm hj)] at h2
        have q := paired_at F.slo h1 h2
        cases q with
        | no _ => exact .no _
        | dat h => exact .dat (h.mono (same_upd hB))
        | src h => exact .src h
        | @own q us _ g0 gB gs g gr =>
          have ne : q ≠ p := fun z => by
            subst z
            exact hj (F.dis j i q _ _ h1 e1 h2 e rfl rfl)
          exact .own g0 (by rw [upd_ne ne]; exact gB) gs g (gr.mono (same_upd hB))
        | @dic q lk kvs _ g0 gB gs g gr =>
          have ne : q ≠ p := fun z => by
            subst z
            exact hj (F.dis j i q _ _ h1 e1 h2 e rfl rfl)
          exact .dic g0 (by rw [upd_ne ne]; exact gB) gs g (gr.mono (same_upd hB))
        | @dit q lk kvs _ g0 gB gs g gr =>
          have ne : q ≠ p := fun z => by
            subst z
            exact hj (F.dis j i q _ _ h1 e1 h2 e rfl rfl)
          exact .dit g0 (by rw [upd_ne ne]; exact gB) gs g (gr.mono (same_upd hB))
        | bor g0 gs g gr => exact .bor g0 gs g (gr.mono (same_upd hB))
        | hld hA gs g hd =>
          refine .hld hA gs g ?_
          rcases hd with z | ⟨x, dd, v, f, z1, z2, z3, z4, z5, z6⟩
          · exact .inl z
          · exact .inr ⟨x, dd, v, f, z1, z2, z3, z4, z5, z6.mono (same_upd hB)⟩
        | @bld q Ad dx n us _ gA g0 gB gs g gr =>
          have ne : q ≠ p := fun z => by
            rw [z, h] at g
            cases g
          exact .bld gA g0 (by rw [upd_ne ne]; exact gB) gs g (gr.mono (same_upd hB))
theorem t_frz {i : Nat} {m : MS} {Z : Ends} {σ : St} {H : Hp} (h : tS C (mFrz i m) Z σ H) : tS C m Z σ H := by
  obtain ⟨B, ρ, n, De, F, ⟨ds, e, w⟩, nx, rt, ex, bk, ct⟩ := h
  obtain ⟨B', s, F'⟩ := frz_step F e
  exact ⟨B', _, n, De, F', w, fun ρ' n' q σ' B2 H' s2 F2 => nx ρ' n' q σ' B2 H' (s.trans s2) F2, rt, ex, fun ρ' n' q σ' B2 H' s2 F2 => bk ρ' n' q σ' B2 H' (s.trans s2) F2, fun ρ' n' q σ' B2 H' s2 F2 => ct ρ' n' q σ' B2 H' (s.trans s2) F2⟩
theorem ds_frz (i : Nat) {st : Stmt} {m : MS} (h : DS X C st m) : DS X C st (mFrz i m) := ps_weak h fun _ _ _ => t_frz
theorem dss_frz (i : Nat) {st : List Stmt} {m : MS} (h : DSs X C st m) : DSs X C st (mFrz i m) := pss_weak h fun _ _ _ => t_frz
/-! return, if, pass -/
def mRet (te : M) : MS := fun De ρ n => te ρ n De.rt De.ex
theorem ds_ret {e : Expr} {te : M} {pos : Pos} (h : DE X C e te) : DS X C (.Return (some e) pos) (mRet te) := ps_weak (ps_ret h) fun Z σ H ⟨B, ρ, n, De, F, w, nx, rt, ex, bk, ct⟩ =>
  ⟨B, ρ, n, _, De.ex, F, w, ex.lift F, fun d n1 q v B1 H1 s1 k1 r => rt d n1 q v B1 H1 (F.entry.trans s1) k1 r⟩
def mRetN : MS := fun De _ n => De.rt .none n
theorem ds_retN {pos : Pos} : DS X C (.Return none pos) mRetN := ps_weak ps_retN fun Z σ H ⟨B, ρ, n, De, F, w, nx, rt, ex, bk, ct⟩ => rt .none n w .non B H F.entry F.src .non
def mIfS (c : MT) (a b : MS) : MS := fun De ρ n => c ρ n (fun k n1 => if k = true then a De ρ n1 else b De ρ n1) De.ex
theorem ds_if {c : Expr} {p q : List Stmt} {mc : MT} {a b : MS} {pos : Pos} (hc : DT X C c mc) (ha : DSs X C p a) (hb : DSs X C q b) : DS X C (.If c p q pos) (mIfS mc a b) := ps_weak (ps_if hc ha hb) fun Z σ H ⟨B, ρ, n, De, F, w, nx, rt, ex, bk, ct⟩ => by
  refine ⟨B, ρ, n, _, De.ex, F, w, ex.lift F, fun k n1 q B1 H1 s1 k1 => ?_⟩
  have nx' := fun ρ' n' q σ' B2 H' (s2 : Same B1 B2) F2 => nx ρ' n' q σ' B2 H' (s1.old.trans s2) F2
  have bk' := fun ρ' n' q σ' B2 H' (s2 : Same B1 B2) F2 => bk ρ' n' q σ' B2 H' (s1.old.trans s2) F2
  have ct' := fun ρ' n' q σ' B2 H' (s2 : Same B1 B2) F2 => ct ρ' n' q σ' B2 H' (s1.old.trans s2) F2
  cases k with
  | true => exact ⟨B1, ρ, n1, De, F.step s1 k1, q, nx', rt, ex, bk', ct'⟩
  | false => exact ⟨B1, ρ, n1, De, F.step s1 k1, q, nx', rt, ex, bk', ct'⟩
theorem ds_pass {pos : Pos} : DS X C (.Pass pos) mNext := ps_weak ps_pass fun Z σ H ⟨B, ρ, n, De, F, w, nx, _⟩ => nx ρ n w σ B H (Same.refl _) F
def mBrk : MS := fun De ρ n => De.bk ρ n
def mCnt : MS := fun De ρ n => De.ct ρ n
theorem ds_brk {pos : Pos} : DS X C (.Break pos) mBrk := ps_weak ps_break fun Z σ H ⟨B, ρ, n, De, F, w, nx, rt, ex, bk, ct⟩ => bk ρ n w σ B H (Same.refl _) F
theorem ds_cnt {pos : Pos} : DS X C (.Continue pos) mCnt := ps_weak ps_continue fun Z σ H ⟨B, ρ, n, De, F, w, nx, rt, ex, bk, ct⟩ => ct ρ n w σ B H (Same.refl _) F
def mNev : MS := fun _ _ _ => False
theorem ds_nev {st : Stmt} : DS X C st mNev := ps_weak ps_never fun Z σ H ⟨B, ρ, n, De, F, w, _⟩ => w
theorem dss_nev {st : List Stmt} : DSs X C st mNev := pss_weak pss_never fun Z σ H ⟨B, ρ, n, De, F, w, _⟩ => w
/-- an expression alone -/
def mExp (te : M) : MS := fun De ρ n => te ρ n (fun _ n1 => De.nx ρ n1) De.ex
theorem ds_exp {e : Expr} {te : M} {pos : Pos} (h : DE X C e te) (hs : swapsWith e none pos.line X.env = pure false := by rfl) : DS X C (.Expr e pos) (mExp te) := ps_weak (ps_expr h hs) fun Z σ H ⟨B, ρ, n, De, F, w, nx, rt, ex, bk, ct⟩ =>
  ⟨B, ρ, n, _, De.ex, F, w, ex.lift F, fun d n1 q v B1 H1 s1 k1 r => nx ρ n1 q σ B1 H1 s1.old (F.step s1 k1)⟩
/-! for, while -/
def forW (gd : GD) (body : MS) (De : DEnds) : List D → Env → Nat → Prop
  | [], ρ, n => De.nx ρ n
  | d :: r, ρ, n => ∃ ρ1, gd d ρ = some ρ1 ∧ body { De with nx := forW gd body De r, ct := forW gd body De r, bk := De.nx } ρ1 n
def mFor (mi : MI) (gd : GD) (body : MS) : MS := fun De ρ n => mi ρ n (fun ds n1 => forW gd body De ds ρ n1) De.ex
theorem ds_for {tg iter : Expr} {body : List Stmt} {mi : MI} {g : TG} {gd : GD} {mb : MS} {pos : Pos} (hp : PassesOwn (model X.prog X.w) X.A X.env X.xe) (hc : X.calm = true) (hgd : GOk C g gd) (hi : IE X C tg iter mi) (hg : PG X tg g) (hb : DSs X C body mb)
    (hs : ∀ x, foldedSetIterable iter X.env x = pure x := by intro _; rfl) : DS X C (.For tg iter body [] pos) (mFor mi gd mb) := ps_weak (ps_for hp hc hi hg hb hs) fun Z σ H ⟨B, ρ, n, De, F, w, nx, rt, ex, bk, ct⟩ => by
  refine ⟨B, ρ, n, _, De.ex, F, w, ex.lift F, fun ds n1 fw J B1 H1 s1 k1 wk => ?_⟩
  refine ⟨fun i m σ' H' => m = ds.length - i ∧ i ≤ ds.length ∧ ∃ B' ρ' n', Same B1 B' ∧ Fr C B' σ' H' ρ' n' ∧ forW gd mb De (ds.drop i) ρ' n', ⟨ds.length, by omega, Nat.zero_le _, B1, ρ, n1, Same.refl _, F.step s1 k1, by simpa using fw⟩, ?_⟩
  rintro i m σ' H' ⟨rfl, hi1, B', ρ', n', sB, F', fw'⟩
  obtain ⟨wgo, wst⟩ := wk B' H' i n' sB F'.sub F'.nos F'.src
  by_cases hlt : i < ds.length
  · obtain ⟨go, yl⟩ := wgo hlt
    refine .inr ⟨go, fun σ2 H2 => i + 1 ≤ ds.length ∧ ∃ B' ρ' n', Same B1 B' ∧ Fr C B' σ2 H2 ρ' n' ∧ forW gd mb De (ds.drop (i + 1)) ρ' n', fun σ2 H2 q => ⟨ds.length - (i + 1), by omega, rfl, q.1, q.2⟩, fun x H2 y => ?_⟩
    obtain ⟨B2, d, e, s3, k3, rd⟩ := yl x H2 y
    have ed : ds.drop i = d :: ds.drop (i + 1) := by
      rw [List.drop_eq_getElem_cons hlt]
      have := List.getElem?_eq_getElem hlt
      rw [e] at this
      rw [Option.some.inj this]
    rw [ed] at fw'
    obtain ⟨ρ1, eg, q⟩ := fw'
    refine hgd B2 H2 σ' ρ' ρ1 n' x d (F'.step s3 k3) rd eg _ fun σ1 F1 => ?_
    have go' : ∀ (ρ2 : Env) (n2 : Nat), forW gd mb De (ds.drop (i + 1)) ρ2 n2 → ∀ (σ2 : St) (B3 H3 : Hp), Same B2 B3 → Fr C B3 σ2 H3 ρ2 n2 → i + 1 ≤ ds.length ∧ ∃ B' ρ' n', Same B1 B' ∧ Fr C B' σ2 H3 ρ' n' ∧ forW gd mb De (ds.drop (i + 1)) ρ' n' :=
      fun ρ2 n2 q σ2 B3 H3 s F3 => ⟨hlt, B3, ρ2, n2, (sB.trans s3.old).trans s, F3, q⟩
    exact ⟨B2, ρ1, n', _, F1, q, go', rt, ex, fun ρ2 n2 q σ2 B3 H3 s F3 => nx ρ2 n2 q σ2 B3 H3 (((s1.old.trans sB).trans s3.old).trans s) F3, go'⟩
  · have e : i = ds.length := by omega
    refine .inl ⟨wst (by omega), ?_⟩
    rw [e, List.drop_length] at fw'
    exact nx ρ' n' fw' σ' B' H' (s1.old.trans sB) F'
def mWhile (c : MT) (body : MS) : MS := fun De ρ n => ∃ W : Nat → Env → Nat → Prop, (∃ m, W m ρ n) ∧ ∀ m ρ n, W m ρ n → c ρ n (fun b n1 => if b = true then body { De with nx := fun ρ' n' => ∃ m', m' < m ∧ W m' ρ' n', ct := fun ρ' n' => ∃ m', m' < m ∧ W m' ρ' n', bk := De.nx } ρ n1 else De.nx ρ n1) De.ex
theorem ds_while {c : Expr} {body : List Stmt} {mc : MT} {m : MS} {pos : Pos} (hp : PassesOwn (model X.prog X.w) X.A X.env X.xe) (hc : DT X C c mc) (hb : DSs X C body m) : DS X C (.While c body [] pos) (mWhile mc m) := ps_weak (ps_while hp hc hb) fun Z σ H ⟨B, ρ, n, De, F, ⟨W, ⟨m0, w0⟩, wt⟩, nx, rt, ex, bk, ct⟩ => by
  refine ⟨fun m σ' H' => ∃ B' ρ' n', Same B B' ∧ Fr C B' σ' H' ρ' n' ∧ W m ρ' n', ⟨m0, B, ρ, n, Same.refl _, F, w0⟩, ?_⟩
  rintro m1 σ' H' ⟨B', ρ', n', sB, F', w⟩
  refine ⟨B', ρ', n', _, De.ex, F', wt m1 ρ' n' w, ex.lift F', fun b n1 q B1 H1 s1 k1 => ?_⟩
  cases b with
  | false =>
    rw [if_neg Bool.false_ne_true] at q
    exact iteF (nx ρ' n1 q σ' B1 H1 (sB.trans s1.old) (F'.step s1 k1))
  | true =>
    rw [if_pos rfl] at q
    have go' : ∀ (ρ2 : Env) (n2 : Nat), (∃ m', m' < m1 ∧ W m' ρ2 n2) → ∀ (σ2 : St) (B3 H3 : Hp), Same B1 B3 → Fr C B3 σ2 H3 ρ2 n2 → ∃ m', m' < m1 ∧ ∃ B' ρ' n', Same B B' ∧ Fr C B' σ2 H3 ρ' n' ∧ W m' ρ' n' :=
      fun ρ2 n2 ⟨m', hm, q⟩ σ2 B3 H3 s F3 => ⟨m', hm, B3, ρ2, n2, (sB.trans s1.old).trans s, F3, q⟩
    exact iteT ⟨_, fun σ2 H2 q => q, B1, ρ', n1, _, F'.step s1 k1, q, go', rt, ex, fun ρ2 n2 q σ2 B3 H3 s F3 => nx ρ2 n2 q σ2 B3 H3 ((sB.trans s1.old).trans s) F3, go'⟩
end
/-! ### a def -/
section
open PySem.Spec PyProof.Rows
variable {P : Program} {w : World} {K : Fg} {cl : Cl} {mg : Str → Option Value} {base : Heap}
theorem ag_sl {sc : Sc} {H B : Hp} : ∀ {vs : List V} {as : List Sl}, Paired (AgR K cl sc B H) vs as → Paired (SlR K cl sc H B H) (vs.map some) as
  | _, _, .nil => .nil
  | _, _, .cons h t => .cons (by
      cases h with
      | dat h => exact .dat h
      | src h => exact .src h
      | bor hs h r => exact .bor (by rw [h]; exact fun z => by cases z) hs h r) (ag_sl t)
theorem ag_no_ow {sc : Sc} {B H : Hp} : ∀ {vs : List V} {as : List Sl}, Paired (AgR K cl sc B H) vs as → ∀ (i : Nat) (a : Sl), as[i]? = some a → isOw a = false
  | _, _, .nil, i, a, e => by simp at e
  | _, _, .cons h t, 0, a, e => by simp at e; subst e; cases h <;> rfl
  | _, _, .cons h t, i + 1, a, e => ag_no_ow t i a (by simpa using e)
theorem paired_app {α β : Type} {F : α → β → Prop} : ∀ {l l' : List α} {r r' : List β}, Paired F l r → Paired F l' r' → Paired F (l ++ l') (r ++ r')
  | _, _, _, _, .nil, s => s
  | _, _, _, _, .cons h t, s => .cons h (paired_app t s)
theorem paired_rep {α β : Type} {F : α → β → Prop} {a : α} {b : β} (h : F a b) : ∀ n : Nat, Paired F (List.replicate n a) (List.replicate n b)
  | 0 => .nil
  | n + 1 => .cons h (paired_rep h n)
def env0 (as : List Sl) (k : Nat) : Env := as ++ List.replicate (k - as.length) .no
theorem def_ok {x qual : Str} {st : Stmt} {f : Addr} {fd : FuncData} {N ps : List Str} {k : Nat} {g : G} {m : MS} (F : Fun K x qual st f fd) (S : FnScope N ps (defScope st))
    (hb : ∀ (cdv : Value) (A : Around) (outer : List PySem.Env) (s : Shared) (H B : Hp) (sc : Sc) (E : XK), Room k (A.deeper (envOfC qual (defScope st) s.heap.objs.size f cdv)) →
      DSs (cxOf (L2.CX P w) P w K mg base N qual (defScope st) f cdv A outer s H E) ⟨K, cl, sc, H, B, E⟩ (defBody st) m)
    (hm : ∀ as n P R, as.length = ps.length → g as n P R → m { nx := fun _ n' => P .none n', rt := P, ex := R } (env0 as N.length) n) : FnOk P w K mg base (L2.CX P w) (k + 1) f fd ps (spW K cl ps.length g) := by
  refine F.okX S (fun vs H Q E ⟨sc, B, n, as, Pp, R, _, _, _, pr, hl, _⟩ => by rw [paired_len pr]; exact hl) fun cdv A outer s H vs Q E hr ⟨sc, B, n, as, Pp, R, sub, nos, src, pr, hl, hg, ox, q⟩ => ?_
  refine ⟨_, hb cdv A outer s H B sc E hr, B, env0 as N.length, n, _, ?_, hm as n Pp R hl hg, ?_, ?_, ox, ?_, ?_⟩
  · refine ⟨sub, Same.refl _, fun _ _ _ _ => rfl, nos, Ext.refl _ _, src, ?_, ?_⟩
    · unfold L2.start env0
      rw [paired_len pr]
      exact paired_app (ag_sl pr) (paired_rep (.no _) _)
    · intro i j p a b h1 h2 h3 h4 w1 w2
      exfalso
      unfold env0 at h3
      by_cases hi : i < as.length
      · rw [List.getElem?_append_left hi] at h3
        rw [ag_no_ow pr i a h3] at w1; cases w1
      · rw [List.getElem?_append_right (by omega), List.getElem?_replicate] at h3
        split at h3
        · cases h3; cases w1
        · cases h3
  · intro ρ' n' q' σ' B' H' s' F'
    exact q .none n' q' .non B' H' F'.entry F'.src .non
  · intro d n' q' v B' H' s' k' r
    exact q d n' q' v B' H' s' k' r
  · intro ρ' n' z; exact z.elim
  · intro ρ' n' z; exact z.elim
end
end DS

/-! DS6: lists of one's own, new lists, slices, repr. -/
namespace DS
open PySem L2
section
variable {X : Cx} {C : Cn} {K : Fg} {cl : Cl}
/-! ### a list of one's own is changed -/
theorem own_mut {B H : Hp} {σ : St} {ρ : Env} {n i : Nat} {ds es : List D} {p : Addr} {ws : List V} (F : Fr C B σ H ρ n) (e : ρ[i]? = some (.own ds)) (e1 : σ[i]? = some (some (.ref p))) (r : DRs C.K C.cl B ws es) : Fr C B σ (upd H p (.lst ws)) (ρ.set i (.own es)) n :=
  ow_mut F e rfl e1 (fun m h s => src_mut h s) fun h0 hB hs => .own h0 hB hs upd_same r
/-- after an evaluation a list of one's own stands as it stood -/
theorem own_at {B H : Hp} {σ : St} {ρ : Env} {n i : Nat} {ds : List D} (F : Fr C B σ H ρ n) (e : ρ[i]? = some (.own ds)) : ∃ p vs, σ[i]? = some (some (.ref p)) ∧ H p = some (.lst vs) ∧ DRs C.K C.cl B vs ds := by
  obtain ⟨x, e1, e2⟩ := paired_get F.slo e
  cases e2 with
  | own h0 hB hs h r => exact ⟨_, _, e1, h, r⟩
def mApp (i : Nat) (te : M) : MS := fun De ρ n => ∃ ds, ρ[i]? = some (.own ds) ∧ te ρ n (fun d n1 => ds.length < sizeLine ∧ De.nx (ρ.set i (.own (ds ++ [d]))) n1) De.ex
theorem ds_app {i : Nat} {x : Str} {e : Expr} {te : M} {px apos cpos pos : Pos} (h : DE X C e te) (hN : X.N[i]? = some x := by rfl) (hv : Vis X.env.scope x := by first | exact Or.inl rfl | exact Or.inr (Or.inl rfl) | exact Or.inr (Or.inr rfl)) (hd : (x == ("__debug__" : Str)) = false := by decide)
    (hcd : (x == ("__classdict__" : Str)) = false := by decide) (hbase : attributeBase (.Name x px) "append" X.env (eval (.Name x px) X.env) = eval (.Name x px) X.env := by rfl)
    (hfew : ((backTo cpos (starEach [e] X.env)).all (fun x => !x.1) && (backToKw cpos (keywordEach [] X.env)).all (fun x => x.1.isSome) && decide (([e] : List Expr).length + ([] : List Keyword).length + (if ([] : List Keyword).isEmpty then 0 else 1) < 30)) = true := by rfl)
    (hline : (apos.endLine == cpos.line) = true := by rfl) (hs : starEach (e :: []) X.env = (false, eval e X.env) :: starEach [] X.env := by rfl) (hw : swapsWith (.Call (.Attribute (.Name x px) "append" apos) [e] [] cpos) none pos.line X.env = pure false := by rfl) :
    DS X C (.Expr (.Call (.Attribute (.Name x px) "append" apos) [e] [] cpos) pos) (mApp i te) :=
  ps_weak (ps_expr (pe_bm PySem.F.plainAttrs_list PySem.F.slot_list_append PySem.F.type_list_append mt_append (pe_var hN hv hd hcd) (pa_cons h pa_nil hs) hbase hfew hline hs) hw) fun Z σ H ⟨B, ρ, n, De, F, ⟨ds, e, w⟩, nx, rt, ex, bk, ct⟩ => by
    obtain ⟨p, vs, e1, e2, r⟩ := own_at F e
    refine ⟨_, e1, .inl ⟨rfl, _, SqL.of e2⟩, B, ρ, n, _, De.ex, F, w, ex.lift F, fun d n1 q v B1 H1 s1 k1 rd => ?_⟩
    have F1 := F.step s1 k1
    obtain ⟨p', vs', e1', e2', r'⟩ := own_at F1 e
    rw [e1] at e1'; cases e1'
    exact ⟨p, vs', v, rfl, rfl, e2', by rw [r'.length]; exact q.1, nx _ n1 q.2 σ B1 _ s1.old (own_mut F1 e e1 (r'.append (.cons rd .nil)))⟩
def mIns (i : Nat) (ti te : M) : MS := fun De ρ n => ∃ ds, ρ[i]? = some (.own ds) ∧ ti ρ n (fun k n1 => te ρ n1 (fun d n2 => ∃ j : Int, k = .int j ∧ ds.length < sizeLine ∧ (0 ≤ j ∧ j < 2 ^ 63) ∧ De.nx (ρ.set i (.own (ds.take j.toNat ++ [d] ++ ds.drop j.toNat))) n2) De.ex) De.ex
theorem ds_ins {i : Nat} {x : Str} {k e : Expr} {ti te : M} {px apos cpos pos : Pos} (hk : DE X C k ti) (h : DE X C e te) (hN : X.N[i]? = some x := by rfl) (hv : Vis X.env.scope x := by first | exact Or.inl rfl | exact Or.inr (Or.inl rfl) | exact Or.inr (Or.inr rfl)) (hd : (x == ("__debug__" : Str)) = false := by decide)
    (hcd : (x == ("__classdict__" : Str)) = false := by decide) (hbase : attributeBase (.Name x px) "insert" X.env (eval (.Name x px) X.env) = eval (.Name x px) X.env := by rfl)
    (hfew : ((backTo cpos (starEach [k, e] X.env)).all (fun x => !x.1) && (backToKw cpos (keywordEach [] X.env)).all (fun x => x.1.isSome) && decide (([k, e] : List Expr).length + ([] : List Keyword).length + (if ([] : List Keyword).isEmpty then 0 else 1) < 30)) = true := by rfl)
    (hline : (apos.endLine == cpos.line) = true := by rfl) (hs : starEach (k :: [e]) X.env = (false, eval k X.env) :: starEach [e] X.env := by rfl) (hs2 : starEach (e :: []) X.env = (false, eval e X.env) :: starEach [] X.env := by rfl) (hpl : (backTo cpos (starEach [e] X.env)).any (·.1) = false := by rfl)
    (hw : swapsWith (.Call (.Attribute (.Name x px) "insert" apos) [k, e] [] cpos) none pos.line X.env = pure false := by rfl) :
    DS X C (.Expr (.Call (.Attribute (.Name x px) "insert" apos) [k, e] [] cpos) pos) (mIns i ti te) :=
  ps_weak (ps_expr (pe_bm PySem.F.plainAttrs_list PySem.F.slot_list_insert PySem.F.type_list_insert mt_insert (pe_var hN hv hd hcd) (pa_cons hk (pa_cons h pa_nil hs2) hs) hbase hfew hline hs hpl) hw) fun Z σ H ⟨B, ρ, n, De, F, ⟨ds, e, w⟩, nx, rt, ex, bk, ct⟩ => by
    obtain ⟨p, vs, e1, e2, r⟩ := own_at F e
    refine ⟨_, e1, .inl ⟨rfl, _, SqL.of e2⟩, B, ρ, n, _, De.ex, F, w, ex.lift F, fun dk n1 w2 vk B1 H1 s1 k1 rk => ⟨B1, ρ, n1, _, De.ex, F.step s1 k1, w2, (ex.lift F).step s1, fun d n2 q v B2 H2 s2 k2 rd => ?_⟩⟩
    obtain ⟨j, rfl, q1, ⟨q2, q3⟩, q4⟩ := q
    cases rk
    have F2 := (F.step s1 k1).step s2 k2
    obtain ⟨p', vs', e1', e2', r'⟩ := own_at F2 e
    rw [e1] at e1'; cases e1'
    exact ⟨p, vs', j, v, rfl, rfl, e2', by rw [r'.length]; exact q1, q2, q3, nx _ n2 q4 σ B2 _ (s1.old.trans s2.old) (own_mut F2 e e1 (((r'.take _).append (.cons rd .nil)).append (r'.drop _)))⟩
/-- one's own list is handed back -/
def mRetO (i : Nat) : MS := fun De ρ n => ∃ ds, ρ[i]? = some (.own ds) ∧ De.rt (.list ds) n
theorem ds_retO (i : Nat) {x : Str} {pos pos2 : Pos} (hN : X.N[i]? = some x := by rfl) (hv : Vis X.env.scope x := by first | exact Or.inl rfl | exact Or.inr (Or.inl rfl) | exact Or.inr (Or.inr rfl)) (hd : (x == ("__debug__" : Str)) = false := by decide)
    (hcd : (x == ("__classdict__" : Str)) = false := by decide) : DS X C (.Return (some (.Name x pos)) pos2) (mRetO i) := ps_weak (ds_frz i (ds_ret (de_var i hN hv hd hcd))) fun Z σ H ⟨B, ρ, n, De, F, ⟨ds, e, w⟩, z⟩ =>
  ⟨B, ρ, n, De, F, ⟨ds, e, .list ds, List.getElem?_set_self (List.getElem?_eq_some_iff.mp e).1, w⟩, z⟩
/-! ### new lists: slices, sums -/
def cutA {α : Type} (xs : List α) (lo hi : Option Int) : List α := (xs.drop (HT.sIx xs.length 0 lo)).take (HT.sIx xs.length xs.length hi - HT.sIx xs.length 0 lo)
theorem DRs.cut {A : Hp} {vs : List V} {ds : List D} (h : DRs K cl A vs ds) (lo hi : Option Int) : DRs K cl A (cutV vs lo hi) (cutA ds lo hi) := by
  unfold cutV cutA
  rw [h.length]
  exact (h.drop _).take _
abbrev MO := Env → Nat → (Option Int → Nat → Prop) → PX → Prop
def tP (C : Cn) (m : MO) : TO := fun σ H Q => ∃ B ρ n P R, Fr C B σ H ρ n ∧ m ρ n P R ∧ OkX C B H R ∧ ∀ o n', P o n' → ∀ B' H', Stp C.sc B H B' H' → SrcOk C.sc H' n' → Q o H'
def mNoP : MO := fun _ n P _ => P none n
def mPart (m : M) : MO := fun ρ n P R => m ρ n (fun d n1 => ∃ i : Int, d = .int i ∧ P (some i) n1) R
abbrev DP (X : Cx) (C : Cn) (e : Option Expr) (m : MO) : Prop := PO X e (tP C m)
theorem po_weak {e : Option Expr} {t t' : TO} (h : PO X e t) (w : ∀ σ H Q, t' σ H Q → t σ H Q) : PO X e t' := ⟨fun pins s σ H Q I q => h.run pins s σ H Q I (w σ H Q q)⟩
theorem dp_none : DP X C none mNoP := po_weak po_none fun σ H Q ⟨B, ρ, n, P, R, F, w, ox, k⟩ => k none n w B H F.self F.src
theorem dp_some {e : Expr} {m : M} (h : DE X C e m) : DP X C (some e) (mPart m) := po_weak (po_some h) fun σ H Q ⟨B, ρ, n, P, R, F, w, ox, k⟩ => ⟨B, ρ, n, _, R, F, w, ox, fun d n1 ⟨i, e, p⟩ v B1 H1 s1 k1 r => by
  subst e
  cases r
  exact ⟨i, rfl, k _ n1 p B1 H1 s1 k1⟩⟩
def mSlL (a : M) (l h : MO) : ML := fun ρ n P R => a ρ n (fun d n1 => l ρ n1 (fun lo n2 => h ρ n2 (fun hi n3 => ∃ ds, d = .list ds ∧ P (cutA ds lo hi) n3) R) R) R
theorem le_slice {e : Expr} {lo hi : Option Expr} {a : M} {l h : MO} {p2 pos : Pos} (hK : X.K = C.K) (ha : QE X C e a) (hl : DP X C lo l) (hh : DP X C hi h) : LE X C (.Subscript e (.Slice lo hi none p2) pos) (mSlL a l h) := pe_weak (pe_slice sl_list ha hl hh) fun σ H Q ⟨B, ρ, n, P, R, F, w, ox, k⟩ => by
  rw [hK]
  refine ⟨B, ρ, n, _, R, F, w, ox, fun d n1 w1 v B1 H1 s1 k1 rv => ⟨B1, ρ, n1, _, R, F.step s1 k1, w1, ox.step s1, fun o n2 w2 B2 H2 s2 k2 => ⟨B2, ρ, n2, _, R, (F.step s1 k1).step s2 k2, w2, (ox.step s1).step s2, fun o2 n3 ⟨ds, ed, p⟩ B3 H3 s3 k3 => ?_⟩⟩⟩
  subst ed
  have r3 := (rv.mono s2.ext.hid s2.old).mono s3.ext.hid s3.old
  have st := (s1.trans s2).trans s3
  have fin : ∀ (a : Addr) (xs : List V), H3 a = some (.lst xs) → DRs C.K C.cl B3 xs ds → v = .ref a → rSlL C.K v o o2 H3 Q := fun a xs h1 r e => ⟨a, xs, e, SqL.of h1, fun q hq =>
    k _ n3 p q _ B3 _ (fresh_of st hq k3) (st.lay hq) (none_of st hq) (src_lay k3 hq) upd_same (r.cut o o2)⟩
  cases r3 with
  | lst h r => exact fin _ _ (hid_sub _ _ h) r rfl
  | set h =>
    cases h with
    | lst h r => exact fin _ _ (s3.sub _ _ h) r rfl
/-- a + b of two lists -/
def mCat (a b : M) : ML := fun ρ n P R => a ρ n (fun x n1 => b ρ n1 (fun y n2 => ∃ ds es, x = .list ds ∧ y = .list es ∧ ds.length + es.length ≤ sizeLine ∧ P (ds ++ es) n2) R) R
theorem q_list {A H B : Hp} {v : V} {ds : List D} (h : QR K cl A B v (.list ds)) (s : Same A H) (sb : Same B H) : ∃ a xs, v = .ref a ∧ H a = some (.lst xs) ∧ DRs K cl B xs ds := by
  cases h with
  | lst h r => exact ⟨_, _, rfl, s _ _ h, r⟩
  | set h =>
    cases h with
    | lst h r => exact ⟨_, _, rfl, sb _ _ h, r⟩
theorem le_cat {x y : Expr} {a b : M} {pos : Pos} (ha : QE X C x a) (hb : QE X C y b) : LE X C (.BinOp x .Add y pos) (mCat a b) := pe_weak (pe_op op_cat ha hb) fun σ H Q ⟨B, ρ, n, P, R, F, w, ox, k⟩ => by
  refine ⟨B, ρ, n, _, R, F, w, ox, fun dx n1 hb x B1 H1 s1 k1 rx => ⟨B1, ρ, n1, _, R, F.step s1 k1, hb, ox.step s1, fun dy n2 hz y B2 H2 s2 k2 ry => ?_⟩⟩
  obtain ⟨ds, es, rfl, rfl, hl, p⟩ := hz
  obtain ⟨l, xs, e1, h1, r1⟩ := q_list (rx.mono s2.ext.hid s2.old) hid_sub s2.sub
  obtain ⟨m, ys, e2, h2, r2⟩ := q_list ry hid_sub s2.sub
  have st := s1.trans s2
  exact ⟨l, m, xs, ys, e1, e2, h1, h2, by rw [r1.length, r2.length]; exact hl, fun q hq => k _ n2 p q _ B2 _ (fresh_of st hq k2) (st.lay hq) (none_of st hq) (src_lay k2 hq) upd_same (r1.append r2)⟩
/-- s.join(a list of texts) -/
def txts : List D → Option (List Str)
  | [] => some []
  | .str x :: r => (txts r).map (x :: ·)
  | _ :: _ => none
theorem txts_rel {A : Hp} : ∀ {vs : List V} {ds : List D} {ys : List Str}, DRs K cl A vs ds → txts ds = some ys → vs = ys.map V.str
  | _, [], _, .nil, e => by cases e; rfl
  | _, d :: r, ys, .cons h t, e => by
    cases h with
    | str x =>
      unfold txts at e
      obtain ⟨zs, e1, e2⟩ := Option.map_eq_some_iff.mp e
      subst e2
      rw [txts_rel t e1]; rfl
    | non => cases e
    | bl _ => cases e
    | int _ => cases e
    | lst _ _ => cases e
    | tup _ _ => cases e
    | ins _ _ _ _ => cases e
def mJoin (a b : M) : M := fun ρ n P R => a ρ n (fun x n1 => ∃ z, x = .str z ∧ b ρ n1 (fun y n2 => ∃ ds ys, y = .list ds ∧ txts ds = some ys ∧ (ys.map (·.length)).sum + ys.length * z.length ≤ 16777216 ∧ P (.str (Txt.join z ys)) n2) R) R
theorem de_join {o e : Expr} {a b : M} {apos pos : Pos} (hK : X.K = C.K) (ho : DE X C o a) (he : QE X C e b) (hs : starEach [e] X.env = [(false, eval e X.env)] := by rfl) (hbase : attributeBase o "join" X.env (eval o X.env) = eval o X.env := by rfl) (hline : (apos.endLine == pos.line) = true := by rfl) :
    DE X C (.Call (.Attribute o "join" apos) [e] [] pos) (mJoin a b) := pe_weak (pe_join ho he hs hbase hline) fun σ H Q ⟨B, ρ, n, P, R, F, w, ox, k⟩ => by
  refine ⟨B, ρ, n, _, R, F, w, ox, fun dx n1 hb x B1 H1 s1 k1 rx => ?_⟩
  obtain ⟨z, rfl, w1⟩ := hb
  cases rx
  refine ⟨⟨z, rfl⟩, B1, ρ, n1, _, R, F.step s1 k1, w1, ox.step s1, fun dy n2 hz y B2 H2 s2 k2 ry => ?_⟩
  obtain ⟨ds, ys, rfl, h1, h2, p⟩ := hz
  obtain ⟨l, xs, e1, h3, r1⟩ := q_list ry hid_sub s2.sub
  subst e1
  have e2 := txts_rel r1 h1
  subst e2
  rw [hK]
  exact ⟨z, l, ys, rfl, rfl, .inl (SqL.of h3), h2, k _ n2 p _ B2 H2 (s1.trans s2) k2 (.str _)⟩
end
end DS

/-! DS7: defs that are called where no repr is under way; repr of data; the end of a law. -/
namespace DS
open PySem L2
/-- as FnOk, asked only where no repr is under way -/
structure FnG (P : Program) (w : World) (K : Fg) (mg : Str → Option Value) (base : Heap) (k : Nat) (f : Addr) (fd : FuncData) (ps : List Str) (sp : Sp) : Prop where
  ln : ∀ vs H Q E, sp vs H Q E → vs.length = ps.length
  go : ∀ (A : Around) (outer : List PySem.Env) (s : Shared) (H : Hp) (args : Args) (us : List Value) (vs : List V) (Q : VK) (E : XK), A.guards = some [] → Room k A → Env0 P w K mg base A outer s H → BindsTo s fd args (ps.zip us) → Vals vs us → sp vs H Q E →
    codeAny (model P w) A (.call (.ref f) args) (CR (L2.CX P w) outer P w H s Q E) s
section
open PyProof.Rows
variable {P : Program} {w : World} {K : Fg} {mg : Str → Option Value} {base : Heap}
theorem FnG.ofOk {k : Nat} {f : Addr} {fd : FuncData} {ps : List Str} {sp : Sp} (F : FnOk P w K mg base (L2.CX P w) k f fd ps sp) : FnG P w K mg base k f fd ps sp :=
  ⟨F.len, fun A outer s H args us vs Q E _ hr e0 hb r h => F.run A outer s H args us vs Q E hr e0 hb r h⟩
/-- by the def's text -/
theorem fng_of {x qual : Str} {st : Stmt} {f : Addr} {fd : FuncData} {N ps : List Str} {k : Nat} {sp : Sp} (F : Fun K x qual st f fd) (S : FnScope N ps (defScope st)) (len : ∀ vs H Q E, sp vs H Q E → vs.length = ps.length)
    (hbody : ∀ (cdv : Value) (A : Around) (outer : List PySem.Env) (s : Shared) (H : Hp) (vs : List V) (Q : VK) (E : XK), A.guards = some [] → Room k (A.deeper (envOfC qual (defScope st) s.heap.objs.size f cdv)) → sp vs H Q E →
      ∃ t, PSs (cxOf (L2.CX P w) P w K mg base N qual (defScope st) f cdv A outer s H E) (defBody st) t ∧ t { nx := fun _ H' => Q .non H', rt := Q } (L2.start N vs) H) : FnG P w K mg base (k + 1) f fd ps sp := by
  obtain ⟨oc, od, kV, doc, pm, an, cdv, ct, osl, e, lk, hcd⟩ := F.ex
  subst e
  refine ⟨len, fun A outer s H args us vs Q E hgd hr e0 hb r hsp => ?_⟩
  have lenv := len _ _ _ _ hsp
  have back : ∀ (b : Addr) (o : Obj), base.get? b = some o → s.heap.get? b = some o := fun b o q => (e0.bs b o q).1
  have inK : K.In s.heap := e0.mod.kin.keeps back
  have kinds : ∀ y ∈ ps.zip us, (defScope st).names.lookup y.1 = some .local ∨ ((defScope st).names.lookup y.1 = some .cell ∧ ((cellsFrom (s.heap.objs.size + 1) (defScope st).names []).lookup y.1).isSome = true) := by
    rintro ⟨a, v⟩ hy
    cases S.par a (List.of_mem_zip hy).1 with
    | inl q => exact .inl q
    | inr q => exact .inr ⟨q, PySem.W.cellsFrom_some _ _ _ (.inl q)⟩
  refine codeAny_call_function hr.depth (inK _ _ lk) rfl S.co S.gen rfl (PySem.W.codeRec_of inK hcd) (hb _ _ _ _ (wpAny_newFunctionEnv_cells S.kind kinds fun env he s1 x => ?_))
  subst he
  refine ⟨(e0.mod.nolimit.keeps back).keeps x.toInCall.keep, codeAny_func ?_⟩
  obtain ⟨t, ht, hq⟩ := hbody cdv A outer s H vs Q E hgd (hr.deeper _) hsp
  refine wpAny_mono (ht.run [] s1 (L2.start N vs) H _ (inv_start S hr.hd e0 lenv r x) hq) (fun fl s' hs => ?_) fun e s' hs => hs
  cases fl with
  | ret u => obtain ⟨v, σ', H', J, rv, q⟩ := hs; exact ⟨v, H', J.os, J.bare, J.base, J.hok, rv, q⟩
  | next => obtain ⟨σ', H', J, q⟩ := hs; exact ⟨.non, H', J.os, J.bare, J.base, J.hok, rfl, q⟩
  | brk => obtain ⟨_, _, _, q⟩ := hs; exact q.elim
  | cont => obtain ⟨_, _, _, q⟩ := hs; exact q.elim
end
section
variable {X : Cx} {C : Cn}
/-- a call of such a def -/
theorem pe_callG {k : Nat} {f : Addr} {fd : FuncData} {ps : List Str} {sp : Sp} {x : Str} {p pos : Pos} {e : Expr} {es : List Expr} {t : TA} {E : XK} (F : FnG X.prog X.w X.K X.mg X.base k f fd ps sp) (hgd : X.A.guards = some []) (hr : Room k X.A) (hg : Gl X x) (hm : X.mg x = some (.ref f))
    (hk : PySem.W.keepIn X.K (.ref f) = true) (hb : Binds X.K fd ps []) (hx : Passes (L2.CX X.prog X.w) X E) (ha : PA X (e :: es) t) (hdb : (x == ("__debug__" : Str)) = false := by decide)
    (he : starEach (e :: es) X.env = (false, eval e X.env) :: starEach es X.env := by rfl) (hpl : (backTo pos (starEach es X.env)).any (·.1) = false := by rfl) : PE X (.Call (.Name x p) (e :: es) [] pos) (tCall sp [] E t) := by
  refine ⟨fun pins s σ H Q I h => wpAny_Call_Name_kw (ld_glob I hg hm (PySem.W.callWith_K (h₀ := X.base) I.ok.mod.kin hk (thn (ha.run pos pins s σ H _ I h) fun us s1 ⟨vs, H1, I1, r, q⟩ => ⟨I1.kIn, ?_⟩) he hpl) hdb)⟩
  have q' : sp vs H1 Q E := by
    have z : sp (vs ++ []) H1 Q E := q
    rw [List.append_nil] at z
    exact z
  have hl : us.length = ps.length := by rw [← r.length]; exact F.ln _ _ _ _ q'
  have hb' := hb s1 us I1.kIn (by rw [List.append_nil]; exact hl)
  rw [List.append_nil] at hb'
  refine wpAny_call (codeAny_mono (F.go X.A X.stack s1 H1 ⟨us, []⟩ us vs Q E hgd hr I1.env0 hb' r q') fun z s' hq => ?_)
  match z, hq with
  | .error e, hq => exact hx pins σ H1 s1 e s' I1 hq
  | .ok (.ret u), hq => exact I1.after hq
  | .ok .next, hq => exact False.elim hq
  | .ok .brk, hq => exact False.elim hq
  | .ok .cont, hq => exact False.elim hq
theorem de_callG {k ar : Nat} {f : Addr} {fd : FuncData} {ps : List Str} {g : G} {a : MA} {x : Str} {p pos : Pos} {e : Expr} {es : List Expr} (F : FnG X.prog X.w X.K X.mg X.base k f fd ps (spW C.K C.cl ar g)) (hgd : X.A.guards = some []) (hr : Room k X.A) (hg : Gl X x) (hm : X.mg x = some (.ref f))
    (hk : PySem.W.keepIn X.K (.ref f) = true) (hb : Binds X.K fd ps []) (hx : Passes (L2.CX X.prog X.w) X C.E) (ha : DA X C (e :: es) a) (hdb : (x == ("__debug__" : Str)) = false := by decide)
    (he : starEach (e :: es) X.env = (false, eval e X.env) :: starEach es X.env := by rfl) (hpl : (backTo pos (starEach es X.env)).any (·.1) = false := by rfl) : DE X C (.Call (.Name x p) (e :: es) [] pos) (mCall g ar a) :=
  pe_weak (pe_callG F hgd hr hg hm hk hb hx ha hdb he hpl) fun _ _ _ => t_call
/-! ### repr of a list or a tuple -/
def fRepr (d : D) : Option D := match d with
  | .list _ => if PyData.showable d = true ∧ d.hasDict = false ∧ d.depth ≤ 64 ∧ d.plain = true ∧ d.shown.length ≤ sizeLine then some (.str d.shown) else none
  | .tuple _ => if PyData.showable d = true ∧ d.hasDict = false ∧ d.depth ≤ 64 ∧ d.plain = true ∧ d.shown.length ≤ sizeLine then some (.str d.shown) else none
  | _ => none
def rRepr (K : Fg) : List V → Hp → VK → Prop := fun xs H Q => ∃ (a : Addr) (d : D), xs = [.ref a] ∧ Dp K H (.ref a) d ∧ PyData.showable d = true ∧ d.hasDict = false ∧ d.depth ≤ 64 ∧ d.shown.length ≤ sizeLine ∧ Q (.str d.shown) H
theorem cr_repr (hgd : X.A.guards = some []) (hu : X.A.units + 70 < cLine) : CallR X (.builtin "repr") (rRepr X.K) := by
  intro pins s σ H xs us Q I r h
  obtain ⟨a, d, rfl, hd, h1, h2, h3, h4, q⟩ := h
  obtain ⟨u, rfl, ru⟩ := vals1 r
  obtain rfl : u = Value.ref a := ru
  obtain ⟨as, rd⟩ := Dp.reads I d (.ref a) (.ref a) hd (show RelV (.ref a) (.ref a) from rfl)
  exact PySem.repr_of_reads' rd h1 (fun z => by rw [h2] at z; cases z) hgd (by omega) (fun _ _ e => e) (fun h' u tk k => ⟨.str d.shown, H, I.kept k, ⟨u, rfl⟩, q⟩) h4
theorem f_repr {K : Fg} {cl : Cl} : CF1 K cl (rRepr K) fRepr := fun A H x dx z s hx e Q q => by
  cases hx with
  | lst h r =>
    obtain ⟨⟨h1, h2, h3, h4, h5⟩, rfl⟩ := ite_some' e
    exact ⟨_, _, rfl, Dp.mono' (.lst h r) s h4, h1, h2, h3, h5, q _ fun _ => .str _⟩
  | tup h r tr =>
    obtain ⟨⟨h1, h2, h3, h4, h5⟩, rfl⟩ := ite_some' e
    exact ⟨_, _, rfl, Dp.mono' (.tup h r tr) s h4, h1, h2, h3, h5, q _ fun _ => .str _⟩
  | non => cases e
  | bl _ => cases e
  | int _ => cases e
  | str _ => cases e
  | ins _ _ _ _ => cases e
end
/-! ### the end of a law -/
section
open PyProof.Rows PySem.W
/-- the law's own call, from a heap in which the script alone may be tracked -/
theorem law_go {P : Program} {w : World} {K : Fg} {mg mb : Str → Option Value} {k : Nat} {fa a : Addr} {fd : FuncData} {x : Str} {sp : Sp} {s1 : Shared} {vs : List Value} {ns : List Int}
    (inK : K.In s1.heap) (hns : s1.heap.Ns mainGlobals mg) (hb : s1.heap.Ns builtinsNs mb) (hbb : ∀ x : Str, x ≠ "__name__" → mb x = bootBuiltins x) (lim : s1.heap.NoLimit) (hg : s1.gens = #[])
    (ha : s1.heap.get? a = some { cls := .type "list", data := .seq vs.toArray }) (hi : IntsAre vs ns) (hl : ns.length ≤ sizeLine) (hr : Room k callerA)
    (F : ∀ base : Heap, K.In base → base.Ns mainGlobals mg → FnG P w K mg base k fa fd [x] sp) (bind : ∀ (s : Shared) (u : Value), BindsTo s fd ⟨[u], []⟩ [(x, u)])
    (hsp : ∀ H : Hp, Only H → SqL K H a (ns.map V.int) → sp [.ref a] H (fun v _ => v = .bl true) fun _ _ _ => False) :
    codeAny (model P w) callerA (.call (.ref fa) ⟨[.ref a], []⟩) (fun r s' => r = .ok (.ret (.bool true)) ∧ OldK s1.heap s'.heap ∧ s'.os = s1.os ∧ AllBare s'.gens) s1 := by
  have rv := vals_ints hi
  have main : ∀ H : Hp, Only H → SqL K H a (ns.map V.int) → HOk P w H s1.heap → (∀ b, H b ≠ none → b = a ∧ K.lookup a = none) →
      codeAny (model P w) callerA (.call (.ref fa) ⟨[.ref a], []⟩) (fun r s' => r = .ok (.ret (.bool true)) ∧ OldK s1.heap s'.heap ∧ s'.os = s1.os ∧ AllBare s'.gens) s1 := by
    intro H only hS ok hA
    have dictFree : ∀ {b : Addr} {o : Obj} {es : Array DictEntry} {ep : Nat}, s1.heap.get? b = some o → o.data = .dict es ep → H b = none := by
      intro b o es ep e d
      by_cases z : H b = none
      · exact z
      · obtain ⟨rfl, _⟩ := hA b z
        rw [ha] at e; cases e
        exact absurd d (by intro q; cases q)
    have nsIn : ∀ {b : Addr} {m : Str → Option Value}, s1.heap.Ns b m → (hidT s1.heap H).Ns b m := by
      rintro b m ⟨o, es, ep, e, d, r⟩
      exact ⟨o, es, ep, hidT_get e (dictFree e d), d, r⟩
    have inB : K.In (hidT s1.heap H) := by
      intro b o e
      refine hidT_get (inK b o e) ?_
      by_cases z : H b = none
      · exact z
      · obtain ⟨rfl, q⟩ := hA b z
        rw [q] at e; cases e
    obtain ⟨mc, l1, l2⟩ := lim
    have e0 : Env0 P w K mg (hidT s1.heap H) callerA [] s1 H :=
      { frames := rfl, mod := ⟨inB, nsIn hns, ⟨mb, nsIn hb, hbb⟩, ⟨mc, nsIn l1, l2⟩⟩, bs := fun b o e => of_hidT e, bsz := Nat.le_of_eq (hidT_size _ _), funs := trivial, frf := fun b z => (by cases z), hok := ok, bare := .of_eq hg }
    refine codeAny_mono ((F _ inB (nsIn hns)).go callerA [] s1 H ⟨[.ref a], []⟩ [.ref a] [.ref a] _ _ rfl hr e0 (bind s1 (.ref a)) (.cons rfl .nil) (hsp H only hS)) fun r s' h => ?_
    match r, h with
    | .error e, h =>
      obtain ⟨_, _, _, _, _, _, _, _, _, _, _, _, z⟩ := h
      exact z.elim
    | .ok .next, h => exact False.elim h
    | .ok .brk, h => exact False.elim h
    | .ok .cont, h => exact False.elim h
    | .ok (.ret u), h =>
      obtain ⟨v, H', os, bare, un, ok', r', q⟩ := h
      obtain rfl : v = .bl true := q
      obtain rfl : u = Value.bool true := r'
      refine ⟨rfl, OldK.of_keep fun b o e => ?_, os, bare⟩
      rcases only b with z | ⟨ob, xs, z⟩
      · exact un.keep b o e z (by intro q; cases q) (by simp)
      · have e1 := (ok b _ z).1
        have e2 := (ok' b _ (un.frzs b ob _ z)).1
        rw [e] at e1; cases e1; exact e2
  cases hk : K.lookup a with
  | some o =>
    have e := inK a o hk
    rw [ha] at e; cases e
    exact main (fun _ => none) (fun _ => .inl rfl) (.inr ⟨_, vs.toArray, _, hk, rfl, rfl, rfl, by rw [List.size_toArray, hi.length]; exact hl, by simpa using rv⟩) (fun b u z => by cases z) fun b z => absurd rfl z
  | none =>
    let O : HO := .frz { cls := .type "list", data := .seq vs.toArray } (.lst (ns.map V.int))
    have at_a : ∀ b, (fun b => if b = a then some O else none : Hp) b ≠ none → b = a := fun b z => by
      by_cases q : b = a
      · exact q
      · exact absurd (if_neg q) z
    refine main (fun b => if b = a then some O else none) (fun b => ?_) (.inl (.inr ⟨_, if_pos rfl⟩)) (fun b u z => ?_) fun b z => ⟨at_a b z, hk⟩
    · by_cases q : b = a
      · exact .inr ⟨_, _, if_pos q⟩
      · exact .inl (if_neg q)
    · obtain rfl := at_a b (by rw [z]; exact fun q => by cases q)
      have z' := (if_pos rfl).symm.trans z
      cases z'
      exact ⟨ha, by rw [List.length_map]; exact hl, vs, _, rv, ha⟩
theorem walk_G {l : OpenLaw} {n k : Nat} {q : Program} {loose : List Str} {XP : (Str → Option Value) → Heap → Prop} {YP : World → Heap → Prop} {d : DefRec} {K : Params → Frag} {sp : Frag → Sp} {x : Str}
    (hn : l.most = some n) (hn2 : n ≤ sizeLine) (hdf : d.params.defaults = []) (hr : Room k callerA) (hY : ∀ (w : World) (h : Heap), YP w h → (K w.params).In h)
    (F : ∀ (w : World) (mg : Str → Option Value) (fa : Addr) (h : Heap), (K w.params).In h → h.Ns mainGlobals mg → mg d.name = some (.ref fa) →
      ∃ fd : FuncData, (∀ (s : Shared) (u : Value), BindsTo s fd ⟨[u], []⟩ [(x, u)]) ∧ ∀ base : Heap, (K w.params).In base → base.Ns mainGlobals mg → FnG l.prog w (K w.params) mg base k fa fd [x] (sp (K w.params)))
    (hsp : ∀ (K : Frag) (H : Hp) (a : Addr) (ns : List Int), ns.length ≤ n → SqL K H a (ns.map V.int) → sp K [.ref a] H (fun v _ => v = .bl true) fun _ _ _ => False) :
    WalkO q loose XP YP l.row.toRowW d [] (fun f vs => PySem.call f vs) := by
  refine Att.attach_call hn hdf fun w s0 s1 mg mb fa o pm cd doc a vs ns G Y ho hd hcd hmg hobj hints hlen hg => ?_
  have inK := hY w _ Y
  obtain ⟨fd, hb, hF⟩ := F w mg fa _ inK G.T.g hmg
  exact law_go inK G.T.g G.T.b G.T.builtins G.T.nolimit hg hobj hints (Nat.le_trans hlen hn2) hr hF hb fun H _ hS => hsp (K w.params) H a ns hlen hS
end
end DS

/-! DS8: more rules; reckoning with readings. -/
namespace DS
open PySem L2

theorem hu64 {k : Nat} {A : Around} (hr : Room k A) : A.units + 64 < cLine := by have := hr.un; omega
theorem hu65 {k : Nat} {A : Around} (hr : Room k A) : A.units + 65 < cLine := by have := hr.un; omega
theorem hu70 {k : Nat} {A : Around} (hr : Room k A) : A.units + 70 < cLine := by have := hr.un; omega
section
variable {X : Cx} {C : Cn} {K : Fg} {cl : Cl}
/-! all, any of a list of truth values -/
def bools : List D → Option (List Bool)
  | [] => some []
  | .bool b :: r => (bools r).map (b :: ·)
  | _ :: _ => none
theorem bools_rel {A : Hp} : ∀ {vs : List V} {ds : List D} {bs : List Bool}, DRs K cl A vs ds → bools ds = some bs → vs = bs.map V.bl
  | _, [], _, .nil, e => by cases e; rfl
  | _, d :: r, bs, .cons h t, e => by
    cases h with
    | bl b =>
      unfold bools at e
      obtain ⟨cs, e1, e2⟩ := Option.map_eq_some_iff.mp e
      subst e2
      rw [bools_rel t e1]; rfl
    | non => cases e
    | str _ => cases e
    | int _ => cases e
    | lst _ _ => cases e
    | tup _ _ => cases e
    | ins _ _ _ _ => cases e
def fAll : D → Option D
  | .list ds => (bools ds).map fun bs => .bool (bs.all id)
  | _ => none
def fAny : D → Option D
  | .list ds => (bools ds).map fun bs => .bool (bs.any id)
  | _ => none
theorem f_all : CF1 K cl (rAll K) fAll := fun A H x dx z s hx e Q q => by
  cases hx with
  | lst h r =>
    obtain ⟨bs, e1, e2⟩ := Option.map_eq_some_iff.mp e
    subst e2
    have := bools_rel r e1
    subst this
    exact ⟨_, bs, rfl, SqL.of (s _ _ h), q _ fun _ => .bl _⟩
  | non => cases e
  | bl _ => cases e
  | int _ => cases e
  | str _ => cases e
  | tup _ _ => cases e
  | ins _ _ _ _ => cases e
theorem f_any : CF1 K cl (rAny K) fAny := fun A H x dx z s hx e Q q => by
  cases hx with
  | lst h r =>
    obtain ⟨bs, e1, e2⟩ := Option.map_eq_some_iff.mp e
    subst e2
    have := bools_rel r e1
    subst this
    exact ⟨_, bs, rfl, SqL.of (s _ _ h), q _ fun _ => .bl _⟩
  | non => cases e
  | bl _ => cases e
  | int _ => cases e
  | str _ => cases e
  | tup _ _ => cases e
  | ins _ _ _ _ => cases e
/-! y = [.. for ..] -/
theorem ds_setLc {i : Nat} {y : Str} {py : Pos} {elt tg iter : Expr} {ifs : List Expr} {scope : Scope} {own : List (Str × Nat)} {pos spos : Pos} {mi : MI} {g : TG} {gd : GD} {tt : MT} {te : M} (hc : X.calm = true) (hN : X.N.Nodup) (hy : X.N[i]? = some y) (hyl : X.env.scope.names.lookup y = some .local)
    (hsw : swapsWith (.ListComp elt [⟨tg, iter, ifs, 0⟩] scope pos) (some (.Name y py)) spos.line X.env = pure true) (hi : IQ X C tg iter mi) (ok : BlkOk X.N X.env.scope scope own) (hgd : GOk C g gd) (hin : GIn g (own.map (·.2)))
    (hg : ∀ (s : Shared) (H : Hp) (A : Addr) (cl : List (Str × Addr)) (fp : List Addr), PG (X.blk s H scope (compEnvC scope cl A X.env) fp) tg g) (ht : ∀ (s : Shared) (H : Hp) (A : Addr) (cl : List (Str × Addr)) (fp : List Addr), DTs (X.blk s H scope (compEnvC scope cl A X.env) fp) C.qt ifs tt)
    (he : ∀ (s : Shared) (H : Hp) (A : Addr) (cl : List (Str × Addr)) (fp : List Addr), DE (X.blk s H scope (compEnvC scope cl A X.env) fp) C.qt elt te) (hs : ∀ x, foldedSetIterable iter X.env x = pure x := by intro _; rfl) :
    DS X C (.Assign [.Name y py] (.ListComp elt [⟨tg, iter, ifs, 0⟩] scope pos) spos) (mSet (mL (mComp mi gd (own.map (·.2)) tt te)) (gdName i)) :=
  ps_weak (ps_setLc hc hN hy hyl hsw hi ok hg ht he hs) fun Z σ H h => by
    refine t_set (te := mL (mComp mi gd (own.map (·.2)) tt te)) (g_name i) h |> fun z => ?_
    exact t_comp hgd hin (by
      obtain ⟨B, ρ, n, P, R, F, w, ox, k⟩ := z
      exact ⟨B, ρ, n, fun ds => P (.list ds), R, F, w, ox, fun ds n' q p vs B' H' hp s hb c h1 r =>
        k (.list ds) n' q (.ref p) (upd B' p (.lst vs)) H' (s.settle hp h1 hb (src_new F.src hp)) c (.lst upd_same (r.mono (same_upd hb)))⟩)
theorem ds_ownLc {i : Nat} {y : Str} {py : Pos} {elt tg iter : Expr} {ifs : List Expr} {scope : Scope} {own : List (Str × Nat)} {pos spos : Pos} {mi : MI} {g : TG} {gd : GD} {tt : MT} {te : M} (hc : X.calm = true) (hN : X.N.Nodup) (hy : X.N[i]? = some y) (hyl : X.env.scope.names.lookup y = some .local)
    (hsw : swapsWith (.ListComp elt [⟨tg, iter, ifs, 0⟩] scope pos) (some (.Name y py)) spos.line X.env = pure true) (hi : IQ X C tg iter mi) (ok : BlkOk X.N X.env.scope scope own) (hgd : GOk C g gd) (hin : GIn g (own.map (·.2)))
    (hg : ∀ (s : Shared) (H : Hp) (A : Addr) (cl : List (Str × Addr)) (fp : List Addr), PG (X.blk s H scope (compEnvC scope cl A X.env) fp) tg g) (ht : ∀ (s : Shared) (H : Hp) (A : Addr) (cl : List (Str × Addr)) (fp : List Addr), DTs (X.blk s H scope (compEnvC scope cl A X.env) fp) C.qt ifs tt)
    (he : ∀ (s : Shared) (H : Hp) (A : Addr) (cl : List (Str × Addr)) (fp : List Addr), DE (X.blk s H scope (compEnvC scope cl A X.env) fp) C.qt elt te) (hs : ∀ x, foldedSetIterable iter X.env x = pure x := by intro _; rfl) :
    DS X C (.Assign [.Name y py] (.ListComp elt [⟨tg, iter, ifs, 0⟩] scope pos) spos) (mOwn i (mComp mi gd (own.map (·.2)) tt te)) :=
  ps_weak (ps_setLc hc hN hy hyl hsw hi ok hg ht he hs) fun Z σ H h => t_comp hgd hin (t_own h)
/-- a, b = e1, e2 -/
def mPar (i j : Nat) (a : MA) : MS := fun De ρ n => a ρ n (fun as n1 => ∃ d e, as = [.dat d, .dat e] ∧ De.nx ((ρ.set i (.dat d)).set j (.dat e)) n1) De.ex
end
/-! ### reckoning -/
/-- a def without effects: its data in, its data out -/
def gF (f : List D → Option D) : G := fun as n P _ => ∃ ds z, as = ds.map .dat ∧ f ds = some z ∧ P z n
theorem mSeq_d (a b : MS) (De : DEnds) (ρ : Env) (n : Nat) : mSeq a b De ρ n = a { De with nx := fun ρ n => b De ρ n } ρ n := rfl
theorem mRet_d (te : M) (De : DEnds) (ρ : Env) (n : Nat) : mRet te De ρ n = te ρ n De.rt De.ex := rfl
theorem mVar_d {i : Nat} {ρ : Env} {n : Nat} {P : PD} {R : PX} {d : D} (h : ρ[i]? = some (.dat d)) : mVar i ρ n P R = P d n := by
  unfold mVar; rw [h]; simp
theorem mVarQ_d {i : Nat} {ρ : Env} {n : Nat} {P : PD} {R : PX} {d : D} (h : ρ[i]? = some (.dat d)) : mVarQ i ρ n P R = P d n := by
  unfold mVarQ; rw [h]; simp [slD]
theorem mVarQ_o {i : Nat} {ρ : Env} {n : Nat} {P : PD} {R : PX} {ds : List D} (h : ρ[i]? = some (.own ds)) : mVarQ i ρ n P R = P (.list ds) n := by
  unfold mVarQ; rw [h]; simp [slD]
end DS

/-! DS9: isinstance by kinds; what is reckoned. -/
namespace DS
open PySem L2
theorem kit_int_NoneType : kitB "NoneType" "int" = some false := by decide +kernel
theorem kit_int_bool : kitB "bool" "int" = some true := by decide +kernel
theorem kit_int_int : kitB "int" "int" = some true := by decide +kernel
theorem kit_int_str : kitB "str" "int" = some false := by decide +kernel
theorem kit_int_list : kitB "list" "int" = some false := by decide +kernel
theorem kit_int_tuple : kitB "tuple" "int" = some false := by decide +kernel
theorem kit_bool_NoneType : kitB "NoneType" "bool" = some false := by decide +kernel
theorem kit_bool_bool : kitB "bool" "bool" = some true := by decide +kernel
theorem kit_bool_int : kitB "int" "bool" = some false := by decide +kernel
theorem kit_bool_str : kitB "str" "bool" = some false := by decide +kernel
theorem kit_bool_list : kitB "list" "bool" = some false := by decide +kernel
theorem kit_bool_tuple : kitB "tuple" "bool" = some false := by decide +kernel
theorem kit_str_NoneType : kitB "NoneType" "str" = some false := by decide +kernel
theorem kit_str_bool : kitB "bool" "str" = some false := by decide +kernel
theorem kit_str_int : kitB "int" "str" = some false := by decide +kernel
theorem kit_str_str : kitB "str" "str" = some true := by decide +kernel
theorem kit_str_list : kitB "list" "str" = some false := by decide +kernel
theorem kit_str_tuple : kitB "tuple" "str" = some false := by decide +kernel
theorem kit_tuple_NoneType : kitB "NoneType" "tuple" = some false := by decide +kernel
theorem kit_tuple_bool : kitB "bool" "tuple" = some false := by decide +kernel
theorem kit_tuple_int : kitB "int" "tuple" = some false := by decide +kernel
theorem kit_tuple_str : kitB "str" "tuple" = some false := by decide +kernel
theorem kit_tuple_list : kitB "list" "tuple" = some false := by decide +kernel
theorem kit_tuple_tuple : kitB "tuple" "tuple" = some true := by decide +kernel
theorem kit_list_NoneType : kitB "NoneType" "list" = some false := by decide +kernel
theorem kit_list_bool : kitB "bool" "list" = some false := by decide +kernel
theorem kit_list_int : kitB "int" "list" = some false := by decide +kernel
theorem kit_list_str : kitB "str" "list" = some false := by decide +kernel
theorem kit_list_list : kitB "list" "list" = some true := by decide +kernel
theorem kit_list_tuple : kitB "tuple" "list" = some false := by decide +kernel
theorem is_int_NoneType  : fIs "int" .none = some (.bool false) := by show (kitB "NoneType" "int").map PyData.bool = _; rw [kit_int_NoneType]; rfl
theorem is_int_bool {b : Bool} : fIs "int" (.bool b) = some (.bool true) := by show (kitB "bool" "int").map PyData.bool = _; rw [kit_int_bool]; rfl
theorem is_int_int {i : Int} : fIs "int" (.int i) = some (.bool true) := by show (kitB "int" "int").map PyData.bool = _; rw [kit_int_int]; rfl
theorem is_int_str {s : Str} : fIs "int" (.str s) = some (.bool false) := by show (kitB "str" "int").map PyData.bool = _; rw [kit_int_str]; rfl
theorem is_int_list {l : List D} : fIs "int" (.list l) = some (.bool false) := by show (kitB "list" "int").map PyData.bool = _; rw [kit_int_list]; rfl
theorem is_int_tuple {l : List D} : fIs "int" (.tuple l) = some (.bool false) := by show (kitB "tuple" "int").map PyData.bool = _; rw [kit_int_tuple]; rfl
theorem is_bool_NoneType  : fIs "bool" .none = some (.bool false) := by show (kitB "NoneType" "bool").map PyData.bool = _; rw [kit_bool_NoneType]; rfl
theorem is_bool_bool {b : Bool} : fIs "bool" (.bool b) = some (.bool true) := by show (kitB "bool" "bool").map PyData.bool = _; rw [kit_bool_bool]; rfl
theorem is_bool_int {i : Int} : fIs "bool" (.int i) = some (.bool false) := by show (kitB "int" "bool").map PyData.bool = _; rw [kit_bool_int]; rfl
theorem is_bool_str {s : Str} : fIs "bool" (.str s) = some (.bool false) := by show (kitB "str" "bool").map PyData.bool = _; rw [kit_bool_str]; rfl
theorem is_bool_list {l : List D} : fIs "bool" (.list l) = some (.bool false) := by show (kitB "list" "bool").map PyData.bool = _; rw [kit_bool_list]; rfl
theorem is_bool_tuple {l : List D} : fIs "bool" (.tuple l) = some (.bool false) := by show (kitB "tuple" "bool").map PyData.bool = _; rw [kit_bool_tuple]; rfl
theorem is_str_NoneType  : fIs "str" .none = some (.bool false) := by show (kitB "NoneType" "str").map PyData.bool = _; rw [kit_str_NoneType]; rfl
theorem is_str_bool {b : Bool} : fIs "str" (.bool b) = some (.bool false) := by show (kitB "bool" "str").map PyData.bool = _; rw [kit_str_bool]; rfl
theorem is_str_int {i : Int} : fIs "str" (.int i) = some (.bool false) := by show (kitB "int" "str").map PyData.bool = _; rw [kit_str_int]; rfl
theorem is_str_str {s : Str} : fIs "str" (.str s) = some (.bool true) := by show (kitB "str" "str").map PyData.bool = _; rw [kit_str_str]; rfl
theorem is_str_list {l : List D} : fIs "str" (.list l) = some (.bool false) := by show (kitB "list" "str").map PyData.bool = _; rw [kit_str_list]; rfl
theorem is_str_tuple {l : List D} : fIs "str" (.tuple l) = some (.bool false) := by show (kitB "tuple" "str").map PyData.bool = _; rw [kit_str_tuple]; rfl
theorem is_tuple_NoneType  : fIs "tuple" .none = some (.bool false) := by show (kitB "NoneType" "tuple").map PyData.bool = _; rw [kit_tuple_NoneType]; rfl
theorem is_tuple_bool {b : Bool} : fIs "tuple" (.bool b) = some (.bool false) := by show (kitB "bool" "tuple").map PyData.bool = _; rw [kit_tuple_bool]; rfl
theorem is_tuple_int {i : Int} : fIs "tuple" (.int i) = some (.bool false) := by show (kitB "int" "tuple").map PyData.bool = _; rw [kit_tuple_int]; rfl
theorem is_tuple_str {s : Str} : fIs "tuple" (.str s) = some (.bool false) := by show (kitB "str" "tuple").map PyData.bool = _; rw [kit_tuple_str]; rfl
theorem is_tuple_list {l : List D} : fIs "tuple" (.list l) = some (.bool false) := by show (kitB "list" "tuple").map PyData.bool = _; rw [kit_tuple_list]; rfl
theorem is_tuple_tuple {l : List D} : fIs "tuple" (.tuple l) = some (.bool true) := by show (kitB "tuple" "tuple").map PyData.bool = _; rw [kit_tuple_tuple]; rfl
theorem is_list_NoneType  : fIs "list" .none = some (.bool false) := by show (kitB "NoneType" "list").map PyData.bool = _; rw [kit_list_NoneType]; rfl
theorem is_list_bool {b : Bool} : fIs "list" (.bool b) = some (.bool false) := by show (kitB "bool" "list").map PyData.bool = _; rw [kit_list_bool]; rfl
theorem is_list_int {i : Int} : fIs "list" (.int i) = some (.bool false) := by show (kitB "int" "list").map PyData.bool = _; rw [kit_list_int]; rfl
theorem is_list_str {s : Str} : fIs "list" (.str s) = some (.bool false) := by show (kitB "str" "list").map PyData.bool = _; rw [kit_list_str]; rfl
theorem is_list_list {l : List D} : fIs "list" (.list l) = some (.bool true) := by show (kitB "list" "list").map PyData.bool = _; rw [kit_list_list]; rfl
theorem is_list_tuple {l : List D} : fIs "list" (.tuple l) = some (.bool false) := by show (kitB "tuple" "list").map PyData.bool = _; rw [kit_list_tuple]; rfl
theorem ex_if {α : Type} {c : Prop} [Decidable c] {a : α} {Q : α → Prop} : (∃ z, (if c then some a else none) = some z ∧ Q z) = (c ∧ Q a) := by
  by_cases h : c
  · rw [if_pos h]; simp [h]
  · rw [if_neg h]; simp [h]
theorem eq_ints (neg : Bool) (i j : Int) : fEq neg (.int i) (.int j) = some (.bool (if neg then !(i == j) else i == j)) := by
  unfold fEq
  rw [if_pos ⟨rfl, rfl⟩]
  cases neg <;> simp [PyData.eqv]
theorem eq_strs (neg : Bool) (x y : Str) : fEq neg (.str x) (.str y) = some (.bool (if neg then !(x == y) else x == y)) := by
  unfold fEq
  rw [if_pos ⟨rfl, rfl⟩]
  cases neg <;> simp [PyData.eqv]
theorem eq_bools (neg : Bool) (x y : Bool) : fEq neg (.bool x) (.bool y) = some (.bool (if neg then !(x == y) else x == y)) := by
  unfold fEq
  rw [if_pos ⟨rfl, rfl⟩]
  cases neg <;> simp [PyData.eqv]
theorem ix0 (a : D) (r : List D) : fIx (.tuple (a :: r)) (.int 0) = some a := by
  show atI _ _ = _
  unfold atI ixN
  rw [if_pos (by decide), if_pos (by simp only [List.length_cons]; omega)]
  rfl
theorem ix1 (a b : D) (r : List D) : fIx (.tuple (a :: b :: r)) (.int 1) = some b := by
  show atI _ _ = _
  unfold atI ixN
  rw [if_pos (by decide), if_pos (by simp only [List.length_cons]; omega)]
  rfl
theorem ix2 (a b c : D) (r : List D) : fIx (.tuple (a :: b :: c :: r)) (.int 2) = some c := by
  show atI _ _ = _
  unfold atI ixN
  rw [if_pos (by decide), if_pos (by simp only [List.length_cons]; omega)]
  rfl
theorem ix3 (a b c d : D) (r : List D) : fIx (.tuple (a :: b :: c :: d :: r)) (.int 3) = some d := by
  show atI _ _ = _
  unfold atI ixN
  rw [if_pos (by decide), if_pos (by simp only [List.length_cons]; omega)]
  rfl
theorem ix4 (a b c d e : D) (r : List D) : fIx (.tuple (a :: b :: c :: d :: e :: r)) (.int 4) = some e := by
  show atI _ _ = _
  unfold atI ixN
  rw [if_pos (by decide), if_pos (by simp only [List.length_cons]; omega)]
  rfl
theorem lx0 (a : D) (r : List D) : fIx (.list (a :: r)) (.int 0) = some a := ix0 a r
theorem lx1 (a b : D) (r : List D) : fIx (.list (a :: b :: r)) (.int 1) = some b := ix1 a b r
theorem lx2 (a b c : D) (r : List D) : fIx (.list (a :: b :: c :: r)) (.int 2) = some c := ix2 a b c r
theorem lx3 (a b c d : D) (r : List D) : fIx (.list (a :: b :: c :: d :: r)) (.int 3) = some d := ix3 a b c d r
end DS

/-! P1: the grants' defs over data. -/
namespace DS
open PySem L2
local macro_rules | `(tactic| walk_at "ev") => `(tactic| simp only [mSeq, mRet, mVar, mVarQ, slD, mC, m1, m2, mT, mNot, mAnd, mOr, mAndV, mOrV, mNotV, mIf, mChain, mNil, mCons, mSrc, mTup, mLst, mCall, mIx, mL, mIs, mIfS, mNext, mSet, mOwn, mRetO, mRetN, mExp, mPar, mNev, datAll, gdName, gdTup, setAll, fI, fIc, fNeg, fLen, fInt, fAbs, fIsN, env0, wipeR,
  is_int_NoneType, is_int_bool, is_int_int, is_int_str, is_int_list, is_int_tuple, is_bool_NoneType, is_bool_bool, is_bool_int, is_bool_str, is_bool_list, is_bool_tuple, is_str_NoneType, is_str_bool, is_str_int, is_str_str, is_str_list, is_str_tuple, is_tuple_NoneType, is_tuple_bool, is_tuple_int, is_tuple_str, is_tuple_list, is_tuple_tuple, is_list_NoneType, is_list_bool, is_list_int, is_list_str, is_list_list, is_list_tuple,
  List.map, List.length_cons, List.length_nil, List.getElem?_cons_zero, List.getElem?_cons_succ, List.set_cons_zero, List.set_cons_succ, List.replicate, List.append_assoc, List.cons_append, List.nil_append, Option.map_some, Option.some.injEq, Sl.dat.injEq, Sl.own.injEq, exists_eq_left', exists_eq_left, exists_and_left, exists_and_right, true_and, and_true, Bool.true_eq_false, if_true, if_false, reduceIte, Bool.false_eq_true, Bool.not_true, Bool.not_false, PyData.bool.injEq, PyData.int.injEq, PyData.str.injEq, PyData.tuple.injEq, PyData.list.injEq, Nat.reduceAdd, Nat.reduceSub, Option.map_none, decide_eq_true_eq, ex_if, eq_ints, eq_strs, eq_bools, ix0, ix1, ix2, ix3, ix4, lx0, lx1, lx2, lx3])
/-! ### whole numbers, names -/
def isI : D → Bool
  | .int _ => true
  | _ => false
def within (d : D) (lo hi : Int) : Bool := match d with
  | .int i => decide (lo ≤ i) && decide (i ≤ hi)
  | _ => false
/-- data of the plain kinds: no object of an own class; a text not too long -/
def pl : D → Bool
  | .dict _ => false
  | .str s => decide (s.length ≤ sizeLine)
  | _ => true
def letter (c : Nat) : Bool := decide (97 ≤ c) && decide (c ≤ 122)
def isName : D → Bool
  | .str s => decide (1 ≤ s.length) && decide (s.length ≤ 8) && s.cps.toList.all letter
  | _ => false
def f_whole : List D → Option D
  | [d] => if pl d = true then some (.bool (isI d)) else none
  | _ => none
def f_within : List D → Option D
  | [d, .int lo, .int hi] => if pl d = true then some (.bool (within d lo hi)) else none
  | _ => none
def big : Int := 1000000000000000000000000000000
def f_time : List D → Option D
  | [d] => if pl d = true then some (.bool (within d (-big) big)) else none
  | _ => none
def f_name : List D → Option D
  | [d] => if pl d = true then some (.bool (isName d)) else none
  | _ => none
abbrev g_is_whole : G := gF f_whole
abbrev g_is_within : G := gF f_within
abbrev g_is_time : G := gF f_time
abbrev g_is_name : G := gF f_name
theorem gF1 {f : List D → Option D} {as : List Sl} {n : Nat} {P : PD} {R : PX} (ds : List D) (z : D) (h1 : as = ds.map .dat) (h2 : f ds = some z) (p : P z n) : gF f as n P R := ⟨ds, z, h1, h2, p⟩
def m_is_whole : MS := (mRet (mAndV (mIs "int" (mVarQ 0)) (mNotV (mIs "bool" (mVarQ 0)))))
def N_is_whole : List Str := ["value"]
abbrev ends (P : PD) (R : PX) : DEnds := { nx := fun _ n' => P .none n', rt := P, ex := R }
theorem pr_is_whole (as n P R) (hl : as.length = 1) (h : g_is_whole as n P R) : m_is_whole (ends P R) (env0 as N_is_whole.length) n := by
  obtain ⟨ds, z, rfl, e, p⟩ := h
  match ds, e with
  | [d], e =>
    obtain ⟨c, rfl⟩ := ite_some' e
    show m_is_whole (ends P R) (env0 [.dat d] 1) n
    unfold m_is_whole
    cases d <;> first
      | (cases c; done)
      | (walk_at "ev"; exact p)
def N_is_within : List Str := ["value", "least", "most"]
def m_is_within : MS := (mRet (mAndV (mCall g_is_whole 1 (mCons (mVar 0) mNil)) (mChain fLe fLe (mVarQ 1) (mVarQ 0) (mVarQ 2))))
theorem pr_is_within (as n P R) (hl : as.length = 3) (h : g_is_within as n P R) : m_is_within (ends P R) (env0 as N_is_within.length) n := by
  obtain ⟨ds, z, rfl, e, p⟩ := h
  match ds, e with
  | [d, .int lo, .int hi], e =>
    obtain ⟨c, rfl⟩ := ite_some' e
    show m_is_within (ends P R) (env0 [.dat d, .dat (.int lo), .dat (.int hi)] 3) n
    unfold m_is_within
    walk_at "ev"
    refine gF1 [d] _ rfl (if_pos c) ⟨_, rfl, ?_⟩
    cases d with
    | int i =>
      simp only [isI, if_true]
      walk_at "ev"
      have q := p
      unfold within at q
      by_cases h1 : lo ≤ i
      · rw [if_pos h1]
        simpa [h1] using q
      · rw [if_neg h1]
        simpa [h1] using q
    | _ => simpa [isI, within] using p
def N_is_time : List Str := ["value"]
def m_is_time : MS := (mRet (mCall g_is_within 3 (mCons (mVar 0) (mCons (m1 fNeg (mC (.int (1000000000000000000000000000000)))) (mCons (mC (.int (1000000000000000000000000000000))) mNil)))))
theorem pr_is_time (as n P R) (hl : as.length = 1) (h : g_is_time as n P R) : m_is_time (ends P R) (env0 as N_is_time.length) n := by
  obtain ⟨ds, z, rfl, e, p⟩ := h
  match ds, e with
  | [d], e =>
    obtain ⟨c, rfl⟩ := ite_some' e
    show m_is_time (ends P R) (env0 [.dat d] 1) n
    unfold m_is_time
    walk_at "ev"
    exact gF1 [d, .int (-big), .int big] _ rfl (if_pos c) p
/-! a comprehension without effects -/
theorem comp_pure {gd : GD} {tt : MT} {te : M} {ρ : Env} {P : List D → Nat → Prop} {n : Nat} (keep : D → Bool) (f : D → D) : ∀ (ds acc : List D), (∀ d ∈ ds, ∃ ρ1, gd d ρ = some ρ1 ∧ ∀ (Q : Bool → Nat → Prop), Q (keep d) n → tt ρ1 n Q nvr) →
    (∀ d ∈ ds, ∀ ρ1, gd d ρ = some ρ1 → keep d = true → ∀ (Q : PD), Q (f d) n → te ρ1 n Q nvr) → acc.length + ds.length ≤ sizeLine → P (acc ++ (ds.filter keep).map f) n → compW gd tt te ρ P ds acc n
  | [], acc, _, _, _, p => by simpa [compW] using p
  | d :: ds, acc, h1, h2, hl, p => by
    obtain ⟨ρ1, e, q⟩ := h1 d List.mem_cons_self
    refine ⟨ρ1, e, q _ ?_⟩
    cases hk : keep d with
    | true =>
      rw [if_pos rfl]
      refine h2 d List.mem_cons_self ρ1 e hk _ ⟨?_, ?_⟩
      · rw [List.length_cons] at hl; omega
      · refine comp_pure keep f ds _ (fun d hd => h1 d (List.mem_cons_of_mem _ hd)) (fun d hd => h2 d (List.mem_cons_of_mem _ hd)) (by rw [List.length_append, List.length_cons, List.length_nil]; rw [List.length_cons] at hl; omega) ?_
        rw [List.filter_cons, hk] at p
        simpa using p
    | false =>
      rw [if_neg Bool.false_ne_true]
      refine comp_pure keep f ds acc (fun d hd => h1 d (List.mem_cons_of_mem _ hd)) (fun d hd => h2 d (List.mem_cons_of_mem _ hd)) (by rw [List.length_cons] at hl; omega) ?_
      rw [List.filter_cons, hk] at p
      simpa using p
def sgn : D → Bool
  | .str x => x.cps.toList.all letter
  | _ => false
def N_is_name : List Str := ["value", "letter"]
def m_is_name : MS := (mSeq (mIfS (mOr (mNot (mT (mIs "str" (mVarQ 0)))) (mNot (mT (mChain fLe fLe (mC (.int 1)) (m1 fLen (mVarQ 0)) (mC (.int (8))))))) (mRet (mC (.bool false))) mNext)
    (mRet (m1 fAll (mL (mComp (mSigns (mVar 0)) (gdName 1) [1] mYes (mChain fLeS fLeS (mC (.str "a")) (mVarQ 1) (mC (.str "z"))))))))
theorem sign_le (c : Nat) : (!decide (([c] : List Nat) < ("a" : Str).cps.toList)) = decide (97 ≤ c) := by
  have e : ("a" : Str).cps.toList = [97] := by decide +kernel
  rw [e]
  by_cases h : 97 ≤ c
  · have : ¬ ([c] : List Nat) < [97] := by
      intro q
      cases q with
      | rel h => omega
      | cons h => cases h
    rw [decide_eq_false this, decide_eq_true h]; rfl
  · have : ([c] : List Nat) < [97] := .rel (by omega)
    rw [decide_eq_true this, decide_eq_false h]; rfl
theorem le_sign (c : Nat) : (!decide (("z" : Str).cps.toList < ([c] : List Nat))) = decide (c ≤ 122) := by
  have e : ("z" : Str).cps.toList = [122] := by decide +kernel
  rw [e]
  by_cases h : c ≤ 122
  · have : ¬ [122] < ([c] : List Nat) := by
      intro q
      cases q with
      | rel h => omega
      | cons h => cases h
    rw [decide_eq_false this, decide_eq_true h]; rfl
  · have : [122] < ([c] : List Nat) := .rel (by omega)
    rw [decide_eq_true this, decide_eq_false h]; rfl
theorem bools_map (f : Nat → Bool) : ∀ l : List Nat, bools (l.map fun c => PyData.bool (f c)) = some (l.map f)
  | [] => rfl
  | c :: l => by
    show (bools (l.map fun c => PyData.bool (f c))).map (f c :: ·) = _
    rw [bools_map f l]; rfl
theorem pr_is_name (as n P R) (hl : as.length = 1) (h : g_is_name as n P R) : m_is_name (ends P R) (env0 as N_is_name.length) n := by
  obtain ⟨ds, z, rfl, e, p⟩ := h
  match ds, e with
  | [d], e =>
    obtain ⟨c, rfl⟩ := ite_some' e
    show m_is_name (ends P R) (env0 [.dat d] 2) n
    unfold m_is_name
    cases d with
    | str s =>
      have hs : s.length ≤ sizeLine := of_decide_eq_true c
      walk_at "ev"
      refine ⟨hs, ?_⟩
      have lenI : ((s.length : Nat) : Int) ≤ 8 ↔ s.length ≤ 8 := by omega
      by_cases h1 : 1 ≤ (s.length : Int)
      · rw [if_pos h1]
        by_cases h2 : (s.length : Int) ≤ 8
        · rw [if_neg (by simp [h2])]
          unfold mComp mSigns
          walk_at "ev"
          refine comp_pure (fun _ => true) (fun d => .bool (sgn d)) _ _ (fun d _ => ⟨_, rfl, fun Q q => q⟩) (fun d hd ρ1 e _ Q q => ?_) ?_ ?_
          · unfold signs at hd
            obtain ⟨c, _, rfl⟩ := List.mem_map.mp hd
            cases e
            walk_at "ev"
            have e1 : fLeS (.str "a") (.str ⟨#[c]⟩) = some (.bool (decide (97 ≤ c))) := by
              show some (PyData.bool (!decide (([c] : List Nat) < ("a" : Str).cps.toList))) = _
              rw [sign_le]
            have e2 : fLeS (.str ⟨#[c]⟩) (.str "z") = some (.bool (decide (c ≤ 122))) := by
              show some (PyData.bool (!decide (("z" : Str).cps.toList < ([c] : List Nat)))) = _
              rw [le_sign]
            refine ⟨_, e1, ?_⟩
            have q' : Q (.bool (decide (97 ≤ c) && decide (c ≤ 122))) n := by simpa [sgn, letter] using q
            by_cases h3 : 97 ≤ c
            · rw [if_pos (decide_eq_true h3)]
              exact ⟨_, e2, by simpa [h3] using q'⟩
            · rw [if_neg (by simpa using h3)]
              simpa [h3] using q'
          · simp only [List.length_nil, signs, List.length_map, Array.length_toList]
            have : s.cps.size = s.length := rfl
            omega
          · have e3 : (List.filter (fun _ => true) (signs s)).map (fun d => PyData.bool (sgn d)) = s.cps.toList.map fun c => PyData.bool (letter c) := by
              rw [List.filter_eq_self.mpr (fun _ _ => rfl)]
              unfold signs
              rw [List.map_map]
              apply List.map_congr_left
              intro c _
              simp [sgn]
            show ∃ z, fAll (.list ([] ++ _)) = some z ∧ P z n
            rw [List.nil_append, e3]
            refine ⟨.bool (s.cps.toList.all letter), ?_, ?_⟩
            · show (bools _).map _ = _
              rw [bools_map]
              simp [List.all_map]
            · have h3 : 1 ≤ s.length := by omega
              have h4 : s.length ≤ 8 := by omega
              simpa [isName, h3, h4] using p
        · rw [if_pos (by simp [h2])]
          have h4 : ¬ s.length ≤ 8 := by omega
          simpa [isName, h4] using p
      · rw [if_neg h1]
        have h3 : ¬ 1 ≤ s.length := by omega
        simpa [isName, h3] using p
    | dict _ => cases c
    | _ =>
      walk_at "ev"
      exact p
/-! ### grant_error -/
mutual
/-- no object of an own class, no text too long, at any depth -/
def sane : D → Bool
  | .dict _ => false
  | .str s => decide (s.length ≤ sizeLine)
  | .list l => saneAll l
  | .tuple l => saneAll l
  | .none | .bool _ | .int _ => true
def saneAll : List D → Bool
  | [] => true
  | x :: r => sane x && saneAll r
end
theorem sane_pl {d : D} (h : sane d = true) : pl d = true := by
  cases d <;> first
    | rfl
    | (simpa [sane, pl] using h)
def okG (x : D) : Bool := match x with
  | .tuple [t, g, k, l, p] => within t (-big) big && isName g && isName k && !PyData.eqv g k && within l 1 9 && within p 0 20
  | _ => false
def gerr (x : D) : D := match x with
  | .tuple [t, g, k, l, p] =>
    if within t (-big) big = false then .tuple [.str "time"] else
    if isName g = false then .tuple [.str "giver"] else
    if isName k = false then .tuple [.str "taker"] else
    if PyData.eqv g k = true then .tuple [.str "same"] else
    if within l 1 9 = false then .tuple [.str "level"] else
    if within p 0 20 = false then .tuple [.str "passes"] else .none
  | _ => .tuple [.str "grant"]
theorem gerr5 (t g k l q : D) : gerr (.tuple [t, g, k, l, q]) = if within t (-big) big = false then .tuple [.str "time"] else
    if isName g = false then .tuple [.str "giver"] else
    if isName k = false then .tuple [.str "taker"] else
    if PyData.eqv g k = true then .tuple [.str "same"] else
    if within l 1 9 = false then .tuple [.str "level"] else
    if within q 0 20 = false then .tuple [.str "passes"] else .none := rfl
def f_gerr : List D → Option D
  | [d] => if sane d = true then some (gerr d) else none
  | _ => none
abbrev g_grant_error : G := gF f_gerr
def N_grant_error : List Str := ["value", "time", "giver", "taker", "level", "passes"]
def m_grant_error : MS := (mSeq (mIfS (mOr (mNot (mT (mIs "tuple" (mVarQ 0)))) (mT (m2 (fEq true) (m1 fLen (mVarQ 0)) (mC (.int (5)))))) (mRet (mTup (mCons (mC (.str "grant")) mNil))) mNext)
    (mSeq (mSet (mVar 0) (gdTup [1, 2, 3, 4, 5]))
    (mSeq (mIfS (mNot (mT (mCall g_is_time 1 (mCons (mVar 1) mNil)))) (mRet (mTup (mCons (mC (.str "time")) mNil))) mNext)
    (mSeq (mIfS (mNot (mT (mCall g_is_name 1 (mCons (mVar 2) mNil)))) (mRet (mTup (mCons (mC (.str "giver")) mNil))) mNext)
    (mSeq (mIfS (mNot (mT (mCall g_is_name 1 (mCons (mVar 3) mNil)))) (mRet (mTup (mCons (mC (.str "taker")) mNil))) mNext)
    (mSeq (mIfS (mT (m2 (fEq false) (mVarQ 2) (mVarQ 3))) (mRet (mTup (mCons (mC (.str "same")) mNil))) mNext)
    (mSeq (mIfS (mNot (mT (mCall g_is_within 3 (mCons (mVar 4) (mCons (mC (.int (1))) (mCons (mC (.int (9))) mNil)))))) (mRet (mTup (mCons (mC (.str "level")) mNil))) mNext)
    (mSeq (mIfS (mNot (mT (mCall g_is_within 3 (mCons (mVar 5) (mCons (mC (.int 0)) (mCons (mC (.int (20))) mNil)))))) (mRet (mTup (mCons (mC (.str "passes")) mNil))) mNext)
    (mRet (mC .none))))))))))
theorem line1 : (1 : Nat) ≤ sizeLine := by rw [sizeLine_eq]; decide
theorem line2 : (2 : Nat) ≤ sizeLine := by rw [sizeLine_eq]; decide
theorem isName_str {d : D} (h : isName d = true) : ∃ s, d = .str s := by
  cases d <;> first
    | exact ⟨_, rfl⟩
    | cases h
/-- a call of a def without effects in an if -/
theorem gF_at {f : List D → Option D} {ds : List D} {z : D} {n : Nat} {P : PD} {R : PX} (h : f ds = some z) (p : P z n) : gF f (ds.map .dat) n P R := ⟨ds, z, rfl, h, p⟩
theorem pr_grant_error (as n P R) (hl : as.length = 1) (h : g_grant_error as n P R) : m_grant_error (ends P R) (env0 as N_grant_error.length) n := by
  obtain ⟨ds, z, rfl, e, p⟩ := h
  match ds, e with
  | [d], e =>
    obtain ⟨c, rfl⟩ := ite_some' e
    show m_grant_error (ends P R) (env0 [.dat d] 6) n
    unfold m_grant_error
    cases d with
    | tuple l =>
      walk_at "ev"
      match l, c, p with
      | [t, g, k, l, q], c, p =>
        simp only [sane, saneAll, Bool.and_eq_true] at c
        obtain ⟨c1, c2, c3, c4, c5, _⟩ := c
        walk_at "ev"
        rw [if_neg (by decide)]
        refine gF_at (ds := [t]) (if_pos (sane_pl c1)) ⟨_, rfl, ?_⟩
        rw [gerr5] at p
        cases h1 : within t (-big) big with
        | false => rw [if_pos h1] at p; exact ⟨line1, p⟩
        | true =>
        rw [if_neg (by rw [h1]; decide)] at p
        refine iteF ?_
        refine gF_at (ds := [g]) (if_pos (sane_pl c2)) ⟨_, rfl, ?_⟩
        cases h2 : isName g with
        | false => rw [if_pos h2] at p; exact ⟨line1, p⟩
        | true =>
        rw [if_neg (by rw [h2]; decide)] at p
        refine iteF ?_
        refine gF_at (ds := [k]) (if_pos (sane_pl c3)) ⟨_, rfl, ?_⟩
        cases h3 : isName k with
        | false => rw [if_pos h3] at p; exact ⟨line1, p⟩
        | true =>
        rw [if_neg (by rw [h3]; decide)] at p
        refine iteF ?_
        obtain ⟨x, rfl⟩ := isName_str h2
        obtain ⟨y, rfl⟩ := isName_str h3
        refine ⟨_, eq_strs _ _ _, _, rfl, ?_⟩
        have ev : PyData.eqv (.str x) (.str y) = (x == y) := by simp [PyData.eqv]
        rw [ev] at p
        cases h4 : x == y with
        | true => rw [if_pos h4] at p; exact ⟨line1, p⟩
        | false =>
        rw [if_neg (by rw [h4]; decide)] at p
        refine iteF ?_
        refine gF_at (ds := [l, .int 1, .int 9]) (if_pos (sane_pl c4)) ⟨_, rfl, ?_⟩
        cases h5 : within l 1 9 with
        | false => rw [if_pos h5] at p; exact ⟨line1, p⟩
        | true =>
        rw [if_neg (by rw [h5]; decide)] at p
        refine iteF ?_
        refine gF_at (ds := [q, .int 0, .int 20]) (if_pos (sane_pl c5)) ⟨_, rfl, ?_⟩
        cases h6 : within q 0 20 with
        | false => rw [if_pos h6] at p; exact ⟨line1, p⟩
        | true =>
        rw [if_neg (by rw [h6]; decide)] at p
        refine iteF ?_
        exact p
      | [], c, p => exact ⟨line1, p⟩
      | [_], c, p => exact ⟨line1, p⟩
      | [_, _], c, p => exact ⟨line1, p⟩
      | [_, _, _], c, p => exact ⟨line1, p⟩
      | [_, _, _, _], c, p => exact ⟨line1, p⟩
      | _ :: _ :: _ :: _ :: _ :: _ :: r, c, p =>
        rw [if_pos (by simp; omega)]
        exact ⟨line1, p⟩
    | dict _ => cases c
    | _ =>
      walk_at "ev"
      exact ⟨line1, p⟩
end DS

/-! P2: backs, supports (of grants), the law's draws. -/
namespace DS
open PySem L2
local macro_rules | `(tactic| walk_at "ev") => `(tactic| simp only [mSeq, mRet, mVar, mVarQ, slD, mC, m1, m2, mT, mNot, mAnd, mOr, mAndV, mOrV, mNotV, mIf, mChain, mNil, mCons, mSrc, mTup, mLst, mCall, mIx, mL, mIs, mIfS, mNext, mSet, mOwn, mRetO, mRetN, mExp, mPar, mNev, datAll, gdName, gdTup, setAll, fI, fIc, fNeg, fLen, fInt, fAbs, fIsN, env0, wipeR,
  is_int_NoneType, is_int_bool, is_int_int, is_int_str, is_int_list, is_int_tuple, is_bool_NoneType, is_bool_bool, is_bool_int, is_bool_str, is_bool_list, is_bool_tuple, is_str_NoneType, is_str_bool, is_str_int, is_str_str, is_str_list, is_str_tuple, is_tuple_NoneType, is_tuple_bool, is_tuple_int, is_tuple_str, is_tuple_list, is_tuple_tuple, is_list_NoneType, is_list_bool, is_list_int, is_list_str, is_list_list, is_list_tuple,
  List.map, List.length_cons, List.length_nil, List.getElem?_cons_zero, List.getElem?_cons_succ, List.set_cons_zero, List.set_cons_succ, List.replicate, List.append_assoc, List.cons_append, List.nil_append, Option.map_some, Option.some.injEq, Sl.dat.injEq, Sl.own.injEq, exists_eq_left', exists_eq_left, exists_and_left, exists_and_right, true_and, and_true, Bool.true_eq_false, if_true, if_false, reduceIte, Bool.false_eq_true, Bool.not_true, Bool.not_false, PyData.bool.injEq, PyData.int.injEq, PyData.str.injEq, PyData.tuple.injEq, PyData.list.injEq, Nat.reduceAdd, Nat.reduceSub, Option.map_none, decide_eq_true_eq, ex_if, eq_ints, eq_strs, eq_bools, ix0, ix1, ix2, ix3, ix4, lx0, lx1, lx2, lx3])
structure Gr where
  t : Int
  g : Str
  k : Str
  l : Int
  p : Int
def enc (a : Gr) : D := .tuple [.int a.t, .str a.g, .str a.k, .int a.l, .int a.p]
def dec : D → Option Gr
  | .tuple [.int t, .str g, .str k, .int l, .int p] => some ⟨t, g, k, l, p⟩
  | _ => none
theorem dec_enc (a : Gr) : dec (enc a) = some a := rfl
theorem enc_of {d : D} {a : Gr} (h : dec d = some a) : d = enc a := by
  unfold dec at h
  split at h
  · cases h; rfl
  · cases h
def nameOk (s : Str) : Bool := decide (1 ≤ s.length) && decide (s.length ≤ 8) && s.cps.toList.all letter
def okGr (a : Gr) : Bool := decide (-big ≤ a.t) && decide (a.t ≤ big) && nameOk a.g && nameOk a.k && !(a.g == a.k) && decide (1 ≤ a.l) && decide (a.l ≤ 9) && decide (0 ≤ a.p) && decide (a.p ≤ 20)
def bk (a b : Gr) : Bool := a.k == b.g && (decide (a.t < b.t) && (decide (b.l ≤ a.l) && decide (b.p < a.p)))
theorem line_small {n : Nat} (h : n ≤ 1000) : n ≤ sizeLine := by rw [sizeLine_eq]; omega
theorem okGr_iff {a : Gr} (h : okGr a = true) : (-big ≤ a.t ∧ a.t ≤ big) ∧ nameOk a.g = true ∧ nameOk a.k = true ∧ (a.g == a.k) = false ∧ (1 ≤ a.l ∧ a.l ≤ 9) ∧ 0 ≤ a.p ∧ a.p ≤ 20 := by
  simp only [okGr, Bool.and_eq_true, decide_eq_true_eq, Bool.not_eq_true'] at h
  obtain ⟨⟨⟨⟨⟨⟨⟨⟨h1, h2⟩, h3⟩, h4⟩, h5⟩, h6⟩, h7⟩, h8⟩, h9⟩ := h
  exact ⟨⟨h1, h2⟩, h3, h4, h5, ⟨h6, h7⟩, h8, h9⟩
theorem nameOk_len {s : Str} (h : nameOk s = true) : s.length ≤ 8 := by
  simp only [nameOk, Bool.and_eq_true, decide_eq_true_eq] at h
  exact h.1.2
theorem sane_enc {a : Gr} (h : okGr a = true) : sane (enc a) = true := by
  obtain ⟨_, h1, h2, _⟩ := okGr_iff h
  have e1 := line_small (Nat.le_trans (nameOk_len h1) (by decide))
  have e2 := line_small (Nat.le_trans (nameOk_len h2) (by decide))
  simp [enc, sane, saneAll, e1, e2]
theorem gerr_enc {a : Gr} (h : okGr a = true) : gerr (enc a) = .none := by
  obtain ⟨⟨h0, h0'⟩, h1, h2, h3, ⟨h4, h4'⟩, h5, h5'⟩ := okGr_iff h
  have a1 : within (.int a.t) (-big) big = true := by simp [within, h0, h0']
  have a2 : isName (.str a.g) = true := h1
  have a3 : isName (.str a.k) = true := h2
  have a4 : PyData.eqv (.str a.g) (.str a.k) = false := by simp only [PyData.eqv]; exact h3
  have a5 : within (.int a.l) 1 9 = true := by simp [within, h4, h4']
  have a6 : within (.int a.p) 0 20 = true := by simp [within, h5, h5']
  unfold enc
  rw [gerr5, a1, a2, a3, a4, a5, a6]
  rfl
def f_backs : List D → Option D
  | [x, y] => (dec x).bind fun a => (dec y).map fun b => .bool (bk a b)
  | _ => none
abbrev g_backs : G := gF f_backs
def N_backs : List Str := ["first", "second", "earlier", "_", "holder", "high", "many", "later", "giver", "low", "few"]
def m_backs : MS := (mSeq (mSet (mVar 0) (gdTup [2, 3, 4, 5, 6]))
    (mSeq (mSet (mVar 1) (gdTup [7, 8, 3, 9, 10]))
    (mRet (mAndV (m2 (fEq false) (mVarQ 4) (mVarQ 8)) (mAndV (m2 fLt (mVarQ 2) (mVarQ 7)) (mAndV (m2 fGe (mVarQ 5) (mVarQ 9)) (m2 fGt (mVarQ 6) (mVarQ 10))))))))
theorem pr_backs (as n P R) (hl : as.length = 2) (h : g_backs as n P R) : m_backs (ends P R) (env0 as N_backs.length) n := by
  obtain ⟨ds, z, rfl, e, p⟩ := h
  match ds, e with
  | [x, y], e =>
    obtain ⟨a, e1, e2⟩ := Option.bind_eq_some_iff.mp e
    obtain ⟨b, e3, e4⟩ := Option.map_eq_some_iff.mp e2
    subst e4
    have := enc_of e1; subst this
    have := enc_of e3; subst this
    show m_backs (ends P R) (env0 [.dat (enc a), .dat (enc b)] 11) n
    unfold m_backs enc
    walk_at "ev"
    unfold bk at p
    cases h1 : a.k == b.g with
    | false => rw [h1] at p; exact p
    | true =>
      rw [h1] at p
      refine iteT ?_
      by_cases h2 : a.t < b.t
      · rw [if_pos h2]
        by_cases h3 : b.l ≤ a.l
        · rw [if_pos h3]
          simpa [h2, h3] using p
        · rw [if_neg h3]
          simpa [h2, h3] using p
      · rw [if_neg h2]
        simpa [h2] using p
/-- supports of two grants -/
def f_supports : List D → Option D
  | [x, y] => (dec x).bind fun a => (dec y).bind fun b => if okGr a = true ∧ okGr b = true then some (.bool (bk a b)) else none
  | _ => none
abbrev g_supports : G := gF f_supports
def N_supports : List Str := ["first", "second", "value", "reason"]
def m_supports : MS := (mSeq (mFor (mItemsT (mTup (mCons (mVar 0) (mCons (mVar 1) mNil)))) (gdName 2)
      (mSeq (mSet (mCall g_grant_error 1 (mCons (mVar 2) mNil)) (gdName 3))
    (mIfS (mT (m2 (fIsN true) (mVarQ 3) (mC .none))) mNev mNext)))
    (mRet (mCall g_backs 2 (mCons (mVar 0) (mCons (mVar 1) mNil)))))
theorem pr_supports (as n P R) (hl : as.length = 2) (h : g_supports as n P R) : m_supports (ends P R) (env0 as N_supports.length) n := by
  obtain ⟨ds, z, rfl, e, p⟩ := h
  match ds, e with
  | [x, y], e =>
    obtain ⟨a, e1, e2⟩ := Option.bind_eq_some_iff.mp e
    obtain ⟨b, e3, e4⟩ := Option.bind_eq_some_iff.mp e2
    obtain ⟨⟨ha, hb⟩, rfl⟩ := ite_some' e4
    have := enc_of e1; subst this
    have := enc_of e3; subst this
    show m_supports (ends P R) (env0 [.dat (enc a), .dat (enc b)] 4) n
    unfold m_supports mFor mItemsT
    walk_at "ev"
    refine ⟨line2, _, rfl, ?_⟩
    refine ⟨_, rfl, ?_⟩
    walk_at "ev"
    refine gF_at (ds := [enc a]) (if_pos (sane_enc ha)) ?_
    rw [gerr_enc ha]
    walk_at "ev"
    refine ⟨_, rfl, ?_⟩
    walk_at "ev"
    refine gF_at (ds := [enc b]) (if_pos (sane_enc hb)) ?_
    rw [gerr_enc hb]
    walk_at "ev"
    exact ⟨_, rfl, _, rfl, gF_at (ds := [enc a, enc b]) rfl p⟩
/-! ### the law's draws -/
/-- a draw below the limit -/
def g_law_draw : G := fun as n P _ => ∃ lim : Int, as = [.src, .dat (.int lim)] ∧ 1 ≤ lim ∧ lim < 2 ^ 200 ∧ 0 < n ∧ ∀ k, 0 ≤ k → k < lim → P (.int k) (n - 1)
/-- one of the values -/
def lstOf : List Sl → Option (List D)
  | [.src, s] => match slD s with
    | some (.list ds) => some ds
    | _ => none
  | _ => none
theorem lstOf_eq {as : List Sl} {ds : List D} (h : lstOf as = some ds) : ∃ s, as = [.src, s] ∧ slD s = some (.list ds) := by
  unfold lstOf at h
  split at h
  · rename_i s
    split at h
    · rename_i e; cases h; exact ⟨s, rfl, e⟩
    · cases h
  · cases h
def g_law_pick : G := fun as n P _ => ∃ ds, lstOf as = some ds ∧ 0 < ds.length ∧ ds.length ≤ sizeLine ∧ 0 < n ∧ ∀ d ∈ ds, P d (n - 1)
def N_law_pick : List Str := ["source", "values"]
def m_law_pick : MS := (mRet (mIx (mVarQ 1) (mCall g_law_draw 2 (mSrc 0 (mCons (m1 fLen (mVarQ 1)) mNil)))))
theorem line_200 {n : Nat} (h : n ≤ sizeLine) : (n : Int) < 2 ^ 200 := by
  rw [sizeLine_eq] at h
  have : (16777216 : Int) < 2 ^ 200 := by decide
  omega
theorem atI_in {ds : List D} {k : Int} (h0 : 0 ≤ k) (h1 : k < ds.length) : ∃ d, atI ds k = some d ∧ d ∈ ds := by
  have hk : k.toNat < ds.length := by omega
  refine ⟨ds[k.toNat], ?_, List.getElem_mem hk⟩
  unfold atI ixN
  rw [if_pos h0, if_pos h1]
  exact List.getElem?_eq_getElem hk
theorem pr_law_pick (as n P R) (hl : as.length = 2) (h : g_law_pick as n P R) : m_law_pick (ends P R) (env0 as N_law_pick.length) n := by
  obtain ⟨ds, e, h1, h2, h3, p⟩ := h
  obtain ⟨s, rfl, hs⟩ := lstOf_eq e
  show m_law_pick (ends P R) (env0 [.src, s] 2) n
  unfold m_law_pick
  have ev : ∀ n P R, mVarQ 1 (env0 [.src, s] 2) n P R = P (.list ds) n := fun n P R => by
    unfold mVarQ env0
    simp [hs]
  simp only [mRet, mIx, m2, m1, mCall, mSrc, mCons, mNil, ev, fLen, Option.some.injEq, exists_eq_left']
  refine ⟨rfl, rfl, _, rfl, by omega, line_200 h2, h3, fun k k0 k1 => ?_⟩
  obtain ⟨d, e, m⟩ := atI_in k0 k1
  exact ⟨d, e, p d m⟩
/-- some order of the values -/
def g_law_shuffle : G := fun as n P _ => ∃ ds, as = [.src, .dat (.list ds)] ∧ ds.length < 10000 ∧ ds.length ≤ n ∧ ∀ es, es.Perm ds → P (.list es) (n - ds.length)
def N_law_shuffle : List Str := ["source", "values", "result", "value"]
def b_law_shuffle_1 : MS := (mIns 2 (mCall g_law_draw 2 (mSrc 0 (mCons (m2 fAdd (m1 fLen (mVarQ 2)) (mC (.int 1))) mNil))) (mVar 3))
def m_law_shuffle : MS := (mSeq (mOwn 2 (mLst mNil))
    (mSeq (mFor (mItems (mVar 1)) (gdName 3) b_law_shuffle_1)
    (mRetO 2)))
theorem ins_perm (xs : List D) (d : D) (k : Nat) : (xs.take k ++ [d] ++ xs.drop k).Perm (d :: xs) := by
  rw [List.append_assoc]
  refine (List.perm_middle (a := d) (l₁ := xs.take k) (l₂ := xs.drop k)).trans ?_
  rw [List.take_append_drop]
theorem t_law_shuffle {De : DEnds} {v d : D} {xs : List D} {n : Nat} (h1 : xs.length < 10000) (h2 : 0 < n) (h : ∀ k : Nat, De.nx [.src, .dat v, .own (xs.take k ++ [d] ++ xs.drop k), .dat d] (n - 1)) : b_law_shuffle_1 De [.src, .dat v, .own xs, .dat d] n := by
  unfold b_law_shuffle_1 mIns
  walk_at "ev"
  refine ⟨_, rfl, by omega, ?_, h2, fun k k0 k1 => ⟨_, rfl, ?_, ⟨k0, ?_⟩, ?_⟩⟩
  · have : (20000 : Int) < 2 ^ 200 := by decide
    omega
  · rw [sizeLine_eq]; omega
  · have : (20000 : Int) < 2 ^ 63 := by decide
    omega
  · simpa using h k.toNat
theorem pr_law_shuffle (as n P R) (hl : as.length = 2) (h : g_law_shuffle as n P R) : m_law_shuffle (ends P R) (env0 as N_law_shuffle.length) n := by
  obtain ⟨ds, rfl, h1, h2, p⟩ := h
  show m_law_shuffle (ends P R) (env0 [.src, .dat (.list ds)] 4) n
  unfold m_law_shuffle mFor mItems
  walk_at "ev"
  refine ⟨Nat.zero_le _, ?_⟩
  have key : ∀ (r xs : List D) (v : Sl) (m : Nat), xs.length + r.length = ds.length → m = n - xs.length → (∀ es : List D, es.Perm (xs ++ r) → es.Perm ds) →
      forW (gdName 3) b_law_shuffle_1 { nx := fun ρ n => ∃ ds, ρ[2]? = some (Sl.own ds) ∧ P (PyData.list ds) n, rt := P, ex := R } r [.src, .dat (.list ds), .own xs, v] m := by
    intro r
    induction r with
    | nil =>
      intro xs v m e1 e2 hp
      rw [List.length_nil] at e1
      refine ⟨xs, rfl, ?_⟩
      rw [e2, show xs.length = ds.length by omega]
      exact p xs (hp xs (by simp))
    | cons d r ih =>
      intro xs v m e1 e2 hp
      rw [List.length_cons] at e1
      refine ⟨_, rfl, t_law_shuffle (by omega) (by omega) fun k => ?_⟩
      have pm := ins_perm xs d k
      have pl := pm.length_eq
      rw [List.length_cons] at pl
      refine ih _ _ _ (by rw [pl]; omega) (by rw [pl]; omega) fun es he => hp es (he.trans ?_)
      refine (pm.append_right r).trans ?_
      show (d :: (xs ++ r)).Perm (xs ++ d :: r)
      exact List.perm_middle.symm
  exact key ds [] .no n (by simp) (by simp) (fun es he => by simpa using he)
end DS

/-! P3: law k02 over data. -/
namespace DS
open PySem L2
local macro_rules | `(tactic| walk_at "ev") => `(tactic| simp only [mSeq, mRet, mVar, mVarQ, slD, mC, m1, m2, mT, mNot, mAnd, mOr, mAndV, mOrV, mNotV, mIf, mChain, mNil, mCons, mSrc, mTup, mLst, mCall, mIx, mL, mIs, mIfS, mNext, mSet, mOwn, mRetO, mRetN, mExp, mPar, mNev, datAll, gdName, gdTup, setAll, fI, fIc, fNeg, fLen, fInt, fAbs, fIsN, env0, wipeR,
  is_int_NoneType, is_int_bool, is_int_int, is_int_str, is_int_list, is_int_tuple, is_bool_NoneType, is_bool_bool, is_bool_int, is_bool_str, is_bool_list, is_bool_tuple, is_str_NoneType, is_str_bool, is_str_int, is_str_str, is_str_list, is_str_tuple, is_tuple_NoneType, is_tuple_bool, is_tuple_int, is_tuple_str, is_tuple_list, is_tuple_tuple, is_list_NoneType, is_list_bool, is_list_int, is_list_str, is_list_list, is_list_tuple,
  List.map, List.length_cons, List.length_nil, List.getElem?_cons_zero, List.getElem?_cons_succ, List.set_cons_zero, List.set_cons_succ, List.replicate, List.append_assoc, List.cons_append, List.nil_append, Option.map_some, Option.some.injEq, Sl.dat.injEq, Sl.own.injEq, exists_eq_left', exists_eq_left, exists_and_left, exists_and_right, true_and, and_true, Bool.true_eq_false, if_true, if_false, reduceIte, Bool.false_eq_true, Bool.not_true, Bool.not_false, PyData.bool.injEq, PyData.int.injEq, PyData.str.injEq, PyData.tuple.injEq, PyData.list.injEq, Nat.reduceAdd, Nat.reduceSub, Option.map_none, decide_eq_true_eq, ex_if, eq_ints, eq_strs, eq_bools, ix0, ix1, ix2, ix3, ix4, lx0, lx1, lx2, lx3])
abbrev g_law_is_support : G := gF f_backs
def N_law_is_support : List Str := ["first", "second"]
def m_law_is_support : MS := (mSeq (mIfS (mOr (mT (m2 (fEq true) (mIx (mVarQ 0) (mC (.int 2))) (mIx (mVarQ 1) (mC (.int 1))))) (mT (m2 fGe (mIx (mVarQ 0) (mC (.int 0))) (mIx (mVarQ 1) (mC (.int 0)))))) (mRet (mC (.bool false))) mNext)
    (mRet (mAndV (m2 fGe (mIx (mVarQ 0) (mC (.int 3))) (mIx (mVarQ 1) (mC (.int 3)))) (m2 fGt (mIx (mVarQ 0) (mC (.int 4))) (mIx (mVarQ 1) (mC (.int 4)))))))
theorem pr_law_is_support (as n P R) (hl : as.length = 2) (h : g_law_is_support as n P R) : m_law_is_support (ends P R) (env0 as N_law_is_support.length) n := by
  obtain ⟨ds, z, rfl, e, p⟩ := h
  match ds, e with
  | [x, y], e =>
    obtain ⟨a, e1, e2⟩ := Option.bind_eq_some_iff.mp e
    obtain ⟨b, e3, e4⟩ := Option.map_eq_some_iff.mp e2
    subst e4
    have := enc_of e1; subst this
    have := enc_of e3; subst this
    show m_law_is_support (ends P R) (env0 [.dat (enc a), .dat (enc b)] 2) n
    unfold m_law_is_support enc
    walk_at "ev"
    unfold bk at p
    cases h1 : a.k == b.g with
    | false => rw [h1] at p; exact p
    | true =>
      rw [h1] at p
      by_cases h2 : a.t < b.t
      · have h2' : ¬ b.t ≤ a.t := by omega
        rw [if_neg (by simp)]
        rw [if_neg h2']
        by_cases h3 : b.l ≤ a.l
        · rw [if_pos h3]
          simpa [h2, h3] using p
        · rw [if_neg h3]
          simpa [h2, h3] using p
      · have h2' : b.t ≤ a.t := by omega
        rw [if_neg (by simp), if_pos h2']
        simpa [h2] using p
def g_law_near : G := fun as n P _ => ∃ a, as = [.src, .dat (enc a)] ∧ okGr a = true ∧ 5 ≤ n ∧ ∀ b, okGr b = true → P (enc b) (n - 5)
def N_law_near : List Str := ["source", "grant", "time", "giver", "taker", "level", "passes", "others", "name", "other"]
def m_law_near : MS := (mSeq (mSet (mVar 1) (gdTup [2, 3, 4, 5, 6]))
    (mSeq (mSet (mL (mLst (mCons (mC (.str "d")) (mCons (mC (.str "dd")) (mCons (mC (.str "da")) (mCons (mC (.str "ad")) mNil)))))) (gdName 7))
    (mSeq (mSet (m2 fMax (m2 fSub (mC (.int 0)) (m2 fPow (mC (.int 10)) (mC (.int 30)))) (m2 fMin (m2 fPow (mC (.int 10)) (mC (.int 30))) (m2 fSub (m2 fAdd (mVarQ 2) (mCall g_law_draw 2 (mSrc 0 (mCons (mC (.int 3)) mNil)))) (mC (.int 1))))) (gdName 2))
    (mSeq (mSet (m2 fMax (mC (.int 1)) (m2 fMin (mC (.int 9)) (m2 fSub (m2 fAdd (mVarQ 5) (mCall g_law_draw 2 (mSrc 0 (mCons (mC (.int 3)) mNil)))) (mC (.int 1))))) (gdName 5))
    (mSeq (mSet (m2 fMax (mC (.int 0)) (m2 fMin (mC (.int 20)) (m2 fSub (m2 fAdd (mVarQ 6) (mCall g_law_draw 2 (mSrc 0 (mCons (mC (.int 3)) mNil)))) (mC (.int 1))))) (gdName 6))
    (mSeq (mSet (mCall g_law_pick 2 (mSrc 0 (mCons (mL (mComp (mItems (mVarQ 7)) (gdName 9) [9] (mT (m2 (fEq true) (mVarQ 9) (mVarQ 4))) (mVar 9))) mNil))) (gdName 8))
    (mSeq (mIfS (mT (m2 (fEq false) (mCall g_law_draw 2 (mSrc 0 (mCons (mC (.int 5)) mNil))) (mC (.int 0)))) (mRet (mTup (mCons (mVar 2) (mCons (mVar 8) (mCons (mVar 4) (mCons (mVar 5) (mCons (mVar 6) mNil))))))) mNext)
    (mRet (mTup (mCons (mVar 2) (mCons (mVar 4) (mCons (mVar 8) (mCons (mVar 5) (mCons (mVar 6) mNil))))))))))))))
theorem clamp_lo (lo hi x : Int) : lo ≤ (if (if x < hi then x else hi) > lo then (if x < hi then x else hi) else lo) := by
  by_cases h : (if x < hi then x else hi) > lo
  · rw [if_pos h]; omega
  · rw [if_neg h]; exact Int.le_refl _
theorem clamp_hi (lo hi x : Int) (hl : lo ≤ hi) : (if (if x < hi then x else hi) > lo then (if x < hi then x else hi) else lo) ≤ hi := by
  by_cases h : (if x < hi then x else hi) > lo
  · rw [if_pos h]
    by_cases g : x < hi
    · rw [if_pos g]; omega
    · rw [if_neg g]; exact Int.le_refl _
  · rw [if_neg h]; exact hl
theorem pow30 : (10 : Int) ^ (30 : Int).toNat = big := by decide +kernel
theorem draw_at {lim : Int} {n : Nat} {P : PD} {R : PX} (h1 : 1 ≤ lim) (h2 : lim < 2 ^ 200) (h3 : 0 < n) (h : ∀ k, 0 ≤ k → k < lim → P (.int k) (n - 1)) : g_law_draw [.src, .dat (.int lim)] n P R := ⟨lim, rfl, h1, h2, h3, h⟩
theorem pr_law_near (as n P R) (hl : as.length = 2) (h : g_law_near as n P R) : m_law_near (ends P R) (env0 as N_law_near.length) n := by
  obtain ⟨a, rfl, ha, hn, p⟩ := h
  obtain ⟨⟨h0, h0'⟩, h1, h2, h3, ⟨h4, h4'⟩, h5, h5'⟩ := okGr_iff ha
  show m_law_near (ends P R) (env0 [.src, .dat (enc a)] 10) n
  unfold m_law_near enc
  walk_at "ev"
  refine ⟨line_small (by decide), ?_⟩
  refine ⟨by decide, by decide, draw_at (by decide) (by decide) (by omega) fun k1 k1l k1h => ⟨_, rfl, _, rfl, _, rfl, _, rfl, ?_⟩⟩
  refine draw_at (by decide) (by decide) (by omega) fun k2 k2l k2h => ⟨_, rfl, _, rfl, _, rfl, _, rfl, ?_⟩
  refine draw_at (by decide) (by decide) (by omega) fun k3 k3l k3h => ⟨_, rfl, _, rfl, _, rfl, _, rfl, ?_⟩
  unfold mComp mItems
  walk_at "ev"
  refine comp_pure (fun d => !PyData.eqv d (.str a.k)) id _ _ (fun d hd => ⟨_, rfl, fun Q q => ?_⟩) (fun d hd ρ1 e _ Q q => ?_) ?_ ?_
  · obtain ⟨s, rfl⟩ : ∃ s : Str, d = .str s := by
      simp only [List.mem_cons, List.not_mem_nil, or_false] at hd
      rcases hd with rfl | rfl | rfl | rfl <;> exact ⟨_, rfl⟩
    walk_at "ev"
    have q' : Q (!(s == a.k)) (n - 1 - 1 - 1) := by simpa [PyData.eqv] using q
    exact q'
  · cases e
    walk_at "ev"
    exact q
  · simp only [List.length_cons, List.length_nil]
    rw [sizeLine_eq]; decide
  · refine ⟨_, rfl, ?_, ?_, by omega, fun d hd => ?_⟩
    · rw [List.nil_append, List.map_id]
      refine List.length_pos_iff.mpr fun z => ?_
      have e1 := List.filter_eq_nil_iff.mp z (.str "d") (by simp)
      have e2 := List.filter_eq_nil_iff.mp z (.str "dd") (by simp)
      simp [PyData.eqv] at e1 e2
      rw [← e1] at e2
      exact absurd e2 (by decide +kernel)
    · rw [List.nil_append, List.map_id]
      refine Nat.le_trans (List.length_filter_le _ _) ?_
      simp only [List.length_cons, List.length_nil]
      rw [sizeLine_eq]; decide
    · rw [List.nil_append, List.map_id] at hd
      obtain ⟨hm, hk⟩ := List.mem_filter.mp hd
      obtain ⟨s, rfl, hs⟩ : ∃ s : Str, d = .str s ∧ nameOk s = true := by
        simp only [List.mem_cons, List.not_mem_nil, or_false] at hm
        rcases hm with rfl | rfl | rfl | rfl <;> exact ⟨_, rfl, by decide +kernel⟩
      have hne : (s == a.k) = false := by simpa [PyData.eqv] using hk
      have hne' : (a.k == s) = false := by
        rw [beq_eq_false_iff_ne] at hne ⊢
        exact fun z => hne z.symm
      refine draw_at (by decide) (by decide) (by omega) fun k4 k4l k4h => ?_
      walk_at "ev"
      have fin : ∀ (g k : Str), nameOk g = true → nameOk k = true → (g == k) = false → ∀ (t l q : Int), -big ≤ t → t ≤ big → 1 ≤ l → l ≤ 9 → 0 ≤ q → q ≤ 20 → P (enc ⟨t, g, k, l, q⟩) (n - 1 - 1 - 1 - 1 - 1) := by
        intro g k g1 g2 g3 t l q t1 t2 l1 l2 q1 q2
        have := p ⟨t, g, k, l, q⟩ (by simp [okGr, g1, g2, g3, t1, t2, l1, l2, q1, q2])
        rw [show n - 1 - 1 - 1 - 1 - 1 = n - 5 by omega]
        exact this
      have len5 : (5 : Nat) ≤ sizeLine := line_small (by decide)
      have pb : (0 : Int) ≤ big := by decide
      have b0 : (0 : Int) - big = -big := by omega
      have tl := clamp_lo (0 - big) big (a.t + k1 - 1)
      have th := clamp_hi (0 - big) big (a.t + k1 - 1) (by omega)
      rw [b0] at tl th
      rw [pow30]
      split
      · exact ⟨len5, fin s a.k hs h2 hne _ _ _ (by rw [b0]; exact tl) (by rw [b0]; exact th) (clamp_lo 1 9 _) (clamp_hi 1 9 _ (by decide)) (clamp_lo 0 20 _) (clamp_hi 0 20 _ (by decide))⟩
      · exact ⟨len5, fin a.k s h2 hs hne' _ _ _ (by rw [b0]; exact tl) (by rw [b0]; exact th) (clamp_lo 1 9 _) (clamp_hi 1 9 _ (by decide)) (clamp_lo 0 20 _) (clamp_hi 0 20 _ (by decide))⟩
end DS

/-! R1: how long a repr is. -/
namespace DS
open PySem L2
mutual
def sz : D → Nat
  | .none => 4
  | .bool _ => 5
  | .int _ => 2000
  | .str x => 10 * x.length + 2
  | .list l => 2 + szs l
  | .tuple l => 3 + szs l
  | .dict _ => 0
def szs : List D → Nat
  | [] => 0
  | x :: r => sz x + 2 + szs r
end
mutual
/-- numbers not too long, signs of the usual kind, no dict -/
def shw : D → Bool
  | .none | .bool _ => true
  | .int i => decide (i.natAbs.log2 < 1920)
  | .str x => x.cps.toList.all fun c => decide (c < 16 ^ 8)
  | .list l => shws l
  | .tuple l => shws l
  | .dict _ => false
def shws : List D → Bool
  | [] => true
  | x :: r => shw x && shws r
end
theorem lt_len (ts : List Str) : (listText ts).length ≤ 2 + piled ts := by
  cases ts with
  | nil => exact Nat.le_of_eq rfl
  | cons t r =>
    have h := textFrom_length_pos r 1 (("[" : Str) ++ (if (0 : Nat) > 0 then ", " else "" : String) ++ t) (Nat.succ_pos 0)
    have e : (listText (t :: r)).length = (textFrom 1 (("[" : Str) ++ (if (0 : Nat) > 0 then ", " else "" : String) ++ t) r).length + 1 := by
      show (textFrom 0 "[" (t :: r) ++ "]").length = _
      rw [strLen_append]; rfl
    rw [e, h, strLen_append, strLen_append, piled_cons]
    have e1 : (("[" : String) : Str).length = 1 := rfl
    have e2 : ((if (0 : Nat) > 0 then ", " else "" : String) : Str).length = 0 := rfl
    omega
theorem tt_len (ts : List Str) : (tupleText ts).length ≤ 3 + piled ts := by
  unfold tupleText
  rw [strLen_append, strLen_append]
  have e1 : (("(" : String) : Str).length = 1 := rfl
  have e2 : ((if ts.length == 1 then ",)" else ")" : String) : Str).length ≤ 2 := by
    by_cases h : (ts.length == 1) = true
    · rw [if_pos h]; exact Nat.le_of_eq rfl
    · rw [if_neg h]; decide +kernel
  have e3 : (Str.join ", " ts).length ≤ piled ts := by
    cases ts with
    | nil => exact Nat.le_of_eq rfl
    | cons t r =>
      have := join_length_add (t :: r) (by simp)
      omega
  omega
mutual
theorem shown_len : ∀ d : D, shw d = true → d.showable = true ∧ d.hasDict = false ∧ d.plain = true ∧ d.shown.length ≤ sz d
  | .none, _ => ⟨rfl, rfl, rfl, by simp only [PyData.shown, sz]; decide +kernel⟩
  | .bool b, _ => ⟨rfl, rfl, rfl, by cases b <;> (simp only [PyData.shown, sz]; decide +kernel)⟩
  | .int i, h => by
    have h' : i.natAbs.log2 < 1920 := of_decide_eq_true (by simpa [shw] using h)
    refine ⟨by simpa [PyData.showable] using h', by simp [PyData.hasDict], rfl, ?_⟩
    simp only [PyData.shown, sz]
    have := int_text_length_le (k := 1920) (by decide) h'
    have e : (Str.ofString (toString i)).length = (toString i).length := ofString_length _
    show (Str.ofString (toString i)).length ≤ 2000
    omega
  | .str x, h => by
    refine ⟨by simp [PyData.showable], by simp [PyData.hasDict], rfl, ?_⟩
    simp only [PyData.shown, sz]
    refine StrLaws.reprText_len x fun c hc => ?_
    have h' : x.cps.toList.all (fun c => decide (c < 16 ^ 8)) = true := by simpa [shw] using h
    exact of_decide_eq_true (List.all_eq_true.mp h' c hc)
  | .list l, h => by
    obtain ⟨h1, h2, h3, h4⟩ := showns_len l (by simpa [shw] using h)
    refine ⟨by simpa [PyData.showable] using h1, by simpa [PyData.hasDict] using h2, by simpa [PyData.plain] using h3, ?_⟩
    simp only [PyData.shown, sz]
    have := lt_len (PyData.shownAll l)
    omega
  | .tuple l, h => by
    obtain ⟨h1, h2, h3, h4⟩ := showns_len l (by simpa [shw] using h)
    refine ⟨by simpa [PyData.showable] using h1, by simpa [PyData.hasDict] using h2, by simpa [PyData.plain] using h3, ?_⟩
    simp only [PyData.shown, sz]
    have := tt_len (PyData.shownAll l)
    omega
  | .dict _, h => by simp [shw] at h
theorem showns_len : ∀ l : List D, shws l = true → PyData.showableAll l = true ∧ PyData.hasDictAll l = false ∧ PyData.plainAll l = true ∧ piled (PyData.shownAll l) ≤ szs l
  | [], _ => ⟨rfl, rfl, rfl, by simp [PyData.shownAll, piled, szs]⟩
  | x :: r, h => by
    have h' : shw x = true ∧ shws r = true := by simpa [shws] using h
    obtain ⟨a1, a2, a3, a4⟩ := shown_len x h'.1
    obtain ⟨b1, b2, b3, b4⟩ := showns_len r h'.2
    refine ⟨by simp [PyData.showableAll, a1, b1], by simp [PyData.hasDictAll, a2, b2], by simp [PyData.plainAll, a3, b3], ?_⟩
    simp only [PyData.shownAll, piled_cons, szs]
    omega
end
/-- repr of a list is told -/
theorem repr_l {l : List D} (h : shws l = true) (hd : (PyData.list l).depth ≤ 64) (hz : 2 + szs l ≤ 16000000) : fRepr (.list l) = some (.str (PyData.shown (.list l))) := by
  obtain ⟨a1, a2, a3, a4⟩ := shown_len (.list l) (by simpa [shw] using h)
  have a4' : (PyData.shown (.list l)).length ≤ 2 + szs l := by simpa [sz] using a4
  show (if _ then _ else _) = _
  rw [if_pos ⟨a1, a2, hd, a3, by rw [sizeLine_eq]; omega⟩]
theorem repr_t {l : List D} (h : shws l = true) (hd : (PyData.tuple l).depth ≤ 64) (hz : 3 + szs l ≤ 16000000) : fRepr (.tuple l) = some (.str (PyData.shown (.tuple l))) := by
  obtain ⟨a1, a2, a3, a4⟩ := shown_len (.tuple l) (by simpa [shw] using h)
  have a4' : (PyData.shown (.tuple l)).length ≤ 3 + szs l := by simpa [sz] using a4
  show (if _ then _ else _) = _
  rw [if_pos ⟨a1, a2, hd, a3, by rw [sizeLine_eq]; omega⟩]
end DS

/-! S1: the law's end and what its own def is asked. -/
namespace DS
open PySem L2
/-- the law is handed a list of at most 63 ints; True comes out -/
def spLaw (K : Fg) : Sp := fun vs H Q _ => ∃ (a : Addr) (ns : List Int), vs = [.ref a] ∧ SqL K H a (ns.map V.int) ∧ ns.length ≤ 63 ∧ ∀ H', Q (.bl true) H'
theorem law_end (K : PySem.W.Frag) (H : Hp) (a : Addr) (ns : List Int) (h : ns.length ≤ 63) (hs : SqL K H a (ns.map V.int)) : spLaw K [.ref a] H (fun v _ => v = .bl true) fun _ _ _ => False := ⟨a, ns, rfl, hs, h, fun _ => rfl⟩
/-- _law_source's promise: a new source -/
def spSource (K : Fg) : Sp := fun vs H Q _ => ∃ (a : Addr) (ns : List Int), vs = [.ref a] ∧ SqL K H a (ns.map V.int) ∧ ns.length ≤ 63 ∧
  ∀ (s c : Addr) (H' : Hp), (∀ n : Nat, n ≤ 2 ^ 60 → SrcOk (some (s, c)) H' n) → Q (.ref s) H'
/-- a def where no repr is under way, by its reading over data -/
theorem def_okG {P : Program} {w : World} {K : Fg} {cl : Cl} {mg : Str → Option Value} {base : Heap} {x qual : Str} {st : Stmt} {f : Addr} {fd : FuncData} {N ps : List Str} {k : Nat} {g : G} {m : MS} (F : Fun K x qual st f fd) (S : FnScope N ps (defScope st))
    (hb : ∀ (cdv : Value) (A : Around) (outer : List PySem.Env) (s : Shared) (H B : Hp) (sc : Sc) (E : XK), A.guards = some [] → Room k (A.deeper (PyProof.Rows.envOfC qual (defScope st) s.heap.objs.size f cdv)) →
      DSs (cxOf (L2.CX P w) P w K mg base N qual (defScope st) f cdv A outer s H E) ⟨K, cl, sc, H, B, E⟩ (defBody st) m)
    (hm : ∀ as n P R, as.length = ps.length → g as n P R → m { nx := fun _ n' => P .none n', rt := P, ex := R } (env0 as N.length) n) : FnG P w K mg base (k + 1) f fd ps (spW K cl ps.length g) := by
  refine fng_of F S (fun vs H Q E ⟨sc, B, n, as, Pp, R, _, _, _, pr, hl, _⟩ => by rw [paired_len pr]; exact hl) fun cdv A outer s H vs Q E hgd hr ⟨sc, B, n, as, Pp, R, sub, nos, src, pr, hl, hg, ox, q⟩ => ?_
  refine ⟨_, hb cdv A outer s H B sc E hgd hr, B, env0 as N.length, n, _, ?_, hm as n Pp R hl hg, ?_, ?_, ox, ?_, ?_⟩
  · refine ⟨sub, Same.refl _, fun _ _ _ _ => rfl, nos, Ext.refl _ _, src, ?_, ?_⟩
    · unfold L2.start env0
      rw [paired_len pr]
      exact paired_app (ag_sl pr) (paired_rep (.no _) _)
    · intro i j p a b h1 h2 h3 h4 w1 w2
      exfalso
      unfold env0 at h3
      by_cases hi : i < as.length
      · rw [List.getElem?_append_left hi] at h3
        rw [ag_no_ow pr i a h3] at w1; cases w1
      · rw [List.getElem?_append_right (by omega), List.getElem?_replicate] at h3
        split at h3
        · cases h3; cases w1
        · cases h3
  · intro ρ' n' q' σ' B' H' s' F'
    exact q .none n' q' .non B' H' F'.entry F'.src .non
  · intro d n' q' v B' H' s' k' r
    exact q d n' q' v B' H' s' k' r
  · intro ρ' n' z; exact z.elim
  · intro ρ' n' z; exact z.elim
/-- the rest of a block, with what is fixed found out on the way -/
theorem pss_ex {X : Cx} {K : Fg} {cl : Cl} {sts : List Stmt} {m : MS} {E : XK} (h : ∀ (sc : Sc) (H0 B0 : Hp), DSs X ⟨K, cl, sc, H0, B0, E⟩ sts m) : PSs X sts (fun Z σ H => ∃ sc H0 B0, tS ⟨K, cl, sc, H0, B0, E⟩ m Z σ H) :=
  ⟨fun pins s σ H D I ⟨sc, H0, B0, q⟩ => (h sc H0 B0).run pins s σ H D I q⟩
/-- the law's frame behind the source's making -/
theorem law_frame {K : Fg} {cl : Cl} {E : XK} {H : Hp} {s c : Addr} {v : Option V} {k n : Nat} (h : SrcOk (some (s, c)) H n) : Fr ⟨K, cl, some (s, c), H, fun _ => none, E⟩ (fun _ => none) ([v, some (.ref s)] ++ List.replicate k none) H ([.no, .src] ++ List.replicate k .no) n where
  sub := fun _ _ e => by cases e
  old := Same.refl _
  new := fun _ _ _ _ => rfl
  nos := fun _ _ => rfl
  ext := Ext.refl _ _
  src := h
  slo := .cons (.no v) (.cons (.src rfl) (paired_rep (.no _) k))
  dis := fun i j p a b h1 h2 h3 h4 w1 w2 => by
    exfalso
    match i, h3 with
    | 0, h3 => cases h3; cases w1
    | 1, h3 => cases h3; cases w1
    | i + 2, h3 =>
      have h3' : (List.replicate k Sl.no)[i]? = some a := by simpa using h3
      rw [List.getElem?_replicate] at h3'
      split at h3'
      · cases h3'; cases w1
      · cases h3'
end DS

/-! S2: the making of the source, and a draw. -/
namespace DS
open PySem L2
theorem op_powW {X : Cx} : OpR X (binaryOp .Pow) (rI (fun i j => 0 ≤ j ∧ (Builtin.Int.intBits i : Int) * j ≤ 2 ^ 27) fun i j => .int (i ^ j.toNat)) := opI fun _ _ _ _ _ _ _ hc q => PyProof.Rows.pow_int hc.1 hc.2 q
theorem two_line : (2 : Nat) ≤ sizeLine := by rw [sizeLine_eq]; omega
theorem cut63 {ns : List Int} (h : ns.length ≤ 63) : cutV (ns.map V.int) none (some 63) = ns.map V.int := by
  unfold cutV HT.sIx
  simp only [List.drop_zero, List.length_map]
  rw [List.take_of_length_le]
  simp only [List.length_map]
  have : ¬ ((63 : Int) < 0) := by decide
  rw [if_neg this]
  show ns.length ≤ min 63 ns.length - 0
  omega
theorem dps_ints {K : Fg} {H : Hp} : ∀ ns : List Int, DpAll K H (ns.map V.int) (ns.map PyData.int)
  | [] => .nil
  | n :: r => .cons (.int n) (dps_ints r)
theorem eqv_nil (ms : List Int) : PyData.eqv (.list (ms.map .int)) (.list []) = decide (ms = []) := by
  cases ms <;> simp [PyData.eqv, PyData.eqvAll]
theorem okD_ints (ms : List Int) : okD (.list (ms.map .int)) = true := by
  have h1 : PyData.plainAll (ms.map .int) = true := by
    induction ms with
    | nil => rfl
    | cons x r ih => simpa [PyData.plainAll, PyData.plain] using ih
  have h2 : PyData.depthAll (ms.map .int) ≤ 1 := by
    induction ms with
    | nil => simp [PyData.depthAll]
    | cons x r ih =>
      simp only [List.map_cons, PyData.depthAll, PyData.depth]
      have := ih (by simpa [PyData.plainAll, PyData.plain] using h1)
      omega
  unfold okD
  have h3 : (PyData.list (ms.map .int)).depth = PyData.depthAll (ms.map .int) + 1 := by simp [PyData.depth]
  have h4 : (PyData.list (ms.map .int)).plain = true := by simp only [PyData.plain]; exact h1
  rw [h4, h3]
  exact decide_eq_true (by omega)
theorem big_bits : (Builtin.Int.intBits ((10 : Int) ^ 60) : Int) * 20 ≤ 2 ^ 27 := by decide +kernel
theorem src_end {s c : Addr} {H : Hp} {ms : List Int} (hc : H c = some (.lst (ms.map V.int))) (h0 : ms ≠ []) (h63 : ms.length ≤ 63) (hk : ∀ z ∈ ms, cellOk z) (hs : H s = none) (n : Nat) (hn : n ≤ 2 ^ 60) : SrcOk (some (s, c)) (upd H s (.lst [.ref c, .int 0])) n := by
  have ne : s ≠ c := fun e => by rw [e, hc] at hs; cases hs
  exact ⟨ne, ms, 0, upd_same, by rw [upd_ne (fun q => ne q.symm)]; exact hc, List.length_pos_iff.2 h0, h63, hk, by omega⟩
/-- the cells before i are good -/
def okTo (ms : List Int) (i : Nat) : Prop := ∀ j, j < i → ∀ x, ms[j]? = some x → cellOk x
theorem okTo_next {ms : List Int} {i : Nat} (h : okTo ms i) (hx : ∀ x, ms[i]? = some x → cellOk x) : okTo ms (i + 1) := fun j hj x e => by
  by_cases q : j = i
  · subst q; exact hx x e
  · exact h j (by omega) x e
theorem okTo_set {ms : List Int} {i : Nat} {y : Int} (h : okTo ms i) (hy : cellOk y) : okTo (ms.set i y) (i + 1) := fun j hj x e => by
  by_cases q : j = i
  · subst q
    rw [List.getElem?_set_self'] at e
    cases e2 : ms[j]? with
    | none => rw [e2] at e; cases e
    | some u => rw [e2] at e; simp at e; subst e; exact hy
  · rw [List.getElem?_set_ne (fun z => q z.symm)] at e; exact h j (by omega) x e
theorem ixN_nat {n i : Nat} (h : i < n) : ixN n ((0 : Int) + (i : Int)) = some i := by
  unfold ixN
  rw [if_pos (by omega), if_pos (by omega)]
  congr 1
  omega
theorem atI_nat {ms : List Int} {i : Nat} {x : Int} (h : ms[i]? = some x) : atI (ms.map V.int) ((0 : Int) + (i : Int)) = some (.int x) := by
  have hi : i < ms.length := by
    rcases Nat.lt_or_ge i ms.length with q | q
    · exact q
    · rw [List.getElem?_eq_none q] at h; cases h
  unfold atI
  rw [ixN_nat (by simpa using hi)]
  show (ms.map V.int)[i]? = _
  rw [List.getElem?_map, h]
  rfl
theorem draw_args {K : Fg} {cl : Cl} {sc : Sc} {B H : Hp} {vs : List V} {lim : Int} (pr : Paired (AgR K cl sc B H) vs [.src, .dat (.int lim)]) : ∃ s c, sc = some (s, c) ∧ vs = [.ref s, .int lim] := by
  cases pr with
  | cons h t =>
    cases h with
    | src e =>
      cases t with
      | cons h2 t2 =>
        cases t2
        cases h2 with
        | dat h3 => cases h3; exact ⟨_, _, e, rfl⟩
theorem if_cases {c : Prop} [Decidable c] {X Y : Prop} (h1 : c → X) (h2 : ¬ c → Y) : if c then X else Y := by
  split
  · exact h1 ‹_›
  · exact h2 ‹_›
theorem atI_z {l : List Int} {k : Int} (h0 : 0 ≤ k) (h1 : k < l.length) : ∃ z, z ∈ l ∧ atI (l.map V.int) k = some (V.int z) := by
  have hk : k.toNat < l.length := by omega
  refine ⟨l[k.toNat], List.getElem_mem hk, ?_⟩
  unfold atI ixN
  rw [if_pos h0, List.length_map, if_pos h1]
  show (l.map V.int)[k.toNat]? = _
  rw [List.getElem?_map, List.getElem?_eq_getElem hk]
  rfl
end DS

/-! EX1: an error of one's own classes whose __init__ hands a text to super().__init__ and keeps one field. -/
namespace DX
open PySem PySem.W PySem.Calls PyProof.Rows PySem.HandSPX
/-- the scope of such an __init__ -/
abbrev sxS (fld : Str) : Scope := { kind := .function, names := [(PySem.Str.ofString "self", .local), (fld, .local), (PySem.Str.ofString "__class__", .free), (PySem.Str.ofString "super", .globalImplicit)], isGenerator := false, isCoroutine := false, more := [] }
/-- what the written part says of such a class at C, of its __init__ at fI -/
structure SxT (K : Frag) (prog : Program) (C fI cda cc : Addr) (fld lit : Str) : Prop where
  cls : ∃ nm q N bs bm sn sub ab col dd k0 k1 k2 k3 k5, K.lookup C = some (excClassObj nm q C N bs bm true sn sub ab col dd k0 k1 k2 k3 k5 "ValueError.__new__") ∧ refsVE bm = true
  ini : ∃ bmB, ExcBaseFacts "ValueError" "ValueError.__new__" "ValueError.__init__" bmB ∧ excInitIn K C bmB "ValueError.__new__" = true
  sup : ks_superIn K C C "__init__" = some (some (.builtin "ValueError.__init__"))
  isV : subIn K (.ref C) (.type "ValueError") = some true
  any : nsIn K cStatics "thirdparty.any" = some none
  mro : mroIn K C (.ref C) = some true
  sa : findIn K (.ref C) "__setattr__" = some (some (.builtin "object.__setattr__"))
  noN : findIn K (.ref C) fld = some none
  cod : ∃ ccl cdd vs ccs file tf, K.lookup cda = some ⟨ccl, cdd, .fields vs, ccs⟩ ∧ vs[2]? = some (.str file tf) ∧ ((prog.main.file : Str) == file) = true
  cel : ∃ cl cld csl, K.lookup cc = some ⟨cl, cld, .cell (some (.ref C)), csl⟩
  fn : ∃ qual oc od ps body doc pm an ct osl a1 a2 j q1 q2 q3 q4 q5 q6 p1 p2 p3 p4, K.lookup fI = some ⟨oc, od, .func (ksFn "__init__" qual ps body (sxS fld) .none .none doc pm an (.ref cda) ct cc), osl⟩ ∧ codeIn K (.ref cda) qual = true ∧
    ps = { posonlyargs := [], args := [{ arg := "self", annotation := none, pos := a1 }, { arg := fld, annotation := none, pos := a2 }], vararg := none, kwonlyargs := [], kw_defaults := [], kwarg := none, defaults := [] } ∧
    (∀ (s : Shared) (x v : Value), BindsTo s (ksFn "__init__" qual ps body (sxS fld) .none .none doc pm an (.ref cda) ct cc) ⟨[x, v], []⟩ [("self", x), (fld, v)]) ∧
    (∀ env : PySem.Env, ∃ pl : Sem Bool, eval (.Call (.Attribute (.Call (.Name "super" q1) [] [] q2) "__init__" q3) [.Constant (.str lit) j q4] [] q5) env = (do
      let ov ← attributeBase (.Call (.Name "super" q1) [] [] q2) "__init__" env (eval (.Call (.Name "super" q1) [] [] q2) env)
      standAt q3.atName
      let (f, first) ← holding [ov] (getMethod ov "__init__" pl)
      callWith q5 f first (backTo q5 (starEach [.Constant (.str lit) j q4] env)) [])) ∧
    body = [.Expr (.Call (.Attribute (.Call (.Name "super" q1) [] [] q2) "__init__" q3) [.Constant (.str lit) j q4] [] q5) q6, .Assign [.Attribute (.Name "self" p1) fld p2] (.Name fld p3) p4]
  fne : (fld == ("self" : Str)) = false
  fns : (("super" : Str) == fld) = false
  fnc : (("__class__" : Str) == fld) = false
  nfd : (("self" : Str) == fld) = false
  fnd : (fld == ("__debug__" : Str)) = false
  top : (prog.main.scope.names.lookup ("super" : Str)).isSome = false

/-- what __init__ leaves of a fresh error at x: its dict at dx holds the field -/
structure SxEnd (h h' : Heap) (x C dx t1 : Addr) (fld : Str) (v : Value) : Prop where
  keep : ∀ b o, b ≠ x → h.get? b = some o → h'.get? b = some o
  obj : h'.get? x = some { cls := .ref C, dict := some dx, data := .fields #[.ref t1, .none, .none, .none, .bool false, .none] }
  dbig : h.objs.size ≤ dx
  dne : dx ≠ x
  ns : h'.Ns1 dx (fun y => if y = fld then some v else none)
theorem one_fits {α : Type} {v : α} : [v].length ≤ sizeLine := by rw [sizeLine_eq]; exact (by decide : 1 ≤ 16777216)
section
variable {prog : Program} {w : World} {A : Around} {R : Result → Shared → Prop} {s : Shared} {K : Frag} {mg mb : Str → Option Value} {C fI cda cc : Addr} {fld lit : Str}
theorem sx_init (T : SxT K prog C fI cda cc fld lit) {x t0 : Addr} {v : Value} (X : K.In s.heap) (hlim : s.heap.NoLimit) (hg : s.heap.Ns mainGlobals mg) (hms : mg "super" = none) (hb : s.heap.Ns builtinsNs mb) (hbs : mb "super" = some (.type "super"))
    (hx : s.heap.get? x = some (excO C t0)) (hnx : K.lookup x = none) (hroom : A.depth < recursionLimit)
    (hq : ∀ h' tk dx t1, SxEnd s.heap h' x C dx t1 fld v → R (.ok (.ret .none)) { s with heap := h', toks := tk }) :
    codeAny (model prog w) A (.call (.ref fI) ⟨[.ref x, v], []⟩) R s := by
  obtain ⟨qual, oc, od, ps, body, doc, pm, an, ct, osl, a1, a2, j, q1, q2, q3, q4, q5, q6, p1, p2, p3, p4, ho, hcd, rfl, hbd, hev, rfl⟩ := T.fn
  obtain ⟨nm, q, N, bs, bm, sn, sub, ab, col, dd, k0, k1, k2, k3, k5, hC, hbm⟩ := T.cls
  obtain ⟨bmB, FB, hini⟩ := T.ini
  obtain ⟨ccl, cdd, vs, ccs, file, tf, hcod, hvs, hfile⟩ := T.cod
  obtain ⟨cl, cld, csl, hcel⟩ := T.cel
  have scX : (sxS fld).names.lookup ("self" : Str) = some .local := by simp [List.lookup]
  have scF : (sxS fld).names.lookup fld = some .local := by simp [List.lookup, T.fne]
  have scC : (sxS fld).names.lookup ("__class__" : Str) = some .free := by simp [List.lookup, T.fnc, show (PySem.Str.ofString "__class__" == PySem.Str.ofString "self") = false by decide]
  have scS : (sxS fld).names.lookup ("super" : Str) = some .globalImplicit := by simp [List.lookup, T.fns, show (PySem.Str.ofString "super" == PySem.Str.ofString "self") = false by decide, show (PySem.Str.ofString "super" == PySem.Str.ofString "__class__") = false by decide]
  have scK : (sxS fld).kind = .function := rfl
  have scN : ∀ x ∈ (sxS fld).names, x.2 ≠ .cell := fun p hp => by
    simp only [List.mem_cons, List.not_mem_nil, or_false] at hp
    rcases hp with rfl | rfl | rfl | rfl <;> simp
  have hxL : x ≠ s.heap.objs.size := Nat.ne_of_lt (Heap.lt_size hx)
  refine ks_codeAny_call_defAt (fd := ksFn "__init__" qual _ _ (sxS fld) .none .none doc pm an (.ref cda) ct cc) (binds := [("self", .ref x), (fld, v)]) hroom (X _ _ ho) rfl hlim (codeRec_of X hcd) rfl (hbd _ _ _) scN (fun y hy => ?_) (fun h₁ hn k => ?_) rfl rfl rfl
  · rcases List.mem_cons.mp hy with rfl | hy
    · exact scX
    · rcases List.mem_cons.mp hy with rfl | hy
      · exact scF
      · cases hy
  have X₁ : K.In h₁ := X.keeps k
  have hx₁ := k _ _ hx
  have nf := T.nfd
  have lself : List.lookup ("self" : Str) [(("self" : Str), Value.ref x), (fld, v)].reverse = some (.ref x) := by
    show List.lookup ("self" : Str) [(fld, v), (("self" : Str), Value.ref x)] = _
    simp [List.lookup, nf]
  have lfld : List.lookup fld [(("self" : Str), Value.ref x), (fld, v)].reverse = some v := by
    show List.lookup fld [(fld, v), (("self" : Str), Value.ref x)] = _
    simp [List.lookup]
  obtain ⟨pl, hev⟩ := hev (ksEnv qual (sxS fld) s.heap.objs.size fI (.ref cda) cc)
  refine ks_wpAt_execs_cons (ks_wpAt_Expr_any (ks_wpAt_MethodCall (he := hev) (ks_wpAt_super_base (f := fI) (cc := cda) (ar := ⟨"self", none, a1⟩) scS scC (by decide) rfl (X₁ _ _ ho) rfl rfl rfl (X₁ _ _ hcod) rfl hvs hfile T.top ?_)))
  refine ks_loadName_global scK scS (loadGlobal_builtin (hg.keeps k) hms (hb.keeps k) hbs ⟨rfl, ?_⟩)
  refine wpAny_loadName_free scK scC rfl ⟨_, X₁ _ _ hcel, rfl⟩ ?_
  refine wpAny_loadName_local scK scX hn lself ?_
  refine ks_wpAny_isType_cls (X₁ _ _ hC) rfl ⟨rfl, ?_⟩
  refine ks_wpAny_call_super (h := h₁) (X₁ _ _ hC) rfl hx₁ rfl (fun c e => by cases e) (looks_mroIn X₁ T.mro) (fun h₂ hso k₂ => ?_)
  have lt1 : s.heap.objs.size < h₁.objs.size := hn.lt
  have X₀ : K.In (hideAll s.heap [x]) := fun a o e => hideAll_get _ (X _ _ e) (fun z => by
    have z' : a = x := by simpa using z
    rw [z', hnx] at e
    cases e)
  have F₂ : Fr (hideAll s.heap [x]) s.heap.objs.size h₂ _ := ⟨hn.keeps k₂, fun b o e => k₂ _ _ (k _ _ (of_hideAll _ e)), Nat.le_of_eq (hideAll_size _ _)⟩
  have N₂ : News (hideAll s.heap [x]) s.heap.objs.size h₂ [(h₁.objs.size, ks_superObj C x C), (x, excObj C t0 none .none)] := fun p hp => by
    rcases List.mem_cons.mp hp with rfl | hp
    · refine ⟨hso, Nat.ne_of_gt lt1, ?_⟩
      cases z : (hideAll s.heap [x]).get? h₁.objs.size with
      | none => rfl
      | some o => exact absurd (Nat.lt_trans lt1 (Heap.lt_size (of_hideAll _ z))) (Nat.lt_irrefl _)
    · have e : p = (x, excObj C t0 none .none) := by simpa using hp
      subst e
      exact ⟨k₂ _ _ hx₁, hxL, hideAll_none _ List.mem_cons_self⟩
  refine kxs_method (s := ⟨h₂, s.gens, s.drawn, _, s.os⟩) kxs_ValueError F₂ X₀ N₂ List.mem_cons_self (ox := excObj C t0 none .none) (odx := none) ⟨k₂ _ _ hx₁, rfl, rfl, trivial⟩ T.any T.sup T.isV (by decide) (fun u h₃ F₃ N₃ lt3 => ?_)
  refine kxs_callWith1 N₃ List.mem_cons_self (spliced_more (wpAny_Constant_str (spliced_none ⟨kxs_at N₃ List.mem_cons_self, ?_⟩)))
  refine kxs_call F₃ X₀ N₃ FB hini List.mem_cons_self (.tail ?_ (.tail ?_ (.head (fun p hp => by cases hp)))) one_fits (fun t' h₄ F₄ N₄ lt4 => ?_)
  · exact Nat.ne_of_gt (Nat.lt_trans (Heap.lt_size hx) (Nat.lt_trans lt1 (lt3 _ List.mem_cons_self)))
  · exact Nat.ne_of_gt (Nat.lt_trans (Heap.lt_size hx) lt1)
  have hx₄ : h₄.get? x = some (excObj C t' none .none) := (N₄ (x, excObj C t' none .none) (by simp)).1
  have X₄ : K.In h₄ := X₀.keeps F₄.keep
  have hcl : clsIn K C = some { name := nm, bases := bs, mro := .ref C :: bm, ns := N, qualname := q, hasDict := true, slotNames := sn, subclasses := sub, abstract := ab, collection := col, hasDel := false } := by unfold clsIn; rw [hC] <;> rfl
  refine wpAt_of_wpAny (wpAny_execs_cons (plainObj_wpAny_Assign_Attribute ?_))
  refine wpAny_Name (wpAny_loadName_local scK scF F₄.ns lfld ?_) T.fnd
  refine wpAny_Name (wpAny_loadName_local scK scX F₄.ns lself ?_)
  refine set_plain X₄ (ox := excObj C t' none .none) (od := none) ⟨hx₄, rfl, rfl, trivial⟩ T.sa ?_
  refine exc_osa X₄ hx₄ hcl hbm rfl T.noN (fun h₅ tk₅ dx k₅ dn dne hx₅ hn₅ => ?_)
  refine wpAny_execs_nil (hq h₅ tk₅ dx t' ⟨fun b o hne e => ?_, hx₅, ?_, dne, hn₅⟩)
  · exact k₅ b o hne (F₄.keep b o (hideAll_get _ e (by simpa using hne)))
  · exact Nat.le_of_lt (Nat.lt_of_lt_of_le F₄.ns.lt dn)
end
end DX

/-! EX2: such an error made, and raised. -/
namespace DX
open PySem PySem.W PySem.Calls PyProof.Rows PySem.HandSPX
/-- a made one: new, its dict (new) holds the field -/
structure SxMade (h h' : Heap) (e C d : Addr) (fld : Str) (v : Value) : Prop where
  keep : ∀ b o, h.get? b = some o → h'.get? b = some o
  new : h.objs.size ≤ e
  obj : ∃ t1 : Addr, h'.get? e = some { cls := .ref C, dict := some d, data := .fields #[.ref t1, .none, .none, .none, .bool false, .none] }
  dbig : h.objs.size ≤ d
  dne : d ≠ e
  ns : h'.Ns1 d (fun y => if y = fld then some v else none)
/-- what names it -/
structure SxC (K : Frag) (prog : Program) (mg : Str → Option Value) (C : Addr) (nm fld : Str) : Prop where
  txt : ∃ fI cda cc lit, SxT K prog C fI cda cc fld lit ∧ findIn K (.ref C) "__init__" = some (some (.ref fI)) ∧ typeIn K (.ref fI) = some (.type "function")
  gC : mg nm = some (.ref C)
  gs : mg "super" = none
  ndb : (nm == ("__debug__" : Str)) = false
  kC : keepIn K (.ref C) = true
  exC : subIn K (.ref C) (.type "BaseException") = some true
  tyC : typeIn K (.ref C) = some (.type "type")
  ga : findIn K (.ref C) "__getattribute__" = some (some (.builtin "BaseException.__getattribute__"))
  hdC : hasDictIn K C = true
section
variable {prog : Program} {w : World} {A : Around} {R : Result → Shared → Prop} {s : Shared} {K : Frag} {mg mb : Str → Option Value} {C : Addr} {nm fld : Str}
theorem sx_made (T : SxC K prog mg C nm fld) {v : Value} (X : K.In s.heap) (hlim : s.heap.NoLimit) (hg : s.heap.Ns mainGlobals mg) (hb : s.heap.Ns builtinsNs mb) (hbs : mb "super" = some (.type "super")) (hroom : A.depth + 1 < recursionLimit)
    (hq : ∀ h' tk e d, SxMade s.heap h' e C d fld v → R (.ok (.ret (.ref e))) { s with heap := h', toks := tk }) :
    codeAny (model prog w) A (.call (.ref C) ⟨[v], []⟩) R s := by
  obtain ⟨fI, cda, cc, lit, T1, iC, tC⟩ := T.txt
  obtain ⟨nm, q, N, bs, bm, sn, sub, ab, col, dd, k0, k1, k2, k3, k5, hC, hbm⟩ := T1.cls
  obtain ⟨hp, g, dr, tk, os⟩ := s
  have k : ∀ b o, hp.get? b = some o → ((hp.push (kdv_tup [v])).push (excO C hp.objs.size)).get? b = some o := fun b o e => Heap.get?_push_of_some _ (Heap.get?_push_of_some _ e)
  have hget : ((hp.push (kdv_tup [v])).push (excO C hp.objs.size)).get? (hp.objs.size + 1) = some (excO C hp.objs.size) := by heap_get
  have hnx : K.lookup (hp.objs.size + 1) = none := by
    cases e : K.lookup (hp.objs.size + 1) with
    | none => rfl
    | some o =>
      have z : hp.get? (hp.objs.size + 1) = some o := X _ _ e
      exact absurd (Nat.lt_of_succ_lt (Heap.lt_size z)) (Nat.lt_irrefl _)
  refine call_own F.excBase_ValueError (fun X => refsVE_contains X bm hbm) (X _ _ hC) (looks_findIn X iC) (fun self => bind_fn X self tC) one_fits ?_
  refine sx_init (s := ⟨(hp.push (kdv_tup [v])).push (excO C hp.objs.size), g, dr, tk, os⟩) T1 (X.keeps k) (hlim.keeps k) (hg.keeps k) T.gs (hb.keeps k) hbs hget hnx ?_ fun h' tk' dx t1 ⟨k', hx, dn, dne, hns⟩ => ?_
  · show A.depth + 1 < recursionLimit
    exact hroom
  · have old : ∀ b o, hp.get? b = some o → h'.get? b = some o := fun b o e => k' b o (Nat.ne_of_lt (Nat.lt_succ_of_lt (Heap.lt_size e))) (k b o e)
    have z : hp.objs.size + 1 + 1 ≤ dx := by
      have y := dn
      simp only [Heap.size_push] at y
      exact y
    exact ⟨rfl, hq h' tk' (hp.objs.size + 1) dx ⟨old, Nat.le_succ _, ⟨t1, hx⟩, Nat.le_trans (Nat.le_trans (Nat.le_succ _) (Nat.le_succ _)) z, dne, hns⟩⟩
end
end DX
namespace DX
open PySem L2
section
variable {X : Cx} {C : Addr} {nm fld : Str}
/-- C(e) -/
def tMkX (C : Addr) (fld : Str) (ta : TA) : St → Hp → XK → Prop := fun σ H Q => ta σ H fun vs H1 => ∃ v, vs = [v] ∧ ∀ d, H1 d = none → Q (.ref C) (some d) (upd H1 d (.xd [(fld, v)]))
theorem rel_one {v : V} {v' : Value} (r : RelV v v') (fld f : Str) : RelO (List.lookup f [(fld, v)]) (if f = fld then some v' else none) := by
  by_cases hw : f = fld
  · subst hw
    rw [if_pos rfl]
    have q : List.lookup f [(f, v)] = some v := by simp [List.lookup]
    rw [q]
    exact r
  · rw [if_neg hw]
    have qw : (f == fld) = false := by simpa using hw
    have q2 : List.lookup f [(fld, v)] = none := by simp [List.lookup, qw]
    rw [q2]
    trivial
theorem pmk_sx {a : Expr} {ta : TA} {p pos : Pos} {k : Nat} (T : SxC X.K X.prog X.mg C nm fld) (hr : Room k X.A) (hk : 1 ≤ k) (ha : PA X [a] ta) (hg : Gl X nm)
    (he : starEach (a :: []) X.env = (false, eval a X.env) :: starEach [] X.env := by rfl) (hpl : (PySem.backTo pos (starEach [] X.env)).any (·.1) = false := by rfl) :
    PMk X (.Call (.Name nm p) [a] [] pos) (tMkX C fld ta) := by
  intro pins s σ H Q I h
  refine wpAny_Call_Name_kw (ld_glob I hg T.gC ?_ T.ndb)
  refine PySem.W.callWith_K (h₀ := X.base) I.ok.mod.kin T.kC (thn (ha.run pos pins s σ H _ I h) fun us s1 hh => ?_) he hpl
  obtain ⟨vs, H1, I1, r1, v, ev, q1⟩ := hh
  subst ev
  refine ⟨I1.kIn, ?_⟩
  cases r1 with
  | cons rv rn =>
    rename_i v' us'
    cases rn
    have hlim := I1.nolimit
    obtain ⟨mb, hb1, hb2⟩ := I1.ok.mod.blt
    have hbs : mb "super" = some (.type "super") := (hb2 _ (by decide)).trans (by decide +kernel)
    have hbl := hb1.keeps I1.bk
    have hgl := I1.ok.mod.glob.keeps I1.bk
    obtain ⟨hp, g, dr, tk, os⟩ := s1
    refine wpAny_call (sx_made T I1.kIn hlim hgl hbl hbs (by have := hr.dp; omega) fun h' tk' e d M => ?_)
    show MkP X pins σ Q (.ref e) ⟨h', g, dr, tk', os⟩
    obtain ⟨t1, hoe⟩ := M.obj
    have hns := M.ns
    obtain ⟨G', g1, g2⟩ := restrict h' fun b => decide (b ≠ e)
    have gk : ∀ b, b ≠ e → G'.get? b = h'.get? b := fun b hb => g1 b (decide_eq_true hb)
    have ge : G'.get? e = none := g2 e (by simp)
    have old : ∀ b o, hp.get? b = some o → G'.get? b = some o := fun b o q => (gk b (Nat.ne_of_lt (Nat.lt_of_lt_of_le (Heap.lt_size q) M.new))).trans (M.keep b o q)
    have ob : ObjOk X.prog X.w (upd H1 d (.xd [(fld, v)])) G' d (.xd [(fld, v)]) :=
      ⟨_, hns.at (fun o q => (gk d M.dne).trans q), fun f => rel_one rv fld f⟩
    have J : Inv X pins σ (upd H1 d (.xd [(fld, v)])) ⟨G', g, dr, tk', os⟩ := I1.laid (t' := tk') old M.dbig ob
    refine ⟨e, _, _, ⟨G', g, dr, tk', os⟩, _, .ref C, some d, rfl, J, fun b o q => ?_, ge, hoe, ⟨rfl, rfl⟩, rfl, rfl, ?_, rfl, I1.bare, raises_own T.exC T.tyC, q1 d (I1.hok.fresh M.dbig)⟩
    · by_cases hb : b = e
      · have q' : G'.get? b = some o := q
        rw [hb, ge] at q'; cases q'
      · exact (gk b hb).symm.trans q
    · rw [upd_ne (Ne.symm M.dne)]
      exact I1.hok.fresh M.new
/-- raise C(e) -/
def tRaiseX (C : Addr) (fld : Str) (W : WX) (ta : TA) : TS := fun _ σ H => tMkX C fld ta σ H fun cls d H' => W cls d σ H'
theorem ps_raiseX {a : Expr} {ta : TA} {W : WX} {p pos pos2 : Pos} {k : Nat} (hc : X.calm = true) (T : SxC X.K X.prog X.mg C nm fld) (hr : Room k X.A) (hk : 1 ≤ k) (tk : Takes X W) (ha : PA X [a] ta) (hg : Gl X nm)
    (he : starEach (a :: []) X.env = (false, eval a X.env) :: starEach [] X.env := by rfl) (hpl : (PySem.backTo pos (starEach [] X.env)).any (·.1) = false := by rfl) :
    PS X (.Raise (some (.Call (.Name nm p) [a] [] pos)) none pos2) (tRaiseX C fld W ta) := ps_raise hc tk (pmk_sx T hr hk ha hg he hpl)
end
end DX

/-! EX3: an error that an except clause hands to a name of one's own, and what is asked of it later. -/
namespace DX
open PySem PySem.Spec PyProof.Rows L2
/-- at a: an error of the class cls, its dict (d | none) -/
def held (a : Addr) (cls : Value) (d : Option Addr) : HO := .ext fun h => ∃ (o : Obj) (vs : Array Value), h.get? a = some o ∧ o.cls = cls ∧ o.dict = d ∧ o.data = .fields vs
theorem held_ok {P : Program} {w : World} {H : Hp} {h : Heap} {a : Addr} {cls : Value} {d : Option Addr} {o : Obj} {vs : Array Value} (e : h.get? a = some o) (z : Zc cls d o) (hd : o.data = .fields vs) : ObjOk P w H h a (held a cls d) :=
  ⟨⟨o, vs, e, z.1, z.2, hd⟩, ⟨o, e⟩, fun h1 h2 ⟨o1, v1, e1, c1, d1, f1⟩ k => ⟨o1, v1, k _ e1, c1, d1, f1⟩⟩
theorem held_at {P : Program} {w : World} {H : Hp} {h : Heap} {a : Addr} {cls : Value} {d : Option Addr} (hok : HOk P w H h) (e : H a = some (held a cls d)) : ∃ (o : Obj) (vs : Array Value), h.get? a = some o ∧ o.cls = cls ∧ o.dict = d ∧ o.data = .fields vs := by
  have x : ObjOk P w H h a (.ext fun h => ∃ (o : Obj) (vs : Array Value), h.get? a = some o ∧ o.cls = cls ∧ o.dict = d ∧ o.data = .fields vs) := hok a _ e
  exact x.1
section
variable {X : Cx} {pins : List (Addr × Obj)} {σ : L2.St} {H : Hp} {s : Shared} {a : Addr} {cls : Value} {d : Option Addr} {o : Obj} {vs : Array Value}
/-- a pinned error is let into the abstract heap -/
theorem let_in (I : Inv X (pins ++ [(a, o)]) σ H s) (z : Zc cls d o) (hd : o.data = .fields vs) (hn : X.s_0.heap.get? a = none) (hp : ∀ p ∈ X.pn ++ pins, p.1 ≠ a) : Inv X pins σ (upd H a (held a cls d)) s := by
  obtain ⟨e, na, nL, nF, nC⟩ := I.pin (a, o) (by simp)
  have ne : ∀ {b : Addr} {u : HO}, H b = some u → b ≠ a := fun q => ne_of_none q na
  have nc : ∀ x c, X.env.cells.lookup x = some c → c ≠ a := fun x c q z => by
    obtain ⟨v, oc, e1, e2⟩ := I.cell x c q
    rw [z] at e1
    have e' : s.heap.get? a = some o := e
    rw [e'] at e1
    cases e1
    exact nC _ e2
  have old : ∀ {b : Addr} {u : Obj}, X.s_0.heap.get? b = some u → b ≠ a := fun q z => by rw [z, hn] at q; cases q
  exact {
    ok := I.ok
    os := I.os
    bare := I.bare
    base := {
      keep := I.base.keep
      slot := I.base.slot
      there := I.base.there
      free := fun b u q n x => by rw [upd_ne (old q)]; exact I.base.free b u q n x
      tups := fun b xs q => by have y := I.base.tups b xs q; rw [upd_ne (ne y)]; exact y
      frzs := fun b u v q => by have y := I.base.frzs b u v q; rw [upd_ne (ne y)]; exact y
      tbls := fun b ps q => by obtain ⟨m, y⟩ := I.base.tbls b ps q; exact ⟨m, by rw [upd_ne (ne y)]; exact y⟩ }
    loc := I.loc
    cell := I.cell
    free := by rw [upd_ne (Ne.symm nL)]; exact I.free
    freeC := fun x c q => by rw [upd_ne (nc x c q)]; exact I.freeC x c q
    pin := fun p q => by
      obtain ⟨b1, b2, b3⟩ := I.pin p (by
        rcases List.mem_append.mp q with q | q
        · exact List.mem_append_left _ q
        · exact List.mem_append_right _ (List.mem_append_left _ q))
      exact ⟨b1, by rw [upd_ne (hp p q)]; exact b2, b3⟩
    hok := fun b u q => by
      by_cases hb : b = a
      · subst hb
        rw [upd_same] at q
        cases q
        exact held_ok e z hd
      · rw [upd_ne hb] at q
        exact (I.hok b u q).stay (fun _ _ _ k => k) (fun c k => by rw [upd_ne (ne k)]; exact k) (fun c xs k => by rw [upd_ne (ne k)]; exact k)
    len := I.len }
/-- the suite's end, the error still pinned -/
theorem out_of {q : Addr × Obj} {pn' : List (Addr × Obj)} (I : Inv (X.suite a (q :: (X.pn ++ pins))) pn' σ H s) (ok : X.Ok) : Inv X (pins ++ [q]) σ H s where
  ok := ok
  os := I.os
  bare := I.bare
  base := I.base
  loc := I.loc
  cell := I.cell
  free := I.free
  freeC := I.freeC
  pin := fun p hp => I.pin p (List.mem_append_left _ (by
    rcases List.mem_append.mp hp with h | h
    · exact List.mem_cons_of_mem _ (List.mem_append_left _ h)
    · rcases List.mem_append.mp h with h | h
      · exact List.mem_cons_of_mem _ (List.mem_append_right _ h)
      · rw [List.mem_singleton.mp h]; exact List.mem_cons_self))
  hok := I.hok
  len := I.len
end
/-- what the clause 'except x as n: y = n' wishes: slot i is n's, slot j is y's -/
def wKeep (K : PySem.W.Frag) (c : Value) (i j : Nat) (Wout : WX) (D : Ends) : WX := fun kl dd σ H =>
  ∃ b, PySem.W.exmOne K kl c = some b ∧ (b = true → ∀ e, H e = none → D.nx (((σ.set i (some (.ref e))).set j (some (.ref e))).set i none) (upd H e (held e kl dd))) ∧ (b = false → Wout kl dd σ H)
section
variable {X : Cx} {x n y : Str} {c : Value} {i j : Nat} {body : List Stmt} {np np2 yp ap pos pos' : Pos} {tb : WX → TS} {Wout : WX}
theorem ps_try_keep (hs : X.stack = X.env :: X.outer) (hf : X.env.frame = some X.env.locals) (hex : X.ex = []) (hN : X.N.Nodup) (hi : X.N[i]? = some n) (hj : X.N[j]? = some y) (hln : X.env.kindOf n = some .local) (hly : X.env.kindOf y = some .local) (hc : Names X x c) (tk : Takes X Wout)
    (hb : ∀ (W : WX) (pn : List (Addr × Obj)) (xe : Value → Shared → Prop), Takes (X.tr pn xe) W → PassesOwn (model X.prog X.w) X.A X.env xe → PSs (X.tr pn xe) body (tb W))
    (hnd : (n == ("__debug__" : Str)) = false := by decide) (hnc : (n == ("__classdict__" : Str)) = false := by decide) (hsw : swapsWith (.Name n np2) (some (.Name y yp)) ap.line X.env = pure false := by rfl) :
    PS X (.Try body [.ExceptHandler (some (.Name x np)) (some n) [.Assign [.Name y yp] (.Name n np2) ap] pos'] [] [] pos) (fun D σ H => tb (wKeep X.K c i j Wout D) D σ H) := by
  refine ⟨fun pins s0 σ0 H0 D I0 start => ?_⟩
  have ok := I0.ok
  have frames : X.A.frames = some (X.env :: X.outer) := ok.frames.trans (congrArg some hs)
  refine wpAny_Try_except (wpAny_mono ((hb (wKeep X.K c i j Wout D) (X.pn ++ pins) _ (fun u s1 air => ?caught) PassesOwn.looking).run [] s0 σ0 H0 D (I0.toTry _) start) (fun f s1 q => ?through) fun _ _ z => z)
  case through =>
    cases f with
    | next => obtain ⟨σ1, H1, J1, z⟩ := q; exact wpAny_execs_nil ⟨σ1, H1, J1.ofTry ok, z⟩
    | brk => obtain ⟨σ1, H1, J1, z⟩ := q; exact ⟨σ1, H1, J1.ofTry ok, z⟩
    | cont => obtain ⟨σ1, H1, J1, z⟩ := q; exact ⟨σ1, H1, J1.ofTry ok, z⟩
    | ret v => obtain ⟨v1, σ1, H1, J1, r, z⟩ := q; exact ⟨v1, σ1, H1, J1.ofTry ok, r, z⟩
  case caught =>
    obtain ⟨e, G, st, ps, ρ, Hx, kl, dd, rfl, J0, inG, upG, sky, fresh, osE, bareE, b, tst, yes, no⟩ := air
    have J : Inv X pins ρ Hx st := J0.ofTry ok
    show wpAny (model X.prog X.w) X.A (noteFrame (.ref e) X.env) _ _ _
    refine Sky.land Zc.steady frames hf (by rw [← hs]; exact sky) fun h3 fly up3 => ?_
    have J3 : Inv X pins ρ Hx { s1 with heap := h3 } := J.landed inG fly.1 (upG.trans up3) osE bareE
    obtain ⟨o3, v3, at3, z3, d3⟩ := fly.there
    have off : e ∉ frs (X.env :: X.outer) := fun hm => by
      obtain ⟨_, o', e', hnf⟩ := fly.2.2.1.mem hm
      rw [at3] at e'
      cases e'
      exact hnf _ d3
    have offL : e ≠ X.env.locals := fun z => off (List.mem_filterMap.mpr ⟨X.env, List.mem_cons_self, hf.trans (congrArg some z.symm)⟩)
    have offF : e ∉ X.fs := fun hm => by
      obtain ⟨en, he, q⟩ := List.mem_filterMap.mp hm
      exact off (List.mem_filterMap.mpr ⟨en, .tail _ he, q⟩)
    have notG : ∀ b o, st.heap.get? b = some o → b ∉ frs X.stack → b ≠ e := fun b o q hb z => by
      have y := inG b o q hb
      rw [z, fly.2.1] at y
      cases y
    have new0 : X.s_0.heap.get? e = none := by
      cases q : X.s_0.heap.get? e with
      | none => rfl
      | some o =>
        obtain ⟨o', q'⟩ := J.base.there e o q (by rw [hex]; exact fun z => nomatch z)
        exact absurd rfl (notG e o' q' (by rw [hs]; exact off))
    have apart : ∀ p ∈ X.pn ++ pins, p.1 ≠ e := fun p hp => by
      obtain ⟨q1, _, q3, q4, _⟩ := J.pin p hp
      refine notG _ _ q1 fun hm => ?_
      rw [hs] at hm
      obtain ⟨en, he, q⟩ := List.mem_filterMap.mp hm
      rcases List.mem_cons.mp he with rfl | he
      · rw [hf] at q
        exact q3 (Option.some.inj q).symm
      · exact q4 (List.mem_filterMap.mpr ⟨en, he, q⟩)
    have S3 := J3.suite at3 d3 fresh offL offF
    refine wpAny_handleBy_cons (codeAny_handlers_test ?_) (by intro q; cases q)
    have typ : PySem.W.Looks (model X.prog X.w) h3 (typeOf (.ref e)) kl := fun A Q E s k q => wpAny_typeOf_ref (k _ _ at3) (by rw [z3.1]; exact q)
    have hit := PySem.W.exm_one (M := model X.prog X.w) J3.kIn typ tst
    have ask : ∀ {Q : Value → Shared → Prop} {E : Value → Shared → Prop}, Q c { s1 with heap := h3 } → wpAny (model X.prog X.w) (X.A.mark (some (.ref e))) (eval (.Name x np) X.env) Q E { s1 with heap := h3 } := fun {Q E} q => by
      rcases hc with ⟨hg, hdbg, hm | ⟨hm, hv, hnn⟩⟩
      · exact ld_glob (X := X.suite e ((e, o3) :: (X.pn ++ pins))) S3 hg hm q hdbg
      · exact ld_blt (X := X.suite e ((e, o3) :: (X.pn ++ pins))) S3 hg hm hv q hnn hdbg
    refine ask (hit.here ?_)
    cases b with
    | true =>
      refine codeAny_handlers_suite_as (HandSPX.lands_againZ fly fun h4 fly4 up4 => ?_)
      have J4 : Inv X pins ρ Hx { s1 with heap := h4 } := J.landed inG fly4.1 ((upG.trans up3).trans up4) osE bareE
      obtain ⟨o4, v4, at4, z4, d4⟩ := fly4.there
      have S4 := J4.suite at4 d4 fresh offL offF
      refine store_ok (X := X.suite e ((e, o4) :: (X.pn ++ pins))) (v := .ref e) S4 hN hi (.inl hln) rfl (fun s5 S5 => ?_) (.inr hln)
      have hlen : i < ρ.length := by rw [J.len]; exact (List.getElem?_eq_some_iff.mp hi).1
      have asg : PSs (X.suite e ((e, o4) :: (X.pn ++ pins))) [.Assign [.Name y yp] (.Name n np2) ap] (tAsg (tVar i) (gName j)) :=
        pss_one (ps_set (X := X.suite e ((e, o4) :: (X.pn ++ pins))) hN hj (.inl hly) (pe_var (X := X.suite e ((e, o4) :: (X.pn ++ pins))) hi (.inl hln) hnd hnc) hsw (.inr hly))
      refine wpAny_mono (asg.run [] s5 _ Hx { nx := fun σ' H' => σ' = (ρ.set i (some (.ref e))).set j (some (.ref e)) ∧ H' = Hx, rt := fun _ _ => False } S5 ⟨.ref e, List.getElem?_set_self hlen, rfl, rfl⟩) (fun f s6 q => ?_) (fun _ _ z => False.elim z)
      cases f with
      | next =>
        obtain ⟨σ6, H6, S6, rfl, rfl⟩ := q
        exact gone_ok (out_of S6 ok) hN hi hln fun s7 J7 => ⟨_, _, let_in J7 z4 d4 new0 apart, yes rfl e fresh⟩
      | brk => obtain ⟨_, _, _, z⟩ := q; exact z.elim
      | cont => obtain ⟨_, _, _, z⟩ := q; exact z.elim
      | ret v => obtain ⟨_, _, _, _, _, z⟩ := q; exact z.elim
    | false =>
      show wpAny _ X.A (handleBy (.ref e) X.env []) _ _ _
      refine wpAny_handleBy_nil ?_
      obtain ⟨_, _, _, o5, v5, T5, _, _, at5, _, d5, tr5, _⟩ := id fly
      unfold PySem.passOn
      refine wpAny_bind (wpAny_field at5 d5 tr5 ?_)
      rw [if_neg (show ¬ ((Value.ref T5 == Value.none) = true) from by simp)]
      have on : wpAny (model X.prog X.w) X.A (setFlight (.ref e) X.env.frame) (fun _ s4 => wpAny (model X.prog X.w) X.A (throw (.ref e) : Sem Flow) (SP X pins D) X.xe s4) X.xe { s1 with heap := h3 } := by
        rw [hf]
        refine HandSPX.setFlight_upZ fly fun h4 up' u4 => wpAny_throw (tk _ _ ?_)
        exact ⟨e, G, st, pins, ρ, Hx, kl, dd, rfl, J, inG, (upG.trans up3).trans u4, .inr (.inr (by rw [hs]; exact up')), fresh, osE, bareE, no rfl⟩
      first
        | exact wpAny_bind on
        | exact wpAny_bind (wpAny_pure (wpAny_bind on))
end
end DX

/-! EX4: isinstance of a held error, its field. -/
namespace DX
open PySem PySem.Spec PyProof.Rows L2
section
variable {X : Cx}
/-- a held error as the walk sees it -/
theorem held_inst {pins : List (Addr × Obj)} {σ : L2.St} {H : Hp} {s : Shared} {a D : Addr} {d : Option Addr} (I : Inv X pins σ H s) (e : H a = some (held a (.ref D) d)) (hd : d = none ∨ ∃ dd fs, d = some dd ∧ H dd = some (.xd fs)) :
    ∃ (o : Obj) (od : Option Obj), PySem.W.InstAt s.heap a o D od := by
  obtain ⟨o, vs, e1, c1, d1, f1⟩ := held_at I.hok e
  have nc : PySem.W.notCls o = true := by unfold PySem.W.notCls; rw [f1] <;> rfl
  rcases hd with rfl | ⟨dd, fs, rfl, ed⟩
  · exact ⟨o, none, e1, c1, nc, by rw [d1]; trivial⟩
  · have hx : ObjOk X.prog X.w H s.heap dd (.xd fs) := I.hok dd _ ed
    obtain ⟨mA, hns, _⟩ := hx
    obtain ⟨od, ho, _⟩ := lookIn_ns hns
    exact ⟨o, some od, e1, c1, nc, by rw [d1]; exact ho⟩
/-- isinstance(x, c), x a held error -/
def rIsH (K : PySem.W.Frag) : List V → Hp → VK → Prop := fun xs H Q => ∃ (a D : Addr) (d : Option Addr) (c : V) (cv : Value) (b : Bool), xs = [.ref a, c] ∧ H a = some (held a (.ref D) d) ∧ (d = none ∨ ∃ dd fs, d = some dd ∧ H dd = some (.xd fs)) ∧
  ExcC K D ∧ (∀ u, RelV c u → u = cv) ∧ PySem.W.kitOne K (.ref D) cv = some b ∧ Q (.bl b) H
theorem call_isH : CallR X (.builtin "isinstance") (rIsH X.K) := by
  intro pins s σ H xs us Q I r ⟨a, D, d, c, cv, b, hxs, e, hd, T, hcv, k, q⟩
  subst hxs
  cases r with
  | cons rx rr =>
    cases rr with
    | cons rt rr =>
      cases rr
      cases rx
      have ec := hcv _ rt
      subst ec
      obtain ⟨o, od, J⟩ := held_inst I e hd
      obtain ⟨cd, hc, _⟩ := PySem.W.any_some T.hd
      exact PySem.W.kia_one (PySem.W.kitx_exc (by rw [hc]; rfl) T.hg T.hk T.hs T.ha T.hn T.ht T.hm) I.kIn J k (fun z => nomatch z) fun tk => ⟨.bl b, H, I.kept (t' := tk) fun _ _ z => z, rfl, q⟩
/-- either way of a call -/
theorem call_or {f : Value} {R1 R2 : List V → Hp → VK → Prop} (h1 : CallR X f R1) (h2 : CallR X f R2) : CallR X f (fun xs H Q => R1 xs H Q ∨ R2 xs H Q) := by
  intro pins s σ H xs us Q I r h
  rcases h with h | h
  · exact h1 pins s σ H xs us Q I r h
  · exact h2 pins s σ H xs us Q I r h
/-- x.n, x a held error -/
def tHd (K : PySem.W.Frag) (n : Str) (te : TE) : TE := fun σ H Q => te σ H fun x H1 => ∃ (a C dd : Addr) (fs : List (Str × V)) (v : V), x = .ref a ∧ H1 a = some (held a (.ref C) (some dd)) ∧ XfC K C ∧ PySem.W.findIn K (.ref C) n = some none ∧ H1 dd = some (.xd fs) ∧ fs.lookup n = some v ∧ Q v H1
theorem pe_hd {e : Expr} {te : TE} {pos : Pos} {n : Str} (he : PE X e te) (hb : attributeBase e n X.env (eval e X.env) = eval e X.env := by rfl) : PE X (.Attribute e n pos) (tHd X.K n te) := by
  refine ⟨fun pins s σ H Q I h => ?_⟩
  refine attr_of hb (thn (he.run pins s σ H _ I h) fun u s1 hh => ?_)
  obtain ⟨x, H1, I1, rx, a, C, dd, fs, v, rfl, ea, T, hno, ed, l, q⟩ := hh
  obtain rfl : u = Value.ref a := rx
  obtain ⟨o, vs, e1, c1, d1, f1⟩ := held_at I1.hok ea
  have hx : ObjOk X.prog X.w H1 s1.heap dd (.xd fs) := I1.hok dd _ ed
  obtain ⟨mA, hns, hr⟩ := hx
  obtain ⟨od, ho, hl⟩ := lookIn_ns hns
  obtain ⟨u, hu, ru⟩ := RelO.some_of (v := v) (o := mA n) (by rw [← l]; exact hr n)
  have J : PySem.W.InstAt s1.heap a o C (some od) := ⟨e1, c1, by unfold PySem.W.notCls; rw [f1] <;> rfl, by rw [d1]; exact ho⟩
  exact HandSPX.exc_get I1.kIn J T.ga T.gg T.exC (PySem.W.findObj_own T.hdC hno rfl (by rw [hl, hu])) (handed_of ru) ⟨v, H1, I1.tok _, ru, q⟩
end
end DX

/-! BR: repr of data with long numbers (below 3300 bits). -/
namespace BR
open PySem PySem.Builtin
/-- the interpreter's limit of digits is its own -/
def Lim (h : Heap) : Prop := ∃ K : PySem.W.Frag, K.In h ∧ PySem.W.nsIn K cStatics "sys.int_max_str_digits" = some none
theorem Lim.keeps {h h' : Heap} (x : Lim h) (k : ∀ b o, h.get? b = some o → h'.get? b = some o) : Lim h' := by
  obtain ⟨K, a, b⟩ := x
  exact ⟨K, a.keeps k, b⟩
section
variable {M : Model} {prog : Program} {w : World} {A : Around} {E : Value → Shared → Prop} {s : Shared}
theorem over_none {a : Int} {Q : Option Nat → Shared → Prop} (L : Lim s.heap) (ha : a.natAbs.log2 < 3300) (h : Q none s) : wpAny M A (overDigitLimit? a) Q E s := by
  unfold overDigitLimit?
  by_cases h1 : a.natAbs.log2 < 1920
  · rw [if_pos h1]; exact wpAny_pure h
  · rw [if_neg h1]
    obtain ⟨K, hk, hm⟩ := L
    refine wpAny_bind ?_
    unfold intMaxStrDigits
    refine wpAny_bind ((PySem.W.looks_nsIn hk hm) _ _ _ _ (fun _ _ z => z) ?_)
    refine wpAny_pure ?_
    have c1 : ¬ (a.natAbs.log2 / 30 + 1 > 1000) := by omega
    have c2 : ((4300 : Nat) == 0 || decide (a.natAbs.log2 < 3 * 4300)) = true := by
      simp only [Bool.or_eq_true, decide_eq_true_eq]
      right; omega
    simp only [c1, if_false]
    rw [if_pos c2]
    exact wpAny_pure h
theorem fits {a : Int} (h : a.natAbs.log2 < 3300) : (Str.ofString (toString a)).length ≤ sizeLine := by
  have e := int_text_length_le (k := 3300) (by decide) h
  rw [ofString_length, sizeLine_eq]
  omega
theorem call_int {a : Int} {t : Tok} {Q : Value → Shared → Prop} (L : Lim s.heap) (ha : a.natAbs.log2 < 3300) (h : Q (.str (toString a) s.toks) { s with toks := s.toks + 1 }) :
    wpAny (model prog w) A (call (.builtin "int.__repr__") [.int a t]) Q E s := by
  refine wpAny_call (codeAny_call_builtin F.slot_int_repr.plain F.entry_int_repr (F.slot_int_repr.check _ _ _ _ _ _ _ _ (typeIs_int s a t) (F.args_int_repr_1 _) ?_))
  unfold «int.__repr__»
  show wpAny _ _ (overDigitLimit? a >>= _) _ _ _
  refine wpAny_bind (over_none L ha ?_)
  unfold retStr
  refine wpAny_bind (wpAny_mkStr ?_ (fits ha))
  exact wpAny_pure h
theorem obj_int {a : Int} {t : Tok} {Q : Value → Shared → Prop} (hu : A.units < cLine) (L : Lim s.heap) (ha : a.natAbs.log2 < 3300) (h : Q (.str (toString a) s.toks) { s with toks := s.toks + 1 }) : wpAny (model prog w) A (pyReprObj (.int a t)) Q E s :=
  wpAny_pyReprObj_slot hu (typeIs_int s a t) F.slot_int_repr.toG (call_int L ha ⟨_, _, rfl, h⟩)
end
mutual
/-- what is shown: no dict, no number of 3300 bits -/
def shB : PyData → Bool
  | .none | .bool _ | .str _ => true
  | .int i => decide (i.natAbs.log2 < 3300)
  | .list l => shBs l
  | .tuple l => shBs l
  | .dict _ => false
def shBs : List PyData → Bool
  | [] => true
  | x :: r => shB x && shBs r
end
section
variable {prog : Program} {w : World} {h₀ : Heap}
theorem under_int {a : Int} {t : Tok} (L : Lim h₀) (ha : a.natAbs.log2 < 3300) (as : List Addr) (n : Nat) : ReprK prog w as h₀ n (.int a t) (toString a) := fun base hz A g E s Q hg hc hu hk hQ => by
  rw [pyReprUnder_leaf (v := .int a t) (by omega) (fun _ e => nomatch e)]
  unfold pyRepr
  exact wpAny_bind (obj_int (by omega) (L.keeps hk) ha (wpAny_pure (hQ s.heap _ fun _ _ e => e)))
mutual
theorem one_of : ∀ {v : Value} {d : PyData} {as : List Addr}, Lim h₀ → Reads h₀ v d as → shB d = true → d.shown.length ≤ sizeLine → ∃ bs, ReadAtMost h₀ d.depth bs ∧ ReprK prog w bs h₀ d.depth v d.shown
  | _, _, _, L, .none, _, _ => ⟨[], (fun _ z => nomatch z), by rw [PyData.shown]; exact .of_is ReprIs.none _ _ _⟩
  | _, _, _, L, .bool b, _, _ => ⟨[], (fun _ z => nomatch z), by rw [PyData.shown]; exact .of_is (ReprIs.bool b) _ _ _⟩
  | _, _, _, L, .int i t, c, _ => ⟨[], (fun _ z => nomatch z), by rw [PyData.shown]; exact under_int L (by simpa [shB] using c) _ _⟩
  | _, _, _, L, .str x t, _, z => ⟨[], (fun _ z => nomatch z), by rw [PyData.shown] at z ⊢; exact .of_is (ReprIs.str x t z) _ _ _⟩
  | _, _, _, L, .list (a := a) (vs := vs) (xs := xs) e1 e2 e3 e4, c, z => by
    rw [PyData.shown] at z
    obtain ⟨bs, b1, k1⟩ := all_of L e4 (by simpa [shB] using c) fun t m => Nat.le_trans (listText_mem_le m) z
    have me : Reads h₀ (.ref a) (.list xs) _ := .list e1 e2 e3 e4
    have out : a ∉ bs := not_mem_of_deeper me (by rw [PyData.depth]; omega) b1
    refine ⟨a :: bs, ReadAtMost.cons me (by rw [PyData.depth]; omega) b1, ?_⟩
    rw [PyData.depth, PyData.shown]
    obtain ⟨l⟩ := vs
    cases l with
    | nil =>
      have e4' : ReadsAll h₀ [] xs _ := e4
      cases e4'
      rw [PyData.shownAll, listText_nil]
      exact ReprK.listEmpty e1 e2 e3
    | cons x l => exact ReprK.list e1 e2 e3 out (by simpa using k1.length_eq) fun i y m => k1.item i y (by simpa using m)
  | _, _, _, L, .tuple (a := a) (xs := xs) e1 e2 e3 e4, c, z => by
    rw [PyData.shown] at z
    obtain ⟨bs, b1, k1⟩ := all_of L e4 (by simpa [shB] using c) fun t m => Nat.le_trans (tupleText_mem_le m) z
    have me : Reads h₀ (.ref a) (.tuple xs) _ := .tuple e1 e2 e3 e4
    have out : a ∉ bs := not_mem_of_deeper me (by rw [PyData.depth]; omega) b1
    refine ⟨a :: bs, ReadAtMost.cons me (by rw [PyData.depth]; omega) b1, ?_⟩
    rw [PyData.depth, PyData.shown]
    exact ReprK.tuple e1 e2 e3 out k1
  | _, _, _, L, .dict _ _ _ _ _, c, _ => by simp [shB] at c
theorem all_of : ∀ {vs : List Value} {ds : List PyData} {as : List Addr}, Lim h₀ → ReadsAll h₀ vs ds as → shBs ds = true → (∀ t ∈ PyData.shownAll ds, t.length ≤ sizeLine) →
    ∃ bs, ReadAtMost h₀ (PyData.depthAll ds) bs ∧ ReprAllK prog w bs h₀ (PyData.depthAll ds) vs (PyData.shownAll ds)
  | _, _, _, L, .nil, _, _ => ⟨[], (fun _ z => nomatch z), by rw [PyData.shownAll]; exact .nil⟩
  | _, _, _, L, .cons (d := d) (ds := ds) r rs, c, z => by
    have c' : shB d = true ∧ shBs ds = true := by simpa [shBs] using c
    rw [PyData.shownAll] at z ⊢
    obtain ⟨x1, p1, k1⟩ := one_of L r c'.1 (z _ List.mem_cons_self)
    obtain ⟨x2, p2, k2⟩ := all_of L rs c'.2 fun t m => z t (.tail _ m)
    rw [PyData.depthAll]
    exact ⟨x1 ++ x2, (p1.mono (Nat.le_max_left _ _)).append (p2.mono (Nat.le_max_right _ _)), .cons ((k1.more fun b m => List.mem_append_left _ m).level_le (Nat.le_max_left _ _)) (k2.more_le (fun b m => List.mem_append_right _ m) (Nat.le_max_right _ _))⟩
end
variable {A : Around} {E : Value → Shared → Prop} {s : Shared} {Q : Value → Shared → Prop}
/-- repr(x), x a list or a tuple -/
theorem repr_ref {a : Addr} {d : PyData} {as : List Addr} (L : Lim s.heap) (r : Reads s.heap (.ref a) d as) (c : shB d = true) (hg : A.guards = some []) (hu : A.units + (d.depth + 1) < cLine)
    (hQ : ∀ h' u tk, (∀ b o, s.heap.get? b = some o → h'.get? b = some o) → Q (.str d.shown u) { s with heap := h', toks := tk }) (z : d.shown.length ≤ sizeLine) : wpAny (model prog w) A (call (.builtin "repr") [.ref a]) Q E s := by
  cases r with
  | list e1 e2 e3 e4 =>
    rename_i o vs n xs as0
    rw [PyData.shown] at z
    obtain ⟨bs, b1, k1⟩ := all_of (prog := prog) (w := w) L e4 (by simpa [shB] using c) fun t m => Nat.le_trans (listText_mem_le m) z
    have out : a ∉ bs := not_mem_of_deeper (.list e1 e2 e3 e4) (by rw [PyData.depth]; omega) b1
    rw [PyData.depth] at hu
    rw [PyData.shown] at hQ
    refine call_repr_slot (by omega) ⟨o, e1, e2⟩ F.slot_list_repr.toG ?_
    obtain ⟨l⟩ := vs
    cases l with
    | nil =>
      have e4' : ReadsAll s.heap [] xs _ := e4
      cases e4'
      rw [PyData.shownAll, listText_nil] at hQ
      exact call_list_repr_empty ⟨o, e1, e2⟩ e1 e3 ⟨_, _, rfl, hQ s.heap _ _ fun _ _ e => e⟩
    | cons x l => exact call_list_reprK e1 e2 e3 out (by simpa using k1.length_eq) (fun i y m => k1.item i y (by simpa using m)) hg (fun b _ => Clear.nil b) (by show A.units + 1 + _ < cLine; omega) (fun _ _ e => e) (fun h' u tk k => ⟨_, _, rfl, hQ h' u tk k⟩) z
  | tuple e1 e2 e3 e4 =>
    rename_i o vs n xs
    rw [PyData.shown] at z
    obtain ⟨bs, b1, k1⟩ := all_of (prog := prog) (w := w) L e4 (by simpa [shB] using c) fun t m => Nat.le_trans (tupleText_mem_le m) z
    have out : a ∉ bs := not_mem_of_deeper (.tuple e1 e2 e3 e4) (by rw [PyData.depth]; omega) b1
    rw [PyData.depth] at hu
    rw [PyData.shown] at hQ
    refine call_repr_slot (by omega) ⟨o, e1, e2⟩ F.slot_tuple_repr ?_
    exact call_tuple_reprK e1 e2 e3 out k1 hg (fun b _ => Clear.nil b) (by show A.units + 1 + _ < cLine; omega) (fun _ _ e => e) (fun h' u tk k => ⟨_, _, rfl, hQ h' u tk k⟩) z
  | dict _ _ _ _ _ => simp [shB] at c
end
end BR

/-! TR: t[::-1] of a tuple of five. -/
namespace TR
open PySem PySem.Spec PyProof.Rows L2 HT
section
variable {prog : Program} {w : World} {A : Around} {E : Value → Shared → Prop} {s : Shared}
theorem applied_back {sl : Addr} {vl vu vs : Value} {Q : Int × Int × Nat → Shared → Prop} (hs : s.heap.IsSliceOf sl vl vu vs) (pl : IsPart vl none) (pu : IsPart vu none) (ps : IsPart vs (some (-1))) (h : Q (4, -1, 5) s) :
    wpAny (model prog w) A (Builtin.Slice.sliceApplied (.ref sl) (pure (5 : Int))) Q E s := by
  obtain ⟨os, at0, _, fl⟩ := id hs
  unfold Builtin.Slice.sliceApplied Builtin.Slice.sliceFields
  refine wpAny_bind (wpAny_bind (wpAny_field at0 fl (x := vl) rfl (wpAny_bind (wpAny_field at0 fl (x := vu) rfl (wpAny_bind (wpAny_field at0 fl (x := vs) rfl (wpAny_pure ?_)))))))
  refine wpAny_bind (slicePart_ ps ?_)
  show wpAny _ _ (if (((some (-1) : Option Int).getD 1) == 0) = true then _ else _) _ _ s
  rw [if_neg (by decide)]
  refine wpAny_bind (slicePart_ pl (wpAny_bind (slicePart_ pu (wpAny_bind (wpAny_pure ?_)))))
  show wpAny _ _ (match Builtin.Slice.sliceAdjust none none (-1) (5 : Int) with | (lo, hi) => pure (lo, (-1 : Int), Builtin.Slice.slicePlaces lo hi (-1))) _ _ s
  have e : Builtin.Slice.sliceAdjust none none (-1) (5 : Int) = (4, -1) := by decide
  rw [e]
  have e2 : Builtin.Slice.slicePlaces 4 (-1) (-1) = 5 := by decide
  show wpAny _ _ (pure ((4 : Int), (-1 : Int), Builtin.Slice.slicePlaces 4 (-1) (-1))) _ _ s
  rw [e2]
  exact wpAny_pure h
theorem item_back {t sl : Addr} {a b c d e : Value} {vl vu vs : Value} {Q : Value → Shared → Prop} (ht : IsTup s.heap t #[a, b, c, d, e]) (hs : s.heap.IsSliceOf sl vl vu vs) (pl : IsPart vl none) (pu : IsPart vu none) (ps : IsPart vs (some (-1)))
    (h : Q (.ref s.heap.objs.size) { s with heap := s.heap.push { cls := .type "tuple", data := .seq #[e, d, c, b, a] } }) : wpAny (model prog w) A (getItem (.ref t) (.ref sl)) Q E s := by
  obtain ⟨os, at0, cs, _⟩ := id hs
  have hTs : s.TypeIs (.ref sl) "slice" := ⟨os, at0, cs⟩
  unfold getItem
  try with_reducible refine wpAny_holding ?_
  first | refine wpAny_bind (wpAny_pure ?_) | skip
  refine wpAny_bind (wpAny_sequenceKey ht.typeIs (by decide) ?_)
  refine wpAny_bind (wpAny_callSpecial?_slot (name := Str.ofString "__getitem__") ht.typeIs PyProof.Rows.slot_tuple_getitem (wpAny_call_entry PyProof.Rows.slot_tuple_getitem ht.typeIs entry_tuple_getitem ?_ (args_tuple_getitem _ _)))
  show wpAny _ _ (Builtin.Tuple.tupleItemsOf (.ref t) >>= _) _ _ s
  refine wpAny_bind (tupleItemsOf_ ht (wpAny_bind (wpAny_typeOf hTs ?_)))
  rw [if_pos (by decide)]
  refine wpAny_bind (applied_back hs pl pu ps ?_)
  show wpAny _ _ (if ((4 : Int) == 0 && (-1 : Int) == 1 && 5 == 5) = true then _ else _) _ _ s
  rw [if_neg (by decide)]
  have pick : ((List.range 5).filterMap fun (k : Nat) => (#[a, b, c, d, e] : Array Value)[((4 : Int) + (k : Int) * (-1)).toNat]?).toArray = #[e, d, c, b, a] := by rfl
  show wpAny _ _ (Builtin.Tuple.tupleExact ((List.range 5).filterMap fun (k : Nat) => (#[a, b, c, d, e] : Array Value)[((4 : Int) + (k : Int) * (-1)).toNat]?).toArray >>= _) _ _ s
  rw [pick]
  have small : sizeOk (.seq #[e, d, c, b, a]) := by
    show (5 : Nat) ≤ sizeLine
    rw [sizeLine_eq]; decide
  first
    | exact wpAny_bind (m := Builtin.Tuple.tupleExact _) (wpAny_newObj_type (wpAny_pure ⟨_, rfl, wpAny_pure h⟩) small)
    | exact wpAny_bind (m := Builtin.Tuple.tupleExact _) (wpAny_newObj_type (wpAny_bind (wpAny_pure (wpAny_pure ⟨_, rfl, wpAny_pure h⟩))) small)
end
section
variable {X : Cx}
def tBack (K : PySem.W.Frag) (te : TE) : TE := fun σ H Q => te σ H fun x H1 => ∃ t a b c d e, x = .ref t ∧ SqT K H1 t [a, b, c, d, e] ∧ ∀ p, H1 p = none → Q (.ref p) (upd H1 p (.tup [e, d, c, b, a]))
theorem pe_back {e : Expr} {te : TE} {k : Nat} {p1 p2 p3 pos : Pos} (he : PE X e te) : PE X (.Subscript e (.Slice none none (some (.UnaryOp .USub (.Constant (.int 1) k p1) p2)) p3) pos) (tBack X.K te) := by
  refine ⟨fun pins s σ H Q I h => ?_⟩
  refine Subscript_ (thn (he.run pins s σ H _ I h) fun v s1 ⟨x, H1, I1, r1, t, a, b, c, d, f, ex, hx, q⟩ => ?_)
  subst ex
  cases r1
  have minus : PO X (some (.UnaryOp .USub (.Constant (.int 1) k p1) p2)) (tPart (tUn (rU fun i => .int (-i)) (tC (.int 1)))) := po_some (pe_un un_neg pe_int)
  refine wpAny_Slice (thn (po_none.run pins s1 σ H1 (fun o H2 => o = none ∧ H2 = H1) I1 ⟨rfl, rfl⟩) fun vl s2 ⟨l, H2, I2, pl, el, e2⟩ => ?_)
  subst el e2
  refine thn (po_none.run pins s2 σ H2 (fun o H3 => o = none ∧ H3 = H2) I2 ⟨rfl, rfl⟩) fun vu s3 ⟨u, H3, I3, pu, eu, e3⟩ => ?_
  subst eu e3
  refine thn (minus.run pins s3 σ H3 (fun o H4 => o = some (-1) ∧ H4 = H3) I3 ⟨1, rfl, -1, rfl, rfl, rfl⟩) fun vs s4 ⟨o, H4, I4, ps, eo, e4⟩ => ?_
  subst eo e4
  have I5 : Inv X pins σ H4 { s4 with heap := s4.heap.push { cls := .type "slice", data := .fields #[vl, vu, vs] } } := I4.kept (t' := s4.toks) fun b ob q => Heap.get?_push_of_some _ q
  obtain ⟨its, r, ht, hz⟩ := I5.tuple hx
  show wpAny (model X.prog X.w) X.A (subscriptTail e (.Slice none none (some (.UnaryOp .USub (.Constant (.int 1) k p1) p2)) p3) (.ref t) (.ref s4.heap.objs.size)) (EP X pins σ Q) X.xe { s4 with heap := s4.heap.push { cls := .type "slice", data := .fields #[vl, vu, vs] } }
  refine tail_any (ops := [.ref t, .ref s4.heap.objs.size]) ht.typeIs (PyProof.Rows.slot_tuple_getitem.lookup) ?_ (by with_unfolding_all rfl)
  cases r with
  | cons ra r => cases r with
    | cons rb r => cases r with
      | cons rc r => cases r with
        | cons rd r => cases r with
          | cons rf r =>
            cases r
            refine item_back ht (Heap.IsSliceOf.new _ vl vu vs) pl pu ps ?_
            refine ⟨.ref _, _, I5.laid (t' := s4.toks) (o := .tup [f, d, c, b, a]) (fun b ob q => Heap.get?_push_of_some _ q) (Nat.le_refl _) ?_, rfl, q _ (I5.hok.fresh (Nat.le_refl _))⟩
            exact ⟨by show (5 : Nat) ≤ sizeLine; rw [sizeLine_eq]; decide, _, .cons rf (.cons rd (.cons rc (.cons rb (.cons ra .nil)))), IsTup.new _ _⟩
end
end TR

/-! DS10: more of data: list(t), tuple(l), t[lo:hi], t[::-1], t + u, l[k] = x, wide products, a sign in a text, repr of all data, raise. -/
namespace DS
open PySem L2
section
variable {X : Cx} {C : Cn} {K : Fg} {cl : Cl}
/-- x as a list of data: settled, or one's own -/
theorem q_tup {A H B : Hp} {v : V} {ds : List D} (h : QR K cl A B v (.tuple ds)) (sb : Same B H) : ∃ a xs, v = .ref a ∧ SqT K H a xs ∧ DRs K cl B xs ds := by
  cases h with
  | set h =>
    cases h with
    | tup h r => exact ⟨_, _, rfl, sqt_same sb h, r⟩
/-- list(x), x a tuple or a list -/
def mLof (a : M) : ML := fun ρ n P R => a ρ n (fun d n1 => ∃ ds, (d = .list ds ∨ d = .tuple ds) ∧ P ds n1) R
theorem le_listOf {x : Str} {e : Expr} {a : M} {p pos : Pos} (hg : Gl X x) (hm : X.mg x = none) (hv : bootBuiltins x = some (.type "list")) (ha : QE X C e a)
    (hn : x ≠ "__name__" := by decide) (hdb : (x == ("__debug__" : Str)) = false := by decide) (he : starEach (e :: []) X.env = (false, eval e X.env) :: starEach [] X.env := by rfl) (hK : X.K = C.K := by rfl) : LE X C (.Call (.Name x p) [e] [] pos) (mLof a) :=
  pe_weak (pe_callTy call_list_of hg hm hv (pa_cons ha pa_nil he) hn hdb he) fun σ H Q ⟨B, ρ, n, P, R, F, w, ox, k⟩ => by
    refine ⟨B, ρ, n, _, R, F, w, ox, fun d n1 ⟨ds, hd, p⟩ v B1 H1 s1 k1 rv => ?_⟩
    have fin : ∀ (q : Addr) (xs : List V), v = .ref q → (SqL X.K H1 q xs ∨ SqT X.K H1 q xs) → DRs C.K C.cl B1 xs ds → (∃ p ys, [v] = [V.ref p] ∧ (SqL X.K H1 p ys ∨ SqT X.K H1 p ys) ∧ ∀ l, H1 l = none → Q (.ref l) (upd H1 l (.lst ys))) := fun q xs e h r =>
      ⟨q, xs, by rw [e], h, fun l hl => k ds n1 p l xs B1 _ (fresh_of s1 hl k1) (s1.lay hl) (none_of s1 hl) (src_lay k1 hl) upd_same r⟩
    rcases hd with rfl | rfl
    · obtain ⟨q, xs, e, h, r⟩ := q_list rv hid_sub s1.sub
      exact fin q xs e (.inl (SqL.of h)) r
    · obtain ⟨q, xs, e, h, r⟩ := q_tup rv s1.sub
      exact fin q xs e (.inr (by rw [hK]; exact h)) r
/-- tuple(x), x a list -/
def mTof (a : M) : M := fun ρ n P R => a ρ n (fun d n1 => ∃ ds, d = .list ds ∧ P (.tuple ds) n1) R
theorem de_tupleOf {x : Str} {e : Expr} {a : M} {p pos : Pos} (hg : Gl X x) (hm : X.mg x = none) (hv : bootBuiltins x = some (.type "tuple")) (ha : QE X C e a)
    (hn : x ≠ "__name__" := by decide) (hdb : (x == ("__debug__" : Str)) = false := by decide) (he : starEach (e :: []) X.env = (false, eval e X.env) :: starEach [] X.env := by rfl) : DE X C (.Call (.Name x p) [e] [] pos) (mTof a) :=
  pe_weak (pe_callTy call_tuple_of hg hm hv (pa_cons ha pa_nil he) hn hdb he) fun σ H Q ⟨B, ρ, n, P, R, F, w, ox, k⟩ => by
    refine ⟨B, ρ, n, _, R, F, w, ox, fun d n1 ⟨ds, hd, p⟩ v B1 H1 s1 k1 rv => ?_⟩
    subst hd
    obtain ⟨q, xs, e, h, r⟩ := q_list rv hid_sub s1.sub
    exact ⟨q, xs, by rw [e], .inl ⟨SqL.of h, fun l hl => k _ n1 p (.ref l) (upd B1 l (.tup xs)) _ (s1.put hl k1) (src_lay k1 hl) (.tup (SqT.of upd_same) (r.mono (same_upd (none_of s1 hl))))⟩⟩
/-- t[lo:hi], not the whole -/
def mSlT (a : M) (l h : MO) : M := fun ρ n P R => a ρ n (fun d n1 => l ρ n1 (fun lo n2 => h ρ n2 (fun hi n3 => ∃ ds, d = .tuple ds ∧ ¬ (HT.sIx ds.length 0 lo = 0 ∧ HT.sIx ds.length ds.length hi = ds.length) ∧ P (.tuple (cutA ds lo hi)) n3) R) R) R
theorem de_sliceT {e : Expr} {lo hi : Option Expr} {a : M} {l h : MO} {p2 pos : Pos} (hK : X.K = C.K) (ha : QE X C e a) (hl : DP X C lo l) (hh : DP X C hi h) : DE X C (.Subscript e (.Slice lo hi none p2) pos) (mSlT a l h) := pe_weak (pe_slice sl_tup ha hl hh) fun σ H Q ⟨B, ρ, n, P, R, F, w, ox, k⟩ => by
  rw [hK]
  refine ⟨B, ρ, n, _, R, F, w, ox, fun d n1 w1 v B1 H1 s1 k1 rv => ⟨B1, ρ, n1, _, R, F.step s1 k1, w1, ox.step s1, fun o n2 w2 B2 H2 s2 k2 => ⟨B2, ρ, n2, _, R, (F.step s1 k1).step s2 k2, w2, (ox.step s1).step s2, fun o2 n3 ⟨ds, ed, nw, p⟩ B3 H3 s3 k3 => ?_⟩⟩⟩
  subst ed
  have r3 := (rv.mono s2.ext.hid s2.old).mono s3.ext.hid s3.old
  have st := (s1.trans s2).trans s3
  obtain ⟨q, xs, e, ht, r⟩ := q_tup r3 s3.sub
  exact ⟨q, xs, e, ht, by rw [r.length]; exact nw, fun y hy => k _ n3 p (.ref y) (upd B3 y (.tup (cutV xs o o2))) _ (st.put hy k3) (src_lay k3 hy) (.tup (SqT.of upd_same) ((r.cut o o2).mono (same_upd (none_of st hy))))⟩
/-- t[::-1], five items -/
def mBack (a : M) : M := fun ρ n P R => a ρ n (fun d n1 => ∃ x1 x2 x3 x4 x5, d = .tuple [x1, x2, x3, x4, x5] ∧ P (.tuple [x5, x4, x3, x2, x1]) n1) R
theorem de_back {e : Expr} {a : M} {k : Nat} {p1 p2 p3 pos : Pos} (hK : X.K = C.K) (ha : QE X C e a) : DE X C (.Subscript e (.Slice none none (some (.UnaryOp .USub (.Constant (.int 1) k p1) p2)) p3) pos) (mBack a) := pe_weak (TR.pe_back ha) fun σ H Q ⟨B, ρ, n, P, R, F, w, ox, k⟩ => by
  rw [hK]
  refine ⟨B, ρ, n, _, R, F, w, ox, fun d n1 ⟨x1, x2, x3, x4, x5, ed, p⟩ v B1 H1 s1 k1 rv => ?_⟩
  subst ed
  obtain ⟨q, xs, e, ht, r⟩ := q_tup rv s1.sub
  cases r with
  | cons r1 r => cases r with
    | cons r2 r => cases r with
      | cons r3 r => cases r with
        | cons r4 r => cases r with
          | cons r5 r =>
            cases r
            refine ⟨q, _, _, _, _, _, e, ht, fun y hy => k _ n1 p (.ref y) (upd B1 y (.tup _)) _ (s1.put hy k1) (src_lay k1 hy) (.tup (SqT.of upd_same) ?_)⟩
            exact (DRs.cons r5 (.cons r4 (.cons r3 (.cons r2 (.cons r1 .nil))))).mono (same_upd (none_of s1 hy))
/-- t + u, neither empty -/
def mCatT (a b : M) : M := fun ρ n P R => a ρ n (fun x n1 => b ρ n1 (fun y n2 => ∃ ds es, x = .tuple ds ∧ y = .tuple es ∧ ds ≠ [] ∧ es ≠ [] ∧ ds.length + es.length ≤ sizeLine ∧ P (.tuple (ds ++ es)) n2) R) R
theorem de_catT {x y : Expr} {a b : M} {pos : Pos} (hK : X.K = C.K) (ha : QE X C x a) (hb : QE X C y b) : DE X C (.BinOp x .Add y pos) (mCatT a b) := pe_weak (pe_op op_catA ha hb) fun σ H Q ⟨B, ρ, n, P, R, F, w, ox, k⟩ => by
  rw [hK]
  refine ⟨B, ρ, n, _, R, F, w, ox, fun dx n1 hb x B1 H1 s1 k1 rx => ⟨B1, ρ, n1, _, R, F.step s1 k1, hb, ox.step s1, fun dy n2 hz y B2 H2 s2 k2 ry => ?_⟩⟩
  obtain ⟨ds, es, rfl, rfl, e1, e2, hl, p⟩ := hz
  obtain ⟨a1, xs, ea, h1, r1⟩ := q_tup (rx.mono s2.ext.hid s2.old) s2.sub
  obtain ⟨a2, ys, eb, h2, r2⟩ := q_tup ry s2.sub
  have n1' : xs ≠ [] := fun z => by rw [z] at r1; cases r1; exact e1 rfl
  have n2' : ys ≠ [] := fun z => by rw [z] at r2; cases r2; exact e2 rfl
  refine ⟨a1, a2, xs, ys, ea, eb, h1, h2, by rw [r1.length, r2.length]; exact hl, fun z => absurd z n1', fun _ z => absurd z n2', fun _ _ q hq => ?_⟩
  have st := s1.trans s2
  exact k _ n2 p (.ref q) (upd B2 q (.tup (xs ++ ys))) _ (st.put hq k2) (src_lay k2 hq) (.tup (SqT.of upd_same) ((r1.append r2).mono (same_upd (none_of st hq))))
/-- l[k] = x, l one's own -/
def mSetI (i : Nat) (te ti : M) : MS := fun De ρ n => ∃ ds, ρ[i]? = some (.own ds) ∧ te ρ n (fun d n1 => ti ρ n1 (fun k n2 => ∃ (j : Int) (m : Nat), k = .int j ∧ ixN ds.length j = some m ∧ De.nx (ρ.set i (.own (ds.set m d))) n2) De.ex) De.ex
theorem ds_setI {i : Nat} {x : Str} {e k : Expr} {te ti : M} {p1 p2 pos : Pos} (h : DE X C e te) (hk : DE X C k ti) (hN : X.N[i]? = some x := by rfl) (hv : Vis X.env.scope x := by first | exact Or.inl rfl | exact Or.inr (Or.inl rfl) | exact Or.inr (Or.inr rfl)) (hd : (x == ("__debug__" : Str)) = false := by decide)
    (hcd : (x == ("__classdict__" : Str)) = false := by decide)
    (hst : ∀ {te : TE} {g : TG}, PE X e te → PG X (.Subscript (.Name x p1) k p2) g → PS X (.Assign [.Subscript (.Name x p1) k p2] e pos) (tAsg te g) := by exact fun h g => ps_asg h g)
    (hsub : ∀ {to ti : TE} {t : TSet}, PE X (.Name x p1) to → PE X k ti → PSet X t → PG X (.Subscript (.Name x p1) k p2) (gSub to ti t) := by exact fun a b c => pg_sub a b c) :
    DS X C (.Assign [.Subscript (.Name x p1) k p2] e pos) (mSetI i te ti) :=
  ps_weak (hst h (hsub (pe_var hN hv hd hcd) hk set_list)) fun Z σ H ⟨B, ρ, n, De, F, ⟨ds, e, w⟩, nx, rt, ex, bk, ct⟩ => by
    refine ⟨B, ρ, n, _, De.ex, F, w, ex.lift F, fun dv n1 w2 v B1 H1 s1 k1 rv => ?_⟩
    have F1 := F.step s1 k1
    obtain ⟨p, vs, e1, e2, r⟩ := own_at F1 e
    refine ⟨_, e1, B1, ρ, n1, _, De.ex, F1, w2, (ex.lift F).step s1, fun dk n2 ⟨j, m, ek, em, q⟩ vk B2 H2 s2 k2 rk => ?_⟩
    subst ek
    cases rk
    have F2 := F1.step s2 k2
    obtain ⟨p', vs', e1', e2', r'⟩ := own_at F2 e
    rw [e1] at e1'; cases e1'
    exact ⟨p, vs', j, m, rfl, rfl, e2', by rw [r'.length]; exact em, nx _ n2 q σ B2 _ (s1.old.trans s2.old) (own_mut F2 e e1 (r'.set m (rv.mono s2.old)))⟩
abbrev fMulX := fIc (fun i j => decide ((Builtin.Int.intBits i : Int) + (Builtin.Int.intBits j : Int) ≤ 134217728)) fun i j => .int (i * j)
theorem f_mulX : OpF K cl (rI CMulX fun i j => .int (i * j)) fMulX := f_Ic (P := CMulX) (fun i j h => (of_decide_eq_true h : (Builtin.Int.intBits i : Int) + (Builtin.Int.intBits j : Int) ≤ 134217728)) fun _ _ _ => .int _
/-- a sign in a text -/
def fSign (neg : Bool) (x y : D) : Option D := match x, y with
  | .str a, .str z => match a.cps.toList with
    | [c] => some (.bool (if neg then !decide (c ∈ z.cps.toList) else decide (c ∈ z.cps.toList)))
    | _ => none
  | _, _ => none
theorem f_notSign : OpF K cl (fun x y H Q => ∃ (c : Nat) (z : Str), x = .str ⟨#[c]⟩ ∧ y = .str z ∧ Q (.bl (!decide (c ∈ z.cps.toList))) H) (fSign true) := fun A H x y dx dy z s hx hy e Q q => by
  cases hx <;> cases hy <;> first
    | (cases e; done)
    | skip
  rename_i a b
  have e' : (match a.cps.toList with | [c] => some (PyData.bool (!decide (c ∈ b.cps.toList))) | _ => none) = some z := e
  split at e'
  · rename_i c hc
    cases e'
    have ea : a = ⟨#[c]⟩ := by
      obtain ⟨⟨l⟩⟩ := a
      simp only at hc
      subst hc
      rfl
    exact ⟨c, b, by rw [ea], rfl, q _ fun _ => .bl _⟩
  · cases e'
/-! ### repr of all data -/
def fReprB (d : D) : Option D := if BR.shB d = true ∧ d.depth ≤ 64 ∧ d.plain = true ∧ d.shown.length ≤ sizeLine then some (.str d.shown) else none
def rReprB (K : Fg) : List V → Hp → VK → Prop := fun xs H Q => ∃ (v : V) (d : D), xs = [v] ∧ Dp K H v d ∧ BR.shB d = true ∧ d.depth ≤ 64 ∧ d.shown.length ≤ sizeLine ∧ Q (.str d.shown) H
theorem cr_reprB (hgd : X.A.guards = some []) (hu : X.A.units + 70 < cLine) (e2 : PySem.W.nsIn X.K cStatics "sys.int_max_str_digits" = some none) : CallR X (.builtin "repr") (rReprB X.K) := by
  intro pins s σ H xs us Q I r h
  obtain ⟨v, d, rfl, hd, h1, h2, h3, q⟩ := h
  obtain ⟨u, rfl, ru⟩ := vals1 r
  have L : BR.Lim s.heap := ⟨X.K, I.kIn, e2⟩
  cases hd with
  | non =>
    obtain rfl : u = Value.none := ru
    exact PySem.P.repr_of_none ⟨.str _, H, I.tok _, ⟨_, rfl⟩, q⟩
  | bl b =>
    obtain rfl : u = Value.bool b := ru
    exact PySem.P.repr_of_bool ⟨.str _, H, I.tok _, ⟨_, rfl⟩, q⟩
  | int i =>
    obtain ⟨t, rfl⟩ : ∃ t, u = Value.int i t := ru
    exact call_repr_slot (by omega) (typeIs_int s i t) PySem.F.slot_int_repr.toG (BR.call_int L (by simpa [BR.shB] using h1) ⟨_, _, rfl, .str _, H, I.tok _, ⟨_, rfl⟩, q⟩)
  | str x =>
    obtain ⟨t, rfl⟩ : ∃ t, u = Value.str x t := ru
    exact PySem.P.repr_of_str ⟨.str _, H, I.tok _, ⟨_, rfl⟩, q⟩ (by rw [PyData.shown] at h3; exact h3)
  | lst hs hall =>
    rename_i a vs ds
    obtain rfl : u = Value.ref a := ru
    obtain ⟨as, rd⟩ := Dp.reads I (.list ds) (.ref a) (.ref a) (.lst hs hall) (show RelV (.ref a) (.ref a) from rfl)
    exact BR.repr_ref L rd h1 hgd (by omega) (fun h' u tk k => ⟨.str _, H, I.kept k, ⟨u, rfl⟩, q⟩) h3
  | tup hs hall =>
    rename_i a vs ds
    obtain rfl : u = Value.ref a := ru
    obtain ⟨as, rd⟩ := Dp.reads I (.tuple ds) (.ref a) (.ref a) (.tup hs hall) (show RelV (.ref a) (.ref a) from rfl)
    exact BR.repr_ref L rd h1 hgd (by omega) (fun h' u tk k => ⟨.str _, H, I.kept k, ⟨u, rfl⟩, q⟩) h3
theorem f_reprB {K : Fg} {cl : Cl} : CF1 K cl (rReprB K) fReprB := fun A H x dx z s hx e Q q => by
  obtain ⟨⟨h1, h2, h3, h4⟩, rfl⟩ := ite_some' e
  exact ⟨x, dx, rfl, Dp.mono' hx s h3, h1, h2, h4, q _ fun _ => .str _⟩
/-! ### raise C(e) -/
def mRaise (c : Nat) (a : M) : MS := fun De ρ n => a ρ n (fun d n1 => De.ex ⟨c, [d]⟩ n1) De.ex
theorem ds_raise {nm fld : Str} {a : Expr} {m : M} {c : Nat} {Ad : Addr} {p pos pos2 : Pos} {k : Nat} (hc : X.calm = true) (T : DX.SxC X.K X.prog X.mg Ad nm fld) (hcl : C.cl.adr c = some Ad) (hfl : C.cl.flds c = [fld]) (hr : Room k X.A) (hk : 1 ≤ k) (tk : Takes X (fun cls d _ H => C.E cls d H)) (h : DE X C a m) (hg : Gl X nm)
    (he : starEach (a :: []) X.env = (false, eval a X.env) :: starEach [] X.env := by rfl) (hpl : (PySem.backTo pos (starEach [] X.env)).any (·.1) = false := by rfl) :
    DS X C (.Raise (some (.Call (.Name nm p) [a] [] pos)) none pos2) (mRaise c m) :=
  ps_weak (DX.ps_raiseX hc T hr hk tk (pa_cons h pa_nil he) hg he hpl) fun Z σ H ⟨B, ρ, n, De, F, w, nx, rt, ex, bk, ct⟩ =>
    ⟨B, ρ, n, _, De.ex, F, w, ex.lift F, fun d n1 p v B1 H1 s1 k1 r => ⟨v, rfl, fun q hq => ex ⟨c, [d]⟩ n1 p (.ref Ad) (some q) B1 _ ((F.entry.trans s1).lay hq) (src_lay k1 hq) ⟨Ad, hcl, rfl, .inr ⟨d, q, v, fld, rfl, rfl, hfl, upd_same, r⟩⟩⟩⟩
end
end DS

/-! DS11: sorted of data. -/
namespace SRT
open PySem PySem.Builtin PyProof.Rows PySem.W
section
variable {prog : Program} {w : World} {A : Around} {E : Value → Shared → Prop} {s : Shared}
/-- the items of a list or a tuple, gathered -/
theorem gather {T : String} (hT : T = "list" ∨ T = "tuple") {l : Addr} {o : Obj} {n : Nat} {vs : List Value} {Q : List Value → Shared → Prop} (at0 : s.heap.get? l = some o) (cl : o.cls = .type T) (da : o.data = .seq vs.toArray n) (small : vs.length ≤ sizeLine)
    (h : ∀ h', s.heap.objs.size ≤ h'.objs.size → (∀ b u, s.heap.get? b = some u → h'.get? b = some u) → Q vs { s with heap := h' }) : wpAny (model prog w) A (collect (.ref l)) Q E s := by
  unfold collect
  refine wpAny_bind (wpAny_runValue (codeAny_builtin entry_proto_collect' ?_))
  show wpAny _ _ (do again (.builtin "list.__iadd__" ⟨[← newList [], .ref l], []⟩)) _ _ s
  refine wpAny_bind (wpAny_newList (wpAny_pure ⟨Code.quiet_builtin _ (by decide +kernel), codeAny_builtin entry_list_iadd' ?_⟩))
  show wpAny _ _ (Builtin.List.listExtendWith (.ref s.heap.objs.size) (.ref l) (.ref s.heap.objs.size)) _ _ { s with heap := s.heap.push (seqObj "list" #[] 0) }
  unfold Builtin.List.listExtendWith
  have at1 : (s.heap.push (seqObj "list" #[] 0)).get? l = some o := Heap.get?_push_of_some _ at0
  refine wpAny_bind (wpAny_typeOf (T := T) ⟨o, at1, cl⟩ ?_)
  have yes : (Builtin.List.listSameRef (.ref s.heap.objs.size) (.ref l) || Value.type T == Value.type "list" || Value.type T == Value.type "tuple") = true := by
    rcases hT with rfl | rfl
    · rw [show (Value.type "list" == Value.type "list") = true from rfl]; simp
    · rw [show (Value.type "tuple" == Value.type "tuple") = true from rfl]; simp
  rw [if_pos yes]
  refine wpAny_bind (listItems_at at1 da (wpAny_bind (listItems_at (xs := #[]) (n := 0) (Heap.get?_push_size _ rfl) rfl ?_)))
  rw [if_neg (by simp)]
  refine wpAny_bind (listUpdate_at (xs := #[]) (n := 0) (Heap.get?_push_size _ rfl) rfl ?_ (Nat.zero_le _) (by show (#[] ++ vs.toArray).size ≤ sizeLine + 1; simp only [Array.size_append, List.size_toArray, List.length_nil]; omega))
  refine wpAny_pure ?_
  have old : (s.heap.push (seqObj "list" #[] 0)).get? s.heap.objs.size = some (seqObj "list" #[] 0) := Heap.get?_push_size s.heap rfl
  show wpAny (model prog w) A (do
      let o ← load s.heap.objs.size
      match o.data with
      | .seq xs _ => pure xs.toList
      | _ => unsupported "internal:collect") Q E { s with heap := (s.heap.push (seqObj "list" #[] 0)).update s.heap.objs.size (Obj.mapSeq (· ++ vs.toArray)) }
  refine wpAny_bind (wpAny_load (get?_update_seq old _) ?_)
  show wpAny _ _ (pure ((#[] : Array Value) ++ vs.toArray).toList) Q E _
  rw [show ((#[] : Array Value) ++ vs.toArray).toList = vs by simp]
  refine wpAny_pure (h _ (by rw [Heap.size_update, Heap.size_push]; omega) fun b u q => ?_)
  rw [Heap.get?_update_other _ _ (Nat.ne_of_gt (Heap.lt_size q))]
  exact Heap.get?_push_of_some _ q
mutual
theorem reads_there {h : Heap} : ∀ {v : Value} {d : PyData} {as : List Addr}, Reads h v d as → ∀ a ∈ as, ∃ o, h.get? a = some o
  | _, _, _, .none, _, z => nomatch z
  | _, _, _, .bool _, _, z => nomatch z
  | _, _, _, .int _ _, _, z => nomatch z
  | _, _, _, .str _ _, _, z => nomatch z
  | _, _, _, .list e1 _ _ r, a, z => by
    rcases List.mem_cons.mp z with rfl | z
    · exact ⟨_, e1⟩
    · exact all_there r a z
  | _, _, _, .tuple e1 _ _ r, a, z => all_there r a z
  | _, _, _, .dict e1 _ _ r r2, a, z => by
    rcases List.mem_append.mp z with z | z
    · rcases List.mem_cons.mp z with rfl | z
      · exact ⟨_, e1⟩
      · exact all_there r a z
    · exact all_there r2 a z
theorem all_there {h : Heap} : ∀ {vs : List Value} {ds : List PyData} {as : List Addr}, ReadsAll h vs ds as → ∀ a ∈ as, ∃ o, h.get? a = some o
  | _, _, _, .nil, _, z => nomatch z
  | _, _, _, .cons r rs, a, z => by
    rcases List.mem_append.mp z with z | z
    · exact reads_there r a z
    · exact all_there rs a z
end
/-- sorted(x), x a list or a tuple whose items read as data -/
theorem sorted_seq {T : String} (hT : T = "list" ∨ T = "tuple") {l : Addr} {o : Obj} {n : Nat} {vs : List Value} {ds : List PyData} {R : Value → PyData → Prop} {Q : Value → Shared → Prop} (at0 : s.heap.get? l = some o) (cl : o.cls = .type T) (da : o.data = .seq vs.toArray n) (small : vs.length ≤ sizeLine)
    (e : EachIs R vs ds) (er : EachIs (fun v b => ∃ as, Reads s.heap v b as) vs ds) (hal : AllAlike ds) (hk : Sortable ds) (hu : ∀ b ∈ ds, A.units + 3 + b.depth < cLine)
    (h : ∀ (h' : Heap) (tk : Nat) (p : Addr) (out : List Value) (k : Nat), s.heap.objs.size ≤ p → (∀ b u, s.heap.get? b = some u → h'.get? b = some u) → h'.get? p = some (seqObj "list" out.toArray k) → EachIs R out (ds.mergeSort (dataLe false id)) → Q (.ref p) { s with heap := h', toks := tk }) :
    wpAny (model prog w) A (call (.builtin "sorted") [.ref l]) Q E s := by
  refine Calls.call_function_entry kind_sorted plain_sorted entry_sorted (args_sorted1 _) ?_
  unfold Builtin.«sorted»
  refine wpAny_bind (m := checkCount "sorted" 1 1 _) (wpAny_pure ?_)
  refine wpAny_bind (gather hT at0 cl da small fun h1 le1 k1 => ?_)
  refine wpAny_bind (wpAny_newList ?_ small)
  have hL : vs.length = ds.length := e.length
  have oL : (h1.push (seqObj "list" vs.toArray 0)).get? h1.objs.size = some (seqObj "list" vs.toArray 0) := Heap.get?_push_size _ rfl
  have k2 : ∀ b u, s.heap.get? b = some u → (h1.push (seqObj "list" vs.toArray 0)).get? b = some u := fun b u q => Heap.get?_push_of_some _ (k1 b u q)
  have er2 : EachIs (fun v b => ∃ as, Reads (h1.push (seqObj "list" vs.toArray 0)) v (_root_.id b) as ∧ h1.objs.size ∉ as) vs ds := er.mono fun v b ⟨as, r⟩ => ⟨as, PyProof.Rows.Reads.keeps k2 r, fun z => by
    obtain ⟨o, q⟩ := reads_there r _ z
    exact absurd (Heap.lt_size (k1 _ _ q)) (Nat.lt_irrefl _)⟩
  refine wpAny_bind (wpAny_holding (list_sort_data (s := ⟨h1.push (seqObj "list" vs.toArray 0), s.gens, s.drawn, s.toks, s.os⟩) (enc := _root_.id) (R := R) oL e er2 (by rw [List.map_id]; exact hal) (by rw [List.map_id]; exact hk) (by rw [← hL]; exact small) (fun b hb => by have := hu b hb; show A.units + 1 + 1 + b.depth < cLine; omega) fun out l1 e2 => ?_))
  obtain ⟨ep, he⟩ := sortedHeap_at (vs := vs) (out := out.toArray) oL
  refine wpAny_pure ⟨_, rfl, h _ _ h1.objs.size out ep le1 (fun b u q => ?_) he e2⟩
  have lt := Heap.lt_size (k1 b u q)
  rw [sortedHeap_old (Nat.ne_of_lt lt) (by rw [size_push']; exact Nat.lt_succ_of_lt lt)]
  exact k2 b u q
end
end SRT
namespace DS
open PySem L2
section
variable {X : Cx} {C : Cn} {K : Fg} {cl : Cl}
/-- sorted(x): R is whatever the items are known to be -/
def rSortD (K : Fg) : List V → Hp → VK → Prop := fun vs H Q => ∃ (a : Addr) (xs : List V) (ds : List D) (R : V → D → Prop), vs = [.ref a] ∧ (SqL K H a xs ∨ SqT K H a xs) ∧ DpAll K H xs ds ∧ Paired R xs ds ∧ PySem.W.AllAlike ds ∧ PySem.W.Sortable ds ∧ (∀ d ∈ ds, d.depth ≤ 60) ∧
  ∀ (xs' : List V) (p : Addr), Paired R xs' (ds.mergeSort (PySem.W.dataLe false id)) → H p = none → Q (.ref p) (upd H p (.lst xs'))
theorem each_of {H : Hp} {R : V → D → Prop} {F : Value → D → Prop} (f : ∀ x u d, RelV x u → Dp K H x d → R x d → F u d) : ∀ {xs : List V} {us : List Value} {ds : List D}, Vals xs us → DpAll K H xs ds → Paired R xs ds → PySem.W.EachIs F us ds
  | _, _, _, .nil, .nil, .nil => .nil
  | _, _, _, .cons r rs, .cons p ps, .cons q qs => .cons (f _ _ _ r p q) (each_of f rs ps qs)
theorem each_back {R : V → D → Prop} : ∀ {us : List Value} {ds : List D}, PySem.W.EachIs (fun u d => ∃ x, RelV x u ∧ R x d) us ds → ∃ xs, Vals xs us ∧ Paired R xs ds
  | _, _, .nil => ⟨[], .nil, .nil⟩
  | _, _, .cons ⟨x, r, q⟩ t => by
    obtain ⟨xs, rs, qs⟩ := each_back t
    exact ⟨x :: xs, .cons r rs, .cons q qs⟩
theorem cr_sortD (hu : X.A.units + 70 < cLine) : CallR X (.builtin "sorted") (rSortD X.K) := by
  intro pins s σ H vs us Q I r ⟨a, xs, ds, R, ev, hs, hp, hR, hal, hk, hd, q⟩
  subst ev
  rw [Vals.ref1 r]
  have fin : ∀ {T : String} (hT : T = "list" ∨ T = "tuple") {o : Obj} {n : Nat} {its : List Value}, s.heap.get? a = some o → o.cls = .type T → o.data = .seq its.toArray n → Vals xs its → xs.length ≤ sizeLine → wpAny (model X.prog X.w) X.A (call (.builtin "sorted") [.ref a]) (EP X pins σ Q) X.xe s := fun {T} hT {o n its} at0 cl da rv small => by
    refine SRT.sorted_seq (R := fun u d => ∃ x, RelV x u ∧ R x d) hT at0 cl da (by rw [← rv.length]; exact small) (each_of (fun x u d r _ q => ⟨x, r, q⟩) rv hp hR) (each_of (fun x u d r p _ => Dp.reads I d x u p r) rv hp hR) hal hk (fun b hb => by have := hd b hb; omega) fun h' tk p out k le kp at1 e => ?_
    obtain ⟨xs', rv', hR'⟩ := each_back e
    have len : xs'.length = xs.length := by
      rw [hR'.length, List.length_mergeSort, hR.length]
    exact ⟨.ref p, upd H p (.lst xs'), I.laid (t' := tk) kp le ⟨by rw [len]; exact small, out, k, rv', at1⟩, rfl, q xs' p hR' (I.hok.fresh le)⟩
  rcases hs with hs | hs
  · obtain ⟨its, rv, pl, hz⟩ := I.list hs
    obtain ⟨o, ho, hc, n, hd'⟩ := pl.isList
    exact fin (.inl rfl) ho hc hd' rv hz
  · obtain ⟨its, rv, pl, hz⟩ := I.tuple hs
    obtain ⟨o, ho, hc, n, hd'⟩ := pl
    exact fin (.inr rfl) ho hc hd' rv hz
theorem drs_paired {A : Hp} : ∀ {vs : List V} {ds : List D}, DRs K cl A vs ds → Paired (DR K cl A) vs ds
  | _, _, .nil => .nil
  | _, _, .cons h t => .cons h (drs_paired t)
theorem paired_drs {A : Hp} : ∀ {vs : List V} {ds : List D}, Paired (DR K cl A) vs ds → DRs K cl A vs ds
  | _, _, .nil => .nil
  | _, _, .cons h t => .cons h (paired_drs t)
/-- sorted(x), x a list or a tuple of plain data of one kind -/
def mSorted (a : M) : ML := fun ρ n P R => a ρ n (fun d n1 => ∃ ds, (d = .list ds ∨ d = .tuple ds) ∧ PyData.plainAll ds = true ∧ PySem.W.AllAlike ds ∧ PySem.W.Sortable ds ∧ (∀ d ∈ ds, d.depth ≤ 60) ∧ P (ds.mergeSort (PySem.W.dataLe false id)) n1) R
theorem le_sorted {x : Str} {e : Expr} {a : M} {p pos : Pos} (hu : X.A.units + 70 < cLine) (hg : Gl X x) (hm : X.mg x = none) (hv : bootBuiltins x = some (.builtin "sorted")) (ha : QE X C e a)
    (hn : x ≠ "__name__" := by decide) (hdb : (x == ("__debug__" : Str)) = false := by decide) (he : starEach (e :: []) X.env = (false, eval e X.env) :: starEach [] X.env := by rfl) (hK : X.K = C.K := by rfl) : LE X C (.Call (.Name x p) [e] [] pos) (mSorted a) :=
  pe_weak (pe_callB (cr_sortD hu) hg hm hv (pa_cons ha pa_nil he) hn hdb he) fun σ H Q ⟨B, ρ, n, P, R, F, w, ox, k⟩ => by
    refine ⟨B, ρ, n, _, R, F, w, ox, fun d n1 ⟨ds, hd, h1, h2, h3, h4, p⟩ v B1 H1 s1 k1 rv => ?_⟩
    have fin : ∀ (q : Addr) (xs : List V), v = .ref q → (SqL X.K H1 q xs ∨ SqT X.K H1 q xs) → DRs C.K C.cl B1 xs ds → rSortD X.K [v] H1 Q := fun q xs e h r =>
      ⟨q, xs, ds, DR C.K C.cl B1, by rw [e], h, by rw [hK]; exact DRs.dp (r.mono s1.sub) h1, drs_paired r, h2, h3, h4, fun xs' l hp' hl => k _ n1 p l xs' B1 _ (fresh_of s1 hl k1) (s1.lay hl) (none_of s1 hl) (src_lay k1 hl) upd_same (paired_drs hp')⟩
    rcases hd with rfl | rfl
    · obtain ⟨q, xs, e, h, r⟩ := q_list rv hid_sub s1.sub
      exact fin q xs e (.inl (SqL.of h)) r
    · obtain ⟨q, xs, e, h, r⟩ := q_tup rv s1.sub
      exact fin q xs e (.inr (by rw [hK]; exact h)) r
end
end DS

/-! DS12: objects of own classes as data: their fields, their properties. -/
namespace DS
open PySem L2
/-- the object of the class n with these fields -/
abbrev obj (n : Int) (ds : List D) : D := .dict [(.int n, .tuple ds)]
section
variable {X : Cx} {C : Cn} {K : Fg} {cl : Cl}
/-- what is known of an object's heap from its data -/
theorem obj_at {A : Hp} {v : V} {n : Nat} {ds : List D} (h : DR K cl A v (obj n ds)) : ∃ (Ad a dx : Addr) (vs : List V), v = .ref a ∧ cl.adr n = some Ad ∧ A a = some (.ins Ad dx ((cl.flds n).zip vs)) ∧ vs.length = (cl.flds n).length ∧ DRs K cl A vs ds := by
  generalize e : obj (n : Int) ds = d at h
  cases h with
  | ins h1 h2 h3 h4 =>
    cases e
    exact ⟨_, _, _, _, rfl, h1, h2, h3, h4⟩
  | non => cases e
  | bl _ => cases e
  | int _ => cases e
  | str _ => cases e
  | lst _ _ => cases e
  | tup _ _ => cases e
theorem zip_lookup : ∀ {fs : List Str} {vs : List V} {j : Nat} {f : Str} {v : V}, fs.Nodup → fs[j]? = some f → vs[j]? = some v → (fs.zip vs).lookup f = some v
  | [], _, j, f, v, _, e, _ => by simp at e
  | g :: fs, [], j, f, v, _, _, e => by simp at e
  | g :: fs, x :: vs, 0, f, v, nd, e1, e2 => by
    simp at e1 e2
    subst e1 e2
    simp [List.lookup]
  | g :: fs, x :: vs, j + 1, f, v, nd, e1, e2 => by
    have e1' : fs[j]? = some f := by simpa using e1
    have ne : (f == g) = false := by
      rw [beq_eq_false_iff_ne]
      intro z
      subst z
      exact (List.nodup_cons.mp nd).1 (List.mem_of_getElem? e1')
    rw [List.zip_cons_cons, List.lookup_cons, ne]
    exact zip_lookup (List.nodup_cons.mp nd).2 e1' (by simpa using e2)
/-- what the class n must say for its fields to be read -/
structure ObC (K : Fg) (cl : Cl) (n : Nat) : Prop where
  cls : ∀ Ad, cl.adr n = some Ad → Cls K Ad
  no : ∀ Ad f, cl.adr n = some Ad → f ∈ cl.flds n → NoAttr K Ad f
  nd : (cl.flds n).Nodup
/-- x.f, the j-th field of an object of the class n -/
def mFld (n j : Nat) (a : M) : M := fun ρ m P R => a ρ m (fun d m1 => ∃ ds z, d = obj n ds ∧ ds[j]? = some z ∧ P z m1) R
theorem de_fld {n j : Nat} {f : Str} {e : Expr} {a : M} {pos : Pos} (hK : X.K = C.K) (T : ObC C.K C.cl n) (hf : (C.cl.flds n)[j]? = some f) (h : DE X C e a) (hb : attributeBase e f X.env (eval e X.env) = eval e X.env := by rfl) : DE X C (.Attribute e f pos) (mFld n j a) :=
  pe_weak (pe_fld h hb) fun σ H Q ⟨B, ρ, m, P, R, F, w, ox, k⟩ => by
    rw [hK]
    refine ⟨B, ρ, m, _, R, F, w, ox, fun d m1 ⟨ds, z, ed, ez, p⟩ v B1 H1 s1 k1 rv => ?_⟩
    subst ed
    obtain ⟨Ad, q, dx, vs, ev, h1, h2, h3, h4⟩ := obj_at rv
    obtain ⟨x, hx, rx⟩ := h4.getV ez
    exact ⟨q, Ad, dx, _, x, ev, s1.sub _ _ h2, T.cls _ h1, T.no _ _ h1 (List.mem_of_getElem? hf), zip_lookup T.nd hf hx, k z m1 p x B1 H1 s1 k1 rx⟩
/-- x.f, a property of the class n, its getter promising g -/
def mProp (n : Nat) (g : G) (a : M) : M := fun ρ m P R => a ρ m (fun d m1 => ∃ ds, d = obj n ds ∧ g [.dat (obj n ds)] m1 P nvr) R
theorem de_prop {n k0 : Nat} {f : Str} {e : Expr} {a : M} {pos : Pos} {g : G} {Ad p q : Addr} {fd : FuncData} {ps : List Str} (hK : X.K = C.K) (hA : C.cl.adr n = some Ad) (c : Cls X.K Ad) (hp : PropOf X.K Ad f p q) (F : FnOk X.prog X.w X.K X.mg X.base (L2.CX X.prog X.w) k0 q fd ps (spW C.K C.cl 1 g)) (hr : Room (k0 + 1) X.A) (hb : Binds X.K fd ps [])
    (hx : Passes (L2.CX X.prog X.w) X.nox (fun _ _ _ => False)) (h : DE X C e a) (hab : attributeBase e f X.env (eval e X.env) = eval e X.env := by rfl) : DE X C (.Attribute e f pos) (mProp n g a) :=
  pe_weak (pe_prop (sp := spW C.K C.cl 1 g) (dvs := []) (E := fun _ _ _ => False) h c hp F hr hb .nil hx hab) fun σ H Q ⟨B, ρ, m, P, R, Fr0, w, ox, k⟩ => by
    refine ⟨B, ρ, m, _, R, Fr0, w, ox, fun d m1 ⟨ds, ed, hg⟩ v B1 H1 s1 k1 rv => ?_⟩
    subst ed
    obtain ⟨Ad', b, dx, vs, ev, h1, h2, h3, h4⟩ := obj_at rv
    have eA : Ad' = Ad := by rw [hA] at h1; exact (Option.some.inj h1).symm
    subst eA
    subst ev
    refine ⟨b, dx, _, rfl, s1.sub _ _ h2, C.sc, B1, m1, [.dat (obj n ds)], P, nvr, s1.sub, s1.nos, k1, .cons (.dat rv) .nil, rfl, hg, ?_, fun d' n' p' v' B' H' s2 k2 r2 => k d' n' p' v' B' H' (s1.trans s2) k2 r2⟩
    intro er n' z
    exact z.elim
theorem zip_none : ∀ {fs : List Str} {vs : List V} {f : Str}, f ∉ fs → (fs.zip vs).lookup f = none
  | [], vs, f, _ => by simp
  | g :: fs, [], f, _ => by simp
  | g :: fs, x :: vs, f, h => by
    have ne : (f == g) = false := by
      rw [beq_eq_false_iff_ne]
      intro z
      exact h (by rw [z]; exact List.mem_cons_self)
    rw [List.zip_cons_cons, List.lookup_cons, ne]
    exact zip_none fun z => h (.tail _ z)
/-- x.m(..), a method of the class n promising g -/
def mMeth (n ar : Nat) (g : G) (o : M) (a : MA) : M := fun ρ m P R => o ρ m (fun d m1 => ∃ ds, d = obj n ds ∧ a ρ m1 (fun as m2 => as.length + 1 = ar ∧ g (.dat (obj n ds) :: as) m2 P R) R) R
theorem de_meth {n ar k0 : Nat} {m : Str} {o e : Expr} {es : List Expr} {to : M} {ta : MA} {g : G} {Ad f : Addr} {fd : FuncData} {ps : List Str} {apos pos : Pos} {pl : Sem Bool} (hA : C.cl.adr n = some Ad) (hf : m ∉ C.cl.flds n) (c : Cls X.K Ad) (hm : Meth X.K Ad m f) (F : FnOk X.prog X.w X.K X.mg X.base (L2.CX X.prog X.w) k0 f fd ps (spW C.K C.cl ar g))
    (hr : Room k0 X.A) (hb : Binds X.K fd ps []) (hx : Passes (L2.CX X.prog X.w) X C.E) (h : DE X C o to) (ha : DA X C (e :: es) ta) (hst : starEach (e :: es) X.env = (false, eval e X.env) :: starEach es X.env := by rfl) (hpl : (backTo pos (starEach es X.env)).any (·.1) = false := by rfl)
    (ht : eval (.Call (.Attribute o m apos) (e :: es) [] pos) X.env = (do
      let ov ← eval o X.env
      standAt apos.atName
      let (f, first) ← holding [ov] (getMethod ov m pl)
      callWith pos f first (backTo pos (starEach (e :: es) X.env)) (backToKw pos (keywordEach [] X.env))) := by rfl) :
    DE X C (.Call (.Attribute o m apos) (e :: es) [] pos) (mMeth n ar g to ta) :=
  pe_weak (pe_meth (sp := spW C.K C.cl ar g) (dvs := []) (E := C.E) h c hm F hr hb .nil hx ha hst hpl ht) fun σ H Q ⟨B, ρ, m0, P, R, F0, w, ox, k⟩ => by
    refine ⟨B, ρ, m0, _, R, F0, w, ox, fun d m1 ⟨ds, ed, w1⟩ v B1 H1 s1 k1 rv => ?_⟩
    subst ed
    obtain ⟨Ad', b, dx, vs, ev, h1, h2, h3, h4⟩ := obj_at rv
    have eA : Ad' = Ad := by rw [hA] at h1; exact (Option.some.inj h1).symm
    subst eA
    subst ev
    refine ⟨b, dx, _, rfl, s1.sub _ _ h2, zip_none hf, B1, ρ, m1, _, R, F0.step s1 k1, w1, ox.step s1, fun as m2 w2 us B2 H2 s2 k2 rs => ?_⟩
    have st := s1.trans s2
    show spW C.K C.cl ar g (.ref b :: (us ++ [])) H2 Q C.E
    rw [List.append_nil]
    exact ⟨C.sc, B2, m2, .dat (obj n ds) :: as, P, R, s2.sub, s2.nos, k2, .cons (.dat (rv.mono s2.old)) rs, w2.1, w2.2, ox.step st, fun d' n' p' v' B' H' s3 k3 r3 => k d' n' p' v' B' H' (st.trans s3) k3 r3⟩
end
end DS

/-! DS13: f(*y, k = v, ..) and C(*y, k = v, ..) where the def has a star parameter and keyword-only ones, all of them given. -/
namespace StK
open PySem PySem.Spec PyProof.Rows L2 StX
section
variable {M : Model} {A : Around} {E : Value → Shared → Prop} {s : Shared}
theorem loneK {f : Value} {x : Sem Value} {pos : Pos} {kws : List (Option Str × Sem Value)} {Q : Args → Shared → Prop} (hall : kws.all (·.1.isSome) = true)
    (h : wpAny M A x (fun v s₁ => wpAny M A (evalAll (kws.map (·.2))) (fun ks s₂ => PySem.W.StarOf M A E v (fun vs s₃ => Q ⟨vs, (kws.filterMap (·.1)).zip ks⟩ s₃) s₂) E s₁) E s) :
    wpAny M A (evalArgs f true [(true, (do let v ← x; standAt pos; pure v))] kws) Q E s := by
  unfold evalArgs
  first
    | refine wpAny_bind (wpAny_bind (wpAny_mono h (fun v s₁ h₁ => wpAny_bind (wpAny_standAt (wpAny_pure ?_))) fun _ _ x => x))
    | refine wpAny_bind (wpAny_bind (wpAny_bind (wpAny_mono h (fun v s₁ h₁ => wpAny_bind (wpAny_standAt (wpAny_pure (wpAny_pure ?_)))) fun _ _ x => x)))
  refine wpAny_holding ?_
  simp only [hall, if_true]
  refine wpAny_bind (wpAny_mono h₁ (fun ks s₂ h₂ => ?_) fun _ _ x => x)
  unfold PySem.W.StarOf at h₂
  refine wpAny_bind (wpAny_bind (wpAny_mono h₂ (fun b s₂ h₂ => ?_) fun _ _ x => x))
  obtain ⟨rfl, h₂⟩ := h₂
  have z := fun l => wpAny_holding (vs := l) (wpAny_mono h₂ (fun vs s₃ h₃ => (wpAny_pure h₃ : wpAny M A (pure (⟨vs, (kws.filterMap (·.1)).zip ks⟩ : Args)) Q E s₃)) fun _ _ x => x)
  have z' := fun l => wpAny_holding (vs := l) h₂
  try simp only [Bool.false_eq_true, if_false]
  first
    | exact z _
    | exact wpAny_bind (wpAny_pure (z _))
    | exact wpAny_mono (z' _) (fun vs s₃ h₃ => wpAny_pure h₃) fun _ _ x => x
    | exact wpAny_bind (wpAny_mono (z' _) (fun vs s₃ h₃ => wpAny_pure h₃) fun _ _ x => x)

theorem callK_of {f : Value} {first : List Value} {pos : Pos} {Q : Value → Shared → Prop} {P : Heap → Prop} {args : List (Bool × Sem Value)} {kws : List (Option Str × Sem Value)} (hst : args.any (·.1) = true)
    (hk : ∀ h, P h → ∃ k, (k = Keeper.frame ∨ k = Keeper.machine ∨ k = Keeper.boundFrame) ∧ PySem.W.Looks M h (keeperOf f) k)
    (h : wpAny M A (evalArgs f true args kws) (fun a s₁ => P s₁.heap ∧ wpAny M A (call f (first ++ a.pos) a.kw) Q E s₁) E s) : wpAny M A (callWith pos f first args kws) Q E s := by
  unfold callWith
  refine wpAny_bind (wpAny_holding (wpAny_mono h (fun a s₁ h₁ => wpAny_bind (wpAny_standAt ?_)) fun _ _ x => x))
  obtain ⟨k, hk', L⟩ := hk _ h₁.1
  simp only [hst, Bool.true_or]
  refine wpAny_bind (L.here ?_)
  have tail : ∀ {t : Sem Value}, wpAny M A t Q E s₁ → wpAny M A (t >>= fun r => holding [r] point >>= fun _ => pure r) Q E s₁ :=
    fun ht => wpAny_bind (wpAny_mono ht (fun r s₂ hr => wpAny_bind (wpAny_holding (wpAny_point (wpAny_pure hr)))) fun _ _ x => x)
  have marked (mk : Value) : wpAny M A (callMarked mk f (first ++ a.pos) a.kw) Q E s₁ := by unfold callMarked; exact Calls.wpAny_keep h₁.2
  rcases hk' with rfl | rfl | rfl <;> dsimp only <;> first | exact tail (marked _) | exact tail (wpAny_operating h₁.2)
end
/-- a promise of a def called with keywords named ks: the positional values, the keywords' values -/
abbrev SpK := List V → List V → Hp → VK → XK → Prop
def FnRK (P : Program) (w : World) (K : PySem.W.Frag) (mg : Str → Option Value) (base : Heap) (CX : CXT) (k : Nat) (f : Addr) (ks : List Str) (sp : SpK) : Prop :=
  ∀ (A : Around) (outer : List Env) (s : Shared) (H : Hp) (us ws : List Value) (vs zs : List V) (Q : VK) (E : XK), Room k A → Env0 P w K mg base A outer s H → Vals vs us → Vals zs ws → sp vs zs H Q E →
    codeAny (model P w) A (.call (.ref f) ⟨us, ks.zip ws⟩) (CR CX outer P w H s Q E) s
section
variable {CX : CXT} {P : Program} {w : World} {K : PySem.W.Frag} {mg : Str → Option Value} {base : Heap} {k : Nat} {f : Addr} {name qual : Str} {params : Arguments} {body : List Stmt} {scope : Scope} {dV kV doc pm cdv ct oc : Value} {an od : Option Addr}
  {osl : Array (Option Value)} {N ps ks : List Str} {sp : Sp}
/-- def f(a, .., *v, k, ..): the keywords all given -/
theorem fn_starK {pv : Str} (lk : K.lookup f = some ⟨oc, od, .func (PySem.W.fnOf name qual params body scope dV kV doc pm an cdv ct), osl⟩) (hcd : PySem.W.codeIn K cdv qual = true) (S : FnScope N (ps ++ ks ++ [pv]) scope) (hCX : CXUp CX)
    (hb : ∀ us rest ws : List Value, us.length = ps.length → ws.length = ks.length → bindArgs (PySem.W.fnOf name qual params body scope dV kV doc pm an cdv ct) ⟨us ++ rest, ks.zip ws⟩ = (newTuple rest >>= fun t => pure ((ps.zip us ++ ks.zip ws) ++ [(pv, t)])))
    (hbody : ∀ (A : Around) (outer : List Env) (s : Shared) (H : Hp) (vs : List V) (Q : VK) (E : XK), Room k (A.deeper (envOfC qual scope s.heap.objs.size f cdv)) → sp vs H Q E →
      ∃ t, PSs (cxOf CX P w K mg base N qual scope f cdv A outer s H E) body t ∧ t { nx := fun _ H' => Q .non H', rt := Q } (start N vs) H) :
    FnRK P w K mg base CX (k + 1) f ks (fun vs zs H Q E => ∃ ws rest, vs = ws ++ rest ∧ ws.length = ps.length ∧ zs.length = ks.length ∧ rest.length ≤ sizeLine ∧ ∀ p, H p = Option.none → sp ((ws ++ zs) ++ [V.ref p]) (upd H p (.tup rest)) Q E) := by
  intro A outer s H us wk vs zs Q E hr e0 r rz hsp
  obtain ⟨ws, rest, ev, hl, hzl, hz, hq⟩ := hsp
  subst ev
  obtain ⟨u1, u2, eu, r1, r2⟩ := vals_split r
  subst eu
  have hn : H s.heap.objs.size = Option.none := e0.hok.fresh (Nat.le_refl _)
  have hl1 : u1.length = ps.length := by rw [← r1.length]; exact hl
  have hl2 : u2.length ≤ sizeLine := by rw [← r2.length]; exact hz
  have hl3 : wk.length = ks.length := by rw [← rz.length]; exact hzl
  refine run_bnd lk hcd S hr e0 (G := fun xs H2 => ∃ p, H p = Option.none ∧ xs = (ws ++ zs) ++ [V.ref p] ∧ H2 = upd H p (.tup rest)) (fun A' Ex Q' h => ?_) fun s2 H2 xs ⟨p, hp, ex, eH⟩ hr' => ?_
  · rw [hb u1 u2 wk hl1 hl3]
    refine wpAny_bind (wpAny_newTuple (wpAny_pure ?_) hl2)
    have new : ObjOk P w (upd H s.heap.objs.size (.tup rest)) (s.heap.push ({ cls := .type "tuple", data := .seq u2.toArray } : Obj)) s.heap.objs.size (.tup rest) := ⟨hz, u2, r2, ⟨_, Heap.get?_push_size _ rfl, rfl, _, rfl⟩⟩
    have un := un_laid (fs := frs outer) (s := s) (o := ({ cls := .type "tuple", data := .seq u2.toArray } : Obj)) (u := .tup rest) hn
    have z := h _ _ ((ws ++ zs) ++ [V.ref s.heap.objs.size]) ((u1 ++ wk) ++ [Value.ref s.heap.objs.size]) (env0_laid e0 new) un rfl (fun e s' => hCX outer s H _ _ E e s' un (fun b o q => Heap.get?_push_of_some _ q) rfl) ((r1.append rz).append (.cons rfl .nil))
      (by simp only [List.length_append, List.length_cons, List.length_nil, hl, hzl]) ⟨_, hn, rfl, rfl⟩
    rw [List.zip_append (by rw [List.length_append, List.length_append, hl1, hl3]), List.zip_append hl1.symm] at z
    exact z
  · subst ex eH
    exact hbody A outer s2 _ _ Q E hr' (hq p hp)
end
/-- the two forms of what is bound: one parameter ahead of the star -/
theorem bind_starK1 {B : List Value → List (Str × Value) → Sem (List (Str × Value))} {p1 k1 pv : Str} (h0 : ∀ a v, B [a] [(k1, v)] = (newTuple [] >>= fun t => pure [(p1, a), (k1, v), (pv, t)])) (h1 : ∀ a v r rs, B (a :: r :: rs) [(k1, v)] = (newTuple (r :: rs) >>= fun t => pure [(p1, a), (k1, v), (pv, t)])) :
    ∀ us rest ws : List Value, us.length = [p1].length → ws.length = [k1].length → B (us ++ rest) ([k1].zip ws) = (newTuple rest >>= fun t => pure (([p1].zip us ++ [k1].zip ws) ++ [(pv, t)]))
  | [a], [], [v], _, _ => h0 a v
  | [a], r :: rs, [v], _, _ => h1 a v r rs
section
variable {X : Cx} {CX : CXT} {k : Nat} {f C : Addr} {ks : List Str} {sp : SpK} {E : XK} {x : Str} {e : Expr} {kws : List Keyword} {te : TE} {tk : TA} {p sp_ pos : Pos}
theorem run_fnRK {pins : List (Addr × Obj)} {σ : L2.St} {H : Hp} {s : Shared} {Q : VK} {us ws : List Value} {vs zs : List V} (F : FnRK X.prog X.w X.K X.mg X.base CX k f ks sp) (hr : Room k X.A) (hx : Passes CX X E) (I : Inv X pins σ H s) (r : Vals vs us) (rz : Vals zs ws) (h : sp vs zs H Q E) :
    codeAny (model X.prog X.w) X.A (.call (.ref f) ⟨us, ks.zip ws⟩) (fun r s' => match r with | .ok (.ret v) => EP X pins σ Q v s' | .ok _ => False | .error e => X.xe e s') s := by
  refine codeAny_mono (F X.A X.stack s H us ws vs zs Q E hr I.env0 r rz h) fun r s' hq => ?_
  cases r with
  | error e => exact hx pins σ H s e s' I hq
  | ok fl =>
    cases fl with
    | ret u => exact I.after hq
    | next => exact False.elim hq
    | brk => exact False.elim hq
    | cont => exact False.elim hq
theorem run_makeRK {pins : List (Addr × Obj)} {σ : L2.St} {H : Hp} {s : Shared} {Q : VK} {us ws : List Value} {vs zs : List V} (M : Mk X.K C f) (F : FnRK X.prog X.w X.K X.mg X.base CX k f ks sp) (hr : Room (k + 1) X.A) (hx : Passes CX X E) (I : Inv X pins σ H s) (r : Vals vs us) (rz : Vals zs ws)
    (h : ∀ x dx, H x = Option.none → H dx = Option.none → dx ≠ x → sp (V.ref x :: vs) zs (upd (upd H dx (.own x)) x (.ins C dx [])) (fun v H2 => v = .non ∧ Q (.ref x) H2) E) :
    wpAny (model X.prog X.w) X.A (call (.ref C) us (ks.zip ws)) (EP X pins σ Q) X.xe s := by
  have hq := h (s.heap.objs.size + 1) s.heap.objs.size (I.hok.fresh (Nat.le_succ _)) (I.hok.fresh (Nat.le_refl _)) (Nat.ne_of_lt (Nat.lt_succ_self _))
  have I2 := Inv.made (C := C) I
  have r2 : Vals (V.ref (s.heap.objs.size + 1) :: vs) (Value.ref (s.heap.objs.size + 1) :: us) := .cons rfl r
  refine wpAny_call (make_map (f := f) I.kIn M.makes M.init (beq_iff_eq.mp M.fn) (codeAny_mono (F _ X.stack _ _ (Value.ref (s.heap.objs.size + 1) :: us) ws _ _ _ E (hr.make C us (ks.zip ws)) (I2.env0.make C us (ks.zip ws)) r2 rz hq) fun r s' hq' => ?_))
  cases r with
  | error e => exact hx pins σ _ _ e s' I2 hq'
  | ok fl =>
    cases fl with
    | ret u =>
      obtain ⟨v, H', I3, rv, ev, q3⟩ := I2.after hq'
      subst ev
      exact ⟨rv, ⟨V.ref (s.heap.objs.size + 1), H', I3, rfl, q3⟩⟩
    | next => exact False.elim hq'
    | brk => exact False.elim hq'
    | cont => exact False.elim hq'
/-- C(*y, k = v, ..) -/
def tMakeSK (K : PySem.W.Frag) (C : Addr) (sp : SpK) (E : XK) (te : TE) (tk : TA) : TE := fun σ H Q => te σ H fun y H1 => tk σ H1 fun zs H2 => ∃ a xs, y = V.ref a ∧ (SqT K H2 a xs ∨ SqL K H2 a xs) ∧ ∀ x dx, H2 x = Option.none → H2 dx = Option.none → dx ≠ x →
  sp (V.ref x :: xs) zs (upd (upd H2 dx (.own x)) x (.ins C dx [])) (fun v H3 => v = .non ∧ Q (.ref x) H3) E
theorem pe_makeSK (M : Mk X.K C f) (F : FnRK X.prog X.w X.K X.mg X.base CX k f ks sp) (hr : Room (k + 1) X.A) (hg : Gl X x) (hm : X.mg x = some (.ref C)) (hx : Passes CX X E) (he : PE X e te) (hkw : PK X kws tk) (hdb : (x == ("__debug__" : Str)) = false := by decide)
    (hall : (backToKw pos (keywordEach kws X.env)).all (·.1.isSome) = true := by rfl) (hks : (backToKw pos (keywordEach kws X.env)).filterMap (·.1) = ks := by rfl) (hst : starEach [.Starred e sp_] X.env = [(true, eval e X.env)] := by rfl) :
    PE X (.Call (.Name x p) [.Starred e sp_] kws pos) (tMakeSK X.K C sp E te tk) := by
  refine ⟨fun pins s σ H Q I h => ?_⟩
  refine wpAny_Call_Name_kw (ld_glob I hg hm ?_ hdb)
  rw [hst]
  refine callK_of rfl (PySem.W.keeps_K M.kp) (loneK hall ?_)
  refine thn (he.run pins s σ H _ I h) fun v s1 ⟨y, H1, I1, ry, q1⟩ => ?_
  refine thn (hkw.run pos pins s1 σ H1 _ I1 q1) fun ws s2 ⟨zs, H2, I2, rz, a, xs, ey, hxs, q2⟩ => ?_
  subst ey
  obtain rfl : v = Value.ref a := ry
  refine star_any I2 hxs fun us s3 I3 rv => ⟨I3.kIn, ?_⟩
  rw [hks]
  exact run_makeRK M F hr hx I3 rv rz q2
end
end StK

/-! DS14: an object under way: self.f = e, and what an __init__ leaves. -/
namespace DS
open PySem L2
/-- no object under way among these -/
def noB : Env → Bool
  | [] => true
  | .bld _ _ _ :: _ => false
  | _ :: r => noB r
theorem noB_at : ∀ {ρ : Env} {j : Nat} {x : Addr} {n : Nat} {ds : List D}, noB ρ = true → ρ[j]? ≠ some (.bld x n ds)
  | [], j, _, _, _, _, e => by simp at e
  | a :: r, 0, x, n, ds, h, e => by
    have e' : a = .bld x n ds := by simpa using e
    subst e'
    simp [noB] at h
  | a :: r, j + 1, x, n, ds, h, e => by
    have h' : noB r = true := by cases a <;> simp [noB] at h <;> exact h
    exact noB_at h' (by simpa using e)
theorem putF_zip : ∀ {fs : List Str} {vs : List V} {f : Str} {v : V}, fs.Nodup → fs[vs.length]? = some f → putF f v (fs.zip vs) = fs.zip (vs ++ [v])
  | [], vs, f, v, _, e => by simp at e
  | g :: fs, [], f, v, nd, e => by
    have e' : g = f := by simpa using e
    subst e'
    cases fs <;> rfl
  | g :: fs, x :: vs, f, v, nd, e => by
    have e1 : fs[vs.length]? = some f := by simpa using e
    have ne : g ≠ f := fun z => by
      subst z
      exact (List.nodup_cons.mp nd).1 (List.mem_of_getElem? e1)
    show putF f v ((g, x) :: fs.zip vs) = (g, x) :: fs.zip (vs ++ [v])
    rw [← putF_zip (List.nodup_cons.mp nd).2 e1]
    show (if g = f then (g, v) :: fs.zip vs else (g, x) :: putF f v (fs.zip vs)) = _
    rw [if_neg ne]
section
variable {X : Cx} {C : Cn} {K : Fg} {cl : Cl}
/-- self.f = e: the next field of the object under way in slot i -/
def mPut (i n : Nat) (te : M) : MS := fun De ρ m => ∃ x ds, ρ[i]? = some (.bld x n ds) ∧ noB (ρ.set i .no) = true ∧ te ρ m (fun d m1 => De.nx (ρ.set i (.bld x n (ds ++ [d]))) m1) De.ex
theorem src_upd {sc : Sc} {H : Hp} {p : Addr} {o : HO} {n : Nat} (h : SrcOk sc H n) (f : ¬ inS sc p) : SrcOk sc (upd H p o) n := by
  unfold SrcOk at h ⊢
  cases sc with
  | none => trivial
  | some q =>
    obtain ⟨s, c⟩ := q
    obtain ⟨a0, ns, t, h1, h2, r⟩ := h
    have n1 : s ≠ p := fun z => f (.inl z.symm)
    have n2 : c ≠ p := fun z => f (.inr z.symm)
    exact ⟨a0, ns, t, by rw [upd_ne n1]; exact h1, by rw [upd_ne n2]; exact h2, r⟩
theorem bld_step {B H : Hp} {σ : St} {ρ : Env} {m i n : Nat} {x Ad dx : Addr} {us : List V} {ds : List D} (F : Fr C B σ H ρ m) {d : D} (e : ρ[i]? = some (.bld x n ds)) (e1 : σ[i]? = some (some (.ref x))) (hA : C.cl.adr n = some Ad) (one : noB (ρ.set i .no) = true) (h0 : C.H0 x = none) (hB : B x = none) (hs : ¬ inS C.sc x)
    (h : ∃ A' dx' fs, H x = some (.ins A' dx' fs)) (r : DRs C.K C.cl B us (ds ++ [d])) : Fr C B σ (upd H x (.ins Ad dx ((C.cl.flds n).zip us))) (ρ.set i (.bld x n (ds ++ [d]))) m := by
  obtain ⟨A', dx', fs, ho⟩ := h
  refine ⟨fun a u z => by rw [upd_ne (ne_of_none z hB)]; exact F.sub a u z, F.old, F.new, F.nos, fun a u ns z => by rw [upd_ne (ne_of_none z h0)]; exact F.ext a u ns z, src_upd F.src hs, ?_, ?_⟩
  · refine paired_ix (by rw [List.length_set]; exact paired_len F.slo) fun j a b h1 h2 => ?_
    by_cases hj : j = i
    · subst hj
      rw [e1] at h1; cases h1
      rw [List.getElem?_set_self (List.getElem?_eq_some_iff.mp e).1] at h2; cases h2
      exact .bld hA h0 hB hs upd_same r
    · rw [List.getElem?_set_ne (Ne.symm hj)] at h2
      have q := paired_at F.slo h1 h2
      cases q with
      | no _ => exact .no _
      | dat h => exact .dat h
      | src h => exact .src h
      | @own q us _ g0 gB gs g gr =>
        have ne : q ≠ x := fun z => by
          rw [z, ho] at g
          cases g
        exact .own g0 gB gs (by rw [upd_ne ne]; exact g) gr
      | @dic q lk kvs _ g0 gB gs g gr =>
        have ne : q ≠ x := fun z => by
          rw [z] at g
          have := g.ow (.dK _) ho; cases this
        exact .dic g0 gB gs (g.same fun o z => by rw [upd_ne ne]; exact z) gr
      | @dit q lk kvs _ g0 gB gs g gr =>
        have ne : q ≠ x := fun z => by
          rw [z] at g
          have := g.ow (.dT _) ho; cases this
        exact .dit g0 gB gs (g.same fun o z => by rw [upd_ne ne]; exact z) gr
      | @bor q us _ g0 gs g gr =>
        have ne : q ≠ x := fun z => g0 (z ▸ h0)
        exact .bor g0 gs (by rw [upd_ne ne]; exact g) gr
      | @hld q A d er hA gs g hd =>
        have ne : q ≠ x := fun z => by
          rw [z, ho] at g
          cases g
        refine .hld hA gs (by rw [upd_ne ne]; exact g) ?_
        rcases hd with z | ⟨y, dd, v, f, z1, z2, z3, z4, z5, z6⟩
        · exact .inl z
        · have ne2 : dd ≠ x := fun z => by
            rw [z, ho] at z5
            cases z5
          exact .inr ⟨y, dd, v, f, z1, z2, z3, z4, by rw [upd_ne ne2]; exact z5, z6⟩
      | bld _ _ _ _ _ _ =>
        exact absurd (show (ρ.set i Sl.no)[j]? = some (Sl.bld _ _ _) by rw [List.getElem?_set_ne (Ne.symm hj)]; exact h2) (noB_at one)
  · intro a b q u v h1 h2 h3 h4 w1 w2
    rcases set_at h3 with ⟨_, z⟩ | ⟨_, h3⟩
    · rw [z] at w1; cases w1
    · rcases set_at h4 with ⟨_, z⟩ | ⟨_, h4⟩
      · rw [z] at w2; cases w2
      · exact F.dis a b q u v h1 h2 h3 h4 w1 w2
theorem ds_put {i n k : Nat} {x f : Str} {e : Expr} {te : M} {px apos pos : Pos} (hK : X.K = C.K) (T : ObC C.K C.cl n) (hf : (C.cl.flds n)[k]? = some f) (hl : (C.cl.flds n).length < 1000) (he : DE X C e te) (hN : X.N[i]? = some x := by rfl)
    (hv : Vis X.env.scope x := by first | exact Or.inl rfl | exact Or.inr (Or.inl rfl) | exact Or.inr (Or.inr rfl)) (hd : (x == ("__debug__" : Str)) = false := by decide) (hcd : (x == ("__classdict__" : Str)) = false := by decide) (hs : swapsWith e (some (.Attribute (.Name x px) f apos)) pos.line X.env = pure false := by rfl) :
    DS X C (.Assign [.Attribute (.Name x px) f apos] e pos) (fun De ρ m => (∀ a ds, ρ[i]? = some (.bld a n ds) → ds.length = k) ∧ mPut i n te De ρ m) :=
  ps_weak (ps_fld (pe_var hN hv hd hcd) he hs) fun Z σ H ⟨B, ρ, m, De, F, ⟨hk, xo, ds, e0, one, w⟩, nx, rt, ex, bk, ct⟩ => by
    rw [hK]
    have hk := hk xo ds e0
    refine ⟨B, ρ, m, _, De.ex, F, w, ex.lift F, fun d m1 q v B1 H1 s1 k1 rv => ?_⟩
    have F1 := F.step s1 k1
    obtain ⟨a, e1, e2⟩ := paired_get F1.slo e0
    cases e2 with
    | @bld _ Ad dx _ vs _ hA h0 hB hsx h r =>
      have hlen : vs.length = k := by rw [r.length]; exact hk
      have hfk : (C.cl.flds n)[vs.length]? = some f := by rw [hlen]; exact hf
      refine ⟨_, e1, xo, Ad, dx, _, rfl, h, T.cls _ hA, T.no _ _ hA (List.mem_of_getElem? hfk), ?_, ?_⟩
      · rw [List.length_zip]; omega
      · rw [putF_zip T.nd hfk]
        exact nx _ m1 q σ B1 _ s1.old (bld_step F1 e0 e1 hA one h0 hB hsx ⟨_, _, _, h⟩ (r.append (.cons rv .nil)))
end
/-! ### an __init__ with a star parameter and keyword-only ones, all given -/
section
open PySem.Spec PyProof.Rows
variable {P : Program} {w : World} {K : Fg} {cl : Cl} {mg : Str → Option Value} {base : Heap}
/-- what an __init__ promises: of the positional values os and the keywords' values zs (data) -/
abbrev GK := List D → List D → Nat → PD → PX → Prop
def spMk (K : Fg) (cl : Cl) (Ad : Addr) (nk : Nat) (g : GK) : StK.SpK := fun vs zs H1 Q E => ∃ x dx rest H sc B m ods zds Pp R, vs = V.ref x :: rest ∧ H1 = upd (upd H dx (.own x)) x (.ins Ad dx []) ∧ H x = none ∧ H dx = none ∧ dx ≠ x ∧
  Same B H ∧ (∀ a, inS sc a → B a = none) ∧ SrcOk sc H m ∧ DRs K cl B rest ods ∧ DRs K cl B zs zds ∧ zds.length = nk ∧ ods.length ≤ sizeLine ∧ g ods zds m Pp R ∧ OkX ⟨K, cl, sc, H, B, E⟩ B H R ∧
  ∀ d n', Pp d n' → ∀ B' H', Stp sc B H B' H' → SrcOk sc H' n' → DR K cl B' (.ref x) d → Q .non H'
def mInit (n nf : Nat) (x : Addr) (m : MS) : PD → PX → Env → Nat → Prop := fun Pp R ρ k => m { nx := fun ρ' n' => ∃ ds, ρ'[0]? = some (.bld x n ds) ∧ ds.length = nf ∧ Pp (obj n ds) n', rt := fun _ _ => False, ex := R } ρ k
theorem dat_sl {sc : Sc} {H0 B H : Hp} : ∀ {vs : List V} {ds : List D}, DRs K cl B vs ds → Paired (SlR K cl sc H0 B H) (vs.map some) (ds.map Sl.dat)
  | _, _, .nil => .nil
  | _, _, .cons h t => .cons (.dat h) (dat_sl t)
theorem init_sk {fn qual : Str} {params : Arguments} {body : List Stmt} {scope : Scope} {kws : List (Str × V)} {f Ad : Addr} {fd : FuncData} {N ks : List Str} {self pv : Str} {k n : Nat} {g : GK} {m : MS} (F : FunD K fn qual params body scope [] kws f fd) (S : FnScope N (([self] ++ ks) ++ [pv]) scope) (hA : cl.adr n = some Ad)
    (hbind : ∀ (kV doc pm : Value) (an : Option Addr) (cdv ct : Value) (us rest ws : List Value), us.length = [self].length → ws.length = ks.length →
      bindArgs (PySem.W.fnOf fn qual params body scope .none kV doc pm an cdv ct) ⟨us ++ rest, ks.zip ws⟩ = (newTuple rest >>= fun t => pure (([self].zip us ++ ks.zip ws) ++ [(pv, t)])))
    (hb : ∀ (cdv : Value) (A : Around) (outer : List PySem.Env) (s : Shared) (H0 H B : Hp) (sc : Sc) (E : XK), Room k (A.deeper (envOfC qual scope s.heap.objs.size f cdv)) →
      DSs (cxOf (L2.CX P w) P w K mg base N qual scope f cdv A outer s H E) ⟨K, cl, sc, H0, B, E⟩ body m)
    (hm : ∀ x os zs nn Pp R, zs.length = ks.length → g os zs nn Pp R → mInit n (cl.flds n).length x m Pp R (env0 (.bld x n [] :: (zs.map Sl.dat ++ [.dat (.tuple os)])) N.length) nn) :
    StK.FnRK P w K mg base (L2.CX P w) (k + 1) f ks (spMk K cl Ad ks.length g) := by
  obtain ⟨oc, od, dV, kV, doc, pm, an, cdv, ct, osl, rfl, lk, hcd, hD, _⟩ := F.ex
  rcases hD with ⟨_, rfl⟩ | ⟨e, _⟩
  case inr => exact absurd rfl e
  intro A outer s H us ws vs zs Q E hr e0 r rz ⟨x, dx, rest, Hb, sc, B, mm, ods, zds, Pp, R, ev, eH, hx, hdx, hne, sub, nos, src, ro, ro2, hz, hol, hg, ox, q⟩
  refine StK.fn_starK (N := N) (ps := [self]) (ks := ks) (sp := fun ys H2 Q E => ∃ x dx rest Hb sc B m ods zs zds Pp R p, ys = (([V.ref x] ++ zs) ++ [V.ref p]) ∧ H2 = upd (upd (upd Hb dx (.own x)) x (.ins Ad dx [])) p (.tup rest) ∧ Hb x = none ∧ Hb dx = none ∧ dx ≠ x ∧ (upd (upd Hb dx (.own x)) x (.ins Ad dx [])) p = none ∧
      Same B Hb ∧ (∀ a, inS sc a → B a = none) ∧ SrcOk sc Hb m ∧ DRs K cl B rest ods ∧ DRs K cl B zs zds ∧ zds.length = ks.length ∧ g ods zds m Pp R ∧ OkX ⟨K, cl, sc, Hb, B, E⟩ B Hb R ∧
      ∀ d n', Pp d n' → ∀ B' H', Stp sc B Hb B' H' → SrcOk sc H' n' → DR K cl B' (.ref x) d → Q .non H') lk hcd S StX.cxUp (hbind _ _ _ _ _ _) ?_ A outer s H us ws vs zs Q E hr e0 r rz
    ⟨[V.ref x], rest, by rw [ev]; rfl, rfl, by rw [ro2.length]; exact hz, by rw [ro.length]; exact hol, fun p hp => ⟨x, dx, rest, Hb, sc, B, mm, ods, zs, zds, Pp, R, p, rfl, by rw [eH], hx, hdx, hne, by rw [← eH]; exact hp, sub, nos, src, ro, ro2, hz, hg, ox, q⟩⟩
  rintro A outer s H2 ys Q E hr ⟨x, dx, rest, Hb, sc, B, mm, ods, zs, zds, Pp, R, p, rfl, rfl, hx, hdx, hne, hp, sub, nos, src, ro, ro2, hz, hg, ox, q⟩
  have hpx : p ≠ x := fun z => by rw [z, upd_same] at hp; cases hp
  have hpd : p ≠ dx := fun z => by rw [z, upd_ne hne, upd_same] at hp; cases hp
  have hpb : Hb p = none := by rw [upd_ne hpx, upd_ne hpd] at hp; exact hp
  have bn : ∀ {a : Addr}, Hb a = none → B a = none := fun {a} h => by
    cases e : B a with
    | none => rfl
    | some o => rw [sub a o e] at h; cases h
  have h1 : (upd Hb dx (.own x)) x = none := by rw [upd_ne (Ne.symm hne)]; exact hx
  have src2 : SrcOk sc (upd (upd (upd Hb dx (.own x)) x (.ins Ad dx [])) p (.tup rest)) mm := src_lay (src_lay (src_lay src hdx) h1) hp
  have ext2 : Ext sc Hb (upd (upd (upd Hb dx (.own x)) x (.ins Ad dx [])) p (.tup rest)) := ((Ext.new hdx).trans (Ext.new h1)).trans (Ext.new hp)
  have s0 : Stp sc B Hb B Hb := Stp.refl sub nos
  have s1 : Stp sc B Hb (upd B p (.tup rest)) (upd (upd (upd Hb dx (.own x)) x (.ins Ad dx [])) p (.tup rest)) := (((s0.lay hdx).lay h1).lay hp).settle hpb upd_same (bn hpb) (src_new src hpb)
  have sx : ¬ inS sc x := src_new src hx
  have fr : Fr ⟨K, cl, sc, Hb, B, E⟩ (upd B p (.tup rest)) (L2.start N (([V.ref x] ++ zs) ++ [V.ref p])) (upd (upd (upd Hb dx (.own x)) x (.ins Ad dx [])) p (.tup rest)) (env0 (.bld x n [] :: (zds.map Sl.dat ++ [.dat (.tuple ods)])) N.length) mm := by
    refine ⟨s1.sub, s1.old, s1.new, s1.nos, s1.ext, src2, ?_, ?_⟩
    · have pr : Paired (SlR K cl sc Hb (upd B p (.tup rest)) (upd (upd (upd Hb dx (.own x)) x (.ins Ad dx [])) p (.tup rest))) (((([V.ref x] ++ zs) ++ [V.ref p])).map some) (.bld x n [] :: (zds.map Sl.dat ++ [.dat (.tuple ods)])) := by
        rw [List.map_append, List.map_append]
        refine .cons (.bld (dx := dx) (vs := []) hA hx (by rw [upd_ne (Ne.symm hpx)]; exact bn hx) sx (by rw [upd_ne (Ne.symm hpx), upd_same, List.zip_nil_right]) .nil) ?_
        exact paired_app (dat_sl (ro2.mono s1.old)) (.cons (.dat (.tup (SqT.of upd_same) (ro.mono s1.old))) .nil)
      have hlen : ((([V.ref x] ++ zs) ++ [V.ref p])).length = (Sl.bld x n [] :: (zds.map Sl.dat ++ [.dat (.tuple ods)])).length := by
        rw [← paired_len pr, List.length_map]
      unfold L2.start env0
      rw [hlen]
      exact paired_app pr (paired_rep (.no _) _)
    · intro i j a u v h1 h2 h3 h4 w1 w2
      exfalso
      have hu := List.mem_of_getElem? h3
      unfold env0 at hu
      rcases List.mem_append.mp hu with hu | hu
      · rcases List.mem_cons.mp hu with hu | hu
        · subst hu; cases w1
        · rcases List.mem_append.mp hu with hu | hu
          · obtain ⟨z, _, hz⟩ := List.mem_map.mp hu
            subst hz; cases w1
          · rcases List.mem_cons.mp hu with hu | hu
            · subst hu; cases w1
            · cases hu
      · rw [List.eq_of_mem_replicate hu] at w1; cases w1
  refine ⟨_, hb cdv A outer s Hb _ B sc E hr, upd B p (.tup rest), _, mm, _, fr, hm x ods zds mm Pp R hz hg, ?_, ?_, ox, ?_, ?_⟩
  · rintro ρ' n' ⟨ds, e, hl, pp⟩ σ' B' H' s' F'
    obtain ⟨a, e1, e2⟩ := paired_get F'.slo e
    cases e2 with
    | @bld _ Ad' dx' _ us _ hA' h0 hB hs h rr =>
      have st : Stp sc B Hb (upd B' x (.ins Ad' dx' ((cl.flds n).zip us))) H' := F'.entry.settle hx h hB sx
      exact q (obj n ds) n' pp _ H' st F'.src (.ins hA' upd_same (by rw [rr.length]; exact hl) (rr.mono (same_upd hB)))
  · intro d n' z; exact z.elim
  · intro ρ' n' z; exact z.elim
  · intro ρ' n' z; exact z.elim
end
end DS

/-! DS15: C(*y, k = v, ..), data: the object made; keywords. -/
namespace DS
open PySem L2
theorem pk_weak {X : Cx} {kws : List Keyword} {t t' : TA} (h : PK X kws t) (w : ∀ σ H Q, t' σ H Q → t σ H Q) : PK X kws t' := ⟨fun p pins s σ H Q I q => h.run p pins s σ H Q I (w σ H Q q)⟩
section
variable {X : Cx} {C : Cn}
theorem dk_nil : PK X [] (tA C mNil) := pk_weak pk_nil fun σ H Q ⟨B, ρ, n, P, R, F, w, ox, k⟩ => k [] n w [] B H F.self F.src .nil
theorem dk_cons {e : Expr} {nm : Option Str} {kp : Pos} {kws : List Keyword} {m : M} {r : MA} (ha : DE X C e m) (hr : PK X kws (tA C r)) : PK X (⟨nm, e, kp⟩ :: kws) (tA C (mCons m r)) :=
  pk_weak (pk_cons ha hr) fun σ H Q ⟨B, ρ, n, P, R, F, w, ox, k⟩ =>
    ⟨B, ρ, n, _, R, F, w, ox, fun d n1 hb v B1 H1 s1 k1 rv => ⟨B1, ρ, n1, _, R, F.step s1 k1, hb, ox.step s1, fun as n2 p vs B2 H2 s2 k2 rs => k _ n2 p (v :: vs) B2 H2 (s1.trans s2) k2 (.cons (.dat (rv.mono s2.old)) rs)⟩⟩
def seqOf : D → Option (List D)
  | .list ds => some ds
  | .tuple ds => some ds
  | _ => none
/-- C(*o, k = .., ..): the object -/
def mMakeSK (nk : Nat) (g : GK) (o : M) (a : MA) : M := fun ρ m P R => o ρ m (fun d m1 => a ρ m1 (fun as m2 => ∃ os zs, seqOf d = some os ∧ datAll as = some zs ∧ zs.length = nk ∧ os.length ≤ sizeLine ∧ g os zs m2 P R) R) R
theorem de_makeSK {k nk : Nat} {f Ad : Addr} {ks : List Str} {g : GK} {x : Str} {e : Expr} {kws : List Keyword} {o : M} {a : MA} {p sp_ pos : Pos} (hK : X.K = C.K) (M : Mk X.K Ad f) (F : StK.FnRK X.prog X.w X.K X.mg X.base (L2.CX X.prog X.w) k f ks (spMk C.K C.cl Ad nk g)) (hr : Room (k + 1) X.A) (hg : Gl X x) (hm : X.mg x = some (.ref Ad))
    (hx : Passes (L2.CX X.prog X.w) X C.E) (he : DE X C e o) (hkw : PK X kws (tA C a)) (hdb : (x == ("__debug__" : Str)) = false := by decide)
    (hall : (backToKw pos (keywordEach kws X.env)).all (·.1.isSome) = true := by rfl) (hks : (backToKw pos (keywordEach kws X.env)).filterMap (·.1) = ks := by rfl) (hst : starEach [.Starred e sp_] X.env = [(true, eval e X.env)] := by rfl) :
    DE X C (.Call (.Name x p) [.Starred e sp_] kws pos) (mMakeSK nk g o a) :=
  pe_weak (StK.pe_makeSK M F hr hg hm hx he hkw hdb hall hks hst) fun σ H Q ⟨B, ρ, m, P, R, F0, w, ox, kk⟩ => by
    rw [hK]
    refine ⟨B, ρ, m, _, R, F0, w, ox, fun d m1 w1 v B1 H1 s1 k1 rv => ⟨B1, ρ, m1, _, R, F0.step s1 k1, w1, ox.step s1, fun as m2 ⟨os, zs, e1, e2, hz, hl, hg⟩ us B2 H2 s2 k2 rs => ?_⟩⟩
    have fin : ∀ xs, DRs C.K C.cl B1 xs os → ∀ x dx, H2 x = none → H2 dx = none → dx ≠ x → spMk C.K C.cl Ad nk g (V.ref x :: xs) us (upd (upd H2 dx (.own x)) x (.ins Ad dx [])) (fun v H3 => v = .non ∧ Q (.ref x) H3) C.E := fun xs rx x dx hx hdx hne =>
      ⟨x, dx, xs, H2, C.sc, B2, m2, os, zs, P, R, rfl, rfl, hx, hdx, hne, s2.sub, s2.nos, k2, rx.mono s2.old, datAll_rel rs e2, hz, hl, hg, ox.step (s1.trans s2), fun d n' p B' H' s3 k3 r => ⟨rfl, kk d n' p (.ref x) B' H' ((s1.trans s2).trans s3) k3 r⟩⟩
    cases rv with
    | lst h r => cases e1; exact ⟨_, _, rfl, .inr (SqL.of (s2.sub _ _ (s2.old _ _ h))), fin _ r⟩
    | tup h r => cases e1; exact ⟨_, _, rfl, .inl (sqt_same s2.sub (sqt_same s2.old h)), fin _ r⟩
    | non => cases e1
    | bl _ => cases e1
    | int _ => cases e1
    | str _ => cases e1
    | ins _ _ _ _ => cases e1
end
end DS

/-! DS16: C(e, .., k = v, ..) and C(k = v, ..) where the __init__ has a star parameter. -/
namespace StK
open PySem PySem.Spec PyProof.Rows L2 StX
section
variable {X : Cx} {CX : CXT} {k : Nat} {f C : Addr} {ks : List Str} {sp : SpK} {E : XK} {x : Str} {e : Expr} {es : List Expr} {kws : List Keyword} {t tk : TA} {p pos : Pos}
def tMakePK (C : Addr) (sp : SpK) (E : XK) (t tk : TA) : TE := fun σ H Q => t σ H fun vs H1 => tk σ H1 fun zs H2 => ∀ x dx, H2 x = Option.none → H2 dx = Option.none → dx ≠ x →
  sp (V.ref x :: vs) zs (upd (upd H2 dx (.own x)) x (.ins C dx [])) (fun v H3 => v = .non ∧ Q (.ref x) H3) E
theorem pe_makePK (M : Mk X.K C f) (F : FnRK X.prog X.w X.K X.mg X.base CX k f ks sp) (hr : Room (k + 1) X.A) (hg : Gl X x) (hm : X.mg x = some (.ref C)) (hx : Passes CX X E) (ha : PA X (e :: es) t) (hkw : PK X kws tk) (hdb : (x == ("__debug__" : Str)) = false := by decide)
    (hall : (backToKw pos (keywordEach kws X.env)).all (·.1.isSome) = true := by rfl) (hks : (backToKw pos (keywordEach kws X.env)).filterMap (·.1) = ks := by rfl)
    (he : starEach (e :: es) X.env = (false, eval e X.env) :: starEach es X.env := by rfl) (hpl : ((backTo pos (starEach (e :: es) X.env)).any (·.1) || (backToKw pos (keywordEach kws X.env)).any (·.1.isNone)) = false := by rfl) :
    PE X (.Call (.Name x p) (e :: es) kws pos) (tMakePK C sp E t tk) := by
  refine ⟨fun pins s σ H Q I h => ?_⟩
  refine wpAny_Call_Name_kw (ld_glob I hg hm ?_ hdb)
  refine PySem.W.callWith_KW (h₀ := X.base) I.ok.mod.kin M.kp hall (thn (ha.run pos pins s σ H _ I h) fun us s1 ⟨vs, H1, I1, r, q⟩ => ?_) hpl he
  refine thn (hkw.run pos pins s1 σ H1 _ I1 q) fun ws s2 ⟨zs, H2, I2, rz, q2⟩ => ⟨I2.kIn, ?_⟩
  rw [hks]
  exact run_makeRK M F hr hx I2 r rz q2
theorem pe_makePK0 (M : Mk X.K C f) (F : FnRK X.prog X.w X.K X.mg X.base CX k f ks sp) (hr : Room (k + 1) X.A) (hg : Gl X x) (hm : X.mg x = some (.ref C)) (hx : Passes CX X E) (hkw : PK X kws tk) (hdb : (x == ("__debug__" : Str)) = false := by decide)
    (hall : (backToKw pos (keywordEach kws X.env)).all (·.1.isSome) = true := by rfl) (hks : (backToKw pos (keywordEach kws X.env)).filterMap (·.1) = ks := by rfl)
    (hpl : ((backTo pos (starEach [] X.env)).any (·.1) || (backToKw pos (keywordEach kws X.env)).any (·.1.isNone)) = false := by rfl) :
    PE X (.Call (.Name x p) [] kws pos) (tMakePK C sp E tNil tk) := by
  refine ⟨fun pins s σ H Q I h => ?_⟩
  refine wpAny_Call_Name_kw (ld_glob I hg hm ?_ hdb)
  refine PySem.W.callWith_KW0 (h₀ := X.base) I.ok.mod.kin M.kp hall ?_ hpl
  refine thn (hkw.run pos pins s σ H _ I h) fun ws s2 ⟨zs, H2, I2, rz, q2⟩ => ⟨I2.kIn, ?_⟩
  rw [hks]
  exact run_makeRK (us := []) (vs := []) M F hr hx I2 .nil rz q2
end
end StK
namespace DS
open PySem L2
section
variable {X : Cx} {C : Cn}
/-- C(e, .., k = .., ..): the object -/
def mMakePK (nk : Nat) (g : GK) (o a : MA) : M := fun ρ m P R => o ρ m (fun bs m1 => a ρ m1 (fun as m2 => ∃ os zs, datAll bs = some os ∧ datAll as = some zs ∧ zs.length = nk ∧ os.length ≤ sizeLine ∧ g os zs m2 P R) R) R
theorem t_makePK {g : GK} {Ad : Addr} {nk : Nat} {o a : MA} {σ : St} {H : Hp} {Q : VK} (h : tD C (mMakePK nk g o a) σ H Q) : StK.tMakePK Ad (spMk C.K C.cl Ad nk g) C.E (tA C o) (tA C a) σ H Q := by
  obtain ⟨B, ρ, m, P, R, F0, w, ox, kk⟩ := h
  refine ⟨B, ρ, m, _, R, F0, w, ox, fun bs m1 w1 vs B1 H1 s1 k1 rb => ⟨B1, ρ, m1, _, R, F0.step s1 k1, w1, ox.step s1, fun as m2 ⟨os, zs, e1, e2, hz, hl, hg⟩ us B2 H2 s2 k2 rs => ?_⟩⟩
  intro x dx hx hdx hne
  exact ⟨x, dx, vs, H2, C.sc, B2, m2, os, zs, P, R, rfl, rfl, hx, hdx, hne, s2.sub, s2.nos, k2, (datAll_rel rb e1).mono s2.old, datAll_rel rs e2, hz, hl, hg, ox.step (s1.trans s2), fun d n' p B' H' s3 k3 r => ⟨rfl, kk d n' p (.ref x) B' H' ((s1.trans s2).trans s3) k3 r⟩⟩
theorem de_makePK {k nk : Nat} {f Ad : Addr} {ks : List Str} {g : GK} {x : Str} {e : Expr} {es : List Expr} {kws : List Keyword} {o a : MA} {p pos : Pos} (M : Mk X.K Ad f) (F : StK.FnRK X.prog X.w X.K X.mg X.base (L2.CX X.prog X.w) k f ks (spMk C.K C.cl Ad nk g)) (hr : Room (k + 1) X.A) (hg : Gl X x) (hm : X.mg x = some (.ref Ad))
    (hx : Passes (L2.CX X.prog X.w) X C.E) (ho : DA X C (e :: es) o) (hkw : PK X kws (tA C a)) (hdb : (x == ("__debug__" : Str)) = false := by decide)
    (hall : (backToKw pos (keywordEach kws X.env)).all (·.1.isSome) = true := by rfl) (hks : (backToKw pos (keywordEach kws X.env)).filterMap (·.1) = ks := by rfl)
    (he : starEach (e :: es) X.env = (false, eval e X.env) :: starEach es X.env := by rfl) (hpl : ((backTo pos (starEach (e :: es) X.env)).any (·.1) || (backToKw pos (keywordEach kws X.env)).any (·.1.isNone)) = false := by rfl) :
    DE X C (.Call (.Name x p) (e :: es) kws pos) (mMakePK nk g o a) := pe_weak (StK.pe_makePK M F hr hg hm hx ho hkw hdb hall hks he hpl) fun _ _ _ => t_makePK
theorem de_makePK0 {k nk : Nat} {f Ad : Addr} {ks : List Str} {g : GK} {x : Str} {kws : List Keyword} {a : MA} {p pos : Pos} (M : Mk X.K Ad f) (F : StK.FnRK X.prog X.w X.K X.mg X.base (L2.CX X.prog X.w) k f ks (spMk C.K C.cl Ad nk g)) (hr : Room (k + 1) X.A) (hg : Gl X x) (hm : X.mg x = some (.ref Ad))
    (hx : Passes (L2.CX X.prog X.w) X C.E) (hkw : PK X kws (tA C a)) (hdb : (x == ("__debug__" : Str)) = false := by decide)
    (hall : (backToKw pos (keywordEach kws X.env)).all (·.1.isSome) = true := by rfl) (hks : (backToKw pos (keywordEach kws X.env)).filterMap (·.1) = ks := by rfl)
    (hpl : ((backTo pos (starEach [] X.env)).any (·.1) || (backToKw pos (keywordEach kws X.env)).any (·.1.isNone)) = false := by rfl) :
    DE X C (.Call (.Name x p) [] kws pos) (mMakePK nk g mNil a) := pe_weak (StK.pe_makePK0 M F hr hg hm hx hkw hdb hall hks hpl) fun σ H Q ⟨B, ρ, m, P, R, F0, w, ox, kk⟩ => by
  refine ⟨B, ρ, m, _, R, F0, w, ox, fun as m2 ⟨os, zs, e1, e2, hz, hl, hg⟩ us B2 H2 s2 k2 rs => ?_⟩
  cases e1
  intro x dx hx hdx hne
  exact ⟨x, dx, [], H2, C.sc, B2, m2, [], zs, P, R, rfl, rfl, hx, hdx, hne, s2.sub, s2.nos, k2, .nil, datAll_rel rs e2, hz, hl, hg, ox.step s2, fun d n' p B' H' s3 k3 r => ⟨rfl, kk d n' p (.ref x) B' H' (s2.trans s3) k3 r⟩⟩
end
end DS

/-! DS17: a field of the object under way. -/
namespace DS
open PySem L2
section
variable {X : Cx} {C : Cn}
/-- self.f, self under way in slot i: its j-th field -/
def mBFld (i n j : Nat) : M := fun ρ m P R => ∃ x ds z, ρ[i]? = some (.bld x n ds) ∧ ds[j]? = some z ∧ P z m
theorem de_bfld (i n j : Nat) {x f : Str} {px pos : Pos} (hK : X.K = C.K) (T : ObC C.K C.cl n) (hf : (C.cl.flds n)[j]? = some f) (hN : X.N[i]? = some x := by rfl)
    (hv : Vis X.env.scope x := by first | exact Or.inl rfl | exact Or.inr (Or.inl rfl) | exact Or.inr (Or.inr rfl)) (hd : (x == ("__debug__" : Str)) = false := by decide) (hcd : (x == ("__classdict__" : Str)) = false := by decide)
    (hb : attributeBase (.Name x px) f X.env (eval (.Name x px) X.env) = eval (.Name x px) X.env := by rfl) : DE X C (.Attribute (.Name x px) f pos) (mBFld i n j) :=
  pe_weak (pe_fld (pe_var hN hv hd hcd) hb) fun σ H Q ⟨B, ρ, m, P, R, F, ⟨xo, ds, z, e0, ez, p⟩, ox, k⟩ => by
    rw [hK]
    obtain ⟨a, e1, e2⟩ := paired_get F.slo e0
    cases e2 with
    | @bld _ Ad dx _ vs _ hA h0 hB hsx h r =>
      obtain ⟨v, hv, rv⟩ := r.getV ez
      exact ⟨_, e1, xo, Ad, dx, _, v, rfl, h, T.cls _ hA, T.no _ _ hA (List.mem_of_getElem? hf), zip_lookup T.nd hf hv, k z m p v B H F.self F.src rv⟩
end
end DS

/-! DS18: isinstance(x, (T, U)); a class's own constant. -/
namespace DS
open PySem L2
def kitB2 (c T U : String) : Option Bool := match kitB c T with
  | some true => some true
  | some false => kitB c U
  | none => none
def fIs2 (T U : String) (x : D) : Option D := (clsOf x).bind fun c => (kitB2 c T U).map .bool
def mIs2 (T U : String) (m : M) : M := m1 (fIs2 T U) m
section
variable {X : Cx} {C : Cn}
theorem kit_ty2 {K : Fg} {c T U : String} {b : Bool} (h : kitB2 c T U = some b) : PySem.W.kitAny K (.type c) [.type T, .type U] = some b := by
  unfold kitB2 at h
  unfold PySem.W.kitAny
  split at h
  · rename_i e; cases h; rw [kit_ty e]
  · rename_i e
    rw [kit_ty e]
    show PySem.W.kitAny K (.type c) [.type U] = some b
    unfold PySem.W.kitAny
    rw [kit_ty h]
    cases b <;> rfl
  · cases h
theorem de_is2 {T U : String} {a : M} {e t u : Expr} {x2} {tpos p pos : Pos} (hK : X.K = C.K) (hg : Gl X "isinstance") (hm : X.mg "isinstance" = none) (ha : QE X C e a) (ht : PE X t (tC (.ty T))) (hu : PE X u (tC (.ty U)))
    (he : starEach (e :: [.Tuple [t, u] x2 tpos]) X.env = (false, eval e X.env) :: starEach [.Tuple [t, u] x2 tpos] X.env := by rfl) (he2 : starEach (.Tuple [t, u] x2 tpos :: []) X.env = (false, eval (.Tuple [t, u] x2 tpos) X.env) :: starEach [] X.env := by rfl)
    (ht2 : starEach (t :: [u]) X.env = (false, eval t X.env) :: starEach [u] X.env := by rfl) (hu2 : starEach (u :: []) X.env = (false, eval u X.env) :: starEach [] X.env := by rfl)
    (hpl : (backTo pos (starEach [.Tuple [t, u] x2 tpos] X.env)).any (·.1) = false := by rfl) : DE X C (.Call (.Name "isinstance" p) [e, .Tuple [t, u] x2 tpos] [] pos) (mIs2 T U a) :=
  pe_weak (pe_callB call_isiT hg hm (by decide +kernel) (pa_cons ha (pa_cons (pe_tup (pa_cons ht (pa_cons hu pa_nil hu2) ht2)) pa_nil he2) he) (by decide) (by decide) he hpl) fun σ H Q ⟨B, ρ, n, P, R, F, w, ox, k⟩ => by
    refine ⟨B, ρ, n, _, R, F, w, ox, fun dx n1 hz x B1 H1 s1 k1 rx => ?_⟩
    obtain ⟨z, hz, p⟩ := hz
    unfold fIs2 at hz
    obtain ⟨c, e1, e2⟩ := Option.bind_eq_some_iff.mp hz
    obtain ⟨b, e3, e4⟩ := Option.map_eq_some_iff.mp e2
    subst e4
    refine ⟨by show 2 ≤ sizeLine; decide, fun q hq => ?_⟩
    have s2 := s1.lay (o := .tup [.ty T, .ty U]) hq
    refine ⟨x, q, [.ty T, .ty U], .type c, [.type T, .type U], b, rfl, upd_same, .cons (.ty T) (.cons (.ty U) .nil), ?_, kit_ty2 e3, k _ n1 p _ B1 _ s2 (src_lay k1 hq) (.bl b)⟩
    rw [hK]
    exact tyx_of (fun a o z => by
      have z' := hid_sub _ _ z
      rw [upd_ne (ne_of_none z' hq)]
      exact z') (rx.dr s1.hid) e1
end
end DS

/-! DS19: enumerate(x), x a tuple or a list. -/
namespace EnT
open PySem PySem.W PyProof.Rows
open AutoSeq1 (wpAny_loadPart')
theorem meets_new1 {v : Value} {o : Obj} {H : Heap → Prop} (B : Begins v o H) :
    Meets (Builtin.«enumerate.__new__» ⟨[.type "enumerate", v], []⟩) (fun _ R s => H s.heap ∧
      R (.ok (.ret (.ref (s.heap.push o).objs.size))) { s with heap := (s.heap.push o).push { cls := .type "enumerate", data := .fields #[.none, .bool false, .ref s.heap.objs.size, rawInt 0, .none, .none] } }) :=
  .of_wp fun prog w A R s h => by
    obtain ⟨hp, g, d, tk, os⟩ := s; obtain ⟨h1, h⟩ := h
    have hsub := sub_enumerate
    have q1 : ∀ {A' : Around} {E : Value → Shared → Prop} {Q : Value → Shared → Prop}, Q (.ref hp.objs.size) ⟨hp.push o, g, d, tk, os⟩ → wpAny (model prog w) A' (pyIter v) Q E ⟨hp, g, d, tk, os⟩ :=
      fun q => B.iter prog w _ _ ⟨hp, g, d, tk, os⟩ _ h1 q
    wp_walk using q1
    refine wpAny_stack_any fun st => wpAny_pure ?_
    split
    · rename_i c _ _ _ _ _
      cases (c == Value.type "enumerate")
      · wp_walk using q1
        exact ⟨_, rfl, h⟩
      · wp_walk using q1
        exact ⟨_, rfl, h⟩
    · wp_walk using q1
      exact ⟨_, rfl, h⟩
section
variable {prog : Program} {w : World} {A : Around} {E : Value → Shared → Prop} {s : Shared}
theorem begins1 {v : Value} {o : Obj} {H : Heap → Prop} {Q : Value → Shared → Prop} (B : Begins v o H) (h1 : H s.heap)
    (h : ∀ h', IsEnum h' (s.heap.objs.size + 1) s.heap.objs.size 0 .none → h'.get? s.heap.objs.size = some o → h'.objs.size = s.heap.objs.size + 2 →
      (∀ b o, s.heap.get? b = some o → h'.get? b = some o) → Q (.ref (s.heap.objs.size + 1)) { s with heap := h' }) :
    wpAny (model prog w) A (call (.type "enumerate") [v]) Q E s := by
  refine callType_new F.called_enumerate (by decide) (F.typeCall_enumerate_1 _) (F.newCall_enumerate_1 _) (fun obj => F.args_object_init_2 obj _) F.entry_enumerate_new
    (meets_new1 B) ⟨h1, ?_⟩
  have hz : (s.heap.push o).objs.size = s.heap.objs.size + 1 := Heap.size_push ..
  show _ ∧ _
  rw [hz]
  have he : IsEnum ((s.heap.push o).push { cls := .type "enumerate", data := .fields #[.none, .bool false, .ref s.heap.objs.size, rawInt 0, .none, .none] }) (s.heap.objs.size + 1) s.heap.objs.size 0 .none := by
    have := Heap.get?_push_size (s.heap.push o) (o := { cls := .type "enumerate", data := .fields #[.none, .bool false, .ref s.heap.objs.size, rawInt 0, .none, .none] }) rfl
    rw [hz] at this; exact this
  refine ⟨⟨_, he, rfl⟩, h _ he (Heap.get?_push_of_some _ (Heap.get?_push_size _ B.free)) (by rw [Heap.size_push, hz]) fun b o x => Heap.get?_push_of_some _ (Heap.get?_push_of_some _ x)⟩
theorem next_end {e it t : Addr} {i : Nat} {k : Int} {items : Array Value} {old : Value} {Q : Option Value → Shared → Prop} (hh : A.handled = none)
    (he : IsEnum s.heap e it k old) (hit : s.heap.IsTupleIter it t i) (ht : s.heap.IsTuple t items) (hi : items[i]? = Option.none)
    (hQ : ∀ h', Heap.ExtBut it s.heap h' → Q none { s with heap := h' }) : wpAny (model prog w) A (pyNext (.ref e)) Q E s := by
  have hT : s.TypeIs (.ref e) "enumerate" := ⟨_, he, rfl⟩
  unfold pyNext
  refine wpAny_bind (wpAny_attempt (wpAny_callSpecial?_slot (name := Str.ofString "__next__") hT F.slot_enumerate_next
    (wpAny_call_entry F.slot_enumerate_next hT F.entry_enumerate_next ?_ (F.args_enumerate_next_1 _))))
  show wpAny _ _ (field (.ref e) 2 >>= _) _ _ _
  refine wpAny_bind (wpAny_field he rfl (x := .ref it) rfl ?_)
  refine wpAny_bind (wpAny_nextOf_tuple_end hh hit ht hi fun h' x he' hx' => ?_)
  obtain ⟨o, ho, hc⟩ := hx'
  refine wpAny_bind (wpAny_isInstance (T := "StopIteration") (b := true) ⟨o, ho, hc⟩ isSubtype_stop ?_)
  exact wpAny_pure (hQ _ he')
end
end EnT
namespace L2
open PySem PySem.Spec PyProof.Rows
/-- the tuple at a as it stands at each turn, each item in a new pair -/
def Iet (K : PySem.W.Frag) (a : Addr) : It :=
  ⟨fun i H => ∃ (xs : List V) (x : V), SqT K H a xs ∧ xs[i]? = some x, fun i H v H' => ∃ T x, v = .ref T ∧ H T = none ∧ H' = upd H T (.tup [.int (i : Nat), x]) ∧ ∀ xs, SqT K H a xs → xs[i]? = some x, fun i H => ∃ xs : List V, SqT K H a xs ∧ xs.length ≤ i⟩
theorem turn_enumT {P : Program} {w : World} {K : PySem.W.Frag} {elts : List Expr} {kk : Nat} {tpos : Pos} (a e it : Addr) :
    Turn P w K (.Tuple elts kk tpos) (Iet K a) [e, it] e (fun i h => (∃ old, IsEnum h e it ((i : Nat) : Int) old) ∧ h.IsTupleIter it a i ∧ e ≠ it) where
  mem := by simp
  obj := fun i h st b hb => by
    obtain ⟨⟨old, he⟩, ⟨o, ho, hc, hd⟩, _⟩ := st
    have e' : b = e ∨ b = it := by simpa using hb
    rcases e' with z | z
    · rw [z]; exact ⟨_, he, fun v q => nomatch q⟩
    · rw [z]; exact ⟨o, ho, fun v q => by rw [hd] at q; cases q⟩
  keep := fun i h h' st k => let ⟨⟨old, he⟩, hi, hne⟩ := st; ⟨⟨old, k e (by simp) _ he⟩, hi.at fun o q => k it (by simp) o q, hne⟩
  item := by
    intro X hP hw hK hc i pins s σ H E I hf st hg
    subst hP hw hK
    obtain ⟨⟨old, he⟩, hit, hne⟩ := st
    obtain ⟨xs, x, hq, hx⟩ := hg
    obtain ⟨its, rv, p, hz⟩ := I.tuple hq
    have p' : s.heap.IsTuple a its.toArray := p
    obtain ⟨u, hu, ru⟩ := rv.get hx
    have hel : e < s.heap.objs.size := Heap.lt_size he
    have hil : it < s.heap.objs.size := by obtain ⟨_, q, _⟩ := hit; exact Heap.lt_size q
    have hai : a ≠ it := fun z => by
      obtain ⟨o1, h1, c1, _⟩ := id p'
      obtain ⟨o2, h2, c2, _⟩ := id hit
      rw [z] at h1
      have eo : o1 = o2 := Option.some.inj (h1.symm.trans h2)
      rw [eo, c2] at c1
      simp at c1
    have hae : e ≠ a := fun z => by
      obtain ⟨o1, h1, c1, _⟩ := id p'
      rw [← z] at h1
      have eo := Option.some.inj (h1.symm.trans he)
      rw [eo] at c1
      simp at c1
    have hlt : i < its.toArray.size := by
      have := (List.getElem?_eq_some_iff.mp hu).1
      simpa using this
    refine wpAny_pyNext_enum_itemD (PySem.Draws.tuple (prog := X.prog) (w := X.w) (A := X.A.in1) (I.ok.hd hc) it a hai its.toArray) he ⟨hit, p'⟩ hlt hne (by simp [hne, hae]) fun v h' tk hv ho hst' hT hsz hk => ?_
    have ev : v = u := by
      have h2 : its.toArray[i]? = some u := by simpa using hu
      exact Option.some.inj (hv.symm.trans h2)
    subst ev
    refine ⟨_, rfl, wpAny_letOwnedTupleGo_enum (s := { s with heap := h', toks := tk + 1 }) ho fun h'' he' sb => ?_⟩
    have hT2 : h''.get? s.heap.objs.size = some { cls := .type "tuple", data := .seq #[.int i tk, v] } := (sb.2 _ (Nat.ne_of_gt hel)).trans hT
    have new : ObjOk X.prog X.w (upd H s.heap.objs.size (.tup [.int (i : Nat), x])) h'' s.heap.objs.size (.tup [.int (i : Nat), x]) :=
      ⟨by show 2 ≤ sizeLine; decide, [.int i tk, v], .cons ⟨_, rfl⟩ (.cons ru .nil), ⟨_, hT2, rfl, _, rfl⟩⟩
    have I1 : Inv X pins σ (upd H s.heap.objs.size (.tup [.int (i : Nat), x])) { s with heap := h'', toks := tk + 1 } :=
      I.turnedNew (ch := [e, it]) (fun b ob hb q => (sb.2 b (fun z => hb (by simp [z]))).trans (hk b ob (fun z => hb (by simp [z])) (fun z => hb (by simp [z])) q)) hf (Nat.le_refl _) new
    refine ⟨.ref s.heap.objs.size, _, I1, rfl, ⟨_, x, rfl, I.hok.fresh (Nat.le_refl _), rfl, fun ys hy => by rw [I.tuple_inj hy hq]; exact hx⟩, ⟨⟨v, ?_⟩, hst'.1.at fun o q => (sb.2 it (Ne.symm hne)).trans q, hne⟩, fun b hb => ?_⟩
    · have e1 : ((i + 1 : Nat) : Int) = (i : Int) + 1 := by omega
      rw [e1]; exact he'
    · have hb' : b < s.heap.objs.size := by
        have e' : b = e ∨ b = it := by simpa using hb
        rcases e' with z | z
        · rw [z]; exact hel
        · rw [z]; exact hil
      rw [upd_ne (Nat.ne_of_lt hb')]
      exact (hf b hb).1
  done := by
    intro X hP hw hK hc i pins s σ H E I hf st hg
    subst hP hw hK
    obtain ⟨⟨old, he⟩, hit, hne⟩ := st
    obtain ⟨xs, hq, hx⟩ := hg
    obtain ⟨its, rv, p, hz⟩ := I.tuple hq
    obtain ⟨f0, f1, f2, f3, f4, f5⟩ := hf it (by simp)
    have hl := rv.length
    exact EnT.next_end (I.ok.hd hc) he hit (show s.heap.IsTuple a its.toArray from p) (by simp; omega) fun h' eb => ⟨rfl, I.turned (t' := s.toks) (fun b o hb q => eb b o hb q) f0 f1 f3 f4 f5⟩
  self := fun A i s Q E st h => let ⟨⟨_, he⟩, _⟩ := st; wpAny_pyIter_enum he h
def iEnumT (K : PySem.W.Frag) (ta : TA) : TI := fun σ H R => ta σ H fun vs H1 => ∃ a xs, vs = [.ref a] ∧ SqT K H1 a xs ∧ R (Iet K a) H1
theorem pi_enumT {X : Cx} {e : Expr} {ta : TA} {p pos tpos : Pos} {elts : List Expr} {kk : Nat} (hg : Gl X "enumerate") (hm : X.mg "enumerate" = none) (ha : PA X [e] ta) (hs : starEach [e] X.env = [(false, eval e X.env)] := by rfl) :
    PI X (.Tuple elts kk tpos) (.Call (.Name "enumerate" p) [e] [] pos) (iEnumT X.K ta) := by
  refine ⟨fun pins s σ H R I h => ?_⟩
  refine Call_ (ld_blt I hg hm boot_enumerate (PyProof.Rows.callWith_type1 (thn (ha.run pos pins s σ H _ I h) fun us s1 ⟨vs, H1, I1, r1, q1⟩ => ?_) hs rfl))
  obtain ⟨a, xs, ex, hq, q⟩ := q1
  subst ex
  cases r1 with
  | cons r rr =>
    cases rr
    cases r
    obtain ⟨its, rv, p', hz⟩ := I1.tuple hq
    refine EnT.begins1 (PySem.begins_tuple a its.toArray) (show s1.heap.IsTuple a its.toArray from p') fun h' he ho hsz hk => wpAny_pyIter_enum he ?_
    have I2 : Inv X pins σ H1 { s1 with heap := h' } := I1.kept (t' := s1.toks) hk
    refine ⟨s1.heap.objs.size + 1, [s1.heap.objs.size + 1, s1.heap.objs.size], _, _, H1, rfl, I2, turn_enumT a (s1.heap.objs.size + 1) s1.heap.objs.size, ⟨⟨.none, he⟩, ⟨_, ho, rfl, rfl⟩, Nat.succ_ne_self _⟩, fun b hb => ?_, q⟩
    have e' : b = s1.heap.objs.size + 1 ∨ b = s1.heap.objs.size := by simpa using hb
    have hle : s1.heap.objs.size ≤ b := by
      rcases e' with z | z
      · rw [z]; exact Nat.le_add_right _ _
      · rw [z]; exact Nat.le_refl _
    exact I1.fpOk hle (I1.hok.fresh hle)
end L2

/-! DS20: enumerate over data. -/
namespace DS
open PySem L2
/-- the pairs that enumerate gives -/
def enumD (ds : List D) : List D := ds.zipIdx.map fun p => .tuple [.int (p.2 : Int), p.1]
theorem enumD_length (ds : List D) : (enumD ds).length = ds.length := by unfold enumD; rw [List.length_map, List.length_zipIdx]
theorem enumD_get {ds : List D} {i : Nat} {d : D} (h : ds[i]? = some d) : (enumD ds)[i]? = some (.tuple [.int (i : Int), d]) := by
  unfold enumD
  rw [List.getElem?_map, List.getElem?_zipIdx, h]
  simp
section
variable {X : Cx} {C : Cn}
theorem wk_enumT {a : Addr} {vs : List V} {ds : List D} {Kp : Hp → Hp → Prop} (h : ∀ B H, Kp B H → Same B H → SqT C.K H a vs ∧ DRs C.K C.cl B vs ds) : Wk C (Iet C.K a) (enumD ds) Kp := fun B H i n kp s ns sr => by
  obtain ⟨h1, r⟩ := h B H kp s
  rw [enumD_length]
  refine ⟨fun hi => ⟨?_, fun x H' y => ?_⟩, fun hi => ⟨vs, h1, by rw [r.length]; exact hi⟩⟩
  · have hi' : i < vs.length := by rw [r.length]; exact hi
    exact ⟨vs, vs[i], h1, List.getElem?_eq_getElem hi'⟩
  · obtain ⟨T, v, rfl, hT, rfl, y⟩ := y
    obtain ⟨d, e, q⟩ := r.get (y vs h1)
    have s0 : Stp C.sc B H B H := Stp.refl s ns
    have hb : B T = none := none_of s0 hT
    exact ⟨_, _, enumD_get e, s0.put (o := .tup [.int (i : Nat), v]) hT sr, src_lay sr hT, .tup (SqT.of upd_same) (.cons (.int _) (.cons (q.mono (same_upd hb)) .nil))⟩
theorem wk_enumL {a : Addr} {vs : List V} {ds : List D} {Kp : Hp → Hp → Prop} (h : ∀ B H, Kp B H → Same B H → H a = some (.lst vs) ∧ DRs C.K C.cl B vs ds) : Wk C (Ite C.K a) (enumD ds) Kp := fun B H i n kp s ns sr => by
  obtain ⟨h1, r⟩ := h B H kp s
  rw [enumD_length]
  refine ⟨fun hi => ⟨?_, fun x H' y => ?_⟩, fun hi => ⟨vs, SqL.of h1, by rw [r.length]; exact hi⟩⟩
  · have hi' : i < vs.length := by rw [r.length]; exact hi
    exact ⟨vs, vs[i], SqL.of h1, List.getElem?_eq_getElem hi'⟩
  · obtain ⟨T, v, rfl, hT, rfl, y⟩ := y
    obtain ⟨d, e, q⟩ := r.get (y vs (SqL.of h1))
    have s0 : Stp C.sc B H B H := Stp.refl s ns
    have hb : B T = none := none_of s0 hT
    exact ⟨_, _, enumD_get e, s0.put (o := .tup [.int (i : Nat), v]) hT sr, src_lay sr hT, .tup (SqT.of upd_same) (.cons (.int _) (.cons (q.mono (same_upd hb)) .nil))⟩
def mEnumT (m : M) : MI := fun ρ n P R => m ρ n (fun d n1 => ∃ ds, d = .tuple ds ∧ P (enumD ds) n1) R
def mEnumL (m : M) : MI := fun ρ n P R => m ρ n (fun d n1 => ∃ ds, d = .list ds ∧ P (enumD ds) n1) R
theorem ie_enumT {elts : List Expr} {kk : Nat} {tpos p pos : Pos} {e : Expr} {m : M} (hK : X.K = C.K) (hg : Gl X "enumerate") (hm : X.mg "enumerate" = none) (h : DE X C e m) (hs : starEach [e] X.env = [(false, eval e X.env)] := by rfl) (hs2 : starEach (e :: []) X.env = (false, eval e X.env) :: starEach [] X.env := by rfl) :
    IE X C (.Tuple elts kk tpos) (.Call (.Name "enumerate" p) [e] [] pos) (mEnumT m) := pi_weak (pi_enumT hg hm (pa_cons h pa_nil hs2) hs) fun σ H R ⟨B, ρ, n, P, R0, F, w, ox, k⟩ => by
  rw [hK]
  refine ⟨B, ρ, n, _, R0, F, w, ox, fun d n1 p v B1 H1 s1 k1 r => ?_⟩
  obtain ⟨ds, rfl, p⟩ := p
  cases r with
  | tup h t => exact ⟨_, _, rfl, sqt_same s1.sub h, k _ n1 p _ B1 H1 s1 k1 (wk_enumT fun B' H' kp s => ⟨sqt_same s (sqt_same kp h), t.mono kp⟩)⟩
theorem ie_enumL {elts : List Expr} {kk : Nat} {tpos p pos : Pos} {e : Expr} {m : M} (hK : X.K = C.K) (hg : Gl X "enumerate") (hm : X.mg "enumerate" = none) (h : DE X C e m) (hs : starEach [e] X.env = [(false, eval e X.env)] := by rfl) (hs2 : starEach (e :: []) X.env = (false, eval e X.env) :: starEach [] X.env := by rfl) :
    IE X C (.Tuple elts kk tpos) (.Call (.Name "enumerate" p) [e] [] pos) (mEnumL m) := pi_weak (pi_enum hg hm (pa_cons h pa_nil hs2) hs) fun σ H R ⟨B, ρ, n, P, R0, F, w, ox, k⟩ => by
  rw [hK]
  refine ⟨B, ρ, n, _, R0, F, w, ox, fun d n1 p v B1 H1 s1 k1 r => ?_⟩
  obtain ⟨ds, rfl, p⟩ := p
  cases r with
  | lst h t => exact ⟨_, _, rfl, SqL.of (s1.sub _ _ h), k _ n1 p _ B1 H1 s1 k1 (wk_enumL fun B' H' kp s => ⟨s _ _ (kp _ _ h), t.mono kp⟩)⟩
end
end DS

/-! DS21: what is a list or a tuple, walked. -/
namespace L2
open PySem PySem.Spec PyProof.Rows
def iEnumB (K : PySem.W.Frag) (ta : TA) : TI := fun σ H R => ta σ H fun vs H1 => ∃ a xs, vs = [.ref a] ∧ ((SqL K H1 a xs ∧ R (Ite K a) H1) ∨ (SqT K H1 a xs ∧ R (Iet K a) H1))
theorem pi_enumB {X : Cx} {e : Expr} {ta : TA} {p pos tpos : Pos} {elts : List Expr} {kk : Nat} (hg : Gl X "enumerate") (hm : X.mg "enumerate" = none) (ha : PA X [e] ta) (hs : starEach [e] X.env = [(false, eval e X.env)] := by rfl) :
    PI X (.Tuple elts kk tpos) (.Call (.Name "enumerate" p) [e] [] pos) (iEnumB X.K ta) := by
  refine ⟨fun pins s σ H R I h => ?_⟩
  refine Call_ (ld_blt I hg hm boot_enumerate (PyProof.Rows.callWith_type1 (thn (ha.run pos pins s σ H _ I h) fun us s1 ⟨vs, H1, I1, r1, q1⟩ => ?_) hs rfl))
  obtain ⟨a, xs, ex, q1⟩ := q1
  subst ex
  cases r1 with
  | cons r rr =>
    cases rr
    cases r
    rcases q1 with ⟨hq, q⟩ | ⟨hq, q⟩
    · obtain ⟨its, rv, p', hz⟩ := I1.list hq
      refine call_enumerate_list p'.isList fun h' he hit hsz hk => wpAny_pyIter_enum he ?_
      have I2 : Inv X pins σ H1 { s1 with heap := h' } := I1.kept (t' := s1.toks) hk
      refine ⟨s1.heap.objs.size + 1, [s1.heap.objs.size + 1, s1.heap.objs.size], _, _, H1, rfl, I2, turn_enum a (s1.heap.objs.size + 1) s1.heap.objs.size, ⟨⟨.none, he⟩, hit, Nat.succ_ne_self _⟩, fun b hb => ?_, q⟩
      have e' : b = s1.heap.objs.size + 1 ∨ b = s1.heap.objs.size := by simpa using hb
      have hle : s1.heap.objs.size ≤ b := by
        rcases e' with z | z
        · rw [z]; exact Nat.le_add_right _ _
        · rw [z]; exact Nat.le_refl _
      exact I1.fpOk hle (I1.hok.fresh hle)
    · obtain ⟨its, rv, p', hz⟩ := I1.tuple hq
      refine EnT.begins1 (PySem.begins_tuple a its.toArray) (show s1.heap.IsTuple a its.toArray from p') fun h' he ho hsz hk => wpAny_pyIter_enum he ?_
      have I2 : Inv X pins σ H1 { s1 with heap := h' } := I1.kept (t' := s1.toks) hk
      refine ⟨s1.heap.objs.size + 1, [s1.heap.objs.size + 1, s1.heap.objs.size], _, _, H1, rfl, I2, turn_enumT a (s1.heap.objs.size + 1) s1.heap.objs.size, ⟨⟨.none, he⟩, ⟨_, ho, rfl, rfl⟩, Nat.succ_ne_self _⟩, fun b hb => ?_, q⟩
      have e' : b = s1.heap.objs.size + 1 ∨ b = s1.heap.objs.size := by simpa using hb
      have hle : s1.heap.objs.size ≤ b := by
        rcases e' with z | z
        · rw [z]; exact Nat.le_add_right _ _
        · rw [z]; exact Nat.le_refl _
      exact I1.fpOk hle (I1.hok.fresh hle)
def iSeq (K : PySem.W.Frag) (tl : TE) : TI := fun σ H R => tl σ H fun x H1 => ∃ a xs, x = .ref a ∧ ((SqL K H1 a xs ∧ R (Itl K a) H1) ∨ (SqT K H1 a xs ∧ R (Itt K a) H1))
theorem pi_seq {X : Cx} {tg : Expr} {l : Expr} {tl : TE} (hl : PE X l tl) : PI X tg l (iSeq X.K tl) := by
  refine ⟨fun pins s σ H R I h => ?_⟩
  refine thn (hl.run pins s σ H _ I h) fun v s1 ⟨x, H1, I1, r1, q1⟩ => ?_
  obtain ⟨a, xs, e, q1⟩ := q1
  subst e
  cases r1
  rcases q1 with ⟨hq, q⟩ | ⟨hq, q⟩
  · obtain ⟨its, rv, p, hz⟩ := I1.list hq
    refine wpAny_pyIter_list p.isList ?_
    refine ⟨s1.heap.objs.size, [s1.heap.objs.size], _, _, H1, rfl, I1.kept (t' := s1.toks) fun b o e => Heap.get?_push_of_some _ e, turn_list a _, ⟨_, Heap.get?_push_size _ rfl, rfl, rfl⟩, fun b hb => ?_, q⟩
    have e : b = s1.heap.objs.size := by simpa using hb
    subst e
    exact I1.fpOk (Nat.le_refl _) (I1.hok.fresh (Nat.le_refl _))
  · obtain ⟨its, rv, p, hz⟩ := I1.tuple hq
    refine wpAny_pyIter_tuple (show s1.heap.IsTuple a its.toArray from p) ?_
    refine ⟨s1.heap.objs.size, [s1.heap.objs.size], _, _, H1, rfl, I1.kept (t' := s1.toks) fun b o e => Heap.get?_push_of_some _ e, turn_tuple a _, ⟨_, Heap.get?_push_size _ rfl, rfl, rfl⟩, fun b hb => ?_, q⟩
    have e : b = s1.heap.objs.size := by simpa using hb
    subst e
    exact I1.fpOk (Nat.le_refl _) (I1.hok.fresh (Nat.le_refl _))
end L2
namespace DS
open PySem L2
section
variable {X : Cx} {C : Cn}
/-- enumerate(x), x a list or a tuple -/
def mEnum (m : M) : MI := fun ρ n P R => m ρ n (fun d n1 => ∃ ds, seqOf d = some ds ∧ P (enumD ds) n1) R
theorem ie_enum {elts : List Expr} {kk : Nat} {tpos p pos : Pos} {e : Expr} {m : M} (hK : X.K = C.K) (hg : Gl X "enumerate") (hm : X.mg "enumerate" = none) (h : DE X C e m) (hs : starEach [e] X.env = [(false, eval e X.env)] := by rfl) (hs2 : starEach (e :: []) X.env = (false, eval e X.env) :: starEach [] X.env := by rfl) :
    IE X C (.Tuple elts kk tpos) (.Call (.Name "enumerate" p) [e] [] pos) (mEnum m) := pi_weak (pi_enumB hg hm (pa_cons h pa_nil hs2) hs) fun σ H R ⟨B, ρ, n, P, R0, F, w, ox, k⟩ => by
  rw [hK]
  refine ⟨B, ρ, n, _, R0, F, w, ox, fun d n1 p v B1 H1 s1 k1 r => ?_⟩
  obtain ⟨ds, e, p⟩ := p
  cases r with
  | lst h t => cases e; exact ⟨_, _, rfl, .inl ⟨SqL.of (s1.sub _ _ h), k _ n1 p _ B1 H1 s1 k1 (wk_enumL fun B' H' kp s => ⟨s _ _ (kp _ _ h), t.mono kp⟩)⟩⟩
  | tup h t => cases e; exact ⟨_, _, rfl, .inr ⟨sqt_same s1.sub h, k _ n1 p _ B1 H1 s1 k1 (wk_enumT fun B' H' kp s => ⟨sqt_same s (sqt_same kp h), t.mono kp⟩)⟩⟩
  | non => cases e
  | bl _ => cases e
  | int _ => cases e
  | str _ => cases e
  | ins _ _ _ _ => cases e
/-- the items of a list or a tuple -/
def mSeqI (m : M) : MI := fun ρ n P R => m ρ n (fun d n1 => ∃ ds, seqOf d = some ds ∧ P ds n1) R
theorem ie_seq {tg e : Expr} {m : M} (hK : X.K = C.K) (h : DE X C e m) : IE X C tg e (mSeqI m) := pi_weak (pi_seq h) fun σ H R ⟨B, ρ, n, P, R0, F, w, ox, k⟩ => by
  rw [hK]
  refine ⟨B, ρ, n, _, R0, F, w, ox, fun d n1 p v B1 H1 s1 k1 r => ?_⟩
  obtain ⟨ds, e, p⟩ := p
  cases r with
  | lst h t => cases e; exact ⟨_, _, rfl, .inl ⟨SqL.of (s1.sub _ _ h), k _ n1 p _ B1 H1 s1 k1 (wk_list fun B' H' kp s => ⟨s _ _ (kp _ _ h), t.mono kp⟩)⟩⟩
  | tup h t => cases e; exact ⟨_, _, rfl, .inr ⟨sqt_same s1.sub h, k _ n1 p _ B1 H1 s1 k1 (wk_tup fun B' H' kp s => ⟨sqt_same s (sqt_same kp h), t.mono kp⟩)⟩⟩
  | non => cases e
  | bl _ => cases e
  | int _ => cases e
  | str _ => cases e
  | ins _ _ _ _ => cases e
end
end DS

/-! DS22: a constant of a class, by the class's name. -/
namespace DS
open PySem L2 ClX
section
variable {X : Cx} {C : Cn}
theorem pe_cval {x f : Str} {Ad : Addr} {mc u : Value} {v : V} {px pos : Pos} (hg : Gl X x) (hm : X.mg x = some (.ref Ad)) (r : CRead X.K Ad mc) (k : CVal X.K Ad mc f v u) (hdb : (x == ("__debug__" : Str)) = false := by decide)
    (hb : attributeBase (.Name x px) f X.env (eval (.Name x px) X.env) = eval (.Name x px) X.env := by rfl) : PE X (.Attribute (.Name x px) f pos) (tC v) := by
  refine ⟨fun pins s σ H Q I h => ?_⟩
  refine attr_of hb (thn ((pe_glob (v := .ref Ad) hg hm rfl hdb).run pins s σ H (fun y H1 => y = .ref Ad ∧ Q v H1) I ⟨rfl, h⟩) fun w s1 ⟨y, H1, I1, ry, ey, q⟩ => ?_)
  subst ey
  obtain rfl : w = Value.ref Ad := ry
  exact getcval_ok I1 r k fun s2 I2 => ⟨v, H1, I2, k.rel, q⟩
theorem de_cval {x f : Str} {Ad : Addr} {mc u : Value} {v : V} {d : D} {px pos : Pos} (hg : Gl X x) (hm : X.mg x = some (.ref Ad)) (r : CRead X.K Ad mc) (k : CVal X.K Ad mc f v u) (hd : ∀ B, DR C.K C.cl B v d) (hdb : (x == ("__debug__" : Str)) = false := by decide)
    (hb : attributeBase (.Name x px) f X.env (eval (.Name x px) X.env) = eval (.Name x px) X.env := by rfl) : DE X C (.Attribute (.Name x px) f pos) (mC d) := de_c (pe_cval hg hm r k hdb hb) hd
end
end DS

/-! DS23: x[lo:hi], x a list or a tuple (a tuple not whole). -/
namespace DS
open PySem L2
section
variable {X : Cx} {C : Cn}
/-- the part of a list or a tuple -/
def cutD (lo hi : Option Int) : D → Option D
  | .list ds => some (.list (cutA ds lo hi))
  | .tuple ds => if HT.sIx ds.length 0 lo = 0 ∧ HT.sIx ds.length ds.length hi = ds.length then none else some (.tuple (cutA ds lo hi))
  | _ => none
def mSlB (a : M) (l h : MO) : M := fun ρ n P R => a ρ n (fun d n1 => l ρ n1 (fun lo n2 => h ρ n2 (fun hi n3 => ∃ z, cutD lo hi d = some z ∧ P z n3) R) R) R
theorem de_sliceB {e : Expr} {lo hi : Option Expr} {a : M} {l h : MO} {p2 pos : Pos} (hK : X.K = C.K) (ha : QE X C e a) (hl : DP X C lo l) (hh : DP X C hi h) : DE X C (.Subscript e (.Slice lo hi none p2) pos) (mSlB a l h) :=
  pe_weak (pe_slice (L2.SlR.or sl_list sl_tup) ha hl hh) fun σ H Q ⟨B, ρ, n, P, R, F, w, ox, k⟩ => by
  rw [hK]
  refine ⟨B, ρ, n, _, R, F, w, ox, fun d n1 w1 v B1 H1 s1 k1 rv => ⟨B1, ρ, n1, _, R, F.step s1 k1, w1, ox.step s1, fun o n2 w2 B2 H2 s2 k2 => ⟨B2, ρ, n2, _, R, (F.step s1 k1).step s2 k2, w2, (ox.step s1).step s2, fun o2 n3 ⟨z, ez, p⟩ B3 H3 s3 k3 => ?_⟩⟩⟩
  have r3 := (rv.mono s2.ext.hid s2.old).mono s3.ext.hid s3.old
  have st := (s1.trans s2).trans s3
  cases d with
  | list ds =>
    cases ez
    have fin : ∀ (a : Addr) (xs : List V), H3 a = some (.lst xs) → DRs C.K C.cl B3 xs ds → v = .ref a → rSlL C.K v o o2 H3 Q := fun a xs h1 r e => ⟨a, xs, e, SqL.of h1, fun q hq =>
      k _ n3 p (.ref q) (upd B3 q (.lst (cutV xs o o2))) _ (st.put hq k3) (src_lay k3 hq) (.lst upd_same ((r.cut o o2).mono (same_upd (none_of st hq))))⟩
    refine Or.inl ?_
    cases r3 with
    | lst h r => exact fin _ _ (hid_sub _ _ h) r rfl
    | set h =>
      cases h with
      | lst h r => exact fin _ _ (s3.sub _ _ h) r rfl
  | tuple ds =>
    by_cases nw : HT.sIx ds.length 0 o = 0 ∧ HT.sIx ds.length ds.length o2 = ds.length
    · have ez' : (if HT.sIx ds.length 0 o = 0 ∧ HT.sIx ds.length ds.length o2 = ds.length then none else some (PyData.tuple (cutA ds o o2))) = some z := ez
      rw [if_pos nw] at ez'
      cases ez'
    · have ez' : (if HT.sIx ds.length 0 o = 0 ∧ HT.sIx ds.length ds.length o2 = ds.length then none else some (PyData.tuple (cutA ds o o2))) = some z := ez
      rw [if_neg nw] at ez'
      cases ez'
      refine Or.inr ?_
      obtain ⟨q, xs, e, ht, r⟩ := q_tup r3 s3.sub
      exact ⟨q, xs, e, ht, by rw [r.length]; exact nw, fun y hy => k _ n3 p (.ref y) (upd B3 y (.tup (cutV xs o o2))) _ (st.put hy k3) (src_lay k3 hy) (.tup (SqT.of upd_same) ((r.cut o o2).mono (same_upd (none_of st hy))))⟩
  | none => cases ez
  | bool _ => cases ez
  | int _ => cases ez
  | str _ => cases ez
  | dict _ => cases ez
end
end DS

/-! DS24: dicts of one's own: made, read, written, walked in a comprehension. -/
namespace DS
open PySem L2
/-! ### keys -/
def kyOf : D → Option Key
  | .int i => some (.inl i)
  | .str x => some (.inr x)
  | _ => none
def kyAll : List D → Option (List Key)
  | [] => some []
  | d :: ds => (kyOf d).bind fun k => (kyAll ds).map (k :: ·)
def kysOf : D → Option (List Key)
  | .tuple ds => if ds = [] then none else kyAll ds
  | _ => none
def kyD : Key → D
  | .inl i => .int i
  | .inr x => .str x
theorem kyOf_kyD (k : Key) : kyOf (kyD k) = some k := by cases k <;> rfl
theorem kyD_kyOf {d : D} {k : Key} (h : kyOf d = some k) : d = kyD k := by
  cases d <;> simp [kyOf] at h <;> subst h <;> rfl
theorem kyAll_map : ∀ ks : List Key, kyAll (ks.map kyD) = some ks
  | [] => rfl
  | k :: ks => by
    show ((kyOf (kyD k)).bind fun k' => (kyAll (ks.map kyD)).map (k' :: ·)) = _
    rw [kyOf_kyD, Option.bind_some, kyAll_map ks]; rfl
theorem kyAll_eq : ∀ {ds : List D} {ks : List Key}, kyAll ds = some ks → ds = ks.map kyD
  | [], ks, e => by cases e; rfl
  | d :: ds, ks, e => by
    unfold kyAll at e
    obtain ⟨k, e1, e2⟩ := Option.bind_eq_some_iff.mp e
    obtain ⟨r, e3, e4⟩ := Option.map_eq_some_iff.mp e2
    subst e4
    rw [kyD_kyOf e1, kyAll_eq e3]; rfl
/-! ### tables -/
section
variable {κ : Type} [DecidableEq κ]
def valD (es : List (κ × D)) (k : κ) : Option D := (es.find? fun e => decide (e.1 = k)).map (·.2)
def putD (es : List (κ × D)) (k : κ) (d : D) : List (κ × D) := if (es.any fun e => decide (e.1 = k)) = true then es.map (fun e => if e.1 = k then (e.1, d) else e) else es ++ [(k, d)]
theorem DVs.any {K : Fg} {cl : Cl} {B : Hp} {kvs : List (κ × V)} {es : List (κ × D)} (h : DVs K cl B kvs es) (k : κ) : (kvs.any fun e => decide (e.1 = k)) = es.any fun e => decide (e.1 = k) := by
  induction h with
  | nil => rfl
  | cons r t ih => rw [List.any_cons, List.any_cons, ih, r.1]
theorem DVs.val {K : Fg} {cl : Cl} {B : Hp} {kvs : List (κ × V)} {es : List (κ × D)} (h : DVs K cl B kvs es) (k : κ) : (valV kvs k = none ∧ valD es k = none) ∨ ∃ v d, valV kvs k = some v ∧ valD es k = some d ∧ DR K cl B v d := by
  induction h with
  | nil => exact .inl ⟨rfl, rfl⟩
  | @cons a b l1 l2 r t ih =>
    by_cases e : a.1 = k
    · refine .inr ⟨a.2, b.2, valV_pos e, ?_, r.2⟩
      unfold valD
      rw [List.find?_cons, ← r.1, decide_eq_true e]; rfl
    · have e2 : valD (b :: l2) k = valD l2 k := by
        unfold valD
        rw [List.find?_cons, ← r.1, decide_eq_false e]
      rw [valV_neg e, e2]
      exact ih
theorem DVs.repl {K : Fg} {cl : Cl} {B : Hp} {k : κ} {v : V} {d : D} (r : DR K cl B v d) {kvs : List (κ × V)} {es : List (κ × D)} (h : DVs K cl B kvs es) : DVs K cl B (kvs.map fun kv => if kv.1 = k then (kv.1, v) else kv) (es.map fun e => if e.1 = k then (e.1, d) else e) := by
  induction h with
  | nil => exact .nil
  | @cons a b l1 l2 q t ih =>
    refine .cons ?_ ih
    show (if a.1 = k then (a.1, v) else a).1 = (if b.1 = k then (b.1, d) else b).1 ∧ DR K cl B (if a.1 = k then (a.1, v) else a).2 (if b.1 = k then (b.1, d) else b).2
    by_cases e : a.1 = k
    · rw [if_pos e, if_pos (q.1 ▸ e)]; exact ⟨q.1, r⟩
    · rw [if_neg e, if_neg (fun z => e (q.1.trans z))]; exact q
theorem DVs.put {K : Fg} {cl : Cl} {B : Hp} {kvs : List (κ × V)} {es : List (κ × D)} (h : DVs K cl B kvs es) (k : κ) {v : V} {d : D} (r : DR K cl B v d) : DVs K cl B (putK kvs k v) (putD es k d) := by
  unfold putK putD
  rw [h.any k]
  split
  · exact DVs.repl r h
  · exact paired_app h (.cons ⟨rfl, r⟩ .nil)
theorem DVs.length {K : Fg} {cl : Cl} {B : Hp} {kvs : List (κ × V)} {es : List (κ × D)} (h : DVs K cl B kvs es) : kvs.length = es.length := paired_len h
end
/-- the slot with d at the key kd -/
def slPut (s : Sl) (kd d : D) : Option Sl := match s with
  | .dic false es => (kyOf kd).bind fun k => if es.length < sizeLine then some (.dic false (putD es k d)) else none
  | .dit false es => (kysOf kd).bind fun k => if es.length < sizeLine then some (.dit false (putD es k d)) else none
  | _ => none
def slGet (s : Sl) (kd : D) : Option (Option D) := match s with
  | .dic _ es => (kyOf kd).map (valD es)
  | .dit _ es => (kysOf kd).map (valD es)
  | _ => none
def slLock : Sl → Option Sl
  | .dic false es => some (.dic true es)
  | .dit false es => some (.dit true es)
  | _ => none
def slKeys : Sl → Option (List D)
  | .dic true es => some (es.map fun e => kyD e.1)
  | .dit true es => some (es.map fun e => .tuple (e.1.map kyD))
  | _ => none
section
variable {X : Cx} {C : Cn} {K : Fg} {cl : Cl}
theorem ky_rel {A : Hp} {v : V} {d : D} {k : Key} (h : DR K cl A v d) (e : kyOf d = some k) : v = kV k := by
  cases h <;> cases e <;> rfl
theorem kys_all {A : Hp} : ∀ {vs : List V} {ds : List D} {ks : List Key}, DRs K cl A vs ds → kyAll ds = some ks → vs = ks.map kV
  | _, [], ks, .nil, e => by cases e; rfl
  | _, d :: ds, ks, .cons h t, e => by
    unfold kyAll at e
    obtain ⟨k, e1, e2⟩ := Option.bind_eq_some_iff.mp e
    obtain ⟨r, e3, e4⟩ := Option.map_eq_some_iff.mp e2
    subst e4
    rw [ky_rel h e1, kys_all t e3]; rfl
theorem kys_rel {A : Hp} {v : V} {d : D} {ks : List Key} (h : DR K cl A v d) (e : kysOf d = some ks) : ∃ b, v = .ref b ∧ A b = some (.tup (ks.map kV)) := by
  cases h with
  | @tup a xs ds h t tr =>
    have e' : (if ds = [] then none else kyAll ds) = some ks := e
    by_cases hd : ds = []
    · rw [if_pos hd] at e'; cases e'
    · rw [if_neg hd] at e'
      have hx : xs ≠ [] := fun z => by
        rw [z] at t; cases t; exact hd rfl
      exact ⟨a, rfl, by rw [tr hx, kys_all t e']⟩
  | non => cases e
  | bl _ => cases e
  | int _ => cases e
  | str _ => cases e
  | lst _ _ => cases e
  | ins _ _ _ _ => cases e
/-- reading an own dict by its slot -/
theorem sl_get {sc : Sc} {H0 B H : Hp} {s : Sl} {u y : V} {kd : D} {o : Option D} (h : SlR K cl sc H0 B H (some u) s) (sub : Same B H) (r : DR K cl B y kd) (e : slGet s kd = some o) :
    ∃ a ov, u = .ref a ∧ DGet H a y ov ∧ ((ov = none ∧ o = none) ∨ ∃ v d, ov = some v ∧ o = some d ∧ DR K cl B v d) := by
  cases h with
  | @dic p lk kvs es h0 hB hs h q =>
    obtain ⟨k, e1, e2⟩ := Option.map_eq_some_iff.mp e
    subst e2
    refine ⟨p, valV kvs k, rfl, .inl ⟨kvs, k, h.rd, ky_rel r e1, rfl⟩, q.val k⟩
  | @dit p lk kvs es h0 hB hs h q =>
    obtain ⟨k, e1, e2⟩ := Option.map_eq_some_iff.mp e
    subst e2
    obtain ⟨b, ey, hb⟩ := kys_rel r e1
    refine ⟨p, valV kvs k, rfl, .inr ⟨kvs, k, b, h.rd, ey, sub _ _ hb, rfl⟩, q.val k⟩
  | no _ => cases e
  | dat _ => cases e
  | own _ _ _ _ _ => cases e
  | src _ => cases e
  | bld _ _ _ _ _ _ => cases e
  | hld _ _ _ _ => cases e
  | bor _ _ _ _ => cases e
/-! ### x = {} -/
def mDNewK (i : Nat) : MS := fun De ρ n => De.nx (ρ.set i (.dic false [])) n
def mDNewT (i : Nat) : MS := fun De ρ n => De.nx (ρ.set i (.dit false [])) n
theorem ow_lay {B H : Hp} {σ : St} {ρ : Env} {n : Nat} {p : Addr} {o : HO} {s : Sl} (F : Fr C B σ H ρ n) (hp : H p = none) (i : Nat) (new : C.H0 p = none → B p = none → ¬ inS C.sc p → SlR C.K C.cl C.sc C.H0 B (upd H p o) (some (.ref p)) s) : Fr C B (σ.set i (some (.ref p))) (upd H p o) (ρ.set i s) n := by
  have s0 : Stp C.sc B H B (upd H p o) := F.self.lay hp
  have F1 := F.step s0 (src_lay F.src hp)
  have hs : ¬ inS C.sc p := src_new F.src hp
  have h0 : C.H0 p = none := by
    cases e : C.H0 p with
    | none => rfl
    | some o => rw [F.ext p o hs e] at hp; cases hp
  exact { F1 with
    slo := paired_set (new h0 (none_of F.self hp) hs) i F1.slo
    dis := dis_new F.dis i _ fun j a hj e1 e2 w => by
      obtain ⟨p', o, e3, _, _, _, e4, _⟩ := (paired_at F.slo e1 e2).ow w
      cases e3
      rw [hp] at e4; cases e4 }
theorem ds_dnewK {i : Nat} {x : Str} {dp pos pos' : Pos} (hN : X.N.Nodup) (hi : X.N[i]? = some x) (hx : Loc X.env.scope x) (hs : swapsWith (.Dict [] [] dp) (some (.Name x pos')) pos.line X.env = pure false := by rfl) (hf : X.fn x = true ∨ X.env.scope.names.lookup x = some .local := by first | exact .inl rfl | exact .inr rfl | assumption) :
    DS X C (.Assign [.Name x pos'] (.Dict [] [] dp) pos) (mDNewK i) := ps_weak (ps_set hN hi hx pe_dnewK hs hf) fun Z σ H ⟨B, ρ, n, De, F, w, nx, rt, ex, bk, ct⟩ =>
  fun p hp => nx _ n w _ B _ (Same.refl _) (ow_lay F hp i fun h0 hB hs => .dic h0 hB hs (.no upd_same) .nil)
theorem ds_dnewT {i : Nat} {x : Str} {dp pos pos' : Pos} (hN : X.N.Nodup) (hi : X.N[i]? = some x) (hx : Loc X.env.scope x) (hs : swapsWith (.Dict [] [] dp) (some (.Name x pos')) pos.line X.env = pure false := by rfl) (hf : X.fn x = true ∨ X.env.scope.names.lookup x = some .local := by first | exact .inl rfl | exact .inr rfl | assumption) :
    DS X C (.Assign [.Name x pos'] (.Dict [] [] dp) pos) (mDNewT i) := ps_weak (ps_set hN hi hx pe_dnewT hs hf) fun Z σ H ⟨B, ρ, n, De, F, w, nx, rt, ex, bk, ct⟩ =>
  fun p hp => nx _ n w _ B _ (Same.refl _) (ow_lay F hp i fun h0 hB hs => .dit h0 hB hs (.no upd_same) .nil)
/-! ### x[k] = e -/
def mDPut (i : Nat) (tv tk : M) : MS := fun De ρ n => (∃ s, ρ[i]? = some s ∧ isOw s = true) ∧ tv ρ n (fun d n1 => tk ρ n1 (fun kd n2 => ∃ s s', ρ[i]? = some s ∧ slPut s kd d = some s' ∧ De.nx (ρ.set i s') n2) De.ex) De.ex
theorem ow_at {B H : Hp} {σ : St} {ρ : Env} {n i : Nat} {s : Sl} (F : Fr C B σ H ρ n) (e : ρ[i]? = some s) (w : isOw s = true) : ∃ p, σ[i]? = some (some (.ref p)) ∧ SlR C.K C.cl C.sc C.H0 B H (some (.ref p)) s := by
  obtain ⟨v, e1, e2⟩ := paired_get F.slo e
  obtain ⟨p, o, ev, _⟩ := e2.ow w
  subst ev
  exact ⟨p, e1, e2⟩
theorem ds_dput {i : Nat} {x : Str} {k e : Expr} {tv tk : M} {p1 p2 pos : Pos} (hu : X.A.units + 1 < cLine) (h : DE X C e tv) (hk : DE X C k tk) (hN : X.N[i]? = some x := by rfl) (hv : Vis X.env.scope x := by first | exact Or.inl rfl | exact Or.inr (Or.inl rfl) | exact Or.inr (Or.inr rfl)) (hd : (x == ("__debug__" : Str)) = false := by decide)
    (hcd : (x == ("__classdict__" : Str)) = false := by decide) (hs : swapsWith e (some (.Subscript (.Name x p1) k p2)) pos.line X.env = pure false := by rfl) :
    DS X C (.Assign [.Subscript (.Name x p1) k p2] e pos) (mDPut i tv tk) := ps_weak (ps_dput hu (pe_var hN hv hd hcd) hk h hs) fun Z σ H ⟨B, ρ, n, De, F, ⟨⟨s0, e0, w0⟩, w⟩, nx, rt, ex, bk, ct⟩ => by
  refine ⟨B, ρ, n, _, De.ex, F, w, ex.lift F, fun d n1 w1 v B1 H1 s1 k1 rv => ?_⟩
  have F1 := F.step s1 k1
  obtain ⟨p, e1, _⟩ := ow_at F1 e0 w0
  refine ⟨_, e1, B1, ρ, n1, _, De.ex, F1, w1, (ex.lift F).step s1, fun kd n2 ⟨s, s', es, ep, q⟩ vk B2 H2 s2 k2 rk => ?_⟩
  have F2 := F1.step s2 k2
  rw [e0] at es; cases es
  obtain ⟨p', e1', r⟩ := ow_at F2 e0 w0
  rw [e1] at e1'; cases e1'
  have rv2 := rv.mono s2.old
  cases r with
  | @dic p lk kvs es h0 hB hs h q0 =>
    cases h with
    | lk h => cases ep
    | no h =>
      obtain ⟨k', e2, e3⟩ := Option.bind_eq_some_iff.mp ep
      obtain ⟨hl, e4⟩ := ite_some' e3
      subst e4
      refine ⟨p, _, rfl, .inl ⟨kvs, k', h, ky_rel rk e2, by rw [q0.length]; exact hl, rfl⟩, nx _ n2 q σ B2 _ (s1.old.trans s2.old) (ow_mut F2 e0 w0 e1 (fun m a b => src_mut a b) fun h0 hB hs => .dic h0 hB hs (.no upd_same) (q0.put k' rv2))⟩
  | @dit p lk kvs es h0 hB hs h q0 =>
    cases h with
    | lk h => cases ep
    | no h =>
      obtain ⟨k', e2, e3⟩ := Option.bind_eq_some_iff.mp ep
      obtain ⟨hl, e4⟩ := ite_some' e3
      subst e4
      obtain ⟨b, ey, hb⟩ := kys_rel rk e2
      refine ⟨p, _, rfl, .inr ⟨kvs, k', b, h, ey, F2.sub _ _ hb, by rw [q0.length]; exact hl, rfl⟩, nx _ n2 q σ B2 _ (s1.old.trans s2.old) (ow_mut F2 e0 w0 e1 (fun m a b => src_mut a b) fun h0 hB hs => .dit h0 hB hs (.no upd_same) (q0.put k' rv2))⟩
  | own _ _ _ _ _ => cases ep
  | no _ => cases w0
  | dat _ => cases w0
  | src _ => cases w0
  | bld _ _ _ _ _ _ => cases w0
  | hld _ _ _ _ => cases w0
  | bor _ _ _ _ => cases w0
/-! ### x[k], k in x -/
def mDGet (i : Nat) (tk : M) : M := fun ρ n P R => (∃ s, ρ[i]? = some s ∧ isOw s = true) ∧ tk ρ n (fun kd n1 => ∃ s d, ρ[i]? = some s ∧ slGet s kd = some (some d) ∧ P d n1) R
theorem de_dget (i : Nat) {x : Str} {k : Expr} {tk : M} {p1 pos : Pos} (hu : X.A.units + 1 < cLine) (hk : DE X C k tk) (hs : NoSl k) (hN : X.N[i]? = some x := by rfl) (hv : Vis X.env.scope x := by first | exact Or.inl rfl | exact Or.inr (Or.inl rfl) | exact Or.inr (Or.inr rfl)) (hd : (x == ("__debug__" : Str)) = false := by decide)
    (hcd : (x == ("__classdict__" : Str)) = false := by decide) : DE X C (.Subscript (.Name x p1) k pos) (mDGet i tk) := pe_weak (pe_dget hu (pe_var hN hv hd hcd) hk hs) fun σ H Q ⟨B, ρ, n, P, R, F, ⟨⟨s0, e0, w0⟩, w⟩, ox, kk⟩ => by
  obtain ⟨p, e1, _⟩ := ow_at F e0 w0
  refine ⟨_, e1, B, ρ, n, _, R, F, w, ox, fun kd n1 ⟨s, d, es, eg, q⟩ vk B1 H1 s1 k1 rk => ?_⟩
  have F1 := F.step s1 k1
  rw [e0] at es; cases es
  obtain ⟨p', e1', r⟩ := ow_at F1 e0 w0
  rw [e1] at e1'; cases e1'
  obtain ⟨a, ov, ea, g, hh⟩ := sl_get r F1.sub rk eg
  cases ea
  rcases hh with ⟨_, z⟩ | ⟨v, d', eo, ed, rv⟩
  · cases z
  · cases ed
    subst eo
    exact ⟨p, v, rfl, g, kk d n1 q v B1 H1 s1 k1 rv⟩
def mDIn (neg : Bool) (i : Nat) (tk : M) : M := fun ρ n P R => (∃ s, ρ[i]? = some s ∧ isOw s = true) ∧ tk ρ n (fun kd n1 => ∃ s o, ρ[i]? = some s ∧ slGet s kd = some o ∧ P (.bool (if neg then !o.isSome else o.isSome)) n1) R
theorem t_din {i : Nat} {tk : M} {neg : Bool} {σ : St} {H : Hp} {Q : VK} (h : tD C (mDIn neg i tk) σ H Q) : tD C tk σ H fun y H1 => tVar i σ H1 fun x H2 => ∃ a o, x = .ref a ∧ DGet H2 a y o ∧ Q (.bl (if neg then !o.isSome else o.isSome)) H2 := by
  obtain ⟨B, ρ, n, P, R, F, ⟨⟨s0, e0, w0⟩, w⟩, ox, kk⟩ := h
  refine ⟨B, ρ, n, _, R, F, w, ox, fun kd n1 ⟨s, o, es, eg, q⟩ vk B1 H1 s1 k1 rk => ?_⟩
  have F1 := F.step s1 k1
  rw [e0] at es; cases es
  obtain ⟨p, e1, r⟩ := ow_at F1 e0 w0
  obtain ⟨a, ov, ea, g, hh⟩ := sl_get r F1.sub rk eg
  cases ea
  refine ⟨_, e1, p, ov, rfl, g, ?_⟩
  have e2 : ov.isSome = o.isSome := by
    rcases hh with ⟨z1, z2⟩ | ⟨v, d', z1, z2, _⟩ <;> rw [z1, z2] <;> rfl
  rw [e2]
  exact kk _ n1 q _ B1 H1 s1 k1 (.bl _)
theorem de_din (i : Nat) {x : Str} {k : Expr} {tk : M} {p1 pos : Pos} (hu : X.A.units + 1 < cLine) (hk : DE X C k tk) (hN : X.N[i]? = some x := by rfl) (hv : Vis X.env.scope x := by first | exact Or.inl rfl | exact Or.inr (Or.inl rfl) | exact Or.inr (Or.inr rfl)) (hd : (x == ("__debug__" : Str)) = false := by decide)
    (hcd : (x == ("__classdict__" : Str)) = false := by decide) (hm : behindInMarks .In (.Name x p1) = false := by rfl) : DE X C (.Compare k [.In] [.Name x p1] pos) (mDIn false i tk) := pe_weak (pe_cmp (pc_din hu hk (pe_var hN hv hd hcd)) hm) fun _ _ _ h => t_din h
theorem de_dnotin (i : Nat) {x : Str} {k : Expr} {tk : M} {p1 pos : Pos} (hu : X.A.units + 1 < cLine) (hk : DE X C k tk) (hN : X.N[i]? = some x := by rfl) (hv : Vis X.env.scope x := by first | exact Or.inl rfl | exact Or.inr (Or.inl rfl) | exact Or.inr (Or.inr rfl)) (hd : (x == ("__debug__" : Str)) = false := by decide)
    (hcd : (x == ("__classdict__" : Str)) = false := by decide) (hm : behindInMarks .NotIn (.Name x p1) = false := by rfl) : DE X C (.Compare k [.NotIn] [.Name x p1] pos) (mDIn true i tk) := pe_weak (pe_cmp (pc_dnotin hu hk (pe_var hN hv hd hcd)) hm) fun _ _ _ h => t_din h
/-! ### [.. for k in x ..], x an own dict -/
def mKeys (i : Nat) : MI := fun ρ n P _ => ∃ s ds, ρ[i]? = some s ∧ slKeys s = some ds ∧ P ds n
theorem src_lst {sc : Sc} {H : Hp} {n : Nat} {p : Addr} {xs : List V} (k : SrcOk sc H n) (h : H p = some (.tup xs)) : ¬ inS sc p := fun z => by
  unfold SrcOk at k
  unfold inS at z
  cases sc with
  | none => exact z.elim
  | some q =>
    obtain ⟨s, c⟩ := q
    obtain ⟨_, ns, t, h1, h2, _⟩ := k
    rcases z with z | z
    · have z' : p = s := z
      rw [z', h1] at h; cases h
    · have z' : p = c := z
      rw [z', h2] at h; cases h
theorem drs_keys {A : Hp} : ∀ ks : List Key, DRs K cl A (ks.map kV) (ks.map kyD)
  | [] => .nil
  | .inl i :: ks => .cons (.int i) (drs_keys ks)
  | .inr x :: ks => .cons (.str x) (drs_keys ks)
theorem dvs_get {κ : Type} {B : Hp} : ∀ {kvs : List (κ × V)} {es : List (κ × D)} {i : Nat} {a : κ × V}, DVs K cl B kvs es → kvs[i]? = some a → ∃ b, es[i]? = some b ∧ a.1 = b.1 := fun {kvs es i a} h e => by
  obtain ⟨b, h1, h2⟩ := L2.paired_get h e
  exact ⟨b, h1, h2.1⟩
theorem iq_keys (i : Nat) {tg : Expr} {x : Str} {p1 : Pos} (hN : X.N[i]? = some x := by rfl) (hv : Vis X.env.scope x := by first | exact Or.inl rfl | exact Or.inr (Or.inl rfl) | exact Or.inr (Or.inr rfl)) (hd : (x == ("__debug__" : Str)) = false := by decide)
    (hcd : (x == ("__classdict__" : Str)) = false := by decide) : IQ X C tg (.Name x p1) (mKeys i) := pi_weak (pi_keys (pe_var hN hv hd hcd)) fun σ H R ⟨B, ρ, n, P, R0, F, ⟨s, ds, e0, ek, w⟩, ox, k⟩ => by
  obtain ⟨v, e1, r⟩ := paired_get F.slo e0
  cases r with
  | @dic p lk kvs es h0 hB hs h q0 =>
    cases h with
    | no h => cases ek
    | @lk _ _ od h =>
      cases ek
      refine ⟨_, e1, p, od, rfl, .inl ⟨kvs, h, k _ n w (Itk p od kvs) B H (fun B H => H p = some (.frz od (.dK kvs)) ∧ ¬ inS C.sc p) F.self F.src ⟨h, hs⟩ (fun _ _ _ _ h s => ⟨s.ext _ _ h.2 h.1, h.2⟩) fun B' H' j m kp sb ns sr => ?_⟩⟩
      rw [List.length_map, ← q0.length]
      refine ⟨fun hj => ⟨⟨kp.1, hj⟩, fun y H2 hy => ?_⟩, fun hj => ⟨kp.1, hj⟩⟩
      obtain ⟨rfl, k', v', e2, ey⟩ := hy
      obtain ⟨b, e3, e4⟩ := dvs_get q0 e2
      subst ey
      refine ⟨B', kyD k', by rw [List.getElem?_map, e3]; show some (kyD b.1) = _; rw [← e4], Stp.refl sb ns, sr, ?_⟩
      cases k' <;> constructor
  | @dit p lk kvs es h0 hB hs h q0 =>
    cases h with
    | no h => cases ek
    | @lk _ _ od h =>
      cases ek
      refine ⟨_, e1, p, od, rfl, .inr ⟨kvs, h, k _ n w (Itkt p od kvs) B H (fun B H => H p = some (.frz od (.dT kvs)) ∧ ¬ inS C.sc p) F.self F.src ⟨h, hs⟩ (fun _ _ _ _ h s => ⟨s.ext _ _ h.2 h.1, h.2⟩) fun B' H' j m kp sb ns sr => ?_⟩⟩
      rw [List.length_map, ← q0.length]
      refine ⟨fun hj => ⟨⟨kp.1, hj⟩, fun y H2 hy => ?_⟩, fun hj => ⟨kp.1, hj⟩⟩
      obtain ⟨rfl, k', v', q, e2, ey, hq⟩ := hy
      obtain ⟨b, e3, e4⟩ := dvs_get q0 e2
      subst ey
      have s0 : Stp C.sc B' H2 B' H2 := Stp.refl sb ns
      refine ⟨upd B' q (.tup (k'.map kV)), .tuple (k'.map kyD), by rw [List.getElem?_map, e3]; show some (PyData.tuple (b.1.map kyD)) = _; rw [← e4], s0.settleT hq (src_lst sr hq), sr, ?_⟩
      exact .tup (SqT.of upd_same) (drs_keys k')
  | no _ => cases ek
  | dat _ => cases ek
  | own _ _ _ _ _ => cases ek
  | src _ => cases ek
  | bld _ _ _ _ _ _ => cases ek
  | hld _ _ _ _ => cases ek
  | bor _ _ _ _ => cases ek
/-- what runs while an own dict is locked -/
theorem stp_unlock {sc : Sc} {B H B' H' : Hp} {d : Addr} {od : Obj} {u : HO} (s : Stp sc B (upd H d (.frz od u)) B' H') (h : H d = some u) (hb : B d = none) (hs : ¬ inS sc d) (nt : ∀ xs, u ≠ .tup xs) : H' d = some (.frz od u) ∧ Stp sc B H B' (upd H' d u) := by
  have hb' : B' d = none := by rw [s.new d _ upd_same (fun _ z => by cases z)]; exact hb
  refine ⟨s.ext d _ hs upd_same, ?_, s.old, fun p o q n => ?_, s.nos, fun a o n q => ?_⟩
  · intro a o q
    rw [upd_ne (ne_of_none q hb')]; exact s.sub a o q
  · by_cases hp : p = d
    · rw [hp, hb', hb]
    · exact s.new p o (by rw [upd_ne hp]; exact q) n
  · by_cases ha : a = d
    · rw [ha] at q ⊢; rw [h] at q; cases q; exact upd_same
    · rw [upd_ne ha]; exact s.ext a o n (by rw [upd_ne ha]; exact q)
def mLock (i : Nat) (l : ML) : ML := fun ρ n P _ => ∃ s s', ρ[i]? = some s ∧ slLock s = some s' ∧ l (ρ.set i s') n P nvr
theorem okx_nvr {B H : Hp} : OkX C B H nvr := fun _ _ z => z.elim
theorem fr_lock {B H : Hp} {σ : St} {ρ : Env} {n i : Nat} {s s' : Sl} (F : Fr C B σ H ρ n) (e : ρ[i]? = some s) (l : slLock s = some s') : ∃ d u, H d = some u ∧ Mut (some u) ∧ B d = none ∧ ¬ inS C.sc d ∧ (∀ xs, u ≠ .tup xs) ∧ ∀ od, Fr C B σ (upd H d (.frz od u)) (ρ.set i s') n := by
  have w : isOw s = true := by
    unfold slLock at l
    split at l <;> first | rfl | cases l
  obtain ⟨p, e1, r⟩ := ow_at F e w
  cases r with
  | @dic p lk kvs es h0 hB hs h q0 =>
    cases h with
    | lk h => cases l
    | no h =>
      cases l
      exact ⟨p, _, h, trivial, hB, hs, (fun _ z => by cases z), fun od => ow_mut F e w e1 (fun m a b => src_mut a b) fun h0 hB hs => .dic h0 hB hs (.lk upd_same) q0⟩
  | @dit p lk kvs es h0 hB hs h q0 =>
    cases h with
    | lk h => cases l
    | no h =>
      cases l
      exact ⟨p, _, h, trivial, hB, hs, (fun _ z => by cases z), fun od => ow_mut F e w e1 (fun m a b => src_mut a b) fun h0 hB hs => .dit h0 hB hs (.lk upd_same) q0⟩
  | own _ _ _ _ _ => cases l
  | no _ => cases w
  | dat _ => cases w
  | src _ => cases w
  | bld _ _ _ _ _ _ => cases w
  | hld _ _ _ _ => cases w
  | bor _ _ _ _ => cases w
theorem le_lock (i : Nat) {e : Expr} {l : ML} (h : LE X C e l) : LE X C e (mLock i l) := pe_weak (pe_lock h) fun σ H Q ⟨B, ρ, n, P, R, F, ⟨s, s', e0, el, w⟩, ox, k⟩ => by
  obtain ⟨d, u, hd, mu, hb, hs, nt, hF⟩ := fr_lock F e0 el
  refine ⟨d, u, hd, mu, fun od => ⟨B, _, n, P, nvr, hF od, w, okx_nvr, fun ds n' q p vs B' H' hp s2 hbp k2 h1 r => ?_⟩⟩
  obtain ⟨u1, u2⟩ := stp_unlock s2 hd hb hs nt
  have np : p ≠ d := fun z => by rw [z, upd_same] at hp; cases hp
  refine ⟨u1, k ds n' q p vs B' _ (by rw [upd_ne np] at hp; exact hp) u2 hbp (src_mut k2 hs) (by rw [upd_ne np]; exact h1) r⟩
end
end DS

/-! DS25: try .. except C as e: y = e over data: the body's calls let errors out at the slots as they stand; what is asked of a caught error. -/
namespace StK
open PySem PySem.Spec PyProof.Rows L2 StX
section
variable {X : Cx} {CX : CXT} {k : Nat} {f C : Addr} {ks : List Str} {sp : SpK} {x : Str} {e : Expr} {es : List Expr} {kws : List Keyword} {t tk : TA} {p pos : Pos}
theorem run_makeRKS {E : XK} {pins : List (Addr × Obj)} {σ : L2.St} {H : Hp} {s : Shared} {Q : VK} {us ws : List Value} {vs zs : List V} (M : Mk X.K C f) (F : FnRK X.prog X.w X.K X.mg X.base CX k f ks sp) (hr : Room (k + 1) X.A) (hx : PassesAt CX X σ E) (I : Inv X pins σ H s) (r : Vals vs us) (rz : Vals zs ws)
    (h : ∀ x dx, H x = Option.none → H dx = Option.none → dx ≠ x → sp (V.ref x :: vs) zs (upd (upd H dx (.own x)) x (.ins C dx [])) (fun v H2 => v = .non ∧ Q (.ref x) H2) E) :
    wpAny (model X.prog X.w) X.A (call (.ref C) us (ks.zip ws)) (EP X pins σ Q) X.xe s := by
  have hq := h (s.heap.objs.size + 1) s.heap.objs.size (I.hok.fresh (Nat.le_succ _)) (I.hok.fresh (Nat.le_refl _)) (Nat.ne_of_lt (Nat.lt_succ_self _))
  have I2 := Inv.made (C := C) I
  have r2 : Vals (V.ref (s.heap.objs.size + 1) :: vs) (Value.ref (s.heap.objs.size + 1) :: us) := .cons rfl r
  refine wpAny_call (make_map (f := f) I.kIn M.makes M.init (beq_iff_eq.mp M.fn) (codeAny_mono (F _ X.stack _ _ (Value.ref (s.heap.objs.size + 1) :: us) ws _ _ _ E (hr.make C us (ks.zip ws)) (I2.env0.make C us (ks.zip ws)) r2 rz hq) fun r s' hq' => ?_))
  cases r with
  | error e => exact hx pins _ _ e s' I2 hq'
  | ok fl =>
    cases fl with
    | ret u =>
      obtain ⟨v, H', I3, rv, ev, q3⟩ := I2.after hq'
      subst ev
      exact ⟨rv, ⟨V.ref (s.heap.objs.size + 1), H', I3, rfl, q3⟩⟩
    | next => exact False.elim hq'
    | brk => exact False.elim hq'
    | cont => exact False.elim hq'
def tMakePKS (C : Addr) (sp : SpK) (E : L2.St → XK) (t tk : TA) : TE := fun σ H Q => t σ H fun vs H1 => tk σ H1 fun zs H2 => ∀ x dx, H2 x = Option.none → H2 dx = Option.none → dx ≠ x →
  sp (V.ref x :: vs) zs (upd (upd H2 dx (.own x)) x (.ins C dx [])) (fun v H3 => v = .non ∧ Q (.ref x) H3) (E σ)
theorem pe_makePKS {E : L2.St → XK} (M : Mk X.K C f) (F : FnRK X.prog X.w X.K X.mg X.base CX k f ks sp) (hr : Room (k + 1) X.A) (hg : Gl X x) (hm : X.mg x = some (.ref C)) (hx : ∀ σ, PassesAt CX X σ (E σ)) (ha : PA X (e :: es) t) (hkw : PK X kws tk) (hdb : (x == ("__debug__" : Str)) = false := by decide)
    (hall : (backToKw pos (keywordEach kws X.env)).all (·.1.isSome) = true := by rfl) (hks : (backToKw pos (keywordEach kws X.env)).filterMap (·.1) = ks := by rfl)
    (he : starEach (e :: es) X.env = (false, eval e X.env) :: starEach es X.env := by rfl) (hpl : ((backTo pos (starEach (e :: es) X.env)).any (·.1) || (backToKw pos (keywordEach kws X.env)).any (·.1.isNone)) = false := by rfl) :
    PE X (.Call (.Name x p) (e :: es) kws pos) (tMakePKS C sp E t tk) := by
  refine ⟨fun pins s σ H Q I h => ?_⟩
  refine wpAny_Call_Name_kw (ld_glob I hg hm ?_ hdb)
  refine PySem.W.callWith_KW (h₀ := X.base) I.ok.mod.kin M.kp hall (thn (ha.run pos pins s σ H _ I h) fun us s1 ⟨vs, H1, I1, r, q⟩ => ?_) hpl he
  refine thn (hkw.run pos pins s1 σ H1 _ I1 q) fun ws s2 ⟨zs, H2, I2, rz, q2⟩ => ⟨I2.kIn, ?_⟩
  rw [hks]
  exact run_makeRKS M F hr (hx σ) I2 r rz q2
theorem pe_makePK0S {E : L2.St → XK} (M : Mk X.K C f) (F : FnRK X.prog X.w X.K X.mg X.base CX k f ks sp) (hr : Room (k + 1) X.A) (hg : Gl X x) (hm : X.mg x = some (.ref C)) (hx : ∀ σ, PassesAt CX X σ (E σ)) (hkw : PK X kws tk) (hdb : (x == ("__debug__" : Str)) = false := by decide)
    (hall : (backToKw pos (keywordEach kws X.env)).all (·.1.isSome) = true := by rfl) (hks : (backToKw pos (keywordEach kws X.env)).filterMap (·.1) = ks := by rfl)
    (hpl : ((backTo pos (starEach [] X.env)).any (·.1) || (backToKw pos (keywordEach kws X.env)).any (·.1.isNone)) = false := by rfl) :
    PE X (.Call (.Name x p) [] kws pos) (tMakePKS C sp E tNil tk) := by
  refine ⟨fun pins s σ H Q I h => ?_⟩
  refine wpAny_Call_Name_kw (ld_glob I hg hm ?_ hdb)
  refine PySem.W.callWith_KW0 (h₀ := X.base) I.ok.mod.kin M.kp hall ?_ hpl
  refine thn (hkw.run pos pins s σ H _ I h) fun ws s2 ⟨zs, H2, I2, rz, q2⟩ => ⟨I2.kIn, ?_⟩
  rw [hks]
  exact run_makeRKS (us := []) (vs := []) M F hr (hx σ) I2 .nil rz q2
end
end StK
namespace DS
open PySem L2
structure DEndsX where
  nx : Env → Nat → Prop
  rt : PD
  ex : Er → Env → Nat → Prop
abbrev MSx := DEndsX → Env → Nat → Prop
/-- what is raised, at the slots as they stand -/
def OkW (C : Cn) (W : WX) (σ : St) (B H : Hp) (R : PX) : Prop := ∀ er n', R er n' → ∀ cls d B' H', Stp C.sc B H B' H' → SrcOk C.sc H' n' → ErR C B' H' cls d er → W cls d σ H'
theorem OkW.step {C : Cn} {W : WX} {σ : St} {B H B' H' : Hp} {R : PX} (h : OkW C W σ B H R) (s : Stp C.sc B H B' H') : OkW C W σ B' H' R := fun er n' r cls d B2 H2 s2 k q => h er n' r cls d B2 H2 (s.trans s2) k q
def tSx (C : Cn) (W : WX) (m : MSx) : TS := fun Z σ H => ∃ B ρ n De, Fr C B σ H ρ n ∧ m De ρ n ∧
  (∀ ρ' n', De.nx ρ' n' → ∀ σ' B' H', Same B B' → Fr C B' σ' H' ρ' n' → Z.nx σ' H') ∧
  (∀ d n', De.rt d n' → ∀ v B' H', Stp C.sc C.B0 C.H0 B' H' → SrcOk C.sc H' n' → DR C.K C.cl B' v d → Z.rt v H') ∧
  (∀ er ρ' n', De.ex er ρ' n' → ∀ σ' cls d B' H', Same B B' → Fr C B' σ' H' ρ' n' → ErR C B' H' cls d er → W cls d σ' H')
def tDx (C : Cn) (W : WX) (m : M) : TE := fun σ H Q => ∃ B ρ n P R, Fr C B σ H ρ n ∧ m ρ n P R ∧ OkW C W σ B H R ∧ ∀ d n', P d n' → ∀ v B' H', Stp C.sc B H B' H' → SrcOk C.sc H' n' → DR C.K C.cl B' v d → Q v H'
section
variable {X : Cx} {C : Cn} {W : WX}
abbrev DXe (X : Cx) (C : Cn) (W : WX) (e : Expr) (m : M) : Prop := PE X e (tDx C W m)
abbrev DX1 (X : Cx) (C : Cn) (W : WX) (s : Stmt) (m : MSx) : Prop := PS X s (tSx C W m)
abbrev DXs (X : Cx) (C : Cn) (W : WX) (s : List Stmt) (m : MSx) : Prop := PSs X s (tSx C W m)
def mNextX : MSx := fun De ρ n => De.nx ρ n
def mSeqX (a b : MSx) : MSx := fun De ρ n => a { De with nx := fun ρ n => b De ρ n } ρ n
def mIfX (c : MT) (a b : MSx) : MSx := fun De ρ n => c ρ n (fun k n1 => if k = true then a De ρ n1 else b De ρ n1) nvr
def mExpX (te : M) : MSx := fun De ρ n => te ρ n (fun _ n1 => De.nx ρ n1) (fun er n1 => De.ex er ρ n1)
def mSetX (i : Nat) (te : M) : MSx := fun De ρ n => te ρ n (fun d n1 => De.nx (ρ.set i (.dat d)) n1) (fun er n1 => De.ex er ρ n1)
theorem dx_nil : DXs X C W [] mNextX := pss_weak pss_nil fun Z σ H ⟨B, ρ, n, De, F, w, nx, _⟩ => nx ρ n w σ B H (Same.refl _) F
theorem dx_pass {pos : Pos} : DX1 X C W (.Pass pos) mNextX := ps_weak ps_pass fun Z σ H ⟨B, ρ, n, De, F, w, nx, _⟩ => nx ρ n w σ B H (Same.refl _) F
theorem dx_one {st : Stmt} {a : MSx} (h : DX1 X C W st a) : DXs X C W [st] a := pss_one h
theorem dx_cons {st : Stmt} {rest : List Stmt} {a b : MSx} (h1 : DX1 X C W st a) (h2 : DXs X C W rest b) : DXs X C W (st :: rest) (mSeqX a b) := pss_weak (pss_cons h1 h2) fun Z σ H ⟨B, ρ, n, De, F, w, nx, rt, ex⟩ =>
  ⟨B, ρ, n, _, F, w, fun ρ' n' q σ' B' H' s F' => ⟨B', ρ', n', De, F', q, fun ρ2 n2 q2 σ2 B2 H2 s2 F2 => nx ρ2 n2 q2 σ2 B2 H2 (s.trans s2) F2, rt, fun er ρ2 n2 q2 σ2 cls d B2 H2 s2 F2 => ex er ρ2 n2 q2 σ2 cls d B2 H2 (s.trans s2) F2⟩, rt, ex⟩
theorem dx_if {c : Expr} {p q : List Stmt} {mc : MT} {a b : MSx} {pos : Pos} (hc : DT X C c mc) (ha : DXs X C W p a) (hb : DXs X C W q b) : DX1 X C W (.If c p q pos) (mIfX mc a b) := ps_weak (ps_if hc ha hb) fun Z σ H ⟨B, ρ, n, De, F, w, nx, rt, ex⟩ => by
  refine ⟨B, ρ, n, _, nvr, F, w, okx_nvr, fun k n1 q B1 H1 s1 k1 => ?_⟩
  have nx' := fun ρ' n' q σ' B2 H' (s2 : Same B1 B2) F2 => nx ρ' n' q σ' B2 H' (s1.old.trans s2) F2
  have ex' := fun er ρ' n' q σ' cls d B2 H' (s2 : Same B1 B2) F2 => ex er ρ' n' q σ' cls d B2 H' (s1.old.trans s2) F2
  cases k with
  | true => exact ⟨B1, ρ, n1, De, F.step s1 k1, q, nx', rt, ex'⟩
  | false => exact ⟨B1, ρ, n1, De, F.step s1 k1, q, nx', rt, ex'⟩
theorem dx_exp {e : Expr} {te : M} {pos : Pos} (h : DXe X C W e te) (hs : swapsWith e none pos.line X.env = pure false := by rfl) : DX1 X C W (.Expr e pos) (mExpX te) := ps_weak (ps_expr h hs) fun Z σ H ⟨B, ρ, n, De, F, w, nx, rt, ex⟩ =>
  ⟨B, ρ, n, _, _, F, w, fun er n' r cls d B' H' s k q => ex er ρ n' r σ cls d B' H' s.old (F.step s k) q, fun d n1 q v B1 H1 s1 k1 r => nx ρ n1 q σ B1 H1 s1.old (F.step s1 k1)⟩
theorem dx_set {i : Nat} {x : Str} {e : Expr} {te : M} {pos pos' : Pos} (hN : X.N.Nodup) (hi : X.N[i]? = some x) (hx : Loc X.env.scope x) (he : DXe X C W e te) (hs : swapsWith e (some (.Name x pos')) pos.line X.env = pure false := by rfl) (hf : X.fn x = true ∨ X.env.scope.names.lookup x = some .local := by first | exact .inl rfl | exact .inr rfl | assumption) :
    DX1 X C W (.Assign [.Name x pos'] e pos) (mSetX i te) := ps_weak (ps_set hN hi hx he hs hf) fun Z σ H ⟨B, ρ, n, De, F, w, nx, rt, ex⟩ =>
  ⟨B, ρ, n, _, _, F, w, fun er n' r cls d B' H' s k q => ex er ρ n' r σ cls d B' H' s.old (F.step s k) q, fun d n1 q v B1 H1 s1 k1 r => nx _ n1 q _ B1 H1 s1.old ((F.step s1 k1).set r i)⟩
/-- what lets nothing out -/
theorem dx_of {e : Expr} {m : M} (h : DE X C e m) : DXe X C W e (fun ρ n P _ => m ρ n P nvr) := pe_weak h fun σ H Q ⟨B, ρ, n, P, R, F, w, ox, k⟩ => ⟨B, ρ, n, P, nvr, F, w, okx_nvr, k⟩
/-- a call of the text's own defs -/
def mCallX (g : G) (ar : Nat) (a : MA) : M := fun ρ n P R => a ρ n (fun as n1 => as.length = ar ∧ g as n1 P R) nvr
theorem dx_call {k ar : Nat} {f : Addr} {fd : FuncData} {ps : List Str} {g : G} {a : MA} {x : Str} {p pos : Pos} {e : Expr} {es : List Expr} (F : FnOk X.prog X.w X.K X.mg X.base (L2.CX X.prog X.w) k f fd ps (spW C.K C.cl ar g)) (hr : Room k X.A) (hg : Gl X x) (hm : X.mg x = some (.ref f))
    (hk : PySem.W.keepIn X.K (.ref f) = true) (hb : Binds X.K fd ps []) (tk : Takes X W) (ha : DA X C (e :: es) a) (hdb : (x == ("__debug__" : Str)) = false := by decide)
    (he : starEach (e :: es) X.env = (false, eval e X.env) :: starEach es X.env := by rfl) (hpl : (backTo pos (starEach es X.env)).any (·.1) = false := by rfl) : DXe X C W (.Call (.Name x p) (e :: es) [] pos) (mCallX g ar a) :=
  pe_weak (pe_callS (E := WE W) F hr hg hm hk hb (fun σ => passAt tk σ) ha hdb he hpl) fun σ H Q ⟨B, ρ, n, P, R, F, w, ox, k⟩ => by
    refine ⟨B, ρ, n, _, nvr, F, w, okx_nvr, fun as n1 q vs B1 H1 s1 k1 rs => ?_⟩
    exact ⟨C.sc, B1, n1, as, P, R, s1.sub, s1.nos, k1, rs, q.1, q.2, fun er n' r cls d B' H' s2 k2 e => ox er n' r cls d B' H' (s1.trans s2) k2 e, fun d n' p v B' H' s2 k2 r => k d n' p v B' H' (s1.trans s2) k2 r⟩
/-- C(e, .., k = .., ..) -/
def mMakePKX (nk : Nat) (g : GK) (o a : MA) : M := fun ρ m P R => o ρ m (fun bs m1 => a ρ m1 (fun as m2 => ∃ os zs, datAll bs = some os ∧ datAll as = some zs ∧ zs.length = nk ∧ os.length ≤ sizeLine ∧ g os zs m2 P R) nvr) nvr
theorem dx_makePK {k nk : Nat} {f Ad : Addr} {ks : List Str} {g : GK} {x : Str} {e : Expr} {es : List Expr} {kws : List Keyword} {o a : MA} {p pos : Pos} (M : Mk X.K Ad f) (F : StK.FnRK X.prog X.w X.K X.mg X.base (L2.CX X.prog X.w) k f ks (spMk C.K C.cl Ad nk g)) (hr : Room (k + 1) X.A) (hg : Gl X x) (hm : X.mg x = some (.ref Ad))
    (tk : Takes X W) (ho : DA X C (e :: es) o) (hkw : PK X kws (tA C a)) (hdb : (x == ("__debug__" : Str)) = false := by decide)
    (hall : (backToKw pos (keywordEach kws X.env)).all (·.1.isSome) = true := by rfl) (hks : (backToKw pos (keywordEach kws X.env)).filterMap (·.1) = ks := by rfl)
    (he : starEach (e :: es) X.env = (false, eval e X.env) :: starEach es X.env := by rfl) (hpl : ((backTo pos (starEach (e :: es) X.env)).any (·.1) || (backToKw pos (keywordEach kws X.env)).any (·.1.isNone)) = false := by rfl) :
    DXe X C W (.Call (.Name x p) (e :: es) kws pos) (mMakePKX nk g o a) := pe_weak (StK.pe_makePKS (E := WE W) M F hr hg hm (fun σ => passAt tk σ) ho hkw hdb hall hks he hpl) fun σ H Q ⟨B, ρ, m, P, R, F0, w, ox, kk⟩ => by
  refine ⟨B, ρ, m, _, nvr, F0, w, okx_nvr, fun bs m1 w1 vs B1 H1 s1 k1 rb => ⟨B1, ρ, m1, _, nvr, F0.step s1 k1, w1, okx_nvr, fun as m2 ⟨os, zs, e1, e2, hz, hl, hg⟩ us B2 H2 s2 k2 rs => ?_⟩⟩
  intro x dx hx hdx hne
  exact ⟨x, dx, vs, H2, C.sc, B2, m2, os, zs, P, R, rfl, rfl, hx, hdx, hne, s2.sub, s2.nos, k2, (datAll_rel rb e1).mono s2.old, datAll_rel rs e2, hz, hl, hg, fun er n' r cls d B' H' s3 k3 e => ox er n' r cls d B' H' ((s1.trans s2).trans s3) k3 e, fun d n' p B' H' s3 k3 r => ⟨rfl, kk d n' p (.ref x) B' H' ((s1.trans s2).trans s3) k3 r⟩⟩
theorem dx_makePK0 {k nk : Nat} {f Ad : Addr} {ks : List Str} {g : GK} {x : Str} {kws : List Keyword} {a : MA} {p pos : Pos} (M : Mk X.K Ad f) (F : StK.FnRK X.prog X.w X.K X.mg X.base (L2.CX X.prog X.w) k f ks (spMk C.K C.cl Ad nk g)) (hr : Room (k + 1) X.A) (hg : Gl X x) (hm : X.mg x = some (.ref Ad))
    (tk : Takes X W) (hkw : PK X kws (tA C a)) (hdb : (x == ("__debug__" : Str)) = false := by decide)
    (hall : (backToKw pos (keywordEach kws X.env)).all (·.1.isSome) = true := by rfl) (hks : (backToKw pos (keywordEach kws X.env)).filterMap (·.1) = ks := by rfl)
    (hpl : ((backTo pos (starEach [] X.env)).any (·.1) || (backToKw pos (keywordEach kws X.env)).any (·.1.isNone)) = false := by rfl) :
    DXe X C W (.Call (.Name x p) [] kws pos) (mMakePKX nk g mNil a) := pe_weak (StK.pe_makePK0S (E := WE W) M F hr hg hm (fun σ => passAt tk σ) hkw hdb hall hks hpl) fun σ H Q ⟨B, ρ, m, P, R, F0, w, ox, kk⟩ => by
  refine ⟨B, ρ, m, _, nvr, F0, w, okx_nvr, fun as m2 ⟨os, zs, e1, e2, hz, hl, hg⟩ us B2 H2 s2 k2 rs => ?_⟩
  cases e1
  intro x dx hx hdx hne
  exact ⟨x, dx, [], H2, C.sc, B2, m2, [], zs, P, R, rfl, rfl, hx, hdx, hne, s2.sub, s2.nos, k2, .nil, datAll_rel rs e2, hz, hl, hg, fun er n' r cls d B' H' s3 k3 e => ox er n' r cls d B' H' (s2.trans s3) k3 e, fun d n' p B' H' s3 k3 r => ⟨rfl, kk d n' p (.ref x) B' H' (s2.trans s3) k3 r⟩⟩
/-! ### the statement -/
/-- the numbers of the text's own classes that are no errors -/
def isE (n : Nat) : Bool := n != 1 && n != 2
/-- try: body except c as e: y = e -/
def mTry (i j : Nat) (mb : MSx) : MS := fun De ρ n => mb ⟨De.nx, De.rt, fun er ρ' n' => isE er.c = true ∧ De.nx ((ρ'.set j (.hld er)).set i .no) n'⟩ ρ n
/-- the class at c stands over all the text's errors -/
def OverAll (K : Fg) (cl : Cl) (c : Value) : Prop := ∀ n A, cl.adr n = some A → isE n = true → PySem.W.exmOne K (.ref A) c = some true
theorem hld_frame {B H : Hp} {σ : St} {ρ : Env} {n i j : Nat} {er : Er} {cls : Value} {d : Option Addr} {e : Addr} (F : Fr C B σ H ρ n) (h : ErR C B H cls d er) (he : H e = none) (hd : ∀ a, d = some a → ¬ inS C.sc a) :
    Fr C B (((σ.set i (some (.ref e))).set j (some (.ref e))).set i none) (upd H e (hldO e cls d)) ((ρ.set j (.hld er)).set i .no) n := by
  have s0 : Stp C.sc B H B (upd H e (hldO e cls d)) := F.self.lay he
  have F1 := F.step s0 (src_lay F.src he)
  obtain ⟨A, hA, rfl, hf⟩ := h
  have hs : ¬ inS C.sc e := src_new F.src he
  have hh : SlR C.K C.cl C.sc C.H0 B (upd H e (hldO e (.ref A) d)) (some (.ref e)) (.hld er) := by
    refine .hld hA hs upd_same ?_
    rcases hf with z | ⟨x, a, v, f, e1, e2, e3, e4, e5⟩
    · exact .inl z
    · exact .inr ⟨x, a, v, f, e1, e2, e3, hd a e2, by rw [upd_ne (ne_of_none e4 he)]; exact e4, e5⟩
  have F2 : Fr C B (σ.set j (some (.ref e))) (upd H e (hldO e (.ref A) d)) (ρ.set j (.hld er)) n := { F1 with
    slo := paired_set hh j F1.slo
    dis := dis_set F1.dis j _ rfl }
  have F3 := F2.drop i none
  by_cases hij : j = i
  · subst hij
    rw [List.set_set, List.set_set]
    rw [List.set_set] at F3
    exact F3
  · have e1 : (((σ.set i (some (.ref e))).set j (some (.ref e))).set i none) = ((σ.set j (some (.ref e))).set i none) := by
      rw [List.set_comm (some (V.ref e)) (some (V.ref e)) (Ne.symm hij), List.set_set]
    rw [e1]
    exact F3
theorem xd_nos {sc : Sc} {H : Hp} {n : Nat} {p : Addr} {fs : List (Str × V)} (k : SrcOk sc H n) (h : H p = some (.xd fs)) : ¬ inS sc p := fun z => by
  unfold SrcOk at k
  unfold inS at z
  cases sc with
  | none => exact z.elim
  | some q =>
    obtain ⟨s, c⟩ := q
    obtain ⟨_, ns, t, h1, h2, _⟩ := k
    rcases z with z | z
    · have z' : p = s := z
      rw [z', h1] at h; cases h
    · have z' : p = c := z
      rw [z', h2] at h; cases h
theorem ds_try {x n y : Str} {c : Value} {i j : Nat} {body : List Stmt} {np np2 yp ap pos pos' : Pos} {mb : MSx} (hK : X.K = C.K) (hs : X.stack = X.env :: X.outer) (hf : X.env.frame = some X.env.locals) (hex : X.ex = []) (hN : X.N.Nodup) (hi : X.N[i]? = some n) (hj : X.N[j]? = some y) (hln : X.env.kindOf n = some .local) (hly : X.env.kindOf y = some .local)
    (hc : Names X x c) (hov : OverAll C.K C.cl c) (tk : Takes X (fun _ _ _ _ => False))
    (hb : ∀ (W : WX) (pn : List (Addr × Obj)) (xe : Value → Shared → Prop), Takes (X.tr pn xe) W → PassesOwn (model X.prog X.w) X.A X.env xe → DXs (X.tr pn xe) C W body mb)
    (hnd : (n == ("__debug__" : Str)) = false := by decide) (hnc : (n == ("__classdict__" : Str)) = false := by decide) (hsw : swapsWith (.Name n np2) (some (.Name y yp)) ap.line X.env = pure false := by rfl) :
    DS X C (.Try body [.ExceptHandler (some (.Name x np)) (some n) [.Assign [.Name y yp] (.Name n np2) ap] pos'] [] [] pos) (mTry i j mb) :=
  ps_weak (DX.ps_try_keep (i := i) (j := j) (Wout := fun _ _ _ _ => False) (tb := fun W => tSx C W mb) hs hf hex hN hi hj hln hly hc tk hb hnd hnc hsw) fun Z σ H ⟨B, ρ, m, De, F, w, nx, rt, ex, bk, ct⟩ => by
    refine ⟨B, ρ, m, _, F, w, nx, rt, fun er ρ' n' q σ' cls d B' H' s F' he => ?_⟩
    obtain ⟨A, hA, rfl, hf⟩ := he
    refine ⟨true, by rw [hK]; exact hov _ _ hA q.1, fun _ e he => ?_, fun z => Bool.noConfusion z⟩
    refine nx _ n' q.2 _ B' _ s ?_
    exact hld_frame F' ⟨A, hA, rfl, hf⟩ he fun a ea => by
      rcases hf with ⟨_, z⟩ | ⟨x, a', v, f, e1, e2, e3, e4, e5⟩
      · rw [z] at ea; cases ea
      · rw [e2] at ea; cases ea
        exact xd_nos F'.src e4
/-! ### what is asked of it -/
/-- what the text's own errors say of themselves -/
structure ErrC (K : Fg) (cl : Cl) : Prop where
  exc : ∀ n A, cl.adr n = some A → isE n = true → ExcC K A
  xf : ∀ n A, cl.adr n = some A → isE n = true → XfC K A
  no : ∀ n A f, cl.adr n = some A → isE n = true → f ∈ cl.flds n → PySem.W.findIn K (.ref A) f = some none
/-- the class cv by the numbers: whether an error of the class n is one of it -/
structure IsC (K : Fg) (cl : Cl) (cv : Value) (b : Nat → Bool) : Prop where
  own : ∀ n A, cl.adr n = some A → isE n = true → PySem.W.kitOne K (.ref A) cv = some (b n)
  non : PySem.W.kitOne K (.type "NoneType") cv = some false
/-- isinstance(y, c): y a caught error, or None -/
def mIsH (j : Nat) (b : Nat → Bool) : M := fun ρ n P _ => (∃ er, ρ[j]? = some (.hld er) ∧ isE er.c = true ∧ P (.bool (b er.c)) n) ∨ (ρ[j]? = some (.dat .none) ∧ P (.bool false) n)
theorem de_isH (j : Nat) {x : Str} {t : Expr} {cV : V} {cv : Value} {b : Nat → Bool} {p p1 pos : Pos} (hK : X.K = C.K) (hg : Gl X "isinstance") (hm : X.mg "isinstance" = none) (ht : PE X t (tC cV)) (hcl : ClsV cV cv) (hcv : ∀ u, RelV cV u → u = cv) (I : IsC C.K C.cl cv b) (E : ErrC C.K C.cl)
    (hN : X.N[j]? = some x := by rfl) (hv : Vis X.env.scope x := by first | exact Or.inl rfl | exact Or.inr (Or.inl rfl) | exact Or.inr (Or.inr rfl)) (hd : (x == ("__debug__" : Str)) = false := by decide) (hcd : (x == ("__classdict__" : Str)) = false := by decide)
    (he : starEach (.Name x p1 :: [t]) X.env = (false, eval (.Name x p1) X.env) :: starEach [t] X.env := by rfl) (he2 : starEach (t :: []) X.env = (false, eval t X.env) :: starEach [] X.env := by rfl) (hpl : (backTo pos (starEach [t] X.env)).any (·.1) = false := by rfl) :
    DE X C (.Call (.Name "isinstance" p) [.Name x p1, t] [] pos) (mIsH j b) :=
  pe_weak (pe_callB (DX.call_or DX.call_isH call_isi) hg hm (by decide +kernel) (pa_cons (pe_var hN hv hd hcd) (pa_cons ht pa_nil he2) he) (by decide) (by decide) he hpl) fun σ H Q ⟨B, ρ, n, P, R, F, w, ox, k⟩ => by
    rw [hK]
    rcases w with ⟨er, e0, hE, w⟩ | ⟨e0, w⟩
    · obtain ⟨v, e1, r⟩ := paired_get F.slo e0
      cases r with
      | @hld a A d er hA hs h hd =>
        refine ⟨_, e1, .inl ⟨a, A, d, cV, cv, b er.c, rfl, h, ?_, E.exc _ _ hA hE, hcv, I.own _ _ hA hE, k _ n w _ B H F.self F.src (.bl _)⟩⟩
        rcases hd with ⟨_, z⟩ | ⟨x, dd, v, f, _, z2, _, _, z5, _⟩
        · exact .inl z
        · exact .inr ⟨dd, _, z2, z5⟩
    · obtain ⟨v, e1, r⟩ := paired_get F.slo e0
      cases r with
      | dat r =>
        cases r
        exact ⟨_, e1, .inr ⟨.non, cV, .type "NoneType", cv, false, rfl, hcl, .base .non, I.non, k _ n w _ B H F.self F.src (.bl _)⟩⟩
/-- y.f, y a caught error -/
def mFldH (j : Nat) (f : Str) (cls : Nat → Bool) : M := fun ρ n P _ => ∃ er x, ρ[j]? = some (.hld er) ∧ isE er.c = true ∧ cls er.c = true ∧ er.f = [x] ∧ P x n
theorem de_fldH (j : Nat) {x f : Str} {cls : Nat → Bool} {p1 pos : Pos} (hK : X.K = C.K) (E : ErrC C.K C.cl) (hf : ∀ n, cls n = true → C.cl.flds n = [f])
    (hN : X.N[j]? = some x := by rfl) (hv : Vis X.env.scope x := by first | exact Or.inl rfl | exact Or.inr (Or.inl rfl) | exact Or.inr (Or.inr rfl)) (hd : (x == ("__debug__" : Str)) = false := by decide) (hcd : (x == ("__classdict__" : Str)) = false := by decide)
    (hb : attributeBase (.Name x p1) f X.env (eval (.Name x p1) X.env) = eval (.Name x p1) X.env := by rfl) : DE X C (.Attribute (.Name x p1) f pos) (mFldH j f cls) :=
  pe_weak (DX.pe_hd (pe_var hN hv hd hcd) hb) fun σ H Q ⟨B, ρ, n, P, R, F, ⟨er, x, e0, hE, hc, ef, w⟩, ox, k⟩ => by
    rw [hK]
    obtain ⟨v, e1, r⟩ := paired_get F.slo e0
    cases r with
    | @hld a A d er hA hs h hd =>
      rcases hd with ⟨z, _⟩ | ⟨y, dd, v, g, z1, z2, z3, z4, z5, z6⟩
      · rw [ef] at z; cases z
      · rw [ef] at z1; cases z1
        have z3' := hf _ hc
        rw [z3] at z3'
        cases z3'
        subst z2
        exact ⟨_, e1, a, A, dd, _, v, rfl, h, E.xf _ _ hA hE, E.no _ _ _ hA hE (by rw [z3]; exact List.mem_cons_self), z5, by simp [List.lookup], k x n w v B H F.self F.src z6⟩
end
end DS

/-! DS26: l * k. -/
namespace DS
open PySem L2
section
variable {X : Cx} {C : Cn} {K : Fg} {cl : Cl}
def mRep (a b : M) : ML := fun ρ n P R => a ρ n (fun x n1 => b ρ n1 (fun y n2 => ∃ (ds : List D) (k : Int), x = .list ds ∧ y = .int k ∧ (-(2 ^ 62) ≤ k ∧ k < 2 ^ 62) ∧ ds.length * k.toNat ≤ sizeLine ∧ P (List.replicate k.toNat ds).flatten n2) R) R
theorem drs_rep {A : Hp} {vs : List V} {ds : List D} (h : DRs K cl A vs ds) : ∀ k : Nat, DRs K cl A (List.replicate k vs).flatten (List.replicate k ds).flatten
  | 0 => .nil
  | k + 1 => by
    rw [List.replicate_succ, List.replicate_succ, List.flatten_cons, List.flatten_cons]
    exact h.append (drs_rep h k)
theorem le_rep {x y : Expr} {a b : M} {pos : Pos} (ha : QE X C x a) (hb : QE X C y b) : LE X C (.BinOp x .Mult y pos) (mRep a b) := pe_weak (pe_op op_rep ha hb) fun σ H Q ⟨B, ρ, n, P, R, F, w, ox, k⟩ => by
  refine ⟨B, ρ, n, _, R, F, w, ox, fun dx n1 hb x B1 H1 s1 k1 rx => ⟨B1, ρ, n1, _, R, F.step s1 k1, hb, ox.step s1, fun dy n2 hz y B2 H2 s2 k2 ry => ?_⟩⟩
  obtain ⟨ds, j, rfl, rfl, ⟨j1, j2⟩, hl, p⟩ := hz
  obtain ⟨l, xs, e1, h1, r1⟩ := q_list (rx.mono s2.ext.hid s2.old) hid_sub s2.sub
  have st := s1.trans s2
  have ry' := ry.dr s2.hid
  cases ry'
  exact ⟨l, j, xs, e1, rfl, h1, by omega, by omega, by rw [r1.length]; exact hl, fun q hq => k _ n2 p q _ B2 _ (fresh_of st hq k2) (st.lay hq) (none_of st hq) (src_lay k2 hq) upd_same (drs_rep r1 _)⟩
end
end DS

/-! DS27: the program's own classes by number. -/
namespace DS
open PySem L2
theorem hu1 {k : Nat} {A : Around} (hr : Room k A) : A.units + 1 < cLine := by have := hr.un; omega
section
variable {X : Cx} {C : Cn}
theorem ds_par {i j : Nat} {x y : Str} {a b : Expr} {ma : MA} {px py pt pos : Pos} {kt k2 pt2} (hc : X.calm = true) (hN : X.N.Nodup) (hi : X.N[i]? = some x) (hj : X.N[j]? = some y) (hij : i ≠ j)
    (hx : X.env.scope.names.lookup x = some .local) (hy : X.env.scope.names.lookup y = some .local) (ha : DA X C [a, b] ma)
    (hw : swappedStores [.Tuple [.Name x px, .Name y py] kt pt] (.Tuple [a, b] k2 pt2) X.env = pure (some [x, y]))
    (hs : swapsWithSole [.Tuple [.Name x px, .Name y py] kt pt] (.Tuple [a, b] k2 pt2) pos.line X.env = pure false := by rfl) :
    DS X C (.Assign [.Tuple [.Name x px, .Name y py] kt pt] (.Tuple [a, b] k2 pt2) pos) (mPar i j ma) :=
  ps_weak (ps_par hc hN hi hj hij hx hy ha hw hs) fun Z σ H ⟨B, ρ, n, De, F, w, nx, rt, ex, bk, ct⟩ => by
    refine ⟨B, ρ, n, _, De.ex, F, w, ex.lift F, fun as n1 ⟨d, e, ea, q⟩ us B1 H1 s1 k1 rs => ?_⟩
    subst ea
    cases rs with
    | cons r1 t =>
      cases t with
      | cons r2 t2 =>
        cases t2
        cases r1 with
        | dat r1 =>
          cases r2 with
          | dat r2 => exact ⟨_, _, rfl, nx _ n1 q _ B1 H1 s1.old (((F.step s1 k1).set r1 i).set r2 j)⟩
end
def fldsOf : Nat → List Str
  | 0 => ["reason"]
  | 1 => ["_owners", "_grants", "_persons"]
  | 4 => ["grant"]
  | 5 => ["row"]
  | 10 => ["reason"]
  | 11 => ["grant"]
  | 13 => ["count"]
  | _ => []
theorem al0 {p : Nat × Addr → Prop} : ∀ q ∈ ([] : List (Nat × Addr)), p q := fun _ h => nomatch h
theorem al1 {p : Nat × Addr → Prop} {a : Nat × Addr} {l : List (Nat × Addr)} (h : p a) (t : ∀ q ∈ l, p q) : ∀ q ∈ a :: l, p q := fun q hq => by
  rcases List.mem_cons.mp hq with e | hq
  · rw [e]; exact h
  · exact t q hq
/-- the classes at these places -/
def clOf3 (l : List (Nat × Addr)) : Cl := ⟨fun n => l.lookup n, fldsOf⟩
theorem look_all {p : Nat → Addr → Prop} : ∀ {l : List (Nat × Addr)}, (∀ q ∈ l, p q.1 q.2) → ∀ n A, l.lookup n = some A → p n A
  | [], _, n, A, e => by simp at e
  | (m, B) :: r, h, n, A, e => by
    rw [List.lookup_cons] at e
    cases hm : n == m with
    | true =>
      rw [hm] at e
      cases e
      rw [beq_iff_eq] at hm
      subst hm
      exact h _ List.mem_cons_self
    | false =>
      rw [hm] at e
      exact look_all (fun q hq => h q (.tail _ hq)) n A e
section
variable {K : Fg} {l : List (Nat × Addr)}
theorem errC_of (h : ∀ q ∈ l, isE q.1 = true → ExcC K q.2 ∧ XfC K q.2 ∧ ∀ f ∈ fldsOf q.1, PySem.W.findIn K (.ref q.2) f = some none) : ErrC K (clOf3 l) := by
  have z : ∀ n A, l.lookup n = some A → isE n = true → ExcC K A ∧ XfC K A ∧ ∀ f ∈ fldsOf n, PySem.W.findIn K (.ref A) f = some none := fun n A e =>
    look_all (p := fun n A => isE n = true → ExcC K A ∧ XfC K A ∧ ∀ f ∈ fldsOf n, PySem.W.findIn K (.ref A) f = some none) h n A e
  exact ⟨fun n A e hE => (z n A e hE).1, fun n A e hE => (z n A e hE).2.1, fun n A f e hE hf => (z n A e hE).2.2 f hf⟩
theorem isC_of {cv : Value} {b : Nat → Bool} (h : ∀ q ∈ l, isE q.1 = true → PySem.W.kitOne K (.ref q.2) cv = some (b q.1)) (hn : PySem.W.kitOne K (.type "NoneType") cv = some false) : IsC K (clOf3 l) cv b where
  own := fun n A e hE => look_all (p := fun n A => isE n = true → PySem.W.kitOne K (.ref A) cv = some (b n)) h n A e hE
  non := hn
theorem over_of {cv : Value} (h : ∀ q ∈ l, isE q.1 = true → PySem.W.exmOne K (.ref q.2) cv = some true) : OverAll K (clOf3 l) cv := fun n A e hE => look_all (p := fun n A => isE n = true → PySem.W.exmOne K (.ref A) cv = some true) h n A e hE
theorem obC_of {n : Nat} {C : Addr} (e : l.lookup n = some C) (c : Cls K C) (no : ∀ f ∈ fldsOf n, NoAttr K C f) (nd : (fldsOf n).Nodup) : ObC K (clOf3 l) n where
  cls := fun Ad h => by
    have h' : l.lookup n = some Ad := h
    rw [e] at h'; cases h'; exact c
  no := fun Ad f h hf => by
    have h' : l.lookup n = some Ad := h
    rw [e] at h'; cases h'; exact no f hf
  nd := nd
theorem kit_self (C : Addr) : PySem.W.kitOne K (.ref C) (.ref C) = some true := by unfold PySem.W.kitOne; simp
end
theorem isIR_flds : ∀ (l : List (Nat × Addr)) (n : Nat), (n == 0) = true → (clOf3 l).flds n = (["reason"] : List Str) := fun l n h => by
  rw [beq_iff_eq] at h; subst h; rfl
end DS

/-! DS28: errors without a field raised, keyword-only arguments, min with a default, sorted of an own dict, truth of a list. -/
namespace DS
open PySem L2 PyProof.Rows
section
variable {X : Cx} {C : Cn}
/-! ### raise C("text") -/
structure PxC (K : Fg) (mg : Str → Option Value) (Ad : Addr) (nm : Str) : Prop where
  bas : PySem.W.excIn K Ad [.type "ValueError", .type "Exception", .type "BaseException", .type "object"] "ValueError.__new__" = true
  gC : mg nm = some (.ref Ad)
  kC : PySem.W.keepIn K (.ref Ad) = true
  exC : PySem.W.subIn K (.ref Ad) (.type "BaseException") = some true
  tyC : PySem.W.typeIn K (.ref Ad) = some (.type "type")
def mRaiseP (c : Nat) : MS := fun De _ n => De.ex ⟨c, []⟩ n
theorem ds_raiseP {nm m : Str} {j : Nat} {c : Nat} {Ad : Addr} {p p2 pos pos2 : Pos} (hc : X.calm = true) (T : PxC X.K X.mg Ad nm) (hcl : C.cl.adr c = some Ad) (tk : Takes X (fun cls d _ H => C.E cls d H)) (hg : Gl X nm) (hdb : (nm == ("__debug__" : Str)) = false := by decide) :
    DS X C (.Raise (some (.Call (.Name nm p) [.Constant (.str m) j p2] [] pos)) none pos2) (mRaiseP c) :=
  ps_weak (ps_raise hc tk (pmk_own PySem.F.excBase_ValueError T.bas T.gC T.kC (raises_own T.exC T.tyC) hg hdb)) fun Z σ H ⟨B, ρ, n, De, F, w, nx, rt, ex, bk, ct⟩ =>
    ex ⟨c, []⟩ n w (.ref Ad) none B H F.entry F.src ⟨Ad, hcl, rfl, .inl ⟨rfl, rfl⟩⟩
/-! ### a call with keywords -/
def mCallK (g : G) (n m : Nat) (a k : MA) : M := fun ρ j P R => a ρ j (fun as j1 => k ρ j1 (fun bs j2 => as.length = n ∧ bs.length = m ∧ g (as ++ bs) j2 P R) R) R
theorem paired_appA {α β : Type} {F : α → β → Prop} : ∀ {l l' : List α} {r r' : List β}, Paired F l r → Paired F l' r' → Paired F (l ++ l') (r ++ r')
  | _, _, _, _, .nil, q => q
  | _, _, _, _, .cons h t, q => .cons h (paired_appA t q)
theorem de_callK {k n m ar : Nat} {f : Addr} {fd : FuncData} {ps ks : List Str} {g : G} {a kk : MA} {x : Str} {p pos : Pos} {e : Expr} {es : List Expr} {kws : List Keyword} (F : FnOk X.prog X.w X.K X.mg X.base (L2.CX X.prog X.w) k f fd ps (spW C.K C.cl ar g)) (hr : Room k X.A) (hg : Gl X x) (hm : X.mg x = some (.ref f))
    (hk : PySem.W.keepIn X.K (.ref f) = true) (hb : KBn X.K fd ps n ks (fun us ws => us ++ ws) (fun vs zs => vs ++ zs)) (hkl : ks.length = m) (har : ar = n + m) (hx : Passes (L2.CX X.prog X.w) X C.E) (ha : DA X C (e :: es) a) (hkw : PK X kws (tA C kk)) (hall : (backToKw pos (keywordEach kws X.env)).all (·.1.isSome) = true := by rfl) (hks : (backToKw pos (keywordEach kws X.env)).filterMap (·.1) = ks := by rfl)
    (hdb : (x == ("__debug__" : Str)) = false := by decide) (he : starEach (e :: es) X.env = (false, eval e X.env) :: starEach es X.env := by rfl)
    (hpl : ((backTo pos (starEach (e :: es) X.env)).any (·.1) || (backToKw pos (keywordEach kws X.env)).any (·.1.isNone)) = false := by rfl) : DE X C (.Call (.Name x p) (e :: es) kws pos) (mCallK g n m a kk) :=
  pe_weak (pe_callN F hr hg hm hk hb hx ha hkw hall hks hdb he hpl) fun σ H Q ⟨B, ρ, j, P, R, Fr0, w, ox, q⟩ => by
    refine ⟨B, ρ, j, _, R, Fr0, w, ox, fun as j1 w1 vs B1 H1 s1 k1 rs => ⟨B1, ρ, j1, _, R, Fr0.step s1 k1, w1, ox.step s1, fun bs j2 w2 zs B2 H2 s2 k2 rz => ?_⟩⟩
    obtain ⟨l1, l2, hgo⟩ := w2
    have st := s1.trans s2
    subst hkl
    refine ⟨by rw [paired_len rs]; exact l1, by rw [paired_len rz]; exact l2, C.sc, B2, j2, as ++ bs, P, R, st.sub, st.nos, k2, paired_appA (paired_mono (fun _ _ h => h.step s2) rs) rz, ?_, hgo, ox.step st, fun d n' p v B' H' s3 k3 r => q d n' p v B' H' (st.trans s3) k3 r⟩
    rw [List.length_append, l1, l2, har]
theorem kbn_mk {K : Fg} {x qual : Str} {st : Stmt} {f : Addr} {fd : FuncData} {ps ks : List Str} {n : Nat} (F : Fun K x qual st f fd)
    (h : ∀ (kV doc pm : Value) (an : Option Addr) (cdv ct : Value) (us ws : List Value), us.length = n → ws.length = ks.length → bindArgs (PySem.W.fnOf x qual (defArgs st) (defBody st) (defScope st) .none kV doc pm an cdv ct) ⟨us, ks.zip ws⟩ = pure (ps.zip (us ++ ws))) : KBn K fd ps n ks (fun us ws => us ++ ws) (fun vs zs => vs ++ zs) := by
  obtain ⟨oc, od, kV, doc, pm, an, cdv, ct, osl, rfl, lk, hcd⟩ := F.ex
  exact ⟨fun s us ws X l1 l2 => .of_eq (h kV doc pm an cdv ct us ws l1 l2), fun r1 r2 => r1.append r2⟩
/-! ### min(xs, default = d) -/
theorem reads_ints {h : Heap} : ∀ {us : List Value} {ns : List Int}, IntsAre us ns → ∃ as, ReadsAll h us (ns.map PySem.W.Datum.toD) as
  | [], [], _ => ⟨_, .nil⟩
  | u :: us, n :: ns, h0 => by
    obtain ⟨⟨t, e⟩, h1⟩ : (∃ t, u = .int n t) ∧ IntsAre us ns := by
      cases h0
      exact ⟨⟨_, rfl⟩, by assumption⟩
    subst e
    obtain ⟨as, r⟩ := reads_ints (h := h) h1
    exact ⟨_, .cons (.int n t) r⟩
  | [], _ :: _, h0 => by cases h0
  | _ :: _, [], h0 => by cases h0
theorem minOf_int : ∀ (xs : List Int) (x : Int), (PySem.W.minOf x xs ∈ x :: xs) ∧ ∀ y ∈ x :: xs, PySem.W.minOf x xs ≤ y
  | [], x => ⟨List.mem_cons_self, fun y hy => by rw [List.mem_singleton.mp hy]; exact Int.le_refl _⟩
  | z :: xs, x => by
    have e : PySem.W.minOf x (z :: xs) = PySem.W.minOf (if z < x then z else x) xs := by
      unfold PySem.W.minOf
      rw [List.foldl_cons]
      show List.foldl _ (if decide (z < x) = true then z else x) xs = _
      by_cases hz : z < x
      · rw [if_pos hz, if_pos (decide_eq_true hz)]
      · rw [if_neg hz, if_neg (fun h => hz (of_decide_eq_true h))]
    rw [e]
    obtain ⟨h1, h2⟩ := minOf_int xs (if z < x then z else x)
    have hle : PySem.W.minOf (if z < x then z else x) xs ≤ (if z < x then z else x) := h2 _ List.mem_cons_self
    refine ⟨?_, fun y hy => ?_⟩
    · rcases List.mem_cons.mp h1 with h | h
      · by_cases hz : z < x
        · rw [if_pos hz] at h ⊢; rw [h]; exact .tail _ (.head _)
        · rw [if_neg hz] at h ⊢; rw [h]; exact .head _
      · exact .tail _ (.tail _ h)
    · rcases List.mem_cons.mp hy with rfl | hy
      · by_cases hz : z < y
        · rw [if_pos hz] at hle ⊢; omega
        · rw [if_neg hz] at hle ⊢; omega
      · rcases List.mem_cons.mp hy with rfl | hy
        · by_cases hz : y < x
          · rw [if_pos hz] at hle ⊢; omega
          · rw [if_neg hz] at hle ⊢; omega
        · exact h2 y (.tail _ hy)
def rMinD (K : Fg) : List V → List V → Hp → VK → Prop := fun xs zs H Q => ∃ (a : Addr) (ns : List Int) (z : V), xs = [.ref a] ∧ zs = [z] ∧ SqL K H a (ns.map V.int) ∧ (ns = [] → Q z H) ∧ ∀ m, m ∈ ns → (∀ y, y ∈ ns → m ≤ y) → Q (.int m) H
theorem cr_minD (hc : X.calm = true) (hu : X.A.units + 64 < cLine) : CallRK X (.builtin "min") ["default"] (rMinD X.K) := by
  intro pins s σ H xs zs us ws Q I r rz ⟨a, ns, z, ex, ez, hs, q0, q1⟩
  subst ex
  subst ez
  obtain ⟨its, rv, hl, _⟩ := I.list hs
  rw [Vals.ref1 r]
  cases rz with
  | @cons _ w _ _ rw' rn =>
    cases rn
    show wpAny _ _ (call (.builtin "min") [.ref a] [(Str.ofString "default", w)]) _ _ _
    obtain ⟨as, hr⟩ := reads_ints (h := s.heap) rv.ints
    refine PySem.W.min_list_datum_default (α := Int) (xs := ns) (I.ok.hd hc) hl.isList ⟨as, hr⟩ (by show X.A.units + 1 + 0 < cLine; omega) (fun e h' tk k => ⟨z, H, I.kept k, rw', q0 e⟩) fun y ys i v h' tk e hi hh hk => ?_
    obtain ⟨m1, m2⟩ := minOf_int ys y
    obtain ⟨as', hh⟩ := hh
    cases hh with
    | int _ t => exact ⟨.int _, H, I.kept hk, ⟨t, rfl⟩, q1 _ (by rw [e]; exact m1) (by rw [e]; exact m2)⟩
def mMinD (a k : M) : M := fun ρ n P R => a ρ n (fun d n1 => k ρ n1 (fun z n2 => ∃ ns : List Int, d = .list (ns.map .int) ∧ (ns = [] → P z n2) ∧ ∀ m, m ∈ ns → (∀ y, y ∈ ns → m ≤ y) → P (.int m) n2) R) R
theorem drs_intsV {B : Hp} {K : Fg} {cl : Cl} : ∀ {vs : List V} {ns : List Int}, DRs K cl B vs (ns.map PyData.int) → vs = ns.map V.int
  | _, [], .nil => rfl
  | _, n :: ns, .cons h t => by
    cases h
    rw [drs_intsV t]; rfl
theorem de_minD {x : Str} {e ke : Expr} {a k : M} {p kp pos : Pos} (hc : X.calm = true) (hu : X.A.units + 64 < cLine) (hg : Gl X x) (hm : X.mg x = none) (hv : bootBuiltins x = some (.builtin "min")) (ha : QE X C e a) (hk : DE X C ke k)
    (hn : x ≠ "__name__" := by decide) (hdb : (x == ("__debug__" : Str)) = false := by decide) (he : starEach (e :: []) X.env = (false, eval e X.env) :: starEach [] X.env := by rfl)
    (he2 : backTo pos (starEach (e :: []) X.env) = (false, eval e X.env) :: backTo pos (starEach [] X.env) := by rfl) (hpl : (backTo pos (starEach (e :: []) X.env)).any (·.1) = false := by rfl)
    (hall : (backToKw pos (keywordEach [⟨some "default", ke, kp⟩] X.env)).all (·.1.isSome) = true := by rfl) (hnone : (backToKw pos (keywordEach [⟨some "default", ke, kp⟩] X.env)).any (·.1.isNone) = false := by rfl) (hks : (backToKw pos (keywordEach [⟨some "default", ke, kp⟩] X.env)).filterMap (·.1) = (["default"] : List Str) := by rfl) (hK : X.K = C.K := by rfl) :
    DE X C (.Call (.Name x p) [e] [⟨some "default", ke, kp⟩] pos) (mMinD a k) :=
  pe_weak (pe_callBK (cr_minD hc hu) hg hm hv (pa_cons ha pa_nil he) (pk_cons hk pk_nil) hn hdb he2 hpl hall hnone hks) fun σ H Q ⟨B, ρ, n, P, R, F, w, ox, q⟩ => by
    refine ⟨B, ρ, n, _, R, F, w, ox, fun d n1 w1 v B1 H1 s1 k1 rv => ⟨B1, ρ, n1, _, R, F.step s1 k1, w1, ox.step s1, fun z n2 ⟨ns, ed, p0, p1⟩ zv B2 H2 s2 k2 rz => ?_⟩⟩
    subst ed
    have st := s1.trans s2
    obtain ⟨qa, xs, ev, h, r⟩ := q_list (rv.mono s2.ext.hid s2.old) hid_sub s2.sub
    have ex := drs_intsV r
    subst ex
    exact ⟨qa, ns, zv, by rw [ev], rfl, SqL.of h, fun e => q z n2 (p0 e) zv B2 H2 st k2 rz, fun m h1 h2 => q (.int m) n2 (p1 m h1 h2) (.int m) B2 H2 st k2 (.int m)⟩
/-! ### sorted(d), d an own dict with texts as keys -/
def mSortK (i : Nat) : ML := fun ρ n P _ => ∃ (es : List (Key × D)) (ks : List Str), ρ[i]? = some (.dic false es) ∧ es.map (·.1) = ks.map Sum.inr ∧ ks.length < 64 ∧ ∀ ys, ys.Perm ks → sortedS ys = true → P (ys.map .str) n
theorem drs_strs {B : Hp} {K : Fg} {cl : Cl} : ∀ ys : List Str, DRs K cl B (ys.map V.str) (ys.map PyData.str)
  | [] => .nil
  | y :: ys => .cons (.str y) (drs_strs ys)
theorem dvs_keys {κ : Type} {K : Fg} {cl : Cl} {B : Hp} : ∀ {kvs : List (κ × V)} {es : List (κ × D)}, DVs K cl B kvs es → kvs.map (·.1) = es.map (·.1)
  | _, _, .nil => rfl
  | _, _, .cons h t => by
    rw [List.map_cons, List.map_cons, h.1, dvs_keys t]
theorem le_sortK (i : Nat) {f x : Str} {p p1 pos : Pos} (hc : X.calm = true) (hg : Gl X f) (hm : X.mg f = none) (hv : bootBuiltins f = some (.builtin "sorted")) (hN : X.N[i]? = some x := by rfl) (hvv : Vis X.env.scope x := by first | exact Or.inl rfl | exact Or.inr (Or.inl rfl) | exact Or.inr (Or.inr rfl)) (hd : (x == ("__debug__" : Str)) = false := by decide)
    (hcd : (x == ("__classdict__" : Str)) = false := by decide) (hn : f ≠ "__name__" := by decide) (hdb : (f == ("__debug__" : Str)) = false := by decide) (he : starEach (.Name x p1 :: []) X.env = (false, eval (.Name x p1) X.env) :: starEach [] X.env := by rfl) :
    LE X C (.Call (.Name f p) [.Name x p1] [] pos) (mSortK i) :=
  pe_weak (pe_callB (call_sortedD hc) hg hm hv (pa_cons (pe_var hN hvv hd hcd) pa_nil he) hn hdb he) fun σ H Q ⟨B, ρ, n, P, R, F, ⟨es, ks, e0, ek, el, w⟩, ox, k⟩ => by
    obtain ⟨v, e1, r⟩ := paired_get F.slo e0
    cases r with
    | @dic q lk kvs es h0 hB hs h q0 =>
      refine ⟨.ref q, e1, q, kvs, ks, rfl, h.rd, (dvs_keys q0).trans ek, el, fun ys a pm so ha => ?_⟩
      have s1 := F.self
      exact k _ n (w ys pm so) a _ B _ ha (s1.lay ha) (none_of s1 ha) (src_lay F.src ha) upd_same (drs_strs ys)
/-! ### the truth of a list -/
def truD : D → Option Bool
  | .list ds => some (!ds.isEmpty)
  | _ => none
def mTru (a : M) : MT := fun ρ n P R => a ρ n (fun d n1 => ∃ b, truD d = some b ∧ P b n1) R
theorem drs_empty {B : Hp} {K : Fg} {cl : Cl} {vs : List V} {ds : List D} (h : DRs K cl B vs ds) : vs.isEmpty = ds.isEmpty := by
  cases h <;> rfl
theorem dt_tru {e : Expr} {m : M} (h : QE X C e m) (he : ∀ whole, isTrue e X.env whole = (do let v ← whole; standAt e.pos; holding [v] (truthy v)) := by intro _; rfl) : DT X C e (mTru m) :=
  pt_weak (pt_truth h he) fun σ H Q ⟨B, ρ, n, P, R, F, w, ox, k⟩ => ⟨B, ρ, n, _, R, F, w, ox, fun d n1 ⟨b, eb, p⟩ v B1 H1 s1 k1 rv => by
    cases d with
    | list ds =>
      cases eb
      obtain ⟨q, xs, ev, hq, r⟩ := q_list rv hid_sub s1.sub
      subst ev
      exact ⟨_, Or.inl ⟨xs, SqL.of hq, by rw [drs_empty r]⟩, k _ n1 p B1 H1 s1 k1⟩
    | _ => cases eb⟩
/-! ### y is not None, y a caught error or None -/
def mIsNH (j : Nat) : M := fun ρ n P _ => (∃ er, ρ[j]? = some (.hld er) ∧ P (.bool true) n) ∨ (ρ[j]? = some (.dat .none) ∧ P (.bool false) n)
theorem de_isNH (j : Nat) {x : Str} {p1 p2 pos : Pos} (hN : X.N[j]? = some x := by rfl) (hv : Vis X.env.scope x := by first | exact Or.inl rfl | exact Or.inr (Or.inl rfl) | exact Or.inr (Or.inr rfl)) (hd : (x == ("__debug__" : Str)) = false := by decide) (hcd : (x == ("__classdict__" : Str)) = false := by decide) {k : Nat}
    (hm : behindInMarks .IsNot (.Constant .none k p2) = false := by exact nomark _) :
    DE X C (.Compare (.Name x p1) [.IsNot] [.Constant .none k p2] pos) (mIsNH j) :=
  pe_weak (pe_cmpR op_notN (pe_var hN hv hd hcd) pe_non hm) fun σ H Q ⟨B, ρ, n, P, R, F, w, ox, q⟩ => by
    rcases w with ⟨er, e0, w⟩ | ⟨e0, w⟩
    · obtain ⟨v, e1, r⟩ := paired_get F.slo e0
      cases r with
      | hld hA hs h hd => exact ⟨_, e1, rfl, q _ n w _ B H F.self F.src (.bl true)⟩
    · obtain ⟨v, e1, r⟩ := paired_get F.slo e0
      cases r with
      | dat r =>
        cases r
        exact ⟨_, e1, rfl, q _ n w _ B H F.self F.src (.bl false)⟩
theorem dt_isNH (j : Nat) {x : Str} {p1 p2 pos : Pos} (hN : X.N[j]? = some x := by rfl) (hv : Vis X.env.scope x := by first | exact Or.inl rfl | exact Or.inr (Or.inl rfl) | exact Or.inr (Or.inr rfl)) (hd : (x == ("__debug__" : Str)) = false := by decide) (hcd : (x == ("__classdict__" : Str)) = false := by decide) {k : Nat}
    (hm : behindInMarks .IsNot (.Constant .none k p2) = false := by exact nomark _) :
    DT X C (.Compare (.Name x p1) [.IsNot] [.Constant .none k p2] pos) (mT (mIsNH j)) :=
  pt_weak (pt_cmpR op_notN (pe_var hN hv hd hcd) pe_non hm) fun σ H Q ⟨B, ρ, n, P, R, F, w, ox, q⟩ => by
    rcases w with ⟨er, e0, b, eb, w⟩ | ⟨e0, b, eb, w⟩
    · obtain ⟨v, e1, r⟩ := paired_get F.slo e0
      cases eb
      cases r with
      | hld hA hs h hd => exact ⟨_, e1, rfl, true, rfl, q true n w B H F.self F.src⟩
    · obtain ⟨v, e1, r⟩ := paired_get F.slo e0
      cases eb
      cases r with
      | dat r =>
        cases r
        exact ⟨_, e1, rfl, false, rfl, q false n w B H F.self F.src⟩
end
end DS

/-! DS29: sorted(set(xs)) of tuples of ints. -/
namespace DS
open PySem L2 PyProof.Rows
section
variable {X : Cx} {C : Cn}
def tupI (k : List Int) : D := .tuple (k.map .int)
def mSortSet (a : M) : ML := fun ρ n P R => a ρ n (fun d n1 => ∃ (kss : List (List Int)) (dd : Nat) (B : Int), d = .list (kss.map tupI) ∧ kss.length < 64 ∧ 1 ≤ dd ∧ (∀ k ∈ kss, k.length = dd ∧ TS.Bd B k) ∧
  ∀ outs : List (List Int), outs.Nodup → outs.length < 64 → (∀ k, k ∈ outs ↔ k ∈ kss) → outs.Pairwise (fun a b => TS.code B a ≤ TS.code B b) → P (outs.map tupI) n1) R
theorem drs_tups {B : Hp} {K : Fg} {cl : Cl} : ∀ {vs : List V} {kss : List (List Int)}, DRs K cl B vs (kss.map tupI) → ∃ ks : List (Addr × List Int), vs = ks.map (fun p => V.ref p.1) ∧ ks.map (·.2) = kss ∧ ∀ p ∈ ks, SqT K B p.1 (p.2.map V.int) ∧ (p.2.map V.int ≠ [] → B p.1 = some (.tup (p.2.map V.int)))
  | _, [], .nil => ⟨[], rfl, rfl, fun p h => nomatch h⟩
  | _, k :: kss, .cons h t => by
    obtain ⟨ks, e1, e2, h3⟩ := drs_tups t
    cases h with
    | @tup a xs _ hq r tr =>
      have ex := drs_intsV r
      subst ex
      refine ⟨(a, k) :: ks, by rw [e1]; rfl, by rw [← e2]; rfl, fun p hp => ?_⟩
      rcases List.mem_cons.mp hp with rfl | hp
      · exact ⟨hq, tr⟩
      · exact h3 p hp
theorem tups_drs {B : Hp} {K : Fg} {cl : Cl} : ∀ {ks : List (Addr × List Int)}, (∀ p ∈ ks, SqT K B p.1 (p.2.map V.int) ∧ (p.2.map V.int ≠ [] → B p.1 = some (.tup (p.2.map V.int)))) → DRs K cl B (ks.map fun p => V.ref p.1) ((ks.map (·.2)).map tupI)
  | [], _ => .nil
  | p :: ks, h => .cons (.tup (h p List.mem_cons_self).1 (DRs.ints rfl) (h p List.mem_cons_self).2) (tups_drs fun q hq => h q (.tail _ hq))
theorem le_sortSet {f g : Str} {e : Expr} {a : M} {p p2 q pos : Pos} (hc : X.calm = true) (hu : X.A.units + 64 < cLine) (hg : Gl X f) (hm : X.mg f = none) (hv : bootBuiltins f = some (.builtin "sorted")) (hg2 : Gl X g) (hm2 : X.mg g = none) (hv2 : bootBuiltins g = some (.type "set")) (ha : QE X C e a)
    (hn : f ≠ "__name__" := by decide) (hdb : (f == ("__debug__" : Str)) = false := by decide) (hn2 : g ≠ "__name__" := by decide) (hdb2 : (g == ("__debug__" : Str)) = false := by decide)
    (he : starEach (e :: []) X.env = (false, eval e X.env) :: starEach [] X.env := by rfl) (he2 : starEach (.Call (.Name g p2) [e] [] q :: []) X.env = (false, eval (.Call (.Name g p2) [e] [] q) X.env) :: starEach [] X.env := by rfl) (hK : X.K = C.K := by rfl) :
    LE X C (.Call (.Name f p) [.Call (.Name g p2) [e] [] q] [] pos) (mSortSet a) :=
  pe_weak (pe_callB (cr_sortedT hc) hg hm hv (pa_cons (pe_callTy (cr_setOfT hc hu) hg2 hm2 hv2 (pa_cons ha pa_nil he) hn2 hdb2 he) pa_nil he2) hn hdb he2) fun σ H Q ⟨B, ρ, n, P, R, F, w, ox, k⟩ => by
    refine ⟨B, ρ, n, _, R, F, w, ox, fun d n1 ⟨kss, dd, Bd, ed, hl, h1, hall, hP⟩ v B1 H1 s1 k1 rv => ?_⟩
    subst ed
    obtain ⟨qa, xs, ev, h, r⟩ := q_list rv hid_sub s1.sub
    obtain ⟨ks, e1, e2, h3⟩ := drs_tups r
    subst e1
    refine ⟨qa, ks, by rw [ev], SqL.of h, fun p hp => by rw [hK]; exact sqt_same s1.sub (h3 p hp).1, by rw [← e2, List.length_map] at hl; exact hl, fun sa L hsa hsub hcov => ?_⟩
    have s2 := s1.lay (o := SetTO X.prog X.w sa L) hsa
    have k2 := src_lay (o := SetTO X.prog X.w sa L) k1 hsa
    have hin : ∀ p ∈ L, p.2 ∈ kss := fun p hp => by rw [← e2]; exact List.mem_map_of_mem (hsub p hp)
    refine ⟨sa, L, dd, Bd, rfl, upd_same, fun p hp => by rw [hK]; exact sqt_same s2.sub (h3 p (hsub p hp)).1, h1, fun p hp => hall _ (hin p hp), fun L' pa pm nd few pw hpa => ?_⟩
    have hmem : ∀ p, p ∈ L' → p ∈ L := fun p hp => pm.mem_iff.mp hp
    refine k _ n1 (hP (L'.map (·.2)) nd (by rw [List.length_map]; exact few) (fun z => ⟨fun hz => ?_, fun hz => ?_⟩) (List.pairwise_map.mpr pw)) pa _ B1 _ (fresh_of s2 hpa k2) (s2.lay hpa) (none_of s2 hpa) (src_lay k2 hpa) upd_same (tups_drs fun p hp => h3 p (hsub p (hmem p hp)))
    · obtain ⟨p, hp, rfl⟩ := List.mem_map.mp hz
      exact hin p (hmem p hp)
    · rw [← e2] at hz
      obtain ⟨p, hp, rfl⟩ := List.mem_map.mp hz
      obtain ⟨p2, hp2, e⟩ := List.mem_map.mp (hcov p hp)
      rw [← e]
      exact List.mem_map_of_mem (pm.mem_iff.mpr hp2)
end
end DS

/-! DS30: defs that hand back a new list; a call that leaves a keyword-only argument out. -/
namespace DS
open PySem L2 PyProof.Rows
/-- a def's promise: its answer is a new list -/
def spF (K : Fg) (cl : Cl) (ar : Nat) (g : G) : Sp := fun vs H Q E => ∃ (sc : Sc) (B : Hp) (n : Nat) (as : List Sl) (P : List D → Nat → Prop) (R : PX), Same B H ∧ (∀ a, inS sc a → B a = none) ∧ SrcOk sc H n ∧ Paired (AgR K cl sc B H) vs as ∧ as.length = ar ∧ g as n (fun d n' => ∃ ds, d = .list ds ∧ P ds n') R ∧ OkX ⟨K, cl, sc, H, B, E⟩ B H R ∧
  ∀ ds n', P ds n' → ∀ p ws B' H', H p = none → Stp sc B H B' H' → B' p = none → SrcOk sc H' n' → H' p = some (.lst ws) → DRs K cl B' ws ds → Q (.ref p) H'
/-- statements of such a def -/
def tSF (C : Cn) (m : MS) : TS := fun Z σ H => ∃ B ρ n De, Fr C B σ H ρ n ∧ m De ρ n ∧
  (∀ ρ' n', De.nx ρ' n' → ∀ σ' B' H', Same B B' → Fr C B' σ' H' ρ' n' → Z.nx σ' H') ∧
  (∀ d n', De.rt d n' → ∃ ds, d = .list ds) ∧
  (∀ ds n', De.rt (.list ds) n' → ∀ p ws B' H', C.H0 p = none → Stp C.sc C.B0 C.H0 B' H' → B' p = none → SrcOk C.sc H' n' → H' p = some (.lst ws) → DRs C.K C.cl B' ws ds → Z.rt (.ref p) H') ∧
  OkX C C.B0 C.H0 De.ex ∧
  (∀ ρ' n', De.bk ρ' n' → ∀ σ' B' H', Same B B' → Fr C B' σ' H' ρ' n' → Z.bk σ' H') ∧
  (∀ ρ' n', De.ct ρ' n' → ∀ σ' B' H', Same B B' → Fr C B' σ' H' ρ' n' → Z.ct σ' H')
abbrev DSF (X : Cx) (C : Cn) (st : Stmt) (m : MS) : Prop := PS X st (tSF C m)
abbrev DSFs (X : Cx) (C : Cn) (st : List Stmt) (m : MS) : Prop := PSs X st (tSF C m)
section
variable {X : Cx} {C : Cn}
/-- a statement that returns nothing -/
def mNoR (m : MS) : MS := fun De ρ n => m { De with rt := fun _ _ => False } ρ n
theorem dsf_of {st : Stmt} {m m' : MS} (h : DS X C st m) (e : mNoR m = m' := by rfl) : DSF X C st m' := ps_weak h fun Z σ H ⟨B, ρ, n, De, F, w, nx, il, rt, ex, bk, ct⟩ => by
  subst e
  exact ⟨B, ρ, n, _, F, w, nx, fun d n' z => z.elim, ex, bk, ct⟩
theorem dsf_nil : DSFs X C [] mNext := pss_weak pss_nil fun Z σ H ⟨B, ρ, n, De, F, w, nx, _⟩ => nx ρ n w σ B H (Same.refl _) F
theorem dsf_cons {st : Stmt} {rest : List Stmt} {a b : MS} (h1 : DSF X C st a) (h2 : DSFs X C rest b) : DSFs X C (st :: rest) (mSeq a b) := pss_weak (pss_cons h1 h2) fun Z σ H ⟨B, ρ, n, De, F, w, nx, il, rt, ex, bk, ct⟩ =>
  ⟨B, ρ, n, _, F, w, fun ρ' n' w2 σ' B' H' s F' => ⟨B', ρ', n', De, F', w2, fun ρ2 n2 q σ2 B2 H2 s2 F2 => nx ρ2 n2 q σ2 B2 H2 (s.trans s2) F2, il, rt, ex, fun ρ2 n2 q σ2 B2 H2 s2 F2 => bk ρ2 n2 q σ2 B2 H2 (s.trans s2) F2, fun ρ2 n2 q σ2 B2 H2 s2 F2 => ct ρ2 n2 q σ2 B2 H2 (s.trans s2) F2⟩, il, rt, ex, bk, ct⟩
theorem dsf_one {st : Stmt} {a : MS} (h : DSF X C st a) : DSFs X C [st] a := pss_one h
theorem dsf_if {c : Expr} {p q : List Stmt} {mc : MT} {a b : MS} {pos : Pos} (hc : DT X C c mc) (ha : DSFs X C p a) (hb : DSFs X C q b) : DSF X C (.If c p q pos) (mIfS mc a b) := ps_weak (ps_if hc ha hb) fun Z σ H ⟨B, ρ, n, De, F, w, nx, il, rt, ex, bk, ct⟩ => by
  refine ⟨B, ρ, n, _, De.ex, F, w, ex.lift F, fun k n1 hk B1 H1 s1 k1 => ?_⟩
  have F1 := F.step s1 k1
  cases k with
  | true => exact ⟨B1, ρ, n1, De, F1, hk, fun ρ2 n2 q σ2 B2 H2 s2 F2 => nx ρ2 n2 q σ2 B2 H2 (s1.old.trans s2) F2, il, rt, ex, fun ρ2 n2 q σ2 B2 H2 s2 F2 => bk ρ2 n2 q σ2 B2 H2 (s1.old.trans s2) F2, fun ρ2 n2 q σ2 B2 H2 s2 F2 => ct ρ2 n2 q σ2 B2 H2 (s1.old.trans s2) F2⟩
  | false => exact ⟨B1, ρ, n1, De, F1, hk, fun ρ2 n2 q σ2 B2 H2 s2 F2 => nx ρ2 n2 q σ2 B2 H2 (s1.old.trans s2) F2, il, rt, ex, fun ρ2 n2 q σ2 B2 H2 s2 F2 => bk ρ2 n2 q σ2 B2 H2 (s1.old.trans s2) F2, fun ρ2 n2 q σ2 B2 H2 s2 F2 => ct ρ2 n2 q σ2 B2 H2 (s1.old.trans s2) F2⟩
theorem h0_of {B H : Hp} {σ : L2.St} {ρ : Env} {n : Nat} {p : Addr} (F : Fr C B σ H ρ n) (h : H p = none) : C.H0 p = none := fresh_of F.entry h F.src
/-- return e, e a new list -/
theorem dsf_ret {e : Expr} {l : ML} {pos : Pos} (h : LE X C e l) : DSF X C (.Return (some e) pos) (mRet (mL l)) := ps_weak (ps_ret h) fun Z σ H ⟨B, ρ, n, De, F, w, nx, il, rt, ex, bk, ct⟩ =>
  ⟨B, ρ, n, _, De.ex, F, w, ex.lift F, fun ds n' q p ws B' H' hp s hb k hl r => rt ds n' q p ws B' H' (h0_of F hp) (F.entry.trans s) hb k hl r⟩
/-- f(e, ..), f handing back a new list -/
def mCallL (g : G) (ar : Nat) (a : MA) : ML := fun ρ n P R => a ρ n (fun as n1 => as.length = ar ∧ g as n1 (fun d n' => ∃ ds, d = .list ds ∧ P ds n') R) R
theorem t_callL {g : G} {ar : Nat} {a : MA} {σ : L2.St} {H : Hp} {Q : VK} (h : tL C (mCallL g ar a) σ H Q) : tCall (spF C.K C.cl ar g) [] C.E (tA C a) σ H Q := by
  obtain ⟨B, ρ, n, P, R, F, w, ox, k⟩ := h
  refine ⟨B, ρ, n, _, R, F, w, ox, fun as n1 q vs B1 H1 s1 k1 rs => ?_⟩
  show spF C.K C.cl ar g (vs ++ []) H1 Q C.E
  rw [List.append_nil]
  exact ⟨C.sc, B1, n1, as, P, R, s1.sub, s1.nos, k1, rs, q.1, q.2, ox.step s1, fun ds n' p x ws B' H' hp s2 hb k2 hl r => k ds n' p x ws B' H' (fresh_of s1 hp k1) (s1.trans s2) hb k2 hl r⟩
theorem le_call {k ar : Nat} {f : Addr} {fd : FuncData} {ps : List Str} {g : G} {a : MA} {x : Str} {p pos : Pos} {e : Expr} {es : List Expr} (F : FnOk X.prog X.w X.K X.mg X.base (L2.CX X.prog X.w) k f fd ps (spF C.K C.cl ar g)) (hr : Room k X.A) (hg : Gl X x) (hm : X.mg x = some (.ref f))
    (hk : PySem.W.keepIn X.K (.ref f) = true) (hb : Binds X.K fd ps []) (hx : Passes (L2.CX X.prog X.w) X C.E) (ha : DA X C (e :: es) a) (hdb : (x == ("__debug__" : Str)) = false := by decide)
    (he : starEach (e :: es) X.env = (false, eval e X.env) :: starEach es X.env := by rfl) (hpl : (backTo pos (starEach es X.env)).any (·.1) = false := by rfl) : LE X C (.Call (.Name x p) (e :: es) [] pos) (mCallL g ar a) :=
  pe_weak (pe_call F hr hg hm hk hb .nil hx ha hdb he hpl) fun _ _ _ => t_callL
theorem rt_lists {De : DEnds} (il : ∀ d n', De.rt d n' → ∃ ds, d = .list ds) : De.rt = fun d n' => ∃ ds, d = .list ds ∧ De.rt (.list ds) n' := by
  funext d n'
  apply propext
  constructor
  · intro h
    obtain ⟨ds, rfl⟩ := il d n' h
    exact ⟨ds, rfl, h⟩
  · rintro ⟨ds, rfl, h⟩
    exact h
/-- return f(e, ..) of such a def -/
theorem dsf_retCall {e : Expr} {g : G} {ar : Nat} {a : MA} {pos : Pos} (h : LE X C e (mCallL g ar a)) : DSF X C (.Return (some e) pos) (mRet (mCall g ar a)) := ps_weak (dsf_ret h) fun Z σ H ⟨B, ρ, n, De, F, w, nx, il, rt, ex, bk, ct⟩ => by
  refine ⟨B, ρ, n, De, F, ?_, nx, il, rt, ex, bk, ct⟩
  show a ρ n (fun as n1 => as.length = ar ∧ g as n1 (fun d n' => ∃ ds, d = .list ds ∧ De.rt (.list ds) n') De.ex) De.ex
  rw [← rt_lists il]
  exact w
/-- return x, a list of its own -/
theorem dsf_retO (i : Nat) {x : Str} {pos pos2 : Pos} (hN : X.N[i]? = some x := by rfl) (hv : Vis X.env.scope x := by first | exact Or.inl rfl | exact Or.inr (Or.inl rfl) | exact Or.inr (Or.inr rfl)) (hd : (x == ("__debug__" : Str)) = false := by decide)
    (hcd : (x == ("__classdict__" : Str)) = false := by decide) : DSF X C (.Return (some (.Name x pos2)) pos) (mRetO i) := ps_weak (ps_ret (pe_var hN hv hd hcd)) fun Z σ H ⟨B, ρ, n, De, F, ⟨ds, e0, w⟩, nx, il, rt, ex, bk, ct⟩ => by
  obtain ⟨v, e1, r⟩ := paired_get F.slo e0
  cases r with
  | own h0 hB hs h r => exact ⟨_, e1, rt ds n w _ _ B H h0 F.entry hB F.src h r⟩
/-! ### calls with keywords, and without -/
def mCallLK (g : G) (n m : Nat) (a k : MA) : ML := fun ρ j P R => a ρ j (fun as j1 => k ρ j1 (fun bs j2 => as.length = n ∧ bs.length = m ∧ g (as ++ bs) j2 (fun d n' => ∃ ds, d = .list ds ∧ P ds n') R) R) R
theorem old_none {B H B1 H1 : Hp} {sc : Sc} {x : Addr} {n : Nat} (s : Stp sc B H B1 H1) (k : SrcOk sc H1 n) (hp : H1 x = none) : H x = none := fresh_of s hp k
theorem le_callK {k n m ar : Nat} {f : Addr} {fd : FuncData} {ps ks : List Str} {g : G} {a kk : MA} {x : Str} {p pos : Pos} {e : Expr} {es : List Expr} {kws : List Keyword} (F : FnOk X.prog X.w X.K X.mg X.base (L2.CX X.prog X.w) k f fd ps (spF C.K C.cl ar g)) (hr : Room k X.A) (hg : Gl X x) (hm : X.mg x = some (.ref f))
    (hk : PySem.W.keepIn X.K (.ref f) = true) (hb : KBn X.K fd ps n ks (fun us ws => us ++ ws) (fun vs zs => vs ++ zs)) (hkl : ks.length = m) (har : ar = n + m) (hx : Passes (L2.CX X.prog X.w) X C.E) (ha : DA X C (e :: es) a) (hkw : PK X kws (tA C kk)) (hall : (backToKw pos (keywordEach kws X.env)).all (·.1.isSome) = true := by rfl) (hks : (backToKw pos (keywordEach kws X.env)).filterMap (·.1) = ks := by rfl)
    (hdb : (x == ("__debug__" : Str)) = false := by decide) (he : starEach (e :: es) X.env = (false, eval e X.env) :: starEach es X.env := by rfl)
    (hpl : ((backTo pos (starEach (e :: es) X.env)).any (·.1) || (backToKw pos (keywordEach kws X.env)).any (·.1.isNone)) = false := by rfl) : LE X C (.Call (.Name x p) (e :: es) kws pos) (mCallLK g n m a kk) :=
  pe_weak (pe_callN F hr hg hm hk hb hx ha hkw hall hks hdb he hpl) fun σ H Q ⟨B, ρ, j, P, R, Fr0, w, ox, q⟩ => by
    refine ⟨B, ρ, j, _, R, Fr0, w, ox, fun as j1 w1 vs B1 H1 s1 k1 rs => ⟨B1, ρ, j1, _, R, Fr0.step s1 k1, w1, ox.step s1, fun bs j2 w2 zs B2 H2 s2 k2 rz => ?_⟩⟩
    obtain ⟨l1, l2, hgo⟩ := w2
    have st := s1.trans s2
    subst hkl
    refine ⟨by rw [paired_len rs]; exact l1, by rw [paired_len rz]; exact l2, C.sc, B2, j2, as ++ bs, P, R, st.sub, st.nos, k2, paired_appA (paired_mono (fun _ _ h => h.step s2) rs) rz, ?_, hgo, ox.step st, fun ds n' p x ws B' H' hp s3 hb k3 hl r => q ds n' p x ws B' H' (old_none st k2 hp) (st.trans s3) hb k3 hl r⟩
    rw [List.length_append, l1, l2, har]
/-- the keyword-only argument left out, None its default -/
def mCallD (g : G) (ar : Nat) (a : MA) : M := fun ρ n P R => a ρ n (fun as n1 => as.length + 1 = ar ∧ g (as ++ [.dat .none]) n1 P R) R
theorem de_callD {k ar : Nat} {f : Addr} {fd : FuncData} {ps : List Str} {g : G} {a : MA} {x : Str} {p pos : Pos} {e : Expr} {es : List Expr} (F : FnOk X.prog X.w X.K X.mg X.base (L2.CX X.prog X.w) k f fd ps (spW C.K C.cl ar g)) (hr : Room k X.A) (hg : Gl X x) (hm : X.mg x = some (.ref f))
    (hk : PySem.W.keepIn X.K (.ref f) = true) (hb : Binds X.K fd ps [.none]) (hx : Passes (L2.CX X.prog X.w) X C.E) (ha : DA X C (e :: es) a) (hdb : (x == ("__debug__" : Str)) = false := by decide)
    (he : starEach (e :: es) X.env = (false, eval e X.env) :: starEach es X.env := by rfl) (hpl : (backTo pos (starEach es X.env)).any (·.1) = false := by rfl) : DE X C (.Call (.Name x p) (e :: es) [] pos) (mCallD g ar a) :=
  pe_weak (pe_call (dvs := [.non]) F hr hg hm hk hb (.cons rfl .nil) hx ha hdb he hpl) fun σ H Q ⟨B, ρ, n, P, R, F, w, ox, q⟩ =>
    ⟨B, ρ, n, _, R, F, w, ox, fun as n1 w1 vs B1 H1 s1 k1 rs => ⟨C.sc, B1, n1, as ++ [.dat .none], P, R, s1.sub, s1.nos, k1, paired_appA rs (.cons (.dat .non) .nil), by rw [List.length_append]; exact w1.1, w1.2, ox.step s1, fun d n' p' v B' H' s2 k2 r => q d n' p' v B' H' (s1.trans s2) k2 r⟩⟩
def mCallLD (g : G) (ar : Nat) (a : MA) : ML := fun ρ n P R => a ρ n (fun as n1 => as.length + 1 = ar ∧ g (as ++ [.dat .none]) n1 (fun d n' => ∃ ds, d = .list ds ∧ P ds n') R) R
theorem le_callD {k ar : Nat} {f : Addr} {fd : FuncData} {ps : List Str} {g : G} {a : MA} {x : Str} {p pos : Pos} {e : Expr} {es : List Expr} (F : FnOk X.prog X.w X.K X.mg X.base (L2.CX X.prog X.w) k f fd ps (spF C.K C.cl ar g)) (hr : Room k X.A) (hg : Gl X x) (hm : X.mg x = some (.ref f))
    (hk : PySem.W.keepIn X.K (.ref f) = true) (hb : Binds X.K fd ps [.none]) (hx : Passes (L2.CX X.prog X.w) X C.E) (ha : DA X C (e :: es) a) (hdb : (x == ("__debug__" : Str)) = false := by decide)
    (he : starEach (e :: es) X.env = (false, eval e X.env) :: starEach es X.env := by rfl) (hpl : (backTo pos (starEach es X.env)).any (·.1) = false := by rfl) : LE X C (.Call (.Name x p) (e :: es) [] pos) (mCallLD g ar a) :=
  pe_weak (pe_call (dvs := [.non]) F hr hg hm hk hb (.cons rfl .nil) hx ha hdb he hpl) fun σ H Q ⟨B, ρ, n, P, R, F, w, ox, q⟩ =>
    ⟨B, ρ, n, _, R, F, w, ox, fun as n1 w1 vs B1 H1 s1 k1 rs => ⟨C.sc, B1, n1, as ++ [.dat .none], P, R, s1.sub, s1.nos, k1, paired_appA rs (.cons (.dat .non) .nil), by rw [List.length_append]; exact w1.1, w1.2, ox.step s1, fun ds n' p' x ws B' H' hp s2 hb k2 hl r => q ds n' p' x ws B' H' (old_none s1 k1 hp) (s1.trans s2) hb k2 hl r⟩⟩
end
theorem kwd_binds {K : Fg} {x qual : Str} {st : Stmt} {D : Addr} {an : Option Addr} {doc pm cdv ct : Value} {ps : List Str} {n : Nat} {ky : Str} (e : PySem.W.nsIn K D ky = some (some .none)) (hn : n + 1 = ps.length)
    (h : ∀ (us : List Value) (u : Value), us.length = n → KwChain D [(ky, u)] (bindArgs (PySem.W.fnOf x qual (defArgs st) (defBody st) (defScope st) .none (.ref D) doc pm an cdv ct) ⟨us, []⟩) (ps.zip (us ++ [u]))) :
    Binds K (PySem.W.fnOf x qual (defArgs st) (defBody st) (defScope st) .none (.ref D) doc pm an cdv ct) ps [.none] := fun s us X hl => by
  refine BindsTo.of_looks fun M => KwChain.looks X (fun q hq => ?_) (h us .none ?_)
  · rw [List.mem_singleton.mp hq]; exact e
  · rw [List.length_append, List.length_singleton] at hl; omega
/-- a def that hands back a new list, by its body -/
theorem def_okF {P : Program} {w : World} {K : Fg} {cl : Cl} {mg : Str → Option Value} {base : Heap} {x qual : Str} {st : Stmt} {f : Addr} {fd : FuncData} {N ps : List Str} {k : Nat} {g : G} {m : MS} (F : Fun K x qual st f fd) (S : FnScope N ps (defScope st))
    (hb : ∀ (cdv : Value) (A : Around) (outer : List PySem.Env) (s : Shared) (H B : Hp) (sc : Sc) (E : XK), Room k (A.deeper (envOfC qual (defScope st) s.heap.objs.size f cdv)) →
      DSFs (cxOf (L2.CX P w) P w K mg base N qual (defScope st) f cdv A outer s H E) ⟨K, cl, sc, H, B, E⟩ (defBody st) m)
    (hm : ∀ as n P R, as.length = ps.length → g as n P R → m { nx := fun _ n' => P .none n', rt := P, ex := R } (env0 as N.length) n) : FnOk P w K mg base (L2.CX P w) (k + 1) f fd ps (spF K cl ps.length g) := by
  refine F.okX S (fun vs H Q E ⟨sc, B, n, as, Pp, R, _, _, _, pr, hl, _⟩ => by rw [paired_len pr]; exact hl) fun cdv A outer s H vs Q E hr ⟨sc, B, n, as, Pp, R, sub, nos, src, pr, hl, hg, ox, q⟩ => ?_
  refine ⟨_, hb cdv A outer s H B sc E hr, B, env0 as N.length, n, _, ?_, hm as n _ R hl hg, ?_, ?_, ?_, ox, ?_, ?_⟩
  · refine ⟨sub, Same.refl _, fun _ _ _ _ => rfl, nos, Ext.refl _ _, src, ?_, ?_⟩
    · unfold L2.start env0
      rw [paired_len pr]
      exact paired_app (ag_sl pr) (paired_rep (.no _) _)
    · intro i j p a b h1 h2 h3 h4 w1 w2
      exfalso
      unfold env0 at h3
      by_cases hi : i < as.length
      · rw [List.getElem?_append_left hi] at h3
        rw [ag_no_ow pr i a h3] at w1; cases w1
      · rw [List.getElem?_append_right (by omega), List.getElem?_replicate] at h3
        split at h3
        · cases h3; cases w1
        · cases h3
  · rintro ρ' n' ⟨ds, z, _⟩; cases z
  · rintro d n' ⟨ds, e, _⟩; exact ⟨ds, e⟩
  · rintro ds n' ⟨ds', e, q'⟩ p ws B' H' hp s' hb' k' hl' r
    cases e
    exact q _ n' q' p ws B' H' hp s' hb' k' hl' r
  · intro ρ' n' z; exact z.elim
  · intro ρ' n' z; exact z.elim
end DS

/-! DS31: `in` of an object with a def of its own for it. -/
namespace DS
open PySem L2 PyProof.Rows
theorem special_un {M : Model} {A : Around} {E : Value → Shared → Prop} {s : Shared} {K : Fg} {x C f : Addr} {ox : Obj} {od : Option Obj} {name : Str} {args : List Value} {refuse : Sem Value} {Q : Option Value → Shared → Prop} (X : K.In s.heap) (I : PySem.W.InstAt s.heap x ox C od)
    (hs : PySem.W.findIn K (.ref C) name = some (some (.ref f))) (hf : PySem.W.typeIn K (.ref f) = some (.type "function")) (h : wpAny M A (call (.ref f) (.ref x :: args)) (fun v => Q (some v)) E s) : wpAny M A (callSpecialUnlessNone? (.ref x) name args refuse) Q E s := by
  unfold callSpecialUnlessNone?
  refine wpAny_bind (wpAny_bind (I.type.here ((PySem.W.looks_findIn X hs).here (wpAny_holding (wpAny_bind ((PySem.W.bind_fn X _ hf).here ?_))))))
  exact wpAny_bind (wpAny_mono h (fun _ _ z => wpAny_pure z) fun _ _ z => z)
theorem contains_fn {M : Model} {A : Around} {E : Value → Shared → Prop} {s : Shared} {K : Fg} {x C f : Addr} {ox : Obj} {od : Option Obj} {v : Value} {Q : Bool → Shared → Prop} (X : K.In s.heap) (I : PySem.W.InstAt s.heap x ox C od)
    (hs : PySem.W.findIn K (.ref C) "__contains__" = some (some (.ref f))) (hf : PySem.W.typeIn K (.ref f) = some (.type "function")) (h : wpAny M A (call (.ref f) [.ref x, v]) (fun r s' => ∃ b, r = .bool b ∧ Q b s') E s) : wpAny M A (PySem.contains (.ref x) v) Q E s := by
  unfold PySem.contains
  refine wpAny_holding ?_
  show wpAny M A (specialOf (.ref x) "__contains__" >>= _) _ _ _
  refine wpAny_bind (wpAny_bind (I.type.here ((PySem.W.looks_findIn X hs).here ?_)))
  refine wpAny_bind (special_un X I hs hf (wpAny_mono h (fun r s' ⟨b, e, q⟩ => ?_) fun _ _ z => z))
  subst e
  exact wpAny_truthy_bool q
section
variable {X : Cx} {C : Cn}
/-- what names it -/
structure InO (K : Fg) (Ad f : Addr) : Prop where
  at_ : PySem.W.findIn K (.ref Ad) "__contains__" = some (some (.ref f))
  ty : PySem.W.typeIn K (.ref f) = some (.type "function")
def rInO (Ad : Addr) (sp : Sp) (neg : Bool) : R2 := fun x y H Q => ∃ a dx fs, y = .ref a ∧ H a = some (.ins Ad dx fs) ∧ sp [.ref a, x] H (fun z H' => ∃ b, z = .bl b ∧ Q (.bl (if neg then !b else b)) H') (fun _ _ _ => False)
theorem inO_run {Ad f : Addr} {fd : FuncData} {ps : List Str} {sp : Sp} {k : Nat} (T : InO X.K Ad f) (F : FnOk X.prog X.w X.K X.mg X.base (L2.CX X.prog X.w) k f fd ps sp) (hr : Room k X.A) (hb : Binds X.K fd ps []) {pins : List (Addr × Obj)} {s : Shared} {σ : L2.St} {H : Hp} {x : V} {v : Value} {a dx : Addr} {fs : List (Str × V)} {Q : Bool → Hp → Prop}
    (I : Inv X pins σ H s) (rx : RelV x v) (ea : H a = some (.ins Ad dx fs)) (h : sp [.ref a, x] H (fun z H' => ∃ b, z = .bl b ∧ Q b H') (fun _ _ _ => False)) : wpAny (model X.prog X.w) X.A (PySem.contains (.ref a) v) (fun b s' => ∃ H', Inv X pins σ H' s' ∧ Q b H') X.xe s := by
  obtain ⟨mA, O, _, _, _, _⟩ := ins_get I.hok ea
  obtain ⟨od, J, _⟩ := O.look
  refine contains_fn I.kIn J T.at_ T.ty (wpAny_mono (run_fn (dvs := []) F hr hb .nil passL I (us := [.ref a, v]) (show Vals [V.ref a, x] [Value.ref a, v] from .cons rfl (.cons rx .nil)) h) (fun r s' hq => ?_) fun _ _ z => z)
  obtain ⟨z, H', I', rz, b, ez, q⟩ := hq
  subst ez
  cases rz
  exact ⟨b, rfl, H', I', q⟩
theorem op_inO {Ad f : Addr} {fd : FuncData} {ps : List Str} {sp : Sp} {k : Nat} (T : InO X.K Ad f) (F : FnOk X.prog X.w X.K X.mg X.base (L2.CX X.prog X.w) k f fd ps sp) (hr : Room k X.A) (hb : Binds X.K fd ps []) : OpR X (compareOp .In) (rInO Ad sp false) := by
  intro pins s σ H x y v u Q I rx ry ⟨a, dx, fs, ey, ea, h⟩
  subst ey
  cases ry
  show wpAny _ _ (PySem.contains (.ref a) v >>= fun b => pure (Value.bool b)) _ _ _
  exact wpAny_bind (wpAny_mono (inO_run (Q := fun b H' => Q (.bl b) H') T F hr hb I rx ea h) (fun b s' ⟨H', I', q⟩ => wpAny_pure ⟨.bl b, H', I', rfl, q⟩) fun _ _ z => z)
theorem op_ninO {Ad f : Addr} {fd : FuncData} {ps : List Str} {sp : Sp} {k : Nat} (T : InO X.K Ad f) (F : FnOk X.prog X.w X.K X.mg X.base (L2.CX X.prog X.w) k f fd ps sp) (hr : Room k X.A) (hb : Binds X.K fd ps []) : OpR X (compareOp .NotIn) (rInO Ad sp true) := by
  intro pins s σ H x y v u Q I rx ry ⟨a, dx, fs, ey, ea, h⟩
  subst ey
  cases ry
  show wpAny _ _ (PySem.contains (.ref a) v >>= fun b => pure (Value.bool (!b))) _ _ _
  exact wpAny_bind (wpAny_mono (inO_run (Q := fun b H' => Q (.bl (!b)) H') T F hr hb I rx ea h) (fun b s' ⟨H', I', q⟩ => wpAny_pure ⟨.bl (!b), H', I', rfl, q⟩) fun _ _ z => z)
/-- x in o, x not in o -/
def mInO (neg : Bool) (n : Nat) (g : G) (a b : M) : M := fun ρ m P R => a ρ m (fun x m1 => b ρ m1 (fun y m2 => ∃ ds, y = obj n ds ∧ g [.dat (obj n ds), .dat x] m2 (fun z m3 => ∃ k, z = .bool k ∧ P (.bool (if neg then !k else k)) m3) nvr) R) R
theorem t_inO {neg : Bool} {n : Nat} {g : G} {a b : M} {Ad : Addr} (hA : C.cl.adr n = some Ad) {σ : L2.St} {H : Hp} {Q : VK} (h : tD C (mInO neg n g a b) σ H Q) : tOp (rInO Ad (spW C.K C.cl 2 g) neg) (tD C a) (tD C b) σ H Q := by
  obtain ⟨B, ρ, m, P, R, F, w, ox, k⟩ := h
  refine ⟨B, ρ, m, _, R, F, w, ox, fun x m1 w1 v B1 H1 s1 k1 rx => ⟨B1, ρ, m1, _, R, F.step s1 k1, w1, ox.step s1, fun y m2 ⟨ds, ey, hg⟩ u B2 H2 s2 k2 ry => ?_⟩⟩
  subst ey
  obtain ⟨Ad', b, dx, vs, ev, h1, h2, h3, h4⟩ := obj_at ry
  have eA : Ad' = Ad := by rw [hA] at h1; exact (Option.some.inj h1).symm
  subst eA
  subst ev
  have st := s1.trans s2
  refine ⟨b, dx, _, rfl, st.sub _ _ h2, C.sc, B2, m2, [.dat (obj n ds), .dat x], _, nvr, st.sub, st.nos, k2, .cons (.dat ry) (.cons (.dat (rx.mono s2.old)) .nil), rfl, hg, fun er n' z => z.elim, ?_⟩
  rintro z m3 ⟨kb, ez, p⟩ v3 B3 H3 s3 k3 r3
  subst ez
  cases r3
  exact ⟨kb, rfl, k _ m3 p _ B3 H3 (st.trans s3) k3 (.bl _)⟩
theorem de_inO {n k0 : Nat} {x y : Expr} {a b : M} {pos : Pos} {g : G} {Ad f : Addr} {fd : FuncData} {ps : List Str} (hK : X.K = C.K) (hA : C.cl.adr n = some Ad) (T : InO X.K Ad f) (F : FnOk X.prog X.w X.K X.mg X.base (L2.CX X.prog X.w) k0 f fd ps (spW C.K C.cl 2 g)) (hr : Room k0 X.A) (hb : Binds X.K fd ps [])
    (ha : DE X C x a) (hy : DE X C y b) (hm : behindInMarks .In y = false := by rfl) : DE X C (.Compare x [.In] [y] pos) (mInO false n g a b) := pe_weak (pe_cmpR (op_inO T F hr hb) ha hy hm) fun _ _ _ => t_inO hA
theorem de_ninO {n k0 : Nat} {x y : Expr} {a b : M} {pos : Pos} {g : G} {Ad f : Addr} {fd : FuncData} {ps : List Str} (hK : X.K = C.K) (hA : C.cl.adr n = some Ad) (T : InO X.K Ad f) (F : FnOk X.prog X.w X.K X.mg X.base (L2.CX X.prog X.w) k0 f fd ps (spW C.K C.cl 2 g)) (hr : Room k0 X.A) (hb : Binds X.K fd ps [])
    (ha : DE X C x a) (hy : DE X C y b) (hm : behindInMarks .NotIn y = false := by rfl) : DE X C (.Compare x [.NotIn] [y] pos) (mInO true n g a b) := pe_weak (pe_cmpR (op_ninO T F hr hb) ha hy hm) fun _ _ _ => t_inO hA
theorem tT_any {t : TE} {m : M} (h : ∀ σ H Q, tD C m σ H Q → t σ H Q) {σ : L2.St} {H : Hp} {Q : Bool → Hp → Prop} (q : tT C (mT m) σ H Q) : tTest t σ H Q := tT_ok h q
theorem dt_inO {n k0 : Nat} {x y : Expr} {a b : M} {pos : Pos} {g : G} {Ad f : Addr} {fd : FuncData} {ps : List Str} (hK : X.K = C.K) (hA : C.cl.adr n = some Ad) (T : InO X.K Ad f) (F : FnOk X.prog X.w X.K X.mg X.base (L2.CX X.prog X.w) k0 f fd ps (spW C.K C.cl 2 g)) (hr : Room k0 X.A) (hb : Binds X.K fd ps [])
    (ha : DE X C x a) (hy : DE X C y b) (hm : behindInMarks .In y = false := by rfl) : DT X C (.Compare x [.In] [y] pos) (mT (mInO false n g a b)) := pt_weak (pt_cmpR (op_inO T F hr hb) ha hy hm) fun _ _ _ => tT_ok fun _ _ _ => t_inO hA
theorem dt_ninO {n k0 : Nat} {x y : Expr} {a b : M} {pos : Pos} {g : G} {Ad f : Addr} {fd : FuncData} {ps : List Str} (hK : X.K = C.K) (hA : C.cl.adr n = some Ad) (T : InO X.K Ad f) (F : FnOk X.prog X.w X.K X.mg X.base (L2.CX X.prog X.w) k0 f fd ps (spW C.K C.cl 2 g)) (hr : Room k0 X.A) (hb : Binds X.K fd ps [])
    (ha : DE X C x a) (hy : DE X C y b) (hm : behindInMarks .NotIn y = false := by rfl) : DT X C (.Compare x [.NotIn] [y] pos) (mT (mInO true n g a b)) := pt_weak (pt_cmpR (op_ninO T F hr hb) ha hy hm) fun _ _ _ => tT_ok fun _ _ _ => t_inO hA
end
end DS

/-! DS32: sorted of an own dict whose keys are tuples. -/
namespace DS
open PySem L2 PyProof.Rows PySem.Builtin PySem.W
section
variable {X : Cx} {C : Cn}
theorem dps_keys {K : Fg} {H : Hp} : ∀ k : List Key, DpAll K H (k.map kV) (k.map kyD)
  | [] => .nil
  | .inl i :: k => .cons (.int i) (dps_keys k)
  | .inr x :: k => .cons (.str x) (dps_keys k)
abbrev kyT (k : List Key) : D := .tuple (k.map kyD)
def isKy (H : Hp) (u : V) (d : D) : Prop := ∃ (q : Addr) (k : List Key), u = .ref q ∧ d = kyT k ∧ H q = some (.tup (k.map kV))
def isKyU (H : Hp) (u : Value) (d : D) : Prop := ∃ (q : Addr) (k : List Key), u = .ref q ∧ d = kyT k ∧ H q = some (.tup (k.map kV))
theorem isKy_back {H : Hp} : ∀ {us : List Value} {ds : List D}, EachIs (isKyU H) us ds → ∃ xs : List V, Vals xs us ∧ Paired (isKy H) xs ds
  | _, _, .nil => ⟨[], .nil, .nil⟩
  | _, _, .cons ⟨q, k, e, f, g⟩ t => by
    obtain ⟨xs, rs, qs⟩ := isKy_back t
    subst e
    exact ⟨.ref q :: xs, .cons rfl rs, .cons ⟨q, k, rfl, f, g⟩ qs⟩
def rSortDT : List V → Hp → VK → Prop := fun vs H Q => ∃ (a : Addr) (kvs : List (List Key × V)), vs = [.ref a] ∧ H a = some (.dT kvs) ∧ AllAlike (kvs.map fun p => kyT p.1) ∧ Sortable (kvs.map fun p => kyT p.1) ∧ (∀ d ∈ kvs.map fun p => kyT p.1, d.depth ≤ 60) ∧
  ∀ (xs' : List V) (p : Addr), Paired (isKy H) xs' ((kvs.map fun p => kyT p.1).mergeSort (dataLe false id)) → H p = none → Q (.ref p) (upd H p (.lst xs'))
theorem cr_sortDT (hc : X.calm = true) (hu : X.A.units + 70 < cLine) : CallR X (.builtin "sorted") rSortDT := by
  intro pins s σ H vs us Q I r ⟨a, kvs, ev, ha, hal, hk, hd, q⟩
  subst ev
  rw [Vals.ref1 r]
  obtain ⟨z, lo, xs, pr, o, es, ep, ho, hx, hdt, he, _⟩ := I.hok a _ ha
  have hl : kvs.length = xs.length := Paired.length pr
  have hes : es.size = xs.length := by
    have := congrArg List.length he
    simpa using this
  refine Calls.call_function_entry kind_sorted plain_sorted entry_sorted (args_sorted1 _) ?_
  unfold Builtin.«sorted»
  refine wpAny_bind (m := checkCount "sorted" 1 1 _) (wpAny_pure ?_)
  refine wpAny_bind (kdu_collect (A := X.A.in1) (KdlSrc.rawDict (es := es) (ep := ep) lo) (I.ok.hd hc) ⟨o, ho, hx, hdt⟩ (by omega) fun h' tk acc k1 hacc => ?_)
  have I1 : Inv X pins σ H { s with heap := h', toks := tk } := I.kept k1
  have hv : acc.toList = xs.map fun x => Value.ref x.2.1 := by
    refine List.ext_getElem? fun i => ?_
    rw [List.getElem?_map]
    cases hxi : xs[i]? with
    | none =>
      have : xs.length ≤ i := List.getElem?_eq_none_iff.mp hxi
      rw [List.getElem?_eq_none (by rw [Array.length_toList, hacc.1]; omega)]
      rfl
    | some x =>
      have lt : i < xs.length := (List.getElem?_eq_some_iff.mp hxi).1
      have lt2 : i < acc.toList.length := by rw [Array.length_toList, hacc.1]; omega
      obtain ⟨hi, ek⟩ := hacc.2 i acc.toList[i] (by rw [← Array.getElem?_toList]; exact List.getElem?_eq_getElem lt2)
      rw [List.getElem?_eq_getElem lt2, ek]
      have e3 : es.toList[i]? = some (entryOfKey (tupleKind (mixKind X.prog X.w)) x) := by rw [he, List.getElem?_map, hxi]; rfl
      have e4 : es[i]? = some (entryOfKey (tupleKind (mixKind X.prog X.w)) x) := by rw [← Array.getElem?_toList]; exact e3
      rw [Array.getElem?_eq_getElem hi] at e4
      rw [Option.some.inj e4]
      rfl
  have go : ∀ {kvs : List (List Key × V)} {xs : List (List Key × Addr × Value)}, Paired (fun (p : List Key × V) (q : List Key × Addr × Value) => p.1 = q.1 ∧ H q.2.1 = some (.tup (p.1.map kV)) ∧ RelV p.2 q.2.2) kvs xs → EachIs (isKyU H) (xs.map fun x => Value.ref x.2.1) (kvs.map fun p => kyT p.1) := by
    intro kvs xs pr
    induction pr with
    | nil => exact .nil
    | cons h t ih => exact .cons ⟨_, _, rfl, rfl, h.2.1⟩ ih
  have e : EachIs (isKyU H) acc.toList (kvs.map fun p => kyT p.1) := by rw [hv]; exact go pr
  have small : acc.toList.length ≤ sizeLine := by rw [Array.length_toList, hacc.1]; omega
  have er : EachIs (fun v b => ∃ as, Reads h' v b as) acc.toList (kvs.map fun p => kyT p.1) := e.mono fun v b ⟨qa, k, e1, e2, e3⟩ => by
    subst e1
    subst e2
    exact Dp.reads I1 (kyT k) (.ref qa) (.ref qa) (.tup (SqT.of e3) (dps_keys k)) rfl
  refine wpAny_bind (wpAny_newList ?_ small)
  have hL : acc.toList.length = (kvs.map fun p => kyT p.1).length := e.length
  have oL : (h'.push (seqObj "list" acc.toList.toArray 0)).get? h'.objs.size = some (seqObj "list" acc.toList.toArray 0) := Heap.get?_push_size _ rfl
  have k2 : ∀ b u, h'.get? b = some u → (h'.push (seqObj "list" acc.toList.toArray 0)).get? b = some u := fun b u q => Heap.get?_push_of_some _ q
  have er2 : EachIs (fun v b => ∃ as, Reads (h'.push (seqObj "list" acc.toList.toArray 0)) v (_root_.id b) as ∧ h'.objs.size ∉ as) acc.toList (kvs.map fun p => kyT p.1) := er.mono fun v b ⟨as, r⟩ => ⟨as, PyProof.Rows.Reads.keeps k2 r, fun z => by
    obtain ⟨o, q⟩ := SRT.reads_there r _ z
    exact absurd (Heap.lt_size q) (Nat.lt_irrefl _)⟩
  show wpAny _ _ _ _ _ { s with heap := h'.push (seqObj "list" acc.toList.toArray 0), toks := tk }
  refine wpAny_bind (wpAny_holding (list_sort_data (s := { s with heap := h'.push (seqObj "list" acc.toList.toArray 0), toks := tk }) (enc := _root_.id) (R := isKyU H) oL e er2 (by rw [List.map_id]; exact hal) (by rw [List.map_id]; exact hk) (by rw [← hL]; exact small) (fun b hb => by have := hd b hb; show X.A.units + 1 + 1 + b.depth < cLine; omega) fun out l1 e2 => ?_))
  obtain ⟨ep', he'⟩ := sortedHeap_at (vs := acc.toList) (out := out.toArray) oL
  obtain ⟨xs', rv', hR'⟩ := isKy_back e2
  have hlen : xs'.length ≤ sizeLine := by
    rw [hR'.length, List.length_mergeSort, ← hL]
    exact small
  refine wpAny_pure ⟨_, rfl, .ref h'.objs.size, upd H h'.objs.size (.lst xs'), I1.laid (t' := tk) (fun b u e => ?_) (Nat.le_refl _) (show ObjOk X.prog X.w _ _ _ (.lst xs') from ⟨hlen, out, ep', rv', he'⟩), rfl, q xs' _ hR' (I1.hok.fresh (Nat.le_refl _))⟩
  have hb : b < h'.objs.size := Heap.lt_size e
  rw [sortedHeap_old (Nat.ne_of_lt hb) (by rw [size_push']; exact Nat.lt_succ_of_lt hb)]
  exact Heap.get?_push_of_some _ e
/-- sorted(d) -/
def mSortDT (i : Nat) : ML := fun ρ n P _ => ∃ (es : List (List Key × D)), ρ[i]? = some (.dit false es) ∧ AllAlike (es.map fun p => kyT p.1) ∧ Sortable (es.map fun p => kyT p.1) ∧ (∀ d ∈ es.map fun p => kyT p.1, d.depth ≤ 60) ∧ (∀ p ∈ es, p.1 ≠ []) ∧ P ((es.map fun p => kyT p.1).mergeSort (dataLe false id)) n
/-- tuples that lie tracked, settled one after the other -/
theorem settle_keys {sc : Sc} {B0 H0 H : Hp} {K : Fg} {cl : Cl} : ∀ {xs : List V} {ds : List D} {B : Hp}, Paired (isKy H) xs ds → Stp sc B0 H0 B H → (∀ q o, inS sc q → H q = some o → ∀ ys, o ≠ .tup ys) → ∃ B', Stp sc B0 H0 B' H ∧ Same B B' ∧ (∀ p, B p = none → (∀ ys, H p ≠ some (.tup ys)) → B' p = none) ∧ DRs K cl B' xs ds
  | _, _, B, .nil, s, _ => ⟨B, s, Same.refl _, fun _ h _ => h, .nil⟩
  | _, _, B, .cons ⟨q, k, e1, e2, e3⟩ t, s, ns => by
    subst e1
    subst e2
    have nq : ¬ inS sc q := fun z => ns q _ z e3 _ rfl
    obtain ⟨B', s', sm, nn, r⟩ := settle_keys (K := K) (cl := cl) t (s.settleT e3 nq) ns
    have sm0 : Same B (upd B q (.tup (k.map kV))) := same_settleT s e3
    refine ⟨B', s', sm0.trans sm, fun p hp hq => nn p ?_ hq, .cons ?_ r⟩
    · by_cases h : p = q
      · subst h; exact absurd e3 (hq _)
      · rw [upd_ne h]; exact hp
    · exact (DR.tup (SqT.of upd_same) (drs_keys k) (fun _ => upd_same)).mono sm
theorem src_ntup {sc : Sc} {H : Hp} {n : Nat} (k : SrcOk sc H n) : ∀ q o, inS sc q → H q = some o → ∀ ys, o ≠ .tup ys := fun q o z h ys e => by
  subst e
  exact src_lst k h z
theorem dvs_ty {κ : Type} {K : Fg} {cl : Cl} {B : Hp} {kvs : List (κ × V)} {es : List (κ × D)} (f : κ → D) (h : DVs K cl B kvs es) : (kvs.map fun p => f p.1) = es.map fun p => f p.1 := by
  have e := congrArg (List.map f) (dvs_keys h)
  rw [List.map_map, List.map_map] at e
  exact e
theorem le_sortDT (i : Nat) {f x : Str} {p p1 pos : Pos} (hc : X.calm = true) (hu : X.A.units + 70 < cLine) (hg : Gl X f) (hm : X.mg f = none) (hv : bootBuiltins f = some (.builtin "sorted")) (hN : X.N[i]? = some x := by rfl) (hvv : Vis X.env.scope x := by first | exact Or.inl rfl | exact Or.inr (Or.inl rfl) | exact Or.inr (Or.inr rfl)) (hd : (x == ("__debug__" : Str)) = false := by decide)
    (hcd : (x == ("__classdict__" : Str)) = false := by decide) (hn : f ≠ "__name__" := by decide) (hdb : (f == ("__debug__" : Str)) = false := by decide) (he : starEach (.Name x p1 :: []) X.env = (false, eval (.Name x p1) X.env) :: starEach [] X.env := by rfl) :
    LE X C (.Call (.Name f p) [.Name x p1] [] pos) (mSortDT i) :=
  pe_weak (pe_callB (cr_sortDT hc hu) hg hm hv (pa_cons (pe_var hN hvv hd hcd) pa_nil he) hn hdb he) fun σ H Q ⟨B, ρ, n, P, R, F, ⟨es, e0, a1, a2, a3, _, w⟩, ox, k⟩ => by
    obtain ⟨v, e1, r⟩ := paired_get F.slo e0
    cases r with
    | @dit q lk kvs es h0 hB hs h q0 =>
      cases h with
      | no h =>
        have ek := dvs_ty kyT q0
        refine ⟨.ref q, e1, q, kvs, rfl, h, by rw [ek]; exact a1, by rw [ek]; exact a2, by rw [ek]; exact a3, fun xs' pa hp' hpa => ?_⟩
        rw [ek] at hp'
        obtain ⟨B', s', sm, nn, r⟩ := settle_keys (K := C.K) (cl := C.cl) hp' F.self (src_ntup F.src)
        refine k _ n w pa xs' B' _ hpa (s'.lay hpa) (nn pa (none_of F.self hpa) (fun ys z => by rw [hpa] at z; cases z)) (src_lay F.src hpa) upd_same r
end
end DS

/-! DS33: sorted(set(xs)), xs a list of ints. -/
namespace SI
open PySem PySem.Spec PyProof.Rows L2
/-- a set as it is made -/
@[reducible] def nset (w : World) : Obj := { cls := .type "set", dict := none, data := .set #[] 0 (.fresh 0 0 (!w.params.followText "set-order")) }
/-- the walk of a list, begun -/
@[reducible] def lit (l : Addr) : Obj := { cls := .type "list_iterator", data := .fields #[.ref l, .int 0 0] }
section
variable {P : Program} {w : World} {A : Around} {E : Value → Shared → Prop} {s : Shared}
set_option maxRecDepth 100000 in
set_option maxHeartbeats 3200000 in
theorem set_ofList {l : Addr} {items : Array Value} (ns : List Int) {Q : Value → Shared → Prop} (hh : A.handled = none) (hl : s.heap.IsList l items) (hit : IntsAre items.toList ns) (hb : ns.length + 1 < scanBound)
    (done : ∀ (h' : Heap) (tk c : Nat), SetR w h' s.heap.objs.size (fun j => decide (j ∈ ns)) c → c ≤ ns.length → (∀ b o, s.heap.get? b = some o → h'.get? b = some o) → Q (.ref s.heap.objs.size) { s with heap := h', toks := tk }) :
    wpAny (model P w) A (call (.type "set") [.ref l]) Q E s := by
  have sz : items.size = ns.length := (Array.length_toList (xs := items)).symm.trans (IntsAre.length hit)
  obtain ⟨c0, r0, hmro⟩ := F.called_set.mro
  have f1 := F.called_set.made
  have f2 := F.called_set.sub
  refine wpAny_call (codeAny_of_tree (show wpAny _ _ (callAny (.type "set") _) _ _ _ from wpAny_pure ⟨Code.quiet_builtin _ (by decide +kernel), codeAny_builtin F.entry_type_call ?_⟩))
  rw [Around.under_plain (weight_type_call_type "set" [.ref l] []) rfl]
  have f3 := F.called_set.notType
  have f4 := F.called_set.canCreate
  have f5 := F.typeCall_set_1 (.ref l)
  repeat any_goals first
    | assumption
    | wp_step
  refine codeAny_mono (code_set_led1 (.ref l) (E := E) (Q₁ := fun ob s₁ => ob = .ref s.heap.objs.size ∧ s₁ = { s with heap := s.heap.push (nset w) }) ⟨rfl, rfl⟩) fun r s₁ hr => ?_
  match r, hr with
  | .error e, hr => exact hr
  | .ok .next, hr => exact hr.elim
  | .ok .brk, hr => exact hr.elim
  | .ok .cont, hr => exact hr.elim
  | .ok (.ret ob), hr =>
    obtain ⟨e1, e2⟩ := hr
    subst e1 e2
    have gS : (s.heap.push (nset w)).get? s.heap.objs.size = some (nset w) := Heap.get?_push_size _ rfl
    have tS : Shared.TypeIs { s with heap := s.heap.push (nset w) } (.ref s.heap.objs.size) "set" := ⟨_, gS, rfl⟩
    have f6 := F.called_set.init.lookup
    have f7 := F.called_set.init.bind (.ref s.heap.objs.size)
    repeat any_goals first
      | assumption
      | wp_step
    let ok2 : Value → Shared → Prop := fun r s₂ => r = .none ∧ ∃ h' tk c, s₂ = { s with heap := h', toks := tk } ∧ SetR w h' s.heap.objs.size (fun j => decide (j ∈ ns)) c ∧ c ≤ ns.length ∧ (∀ b o, s.heap.get? b = some o → h'.get? b = some o)
    refine codeAny_mono (codeAny_call_builtin (R := wants ok2 E) F.called_set.init.plain F.entry_set_init (check_set_init_1 tS ?_)) fun r₂ s₂ hr₂ => ?_
    · obtain ⟨⟨kc, kd, kdat, ksl⟩, gl, q1, nl, q2⟩ := hl
      simp only at q1 q2
      subst q1 q2
      have gl1 : (s.heap.push (nset w)).get? l = some { cls := .type "list", dict := kd, data := .seq items nl, slots := ksl } := Heap.get?_push_of_some _ gl
      have f8 := F.sub_list_set
      have f9 := F.sub_list_frozenset
      have fa : (Value.type "list" == Value.type "dict") = false := by decide
      have il : (s.heap.push (nset w)).IsList l items := ⟨_, gl1, rfl, nl, rfl⟩
      unfold Builtin.«set.__init__» noKeywords Builtin.Frozenset.updateFrom
      generalize hPI : pyIter = PI
      wp_walk
      subst hPI
      refine wpAny_pyIter_list il (wpAny_bind (wpAny_runValue ?_))
      have lt : l < s.heap.objs.size := Heap.lt_size gl
      have psz : (s.heap.push (nset w)).objs.size = s.heap.objs.size + 1 := Heap.size_push ..
      have nI : l ≠ (s.heap.push (nset w)).objs.size := by rw [psz]; exact Nat.ne_of_lt (Nat.lt_succ_of_lt lt)
      have nS : s.heap.objs.size ∉ [(s.heap.push (nset w)).objs.size, l] := fun z => by
        rcases List.mem_cons.mp z with z | z
        · rw [psz] at z; exact absurd z (Nat.ne_of_lt (Nat.lt_succ_self _))
        · exact absurd (List.mem_singleton.mp z) (Nat.ne_of_gt lt)
      have vals : ∀ (i : Nat) (v : Value), items[i]? = some v → ∃ k t, ns[i]? = some k ∧ v = .int k t := fun i v hv => by
        have hi : i < ns.length := sz ▸ (Array.getElem?_eq_some_iff.mp hv).1
        obtain ⟨t, e⟩ := PyProof.Rows.IntsAre.int_at hit i v (by rw [Array.getElem?_toList]; exact hv)
        exact ⟨ns[i], t, List.getElem?_eq_getElem hi, by rw [e, List.getD_eq_getElem?_getD, List.getElem?_eq_getElem hi]; rfl⟩
      have h3 : A.in1.in1.in1.handled = none := by simp [hh]
      refine set_update_ints ((Walks.list h3 _ l nI items).toS) s.heap.objs.size nS ns sz hb vals (items.size - 0) 0 _ (by omega) (Nat.zero_le _) ⟨⟨_, Heap.get?_push_size _ rfl, rfl, rfl⟩, il.push _⟩ ⟨0, Nat.le_refl 0, setR_new_at (Heap.get?_push_of_some _ gS)⟩ fun s' c' mv hc' hS' => ?_
      obtain ⟨h', g', d', tk', os'⟩ := s'
      obtain rfl : g' = s.gens := mv.gens
      obtain rfl : d' = s.drawn := mv.drawn
      obtain rfl : os' = s.os := mv.os
      show wpAny _ _ _ _ _ _
      refine wpAny_pure (show wpAny _ _ (ret Value.none) _ _ _ from wpAny_pure ⟨rfl, h', tk', c', rfl, hS', sz ▸ hc', fun b o e => ?_⟩)
      have b1 := Heap.lt_size e
      refine mv.heap b o (fun z => ?_) (Heap.get?_push_of_some _ (Heap.get?_push_of_some _ e))
      rcases List.mem_cons.mp z with z | z
      · exact absurd z (Nat.ne_of_lt b1)
      · have z := List.mem_singleton.mp z
        rw [psz] at z
        exact absurd z (Nat.ne_of_lt (Nat.lt_succ_of_lt b1))
    · match r₂, hr₂ with
      | .error e, hr₂ => exact hr₂
      | .ok .next, hr₂ => exact hr₂.elim
      | .ok .brk, hr₂ => exact hr₂.elim
      | .ok .cont, hr₂ => exact hr₂.elim
      | .ok (.ret r), hr₂ =>
        obtain ⟨e1, h', tk, c, e2, k1, k2, k3⟩ := hr₂
        subst e1 e2
        repeat any_goals first
          | assumption
          | wp_step
        exact done _ _ _ k1 k2 k3
end
end SI

/-! DS34: sorted(set(xs)), xs a list of ints. -/
namespace DS
open PySem L2 PyProof.Rows
section
variable {X : Cx} {C : Cn}
def rSetOfI (K : Fg) (w : World) : List V → Hp → VK → Prop := fun xs H Q => ∃ (l : Addr) (ns : List Int), xs = [.ref l] ∧ SqL K H l (ns.map V.int) ∧ ns.length < 64 ∧ ∀ p c, H p = none → c ≤ ns.length → Q (.ref p) (upd H p (SetO w p (fun j => decide (j ∈ ns)) c))
theorem cr_setOfI (hc : X.calm = true) : CallR X (.type "set") (rSetOfI X.K X.w) := by
  intro pins s σ H xs us Q I r ⟨l, ns, ex, hs, hl, q⟩
  subst ex
  rw [Vals.ref1 r]
  obtain ⟨its, rv, pl, hz⟩ := I.list hs
  refine SI.set_ofList (P := X.prog) (w := X.w) ns (I.ok.hd hc) pl.isList (by simpa using rv.ints) (by unfold scanBound; omega) fun h' tk c R hcl k => ?_
  exact ⟨.ref s.heap.objs.size, upd H s.heap.objs.size (SetO X.w s.heap.objs.size (fun j => decide (j ∈ ns)) c), I.laid (t' := tk) k (Nat.le_refl _) (setO_new R), rfl, q _ c (I.hok.fresh (Nat.le_refl _)) hcl⟩
def mSortSetI (a : M) : ML := fun ρ n P R => a ρ n (fun d n1 => ∃ ns : List Int, d = .list (ns.map .int) ∧ ns.length < 64 ∧ ∀ out : List Int, out.Pairwise (· < ·) → (∀ k, k ∈ out ↔ k ∈ ns) → P (out.map .int) n1) R
theorem le_sortSetI {f g : Str} {e : Expr} {a : M} {p p2 q pos : Pos} (hc : X.calm = true) (hg : Gl X f) (hm : X.mg f = none) (hv : bootBuiltins f = some (.builtin "sorted")) (hg2 : Gl X g) (hm2 : X.mg g = none) (hv2 : bootBuiltins g = some (.type "set")) (ha : QE X C e a)
    (hn : f ≠ "__name__" := by decide) (hdb : (f == ("__debug__" : Str)) = false := by decide) (hn2 : g ≠ "__name__" := by decide) (hdb2 : (g == ("__debug__" : Str)) = false := by decide)
    (he : starEach (e :: []) X.env = (false, eval e X.env) :: starEach [] X.env := by rfl) (he2 : starEach (.Call (.Name g p2) [e] [] q :: []) X.env = (false, eval (.Call (.Name g p2) [e] [] q) X.env) :: starEach [] X.env := by rfl) :
    LE X C (.Call (.Name f p) [.Call (.Name g p2) [e] [] q] [] pos) (mSortSetI a) :=
  pe_weak (pe_callB (cr_sortedSet hc) hg hm hv (pa_cons (pe_callTy (cr_setOfI hc) hg2 hm2 hv2 (pa_cons ha pa_nil he) hn2 hdb2 he) pa_nil he2) hn hdb he2) fun σ H Q ⟨B, ρ, n, P, R, F, w, ox, k⟩ => by
    refine ⟨B, ρ, n, _, R, F, w, ox, fun d n1 ⟨ns, ed, hl, hP⟩ v B1 H1 s1 k1 rv => ?_⟩
    subst ed
    obtain ⟨qa, xs, ev, h, r⟩ := q_list rv hid_sub s1.sub
    have ex := drs_intsV r
    subst ex
    refine ⟨qa, ns, by rw [ev], SqL.of h, hl, fun sa c hsa hcl => ?_⟩
    have s2 := s1.lay (o := SetO X.w sa (fun j => decide (j ∈ ns)) c) hsa
    have k2 := src_lay (o := SetO X.w sa (fun j => decide (j ∈ ns)) c) k1 hsa
    refine ⟨sa, _, c, rfl, upd_same, by omega, fun out pa pw hmem _ hpa => ?_⟩
    exact k _ n1 (hP out pw fun z => (hmem z).trans ⟨of_decide_eq_true, decide_eq_true⟩) pa _ B1 _ (fresh_of s2 hpa k2) (s2.lay hpa) (none_of s2 hpa) (src_lay k2 hpa) upd_same (DRs.ints rfl)
end
end DS

/-! DS35: zip of two lists; < over data that are alike. -/
namespace DS
open PySem L2
def zipD (ds es : List D) : List D := (ds.zip es).map fun p => .tuple [p.1, p.2]
theorem zipD_length (ds es : List D) : (zipD ds es).length = min ds.length es.length := by unfold zipD; rw [List.length_map, List.length_zip]
theorem zipD_get {ds es : List D} {i : Nat} {d e : D} (h : ds[i]? = some d) (h' : es[i]? = some e) : (zipD ds es)[i]? = some (.tuple [d, e]) := by
  unfold zipD
  have e : (ds.zip es)[i]? = some (d, e) := List.getElem?_zip_eq_some.mpr ⟨h, h'⟩
  rw [List.getElem?_map, e]
  rfl
section
variable {X : Cx} {C : Cn}
theorem wk_zip {a b : Addr} {vs us : List V} {ds es : List D} {Kp : Hp → Hp → Prop} (h : ∀ B H, Kp B H → Same B H → H a = some (.lst vs) ∧ H b = some (.lst us) ∧ DRs C.K C.cl B vs ds ∧ DRs C.K C.cl B us es) : Wk C (Itz C.K a b) (zipD ds es) Kp := fun B H i n kp s ns sr => by
  obtain ⟨h1, h2, r, r'⟩ := h B H kp s
  rw [zipD_length]
  refine ⟨fun hi => ⟨?_, fun x H' y => ?_⟩, fun hi => ⟨vs, us, SqL.of h1, SqL.of h2, by rw [r.length, r'.length]; omega⟩⟩
  · have hi' : i < vs.length := by rw [r.length]; omega
    have hi2 : i < us.length := by rw [r'.length]; omega
    exact ⟨vs, us, vs[i], us[i], SqL.of h1, SqL.of h2, List.getElem?_eq_getElem hi', List.getElem?_eq_getElem hi2⟩
  · obtain ⟨T, v, v', rfl, hT, rfl, y, y'⟩ := y
    obtain ⟨d, e, q⟩ := r.get (y vs (SqL.of h1))
    obtain ⟨d', e', q'⟩ := r'.get (y' us (SqL.of h2))
    have s0 : Stp C.sc B H B H := Stp.refl s ns
    have hb : B T = none := none_of s0 hT
    exact ⟨_, _, zipD_get e e', s0.put (o := .tup [v, v']) hT sr, src_lay sr hT, .tup (SqT.of upd_same) (.cons (q.mono (same_upd hb)) (.cons (q'.mono (same_upd hb)) .nil))⟩
def mZip (a : MA) : MI := fun ρ n P R => a ρ n (fun as n1 => ∃ ds es, as = [.dat (.list ds), .dat (.list es)] ∧ P (zipD ds es) n1) R
theorem ie_zip {elts : List Expr} {kk : Nat} {tpos p pos : Pos} {e e2 : Expr} {m : MA} (hK : X.K = C.K) (hg : Gl X "zip") (hm : X.mg "zip" = none) (h : DA X C [e, e2] m)
    (hs : starEach [e, e2] X.env = (false, eval e X.env) :: starEach [e2] X.env := by rfl) (hpl : (backTo pos (starEach [e2] X.env)).any (·.1) = false := by rfl) :
    IE X C (.Tuple elts kk tpos) (.Call (.Name "zip" p) [e, e2] [] pos) (mZip m) := pi_weak (RZ.pi_zipA hg hm h hs hpl) fun σ H R ⟨B, ρ, n, P, R0, F, w, ox, k⟩ => by
  rw [hK]
  refine ⟨B, ρ, n, _, R0, F, w, ox, fun as n1 p us B1 H1 s1 k1 rs => ?_⟩
  obtain ⟨ds, es, rfl, p⟩ := p
  cases rs with
  | cons r1 rr =>
    cases rr with
    | cons r2 rr =>
      cases rr
      cases r1 with
      | dat r1 =>
        cases r2 with
        | dat r2 =>
          cases r1 with
          | lst h t =>
            cases r2 with
            | lst h' t' => exact ⟨_, _, _, _, rfl, .inl ⟨SqL.of (s1.sub _ _ h), SqL.of (s1.sub _ _ h'), k _ n1 p _ B1 H1 s1 k1 (wk_zip fun B' H' kp s => ⟨s _ _ (kp _ _ h), s _ _ (kp _ _ h'), t.mono kp, t'.mono kp⟩)⟩⟩
end
section
variable {X : Cx} {C : Cn} {K : Fg} {cl : Cl}
def rLtD (K : Fg) : R2 := fun x y H Q => ∃ d e, Dp K H x d ∧ Dp K H y e ∧ okD d = true ∧ okD e = true ∧ PySem.W.alike d e = true ∧ d ≠ .none ∧ Q (.bl (PySem.W.dataLt d e)) H
theorem op_ltD (hu : X.A.units + 64 < cLine) : OpR X (compareOp .Lt) (rLtD X.K) := by
  intro pins s σ H x y v u Q I rx ry h
  obtain ⟨d, e, hd, he, sd, se, al, nn, q⟩ := h
  obtain ⟨as, r1⟩ := Dp.reads I d x v hd rx
  obtain ⟨bs, r2⟩ := Dp.reads I e y u he ry
  have h1 := okD_iff sd
  have h3 : min d.depth e.depth ≤ 64 := Nat.le_trans (Nat.min_le_left _ _) h1.2
  exact PySem.W.lt_data r1 r2 al nn (by omega) ⟨.bl _, H, I, rfl, q⟩
def nonN : D → Bool
  | .none => false
  | _ => true
def fLtD (x y : D) : Option D := if (okD x = true ∧ okD y = true) ∧ PySem.W.alike x y = true ∧ nonN x = true then some (.bool (PySem.W.dataLt x y)) else none
theorem f_ltD : OpF K cl (rLtD K) fLtD := fun A H x y dx dy z s hx hy e Q q => by
  obtain ⟨⟨⟨h1, h2⟩, h3, h4⟩, rfl⟩ := ite_some' e
  exact ⟨dx, dy, Dp.mono' hx s (okD_iff h1).1, Dp.mono' hy s (okD_iff h2).1, h1, h2, h3, fun z => by rw [z] at h4; (cases h4), q _ fun _ => .bl _⟩
end
end DS

/-! DS36: sets of texts: made of a list, sorted. -/
namespace ST
open PySem PySem.Spec PyProof.Rows L2
@[reducible] def nset (w : World) : Obj := { cls := .type "set", dict := none, data := .set #[] 0 (.fresh 0 0 (!w.params.followText "set-order")) }
/-- the texts l, in some order, in the set at a -/
def SetX (P : Program) (w : World) (h : Heap) (a : Addr) (l : List Str) : Prop :=
  ∃ D : Froz.SD, h.get? a = some (Froz.sObj "set" D) ∧ Froz.TxOk P w D l ∧ l.Nodup ∧ Ris D.2.2.place.toList ∧ (w.params.followText "set-order" = true ∨ D.2.2.led = true)
theorem SetX.at {P : Program} {w : World} {h h' : Heap} {a : Addr} {l : List Str} (R : SetX P w h a l) (k : ∀ o, h.get? a = some o → h'.get? a = some o) : SetX P w h' a l := by
  obtain ⟨D, ho, r⟩ := R
  exact ⟨D, k _ ho, r⟩
theorem setX_new_at {P : Program} {w : World} {h : Heap} {a : Addr} (ho : h.get? a = some (nset w)) : SetX P w h a [] :=
  ⟨(#[], 0, .fresh 0 0 (!w.params.followText "set-order")), ho, Froz.TxOk.nil (by rfl), List.nodup_nil, List.Pairwise.nil, by
    show _ ∨ (!w.params.followText "set-order") = true
    cases w.params.followText "set-order"
    · exact .inr rfl
    · exact .inl rfl⟩
theorem tail_ris {ep : Nat} {es1 : Array (Int × Value)} {t2 : SetTable} {wd : Bool} (r : Ris t2.place.toList) : Ris (Froz.tailTx ep es1 t2 wd).2.2.place.toList := by
  unfold Froz.tailTx
  split
  · exact relayAll_ris _ _ _
  · exact r
theorem tail_led {ep : Nat} {es1 : Array (Int × Value)} {t2 : SetTable} {wd : Bool} : (Froz.tailTx ep es1 t2 wd).2.2.led = t2.led := by
  unfold Froz.tailTx
  split
  · exact relayAll_led _ _ _
  · rfl
theorem add_ris {D : Froz.SD} {h : Int} {v : Value} (r : Ris D.2.2.place.toList) : Ris (Froz.addTx h v D).2.2.place.toList := by
  unfold Froz.addTx
  refine tail_ris ?_
  split <;> exact layNew_ris _ _ _ _ r
theorem add_led {D : Froz.SD} {h : Int} {v : Value} : (Froz.addTx h v D).2.2.led = D.2.2.led := by
  unfold Froz.addTx
  rw [tail_led]
  split <;> exact layNew_led _ _ _ _
section
variable {P : Program} {w : World} {A : Around} {E : Value → Shared → Prop} {s : Shared}
theorem setX_add {a : Addr} {l : List Str} {k : Str} {u : Tok} {Q : Bool → Shared → Prop} (R : SetX P w s.heap a l) (hb : l.length + 1 < scanBound)
    (hQ : ∀ h' l', Heap.SameBut a s.heap h' → SetX P w h' a l' → (∀ j, j ∈ l' ↔ j ∈ l ∨ j = k) → l'.length ≤ l.length + 1 → ∀ b, Q b { s with heap := h' }) : wpAny (model P w) A (setAddHashed a (.str k u) (hashStr w k)) Q E s := by
  obtain ⟨D, ho, F, nd, hr, hl⟩ := R
  by_cases hk : k ∈ l
  · obtain ⟨es, ep, t⟩ := D
    have hd : (Froz.sObj "set" (es, ep, t)).data = .set es ep t := rfl
    have hf : t.fits es.size = true := F.fit
    have hel : ElemsOf (PySem.strKind P w) es.toList := F.el
    have hsz : es.size = l.length := F.sz
    have hb0 : es.size < scanBound := by omega
    have hkey : (PySem.strKind P w).is k (.str k u) = true := Froz.is_str k u
    unfold setAddHashed setAddHashedIn
    refine wpAny_holding (wpAny_bind (wpAny_setState_of ho hd hf ?_))
    dsimp only
    rw [byScan_of rfl hb0 hel]
    simp only [↓reduceIte]
    unfold setAddByScan
    refine wpAny_bind ?_
    refine wpAny_bind (wpAny_rule ?_)
    refine wpAny_bind (wpAny_setScan_of (knd := PySem.strKind P w) (k := k) hkey ho hd hf hel ?_)
    cases hfi : List.findIdx? (fun e => (PySem.strKind P w).is k e.2) es.toList with
    | none =>
      obtain ⟨e, he, q⟩ := (F.mem k).mp hk
      have c := List.findIdx?_eq_none_iff.mp hfi e he
      rw [q] at c
      cases c
    | some j =>
      dsimp only
      exact wpAny_pure (wpAny_pure (hQ s.heap l (Heap.SameBut.refl a s.heap) ⟨(es, ep, t), ho, F, nd, hr, hl⟩ (fun j => ⟨.inl, fun z => z.elim id fun e => e ▸ hk⟩) (Nat.le_succ _) _))
  · refine Froz.add_x ho F hk hb ?_
    exact hQ _ (k :: l) (Heap.SameBut.update _ _ _) ⟨_, Froz.get_upd _ ho rfl, Froz.add_ok u F, List.nodup_cons.mpr ⟨hk, nd⟩, add_ris hr, hl.imp id fun z => by rw [add_led]; exact z⟩ (fun j => by rw [List.mem_cons]; exact Or.comm) (Nat.le_refl _) _
theorem strs_at : ∀ {vs : List Value} {ns : List Str} {i : Nat} {v : Value}, StrsAre vs ns → vs[i]? = some v → ∃ k t, ns[i]? = some k ∧ v = .str k t := by
  intro vs ns i v h
  induction h generalizing i with
  | nil => intro e; simp at e
  | cons k t _ ih =>
    intro e
    cases i with
    | zero =>
      cases e
      exact ⟨k, t, rfl, rfl⟩
    | succ i => exact ih e
/-- set.update's loop over texts -/
theorem set_update_texts {I : Addr} {fp wr : List Addr} {G : Array GenState → Array GenState → Prop} {n : Nat} {Pv : Nat → Value → Prop} {St : Nat → Shared → Prop} {R : Result → Shared → Prop}
    (W : WalksS P w A.in1 I fp wr G n Pv St) (S : Addr) (hSf : S ∉ fp) (ns : List Str) (hn : n = ns.length) (hb : ns.length + 1 < scanBound) (hval : ∀ i v, Pv i v → ∃ k t, ns[i]? = some k ∧ v = .str k t) :
    ∀ (k i : Nat) (s : Shared), n - i = k → i ≤ n → St i s → (∃ l : List Str, l.length ≤ i ∧ SetX P w s.heap S l ∧ ∀ j, j ∈ l ↔ j ∈ ns.take i) →
      (∀ s' l, Moved (S :: wr) G s s' → l.length ≤ n → SetX P w s'.heap S l → (∀ j, j ∈ l ↔ j ∈ ns) → R (.ok (.ret .none)) s') →
      codeAny (model P w) A (.builtin "set.update.loop" ⟨[.ref S, .ref I], []⟩) R s := by
  have hSw : S ∉ wr := fun h => hSf (W.sub _ h)
  have hsub : ∀ b ∈ wr, b ∈ S :: wr := fun b hb => List.mem_cons_of_mem _ hb
  intro k
  induction k with
  | zero =>
    intro i s hk' hi hst ⟨l, hc, hS, hm⟩ hR
    have hin : i = n := by omega
    subst hin
    refine codeAny_builtin F.entry_set_update_loop ?_
    rw [Around.under_plainId F.plain_set_update_loop _]
    show wpAny _ A.in1 (pyNext (.ref I) >>= _) _ _ s
    refine wpAny_bind (W.done s _ _ hst fun s' mv => ?_)
    show wpAny _ A.in1 (ret Value.none) _ _ s'
    have e : ns.take i = ns := List.take_of_length_le (by omega)
    rw [e] at hm
    exact wpAny_pure (hR s' l (mv.mono hsub) hc (hS.at fun o e => mv.heap S o hSw e) hm)
  | succ k ih =>
    intro i s hk' hi hst ⟨l, hc, hS, hm⟩ hR
    have hlt : i < n := by omega
    refine codeAny_builtin F.entry_set_update_loop ?_
    rw [Around.under_plainId F.plain_set_update_loop _]
    show wpAny _ A.in1 (pyNext (.ref I) >>= _) _ _ s
    refine wpAny_bind (W.item i s _ _ hlt hst fun v s' hP hst' mv => ?_)
    obtain ⟨z, t, hz, rfl⟩ := hval i v hP
    have hS' : SetX P w s'.heap S l := hS.at fun o e => mv.heap S o hSw e
    show wpAny _ A.in1 (holding [Value.str z t] (setAdd S (.str z t)) >>= _) _ _ s'
    refine wpAny_bind (wpAny_holding ?_)
    unfold setAdd
    refine wpAny_holding ?_
    refine wpAny_bind ((PySem.strKind P w).pyHash (k := z) (Froz.is_str z t) ?_)
    refine setX_add (s := { s' with toks := s'.toks + 1 }) hS' (by omega) fun h' l' hsb hS2 hm2 hl2 b => ?_
    have hm3 : ∀ j, j ∈ l' ↔ j ∈ ns.take (i + 1) := fun j => by
      rw [hm2, hm, List.take_add_one, hz]
      simp [List.mem_append]
    refine wpAny_pure ⟨plainId_quiet F.plain_set_update_loop _, ih (i + 1) _ (by omega) hlt (W.frame _ s' _ _ hst' (Nat.le_succ _) fun b hb o e => ?_) ⟨l', by omega, hS2, hm3⟩ fun s'' l2 mv'' hc'' hS'' hm'' => ?_⟩
    · rw [hsb.2 b (fun h : b = S => hSf (by rw [← h]; exact hb))]; exact e
    · refine hR s'' l2 (Moved.trans W.gtrans ((mv.mono hsub).then_heap (Nat.le_succ _) fun b o hb e => ?_) mv'') hc'' hS'' hm''
      rw [hsb.2 b (fun h : b = S => hb (by rw [h]; exact List.mem_cons_self))]; exact e
set_option maxRecDepth 100000 in
set_option maxHeartbeats 3200000 in
theorem set_ofTexts {l : Addr} {items : Array Value} (ns : List Str) {Q : Value → Shared → Prop} (hh : A.handled = none) (hl : s.heap.IsList l items) (hit : StrsAre items.toList ns) (hb : ns.length + 1 < scanBound)
    (done : ∀ (h' : Heap) (tk : Nat) (l : List Str), SetX P w h' s.heap.objs.size l → (∀ j, j ∈ l ↔ j ∈ ns) → l.length ≤ ns.length → (∀ b o, s.heap.get? b = some o → h'.get? b = some o) → Q (.ref s.heap.objs.size) { s with heap := h', toks := tk }) :
    wpAny (model P w) A (call (.type "set") [.ref l]) Q E s := by
  have sz : items.size = ns.length := (Array.length_toList (xs := items)).symm.trans (StrsAre.length hit)
  obtain ⟨c0, r0, hmro⟩ := F.called_set.mro
  have f1 := F.called_set.made
  have f2 := F.called_set.sub
  refine wpAny_call (codeAny_of_tree (show wpAny _ _ (callAny (.type "set") _) _ _ _ from wpAny_pure ⟨Code.quiet_builtin _ (by decide +kernel), codeAny_builtin F.entry_type_call ?_⟩))
  rw [Around.under_plain (weight_type_call_type "set" [.ref l] []) rfl]
  have f3 := F.called_set.notType
  have f4 := F.called_set.canCreate
  have f5 := F.typeCall_set_1 (.ref l)
  repeat any_goals first
    | assumption
    | wp_step
  refine codeAny_mono (code_set_led1 (.ref l) (E := E) (Q₁ := fun ob s₁ => ob = .ref s.heap.objs.size ∧ s₁ = { s with heap := s.heap.push (nset w) }) ⟨rfl, rfl⟩) fun r s₁ hr => ?_
  match r, hr with
  | .error e, hr => exact hr
  | .ok .next, hr => exact hr.elim
  | .ok .brk, hr => exact hr.elim
  | .ok .cont, hr => exact hr.elim
  | .ok (.ret ob), hr =>
    obtain ⟨e1, e2⟩ := hr
    subst e1 e2
    have gS : (s.heap.push (nset w)).get? s.heap.objs.size = some (nset w) := Heap.get?_push_size _ rfl
    have tS : Shared.TypeIs { s with heap := s.heap.push (nset w) } (.ref s.heap.objs.size) "set" := ⟨_, gS, rfl⟩
    have f6 := F.called_set.init.lookup
    have f7 := F.called_set.init.bind (.ref s.heap.objs.size)
    repeat any_goals first
      | assumption
      | wp_step
    let ok2 : Value → Shared → Prop := fun r s₂ => r = .none ∧ ∃ h' tk l, s₂ = { s with heap := h', toks := tk } ∧ SetX P w h' s.heap.objs.size l ∧ (∀ j, j ∈ l ↔ j ∈ ns) ∧ l.length ≤ ns.length ∧ (∀ b o, s.heap.get? b = some o → h'.get? b = some o)
    refine codeAny_mono (codeAny_call_builtin (R := wants ok2 E) F.called_set.init.plain F.entry_set_init (check_set_init_1 tS ?_)) fun r₂ s₂ hr₂ => ?_
    · obtain ⟨⟨kc, kd, kdat, ksl⟩, gl, q1, nl, q2⟩ := hl
      simp only at q1 q2
      subst q1 q2
      have gl1 : (s.heap.push (nset w)).get? l = some { cls := .type "list", dict := kd, data := .seq items nl, slots := ksl } := Heap.get?_push_of_some _ gl
      have f8 := F.sub_list_set
      have f9 := F.sub_list_frozenset
      have fa : (Value.type "list" == Value.type "dict") = false := by decide
      have il : (s.heap.push (nset w)).IsList l items := ⟨_, gl1, rfl, nl, rfl⟩
      unfold Builtin.«set.__init__» noKeywords Builtin.Frozenset.updateFrom
      generalize hPI : pyIter = PI
      wp_walk
      subst hPI
      refine wpAny_pyIter_list il (wpAny_bind (wpAny_runValue ?_))
      have lt : l < s.heap.objs.size := Heap.lt_size gl
      have psz : (s.heap.push (nset w)).objs.size = s.heap.objs.size + 1 := Heap.size_push ..
      have nI : l ≠ (s.heap.push (nset w)).objs.size := by rw [psz]; exact Nat.ne_of_lt (Nat.lt_succ_of_lt lt)
      have nS : s.heap.objs.size ∉ [(s.heap.push (nset w)).objs.size, l] := fun z => by
        rcases List.mem_cons.mp z with z | z
        · rw [psz] at z; exact absurd z (Nat.ne_of_lt (Nat.lt_succ_self _))
        · exact absurd (List.mem_singleton.mp z) (Nat.ne_of_gt lt)
      have vals : ∀ (i : Nat) (v : Value), items[i]? = some v → ∃ k t, ns[i]? = some k ∧ v = .str k t := fun i v hv => strs_at hit (by rw [Array.getElem?_toList]; exact hv)
      have h3 : A.in1.in1.in1.handled = none := by simp [hh]
      refine set_update_texts ((Walks.list h3 _ l nI items).toS) s.heap.objs.size nS ns sz hb vals (items.size - 0) 0 _ (by omega) (Nat.zero_le _) ⟨⟨_, Heap.get?_push_size _ rfl, rfl, rfl⟩, il.push _⟩ ⟨[], Nat.le_refl 0, setX_new_at (Heap.get?_push_of_some _ gS), fun j => by simp⟩ fun s' l' mv hc' hS' hm' => ?_
      obtain ⟨h', g', d', tk', os'⟩ := s'
      obtain rfl : g' = s.gens := mv.gens
      obtain rfl : d' = s.drawn := mv.drawn
      obtain rfl : os' = s.os := mv.os
      show wpAny _ _ _ _ _ _
      refine wpAny_pure (show wpAny _ _ (ret Value.none) _ _ _ from wpAny_pure ⟨rfl, h', tk', l', rfl, hS', hm', sz ▸ hc', fun b o e => ?_⟩)
      have b1 := Heap.lt_size e
      refine mv.heap b o (fun z => ?_) (Heap.get?_push_of_some _ (Heap.get?_push_of_some _ e))
      rcases List.mem_cons.mp z with z | z
      · exact absurd z (Nat.ne_of_lt b1)
      · have z := List.mem_singleton.mp z
        rw [psz] at z
        exact absurd z (Nat.ne_of_lt (Nat.lt_succ_of_lt b1))
    · match r₂, hr₂ with
      | .error e, hr₂ => exact hr₂
      | .ok .next, hr₂ => exact hr₂.elim
      | .ok .brk, hr₂ => exact hr₂.elim
      | .ok .cont, hr₂ => exact hr₂.elim
      | .ok (.ret r), hr₂ =>
        obtain ⟨e1, h', tk, l, e2, k1, k4, k2, k3⟩ := hr₂
        subst e1 e2
        repeat any_goals first
          | assumption
          | wp_step
        exact done _ _ _ k1 k4 k2 k3
end
end ST

/-! DS37: sorted of a set of texts; sorted(set(xs)) over data. -/
namespace ST
open PySem PySem.Spec PyProof.Rows L2
def txtOf : Value → Str
  | .str k _ => k
  | _ => ""
theorem strs_of : ∀ (l : List Value), (∀ v ∈ l, ∃ k t, v = Value.str k t) → StrsAre l (l.map txtOf)
  | [], _ => .nil
  | v :: l, h => by
    obtain ⟨k, t, rfl⟩ := h v List.mem_cons_self
    exact .cons k t (strs_of l fun u hu => h u (List.mem_cons_of_mem _ hu))
theorem perm_few : ∀ {l m : List Str}, l.Nodup → (∀ k ∈ l, k ∈ m) → m.length ≤ l.length → l.Perm m
  | [], m, _, _, h => by
    have : m = [] := List.length_eq_zero_iff.mp (by simpa using h)
    rw [this]
  | a :: l, m, nd, h, hl => by
    have nd' := List.nodup_cons.mp nd
    have ha : a ∈ m := h a (.head _)
    have hp : 0 < m.length := List.length_pos_of_mem ha
    have e := List.length_erase_of_mem ha
    rw [List.length_cons] at hl
    have := perm_few (l := l) (m := m.erase a) nd'.2 (fun k hk => (List.mem_erase_of_ne fun z => nd'.1 (by rw [← z]; exact hk)).mpr (h k (.tail _ hk))) (by omega)
    exact (this.cons a).trans (List.perm_cons_erase ha).symm
section
variable {P : Program} {w : World} {A : Around} {E : Value → Shared → Prop} {s : Shared}
theorem sort_texts {a : Addr} {vs : List Value} {ss : List Str} {n : Nat} {Pf : Fin → Shared → Prop} (ho : s.heap.get? a = some (seqObj "list" vs.toArray n)) (hS : StrsAre vs ss) (hL : vs.length ≤ sizeLine)
    (h : ∀ (out : Array Value) (ss' : List Str), StrsAre out.toList ss' → ss'.Perm ss → sortedS ss' = true → Pf (.done (.ret .none)) { s with heap := sortedHeap s.heap a vs out }) :
    wpAny (model P w) A (Builtin.«list.sort» ⟨[.ref a], []⟩) Pf E s := by
  refine list_sort_treeKAny strKind_oneLt ho hS.keysOf (fun v₁ v₂ rest e => keyKind_strs (by rw [← e]; exact hS)) hL fun st' hp hs => ?_
  obtain ⟨ss', h1, h2, h3⟩ := sorted_out_str hS hp hs
  exact h _ ss' h1 h2 h3
theorem sorted_setX {a : Addr} {l : List Str} {Q : Value → Shared → Prop} (R : SetX P w s.heap a l) (hh : A.handled = none) (h1000 : l.length ≤ 1000)
    (hQ : ∀ s' p (out : Array Value) (c : Nat) (ss : List Str), (∀ b o, s.heap.get? b = some o → s'.heap.get? b = some o) → s'.gens = s.gens → s'.os = s.os → s.heap.objs.size ≤ p →
      s'.heap.get? p = some (seqObj "list" out c) → StrsAre out.toList ss → sortedS ss = true → ss.Perm l → Q (.ref p) s') :
    wpAny (model P w) A (call (.builtin "sorted") [.ref a]) Q E s := by
  obtain ⟨⟨es, ep, t⟩, ho, F, nd, hr, hl⟩ := R
  have hsz : es.size = l.length := F.sz
  have hel : ElemsOf (PySem.strKind P w) es.toList := F.el
  refine Calls.call_function_entry kind_sorted plain_sorted entry_sorted (args_sorted1 _) ?_
  unfold Builtin.«sorted»
  refine wpAny_bind (m := checkCount "sorted" 1 1 _) (wpAny_pure ?_)
  refine wpAny_bind (collect_set (A := A.in1) (es := es) (ep := ep) (t := t) hh ⟨_, ho, rfl, rfl⟩ F.fit (by rw [hsz]; unfold scanBound; omega) hr hl fun s1 vs k1 hz g1 o1 pm => ?_)
  have hvl : vs.length = l.length := by rw [pm.length_eq, List.length_map, Array.length_toList]; exact hsz
  have hI : StrsAre vs (vs.map txtOf) := strs_of vs fun v hv => by
    obtain ⟨e, he, q⟩ := List.mem_map.mp (pm.mem_iff.mp hv)
    obtain ⟨⟨k, hk, _⟩, _⟩ := hel e he
    obtain ⟨u, hu⟩ := Value.isStrOf_shape hk
    exact ⟨k, u, by rw [← q]; exact hu⟩
  have pl : (vs.map txtOf).Perm l := by
    refine (perm_few nd (fun k hk => ?_) (by rw [List.length_map, hvl]; exact Nat.le_refl _)).symm
    obtain ⟨e, he, q⟩ := (F.mem k).mp hk
    obtain ⟨u, hu⟩ := Value.isStrOf_shape q
    exact List.mem_map.mpr ⟨e.2, pm.mem_iff.mpr (List.mem_map.mpr ⟨e, he, rfl⟩), by rw [hu]; rfl⟩
  have l3 : (3000 : Nat) ≤ sizeLine := by rw [sizeLine_eq]; decide
  refine wpAny_bind (wpAny_newList ?_ (by rw [hvl]; omega))
  have hoL : (s1.heap.push (seqObj "list" vs.toArray 0)).get? s1.heap.objs.size = some (seqObj "list" vs.toArray 0) := Heap.get?_push_size _ rfl
  refine wpAny_bind (wpAny_holding (wpAny_call_entry slot_list_sort ⟨_, hoL, rfl⟩ entry_list_sort (sort_texts hoL hI (by rw [hvl]; omega) fun out ss' a1 a2 a3 => ⟨_, rfl, ?_⟩) (args_list_sort _)))
  obtain ⟨c, hc⟩ := sortedHeap_at (vs := vs) (out := out) hoL
  refine wpAny_pure ⟨_, rfl, hQ _ s1.heap.objs.size out c ss' (fun b u e => ?_) g1 o1 hz hc a1 a3 (a2.trans pl)⟩
  have q := k1 b u e
  have hlt := Heap.lt_size q
  show (sortedHeap (s1.heap.push (seqObj "list" vs.toArray 0)) s1.heap.objs.size vs out).get? b = some u
  rw [sortedHeap_old (Nat.ne_of_lt hlt) (by rw [size_push']; exact Nat.lt_succ_of_lt hlt)]
  exact Heap.get?_push_of_some _ q
end
def SetXO (P : Program) (w : World) (a : Addr) (l : List Str) : HO := .ext fun h => SetX P w h a l
theorem setXO_new {P : Program} {w : World} {H : Hp} {h : Heap} {a : Addr} {l : List Str} (R : SetX P w h a l) : ObjOk P w H h a (SetXO P w a l) := by
  have ⟨D, ho, q⟩ := R
  exact ⟨R, ⟨_, ho⟩, fun h1 h2 p k => SetX.at p fun o e => k o e⟩
section
variable {X : Cx}
def rSetOfX (K : PySem.W.Frag) (P : Program) (w : World) : List V → Hp → VK → Prop := fun xs H Q => ∃ (l : Addr) (ns : List Str), xs = [.ref l] ∧ SqL K H l (ns.map V.str) ∧ ns.length ≤ 1000 ∧ ∀ p m, H p = none → (∀ j, j ∈ m ↔ j ∈ ns) → m.length ≤ ns.length → m.Nodup → Q (.ref p) (upd H p (SetXO P w p m))
theorem cr_setOfX (hc : X.calm = true) : CallR X (.type "set") (rSetOfX X.K X.prog X.w) := by
  intro pins s σ H xs us Q I r ⟨l, ns, ex, hs, hl, q⟩
  subst ex
  rw [Vals.ref1 r]
  obtain ⟨its, rv, pl, hz⟩ := I.list hs
  refine ST.set_ofTexts (P := X.prog) (w := X.w) ns (I.ok.hd hc) pl.isList (by simpa using rv.strs) (by unfold scanBound; omega) fun h' tk m R hm hcl k => ?_
  have nd : m.Nodup := by obtain ⟨D, _, _, nd, _⟩ := R; exact nd
  exact ⟨.ref s.heap.objs.size, upd H s.heap.objs.size (SetXO X.prog X.w s.heap.objs.size m), I.laid (t' := tk) k (Nat.le_refl _) (setXO_new R), rfl, q _ m (I.hok.fresh (Nat.le_refl _)) hm hcl nd⟩
def rSortedX (P : Program) (w : World) : List V → Hp → VK → Prop := fun vs H Q => ∃ (a : Addr) (l : List Str), vs = [V.ref a] ∧ H a = some (SetXO P w a l) ∧ l.length ≤ 1000 ∧
  ∀ (ss : List Str) (p : Addr), sortedS ss = true → ss.Perm l → H p = none → Q (.ref p) (upd H p (.lst (ss.map V.str)))
theorem cr_sortedX (hc : X.calm = true) : CallR X (.builtin "sorted") (rSortedX X.prog X.w) := by
  intro pins s σ H vs us Q I r h
  obtain ⟨a, l, rfl, ha, h1000, q⟩ := h
  have R : SetX X.prog X.w s.heap a l := (I.hok a _ ha).1
  rw [Vals.ref1 r]
  refine sorted_setX R (I.ok.hd hc) h1000 fun s' p out c ss k g o hp hg hi hs pm => ?_
  have l3 : (3000 : Nat) ≤ sizeLine := by rw [sizeLine_eq]; decide
  have hlen : (ss.map V.str).length ≤ sizeLine := by rw [List.length_map, pm.length_eq]; omega
  have hn : H p = none := I.hok.fresh hp
  have J : Inv X pins σ (upd H p (.lst (ss.map V.str))) { s with heap := s'.heap, gens := s'.gens, drawn := s'.drawn, toks := s'.toks } :=
    I.call (ch := []) (Un.laid k hp hn) (I.hok.laid k hp ⟨hlen, out.toList, c, vals_of_strs hi, hg⟩) (by rw [g]; exact I.bare) (fun _ z => nomatch z)
  have e : s' = { s with heap := s'.heap, gens := s'.gens, drawn := s'.drawn, toks := s'.toks } := by
    cases s'
    cases s
    cases o
    rfl
  rw [e]
  exact ⟨.ref p, _, J, rfl, q ss p hs pm hn⟩
end
end ST

/-! DS38: sorted(set(xs)), xs a list of texts. -/
namespace DS
open PySem PySem.Spec L2 PyProof.Rows
def leT (a b : Str) : Bool := PySem.W.dataLe false id (.str a) (.str b)
theorem leT_cps (a b : Str) : leT a b = !ltCps b.cps.toList a.cps.toList := by
  have e : leT a b = !PyProof.Rows.lexLt PyProof.Rows.itemOrd (PySem.W.keyToks (.str b)) (PySem.W.keyToks (.str a)) := rfl
  rw [e]
  simp only [PySem.W.keyToks]
  rw [PyProof.Rows.lex_cons]
  have h1 : PyProof.Rows.itemOrd.blt (.inr b.cps.toList) (.inr a.cps.toList) = ltCps b.cps.toList a.cps.toList := by first | exact (PyProof.Rows.ltCps_eq _ _).symm | exact (PySem.ltCps_eq _ _).symm | exact (ltCps_eq _ _).symm
  rw [h1]
  cases ltCps b.cps.toList a.cps.toList <;> simp [PyProof.Rows.lexLt]
theorem leT_trans {a b c : Str} (h1 : leT a b = true) (h2 : leT b c = true) : leT a c = true :=
  (PySem.W.sortLe_total (PyProof.Rows.listOrd PyProof.Rows.itemOrd) false fun b => PySem.W.keyToks (.str b)).trans a b c h1 h2
theorem rising_pw : ∀ {r : List Str} {p : Str}, risingS p r = true → (p :: r).Pairwise fun a b => leT a b = true
  | [], p, _ => List.pairwise_singleton _ _
  | x :: r, p, h => by
    have h' : (!ltCps x.cps.toList p.cps.toList && risingS x r) = true := h
    rw [Bool.and_eq_true] at h'
    have ih := rising_pw h'.2
    have hp : leT p x = true := by rw [leT_cps]; exact h'.1
    refine List.pairwise_cons.mpr ⟨fun y hy => ?_, ih⟩
    rcases List.mem_cons.mp hy with rfl | hy
    · exact hp
    · exact leT_trans hp ((List.pairwise_cons.mp ih).1 y hy)
theorem sortedS_pw {l : List Str} (h : sortedS l = true) : l.Pairwise fun a b => leT a b = true := by
  cases l with
  | nil => exact List.Pairwise.nil
  | cons p r => exact rising_pw h
theorem drs_strsV {B : Hp} {K : Fg} {cl : Cl} : ∀ {vs : List V} {ns : List Str}, DRs K cl B vs (ns.map PyData.str) → vs = ns.map V.str
  | _, [], .nil => rfl
  | _, n :: ns, .cons h t => by
    cases h
    rw [drs_strsV t]; rfl
theorem drs_ofStrs {B : Hp} {K : Fg} {cl : Cl} : ∀ {ns : List Str}, DRs K cl B (ns.map V.str) (ns.map PyData.str)
  | [] => .nil
  | n :: ns => .cons (.str _) drs_ofStrs
section
variable {X : Cx} {C : Cn}
def mSortSetS (a : M) : ML := fun ρ n P R => a ρ n (fun d n1 => ∃ ns : List Str, d = .list (ns.map .str) ∧ ns.length ≤ 1000 ∧ ∀ out : List Str, out.Nodup → (∀ k, k ∈ out ↔ k ∈ ns) → out.Pairwise (fun a b => leT a b = true) → P (out.map .str) n1) R
theorem le_sortSetS {f g : Str} {e : Expr} {a : M} {p p2 q pos : Pos} (hc : X.calm = true) (hg : Gl X f) (hm : X.mg f = none) (hv : bootBuiltins f = some (.builtin "sorted")) (hg2 : Gl X g) (hm2 : X.mg g = none) (hv2 : bootBuiltins g = some (.type "set")) (ha : QE X C e a)
    (hn : f ≠ "__name__" := by decide) (hdb : (f == ("__debug__" : Str)) = false := by decide) (hn2 : g ≠ "__name__" := by decide) (hdb2 : (g == ("__debug__" : Str)) = false := by decide)
    (he : starEach (e :: []) X.env = (false, eval e X.env) :: starEach [] X.env := by rfl) (he2 : starEach (.Call (.Name g p2) [e] [] q :: []) X.env = (false, eval (.Call (.Name g p2) [e] [] q) X.env) :: starEach [] X.env := by rfl) :
    LE X C (.Call (.Name f p) [.Call (.Name g p2) [e] [] q] [] pos) (mSortSetS a) :=
  pe_weak (pe_callB (ST.cr_sortedX hc) hg hm hv (pa_cons (pe_callTy (ST.cr_setOfX hc) hg2 hm2 hv2 (pa_cons ha pa_nil he) hn2 hdb2 he) pa_nil he2) hn hdb he2) fun σ H Q ⟨B, ρ, n, P, R, F, w, ox, k⟩ => by
    refine ⟨B, ρ, n, _, R, F, w, ox, fun d n1 ⟨ns, ed, hl, hP⟩ v B1 H1 s1 k1 rv => ?_⟩
    subst ed
    obtain ⟨qa, xs, ev, h, r⟩ := q_list rv hid_sub s1.sub
    have ex := drs_strsV r
    subst ex
    refine ⟨qa, ns, by rw [ev], SqL.of h, hl, fun sa m hsa hmem hml hnd => ?_⟩
    have s2 := s1.lay (o := ST.SetXO X.prog X.w sa m) hsa
    have k2 := src_lay (o := ST.SetXO X.prog X.w sa m) k1 hsa
    refine ⟨sa, m, rfl, upd_same, by omega, fun out pa so pm hpa => ?_⟩
    exact k _ n1 (hP out (pm.nodup_iff.mpr hnd) (fun z => pm.mem_iff.trans (hmem z)) (sortedS_pw so)) pa _ B1 _ (fresh_of s2 hpa k2) (s2.lay hpa) (none_of s2 hpa) (src_lay k2 hpa) upd_same drs_ofStrs
end
end DS

/-! DS39: starred items of displays; max of a list of ints. -/
namespace DS
open PySem L2 PyProof.Rows
theorem star_of {P : Program} {w : World} {A : Around} {E : Value → Shared → Prop} {s : Shared} {a : Addr} {o : Obj} {T : String} {its : Array Value} {n : Nat} {Q : List Value → Shared → Prop} (D : s.heap.get? a = some o) (hc : o.cls = .type T) (hd : o.data = .seq its n) (hT : T = "list" ∨ T = "tuple")
    (hz : its.size ≤ sizeLine) (h : ∀ h', (∀ b u, s.heap.get? b = some u → h'.get? b = some u) → Q its.toList { s with heap := h' }) : PySem.W.StarOf (model P w) A E (.ref a) Q s := by
  have hT' : s.TypeIs (.ref a) T := ⟨o, D, hc⟩
  have z : wpAny (model P w) A (collect (.ref a)) Q E s := wpAny_collect_seq a hT D hc hd h hz
  unfold PySem.W.StarOf notIterableAtAll
  rcases hT with rfl | rfl
  · exact wpAny_bind (wpAny_specialOf hT' PySem.F.slot_list_iter.lookup (wpAny_pure ⟨rfl, z⟩))
  · exact wpAny_bind (wpAny_specialOf hT' PySem.F.slot_tuple_iter.lookup (wpAny_pure ⟨rfl, z⟩))
def tStar (K : Fg) (te : TE) (tr : TA) : TA := fun σ H Q => te σ H fun x H1 => ∃ a xs, x = .ref a ∧ (SqL K H1 a xs ∨ SqT K H1 a xs) ∧ xs.length ≤ sizeLine ∧ tr σ H1 fun ys H2 => Q (xs ++ ys) H2
theorem vals_app : ∀ {xs ys : List V} {us vs : List Value}, Vals xs us → Vals ys vs → Vals (xs ++ ys) (us ++ vs)
  | [], _, _, _, .nil, h => h
  | _ :: _, _, _, _, .cons r t, h => .cons r (vals_app t h)
section
variable {X : Cx} {e : Expr} {es : List Expr} {te : TE} {t : TA} {p : Pos}
theorem pa_star (ha : PE X e te) (hr : PA X es t) (hs : starEach (.Starred e p :: es) X.env = (true, eval e X.env) :: starEach es X.env := by rfl) : PA X (.Starred e p :: es) (tStar X.K te t) := by
  refine ⟨fun pos pins s σ H Q I h => ?_⟩
  refine PySem.W.items_star (thn (ha.run pins s σ H _ I h) fun u s1 ⟨x, H1, I1, r1, q1⟩ => ?_) hs
  obtain ⟨a, xs, ex, hq, hz, q⟩ := q1
  subst ex
  cases r1
  rcases hq with hq | hq
  · obtain ⟨its, rv, pl, _⟩ := I1.list hq
    obtain ⟨o, ho, hc, n, hd⟩ := pl.isList
    refine star_of ho hc hd (.inl rfl) (by have := rv.length; simp; omega) fun h' hk => ?_
    have I2 : Inv X pins σ H1 { s1 with heap := h' } := I1.kept (t' := s1.toks) hk
    exact thn (hr.run pos pins _ σ H1 _ I2 q) fun us s2 ⟨ys, H2, I3, r2, q2⟩ => ⟨xs ++ ys, H2, I3, vals_app (by simpa using rv) r2, q2⟩
  · obtain ⟨its, rv, pl, _⟩ := I1.tuple hq
    obtain ⟨o, ho, hc, n, hd⟩ := (show s1.heap.IsTuple a its.toArray from pl)
    refine star_of ho hc hd (.inr rfl) (by have := rv.length; simp; omega) fun h' hk => ?_
    have I2 : Inv X pins σ H1 { s1 with heap := h' } := I1.kept (t' := s1.toks) hk
    exact thn (hr.run pos pins _ σ H1 _ I2 q) fun us s2 ⟨ys, H2, I3, r2, q2⟩ => ⟨xs ++ ys, H2, I3, vals_app (by simpa using rv) r2, q2⟩
end
section
variable {X : Cx} {C : Cn}
def mStar (a : M) (r : MA) : MA := fun ρ n P R => a ρ n (fun d n1 => ∃ ds, seqOf d = some ds ∧ ds.length ≤ sizeLine ∧ r ρ n1 (fun as n2 => P (ds.map Sl.dat ++ as) n2) R) R
theorem agr_app {K : Fg} {cl : Cl} {sc : Sc} {B H : Hp} : ∀ {xs ys : List V} {ds : List D} {as : List Sl}, DRs K cl B xs ds → Paired (AgR K cl sc B H) ys as → Paired (AgR K cl sc B H) (xs ++ ys) (ds.map Sl.dat ++ as)
  | [], _, [], _, .nil, h => h
  | _ :: _, _, _ :: _, _, .cons r t, h => .cons (.dat r) (agr_app t h)
theorem da_star {e : Expr} {es : List Expr} {a : M} {r : MA} {p : Pos} (hK : X.K = C.K) (ha : DE X C e a) (hr : DA X C es r) (hs : starEach (.Starred e p :: es) X.env = (true, eval e X.env) :: starEach es X.env := by rfl) : DA X C (.Starred e p :: es) (mStar a r) :=
  pa_weak (pa_star ha hr hs) fun σ H Q ⟨B, ρ, n, P, R, F, w, ox, k⟩ => by
    rw [hK]
    refine ⟨B, ρ, n, _, R, F, w, ox, fun d n1 ⟨ds, es', hl, w1⟩ v B1 H1 s1 k1 rv => ?_⟩
    have go : ∀ (q : Addr) (xs : List V), v = .ref q → (SqL C.K H1 q xs ∨ SqT C.K H1 q xs) → DRs C.K C.cl B1 xs ds → ∃ a xs, v = .ref a ∧ (SqL C.K H1 a xs ∨ SqT C.K H1 a xs) ∧ xs.length ≤ sizeLine ∧ tA C r σ H1 fun ys H2 => Q (xs ++ ys) H2 := by
      intro q xs ev hq hr'
      refine ⟨q, xs, ev, hq, by rw [hr'.length]; exact hl, B1, ρ, n1, _, R, F.step s1 k1, w1, ox.step s1, fun as n2 p2 us B2 H2 s2 k2 rs => ?_⟩
      exact k _ n2 p2 _ B2 H2 (s1.trans s2) k2 (agr_app (hr'.mono s2.old) rs)
    cases rv with
    | lst h t => cases es'; exact go _ _ rfl (.inl (SqL.of (s1.sub _ _ h))) t
    | tup h t => cases es'; exact go _ _ rfl (.inr (sqt_same s1.sub h)) t
    | non => cases es'
    | bl _ => cases es'
    | int _ => cases es'
    | str _ => cases es'
    | ins _ _ _ _ => cases es'
/-! ### max of a list of ints -/
theorem maxOf_int : ∀ (xs : List Int) (x : Int), (PySem.W.maxOf x xs ∈ x :: xs) ∧ ∀ y ∈ x :: xs, y ≤ PySem.W.maxOf x xs
  | [], x => ⟨List.mem_cons_self, fun y hy => by rw [List.mem_singleton.mp hy]; exact Int.le_refl _⟩
  | z :: xs, x => by
    have e : PySem.W.maxOf x (z :: xs) = PySem.W.maxOf (if x < z then z else x) xs := by
      unfold PySem.W.maxOf
      rw [List.foldl_cons]
      show List.foldl _ (if decide (x < z) = true then z else x) xs = _
      by_cases hz : x < z
      · rw [if_pos hz, if_pos (decide_eq_true hz)]
      · rw [if_neg hz, if_neg (by rw [decide_eq_true_eq]; exact hz)]
    obtain ⟨h1, h2⟩ := maxOf_int xs (if x < z then z else x)
    rw [e]
    have hle := h2 _ List.mem_cons_self
    refine ⟨?_, fun y hy => ?_⟩
    · rcases List.mem_cons.mp h1 with q | q
      · rw [q]
        by_cases hz : x < z
        · rw [if_pos hz]; exact .tail _ (.head _)
        · rw [if_neg hz]; exact .head _
      · exact .tail _ (.tail _ q)
    · rcases List.mem_cons.mp hy with rfl | hy
      · by_cases hz : y < z
        · rw [if_pos hz] at hle ⊢; omega
        · rw [if_neg hz] at hle ⊢; omega
      · rcases List.mem_cons.mp hy with rfl | hy
        · by_cases hz : x < y
          · rw [if_pos hz] at hle ⊢; omega
          · rw [if_neg hz] at hle ⊢; omega
        · exact h2 y (.tail _ hy)
def rMaxI (K : Fg) : List V → Hp → VK → Prop := fun xs H Q => ∃ (a : Addr) (ns : List Int), xs = [.ref a] ∧ SqL K H a (ns.map V.int) ∧ ns ≠ [] ∧ ∀ m, m ∈ ns → (∀ y, y ∈ ns → y ≤ m) → Q (.int m) H
theorem cr_maxI (hc : X.calm = true) (hu : X.A.units + 64 < cLine) : CallR X (.builtin "max") (rMaxI X.K) := by
  intro pins s σ H xs us Q I r ⟨a, ns, ex, hs, hne, q1⟩
  subst ex
  obtain ⟨its, rv, hl, _⟩ := I.list hs
  rw [Vals.ref1 r]
  obtain ⟨y, ys, rfl⟩ : ∃ y ys, ns = y :: ys := by
    cases ns with
    | nil => exact absurd rfl hne
    | cons y ys => exact ⟨y, ys, rfl⟩
  obtain ⟨as, hr⟩ := reads_ints (h := s.heap) rv.ints
  refine PySem.W.max_list_datum (α := Int) (x := y) (xs := ys) (I.ok.hd hc) hl.isList ⟨as, hr⟩ (by show X.A.units + 1 + 0 < cLine; omega) fun i v h' tk hi hh hk => ?_
  obtain ⟨m1, m2⟩ := maxOf_int ys y
  obtain ⟨as', hh⟩ := hh
  cases hh with
  | int _ t => exact ⟨.int _, H, I.kept hk, ⟨t, rfl⟩, q1 _ m1 m2⟩
def mMaxI (a : M) : M := fun ρ n P R => a ρ n (fun d n1 => ∃ ns : List Int, d = .list (ns.map .int) ∧ ns ≠ [] ∧ ∀ m, m ∈ ns → (∀ y, y ∈ ns → y ≤ m) → P (.int m) n1) R
theorem de_maxI {x : Str} {e : Expr} {a : M} {p pos : Pos} (hc : X.calm = true) (hu : X.A.units + 64 < cLine) (hg : Gl X x) (hm : X.mg x = none) (hv : bootBuiltins x = some (.builtin "max")) (ha : QE X C e a)
    (hn : x ≠ "__name__" := by decide) (hdb : (x == ("__debug__" : Str)) = false := by decide) (he : starEach (e :: []) X.env = (false, eval e X.env) :: starEach [] X.env := by rfl) :
    DE X C (.Call (.Name x p) [e] [] pos) (mMaxI a) :=
  pe_weak (pe_callB (cr_maxI hc hu) hg hm hv (pa_cons ha pa_nil he) hn hdb he) fun σ H Q ⟨B, ρ, n, P, R, F, w, ox, q⟩ => by
    refine ⟨B, ρ, n, _, R, F, w, ox, fun d n1 ⟨ns, ed, hne, p1⟩ v B1 H1 s1 k1 rv => ?_⟩
    subst ed
    obtain ⟨qa, xs, ev, h, r⟩ := q_list rv hid_sub s1.sub
    have ex := drs_intsV r
    subst ex
    exact ⟨qa, ns, by rw [ev], SqL.of h, hne, fun m h1 h2 => q (.int m) n1 (p1 m h1 h2) (.int m) B1 H1 s1 k1 (.int m)⟩
end
end DS

/-! P5: data of a bounded size: what it is asked. -/
namespace DS
open PySem L2
mutual
def szB : D → Nat
  | .none => 4
  | .bool _ => 5
  | .int _ => 3400
  | .str x => 10 * x.length + 2
  | .list l => 2 + szBs l
  | .tuple l => 3 + szBs l
  | .dict _ => 0
def szBs : List D → Nat
  | [] => 0
  | x :: r => szB x + 2 + szBs r
end
mutual
/-- numbers below 3300 bits, short texts of usual signs, no dict -/
def okB : D → Bool
  | .none | .bool _ => true
  | .int i => decide (i.natAbs.log2 < 3300)
  | .str x => decide (x.length ≤ 100) && x.cps.toList.all fun c => decide (c < 16 ^ 8)
  | .list l => okBs l
  | .tuple l => okBs l
  | .dict _ => false
def okBs : List D → Bool
  | [] => true
  | x :: r => okB x && okBs r
end
mutual
theorem okB_all : ∀ d : D, okB d = true → BR.shB d = true ∧ d.plain = true ∧ sane d = true ∧ d.shown.length ≤ szB d
  | .none, _ => ⟨rfl, rfl, rfl, by simp only [PyData.shown, szB]; decide +kernel⟩
  | .bool b, _ => ⟨rfl, rfl, rfl, by cases b <;> (simp only [PyData.shown, szB]; decide +kernel)⟩
  | .int i, h => by
    have h' : i.natAbs.log2 < 3300 := of_decide_eq_true (by simpa [okB] using h)
    refine ⟨by simpa [BR.shB] using h', rfl, rfl, ?_⟩
    simp only [PyData.shown, szB]
    have := int_text_length_le (k := 3300) (by decide) h'
    have e : (Str.ofString (toString i)).length = (toString i).length := ofString_length _
    show (Str.ofString (toString i)).length ≤ 3400
    omega
  | .str x, h => by
    have h' : x.length ≤ 100 ∧ x.cps.toList.all (fun c => decide (c < 16 ^ 8)) = true := by simpa [okB] using h
    refine ⟨rfl, rfl, ?_, ?_⟩
    · have := line_small (Nat.le_trans h'.1 (by decide : 100 ≤ 1000))
      simpa [sane] using this
    · simp only [PyData.shown, szB]
      exact StrLaws.reprText_len x fun c hc => of_decide_eq_true (List.all_eq_true.mp h'.2 c hc)
  | .list l, h => by
    obtain ⟨h1, h2, h3, h4⟩ := okBs_all l (by simpa [okB] using h)
    refine ⟨by simpa [BR.shB] using h1, by simpa [PyData.plain] using h2, by simpa [sane] using h3, ?_⟩
    simp only [PyData.shown, szB]
    have := lt_len (PyData.shownAll l)
    omega
  | .tuple l, h => by
    obtain ⟨h1, h2, h3, h4⟩ := okBs_all l (by simpa [okB] using h)
    refine ⟨by simpa [BR.shB] using h1, by simpa [PyData.plain] using h2, by simpa [sane] using h3, ?_⟩
    simp only [PyData.shown, szB]
    have := tt_len (PyData.shownAll l)
    omega
  | .dict _, h => by simp [okB] at h
theorem okBs_all : ∀ l : List D, okBs l = true → BR.shBs l = true ∧ PyData.plainAll l = true ∧ saneAll l = true ∧ piled (PyData.shownAll l) ≤ szBs l
  | [], _ => ⟨rfl, rfl, rfl, by simp [PyData.shownAll, piled, szBs]⟩
  | x :: r, h => by
    have h' : okB x = true ∧ okBs r = true := by simpa [okBs] using h
    obtain ⟨a1, a2, a3, a4⟩ := okB_all x h'.1
    obtain ⟨b1, b2, b3, b4⟩ := okBs_all r h'.2
    refine ⟨by simp [BR.shBs, a1, b1], by simp [PyData.plainAll, a2, b2], by simp [saneAll, a3, b3], ?_⟩
    simp only [PyData.shownAll, piled_cons, szBs]
    omega
end
/-- fit of level k: no deeper than k, no greater than z -/
structure Fit (k z : Nat) (d : D) : Prop where
  ok : okB d = true
  dp : d.depth ≤ k
  sz : szB d ≤ z
theorem Fit.le {k z k' z' : Nat} {d : D} (h : Fit k z d) (h1 : k ≤ k') (h2 : z ≤ z') : Fit k' z' d := ⟨h.ok, Nat.le_trans h.dp h1, Nat.le_trans h.sz h2⟩
theorem fits_all {k z : Nat} : ∀ {l : List D}, (∀ d ∈ l, Fit k z d) → okBs l = true ∧ PyData.depthAll l ≤ k ∧ szBs l ≤ l.length * (z + 2)
  | [], _ => ⟨rfl, by simp [PyData.depthAll], by simp [szBs]⟩
  | x :: r, h => by
    have hx := h x List.mem_cons_self
    obtain ⟨h1, h2, h3⟩ := fits_all (l := r) fun d m => h d (.tail _ m)
    refine ⟨by simp [okBs, hx.ok, h1], ?_, ?_⟩
    · simp only [PyData.depthAll]; have := hx.dp; omega
    · simp only [szBs, List.length_cons, Nat.succ_mul]; have := hx.sz; omega
theorem fit_tup {k z n : Nat} {l : List D} (h : ∀ d ∈ l, Fit k z d) (hn : l.length ≤ n) : Fit (k + 1) (3 + n * (z + 2)) (.tuple l) := by
  obtain ⟨h1, h2, h3⟩ := fits_all h
  refine ⟨by simpa [okB] using h1, by simp only [PyData.depth]; omega, ?_⟩
  simp only [szB]
  have := Nat.mul_le_mul_right (z + 2) hn
  omega
theorem fit_lst {k z n : Nat} {l : List D} (h : ∀ d ∈ l, Fit k z d) (hn : l.length ≤ n) : Fit (k + 1) (3 + n * (z + 2)) (.list l) := by
  obtain ⟨h1, h2, h3⟩ := fits_all h
  refine ⟨by simpa [okB] using h1, by simp only [PyData.depth]; omega, ?_⟩
  simp only [szB]
  have := Nat.mul_le_mul_right (z + 2) hn
  omega
/-- a value of the law -/
abbrev Val5 (d : D) : Prop := Fit 5 1000000 d
theorem Val5.repr {d : D} (h : Val5 d) : fReprB d = some (.str d.shown) := by
  obtain ⟨h1, h2, _, h4⟩ := okB_all d h.ok
  have := h.sz
  show (if _ then _ else _) = _
  rw [if_pos ⟨h1, Nat.le_trans h.dp (by decide), h2, by rw [sizeLine_eq]; omega⟩]
theorem Val5.sane {d : D} (h : Val5 d) : sane d = true := (okB_all d h.ok).2.2.1
theorem Val5.okD {d : D} (h : Val5 d) : okD d = true := by
  unfold DS.okD
  rw [(okB_all d h.ok).2.1, Bool.true_and]
  exact decide_eq_true (Nat.le_trans h.dp (by decide))
/-! ### atoms -/
abbrev Atom (d : D) : Prop := Fit 1 3400 d
theorem atom_int {i : Int} (h : i.natAbs.log2 < 3300) : Atom (.int i) := ⟨by simpa [okB] using h, by simp [PyData.depth], by simp [szB]⟩
theorem log_under {i : Int} {b : Nat} (hb : b ≤ 3300) (h1 : -(2 ^ b) < i) (h2 : i < 2 ^ b) : i.natAbs.log2 < 3300 := by
  by_cases h0 : i.natAbs = 0
  · rw [h0]; decide
  · refine Nat.lt_of_lt_of_le ((Nat.log2_lt h0).mpr ?_) hb
    have e : ((2 ^ b : Nat) : Int) = (2 : Int) ^ b := by push_cast; rfl
    omega
theorem atom_small {i : Int} (h1 : -(2 ^ 128) < i) (h2 : i < 2 ^ 128) : Atom (.int i) := atom_int (log_under (b := 128) (by decide) h1 h2)
theorem atom_none : Atom .none := ⟨rfl, by simp [PyData.depth], by simp [szB]⟩
theorem atom_bool (b : Bool) : Atom (.bool b) := ⟨rfl, by simp [PyData.depth], by simp [szB]⟩
theorem atom_str {s : Str} (h : s.length ≤ 100) (h2 : s.cps.toList.all (fun c => decide (c < 16 ^ 8)) = true) : Atom (.str s) := ⟨by simp [okB, h, h2], by simp [PyData.depth], by simp only [szB]; omega⟩
theorem nameOk_atom {s : Str} (h : nameOk s = true) : Atom (.str s) := by
  refine atom_str (Nat.le_trans (nameOk_len h) (by decide)) ?_
  simp only [nameOk, Bool.and_eq_true] at h
  rw [List.all_eq_true] at h ⊢
  intro c hc
  have := h.2 c hc
  simp only [letter, Bool.and_eq_true, decide_eq_true_eq] at this
  exact decide_eq_true (by omega)
theorem enc_atoms {a : Gr} (h : okGr a = true) : ∀ d ∈ ([.int a.t, .str a.g, .str a.k, .int a.l, .int a.p] : List D), Atom d := by
  obtain ⟨⟨h0, h0'⟩, h1, h2, h3, ⟨h4, h4'⟩, h5, h5'⟩ := okGr_iff h
  have hb : big < 2 ^ 128 := by decide
  intro d hd
  simp only [List.mem_cons, List.not_mem_nil, or_false] at hd
  rcases hd with rfl | rfl | rfl | rfl | rfl
  · exact atom_small (by omega) (by omega)
  · exact nameOk_atom h1
  · exact nameOk_atom h2
  · exact atom_small (by omega) (by omega)
  · exact atom_small (by omega) (by omega)
theorem enc_fit {a : Gr} (h : okGr a = true) : Fit 2 20415 (enc a) := (fit_tup (n := 6) (enc_atoms h) (by simp)).le (by decide) (by decide)
/-- what grant_error says of nothing wrong: a grant -/
theorem gerr_none {d : D} (h : gerr d = .none) : ∃ a, d = enc a ∧ okGr a = true := by
  cases d with
  | tuple l =>
    match l, h with
    | [t, g, k, l, q], h =>
      rw [gerr5] at h
      split at h
      · cases h
      rename_i c1
      split at h
      · cases h
      rename_i c2
      split at h
      · cases h
      rename_i c3
      split at h
      · cases h
      rename_i c4
      split at h
      · cases h
      rename_i c5
      split at h
      · cases h
      rename_i c6
      simp only [Bool.not_eq_false] at c1 c2 c3 c5 c6
      obtain ⟨sg, rfl⟩ := isName_str c2
      obtain ⟨sk, rfl⟩ := isName_str c3
      cases t <;> simp only [within] at c1 <;> first
        | (exact absurd c1 Bool.false_ne_true)
        | skip
      cases l <;> simp only [within] at c5 <;> first
        | (exact absurd c5 Bool.false_ne_true)
        | skip
      cases q <;> simp only [within] at c6 <;> first
        | (exact absurd c6 Bool.false_ne_true)
        | skip
      rename_i t l q
      refine ⟨⟨t, sg, sk, l, q⟩, rfl, ?_⟩
      have e : (sg == sk) = false := by
        have : PyData.eqv (.str sg) (.str sk) = false := by simpa using c4
        simpa only [PyData.eqv] using this
      simp only [Bool.and_eq_true, decide_eq_true_eq] at c1 c5 c6
      have n1 : nameOk sg = true := c2
      have n2 : nameOk sk = true := c3
      simp [okGr, c1.1, c1.2, n1, n2, e, c5.1, c5.2, c6.1, c6.2]
    | [], h => cases h
    | [_], h => cases h
    | [_, _], h => cases h
    | [_, _, _], h => cases h
    | [_, _, _, _], h => cases h
    | _ :: _ :: _ :: _ :: _ :: _ :: _, h => cases h
  | none => cases h
  | bool _ => cases h
  | int _ => cases h
  | str _ => cases h
  | list _ => cases h
  | dict _ => cases h
/-- a reason -/
def isR (d : D) : Prop := d = .none ∨ ∃ s : Str, d = .tuple [.str s]
theorem gerr_r (d : D) : isR (gerr d) := by
  cases d with
  | tuple l =>
    match l with
    | [t, g, k, l, q] =>
      rw [gerr5]
      repeat' split
      all_goals first
        | exact .inl rfl
        | exact .inr ⟨_, rfl⟩
    | [] => exact .inr ⟨_, rfl⟩
    | [_] => exact .inr ⟨_, rfl⟩
    | [_, _] => exact .inr ⟨_, rfl⟩
    | [_, _, _] => exact .inr ⟨_, rfl⟩
    | [_, _, _, _] => exact .inr ⟨_, rfl⟩
    | _ :: _ :: _ :: _ :: _ :: _ :: _ => exact .inr ⟨_, rfl⟩
  | none => exact .inr ⟨_, rfl⟩
  | bool _ => exact .inr ⟨_, rfl⟩
  | int _ => exact .inr ⟨_, rfl⟩
  | str _ => exact .inr ⟨_, rfl⟩
  | list _ => exact .inr ⟨_, rfl⟩
  | dict _ => exact .inr ⟨_, rfl⟩
theorem isR.okD {d : D} (h : isR d) : okD d = true := by
  rcases h with rfl | ⟨s, rfl⟩
  · rfl
  · unfold DS.okD
    have e1 : (PyData.tuple [.str s]).plain = true := by simp [PyData.plain, PyData.plainAll]
    have e2 : (PyData.tuple [.str s]).depth ≤ 64 := by simp [PyData.depth, PyData.depthAll]
    rw [e1, decide_eq_true e2]; rfl
theorem isR.eqv {d : D} (h : isR d) : PyData.eqv d d = true := by
  rcases h with rfl | ⟨s, rfl⟩
  · rfl
  · simp [PyData.eqv, PyData.eqvAll]
theorem for_inv5 {gd : GD} {body : MS} {De : DEnds} (I : Nat → Env → Nat → Prop) (ds : List D) {ρ : Env} {n : Nat}
    (turn : ∀ (i : Nat) (d : D) (ρ : Env) (n : Nat) (X : Env → Nat → Prop), ds[i]? = some d → I i ρ n → (∀ ρ' n', I (i + 1) ρ' n' → X ρ' n') → ∃ ρ1, gd d ρ = some ρ1 ∧ body { De with nx := X, ct := X, bk := De.nx } ρ1 n)
    (h0 : I 0 ρ n) (hd : ∀ ρ n, I ds.length ρ n → De.nx ρ n) : forW gd body De ds ρ n := by
  have go : ∀ (r : List D) (i : Nat) (ρ : Env) (n : Nat), ds.drop i = r → i ≤ ds.length → I i ρ n → forW gd body De r ρ n := by
    intro r
    induction r with
    | nil =>
      intro i ρ n e hi h
      have : ds.length ≤ i := List.drop_eq_nil_iff.mp e
      have : i = ds.length := by omega
      subst this
      exact hd ρ n h
    | cons d r ih =>
      intro i ρ n e hi h
      have hlt : i < ds.length := by
        by_cases z : i < ds.length
        · exact z
        · rw [List.drop_eq_nil_iff.mpr (by omega)] at e; cases e
      have e2 := List.drop_eq_getElem_cons hlt
      rw [e] at e2
      injection e2 with e3 e4
      obtain ⟨ρ1, g, b⟩ := turn i d ρ n (forW gd body De r) (by rw [List.getElem?_eq_getElem hlt, e3]) h fun ρ' n' q => ih (i + 1) ρ' n' e4.symm (by omega) q
      exact ⟨ρ1, g, b⟩
  exact go ds 0 ρ n rfl (Nat.zero_le _) h0
end DS

/-! P6: law k01: the program's supports that may raise, what the law expects, great numbers, words, grants. -/
namespace DS
open PySem L2
local macro_rules | `(tactic| walk_at "ev") => `(tactic| simp only [mRaise, mLof, mTof, mBack, mCatT, mSlT, mSetI, mNoP, mPart, mCat, mSeq, mRet, mVar, mVarQ, slD, mC, m1, m2, mT, mNot, mAnd, mOr, mAndV, mOrV, mNotV, mIf, mChain, mNil, mCons, mSrc, mTup, mLst, mCall, mIx, mL, mIs, mIfS, mNext, mSet, mOwn, mRetO, mRetN, mExp, mPar, mNev, datAll, gdName, gdTup, setAll, fI, fIc, fNeg, fLen, fInt, fAbs, fIsN, env0, wipeR,
  is_int_NoneType, is_int_bool, is_int_int, is_int_str, is_int_list, is_int_tuple, is_bool_NoneType, is_bool_bool, is_bool_int, is_bool_str, is_bool_list, is_bool_tuple, is_str_NoneType, is_str_bool, is_str_int, is_str_str, is_str_list, is_str_tuple, is_tuple_NoneType, is_tuple_bool, is_tuple_int, is_tuple_str, is_tuple_list, is_tuple_tuple, is_list_NoneType, is_list_bool, is_list_int, is_list_str, is_list_list, is_list_tuple,
  List.map, List.length_cons, List.length_nil, List.getElem?_cons_zero, List.getElem?_cons_succ, List.set_cons_zero, List.set_cons_succ, List.replicate, List.append_assoc, List.cons_append, List.nil_append, Option.map_some, Option.some.injEq, Sl.dat.injEq, Sl.own.injEq, exists_eq_left', exists_eq_left, exists_and_left, exists_and_right, true_and, and_true, Bool.true_eq_false, if_true, if_false, reduceIte, Bool.false_eq_true, Bool.not_true, Bool.not_false, PyData.bool.injEq, PyData.int.injEq, PyData.str.injEq, PyData.tuple.injEq, PyData.list.injEq, Nat.reduceAdd, Nat.reduceSub, Option.map_none, decide_eq_true_eq, ex_if, eq_ints, eq_strs, eq_bools, ix0, ix1, ix2, ix3, ix4, lx0, lx1, lx2, lx3])
/-! ### supports, that may raise -/
def g_supports_x : G := fun as n P R => ∃ x y : D, as = [.dat x, .dat y] ∧ sane x = true ∧ sane y = true ∧ (gerr x ≠ .none → R ⟨0, [gerr x]⟩ n) ∧ (gerr x = .none → gerr y ≠ .none → R ⟨0, [gerr y]⟩ n) ∧ (gerr x = .none → gerr y = .none → ∀ b, P (.bool b) n)
def N_supports_x : List Str := ["first", "second", "value", "reason"]
def b_supports_x_1 : MS := (mSeq (mSet (mCall g_grant_error 1 (mCons (mVar 2) mNil)) (gdName 3))
    (mIfS (mT (m2 (fIsN true) (mVarQ 3) (mC .none))) (mRaise 0 (mVar 3)) mNext))
def m_supports_x : MS := (mSeq (mFor (mItemsT (mTup (mCons (mVar 0) (mCons (mVar 1) mNil)))) (gdName 2) b_supports_x_1)
    (mRet (mCall g_backs 2 (mCons (mVar 0) (mCons (mVar 1) mNil)))))
theorem t_supports_x {De : DEnds} {x y d : D} {s3 : Sl} {n : Nat} (hs : sane d = true) (h1 : gerr d ≠ .none → De.ex ⟨0, [gerr d]⟩ n) (h2 : gerr d = .none → De.nx [.dat x, .dat y, .dat d, .dat .none] n) : b_supports_x_1 De [.dat x, .dat y, .dat d, s3] n := by
  unfold b_supports_x_1
  walk_at "ev"
  refine gF_at (ds := [d]) (if_pos hs) ?_
  rcases gerr_r d with e | ⟨s, e⟩
  · rw [e]
    walk_at "ev"
    exact h2 e
  · have h1' := h1 (by rw [e]; exact fun z => by cases z)
    rw [e] at h1' ⊢
    walk_at "ev"
    exact h1'
theorem pr_supports_x (as n P R) (hl : as.length = 2) (h : g_supports_x as n P R) : m_supports_x (ends P R) (env0 as N_supports_x.length) n := by
  obtain ⟨x, y, rfl, hx, hy, h1, h2, h3⟩ := h
  show m_supports_x (ends P R) (env0 [.dat x, .dat y] 4) n
  unfold m_supports_x mFor mItemsT
  walk_at "ev"
  refine ⟨line2, _, rfl, ?_⟩
  refine t_supports_x hx h1 fun ex => ?_
  refine ⟨_, rfl, ?_⟩
  refine t_supports_x hy (h2 ex) fun ey => ?_
  obtain ⟨a, rfl, ha⟩ := gerr_none ex
  obtain ⟨b, rfl, hb⟩ := gerr_none ey
  walk_at "ev"
  show ∃ d, _ ∧ ∃ d_1, _ ∧ g_backs [Sl.dat d, Sl.dat d_1] n P R
  exact ⟨_, rfl, _, rfl, gF_at (f := f_backs) (ds := [enc a, enc b]) (z := .bool (bk a b)) rfl (h3 ex ey _)⟩
/-! ### what the law expects -/
abbrev g_law_is_within : G := gF f_within
def N_law_is_within : List Str := ["value", "least", "most"]
def m_law_is_within : MS := (mRet (mAndV (mIs "int" (mVarQ 0)) (mAndV (mNotV (mIs "bool" (mVarQ 0))) (mAndV (m2 fGe (mVarQ 0) (mVarQ 1)) (m2 fLe (mVarQ 0) (mVarQ 2))))))
theorem pr_law_is_within (as n P R) (hl : as.length = 3) (h : g_law_is_within as n P R) : m_law_is_within (ends P R) (env0 as N_law_is_within.length) n := by
  obtain ⟨ds, z, rfl, e, p⟩ := h
  match ds, e with
  | [d, .int lo, .int hi], e =>
    obtain ⟨c, rfl⟩ := ite_some' e
    show m_law_is_within (ends P R) (env0 [.dat d, .dat (.int lo), .dat (.int hi)] 3) n
    unfold m_law_is_within
    cases d <;> first
      | (cases c; done)
      | (walk_at "ev"; exact p)
      | skip
    rename_i i _
    walk_at "ev"
    by_cases h1 : lo ≤ i
    · rw [if_pos h1]; simpa [within, h1] using p
    · rw [if_neg h1]; simpa [within, h1] using p
/-! ### a word -/
theorem alpha_is : ("abcdefghijklmnopqrstuvwxyz" : Str).cps.toList = List.range' 97 26 := by decide +kernel
theorem alpha_mem (c : Nat) : decide (c ∈ ("abcdefghijklmnopqrstuvwxyz" : Str).cps.toList) = letter c := by
  rw [alpha_is]
  by_cases h : 97 ≤ c ∧ c ≤ 122
  · have : c ∈ List.range' 97 26 := List.mem_range'_1.mpr ⟨h.1, by omega⟩
    simp [letter, this, h.1, h.2]
  · have : ¬ c ∈ List.range' 97 26 := fun z => by
      have := List.mem_range'_1.mp z
      exact h ⟨this.1, by omega⟩
    simp only [letter, this, decide_false]
    by_cases h1 : 97 ≤ c
    · have h2 : ¬ c ≤ 122 := fun z => h ⟨h1, z⟩
      simp [h2]
    · simp [h1]
theorem flat_ok {l : List D} (h : ∀ d ∈ l, ∃ s, d = .str s) : PyData.plainAll l = true ∧ PyData.depthAll l ≤ 1 := by
  induction l with
  | nil => exact ⟨rfl, by simp [PyData.depthAll]⟩
  | cons x r ih =>
    obtain ⟨s, rfl⟩ := h _ List.mem_cons_self
    obtain ⟨i1, i2⟩ := ih fun d m => h d (.tail _ m)
    exact ⟨by simp [PyData.plainAll, PyData.plain, i1], by simp only [PyData.depthAll, PyData.depth]; omega⟩
theorem okD_flat {l : List D} (h : ∀ d ∈ l, ∃ s, d = .str s) : okD (.list l) = true := by
  obtain ⟨h1, h2⟩ := flat_ok h
  unfold okD
  have e : (PyData.list l).depth ≤ 64 := by simp only [PyData.depth]; omega
  have e1 : (PyData.list l).plain = true := by simpa [PyData.plain] using h1
  rw [e1, decide_eq_true e]; rfl
abbrev g_law_is_word : G := gF f_name
def N_law_is_word : List Str := ["value", "letter"]
def m_law_is_word : MS := (mSeq (mIfS (mOr (mNot (mT (mIs "str" (mVarQ 0)))) (mOr (mT (m2 fLt (m1 fLen (mVarQ 0)) (mC (.int 1)))) (mT (m2 fGt (m1 fLen (mVarQ 0)) (mC (.int 8)))))) (mRet (mC (.bool false))) mNext)
    (mRet (m2 (fEq false) (mL (mComp (mSigns (mVar 0)) (gdName 1) [1] (mT (m2 (fSign true) (mVarQ 1) (mC (.str "abcdefghijklmnopqrstuvwxyz")))) (mVar 1))) (mL (mLst mNil)))))
def badSign : D → Bool
  | .str x => !(x.cps.toList.all letter)
  | _ => false
theorem pr_law_is_word (as n P R) (hl : as.length = 1) (h : g_law_is_word as n P R) : m_law_is_word (ends P R) (env0 as N_law_is_word.length) n := by
  obtain ⟨ds, z, rfl, e, p⟩ := h
  match ds, e with
  | [d], e =>
    obtain ⟨c, rfl⟩ := ite_some' e
    show m_law_is_word (ends P R) (env0 [.dat d] 2) n
    unfold m_law_is_word
    cases d with
    | dict _ => cases c
    | str s =>
      have hs : s.length ≤ sizeLine := of_decide_eq_true c
      walk_at "ev"
      refine ⟨hs, ?_⟩
      by_cases h1 : (s.length : Int) < 1
      · rw [if_pos h1]
        have h3 : ¬ 1 ≤ s.length := by omega
        simpa [isName, h3] using p
      · rw [if_neg h1]
        refine ⟨hs, ?_⟩
        by_cases h2 : 8 < (s.length : Int)
        · rw [if_pos h2]
          have h4 : ¬ s.length ≤ 8 := by omega
          simpa [isName, h4] using p
        · rw [if_neg h2]
          unfold mComp mSigns
          walk_at "ev"
          refine comp_pure badSign (fun d => d) _ _ (fun d hd => ⟨_, rfl, fun Q q => ?_⟩) (fun d hd ρ1 e _ Q q => ?_) ?_ ?_
          · unfold signs at hd
            obtain ⟨c, _, rfl⟩ := List.mem_map.mp hd
            walk_at "ev"
            refine ⟨.bool (!letter c), ?_, ?_⟩
            · show some (PyData.bool (!decide (c ∈ ("abcdefghijklmnopqrstuvwxyz" : Str).cps.toList))) = _
              rw [alpha_mem]
            · have q' : Q (!letter c) n := by simpa [badSign] using q
              exact ⟨_, rfl, q'⟩
          · cases e
            walk_at "ev"
            exact q
          · simp only [List.length_nil, signs, List.length_map, Array.length_toList]
            have : s.cps.size = s.length := rfl
            omega
          · have hm : List.map (fun d => d) (List.filter badSign (signs s)) = List.filter badSign (signs s) := List.map_id' _
            have fl : ∀ d ∈ List.filter badSign (signs s), ∃ x, d = .str x := fun d hd => by
              have := (List.mem_filter.mp hd).1
              unfold signs at this
              obtain ⟨c, _, rfl⟩ := List.mem_map.mp this
              exact ⟨_, rfl⟩
            refine ⟨Nat.zero_le _, .bool (s.cps.toList.all letter), ?_, ?_⟩
            · rw [List.nil_append, hm]
              show (if _ then _ else _) = _
              rw [if_pos ⟨okD_flat fl, okD_flat (fun _ z => nomatch z)⟩]
              have e1 : PyData.eqv (.list (List.filter badSign (signs s))) (.list []) = (List.filter badSign (signs s)).isEmpty := by
                cases List.filter badSign (signs s) <;> simp [PyData.eqv, PyData.eqvAll]
              rw [if_neg Bool.false_ne_true, e1]
              congr 2
              cases ha : s.cps.toList.all letter with
              | true =>
                have : List.filter badSign (signs s) = [] := by
                  rw [List.filter_eq_nil_iff]
                  intro d hd
                  unfold signs at hd
                  obtain ⟨c, hc, rfl⟩ := List.mem_map.mp hd
                  have := List.all_eq_true.mp ha c hc
                  simp [badSign, this]
                rw [this]; rfl
              | false =>
                obtain ⟨c, hc, hl⟩ := List.all_eq_false.mp ha
                have : PyData.str ⟨#[c]⟩ ∈ List.filter badSign (signs s) := by
                  refine List.mem_filter.mpr ⟨?_, ?_⟩
                  · unfold signs; exact List.mem_map.mpr ⟨c, hc, rfl⟩
                  · simpa [badSign] using hl
                cases hq : List.filter badSign (signs s) with
                | nil => rw [hq] at this; cases this
                | cons _ _ => rfl
            · have h3 : 1 ≤ s.length := by omega
              have h4 : s.length ≤ 8 := by omega
              simpa [isName, h3, h4] using p
    | _ =>
      walk_at "ev"
      exact p

/-! ### what is expected -/
theorem big_eq : (10 : Int) ^ Int.toNat 30 = big := by decide +kernel
theorem big_neg : (0 : Int) - 10 ^ Int.toNat 30 = -big := by decide +kernel
abbrev g_law_expected : G := gF f_gerr
def N_law_expected : List Str := ["value"]
def m_law_expected : MS := (mSeq (mIfS (mOr (mNot (mT (mIs "tuple" (mVarQ 0)))) (mT (m2 (fEq true) (m1 fLen (mVarQ 0)) (mC (.int 5))))) (mRet (mTup (mCons (mC (.str "grant")) mNil))) mNext)
    (mSeq (mIfS (mNot (mT (mCall g_law_is_within 3 (mCons (mIx (mVarQ 0) (mC (.int 0))) (mCons (m2 fSub (mC (.int 0)) (m2 fPow (mC (.int 10)) (mC (.int 30)))) (mCons (m2 fPow (mC (.int 10)) (mC (.int 30))) mNil)))))) (mRet (mTup (mCons (mC (.str "time")) mNil))) mNext)
    (mSeq (mIfS (mNot (mT (mCall g_law_is_word 1 (mCons (mIx (mVarQ 0) (mC (.int 1))) mNil)))) (mRet (mTup (mCons (mC (.str "giver")) mNil))) mNext)
    (mSeq (mIfS (mNot (mT (mCall g_law_is_word 1 (mCons (mIx (mVarQ 0) (mC (.int 2))) mNil)))) (mRet (mTup (mCons (mC (.str "taker")) mNil))) mNext)
    (mSeq (mIfS (mT (m2 (fEq false) (mIx (mVarQ 0) (mC (.int 1))) (mIx (mVarQ 0) (mC (.int 2))))) (mRet (mTup (mCons (mC (.str "same")) mNil))) mNext)
    (mSeq (mIfS (mNot (mT (mCall g_law_is_within 3 (mCons (mIx (mVarQ 0) (mC (.int 3))) (mCons (mC (.int 1)) (mCons (mC (.int 9)) mNil)))))) (mRet (mTup (mCons (mC (.str "level")) mNil))) mNext)
    (mRet (mIx (mL (mLst (mCons (mTup (mCons (mC (.str "passes")) mNil)) (mCons (mC .none) mNil)))) (m1 fInt (mCall g_law_is_within 3 (mCons (mIx (mVarQ 0) (mC (.int 4))) (mCons (mC (.int 0)) (mCons (mC (.int 20)) mNil)))))))))))))
theorem pr_law_expected (as n P R) (hl : as.length = 1) (h : g_law_expected as n P R) : m_law_expected (ends P R) (env0 as N_law_expected.length) n := by
  obtain ⟨ds, z, rfl, e, p⟩ := h
  match ds, e with
  | [d], e =>
    obtain ⟨c, rfl⟩ := ite_some' e
    show m_law_expected (ends P R) (env0 [.dat d] 1) n
    unfold m_law_expected
    cases d with
    | dict _ => cases c
    | tuple l =>
      match l, c, p with
      | [t, g, k, l, q], c, p =>
        simp only [sane, saneAll, Bool.and_eq_true] at c
        obtain ⟨c1, c2, c3, c4, c5, _⟩ := c
        walk_at "ev"
        rw [if_neg (by decide)]
        rw [big_neg, big_eq]
        refine ⟨by decide, by decide, ?_⟩
        refine gF_at (ds := [t, .int (-big), .int big]) (if_pos (sane_pl c1)) ⟨_, rfl, ?_⟩
        rw [gerr5] at p
        cases h1 : within t (-big) big with
        | false => rw [if_pos h1] at p; exact ⟨line1, p⟩
        | true =>
        rw [if_neg (by rw [h1]; decide)] at p
        refine iteF ?_
        refine gF_at (ds := [g]) (if_pos (sane_pl c2)) ⟨_, rfl, ?_⟩
        cases h2 : isName g with
        | false => rw [if_pos h2] at p; exact ⟨line1, p⟩
        | true =>
        rw [if_neg (by rw [h2]; decide)] at p
        refine iteF ?_
        refine gF_at (ds := [k]) (if_pos (sane_pl c3)) ⟨_, rfl, ?_⟩
        cases h3 : isName k with
        | false => rw [if_pos h3] at p; exact ⟨line1, p⟩
        | true =>
        rw [if_neg (by rw [h3]; decide)] at p
        refine iteF ?_
        obtain ⟨x, rfl⟩ := isName_str h2
        obtain ⟨y, rfl⟩ := isName_str h3
        refine ⟨_, eq_strs _ _ _, _, rfl, ?_⟩
        have ev : PyData.eqv (.str x) (.str y) = (x == y) := by simp [PyData.eqv]
        rw [ev] at p
        cases h4 : x == y with
        | true => rw [if_pos h4] at p; exact ⟨line1, p⟩
        | false =>
        rw [if_neg (by rw [h4]; decide)] at p
        refine iteF ?_
        refine gF_at (ds := [l, .int 1, .int 9]) (if_pos (sane_pl c4)) ⟨_, rfl, ?_⟩
        cases h5 : within l 1 9 with
        | false => rw [if_pos h5] at p; exact ⟨line1, p⟩
        | true =>
        rw [if_neg (by rw [h5]; decide)] at p
        refine iteF ?_
        refine ⟨line1, line2, ?_⟩
        refine gF_at (ds := [q, .int 0, .int 20]) (if_pos (sane_pl c5)) ⟨_, rfl, ?_⟩
        cases h6 : within q 0 20 with
        | false => rw [if_pos h6] at p; exact ⟨_, lx0 _ _, p⟩
        | true =>
        rw [if_neg (by rw [h6]; decide)] at p
        exact ⟨_, lx1 _ _ _, p⟩
      | [], c, p => walk_at "ev"; exact ⟨line1, p⟩
      | [_], c, p => walk_at "ev"; exact ⟨line1, p⟩
      | [_, _], c, p => walk_at "ev"; exact ⟨line1, p⟩
      | [_, _, _], c, p => walk_at "ev"; exact ⟨line1, p⟩
      | [_, _, _, _], c, p => walk_at "ev"; exact ⟨line1, p⟩
      | _ :: _ :: _ :: _ :: _ :: _ :: r, c, p =>
        walk_at "ev"
        rw [if_pos (by simp; omega)]
        exact ⟨line1, p⟩
    | _ =>
      walk_at "ev"
      exact ⟨line1, p⟩
/-! ### great numbers -/
def great : Int := 10 ^ 960
def g_law_great : G := fun as n P _ => as = [] ∧ P (.int great) n
def N_law_great : List Str := ["great", "k"]
def b_law_great_1 : MS := (mSet (m2 fMulX (mVarQ 0) (m2 fPow (mC (.int 10)) (mC (.int 60)))) (gdName 0))
def m_law_great : MS := (mSeq (mSet (m2 fPow (mC (.int 10)) (mC (.int 60))) (gdName 0))
    (mSeq (mFor (mRng1 (mC (.int 15))) (gdName 1) b_law_great_1)
    (mRet (mVar 0))))
theorem mulx_bits : ∀ i : Nat, i < 15 → (Builtin.Int.intBits ((10 : Int) ^ (60 * (i + 1))) : Int) + (Builtin.Int.intBits ((10 : Int) ^ Int.toNat 60) : Int) ≤ 134217728 := by decide +kernel
theorem mulx_pow (i : Nat) : (10 : Int) ^ (60 * (i + 1)) * 10 ^ Int.toNat 60 = 10 ^ (60 * (i + 1 + 1)) := by
  rw [← Int.pow_add]
  congr 1
theorem pr_law_great (as n P R) (hl : as.length = 0) (h : g_law_great as n P R) : m_law_great (ends P R) (env0 as N_law_great.length) n := by
  obtain ⟨rfl, p⟩ := h
  show m_law_great (ends P R) (env0 [] 2) n
  unfold m_law_great mFor mRng1
  walk_at "ev"
  refine ⟨by decide, by decide, ?_⟩
  refine for_inv5 (fun i ρ n' => n' = n ∧ ∃ s, ρ = [.dat (.int (10 ^ (60 * (i + 1)))), s]) (rngD 0 (Int.toNat 15)) (fun i d ρ n' X hd h hX => ?_) ⟨rfl, _, rfl⟩ (fun ρ n' h => ?_)
  · obtain ⟨hn', s, e⟩ := h
    subst e hn'
    have hi : i < 15 := by
      have := (List.getElem?_eq_some_iff.mp hd).1
      simpa [rngD] using this
    refine ⟨_, rfl, ?_⟩
    unfold b_law_great_1
    walk_at "ev"
    refine ⟨by decide, mulx_bits i hi, hX _ _ ⟨rfl, .dat d, ?_⟩⟩
    rw [mulx_pow]
  · obtain ⟨e1, s, e2⟩ := h
    subst e1 e2
    exact ⟨_, rfl, p⟩
/-! ### words -/
def g_law_word : G := fun as n P _ => ∃ k : Nat, as = [.src, .dat (.int (k : Int))] ∧ k ≤ 8 ∧ 1 ≤ k ∧ k ≤ n ∧ ∀ s : Str, s.length = k → nameOk s = true → P (.str s) (n - k)
def N_law_word : List Str := ["source", "size", "k"]
def m_law_word : MS := (mRet (mJoin (mC (.str "")) (mL (mComp (mRng1 (mVar 1)) (gdName 2) [2] mYes (mIx (mC (.str "abcdefghijklmnopqrstuvwxyz")) (mCall g_law_draw 2 (mSrc 0 (mCons (mC (.int 26)) mNil))))))))
theorem alpha_at {k : Int} (h0 : 0 ≤ k) (h1 : k < 26) : ∃ c : Nat, letter c = true ∧ fIx (.str "abcdefghijklmnopqrstuvwxyz") (.int k) = some (.str ⟨#[c]⟩) := by
  have hl : ("abcdefghijklmnopqrstuvwxyz" : Str).length ≤ sizeLine := line_small (by decide)
  refine ⟨97 + k.toNat, ?_, ?_⟩
  · simp only [letter, Bool.and_eq_true, decide_eq_true_eq]; omega
  · have e0 : fIx (.str "abcdefghijklmnopqrstuvwxyz") (.int k) = if ("abcdefghijklmnopqrstuvwxyz" : Str).length ≤ sizeLine then (atI ("abcdefghijklmnopqrstuvwxyz" : Str).cps.toList k).map fun c => PyData.str ⟨#[c]⟩ else none := rfl
    rw [e0, if_pos hl, alpha_is]
    unfold atI ixN
    rw [if_pos h0, List.length_range', if_pos (by omega)]
    show ((List.range' 97 26)[k.toNat]?).map _ = _
    rw [List.getElem?_range' (by omega)]
    simp
theorem comp_word {P : List D → Nat → Prop} {ρ : Env} (hρ : ∃ s t, ρ = [.src, s, t]) : ∀ (ds : List D) (acc : List Nat) (n : Nat), ds.length ≤ n → acc.length + ds.length ≤ 100 → (∀ c ∈ acc, letter c = true) →
    (∀ l : List Nat, l.length = acc.length + ds.length → (∀ c ∈ l, letter c = true) → P (l.map fun c => .str ⟨#[c]⟩) (n - ds.length)) →
    compW (gdName 2) mYes (mIx (mC (.str "abcdefghijklmnopqrstuvwxyz")) (mCall g_law_draw 2 (mSrc 0 (mCons (mC (.int 26)) mNil)))) ρ P ds (acc.map fun c => .str ⟨#[c]⟩) n
  | [], acc, n, _, _, ha, p => by
    have := p acc (by simp) ha
    simpa [compW] using this
  | d :: ds, acc, n, h1, h2, ha, p => by
    obtain ⟨s, t, rfl⟩ := hρ
    rw [List.length_cons] at h1 h2
    refine ⟨_, rfl, ?_⟩
    simp only [mYes, if_true]
    walk_at "ev"
    refine draw_at (by decide) (by decide) (by show 0 < n; omega) fun k k0 k1 => ?_
    obtain ⟨c, hc, e⟩ := alpha_at k0 k1
    refine ⟨_, e, ?_, ?_⟩
    · rw [List.length_map]; exact Nat.lt_of_lt_of_le (by omega) (line_small (n := 1000) (by decide))
    · have go := comp_word (P := P) ⟨s, t, rfl⟩ ds (acc ++ [c]) (n - 1) (by omega) (by rw [List.length_append, List.length_singleton]; omega) (fun x hx => by
          rcases List.mem_append.mp hx with h | h
          · exact ha x h
          · rw [List.mem_singleton.mp h]; exact hc) (fun l hl hx => by
          have := p l (by rw [hl, List.length_append, List.length_singleton, List.length_cons]; omega) hx
          rw [List.length_cons] at this
          have e : n - (ds.length + 1) = n - 1 - ds.length := by omega
          rw [e] at this
          exact this)
      simpa [mIx] using go
theorem txts_signs : ∀ l : List Nat, txts (l.map fun c => PyData.str ⟨#[c]⟩) = some (l.map fun c => (⟨#[c]⟩ : Str))
  | [] => rfl
  | c :: l => by
    show (txts (l.map fun c => PyData.str ⟨#[c]⟩)).map _ = _
    rw [txts_signs l]; rfl
theorem joinL_signs : ∀ l : List Nat, TL.joinL [] (l.map fun c => [c]) = l
  | [] => rfl
  | [_] => rfl
  | a :: b :: r => by
    show [a] ++ ([] ++ TL.joinL [] ((b :: r).map fun c => [c])) = _
    rw [joinL_signs (b :: r)]; rfl
theorem join_signs (l : List Nat) : (Txt.join ("" : Str) (l.map fun c => (⟨#[c]⟩ : Str))).cps.toList = l := by
  have e := TL.tl_join ("" : Str) (l.map fun c => (⟨#[c]⟩ : Str))
  rw [← TL.join_eq, List.map_map] at e
  have e2 : (TL.tl ∘ fun c => (⟨#[c]⟩ : Str)) = fun c => [c] := rfl
  rw [e2] at e
  exact e.trans (joinL_signs l)
theorem sum_ones (l : List Nat) : ((l.map fun c => (⟨#[c]⟩ : Str)).map fun x => x.length).sum = l.length := by
  induction l with
  | nil => rfl
  | cons a r ih =>
    simp only [List.map_cons, List.sum_cons, List.length_cons, ih]
    have : (⟨#[a]⟩ : Str).length = 1 := rfl
    omega
theorem pr_law_word (as n P R) (hl : as.length = 2) (h : g_law_word as n P R) : m_law_word (ends P R) (env0 as N_law_word.length) n := by
  obtain ⟨k, rfl, h1, h2, h3, p⟩ := h
  show m_law_word (ends P R) (env0 [.src, .dat (.int (k : Int))] 3) n
  unfold m_law_word mJoin mComp mRng1
  walk_at "ev"
  have hr : (rngD 0 (Int.toNat (k : Int))).length = k := by simp [rngD]
  refine ⟨⟨by omega, by omega⟩, ?_⟩
  refine comp_word ⟨_, _, rfl⟩ _ [] n (by rw [hr]; exact h3) (by rw [hr, List.length_nil]; omega) (fun c z => nomatch z) fun l hl hx => ?_
  rw [hr, List.length_nil, Nat.zero_add] at hl
  have hc := join_signs l
  have hlen : (Txt.join ("" : Str) (l.map fun c => (⟨#[c]⟩ : Str))).length = k := by
    have e : (Txt.join ("" : Str) (l.map fun c => (⟨#[c]⟩ : Str))).length = (Txt.join ("" : Str) (l.map fun c => (⟨#[c]⟩ : Str))).cps.toList.length := Array.length_toList.symm
    rw [e, hc, hl]
  refine ⟨_, txts_signs l, ?_, ?_⟩
  · rw [sum_ones, List.length_map, hl]
    have : ("" : Str).length = 0 := rfl
    rw [this]; omega
  · rw [hr]
    refine p _ hlen ?_
    simp only [nameOk, Bool.and_eq_true, decide_eq_true_eq]
    rw [hlen, hc]
    exact ⟨⟨h2, h1⟩, List.all_eq_true.mpr hx⟩
end DS

/-! Q1: the program's rolls: the reasons against owners and grants, the persons. -/
namespace DS
open PySem L2
local macro_rules | `(tactic| walk_at "ev") => `(tactic| simp only [mRaise, mLof, mTof, mBack, mCatT, mSlT, mSlB, mSetI, mNoP, mPart, mCat, mSeq, mRet, mVar, mVarQ, slD, mC, m1, m2, mT, mNot, mAnd, mOr, mAndV, mOrV, mNotV, mIf, mChain, mNil, mCons, mSrc, mTup, mLst, mCall, mIx, mL, mIs, mIs2, mIfS, mNext, mSet, mOwn, mRetO, mRetN, mExp, mPar, mNev, datAll, gdName, gdTup, setAll, fI, fIc, fNeg, fLen, fInt, fAbs, fIsN, env0, wipeR,
  is_int_NoneType, is_int_bool, is_int_int, is_int_str, is_int_list, is_int_tuple, is_bool_NoneType, is_bool_bool, is_bool_int, is_bool_str, is_bool_list, is_bool_tuple, is_str_NoneType, is_str_bool, is_str_int, is_str_str, is_str_list, is_str_tuple, is_tuple_NoneType, is_tuple_bool, is_tuple_int, is_tuple_str, is_tuple_list, is_tuple_tuple, is_list_NoneType, is_list_bool, is_list_int, is_list_str, is_list_list, is_list_tuple,
  List.map, List.length_cons, List.length_nil, List.getElem?_cons_zero, List.getElem?_cons_succ, List.set_cons_zero, List.set_cons_succ, List.replicate, List.append_assoc, List.cons_append, List.nil_append, Option.map_some, Option.some.injEq, Sl.dat.injEq, Sl.own.injEq, exists_eq_left', exists_eq_left, exists_and_left, exists_and_right, true_and, and_true, Bool.true_eq_false, if_true, if_false, reduceIte, Bool.false_eq_true, Bool.not_true, Bool.not_false, PyData.bool.injEq, PyData.int.injEq, PyData.str.injEq, PyData.tuple.injEq, PyData.list.injEq, Nat.reduceAdd, Nat.reduceSub, Option.map_none, decide_eq_true_eq, ex_if, eq_ints, eq_strs, eq_bools, ix0, ix1, ix2, ix3, ix4, lx0, lx1, lx2, lx3])
/-! ### the first that is wrong -/
def findE (f : Nat → Option D) : Nat → Nat → Option D
  | _, 0 => none
  | i, m + 1 => match f i with
    | some r => some r
    | none => findE f (i + 1) m
theorem findE_some {f : Nat → Option D} {i m : Nat} {r : D} (h : f i = some r) : findE f i (m + 1) = some r := by unfold findE; rw [h]
theorem findE_none {f : Nat → Option D} {i m : Nat} (h : f i = none) : findE f i (m + 1) = findE f (i + 1) m := by rw [findE, h]
/-- a for whose body hands back or goes on -/
theorem for_find {gd : GD} {body : MS} {De : DEnds} {n : Nat} (f : Nat → Option D) (I : Env → Prop) (ds : List D)
    (turn : ∀ (i : Nat) (d : D) (ρ : Env) (X : Env → Nat → Prop), ds[i]? = some d → I ρ → (∀ j, j < i → f j = none) → (∀ r, f i = some r → De.rt r n) → (f i = none → ∀ ρ', I ρ' → X ρ' n) → ∃ ρ1, gd d ρ = some ρ1 ∧ body { De with nx := X, ct := X, bk := De.nx } ρ1 n)
    (h1 : ∀ r, findE f 0 ds.length = some r → De.rt r n) (h2 : findE f 0 ds.length = none → ∀ ρ', I ρ' → De.nx ρ' n) {ρ : Env} (h0 : I ρ) : forW gd body De ds ρ n := by
  have key : ∀ (r pre : List D) (ρ : Env), ds = pre ++ r → I ρ → (∀ j, j < pre.length → f j = none) → findE f 0 ds.length = findE f pre.length r.length → forW gd body De r ρ n := by
    intro r
    induction r with
    | nil =>
      intro pre ρ e hI hj hf
      exact h2 (by rw [hf]; rfl) ρ hI
    | cons d r ih =>
      intro pre ρ e hI hj hf
      have hd : ds[pre.length]? = some d := by rw [e]; simp
      refine turn pre.length d ρ (forW gd body De r) hd hI hj (fun z hz => h1 z (by rw [hf, List.length_cons]; exact findE_some hz)) fun hz ρ' hI' => ?_
      refine ih (pre ++ [d]) ρ' (by rw [e]; simp) hI' (fun j hj' => ?_) (by rw [hf, List.length_cons, findE_none hz]; simp)
      rw [List.length_append, List.length_singleton] at hj'
      by_cases ej : j = pre.length
      · rw [ej]; exact hz
      · exact hj j (by omega)
  exact key ds [] ρ rfl h0 (fun j hj => absurd hj (by simp)) rfl
theorem iteT_of {c : Prop} [Decidable c] {a b : Prop} (h : c) (p : a) : if c then a else b := by rw [if_pos h]; exact p
theorem iteF_of {c : Prop} [Decidable c] {a b : Prop} (h : ¬ c) (p : b) : if c then a else b := by rw [if_neg h]; exact p
def isN : D → Bool
  | .none => true
  | _ => false
theorem isN_none {d : D} (h : isN d = true) : d = .none := by cases d <;> simp [isN] at h <;> rfl
/-! ### owners -/
def obad (os : List D) (k : Nat) : Option D := match os[k]? with
  | some d => if !isName d || (os.take k).any (fun z => PyData.eqv z d) then some (.tuple [.str "owner", .int k]) else none
  | none => none
def oerr (os : List D) : D := if 1 ≤ os.length ∧ os.length ≤ 4 then (findE (obad os) 0 os.length).getD .none else .tuple [.str "owners"]
def f_oerr : List D → Option D
  | [.tuple os] => if saneAll os = true then some (oerr os) else none
  | _ => none
abbrev g_owners_error : G := gF f_oerr
def N_owners_error : List Str := ["owners", "k", "owner"]
def b_owners_error_1 : MS := (mIfS (mOr (mNot (mT (mCall g_is_name 1 (mCons (mVar 2) mNil)))) (mT (m2 (fIn false) (mVarQ 2) (mSlT (mVarQ 0) mNoP (mPart (mVar 1)))))) (mRet (mTup (mCons (mC (.str "owner")) (mCons (mVar 1) mNil)))) mNext)
def m_owners_error : MS := (mSeq (mIfS (mNot (mT (mChain fLe fLe (mC (.int 1)) (m1 fLen (mVarQ 0)) (mC (.int (4)))))) (mRet (mTup (mCons (mC (.str "owners")) mNil))) mNext)
    (mSeq (mFor (mEnum (mVar 0)) (gdTup [1, 2]) b_owners_error_1)
    (mRet (mC .none))))
theorem saneAll_mem : ∀ {l : List D} {d : D}, saneAll l = true → d ∈ l → sane d = true
  | x :: r, d, h, m => by
    simp only [saneAll, Bool.and_eq_true] at h
    rcases List.mem_cons.mp m with rfl | m
    · exact h.1
    · exact saneAll_mem h.2 m
theorem names_flat {l : List D} (h : ∀ d ∈ l, isName d = true) : PyData.plainAll l = true := (flat_ok fun d hd => isName_str (h d hd)).1
theorem okD_name {d : D} (h : isName d = true) : okD d = true := by
  obtain ⟨s, rfl⟩ := isName_str h; rfl
theorem cut_to {α : Type} {xs : List α} {k : Nat} (h : k < xs.length) : cutA xs none (some (k : Int)) = xs.take k ∧ ¬ (HT.sIx xs.length 0 none = 0 ∧ HT.sIx xs.length xs.length (some (k : Int)) = xs.length) := by
  have e : HT.sIx xs.length xs.length (some (k : Int)) = k := by
    simp only [HT.sIx]
    split <;> omega
  have e0 : HT.sIx xs.length 0 none = 0 := rfl
  refine ⟨?_, fun z => ?_⟩
  · unfold cutA
    rw [e, e0, List.drop_zero, Nat.sub_zero]
  · rw [e] at z; omega
theorem obad_take {os : List D} {k : Nat} (hk : k ≤ os.length) (h : ∀ j, j < k → obad os j = none) : ∀ d ∈ os.take k, isName d = true := fun d hd => by
  obtain ⟨j, hj, e⟩ := List.mem_iff_getElem.mp hd
  rw [List.length_take] at hj
  have hj' : j < os.length := by omega
  have q := h j (by omega)
  unfold obad at q
  rw [List.getElem?_eq_getElem hj'] at q
  have e' : os[j] = d := by rw [← e, List.getElem_take]
  rw [e'] at q
  cases hn : isName d with
  | true => rfl
  | false => simp [hn] at q
theorem enum_len (ds : List D) : (enumD ds).length = ds.length := enumD_length ds
theorem enum_at {ds : List D} {i : Nat} {d : D} (h : (enumD ds)[i]? = some d) : ∃ x, ds[i]? = some x ∧ d = .tuple [.int (i : Int), x] := by
  have hl : i < ds.length := by
    have := (List.getElem?_eq_some_iff.mp h).1
    rw [enumD_length] at this; exact this
  refine ⟨ds[i], List.getElem?_eq_getElem hl, ?_⟩
  have := enumD_get (List.getElem?_eq_getElem hl)
  rw [h] at this
  exact Option.some.inj this
theorem t_owners_error {De : DEnds} {os : List D} {i : Nat} {x : D} {n : Nat} (hx : os[i]? = some x) (sx : sane x = true) (hj : ∀ j, j < i → obad os j = none) (h1 : ∀ r, obad os i = some r → De.rt r n) (h2 : obad os i = none → De.nx [.dat (.tuple os), .dat (.int (i : Int)), .dat x] n) :
    b_owners_error_1 De [.dat (.tuple os), .dat (.int (i : Int)), .dat x] n := by
  have hi : i < os.length := (List.getElem?_eq_some_iff.mp hx).1
  obtain ⟨c1, c2⟩ := cut_to (xs := os) hi
  unfold b_owners_error_1
  walk_at "ev"
  refine gF_at (ds := [x]) (if_pos (sane_pl sx)) ⟨_, rfl, ?_⟩
  have e : obad os i = if !isName x || (os.take i).any (fun z => PyData.eqv z x) then some (.tuple [.str "owner", .int i]) else none := by unfold obad; rw [hx]
  cases hn : isName x with
  | false =>
    rw [hn] at e
    exact ⟨line2, h1 _ e⟩
  | true =>
    rw [hn] at e
    refine iteF ?_
    refine ⟨c2, ?_⟩
    rw [c1]
    have pl := names_flat (obad_take (Nat.le_of_lt hi) hj)
    refine ⟨_, if_pos ⟨okD_name hn, pl⟩, _, rfl, ?_⟩
    cases ha : (os.take i).any (fun z => PyData.eqv z x) with
    | true =>
      rw [ha] at e
      exact ⟨line2, h1 _ e⟩
    | false =>
      rw [ha] at e
      exact h2 e
theorem pr_owners_error (as n P R) (hl : as.length = 1) (h : g_owners_error as n P R) : m_owners_error (ends P R) (env0 as N_owners_error.length) n := by
  obtain ⟨ds, z, rfl, e, p⟩ := h
  match ds, e with
  | [.tuple os], e =>
    obtain ⟨c, rfl⟩ := ite_some' e
    show m_owners_error (ends P R) (env0 [.dat (.tuple os)] 3) n
    unfold m_owners_error mFor mEnum
    walk_at "ev"
    unfold oerr at p
    have go : 1 ≤ os.length ∧ os.length ≤ 4 → forW (gdTup [1, 2]) b_owners_error_1 { nx := fun ρ n => P .none n, rt := P, ex := R } (enumD os) [.dat (.tuple os), .no, .no] n := fun hh => by
      rw [if_pos hh] at p
      refine for_find (obad os) (fun ρ => ∃ a b, ρ = [.dat (.tuple os), a, b]) (enumD os) ?_ ?_ ?_ ⟨_, _, rfl⟩
      · rintro i d ρ X hd ⟨a, b, rfl⟩ hj hr hn
        obtain ⟨x, hx, rfl⟩ := enum_at hd
        refine ⟨_, rfl, t_owners_error hx (saneAll_mem c (List.mem_of_getElem? hx)) hj hr fun z => hn z _ ⟨_, _, rfl⟩⟩
      · intro r hr
        rw [enumD_length] at hr
        rw [hr] at p
        exact p
      · intro hr ρ' _
        rw [enumD_length] at hr
        rw [hr] at p
        exact p
    by_cases h1 : 1 ≤ os.length
    · by_cases h2 : os.length ≤ 4
      · rw [if_pos (show (1 : Int) ≤ (os.length : Int) by omega)]
        refine iteF_of (by simp; omega) ?_
        exact ⟨_, rfl, go ⟨h1, h2⟩⟩
      · rw [if_neg (by omega)] at p
        rw [if_pos (show (1 : Int) ≤ (os.length : Int) by omega)]
        refine iteT_of (by simp; omega) ?_
        exact ⟨line1, p⟩
    · rw [if_neg (by omega)] at p
      rw [if_neg (by omega)]
      exact ⟨line1, p⟩
/-! ### grants -/
def tkr : D → D
  | .tuple [_, _, k, _, _] => k
  | _ => .none
def gbad (os gs : List D) (i : Nat) : Option D := match gs[i]? with
  | some g => if isN (gerr g) = false then some (.tuple [.str "grant", .int i, gerr g]) else if os.any (fun z => PyData.eqv z (tkr g)) = true then some (.tuple [.str "owned", .int i]) else
      if (gs.take i).any (fun z => PyData.eqv z g) = true then some (.tuple [.str "repeated", .int i]) else none
  | none => none
def gserr (os : List D) (g : D) : D := match seqOf g with
  | some gs => if gs.length ≤ 60 then (findE (gbad os gs) 0 gs.length).getD .none else .tuple [.str "grants"]
  | none => .tuple [.str "grants"]
def f_gserr : List D → Option D
  | [.tuple os, g] => if (os.all isName = true ∧ sane g = true) then some (gserr os g) else none
  | _ => none
abbrev g_grants_error : G := gF f_gserr
def N_grants_error : List Str := ["owners", "grants", "k", "grant", "reason"]
def b_grants_error_1 : MS := (mSeq (mSet (mCall g_grant_error 1 (mCons (mVar 3) mNil)) (gdName 4))
    (mSeq (mIfS (mT (m2 (fIsN true) (mVarQ 4) (mC .none))) (mRet (mTup (mCons (mC (.str "grant")) (mCons (mVar 2) (mCons (mVar 4) mNil))))) mNext)
    (mSeq (mIfS (mT (m2 (fIn false) (mIx (mVarQ 3) (mC (.int (2)))) (mVarQ 0))) (mRet (mTup (mCons (mC (.str "owned")) (mCons (mVar 2) mNil)))) mNext)
    (mIfS (mT (m2 (fIn false) (mVarQ 3) (mSlB (mVarQ 1) mNoP (mPart (mVar 2))))) (mRet (mTup (mCons (mC (.str "repeated")) (mCons (mVar 2) mNil)))) mNext))))
def m_grants_error : MS := (mSeq (mIfS (mOr (mNot (mT (mIs2 "list" "tuple" (mVarQ 1)))) (mT (m2 fGt (m1 fLen (mVarQ 1)) (mC (.int 60))))) (mRet (mTup (mCons (mC (.str "grants")) mNil))) mNext)
    (mSeq (mFor (mEnum (mVar 1)) (gdTup [2, 3]) b_grants_error_1)
    (mRet (mC .none))))
theorem line3 : (3 : Nat) ≤ sizeLine := line_small (by decide)
theorem isN_gerr {d : D} (h : isN (gerr d) = true) : ∃ a, d = enc a ∧ okGr a = true := gerr_none (isN_none h)
theorem encs_plain : ∀ {l : List D}, (∀ d ∈ l, ∃ a, d = enc a) → PyData.plainAll l = true ∧ PyData.depthAll l ≤ 3
  | [], _ => ⟨by simp [PyData.plainAll], by simp [PyData.depthAll]⟩
  | d :: r, h => by
    obtain ⟨a, rfl⟩ := h d List.mem_cons_self
    obtain ⟨h1, h2⟩ := encs_plain fun x hx => h x (List.mem_cons_of_mem _ hx)
    refine ⟨by simp [PyData.plainAll, PyData.plain, enc, h1], ?_⟩
    rw [PyData.depthAll]
    have : (enc a).depth ≤ 3 := by simp [enc, PyData.depth, PyData.depthAll]
    omega
theorem okD_enc (a : Gr) : okD (enc a) = true := by
  unfold okD
  simp [enc, PyData.plain, PyData.plainAll, PyData.depth, PyData.depthAll]
theorem okD_str (s : Str) : okD (.str s) = true := rfl
theorem gbad_take {os gs : List D} {k : Nat} (hk : k ≤ gs.length) (h : ∀ j, j < k → gbad os gs j = none) : ∀ d ∈ gs.take k, ∃ a, d = enc a ∧ okGr a = true := fun d hd => by
  obtain ⟨j, hj, e⟩ := List.mem_iff_getElem.mp hd
  rw [List.length_take] at hj
  have hj' : j < gs.length := by omega
  have q := h j (by omega)
  unfold gbad at q
  rw [List.getElem?_eq_getElem hj'] at q
  have e' : gs[j] = d := by rw [← e, List.getElem_take]
  rw [e'] at q
  cases hn : isN (gerr d) with
  | true => exact isN_gerr hn
  | false => simp [hn] at q
theorem fIsN_t (d : D) : fIsN true d .none = some (.bool (!isN d)) := by cases d <;> rfl
theorem fIsN_f (d : D) : fIsN false d .none = some (.bool (isN d)) := by cases d <;> rfl
theorem cutD_to {g : D} {gs : List D} {k : Nat} (e : seqOf g = some gs) (h : k < gs.length) : ∃ z, cutD none (some (k : Int)) g = some z ∧ seqOf z = some (gs.take k) := by
  obtain ⟨c1, c2⟩ := cut_to (xs := gs) h
  cases g with
  | list ds => cases e; exact ⟨_, rfl, by rw [c1]; rfl⟩
  | tuple ds => cases e; exact ⟨_, if_neg c2, by rw [c1]; rfl⟩
  | none => cases e
  | bool _ => cases e
  | int _ => cases e
  | str _ => cases e
  | dict _ => cases e
theorem fIn_seq {neg : Bool} {x z : D} {ds : List D} (e : seqOf z = some ds) (h1 : okD x = true) (h2 : PyData.plainAll ds = true) : fIn neg x z = some (.bool (if neg then !ds.any (fun z => PyData.eqv z x) else ds.any fun z => PyData.eqv z x)) := by
  cases z with
  | list ds' => cases e; exact if_pos ⟨h1, h2⟩
  | tuple ds' => cases e; exact if_pos ⟨h1, h2⟩
  | none => cases e
  | bool _ => cases e
  | int _ => cases e
  | str _ => cases e
  | dict _ => cases e
theorem t_grants_error {De : DEnds} {os gs : List D} {g : D} {i : Nat} {x : D} {v4 : Sl} {n : Nat} (eg : seqOf g = some gs) (hx : gs[i]? = some x) (sx : sane x = true) (ho : ∀ d ∈ os, isName d = true) (hj : ∀ j, j < i → gbad os gs j = none) (h1 : ∀ r, gbad os gs i = some r → De.rt r n)
    (h2 : gbad os gs i = none → ∀ v4, De.nx [.dat (.tuple os), .dat g, .dat (.int (i : Int)), .dat x, v4] n) : b_grants_error_1 De [.dat (.tuple os), .dat g, .dat (.int (i : Int)), .dat x, v4] n := by
  have hi : i < gs.length := (List.getElem?_eq_some_iff.mp hx).1
  unfold b_grants_error_1
  walk_at "ev"
  refine gF_at (ds := [x]) (if_pos sx) ?_
  have e : gbad os gs i = if isN (gerr x) = false then some (.tuple [.str "grant", .int i, gerr x]) else if os.any (fun z => PyData.eqv z (tkr x)) = true then some (.tuple [.str "owned", .int i]) else
      if (gs.take i).any (fun z => PyData.eqv z x) = true then some (.tuple [.str "repeated", .int i]) else none := by unfold gbad; rw [hx]
  show if (!isN (gerr x)) = true then _ else _
  cases hn : isN (gerr x) with
  | false =>
    rw [if_pos hn] at e
    exact ⟨line3, h1 _ e⟩
  | true =>
    rw [if_neg (by rw [hn]; decide)] at e
    refine iteF ?_
    obtain ⟨a, rfl, ha⟩ := isN_gerr hn
    have et : tkr (enc a) = .str a.k := rfl
    rw [et] at e
    refine ⟨_, ix2 _ _ _ _, _, fIn_seq (ds := os) rfl (okD_str _) (names_flat ho), _, rfl, ?_⟩
    rw [if_neg Bool.false_ne_true]
    cases hb : os.any (fun z => PyData.eqv z (.str a.k)) with
    | true =>
      rw [if_pos hb] at e
      exact ⟨line2, h1 _ e⟩
    | false =>
      rw [if_neg (by rw [hb]; decide)] at e
      refine iteF ?_
      obtain ⟨z, ez, es⟩ := cutD_to eg hi
      have pl := (encs_plain fun d hd => by
        obtain ⟨b, hb, _⟩ := gbad_take (Nat.le_of_lt hi) hj d hd
        exact ⟨b, hb⟩).1
      refine ⟨_, ez, _, fIn_seq es (okD_enc a) pl, _, rfl, ?_⟩
      rw [if_neg Bool.false_ne_true]
      cases hc : (gs.take i).any (fun z => PyData.eqv z (enc a)) with
      | true =>
        rw [if_pos hc] at e
        exact ⟨line2, h1 _ e⟩
      | false =>
        rw [if_neg (by rw [hc]; decide)] at e
        exact h2 e _
theorem pr_grants_error (as n P R) (hl : as.length = 2) (h : g_grants_error as n P R) : m_grants_error (ends P R) (env0 as N_grants_error.length) n := by
  obtain ⟨ds, z, rfl, e, p⟩ := h
  match ds, e with
  | [.tuple os, g], e =>
    obtain ⟨⟨c1, c2⟩, rfl⟩ := ite_some' e
    have ho := List.all_eq_true.mp c1
    show m_grants_error (ends P R) (env0 [.dat (.tuple os), .dat g] 5) n
    unfold m_grants_error mFor mEnum
    walk_at "ev"
    unfold gserr at p
    have go : ∀ gs, seqOf g = some gs → saneAll gs = true → gs.length ≤ 60 → forW (gdTup [2, 3]) b_grants_error_1 { nx := fun ρ n => P .none n, rt := P, ex := R } (enumD gs) [.dat (.tuple os), .dat g, .no, .no, .no] n := fun gs eg sg hh => by
      rw [eg] at p
      simp only [if_pos hh] at p
      refine for_find (gbad os gs) (fun ρ => ∃ a b c, ρ = [.dat (.tuple os), .dat g, a, b, c]) (enumD gs) ?_ ?_ ?_ ⟨_, _, _, rfl⟩
      · rintro i d ρ X hd ⟨a, b, c, rfl⟩ hj hr hn
        obtain ⟨x, hx, rfl⟩ := enum_at hd
        refine ⟨_, rfl, t_grants_error eg hx (saneAll_mem sg (List.mem_of_getElem? hx)) ho hj hr fun z v4 => hn z _ ⟨_, _, _, rfl⟩⟩
      · intro r hr
        rw [enumD_length] at hr
        rw [hr] at p
        exact p
      · intro hr ρ' _
        rw [enumD_length] at hr
        rw [hr] at p
        exact p
    have big : ∀ gs, seqOf g = some gs → ¬ gs.length ≤ 60 → P (.tuple [.str "grants"]) n := fun gs eg hh => by
      rw [eg] at p
      simp only [if_neg hh] at p
      exact p
    cases g with
    | list gs =>
      have sg : saneAll gs = true := c2
      refine ⟨_, rfl, _, rfl, ?_⟩
      simp only [Bool.not_true, if_false, Bool.false_eq_true]
      walk_at "ev"
      by_cases hh : gs.length ≤ 60
      · refine iteF_of (by omega) ?_
        exact ⟨_, rfl, go gs rfl sg hh⟩
      · refine iteT_of (by omega) ?_
        exact ⟨line1, big gs rfl hh⟩
    | tuple gs =>
      have sg : saneAll gs = true := c2
      refine ⟨_, rfl, _, rfl, ?_⟩
      simp only [Bool.not_true, if_false, Bool.false_eq_true]
      walk_at "ev"
      by_cases hh : gs.length ≤ 60
      · refine iteF_of (by omega) ?_
        exact ⟨_, rfl, go gs rfl sg hh⟩
      · refine iteT_of (by omega) ?_
        exact ⟨line1, big gs rfl hh⟩
    | none => exact ⟨_, rfl, _, rfl, line1, p⟩
    | bool _ => exact ⟨_, rfl, _, rfl, line1, p⟩
    | int _ => exact ⟨_, rfl, _, rfl, line1, p⟩
    | str _ => exact ⟨_, rfl, _, rfl, line1, p⟩
    | dict _ => cases c2
/-! ### persons -/
def insS (l : List Str) (x : Str) : List Str := if l.any (fun z => z == x) = true then l else l ++ [x]
def nmS (l : List Str) : List Gr → List Str
  | [] => l
  | a :: r => nmS (insS (insS l a.g) a.k) r
def perS (os : List Str) (gs : List Gr) : List Str := (nmS [] gs).filter fun s => !os.any fun z => z == s
abbrev srt (ds : List D) : List D := ds.mergeSort (PySem.W.dataLe false id)
def leS (a b : Str) : Bool := PySem.W.dataLe false id (.str a) (.str b)
def leG (a b : Gr) : Bool := PySem.W.dataLe false id (enc a) (enc b)
def sortS (l : List Str) : List Str := l.mergeSort leS
def sortG (l : List Gr) : List Gr := l.mergeSort leG
theorem srt_str (l : List Str) : srt (l.map PyData.str) = (sortS l).map PyData.str := (PySem.W.sort_maps PyData.str fun _ _ _ _ => rfl).symm
theorem srt_enc (l : List Gr) : srt (l.map enc) = (sortG l).map enc := (PySem.W.sort_maps enc fun _ _ _ _ => rfl).symm
theorem mem_sortS {l : List Str} {s : Str} : s ∈ sortS l ↔ s ∈ l := List.mem_mergeSort
theorem mem_sortG {l : List Gr} {a : Gr} : a ∈ sortG l ↔ a ∈ l := List.mem_mergeSort
theorem len_sortS (l : List Str) : (sortS l).length = l.length := List.length_mergeSort l
theorem len_sortG (l : List Gr) : (sortG l).length = l.length := List.length_mergeSort l
/-- the persons, ascending -/
def perT (os : List Str) (gs : List Gr) : List Str := sortS (perS os gs)
def perD (os : List Str) (gs : List Gr) : List D := (perT os gs).map PyData.str
def kdS (l : List Str) : List (Key × D) := l.map fun s => (Sum.inr s, .bool true)
theorem any_kd (l : List Str) (x : Str) : ((kdS l).any fun e => decide (e.1 = Sum.inr x)) = l.any fun z => z == x := by
  induction l with
  | nil => rfl
  | cons a r ih =>
    show (decide ((Sum.inr a : Key) = Sum.inr x) || (kdS r).any _) = (a == x || r.any _)
    rw [ih]
    congr 1
    by_cases h : a = x
    · subst h; simp
    · have h2 : (Sum.inr a : Key) ≠ Sum.inr x := fun z => h (Sum.inr.inj z)
      rw [decide_eq_false h2, beq_eq_false_iff_ne.mpr h]
theorem map_kd (l : List Str) (x : Str) : (kdS l).map (fun e => if e.1 = Sum.inr x then (e.1, PyData.bool true) else e) = kdS l := by
  induction l with
  | nil => rfl
  | cons a r ih =>
    show (if (Sum.inr a : Key) = Sum.inr x then ((Sum.inr a : Key), PyData.bool true) else (Sum.inr a, .bool true)) :: (kdS r).map _ = _
    rw [ih, ite_self]; rfl
theorem put_kd (l : List Str) (x : Str) : putD (kdS l) (Sum.inr x) (.bool true) = kdS (insS l x) := by
  unfold putD insS
  rw [any_kd]
  by_cases h : (l.any fun z => z == x) = true
  · rw [if_pos h, if_pos h, map_kd]
  · rw [if_neg h, if_neg h]; simp [kdS]
theorem insS_len (l : List Str) (x : Str) : (insS l x).length ≤ l.length + 1 := by
  unfold insS
  split
  · omega
  · simp
theorem nmS_len (gs : List Gr) : ∀ l : List Str, (nmS l gs).length ≤ l.length + 2 * gs.length := by
  induction gs with
  | nil => intro l; simp [nmS]
  | cons a r ih =>
    intro l
    have h1 := ih (insS (insS l a.g) a.k)
    have h2 := insS_len (insS l a.g) a.k
    have h3 := insS_len l a.g
    rw [List.length_cons]
    unfold nmS
    omega
theorem slPut_kd (l : List Str) (x : Str) (h : l.length ≤ 10000) : slPut (.dic false (kdS l)) (.str x) (.bool true) = some (.dic false (kdS (insS l x))) := by
  have hl : (kdS l).length < sizeLine := by
    have : (10001 : Nat) ≤ sizeLine := by rw [sizeLine_eq]; decide
    simp only [kdS, List.length_map]; omega
  show (if (kdS l).length < sizeLine then some (Sl.dic false (putD (kdS l) (Sum.inr x) (.bool true))) else none) = _
  rw [if_pos hl, put_kd]
def g_persons_in : G := fun as n P _ => ∃ (os : List Str) (gs : List Gr), as = [.dat (.tuple (os.map PyData.str)), .dat (.tuple (gs.map enc))] ∧ gs.length ≤ 1000 ∧ os.length ≤ 1000 ∧ P (.tuple (perD os gs)) n
def N_persons_in : List Str := ["owners", "grants", "names", "grant", "name"]
def b_persons_in_1 : MS := (mSeq (mDPut 2 (mC (.bool true)) (mIx (mVarQ 3) (mC (.int (1)))))
    (mDPut 2 (mC (.bool true)) (mIx (mVarQ 3) (mC (.int (2))))))
def m_persons_in : MS := (mSeq (mDNewK 2)
    (mSeq (mFor (mItemsT (mVar 1)) (gdName 3) b_persons_in_1)
    (mRet (mTof (mL (mSorted (mL (mLock 2 (mComp (mKeys 2) (gdName 4) [4] (mT (m2 (fIn true) (mVarQ 4) (mVarQ 0))) (mVar 4))))))))))
theorem t_persons_in {De : DEnds} {o g v4 : Sl} {l : List Str} {a : Gr} {n : Nat} (hl : l.length ≤ 5000) (h : De.nx [o, g, .dic false (kdS (insS (insS l a.g) a.k)), .dat (enc a), v4] n) : b_persons_in_1 De [o, g, .dic false (kdS l), .dat (enc a), v4] n := by
  unfold b_persons_in_1 mSeq mDPut
  walk_at "ev"
  refine ⟨rfl, _, ix1 _ _ _, _, slPut_kd l a.g (by omega), rfl, _, ix2 _ _ _ _, _, slPut_kd _ a.k ?_, h⟩
  have := insS_len l a.g
  omega
theorem strs_any (os : List Str) (s : Str) : ((os.map PyData.str).any fun z => PyData.eqv z (.str s)) = os.any fun z => z == s := by
  rw [List.any_map]
  congr 1
theorem strs_alike (l : List Str) : PyData.plainAll (l.map PyData.str) = true ∧ PySem.W.AllAlike (l.map PyData.str) ∧ PySem.W.Sortable (l.map PyData.str) ∧ ∀ d ∈ l.map PyData.str, d.depth ≤ 60 := by
  refine ⟨(flat_ok fun d hd => ?_).1, PySem.W.AllAlike.of fun _ _ => by simp [PySem.W.alike], PySem.W.Sortable.others fun b => ⟨fun z => (by cases z), fun _ z => (by cases z)⟩, fun d hd => ?_⟩
  · obtain ⟨s, _, rfl⟩ := List.mem_map.mp hd; exact ⟨s, rfl⟩
  · obtain ⟨s, _, rfl⟩ := List.mem_map.mp hd; simp [PyData.depth]
theorem keys_kd (l : List Str) : slKeys (.dic true (kdS l)) = some (l.map PyData.str) := by
  show some ((kdS l).map fun e => kyD e.1) = _
  rw [kdS, List.map_map]; rfl
theorem pr_persons_in (as n P R) (hl : as.length = 2) (h : g_persons_in as n P R) : m_persons_in (ends P R) (env0 as N_persons_in.length) n := by
  obtain ⟨os, gs, rfl, h1, h2, p⟩ := h
  show m_persons_in (ends P R) (env0 [.dat (.tuple (os.map PyData.str)), .dat (.tuple (gs.map enc))] 5) n
  unfold m_persons_in mFor mItemsT mDNewK
  walk_at "ev"
  have key : ∀ (r : List Gr) (l : List Str) (v : Sl), l.length + 2 * r.length ≤ 2000 → nmS l r = nmS [] gs →
      forW (gdName 3) b_persons_in_1 { nx := fun ρ n => mSorted (mL (mLock 2 (mComp (mKeys 2) (gdName 4) [4] (mT (m2 (fIn true) (mVarQ 4) (mVarQ 0))) (mVar 4)))) ρ n (fun ds n1 => P (.tuple ds) n1) R, rt := P, ex := R } (r.map enc) [.dat (.tuple (os.map PyData.str)), .dat (.tuple (gs.map enc)), .dic false (kdS l), v, .no] n := by
    intro r
    induction r with
    | nil =>
      intro l v hl e
      have e' : l = nmS [] gs := e
      show mSorted (mL (mLock 2 (mComp (mKeys 2) (gdName 4) [4] (mT (m2 (fIn true) (mVarQ 4) (mVarQ 0))) (mVar 4)))) [.dat (.tuple (os.map PyData.str)), .dat (.tuple (gs.map enc)), .dic false (kdS l), v, .no] n (fun ds n1 => P (.tuple ds) n1) R
      unfold mLock mComp mKeys mSorted
      walk_at "ev"
      refine ⟨_, rfl, _, keys_kd l, ?_⟩
      refine comp_pure (fun d => !(os.map PyData.str).any fun z => PyData.eqv z d) id _ _ (fun d hd => ⟨_, rfl, fun Q q => ?_⟩) (fun d hd ρ1 e _ Q q => ?_) ?_ ?_
      · obtain ⟨s, _, rfl⟩ := List.mem_map.mp hd
        walk_at "ev"
        exact ⟨_, fIn_seq (ds := os.map PyData.str) rfl (okD_str _) (strs_alike os).1, _, rfl, q⟩
      · cases e
        walk_at "ev"
        exact q
      · rw [List.length_nil, List.length_map]
        have : (10001 : Nat) ≤ sizeLine := by rw [sizeLine_eq]; decide
        simp at hl; omega
      · have e2 : ((l.map PyData.str).filter fun d => !(os.map PyData.str).any fun z => PyData.eqv z d).map id = (perS os gs).map PyData.str := by
          rw [List.map_id, List.filter_map, perS, e']
          congr 1
          refine List.filter_congr fun s _ => ?_
          show (!(os.map PyData.str).any fun z => PyData.eqv z (.str s)) = _
          rw [strs_any]
        obtain ⟨a1, a2, a3, a4⟩ := strs_alike (perS os gs)
        refine ⟨_, .inl rfl, ?_⟩
        rw [List.nil_append, e2]
        refine ⟨a1, a2, a3, a4, ?_⟩
        show P (.tuple (srt _)) n
        rw [srt_str]
        exact p
    | cons a r ih =>
      intro l v hl e
      rw [List.length_cons] at hl
      refine ⟨_, rfl, t_persons_in (by omega) ?_⟩
      refine ih _ _ ?_ e
      have h3 := insS_len (insS l a.g) a.k
      have h4 := insS_len l a.g
      omega
  exact key gs [] .no (by simp; omega) rfl
end DS

/-! Q2: the program's rolls made. -/
namespace DS
open PySem L2
local macro_rules | `(tactic| walk_at "ev") => `(tactic| simp only [mRaise, mInit, mLof, mTof, mBack, mCatT, mSlT, mSlB, mSetI, mNoP, mPart, mCat, mSeq, mRet, mVar, mVarQ, slD, mC, m1, m2, mT, mNot, mAnd, mOr, mAndV, mOrV, mNotV, mIf, mChain, mNil, mCons, mSrc, mTup, mLst, mCall, mIx, mL, mIs, mIs2, mIfS, mNext, mSet, mOwn, mRetO, mRetN, mExp, mPar, mNev, datAll, gdName, gdTup, setAll, fI, fIc, fNeg, fLen, fInt, fAbs, fIsN, env0, wipeR,
  is_int_NoneType, is_int_bool, is_int_int, is_int_str, is_int_list, is_int_tuple, is_bool_NoneType, is_bool_bool, is_bool_int, is_bool_str, is_bool_list, is_bool_tuple, is_str_NoneType, is_str_bool, is_str_int, is_str_str, is_str_list, is_str_tuple, is_tuple_NoneType, is_tuple_bool, is_tuple_int, is_tuple_str, is_tuple_list, is_tuple_tuple, is_list_NoneType, is_list_bool, is_list_int, is_list_str, is_list_list, is_list_tuple,
  List.map, List.length_cons, List.length_nil, List.getElem?_cons_zero, List.getElem?_cons_succ, List.set_cons_zero, List.set_cons_succ, List.replicate, List.append_assoc, List.cons_append, List.nil_append, Option.map_some, Option.some.injEq, Sl.dat.injEq, Sl.own.injEq, exists_eq_left', exists_eq_left, exists_and_left, exists_and_right, true_and, and_true, Bool.true_eq_false, if_true, if_false, reduceIte, Bool.false_eq_true, Bool.not_true, Bool.not_false, PyData.bool.injEq, PyData.int.injEq, PyData.str.injEq, PyData.tuple.injEq, PyData.list.injEq, Nat.reduceAdd, Nat.reduceSub, Option.map_none, decide_eq_true_eq, ex_if, eq_ints, eq_strs, eq_bools, ix0, ix1, ix2, ix3, ix4, lx0, lx1, lx2, lx3])
/-- self.f = e, the k-th field -/
def mPutK (i n k : Nat) (te : M) : MS := fun De ρ m => (∀ a ds, ρ[i]? = some (.bld a n ds) → ds.length = k) ∧ mPut i n te De ρ m
def m_init (oe ge pi : G) : MS := mSeq (mSet (mCall oe 1 (mCons (mVar 2) mNil)) (gdName 3))
  (mSeq (mIfS (mT (m2 (fIsN false) (mVarQ 3) (mC .none))) (mSet (mCall ge 2 (mCons (mVar 2) (mCons (mVar 1) mNil))) (gdName 3)) mNext)
  (mSeq (mIfS (mT (m2 (fIsN true) (mVarQ 3) (mC .none))) (mRaise 0 (mVar 3)) mNext)
  (mSeq (mPutK 0 1 0 (mTof (mL (mSorted (mVarQ 2))))) (mSeq (mPutK 0 1 1 (mTof (mL (mSorted (mVarQ 1))))) (mPutK 0 1 2 (mCall pi 2 (mCons (mBFld 0 1 0) (mCons (mBFld 0 1 1) mNil))))))))
def rerr (ods : List D) (g : D) : D := if isN (oerr ods) = true then gserr ods g else oerr ods
/-- a roll's data, of its owners and grants, ascending -/
def rolT (os : List Str) (gs : List Gr) : D := obj 1 [.tuple (os.map PyData.str), .tuple (gs.map enc), .tuple (perD os gs)]
def rolD (os : List Str) (gs : List Gr) : D := rolT (sortS os) (sortG gs)
def g_Roll : GK := fun ods zs n P R => ∃ g, zs = [g] ∧ saneAll ods = true ∧ sane g = true ∧ (isN (rerr ods g) = false → R ⟨0, [rerr ods g]⟩ n) ∧
  (isN (rerr ods g) = true → ∀ os gs, ods = os.map PyData.str → seqOf g = some (gs.map enc) → (∀ s ∈ os, nameOk s = true) → (∀ a ∈ gs, okGr a = true) → 1 ≤ os.length → os.length ≤ 4 → gs.length ≤ 60 → P (rolD os gs) n)
theorem oerr_ok {ods : List D} (h : isN (oerr ods) = true) : (1 ≤ ods.length ∧ ods.length ≤ 4) ∧ findE (obad ods) 0 ods.length = none := by
  unfold oerr at h
  by_cases c : 1 ≤ ods.length ∧ ods.length ≤ 4
  · rw [if_pos c] at h
    refine ⟨c, ?_⟩
    cases e : findE (obad ods) 0 ods.length with
    | none => rfl
    | some r =>
      rw [e] at h
      exfalso
      -- a reason is no None
      have : ∀ m i r, findE (obad ods) i m = some r → isN r = false := by
        intro m
        induction m with
        | zero => intro i r z; cases z
        | succ m ih =>
          intro i r z
          unfold findE at z
          cases q : obad ods i with
          | none => rw [q] at z; exact ih _ _ z
          | some r' =>
            rw [q] at z; cases z
            unfold obad at q
            split at q
            · split at q
              · cases q; rfl
              · cases q
            · cases q
      have := this _ _ _ e
      rw [Option.getD_some, this] at h
      cases h
  · rw [if_neg c] at h; cases h
theorem findE_all {f : Nat → Option D} : ∀ {m i : Nat}, findE f i m = none → ∀ j, i ≤ j → j < i + m → f j = none
  | 0, i, _, j, h1, h2 => by omega
  | m + 1, i, h, j, h1, h2 => by
    unfold findE at h
    cases q : f i with
    | some r => rw [q] at h; cases h
    | none =>
      rw [q] at h
      by_cases e : j = i
      · rw [e]; exact q
      · exact findE_all h j (by omega) (by omega)
theorem oerr_names {ods : List D} (h : isN (oerr ods) = true) : ∀ d ∈ ods, isName d = true := by
  obtain ⟨_, e⟩ := oerr_ok h
  have := obad_take (os := ods) (k := ods.length) (Nat.le_refl _) fun j hj => findE_all e j (Nat.zero_le _) (by omega)
  rw [List.take_length] at this
  exact this
theorem names_strs : ∀ {l : List D}, (∀ d ∈ l, isName d = true) → ∃ os : List Str, l = os.map PyData.str ∧ ∀ s ∈ os, nameOk s = true
  | [], _ => ⟨[], rfl, fun _ h => nomatch h⟩
  | d :: r, h => by
    obtain ⟨os, e, h2⟩ := names_strs fun x hx => h x (List.mem_cons_of_mem _ hx)
    have hd := h d List.mem_cons_self
    obtain ⟨s, rfl⟩ := isName_str hd
    refine ⟨s :: os, by rw [e]; rfl, fun x hx => ?_⟩
    rcases List.mem_cons.mp hx with rfl | hx
    · exact hd
    · exact h2 x hx
theorem gserr_ok {os : List D} {g : D} (h : isN (gserr os g) = true) : ∃ gs, seqOf g = some gs ∧ gs.length ≤ 60 ∧ findE (gbad os gs) 0 gs.length = none := by
  unfold gserr at h
  cases e : seqOf g with
  | none => rw [e] at h; cases h
  | some gs =>
    rw [e] at h
    simp only at h
    by_cases c : gs.length ≤ 60
    · rw [if_pos c] at h
      refine ⟨gs, rfl, c, ?_⟩
      cases e2 : findE (gbad os gs) 0 gs.length with
      | none => rfl
      | some r =>
        rw [e2] at h
        exfalso
        have : ∀ m i r, findE (gbad os gs) i m = some r → isN r = false := by
          intro m
          induction m with
          | zero => intro i r z; cases z
          | succ m ih =>
            intro i r z
            unfold findE at z
            cases q : gbad os gs i with
            | none => rw [q] at z; exact ih _ _ z
            | some r' =>
              rw [q] at z; cases z
              unfold gbad at q
              split at q
              · split at q
                · cases q; rfl
                · split at q
                  · cases q; rfl
                  · split at q
                    · cases q; rfl
                    · cases q
              · cases q
        have := this _ _ _ e2
        rw [Option.getD_some, this] at h
        cases h
    · rw [if_neg c] at h; cases h
theorem encs_of : ∀ {l : List D}, (∀ d ∈ l, ∃ a, d = enc a ∧ okGr a = true) → ∃ gs : List Gr, l = gs.map enc ∧ ∀ a ∈ gs, okGr a = true
  | [], _ => ⟨[], rfl, fun _ h => nomatch h⟩
  | d :: r, h => by
    obtain ⟨gs, e, h2⟩ := encs_of fun x hx => h x (List.mem_cons_of_mem _ hx)
    obtain ⟨a, rfl, ha⟩ := h d List.mem_cons_self
    refine ⟨a :: gs, by rw [e]; rfl, fun x hx => ?_⟩
    rcases List.mem_cons.mp hx with rfl | hx
    · exact ha
    · exact h2 x hx
theorem gserr_encs {os : List D} {g : D} (h : isN (gserr os g) = true) : ∃ gs : List Gr, seqOf g = some (gs.map enc) ∧ gs.length ≤ 60 ∧ ∀ a ∈ gs, okGr a = true := by
  obtain ⟨gs, e, l, f⟩ := gserr_ok h
  have := gbad_take (os := os) (gs := gs) (k := gs.length) (Nat.le_refl _) fun j hj => findE_all f j (Nat.zero_le _) (by omega)
  rw [List.take_length] at this
  obtain ⟨as, ea, ha⟩ := encs_of this
  exact ⟨as, by rw [e, ea], by rw [ea, List.length_map] at l; exact l, ha⟩
theorem encs_alike (l : List Gr) : PyData.plainAll (l.map enc) = true ∧ PySem.W.AllAlike (l.map enc) ∧ PySem.W.Sortable (l.map enc) ∧ ∀ d ∈ l.map enc, d.depth ≤ 60 := by
  refine ⟨(encs_plain fun d hd => ?_).1, PySem.W.AllAlike.of fun _ _ => by simp [PySem.W.alike, PySem.W.alikeAll, enc], PySem.W.Sortable.tuples fun b => ⟨_, _, rfl⟩, fun d hd => ?_⟩
  · obtain ⟨s, _, rfl⟩ := List.mem_map.mp hd; exact ⟨s, rfl⟩
  · obtain ⟨s, _, rfl⟩ := List.mem_map.mp hd; simp [enc, PyData.depth, PyData.depthAll]
theorem isName_all {os : List Str} (h : ∀ s ∈ os, nameOk s = true) : (os.map PyData.str).all isName = true := by
  rw [List.all_eq_true]
  intro d hd
  obtain ⟨s, hs, rfl⟩ := List.mem_map.mp hd
  exact h s hs
theorem pr_init (x : Addr) (ods zs : List D) (n : Nat) (P : PD) (R : PX) (hz : zs.length = 1) (h : g_Roll ods zs n P R) : mInit 1 3 x (m_init g_owners_error g_grants_error g_persons_in) P R (env0 (.bld x 1 [] :: (zs.map Sl.dat ++ [.dat (.tuple ods)])) 4) n := by
  obtain ⟨g, rfl, so, sg, hR, hP⟩ := h
  unfold m_init mPutK mPut
  walk_at "ev"
  refine gF_at (ds := [.tuple ods]) (if_pos so) ?_
  show if isN (oerr ods) = true then _ else _
  have tail : ∀ r, isN r = false → r = rerr ods g → R ⟨0, [r]⟩ n := fun r hr e => by
    subst e; exact hR hr
  cases ho : isN (oerr ods) with
  | false =>
    refine iteF_of (by decide) ?_
    show if (!isN (oerr ods)) = true then _ else _
    rw [ho]
    exact tail _ ho (by unfold rerr; rw [if_neg (by rw [ho]; decide)])
  | true =>
    refine iteT_of rfl ?_
    have nm := oerr_names ho
    refine gF_at (ds := [.tuple ods, g]) (if_pos ⟨List.all_eq_true.mpr nm, sg⟩) ?_
    show if (!isN (gserr ods g)) = true then _ else _
    have er : rerr ods g = gserr ods g := by unfold rerr; rw [if_pos ho]
    cases hg : isN (gserr ods g) with
    | false => exact tail _ hg er.symm
    | true =>
      refine iteF_of (by decide) ?_
      obtain ⟨os, rfl, hos⟩ := names_strs nm
      obtain ⟨gs, eg, hl, hgs⟩ := gserr_encs hg
      obtain ⟨⟨l1, l2⟩, _⟩ := oerr_ok ho
      rw [List.length_map] at l1 l2
      have q := hP (by rw [er]; exact hg) os gs rfl eg hos hgs l1 l2 hl
      obtain ⟨a1, a2, a3, a4⟩ := strs_alike os
      obtain ⟨b1, b2, b3, b4⟩ := encs_alike gs
      refine ⟨fun a ds e => by cases e; rfl, x, [], rfl, rfl, ?_⟩
      unfold mSorted
      walk_at "ev"
      refine ⟨_, .inr rfl, a1, a2, a3, a4, fun a ds e => by cases e; rfl, x, _, rfl, rfl, ?_⟩
      have sq : g = .list (gs.map enc) ∨ g = .tuple (gs.map enc) := by
        cases g with
        | list ds => cases eg; exact .inl rfl
        | tuple ds => cases eg; exact .inr rfl
        | none => cases eg
        | bool _ => cases eg
        | int _ => cases eg
        | str _ => cases eg
        | dict _ => cases eg
      refine ⟨_, sq, b1, b2, b3, b4, fun a ds e => by cases e; rfl, x, _, rfl, rfl, ?_⟩
      unfold mBFld
      have e1 := srt_str os
      have e2 := srt_enc gs
      refine ⟨x, _, _, rfl, rfl, x, _, _, rfl, rfl, ?_⟩
      refine ⟨sortS os, sortG gs, ?_, by rw [len_sortG]; omega, by rw [len_sortS]; omega, _, rfl, rfl, ?_⟩
      · rw [← e1, ← e2]
      · show P (obj 1 [.tuple (srt _), .tuple (srt _), _]) n
        rw [e1, e2]
        exact q
end DS

/-! Q3: the laws' drawing: owners and names, entries, the roll made. -/
namespace DS
open PySem L2
local macro_rules | `(tactic| walk_at "ev") => `(tactic| simp only [mRaise, mLend, mLof, mTof, mBack, mCatT, mSlT, mSlB, mSetI, mNoP, mPart, mCat, mSeq, mRet, mVar, mVarQ, slD, mC, m1, m2, mT, mNot, mAnd, mOr, mAndV, mOrV, mNotV, mIf, mChain, mNil, mCons, mSrc, mTup, mLst, mCall, mIx, mL, mIs, mIs2, mIfS, mNext, mSet, mOwn, mRetO, mRetN, mExp, mPar, mNev, datAll, gdName, gdTup, setAll, fI, fIc, fNeg, fLen, fInt, fAbs, fIsN, env0, wipeR,
  is_int_NoneType, is_int_bool, is_int_int, is_int_str, is_int_list, is_int_tuple, is_bool_NoneType, is_bool_bool, is_bool_int, is_bool_str, is_bool_list, is_bool_tuple, is_str_NoneType, is_str_bool, is_str_int, is_str_str, is_str_list, is_str_tuple, is_tuple_NoneType, is_tuple_bool, is_tuple_int, is_tuple_str, is_tuple_list, is_tuple_tuple, is_list_NoneType, is_list_bool, is_list_int, is_list_str, is_list_list, is_list_tuple,
  List.map, List.length_cons, List.length_nil, List.getElem?_cons_zero, List.getElem?_cons_succ, List.set_cons_zero, List.set_cons_succ, List.replicate, List.append_assoc, List.cons_append, List.nil_append, Option.map_some, Option.some.injEq, Sl.dat.injEq, Sl.own.injEq, exists_eq_left', exists_eq_left, exists_and_left, exists_and_right, true_and, and_true, Bool.true_eq_false, if_true, if_false, reduceIte, Bool.false_eq_true, Bool.not_true, Bool.not_false, PyData.bool.injEq, PyData.int.injEq, PyData.str.injEq, PyData.tuple.injEq, PyData.list.injEq, Nat.reduceAdd, Nat.reduceSub, Option.map_none, decide_eq_true_eq, ex_if, eq_ints, eq_strs, eq_bools, ix0, ix1, ix2, ix3, ix4, lx0, lx1, lx2, lx3])
def fix9 : List Str := ["a", "an", "b", "bo", "eightsig", "eightsih", "d", "owners", "zz"]
/-- a drawn name -/
def Nam (s : Str) : Prop := nameOk s = true ∧ (s ∈ fix9 ∨ s.length = 4 ∨ s.length = 5 ∨ s.length = 7)
def unS : D → Str
  | .str s => s
  | _ => ""
theorem strs_un : ∀ {es : List D}, (∀ d ∈ es, ∃ s, d = .str s) → es = (es.map unS).map PyData.str
  | [], _ => rfl
  | d :: r, h => by
    obtain ⟨s, rfl⟩ := h d List.mem_cons_self
    rw [List.map_cons, List.map_cons, ← strs_un fun x hx => h x (List.mem_cons_of_mem _ hx)]
    rfl
theorem unS_map (l : List Str) : (l.map PyData.str).map unS = l := by
  rw [List.map_map]
  exact List.map_id' l
theorem perm_strs {es : List D} {l : List Str} (h : es.Perm (l.map PyData.str)) : ∃ l' : List Str, es = l'.map PyData.str ∧ l'.Perm l := by
  refine ⟨es.map unS, strs_un fun d hd => ?_, ?_⟩
  · obtain ⟨s, _, e⟩ := List.mem_map.mp (h.mem_iff.mp hd)
    exact ⟨s, e.symm⟩
  · have := h.map unS
    rw [unS_map] at this
    exact this
theorem cut_mid {α : Type} {xs : List α} {a b : Nat} (h : a + b ≤ xs.length) : cutA xs (some (a : Int)) (some (((a : Int) + (b : Int)))) = (xs.drop a).take b := by
  have e1 : HT.sIx xs.length 0 (some (a : Int)) = a := by
    simp only [HT.sIx]; split <;> omega
  have e2 : HT.sIx xs.length xs.length (some ((a : Int) + (b : Int))) = a + b := by
    simp only [HT.sIx]; split <;> omega
  unfold cutA
  rw [e1, e2]
  congr 1
  omega
theorem cut_pre {α : Type} {xs : List α} {a : Nat} (h : a ≤ xs.length) : cutA xs none (some (a : Int)) = xs.take a := by
  have e1 : HT.sIx xs.length xs.length (some (a : Int)) = a := by
    simp only [HT.sIx]; split <;> omega
  have e0 : HT.sIx xs.length 0 none = 0 := rfl
  unfold cutA
  rw [e1, e0, List.drop_zero, Nat.sub_zero]
theorem cut_map {α β : Type} (f : α → β) (xs : List α) (lo hi : Option Int) : cutA (xs.map f) lo hi = (cutA xs lo hi).map f := by
  unfold cutA
  rw [List.length_map, List.map_take, List.map_drop]
theorem cut_suf {α : Type} {xs : List α} {a : Nat} (h : a ≤ xs.length) : cutA xs (some (a : Int)) none = xs.drop a := by
  have e1 : HT.sIx xs.length 0 (some (a : Int)) = a := by
    simp only [HT.sIx]; split <;> omega
  have e0 : HT.sIx xs.length xs.length none = xs.length := rfl
  unfold cutA
  rw [e1, e0]
  exact List.take_of_length_le (by rw [List.length_drop]; omega)
/-- what is drawn: the owners and the other names -/
structure Drawn (os ns : List Str) : Prop where
  nd : (os ++ ns).Nodup
  nm : ∀ s ∈ os ++ ns, Nam s
  o1 : 1 ≤ os.length
  o4 : os.length ≤ 4
  n2 : 2 ≤ ns.length
  n6 : ns.length ≤ 6
def g_law_owners_and_names : G := fun as n P _ => as = [.src] ∧ 40 ≤ n ∧ ∀ (os ns : List Str) (n' : Nat), Drawn os ns → n ≤ n' + 40 → P (.tuple [.list (os.map PyData.str), .list (ns.map PyData.str)]) n'
def N_law_owners_and_names : List Str := ["source", "names", "count"]
def m_law_owners_and_names : MS := (mSeq (mSet (mL (mLst (mCons (mC (.str "a")) (mCons (mC (.str "an")) (mCons (mC (.str "b")) (mCons (mC (.str "bo")) (mCons (mC (.str "eightsig")) (mCons (mC (.str "eightsih")) (mCons (mC (.str "d")) (mCons (mC (.str "owners")) (mCons (mC (.str "zz")) mNil))))))))))) (gdName 1))
    (mSeq (mSet (mL (mCat (mVarQ 1) (mL (mLst (mCons (mCall g_law_word 2 (mSrc 0 (mCons (m2 fAdd (mC (.int 4)) (mCall g_law_draw 2 (mSrc 0 (mCons (mC (.int 2)) mNil)))) mNil))) (mCons (mCall g_law_word 2 (mSrc 0 (mCons (mC (.int 7)) mNil))) mNil)))))) (gdName 1))
    (mSeq (mSet (mCall g_law_shuffle 2 (mSrc 0 (mCons (mVar 1) mNil))) (gdName 1))
    (mSeq (mSet (m2 fAdd (mC (.int 1)) (mCall g_law_draw 2 (mSrc 0 (mCons (mC (.int 4)) mNil)))) (gdName 2))
    (mRet (mTup (mCons (mL (mSlL (mVarQ 1) mNoP (mPart (mVar 2)))) (mCons (mL (mSlL (mVarQ 1) (mPart (mVar 2)) (mPart (m2 fAdd (m2 fAdd (mVarQ 2) (mC (.int 2))) (mCall g_law_draw 2 (mSrc 0 (mCons (mC (.int 5)) mNil))))))) mNil))))))))
theorem word_in {k : Nat} {i : Int} {n : Nat} {P : PD} {R : PX} (hi : i = (k : Int)) (h1 : k ≤ 8) (h2 : 1 ≤ k) (h3 : k ≤ n) (h : ∀ s : Str, s.length = k → nameOk s = true → P (.str s) (n - k)) : g_law_word [.src, .dat (.int i)] n P R := ⟨k, by rw [hi], h1, h2, h3, h⟩
theorem fix9_len : ∀ s ∈ fix9, nameOk s = true ∧ (s.length = 1 ∨ s.length = 2 ∨ s.length = 8 ∨ s.length = 6) := by
  intro s hs
  simp only [fix9, List.mem_cons, List.not_mem_nil, or_false] at hs
  rcases hs with rfl | rfl | rfl | rfl | rfl | rfl | rfl | rfl | rfl <;> decide +kernel
theorem fix9_nd : fix9.Nodup := by decide +kernel
theorem all_names {u v : Str} (hu : u.length = 4 ∨ u.length = 5) (hu' : nameOk u = true) (hv : v.length = 7) (hv' : nameOk v = true) : (fix9 ++ [u, v]).Nodup ∧ ∀ s ∈ fix9 ++ [u, v], Nam s := by
  refine ⟨?_, fun s hs => ?_⟩
  · rw [List.nodup_append]
    refine ⟨fix9_nd, ?_, ?_⟩
    · simp only [List.nodup_cons, List.mem_singleton, List.not_mem_nil, not_false_eq_true, List.nodup_nil, and_true]
      intro e; rw [e] at hu; omega
    · intro a ha b hb e
      subst e
      have := (fix9_len a ha).2
      simp only [List.mem_cons, List.not_mem_nil, or_false] at hb
      rcases hb with e | e
      · rw [e] at this; omega
      · rw [e] at this; omega
  · rcases List.mem_append.mp hs with h | h
    · exact ⟨(fix9_len s h).1, .inl h⟩
    · simp only [List.mem_cons, List.not_mem_nil, or_false] at h
      rcases h with rfl | rfl
      · exact ⟨hu', by omega⟩
      · exact ⟨hv', by omega⟩
theorem drawn_of {l : List Str} {c d : Nat} (nd : l.Nodup) (nm : ∀ s ∈ l, Nam s) (hl : l.length = 11) (c1 : 1 ≤ c) (c4 : c ≤ 4) (d2 : 2 ≤ d) (d6 : d ≤ 6) : Drawn (l.take c) ((l.drop c).take d) := by
  have sub : (l.take c ++ (l.drop c).take d) = l.take (c + d) := by
    rw [List.take_add]
  refine ⟨by rw [sub]; exact nd.sublist (List.take_sublist _ _), fun s hs => nm s ?_, ?_, ?_, ?_, ?_⟩
  · rw [sub] at hs; exact List.mem_of_mem_take hs
  all_goals simp only [List.length_take, List.length_drop, hl]; omega
theorem pr_law_owners_and_names (as n P R) (hl : as.length = 1) (h : g_law_owners_and_names as n P R) : m_law_owners_and_names (ends P R) (env0 as N_law_owners_and_names.length) n := by
  obtain ⟨rfl, hn, p⟩ := h
  show m_law_owners_and_names (ends P R) (env0 [.src] 3) n
  unfold m_law_owners_and_names
  walk_at "ev"
  refine ⟨line_small (by decide), draw_at (by decide) (by decide) (by omega) fun w w0 w1 => ⟨_, rfl, ?_⟩⟩
  have hw : ∃ k : Nat, 4 + w = (k : Int) ∧ (k = 4 ∨ k = 5) := ⟨(4 + w).toNat, by omega, by omega⟩
  obtain ⟨k, ek, hk⟩ := hw
  refine word_in (k := k) ek (by omega) (by omega) (by omega) fun u hu hu' => ?_
  refine word_in (k := 7) rfl (by decide) (by decide) (by omega) fun v hv hv' => ?_
  obtain ⟨a1, a2⟩ := all_names (u := u) (v := v) (by omega) hu' hv hv'
  refine ⟨line2, line_small (by decide), _, rfl, by show 11 < 10000; decide, by show 11 ≤ _; omega, fun es hp => ?_⟩
  obtain ⟨l, rfl, hl⟩ := perm_strs (l := fix9 ++ [u, v]) hp
  have len : l.length = 11 := by rw [hl.length_eq]; rfl
  refine draw_at (by decide) (by decide) (by show 0 < n - 1 - k - 7 - 11; omega) fun c c0 c1 => ⟨_, rfl, ?_⟩
  unfold mSlL
  walk_at "ev"
  refine draw_at (by decide) (by decide) (by show 0 < n - 1 - k - 7 - 11 - 1; omega) fun d d0 d1 => ⟨_, rfl, _, rfl, line2, ?_⟩
  have ec : ∃ c' : Nat, 1 + c = (c' : Int) ∧ 1 ≤ c' ∧ c' ≤ 4 := ⟨(1 + c).toNat, by omega, by omega, by omega⟩
  obtain ⟨c', ec, hc1, hc4⟩ := ec
  have ed : ∃ d' : Nat, 2 + d = (d' : Int) ∧ 2 ≤ d' ∧ d' ≤ 6 := ⟨(2 + d).toNat, by omega, by omega, by omega⟩
  obtain ⟨d', ed, hd2, hd6⟩ := ed
  have e2 : 1 + c + 2 + d = (c' : Int) + (d' : Int) := by omega
  rw [e2, ec, cut_map, cut_map, cut_pre (by omega), cut_mid (by omega)]
  refine p _ _ _ (drawn_of ((hl.nodup_iff).mpr a1) (fun s hs => a2 s (hl.mem_iff.mp hs)) len hc1 hc4 hd2 hd6) ?_
  show n ≤ n - 1 - k - 7 - 11 - 1 - 1 + 40
  omega
/-! ### entries -/
/-- grants among the drawn names, none twice -/
structure EntOk (os ns : List Str) (gs : List Gr) : Prop where
  ok : ∀ a ∈ gs, okGr a = true
  tk : ∀ a ∈ gs, a.k ∈ ns
  gv : ∀ a ∈ gs, a.g ∈ os ++ ns
  nd : gs.Nodup
def g_law_entries : G := fun as n P _ => ∃ (os ns : List Str) (most : Int), as = [.src, .dat (.list (os.map PyData.str)), .dat (.list (ns.map PyData.str)), .dat (.int most)] ∧ Drawn os ns ∧ 0 ≤ most ∧ most ≤ 100 ∧ 2000 ≤ n ∧ ∀ (gs : List Gr) (n' : Nat), EntOk os ns gs → (gs.length : Int) ≤ most → n ≤ n' + 2000 → P (.list (gs.map enc)) n'
def N_law_entries : List Str := ["source", "owners", "names", "most", "far", "deep", "found", "k", "taker", "givers", "time", "level", "passes", "giver", "other", "grant", "name"]
def e_law_entries : MS := (mSeq (mSet (mTup (mCons (mVar 10) (mCons (mVar 13) (mCons (mVar 8) (mCons (mVar 11) (mCons (mVar 12) mNil)))))) (gdName 15))
    (mIfS (mT (m2 (fIn true) (mVarQ 15) (mVarQ 6))) (mApp 6 (mVar 15)) mNext))
def b_law_entries_1 : MS := (mSeq (mSet (mCall g_law_pick 2 (mSrc 0 (mCons (mVar 2) mNil))) (gdName 8))
    (mSeq (mSet (mL (mComp (mItems (mL (mCat (mVarQ 1) (mVarQ 2)))) (gdName 16) [16] (mT (m2 (fEq true) (mVarQ 16) (mVarQ 8))) (mVar 16))) (gdName 9))
    (mSeq (mSet (m2 fSub (mCall g_law_draw 2 (mSrc 0 (mCons (m2 fAdd (m2 fMul (mC (.int 2)) (mVarQ 4)) (mC (.int 1))) mNil))) (mVarQ 4)) (gdName 10))
    (mSeq (mPar 11 12 (mCons (m2 fAdd (mC (.int 1)) (mCall g_law_draw 2 (mSrc 0 (mCons (mC (.int 9)) mNil)))) (mCons (mCall g_law_draw 2 (mSrc 0 (mCons (m2 fAdd (mVarQ 5) (mC (.int 1))) mNil))) mNil)))
    (mSeq (mSet (mCall g_law_pick 2 (mSrc 0 (mCons (mVar 9) mNil))) (gdName 13))
    (mSeq (mIfS (mAnd (mT (m2 (fEq true) (mVarQ 6) (mL (mLst mNil)))) (mT (m2 fGt (mCall g_law_draw 2 (mSrc 0 (mCons (mC (.int 3)) mNil))) (mC (.int 0))))) (mSeq (mSet (mCall g_law_pick 2 (mSrc 0 (mLend 6 mNil))) (gdName 14))
    (mIfS (mT (m2 (fEq true) (mIx (mVarQ 14) (mC (.int 2))) (mVarQ 8))) (mSeq (mSet (mIx (mVarQ 14) (mC (.int 2))) (gdName 13))
    (mSeq (mSet (m2 fAdd (mC (.int 1)) (mCall g_law_draw 2 (mSrc 0 (mCons (mIx (mVarQ 14) (mC (.int 3))) mNil)))) (gdName 11))
    (mSeq (mSet (mCall g_law_draw 2 (mSrc 0 (mCons (m2 fAdd (mIx (mVarQ 14) (mC (.int 4))) (mC (.int 1))) mNil))) (gdName 12))
    (mSet (m2 fMin (m2 fAdd (mIx (mVarQ 14) (mC (.int 0))) (mCall g_law_draw 2 (mSrc 0 (mCons (mC (.int 3)) mNil)))) (m2 fPow (mC (.int 10)) (mC (.int 30)))) (gdName 10))))) mNext)) mNext)
    (mSeq (mSet (mTup (mCons (mVar 10) (mCons (mVar 13) (mCons (mVar 8) (mCons (mVar 11) (mCons (mVar 12) mNil)))))) (gdName 15))
    (mIfS (mT (m2 (fIn true) (mVarQ 15) (mVarQ 6))) (mApp 6 (mVar 15)) mNext))))))))
def m_law_entries : MS := (mSeq (mSet (mIx (mL (mLst (mCons (mC (.int 2)) (mCons (mC (.int 4)) (mCons (mC (.int 12)) (mCons (m2 fPow (mC (.int 10)) (mC (.int 30))) mNil)))))) (mCall g_law_draw 2 (mSrc 0 (mCons (mC (.int 4)) mNil)))) (gdName 4))
    (mSeq (mSet (mIx (mL (mLst (mCons (mC (.int 1)) (mCons (mC (.int 3)) (mCons (mC (.int 20)) mNil))))) (mCall g_law_draw 2 (mSrc 0 (mCons (mC (.int 3)) mNil)))) (gdName 5))
    (mSeq (mOwn 6 (mLst mNil))
    (mSeq (mFor (mRng1 (mCall g_law_draw 2 (mSrc 0 (mCons (m2 fAdd (mVarQ 3) (mC (.int 1))) mNil)))) (gdName 7) b_law_entries_1)
    (mRetO 6)))))
instance : DecidableEq Gr := fun a b => by
  cases a; cases b
  simp only [Gr.mk.injEq]
  exact inferInstance
theorem eqv_nilL (l : List D) : PyData.eqv (.list l) (.list []) = l.isEmpty := by
  cases l <;> simp [PyData.eqv, PyData.eqvAll]
theorem okD_encs {l : List D} (h : ∀ d ∈ l, ∃ a, d = enc a) : okD (.list l) = true ∧ okD (.tuple l) = true := by
  obtain ⟨h1, h2⟩ := encs_plain h
  constructor <;>
  · unfold okD
    simp only [PyData.plain, PyData.depth, h1, Bool.true_and]
    exact decide_eq_true (by omega)
theorem all_encs (gs : List Gr) : ∀ d ∈ gs.map enc, ∃ a, d = enc a := fun d hd => by
  obtain ⟨a, _, rfl⟩ := List.mem_map.mp hd; exact ⟨a, rfl⟩
theorem enc_inj {a b : Gr} (h : enc a = enc b) : a = b := by
  cases a; cases b
  simp only [enc, PyData.tuple.injEq, List.cons.injEq, PyData.int.injEq, PyData.str.injEq, and_true] at h
  obtain ⟨h1, h2, h3, h4, h5⟩ := h
  subst h1 h2 h3 h4 h5; rfl
theorem eqv_enc (a b : Gr) : PyData.eqv (enc a) (enc b) = decide (a = b) := by
  by_cases h : a = b
  · subst h
    rw [decide_eq_true rfl]
    simp [enc, PyData.eqv, PyData.eqvAll]
  · rw [decide_eq_false h]
    cases e : PyData.eqv (enc a) (enc b) with
    | false => rfl
    | true =>
      exfalso
      apply h
      cases a; cases b
      simp only [enc, PyData.eqv, PyData.eqvAll, Bool.and_eq_true, beq_iff_eq, and_true] at e
      obtain ⟨h1, h2, h3, h4, h5⟩ := e
      subst h1 h2 h3 h4 h5; rfl
theorem any_enc (gs : List Gr) (a : Gr) : ((gs.map enc).any fun z => PyData.eqv z (enc a)) = decide (a ∈ gs) := by
  induction gs with
  | nil => rfl
  | cons b r ih =>
    rw [List.map_cons, List.any_cons, ih, eqv_enc]
    by_cases h : b = a
    · subst h; simp
    · rw [decide_eq_false h, Bool.false_or]
      have h2 : a ≠ b := fun e => h e.symm
      simp [h2]
theorem end_law_entries {De : DEnds} {os ns : List Str} {gs : List Gr} {a : Gr} {o2 o3 o4 o5 o6 k v9 v14 v15 v16 : Sl} {n : Nat} (he : EntOk os ns gs) (ha : okGr a = true) (hk : a.k ∈ ns) (hg : a.g ∈ os ++ ns) (hl : gs.length ≤ 1000)
    (h : ∀ gs' v15, EntOk os ns gs' → gs'.length ≤ gs.length + 1 → De.nx [.src, o2, o3, o4, o5, o6, .own (gs'.map enc), k, .dat (.str a.k), v9, .dat (.int a.t), .dat (.int a.l), .dat (.int a.p), .dat (.str a.g), v14, v15, v16] n) :
    e_law_entries De [.src, o2, o3, o4, o5, o6, .own (gs.map enc), k, .dat (.str a.k), v9, .dat (.int a.t), .dat (.int a.l), .dat (.int a.p), .dat (.str a.g), v14, v15, v16] n := by
  unfold e_law_entries mApp
  walk_at "ev"
  refine ⟨line_small (by decide), _, fIn_seq (x := enc a) (ds := gs.map enc) rfl (okD_enc a) (encs_plain (all_encs gs)).1, _, rfl, ?_⟩
  rw [if_pos rfl, any_enc]
  by_cases hm : a ∈ gs
  · rw [decide_eq_true hm]
    exact h gs _ he (by omega)
  · rw [decide_eq_false hm]
    refine iteT_of rfl ⟨by rw [List.length_map]; have : (10001 : Nat) ≤ sizeLine := (by rw [sizeLine_eq]; decide); omega, ?_⟩
    have e : gs.map enc ++ [enc a] = (gs ++ [a]).map enc := by rw [List.map_append]; rfl
    show De.nx [.src, o2, o3, o4, o5, o6, .own (gs.map enc ++ [enc a]), k, .dat (.str a.k), v9, .dat (.int a.t), .dat (.int a.l), .dat (.int a.p), .dat (.str a.g), v14, .dat (enc a), v16] n
    rw [e]
    refine h _ _ ⟨?_, ?_, ?_, ?_⟩ (by simp)
    · intro b hb
      rcases List.mem_append.mp hb with hb | hb
      · exact he.ok b hb
      · rw [List.mem_singleton.mp hb]; exact ha
    · intro b hb
      rcases List.mem_append.mp hb with hb | hb
      · exact he.tk b hb
      · rw [List.mem_singleton.mp hb]; exact hk
    · intro b hb
      rcases List.mem_append.mp hb with hb | hb
      · exact he.gv b hb
      · rw [List.mem_singleton.mp hb]; exact hg
    · rw [List.nodup_append]
      refine ⟨he.nd, by simp, fun x hx y hy e => ?_⟩
      rw [List.mem_singleton] at hy
      subst e hy
      exact hm hx
theorem pick_in {as : List Sl} {ds : List D} {n : Nat} {P : PD} {R : PX} (e : lstOf as = some ds) (h1 : 0 < ds.length) (h2 : ds.length ≤ 10000) (h3 : 0 < n) (h : ∀ d ∈ ds, P d (n - 1)) : g_law_pick as n P R := ⟨ds, e, h1, Nat.le_trans h2 (by rw [sizeLine_eq]; decide), h3, h⟩
theorem t_law_entries {De : DEnds} {os ns : List Str} {gs : List Gr} {far deep : Int} {o3 k v8 v9 v10 v11 v12 v13 v14 v15 v16 : Sl} {n : Nat} (hd : Drawn os ns) (he : EntOk os ns gs) (hl : gs.length ≤ 1000) (f1 : 1 ≤ far) (f2 : far ≤ big) (d1 : 0 ≤ deep) (d2 : deep ≤ 20) (hn : 12 ≤ n)
    (h : ∀ gs' v8 v9 v10 v11 v12 v13 v14 v15 v16 n', EntOk os ns gs' → gs'.length ≤ gs.length + 1 → n ≤ n' + 12 → De.nx [.src, .dat (.list (os.map PyData.str)), .dat (.list (ns.map PyData.str)), o3, .dat (.int far), .dat (.int deep), .own (gs'.map enc), k, v8, v9, v10, v11, v12, v13, v14, v15, v16] n') :
    b_law_entries_1 De [.src, .dat (.list (os.map PyData.str)), .dat (.list (ns.map PyData.str)), o3, .dat (.int far), .dat (.int deep), .own (gs.map enc), k, v8, v9, v10, v11, v12, v13, v14, v15, v16] n := by
  unfold b_law_entries_1
  have ef : (mSeq (mSet (mTup (mCons (mVar 10) (mCons (mVar 13) (mCons (mVar 8) (mCons (mVar 11) (mCons (mVar 12) mNil)))))) (gdName 15))
    (mIfS (mT (m2 (fIn true) (mVarQ 15) (mVarQ 6))) (mApp 6 (mVar 15)) mNext) : MS) = e_law_entries := rfl
  rw [ef]
  walk_at "ev"
  refine pick_in rfl (by rw [List.length_map]; have := hd.n2; omega) (by rw [List.length_map]; have := hd.n6; omega) (by omega) fun td ht => ?_
  obtain ⟨t, ht', rfl⟩ := List.mem_map.mp ht
  clear ht
  have ht := ht'
  unfold mComp mItems
  walk_at "ev"
  have hto : t ∈ os ++ ns := List.mem_append_right _ ht
  have fin : ∀ (ti : Int) (g : Str) (l p : Int) (v9 v14 : Sl) (n' : Nat), -big ≤ ti → ti ≤ big → g ∈ os ++ ns → g ≠ t → 1 ≤ l → l ≤ 9 → 0 ≤ p → p ≤ 20 → n ≤ n' + 12 →
      e_law_entries De [.src, .dat (.list (os.map PyData.str)), .dat (.list (ns.map PyData.str)), o3, .dat (.int far), .dat (.int deep), .own (gs.map enc), k, .dat (.str t), v9, .dat (.int ti), .dat (.int l), .dat (.int p), .dat (.str g), v14, v15, v16] n' := fun ti g l p v9 v14 n' t1 t2 hg hgt l1 l2 p1 p2 hn' => by
    refine end_law_entries (a := ⟨ti, g, t, l, p⟩) he ?_ ht hg hl fun gs' v15 h1 h2 => h gs' _ _ _ _ _ _ _ _ _ n' h1 h2 hn'
    have q1 := (hd.nm g hg).1
    have q2 := (hd.nm t hto).1
    have q3 : (g == t) = false := beq_eq_false_iff_ne.mpr hgt
    simp [okGr, q1, q2, q3, t1, t2, l1, l2, p1, p2]
  have bb : big < 2 ^ 127 := by decide
  have gne : ((os ++ ns).filter fun s => !(s == t)) ≠ [] := fun z => by
    have o1 := hd.o1
    cases os with
    | nil => simp at o1
    | cons o r =>
      have : o ∈ (o :: r ++ ns).filter fun s => !(s == t) := by
        rw [List.mem_filter]
        refine ⟨by simp, ?_⟩
        have nd := hd.nd
        rw [List.nodup_append] at nd
        have := nd.2.2 o (by simp) t ht
        simp [this]
      rw [z] at this; cases this
  refine ⟨by rw [List.length_map, List.length_map]; have a1 := hd.o4; have a2 := hd.n6; exact line_small (by omega), ?_⟩
  have mem_str : ∀ d ∈ os.map PyData.str ++ ns.map PyData.str, ∃ s, d = .str s := fun d hd => by
    rw [← List.map_append] at hd
    obtain ⟨s, _, rfl⟩ := List.mem_map.mp hd; exact ⟨s, rfl⟩
  refine comp_pure (fun d => !PyData.eqv d (.str t)) id _ _ (fun d hd => ⟨_, rfl, fun Q q => ?_⟩) (fun d hd ρ1 e _ Q q => ?_) ?_ ?_
  · obtain ⟨s, rfl⟩ := mem_str d hd
    walk_at "ev"
    exact q
  · cases e
    walk_at "ev"
    exact q
  · rw [List.length_nil, List.length_append, List.length_map, List.length_map]
    have a1 := hd.o4; have a2 := hd.n6
    exact line_small (by omega)
  have eg : [] ++ ((os.map PyData.str ++ ns.map PyData.str).filter fun d => !PyData.eqv d (.str t)).map id = ((os ++ ns).filter fun s => !(s == t)).map PyData.str := by
    rw [List.nil_append, List.map_id, ← List.map_append, List.filter_map]
    congr 1
  rw [eg]
  generalize hgv : ((os ++ ns).filter fun s => !(s == t)) = gv at gne
  have hgvm : ∀ s ∈ gv, s ∈ os ++ ns ∧ s ≠ t := fun s hs => by
    rw [← hgv, List.mem_filter] at hs
    exact ⟨hs.1, by simpa using hs.2⟩
  have hgl : gv.length ≤ 10 := by
    rw [← hgv]
    refine Nat.le_trans (List.length_filter_le _ _) ?_
    rw [List.length_append]; have a1 := hd.o4; have a2 := hd.n6; omega
  have h128 : (2 : Int) ^ 128 < 2 ^ 200 := by decide
  have h127 : (2 : Int) ^ 127 * 2 = 2 ^ 128 := by decide
  refine ⟨by decide, draw_at (by omega) (by omega) (by omega) fun t0 t0l t0h => ⟨_, rfl, ?_⟩⟩
  refine draw_at (by decide) (by decide) (by omega) fun l0 l0l l0h => ⟨_, rfl, ?_⟩
  refine draw_at (by omega) (by omega) (by omega) fun p0 p0l p0h => ⟨_, _, rfl, ?_⟩
  refine pick_in rfl (by rw [List.length_map]; cases gv with | nil => exact absurd rfl gne | cons _ _ => simp) (by rw [List.length_map]; omega) (by omega) fun gd hgd => ?_
  obtain ⟨g, hg, rfl⟩ := List.mem_map.mp hgd
  obtain ⟨hg1, hg2⟩ := hgvm g hg
  refine ⟨Nat.zero_le _, _, (show fEq true (.list (gs.map enc)) (.list []) = some (.bool (!PyData.eqv (.list (gs.map enc)) (.list []))) from if_pos ⟨(okD_encs (all_encs gs)).1, rfl⟩), _, rfl, ?_⟩
  rw [eqv_nilL]
  have plain : ∀ n', n ≤ n' + 12 → e_law_entries De [.src, .dat (.list (os.map PyData.str)), .dat (.list (ns.map PyData.str)), o3, .dat (.int far), .dat (.int deep), .own (gs.map enc), k, .dat (.str t), .dat (.list (gv.map PyData.str)), .dat (.int (t0 - far)), .dat (.int (1 + l0)), .dat (.int p0), .dat (.str g), v14, v15, v16] n' := fun n' h' =>
    fin _ _ _ _ _ _ n' (by omega) (by omega) hg1 hg2 (by omega) (by omega) p0l (by omega) h'
  refine if_cases (fun hne => ?_) fun _ => plain _ (by omega)
  refine draw_at (by decide) (by decide) (by omega) fun c c0 c1 => ⟨_, rfl, _, rfl, ?_⟩
  refine if_cases (fun _ => ?_) fun _ => plain _ (by omega)
  refine ⟨_, .inl rfl, pick_in rfl (by
    rw [List.length_map]
    cases gs with
    | nil => simp at hne
    | cons _ _ => simp) (by rw [List.length_map]; omega) (by omega) fun ad had => ?_⟩
  obtain ⟨a, ha, rfl⟩ := List.mem_map.mp had
  obtain ⟨⟨b1, b2⟩, _, _, _, ⟨b3, b4⟩, b5, b6⟩ := okGr_iff (he.ok a ha)
  refine ⟨_, ix2 _ _ _ _, _, eq_strs _ _ _, _, rfl, ?_⟩
  have plain2 : ∀ n' v14, n ≤ n' + 12 → e_law_entries De [.src, .dat (.list (os.map PyData.str)), .dat (.list (ns.map PyData.str)), o3, .dat (.int far), .dat (.int deep), .own (gs.map enc), k, .dat (.str t), .dat (.list (gv.map PyData.str)), .dat (.int (t0 - far)), .dat (.int (1 + l0)), .dat (.int p0), .dat (.str g), v14, v15, v16] n' := fun n' v14 h' =>
    fin _ _ _ _ _ _ n' (by omega) (by omega) hg1 hg2 (by omega) (by omega) p0l (by omega) h'
  refine if_cases (fun hat => ?_) fun _ => plain2 _ _ (by omega)
  have hat' : a.k ≠ t := by simpa using hat
  refine ⟨_, ix2 _ _ _ _, _, ix3 _ _ _ _ _, draw_at (by omega) (by omega) (by omega) fun l1 l1l l1h => ⟨_, rfl, _, ix4 _ _ _ _ _ _, _, rfl, ?_⟩⟩
  refine draw_at (by omega) (by omega) (by omega) fun p1 p1l p1h => ⟨_, ix0 _ _, ?_⟩
  refine draw_at (by decide) (by decide) (by omega) fun s0 s0l s0h => ⟨_, rfl, ⟨by decide, by decide, by decide⟩, _, rfl, ?_⟩
  rw [big_eq]
  refine fin _ _ _ _ _ _ _ ?_ ?_ (List.mem_append_right _ (he.tk a ha)) hat' (by omega) (by omega) p1l (by omega) (by omega)
  · split <;> omega
  · split <;> omega
theorem pr_law_entries (as n P R) (hl : as.length = 4) (h : g_law_entries as n P R) : m_law_entries (ends P R) (env0 as N_law_entries.length) n := by
  obtain ⟨os, ns, most, rfl, hd, m0, m1, hn, p⟩ := h
  show m_law_entries (ends P R) (env0 [.src, .dat (.list (os.map PyData.str)), .dat (.list (ns.map PyData.str)), .dat (.int most)] 17) n
  unfold m_law_entries mFor mRng1
  walk_at "ev"
  rw [big_eq]
  refine ⟨⟨by decide, by decide, by decide⟩, line_small (by decide), draw_at (by decide) (by decide) (by omega) fun a a0 a1 => ?_⟩
  obtain ⟨fd, ef, hf⟩ := atI_in (ds := [.int 2, .int 4, .int 12, .int big]) a0 a1
  obtain ⟨far, rfl, f1, f2⟩ : ∃ far : Int, fd = .int far ∧ 1 ≤ far ∧ far ≤ big := by
    have b1 : (100 : Int) ≤ big := by decide
    simp only [List.mem_cons, List.not_mem_nil, or_false] at hf
    rcases hf with rfl | rfl | rfl | rfl <;> exact ⟨_, rfl, by omega, by omega⟩
  refine ⟨_, ef, line_small (by decide), draw_at (by decide) (by decide) (by omega) fun b b0 b1 => ?_⟩
  obtain ⟨dd, ed, hdd⟩ := atI_in (ds := [.int 1, .int 3, .int 20]) b0 b1
  obtain ⟨deep, rfl, d1, d2⟩ : ∃ deep : Int, dd = .int deep ∧ 0 ≤ deep ∧ deep ≤ 20 := by
    simp only [List.mem_cons, List.not_mem_nil, or_false] at hdd
    rcases hdd with rfl | rfl | rfl <;> exact ⟨_, rfl, by omega, by omega⟩
  refine ⟨_, ed, Nat.zero_le _, draw_at (by omega) (by omega) (by omega) fun c c0 c1 => ⟨_, rfl, ⟨by omega, by omega⟩, ?_⟩⟩
  have hlen : (rngD 0 c.toNat).length = c.toNat := by simp [rngD]
  refine for_inv5 (fun i ρ n' => n - 3 ≤ n' + 12 * i ∧ ∃ gs v7 v8 v9 v10 v11 v12 v13 v14 v15 v16, EntOk os ns gs ∧ gs.length ≤ i ∧ ρ = [.src, .dat (.list (os.map PyData.str)), .dat (.list (ns.map PyData.str)), .dat (.int most), .dat (.int far), .dat (.int deep), .own (gs.map enc), v7, v8, v9, v10, v11, v12, v13, v14, v15, v16]) (rngD 0 c.toNat) (fun i d ρ n' X hi h hX => ?_)
    ⟨by omega, [], _, _, _, _, _, _, _, _, _, _, ⟨(fun _ h => nomatch h), (fun _ h => nomatch h), (fun _ h => nomatch h), List.nodup_nil⟩, Nat.le_refl _, rfl⟩ (fun ρ n' h => ?_)
  · obtain ⟨h1, gs, v7, v8, v9, v10, v11, v12, v13, v14, v15, v16, he, hg, e⟩ := h
    subst e
    have hi' : i < c.toNat := by rw [← hlen]; exact (List.getElem?_eq_some_iff.mp hi).1
    refine ⟨_, rfl, ?_⟩
    exact t_law_entries hd he (by omega) f1 f2 d1 d2 (by omega) fun gs' v8 v9 v10 v11 v12 v13 v14 v15 v16 n2 h2 h3 h4 => hX _ _ ⟨by omega, gs', _, _, _, _, _, _, _, _, _, _, h2, by omega, rfl⟩
  · obtain ⟨h1, gs, v7, v8, v9, v10, v11, v12, v13, v14, v15, v16, he, hg, e⟩ := h
    subst e
    rw [hlen] at h1 hg
    exact ⟨_, rfl, p gs n' he (by omega) (by omega)⟩
/-! ### the roll made -/
def g_law_make : G := fun as n P R => ∃ l g, as = [.dat (.list l), .dat g] ∧ 1 ≤ l.length ∧ l.length ≤ 4 ∧ g_Roll l [g] n P R
def N_law_make : List Str := ["owners", "entries"]
def m_law_make : MS := (mSeq (mIfS (mT (m2 (fEq false) (m1 fLen (mVarQ 0)) (mC (.int 1)))) (mRet (mMakePK 1 g_Roll (mCons (mIx (mVarQ 0) (mC (.int 0))) mNil) (mCons (mVar 1) mNil))) mNext)
    (mSeq (mIfS (mT (m2 (fEq false) (m1 fLen (mVarQ 0)) (mC (.int 2)))) (mRet (mMakePK 1 g_Roll (mCons (mIx (mVarQ 0) (mC (.int 0))) (mCons (mIx (mVarQ 0) (mC (.int 1))) mNil)) (mCons (mVar 1) mNil))) mNext)
    (mSeq (mIfS (mT (m2 (fEq false) (m1 fLen (mVarQ 0)) (mC (.int 3)))) (mRet (mMakePK 1 g_Roll (mCons (mIx (mVarQ 0) (mC (.int 0))) (mCons (mIx (mVarQ 0) (mC (.int 1))) (mCons (mIx (mVarQ 0) (mC (.int 2))) mNil))) (mCons (mVar 1) mNil))) mNext)
    (mRet (mMakePK 1 g_Roll (mCons (mIx (mVarQ 0) (mC (.int 0))) (mCons (mIx (mVarQ 0) (mC (.int 1))) (mCons (mIx (mVarQ 0) (mC (.int 2))) (mCons (mIx (mVarQ 0) (mC (.int 3))) mNil)))) (mCons (mVar 1) mNil))))))
theorem pr_law_make (as n P R) (hl : as.length = 2) (h : g_law_make as n P R) : m_law_make (ends P R) (env0 as N_law_make.length) n := by
  obtain ⟨l, g, rfl, l1, l4, h⟩ := h
  show m_law_make (ends P R) (env0 [.dat (.list l), .dat g] 2) n
  unfold m_law_make mMakePK
  match l, l1, l4 with
  | [a], _, _ =>
    walk_at "ev"
    exact iteT_of (by decide) ⟨line1, h⟩
  | [a, b], _, _ =>
    walk_at "ev"
    exact iteF_of (by decide) (iteT_of (by decide) ⟨line2, h⟩)
  | [a, b, c], _, _ =>
    walk_at "ev"
    exact iteF_of (by decide) (iteF_of (by decide) (iteT_of (by decide) ⟨line_small (by decide), h⟩))
  | [a, b, c, d], _, _ =>
    walk_at "ev"
    exact iteF_of (by decide) (iteF_of (by decide) (iteF_of (by decide) ⟨line_small (by decide), h⟩))
  | _ :: _ :: _ :: _ :: _ :: _, _, l4 => exact absurd l4 (by simp)
end DS

/-! Q4: law k03: what it expects, what is raised, what it changes. -/
namespace DS
open PySem L2
local macro_rules | `(tactic| walk_at "ev") => `(tactic| simp only [mRaise, mLend, mLof, mTof, mBack, mCatT, mSlT, mSlB, mSetI, mNoP, mPart, mCat, mSeq, mRet, mVar, mVarQ, slD, mC, m1, m2, mT, mNot, mAnd, mOr, mAndV, mOrV, mNotV, mIf, mChain, mNil, mCons, mSrc, mTup, mLst, mCall, mIx, mL, mIs, mIs2, mIfS, mNext, mSet, mOwn, mRetO, mRetN, mExp, mPar, mNev, datAll, gdName, gdTup, setAll, fI, fIc, fNeg, fLen, fInt, fAbs, fIsN, env0, wipeR,
  is_int_NoneType, is_int_bool, is_int_int, is_int_str, is_int_list, is_int_tuple, is_bool_NoneType, is_bool_bool, is_bool_int, is_bool_str, is_bool_list, is_bool_tuple, is_str_NoneType, is_str_bool, is_str_int, is_str_str, is_str_list, is_str_tuple, is_tuple_NoneType, is_tuple_bool, is_tuple_int, is_tuple_str, is_tuple_list, is_tuple_tuple, is_list_NoneType, is_list_bool, is_list_int, is_list_str, is_list_list, is_list_tuple,
  List.map, List.length_cons, List.length_nil, List.getElem?_cons_zero, List.getElem?_cons_succ, List.set_cons_zero, List.set_cons_succ, List.replicate, List.append_assoc, List.cons_append, List.nil_append, Option.map_some, Option.some.injEq, Sl.dat.injEq, Sl.own.injEq, exists_eq_left', exists_eq_left, exists_and_left, exists_and_right, true_and, and_true, Bool.true_eq_false, if_true, if_false, reduceIte, Bool.false_eq_true, Bool.not_true, Bool.not_false, PyData.bool.injEq, PyData.int.injEq, PyData.str.injEq, PyData.tuple.injEq, PyData.list.injEq, Nat.reduceAdd, Nat.reduceSub, Option.map_none, decide_eq_true_eq, ex_if, eq_ints, eq_strs, eq_bools, ix0, ix1, ix2, ix3, ix4, lx0, lx1, lx2, lx3])
def f_lexp : List D → Option D
  | [.list os, g] => if (saneAll os = true ∧ sane g = true) then some (rerr os g) else none
  | _ => none
abbrev g_law_expected3 : G := gF f_lexp
def N_law_expected3 : List Str := ["owners", "entries", "k"]
def b_law_expected3_1 : MS := (mSeq (mIfS (mT (m2 (fIsN true) (mCall g_grant_error 1 (mCons (mIx (mVarQ 1) (mVarQ 2)) mNil)) (mC .none))) (mRet (mTup (mCons (mC (.str "grant")) (mCons (mVar 2) (mCons (mCall g_grant_error 1 (mCons (mIx (mVarQ 1) (mVarQ 2)) mNil)) mNil))))) mNext)
    (mSeq (mIfS (mT (m2 (fIn false) (mIx (mIx (mVarQ 1) (mVarQ 2)) (mC (.int 2))) (mVarQ 0))) (mRet (mTup (mCons (mC (.str "owned")) (mCons (mVar 2) mNil)))) mNext)
    (mIfS (mT (m2 (fIn false) (mIx (mVarQ 1) (mVarQ 2)) (mSlB (mVarQ 1) mNoP (mPart (mVar 2))))) (mRet (mTup (mCons (mC (.str "repeated")) (mCons (mVar 2) mNil)))) mNext)))
def b_law_expected3_2 : MS := (mIfS (mOr (mNot (mT (mCall g_law_is_word 1 (mCons (mIx (mVarQ 0) (mVarQ 2)) mNil)))) (mT (m2 (fIn false) (mIx (mVarQ 0) (mVarQ 2)) (mL (mSlL (mVarQ 0) mNoP (mPart (mVar 2))))))) (mRet (mTup (mCons (mC (.str "owner")) (mCons (mVar 2) mNil)))) mNext)
def m_law_expected3 : MS := (mSeq (mIfS (mOr (mT (m2 fLt (m1 fLen (mVarQ 0)) (mC (.int 1)))) (mT (m2 fGt (m1 fLen (mVarQ 0)) (mC (.int 4))))) (mRet (mTup (mCons (mC (.str "owners")) mNil))) mNext)
    (mSeq (mFor (mRng1 (m1 fLen (mVarQ 0))) (gdName 2) b_law_expected3_2)
    (mSeq (mIfS (mOr (mAnd (mNot (mT (mIs "list" (mVarQ 1)))) (mNot (mT (mIs "tuple" (mVarQ 1))))) (mT (m2 fGt (m1 fLen (mVarQ 1)) (mC (.int 60))))) (mRet (mTup (mCons (mC (.str "grants")) mNil))) mNext)
    (mSeq (mFor (mRng1 (m1 fLen (mVarQ 1))) (gdName 2) b_law_expected3_1)
    (mRet (mC .none))))))
theorem rng_at {m i : Nat} {d : D} (h : (rngD 0 m)[i]? = some d) : i < m ∧ d = .int (i : Int) := by
  have hl : i < m := by
    have := (List.getElem?_eq_some_iff.mp h).1
    simpa [rngD] using this
  refine ⟨hl, ?_⟩
  unfold rngD at h
  rw [List.getElem?_map, List.getElem?_range hl] at h
  have := Option.some.inj h
  rw [← this]; simp
theorem rng_len (m : Nat) : (rngD 0 m).length = m := by simp [rngD]
theorem fIx_at {g : D} {gs : List D} {i : Nat} {x : D} (e : seqOf g = some gs) (h : gs[i]? = some x) : fIx g (.int (i : Int)) = some x := by
  have hl := (List.getElem?_eq_some_iff.mp h).1
  have e2 : atI gs (i : Int) = some x := by
    unfold atI ixN
    rw [if_pos (by omega), if_pos (by omega)]
    show gs[((i : Nat) : Int).toNat]? = some x
    rw [Int.toNat_natCast]; exact h
  cases g with
  | list ds => cases e; exact e2
  | tuple ds => cases e; exact e2
  | none => cases e
  | bool _ => cases e
  | int _ => cases e
  | str _ => cases e
  | dict _ => cases e
theorem t_lexp2 {De : DEnds} {os : List D} {s1 : Sl} {i : Nat} {x : D} {n : Nat} (hx : os[i]? = some x) (sx : sane x = true) (hj : ∀ j, j < i → obad os j = none) (h1 : ∀ r, obad os i = some r → De.rt r n) (h2 : obad os i = none → De.nx [.dat (.list os), s1, .dat (.int (i : Int))] n) :
    b_law_expected3_2 De [.dat (.list os), s1, .dat (.int (i : Int))] n := by
  have hi : i < os.length := (List.getElem?_eq_some_iff.mp hx).1
  obtain ⟨c1, c2⟩ := cut_to (xs := os) hi
  have ix : fIx (.list os) (.int (i : Int)) = some x := fIx_at rfl hx
  unfold b_law_expected3_2 mSlL
  walk_at "ev"
  refine ⟨_, ix, gF_at (ds := [x]) (if_pos (sane_pl sx)) ⟨_, rfl, ?_⟩⟩
  have e : obad os i = if !isName x || (os.take i).any (fun z => PyData.eqv z x) then some (.tuple [.str "owner", .int i]) else none := by unfold obad; rw [hx]
  cases hn : isName x with
  | false =>
    rw [hn] at e
    exact ⟨line2, h1 _ e⟩
  | true =>
    rw [hn] at e
    refine iteF ?_
    refine ⟨_, ix, ?_⟩
    rw [c1]
    have pl := names_flat (obad_take (Nat.le_of_lt hi) hj)
    refine ⟨_, if_pos ⟨okD_name hn, pl⟩, _, rfl, ?_⟩
    cases ha : (os.take i).any (fun z => PyData.eqv z x) with
    | true =>
      rw [ha] at e
      exact ⟨line2, h1 _ e⟩
    | false =>
      rw [ha] at e
      exact h2 e
theorem t_lexp1 {De : DEnds} {os gs : List D} {g : D} {i : Nat} {x : D} {n : Nat} (eg : seqOf g = some gs) (hx : gs[i]? = some x) (sx : sane x = true) (ho : ∀ d ∈ os, isName d = true) (hj : ∀ j, j < i → gbad os gs j = none) (h1 : ∀ r, gbad os gs i = some r → De.rt r n)
    (h2 : gbad os gs i = none → De.nx [.dat (.list os), .dat g, .dat (.int (i : Int))] n) : b_law_expected3_1 De [.dat (.list os), .dat g, .dat (.int (i : Int))] n := by
  have hi : i < gs.length := (List.getElem?_eq_some_iff.mp hx).1
  have ix : fIx g (.int (i : Int)) = some x := fIx_at eg hx
  unfold b_law_expected3_1
  walk_at "ev"
  refine ⟨_, ix, gF_at (ds := [x]) (if_pos sx) ?_⟩
  have e : gbad os gs i = if isN (gerr x) = false then some (.tuple [.str "grant", .int i, gerr x]) else if os.any (fun z => PyData.eqv z (tkr x)) = true then some (.tuple [.str "owned", .int i]) else
      if (gs.take i).any (fun z => PyData.eqv z x) = true then some (.tuple [.str "repeated", .int i]) else none := by unfold gbad; rw [hx]
  show if (!isN (gerr x)) = true then _ else _
  cases hn : isN (gerr x) with
  | false =>
    rw [if_pos hn] at e
    exact ⟨_, ix, gF_at (ds := [x]) (if_pos sx) ⟨line3, h1 _ e⟩⟩
  | true =>
    rw [if_neg (by rw [hn]; decide)] at e
    refine iteF ?_
    obtain ⟨a, rfl, ha⟩ := isN_gerr hn
    have et : tkr (enc a) = .str a.k := rfl
    rw [et] at e
    refine ⟨_, ix, _, ix2 _ _ _ _, _, fIn_seq (ds := os) rfl (okD_str _) (names_flat ho), _, rfl, ?_⟩
    rw [if_neg Bool.false_ne_true]
    cases hb : os.any (fun z => PyData.eqv z (.str a.k)) with
    | true =>
      rw [if_pos hb] at e
      exact ⟨line2, h1 _ e⟩
    | false =>
      rw [if_neg (by rw [hb]; decide)] at e
      refine iteF ?_
      obtain ⟨z, ez, es⟩ := cutD_to eg hi
      have pl := (encs_plain fun d hd => by
        obtain ⟨b, hb, _⟩ := gbad_take (Nat.le_of_lt hi) hj d hd
        exact ⟨b, hb⟩).1
      refine ⟨_, ix, _, ez, _, fIn_seq es (okD_enc a) pl, _, rfl, ?_⟩
      rw [if_neg Bool.false_ne_true]
      cases hc : (gs.take i).any (fun z => PyData.eqv z (enc a)) with
      | true =>
        rw [if_pos hc] at e
        exact ⟨line2, h1 _ e⟩
      | false =>
        rw [if_neg (by rw [hc]; decide)] at e
        exact h2 e
theorem oerr_of {ods : List D} (h : 1 ≤ ods.length ∧ ods.length ≤ 4) (e : findE (obad ods) 0 ods.length = none) : isN (oerr ods) = true := by
  unfold oerr; rw [if_pos h, e]; rfl
def e_lexp : MS := (mSeq (mIfS (mOr (mAnd (mNot (mT (mIs "list" (mVarQ 1)))) (mNot (mT (mIs "tuple" (mVarQ 1))))) (mT (m2 fGt (m1 fLen (mVarQ 1)) (mC (.int 60))))) (mRet (mTup (mCons (mC (.str "grants")) mNil))) mNext)
    (mSeq (mFor (mRng1 (m1 fLen (mVarQ 1))) (gdName 2) b_law_expected3_1)
    (mRet (mC .none))))
theorem end_lexp {P : PD} {R : PX} {os : List D} {g : D} {a : Sl} {n : Nat} (nm : ∀ d ∈ os, isName d = true) (sg : sane g = true) (p : P (gserr os g) n) : e_lexp (ends P R) [.dat (.list os), .dat g, a] n := by
  unfold gserr at p
  have go : ∀ gs, seqOf g = some gs → saneAll gs = true → gs.length ≤ 60 → forW (gdName 2) b_law_expected3_1 { nx := fun ρ n => P .none n, rt := P, ex := R } (rngD 0 gs.length) [.dat (.list os), .dat g, a] n := fun gs eg sg hh => by
    rw [eg] at p
    simp only [if_pos hh] at p
    refine for_find (gbad os gs) (fun ρ => ∃ a, ρ = [.dat (.list os), .dat g, a]) (rngD 0 gs.length) ?_ ?_ ?_ ⟨_, rfl⟩
    · rintro i d ρ X hd ⟨a, rfl⟩ hj hr hn
      obtain ⟨hi, rfl⟩ := rng_at hd
      have hx : gs[i]? = some gs[i] := List.getElem?_eq_getElem hi
      exact ⟨_, rfl, t_lexp1 eg hx (saneAll_mem sg (List.mem_of_getElem? hx)) nm hj hr fun z => hn z _ ⟨_, rfl⟩⟩
    · intro r hr
      rw [rng_len] at hr
      rw [hr] at p
      exact p
    · intro hr ρ' _
      rw [rng_len] at hr
      rw [hr] at p
      exact p
  have big : ∀ gs, seqOf g = some gs → ¬ gs.length ≤ 60 → P (.tuple [.str "grants"]) n := fun gs eg hh => by
    rw [eg] at p
    simp only [if_neg hh] at p
    exact p
  have l60 : ∀ m : Nat, m ≤ 60 → (-(2 ^ 62) : Int) ≤ (m : Int) ∧ (m : Int) < 2 ^ 62 := fun m hm => ⟨by omega, by omega⟩
  unfold e_lexp mFor mRng1
  cases g with
  | list gs =>
    walk_at "ev"
    by_cases hh : gs.length ≤ 60
    · refine iteF_of (by omega) ?_
      refine ⟨l60 _ hh, ?_⟩
      rw [show ((gs.length : Nat) : Int).toNat = gs.length from by omega]
      exact go gs rfl sg hh
    · refine iteT_of (by omega) ?_
      exact ⟨line1, big gs rfl hh⟩
  | tuple gs =>
    walk_at "ev"
    by_cases hh : gs.length ≤ 60
    · refine iteF_of (by omega) ?_
      refine ⟨l60 _ hh, ?_⟩
      rw [show ((gs.length : Nat) : Int).toNat = gs.length from by omega]
      exact go gs rfl sg hh
    · refine iteT_of (by omega) ?_
      exact ⟨line1, big gs rfl hh⟩
  | none => walk_at "ev"; exact ⟨line1, p⟩
  | bool _ => walk_at "ev"; exact ⟨line1, p⟩
  | int _ => walk_at "ev"; exact ⟨line1, p⟩
  | str _ => walk_at "ev"; exact ⟨line1, p⟩
  | dict _ => cases sg
theorem pr_law_expected3 (as n P R) (hl : as.length = 2) (h : g_law_expected3 as n P R) : m_law_expected3 (ends P R) (env0 as N_law_expected3.length) n := by
  obtain ⟨ds, z, rfl, e, p⟩ := h
  match ds, e with
  | [.list os, g], e =>
    obtain ⟨⟨so, sg⟩, rfl⟩ := ite_some' e
    show m_law_expected3 (ends P R) (env0 [.dat (.list os), .dat g] 3) n
    unfold m_law_expected3
    have ef : (mSeq (mIfS (mOr (mAnd (mNot (mT (mIs "list" (mVarQ 1)))) (mNot (mT (mIs "tuple" (mVarQ 1))))) (mT (m2 fGt (m1 fLen (mVarQ 1)) (mC (.int 60))))) (mRet (mTup (mCons (mC (.str "grants")) mNil))) mNext)
      (mSeq (mFor (mRng1 (m1 fLen (mVarQ 1))) (gdName 2) b_law_expected3_1)
      (mRet (mC .none))) : MS) = e_lexp := rfl
    rw [ef]
    unfold mFor mRng1
    walk_at "ev"
    by_cases h1 : 1 ≤ os.length ∧ os.length ≤ 4
    · refine iteF_of (by omega) ?_
      refine iteF_of (by omega) ?_
      refine ⟨⟨by omega, by omega⟩, ?_⟩
      rw [show ((os.length : Nat) : Int).toNat = os.length from by omega]
      refine for_find (obad os) (fun ρ => ∃ a, ρ = [.dat (.list os), .dat g, a]) (rngD 0 os.length) ?_ ?_ ?_ ⟨_, rfl⟩
      · rintro i d ρ X hd ⟨a, rfl⟩ hj hr hn
        obtain ⟨hi, rfl⟩ := rng_at hd
        have hx : os[i]? = some os[i] := List.getElem?_eq_getElem hi
        exact ⟨_, rfl, t_lexp2 hx (saneAll_mem so (List.mem_of_getElem? hx)) hj hr fun z => hn z _ ⟨_, rfl⟩⟩
      · intro r hr
        rw [rng_len] at hr
        have : rerr os g = r := by
          have e1 : oerr os = r := by unfold oerr; rw [if_pos h1, hr]; rfl
          unfold rerr
          rw [e1]
          by_cases hr2 : isN r = true
          · exfalso
            obtain ⟨_, z⟩ := oerr_ok (ods := os) (by rw [e1]; exact hr2)
            rw [z] at hr; cases hr
          · rw [if_neg hr2]
        rw [this] at p
        exact p
      · rintro hr ρ' ⟨a, rfl⟩
        rw [rng_len] at hr
        have hno := oerr_of h1 hr
        have er : rerr os g = gserr os g := by unfold rerr; rw [if_pos hno]
        rw [er] at p
        exact end_lexp (oerr_names hno) sg p
    · have : rerr os g = .tuple [.str "owners"] := by
        have e1 : oerr os = .tuple [.str "owners"] := by unfold oerr; rw [if_neg h1]
        unfold rerr; rw [e1]; rfl
      rw [this] at p
      by_cases h2 : os.length < 1
      · refine iteT_of (by omega) ⟨line1, p⟩
      · refine iteF_of (by omega) (iteT_of (by omega) ⟨line1, p⟩)
/-! ### what is raised -/
def is_InvalidRoll (n : Nat) : Bool := n == 0
def is_ValueError (_ : Nat) : Bool := true
def g_law_raised3 : G := fun as n P R => ∃ l g, as = [.dat (.list l), .dat g] ∧ l.length ≤ 5 ∧ saneAll l = true ∧ sane g = true ∧ okD (.list l) = true ∧ P (rerr l g) n
def N_law_raised3 : List Str := ["owners", "entries", "caught", "e"]
def m_law_raised3 : MS := (mSeq (mSet (mC .none) (gdName 2))
    (mSeq (mTry 3 2 (mIfX (mT (m2 (fEq false) (mVarQ 0) (mL (mLst mNil)))) (mExpX (mMakePKX 1 g_Roll mNil (mCons (mVar 1) mNil))) (mIfX (mT (m2 (fEq false) (m1 fLen (mVarQ 0)) (mC (.int 5)))) (mExpX (mMakePKX 1 g_Roll (mCons (mIx (mVarQ 0) (mC (.int 0))) (mCons (mIx (mVarQ 0) (mC (.int 1))) (mCons (mIx (mVarQ 0) (mC (.int 2))) (mCons (mIx (mVarQ 0) (mC (.int 3))) (mCons (mIx (mVarQ 0) (mC (.int 4))) mNil))))) (mCons (mVar 1) mNil))) (mExpX (mCallX g_law_make 2 (mCons (mVar 0) (mCons (mVar 1) mNil)))))))
    (mSeq (mIfS (mAnd (mT (mIsH 2 is_InvalidRoll)) (mT (mIsH 2 is_ValueError))) (mRet (mFldH 2 "reason" is_InvalidRoll)) mNext)
    (mRet (mVar 2)))))
def e_law_raised3 : MS := (mSeq (mIfS (mAnd (mT (mIsH 2 is_InvalidRoll)) (mT (mIsH 2 is_ValueError))) (mRet (mFldH 2 "reason" is_InvalidRoll)) mNext)
    (mRet (mVar 2)))
theorem end_none {De : DEnds} {a b c : Sl} {n : Nat} (h : De.rt .none n) : e_law_raised3 De [a, b, .dat .none, c] n := by
  unfold e_law_raised3 mIsH
  walk_at "ev"
  exact .inr h
theorem end_held {De : DEnds} {a b c : Sl} {r : D} {n : Nat} (h : De.rt r n) : e_law_raised3 De [a, b, .hld ⟨0, [r]⟩, c] n := by
  unfold e_law_raised3 mIsH mFldH
  walk_at "ev"
  refine .inl ⟨_, rfl, rfl, ?_⟩
  refine iteT_of rfl (.inl ⟨_, rfl, rfl, ?_⟩)
  exact iteT_of rfl ⟨_, rfl, rfl, rfl, _, rfl, h⟩
theorem roll_none {l : List D} {g : D} {n : Nat} {P : PD} {R : PX} (sl : saneAll l = true) (sg : sane g = true) (hR : isN (rerr l g) = false → R ⟨0, [rerr l g]⟩ n) (hP : isN (rerr l g) = true → ∀ d, P d n) : g_Roll l [g] n P R :=
  ⟨g, rfl, sl, sg, hR, fun h _ _ _ _ _ _ _ _ _ => hP h _⟩
theorem pr_law_raised3 (as n P R) (hl : as.length = 2) (h : g_law_raised3 as n P R) : m_law_raised3 (ends P R) (env0 as N_law_raised3.length) n := by
  obtain ⟨l, g, rfl, l5, sl, sg, ol, p⟩ := h
  show m_law_raised3 (ends P R) (env0 [.dat (.list l), .dat g] 4) n
  unfold m_law_raised3
  have ef : (mSeq (mIfS (mAnd (mT (mIsH 2 is_InvalidRoll)) (mT (mIsH 2 is_ValueError))) (mRet (mFldH 2 "reason" is_InvalidRoll)) mNext)
    (mRet (mVar 2)) : MS) = e_law_raised3 := rfl
  rw [ef]
  unfold mTry mIfX mExpX mMakePKX mCallX
  walk_at "ev"
  have go : ∀ (a b : Sl) (m : Nat), m = n → g_Roll l [g] m (fun _ n1 => e_law_raised3 (ends P R) [.dat (.list l), .dat g, .dat .none, .no] n1) (fun er n1 => isE er.c = true ∧ e_law_raised3 (ends P R) ([.dat (.list l), .dat g, .hld er, .no]) n1) := fun a b m e => by
    subst e
    refine roll_none sl sg (fun h => ⟨rfl, end_held p⟩) fun h d => ?_
    rw [isN_none h] at p
    exact end_none p
  refine ⟨Nat.zero_le _, _, (show fEq false (.list l) (.list []) = some (.bool (PyData.eqv (.list l) (.list []))) from if_pos ⟨ol, rfl⟩), _, rfl, ?_⟩
  rw [eqv_nilL]
  match l, l5 with
  | [], _ => exact iteT_of rfl ⟨Nat.zero_le _, go .no .no n rfl⟩
  | [a], _ => exact iteF_of (by simp) (iteF_of (by simp) ⟨_, _, rfl, by simp, by simp, go .no .no n rfl⟩)
  | [a, b], _ => exact iteF_of (by simp) (iteF_of (by simp) ⟨_, _, rfl, by simp, by simp, go .no .no n rfl⟩)
  | [a, b, c], _ => exact iteF_of (by simp) (iteF_of (by simp) ⟨_, _, rfl, by simp, by simp, go .no .no n rfl⟩)
  | [a, b, c, d], _ => exact iteF_of (by simp) (iteF_of (by simp) ⟨_, _, rfl, by simp, by simp, go .no .no n rfl⟩)
  | [a, b, c, d, e], _ => exact iteF_of (by simp) (iteT_of rfl ⟨_, lx0 _ _, _, lx1 _ _ _, _, lx2 _ _ _ _, _, lx3 _ _ _ _ _, _, fIx_at (gs := [a, b, c, d, e]) (i := 4) rfl rfl, line_small (by decide), go .no .no n rfl⟩)
  | _ :: _ :: _ :: _ :: _ :: _ :: _, l5 => exact absurd l5 (by simp)
end DS

/-! V1: the program's counting and powers. -/
namespace DS
open PySem L2
local macro_rules | `(tactic| walk_at "ev") => `(tactic| simp only [mRaise, mRaiseP, mCallK, mProp, mTru, truD, mLof, mTof, mBack, mCatT, mSlT, mSlB, mSetI, mNoP, mPart, mCat, mSeq, mRet, mVar, mVarQ, slD, mC, m1, m2, mT, mNot, mAnd, mOr, mAndV, mOrV, mNotV, mIf, mChain, mNil, mCons, mSrc, mTup, mLst, mCall, mIx, mL, mIs, mIs2, mIfS, mNext, mSet, mOwn, mRetO, mRetN, mExp, mPar, mNev, datAll, gdName, gdTup, setAll, fI, fIc, fNeg, fLen, fInt, fAbs, fIsN, env0, wipeR,
  is_int_NoneType, is_int_bool, is_int_int, is_int_str, is_int_list, is_int_tuple, is_bool_NoneType, is_bool_bool, is_bool_int, is_bool_str, is_bool_list, is_bool_tuple, is_str_NoneType, is_str_bool, is_str_int, is_str_str, is_str_list, is_str_tuple, is_tuple_NoneType, is_tuple_bool, is_tuple_int, is_tuple_str, is_tuple_list, is_tuple_tuple, is_list_NoneType, is_list_bool, is_list_int, is_list_str, is_list_list, is_list_tuple,
  List.map, List.length_cons, List.length_nil, List.getElem?_cons_zero, List.getElem?_cons_succ, List.set_cons_zero, List.set_cons_succ, List.replicate, List.append_assoc, List.cons_append, List.nil_append, Option.map_some, Option.some.injEq, Sl.dat.injEq, Sl.own.injEq, exists_eq_left', exists_eq_left, exists_and_left, exists_and_right, true_and, and_true, Bool.true_eq_false, if_true, if_false, reduceIte, Bool.false_eq_true, Bool.not_true, Bool.not_false, PyData.bool.injEq, PyData.int.injEq, PyData.str.injEq, PyData.tuple.injEq, PyData.list.injEq, Nat.reduceAdd, Nat.reduceSub, Option.map_none, decide_eq_true_eq, ex_if, eq_ints, eq_strs, eq_bools, ix0, ix1, ix2, ix3, ix4, lx0, lx1, lx2, lx3])

/-! ### properties of a roll -/
def g_prop (j : Nat) : G := fun as n P _ => ∃ ds z, as = [.dat (obj 1 ds)] ∧ ds[j]? = some z ∧ P z n
def N_prop : List Str := ["self"]
def m_prop (j : Nat) : MS := mRet (mFld 1 j (mVar 0))
theorem pr_prop (j : Nat) (as n P R) (hl : as.length = 1) (h : g_prop j as n P R) : m_prop j (ends P R) (env0 as N_prop.length) n := by
  obtain ⟨ds, z, rfl, e, p⟩ := h
  exact ⟨_, rfl, ds, z, rfl, e, p⟩
/-! ### need_name, need_power, need_at -/
def g_need_name : G := fun as n P R => ∃ d, as = [.dat d] ∧ pl d = true ∧ (isName d = true → P .none n) ∧ (isName d = false → R ⟨7, []⟩ n)
def N_need_name : List Str := ["value"]
def m_need_name : MS := (mIfS (mNot (mT (mCall g_is_name 1 (mCons (mVar 0) mNil)))) (mRaiseP 7) mNext)
theorem pr_need_name (as n P R) (hl : as.length = 1) (h : g_need_name as n P R) : m_need_name (ends P R) (env0 as N_need_name.length) n := by
  obtain ⟨d, rfl, c, p, r⟩ := h
  show m_need_name (ends P R) (env0 [.dat d] 1) n
  unfold m_need_name
  walk_at "ev"
  refine gF1 [d] _ rfl (if_pos c) ⟨_, rfl, ?_⟩
  cases hb : isName d with
  | true => exact iteF_of (by simp) (p hb)
  | false => exact iteT_of (by simp) (r hb)
def isPow : D → Bool
  | .tuple [l, p] => within l 1 9 && within p 0 20
  | _ => false
def f_is_power : List D → Option D
  | [d] => if sane d = true then some (.bool (isPow d)) else none
  | _ => none
abbrev g_is_power : G := gF f_is_power
def N_is_power : List Str := ["value", "level", "passes"]
def m_is_power : MS := (mSeq (mIfS (mOr (mNot (mT (mIs "tuple" (mVarQ 0)))) (mT (m2 (fEq true) (m1 fLen (mVarQ 0)) (mC (.int 2))))) (mRet (mC (.bool false))) mNext)
    (mSeq (mSet (mVar 0) (gdTup [1, 2]))
    (mRet (mAndV (mCall g_is_within 3 (mCons (mVar 1) (mCons (mC (.int (1))) (mCons (mC (.int (9))) mNil)))) (mCall g_is_within 3 (mCons (mVar 2) (mCons (mC (.int 0)) (mCons (mC (.int (20))) mNil))))))))
theorem pr_is_power (as n P R) (hl : as.length = 1) (h : g_is_power as n P R) : m_is_power (ends P R) (env0 as N_is_power.length) n := by
  obtain ⟨ds, z, rfl, e, p⟩ := h
  match ds, e with
  | [d], e =>
    obtain ⟨c, rfl⟩ := ite_some' e
    show m_is_power (ends P R) (env0 [.dat d] 3) n
    unfold m_is_power
    cases d with
    | tuple l =>
      match l, c, p with
      | [], c, p => walk_at "ev"; exact p
      | [a], c, p => walk_at "ev"; exact p
      | [a, b], c, p =>
        simp only [sane, saneAll, Bool.and_eq_true, Bool.and_true] at c
        walk_at "ev"
        refine iteF_of (by decide) ?_
        refine gF1 [a, .int 1, .int 9] _ rfl (if_pos (sane_pl c.1)) ⟨_, rfl, ?_⟩
        cases h1 : within a 1 9 with
        | true =>
          refine iteT_of rfl ?_
          refine gF1 [b, .int 0, .int 20] _ rfl (if_pos (sane_pl c.2)) ?_
          simpa [isPow, h1] using p
        | false => exact iteF_of (by simp) (by simpa [isPow, h1] using p)
      | a :: b :: x :: r, c, p =>
        walk_at "ev"
        exact p
    | dict _ => cases c
    | _ => walk_at "ev"; exact p
def okAt (d : D) : Bool := match d with
  | .none => true
  | d => within d (-big) big
def g_need_power : G := fun as n P R => ∃ d, as = [.dat d] ∧ sane d = true ∧ (isPow d = true → P .none n) ∧ (isPow d = false → R ⟨8, []⟩ n)
def N_need_power : List Str := ["value"]
def m_need_power : MS := (mIfS (mNot (mT (mCall g_is_power 1 (mCons (mVar 0) mNil)))) (mRaiseP 8) mNext)
theorem pr_need_power (as n P R) (hl : as.length = 1) (h : g_need_power as n P R) : m_need_power (ends P R) (env0 as N_need_power.length) n := by
  obtain ⟨d, rfl, c, p, r⟩ := h
  show m_need_power (ends P R) (env0 [.dat d] 1) n
  unfold m_need_power
  walk_at "ev"
  refine gF1 [d] _ rfl (if_pos c) ⟨_, rfl, ?_⟩
  cases hb : isPow d with
  | true => exact iteF_of (by simp) (p hb)
  | false => exact iteT_of (by simp) (r hb)
def g_need_at : G := fun as n P R => ∃ d, as = [.dat d] ∧ pl d = true ∧ (okAt d = true → P .none n) ∧ (okAt d = false → R ⟨9, []⟩ n)
def N_need_at : List Str := ["at"]
def m_need_at : MS := (mIfS (mAnd (mT (m2 (fIsN true) (mVarQ 0) (mC .none))) (mNot (mT (mCall g_is_time 1 (mCons (mVar 0) mNil))))) (mRaiseP 9) mNext)
theorem pr_need_at (as n P R) (hl : as.length = 1) (h : g_need_at as n P R) : m_need_at (ends P R) (env0 as N_need_at.length) n := by
  obtain ⟨d, rfl, c, p, r⟩ := h
  show m_need_at (ends P R) (env0 [.dat d] 1) n
  unfold m_need_at
  have go : isN d = false → g_is_time [.dat d] n (fun d n' => ∃ b, d = PyData.bool b ∧ if (!b) = true then R { c := 9, f := [] } n' else P PyData.none n') R := fun hn => by
    have e : okAt d = within d (-big) big := by cases d <;> first | rfl | cases hn
    refine gF1 [d] _ rfl (if_pos c) ⟨_, rfl, ?_⟩
    cases hb : within d (-big) big with
    | true => exact iteF_of (by simp) (p (by rw [e]; exact hb))
    | false => exact iteT_of (by simp) (r (by rw [e]; exact hb))
  cases d with
  | none => walk_at "ev"; exact p rfl
  | _ => walk_at "ev"; exact go rfl
/-! ### which grants count -/
def cb (os : List Str) (hs : List Gr) (a : Gr) : Bool := (os.any fun z => z == a.g) || hs.any fun h => bk h a
def g_counts_beside : G := fun as n P _ => ∃ (os : List Str) (hs : List Gr) (s : Sl) (a : Gr), as = [.dat (.tuple (os.map PyData.str)), s, .dat (enc a)] ∧ slD s = some (.list (hs.map enc)) ∧ hs.length ≤ 1000 ∧ os.length ≤ 1000 ∧ P (.bool (cb os hs a)) n
def N_counts_beside : List Str := ["owners", "held", "grant", "earlier"]
def m_counts_beside : MS := (mRet (mOrV (m2 (fIn false) (mIx (mVarQ 2) (mC (.int (1)))) (mVarQ 0)) (m1 fAny (mL (mComp (mItems (mVarQ 1)) (gdName 3) [3] mYes (mCall g_backs 2 (mCons (mVar 3) (mCons (mVar 2) mNil))))))))
theorem bools_mapB {α : Type} (f : α → Bool) : ∀ l : List α, bools (l.map fun c => PyData.bool (f c)) = some (l.map f)
  | [] => rfl
  | x :: l => by
    show (bools (l.map fun c => PyData.bool (f c))).map (f x :: ·) = _
    rw [bools_mapB f l]; rfl
theorem filter_yes {α : Type} (l : List α) : l.filter (fun _ => true) = l := List.filter_eq_self.mpr fun _ _ => rfl
theorem pr_counts_beside (as n P R) (hl : as.length = 3) (h : g_counts_beside as n P R) : m_counts_beside (ends P R) (env0 as N_counts_beside.length) n := by
  obtain ⟨os, hs, s, a, rfl, es, h1, h2, p⟩ := h
  show m_counts_beside (ends P R) (env0 [.dat (.tuple (os.map PyData.str)), s, .dat (enc a)] 4) n
  unfold m_counts_beside mComp mItems
  walk_at "ev"
  refine ⟨_, ix1 _ _ _, _, fIn_seq (ds := os.map PyData.str) rfl (okD_str _) (strs_alike os).1, _, rfl, ?_⟩
  rw [if_neg Bool.false_ne_true, strs_any]
  cases ho : os.any fun z => z == a.g with
  | true => exact iteT_of rfl (by simpa [cb, ho] using p)
  | false =>
    refine iteF_of (by simp) ⟨_, es, _, rfl, ?_⟩
    refine comp_pure (fun _ => true) (fun d => .bool (match dec d with | some h => bk h a | none => false)) _ _ (fun d _ => ⟨_, rfl, fun Q q => q⟩) (fun d hd ρ1 e _ Q q => ?_) ?_ ?_
    · obtain ⟨h, _, rfl⟩ := List.mem_map.mp hd
      cases e
      walk_at "ev"
      exact gF1 [enc h, enc a] (.bool (bk h a)) rfl rfl q
    · rw [List.length_nil, List.length_map]
      have : (1000 : Nat) ≤ sizeLine := by rw [sizeLine_eq]; decide
      omega
    · rw [List.nil_append, filter_yes, List.map_map]
      refine ⟨.bool ((hs.map fun h => bk h a).any id), ?_, ?_⟩
      · show (bools _).map _ = _
        rw [show ((fun d => PyData.bool (match dec d with | some h => bk h a | none => false)) ∘ enc) = fun h => PyData.bool (bk h a) from rfl, bools_mapB]
        rfl
      · have e : (hs.map fun h => bk h a).any id = hs.any fun h => bk h a := by rw [List.any_map]; rfl
        simpa [cb, ho, e] using p
def cntS (os : List Str) (acc : List Gr) : List Gr → List Gr
  | [] => acc
  | a :: r => cntS os (if cb os acc a = true then acc ++ [a] else acc) r
def cnt (os : List Str) (gs : List Gr) : List Gr := cntS os [] gs
theorem cntS_mem (os : List Str) : ∀ (r acc : List Gr) (x : Gr), x ∈ cntS os acc r → x ∈ acc ∨ x ∈ r
  | [], acc, x, h => .inl h
  | a :: r, acc, x, h => by
    rcases cntS_mem os r _ x h with h | h
    · split at h
      · rcases List.mem_append.mp h with h | h
        · exact .inl h
        · rw [List.mem_singleton.mp h]; exact .inr (.head _)
      · exact .inl h
    · exact .inr (.tail _ h)
theorem cnt_mem {os : List Str} {gs : List Gr} {x : Gr} (h : x ∈ cnt os gs) : x ∈ gs := by
  rcases cntS_mem os gs [] x h with h | h
  · cases h
  · exact h
theorem cntS_len (os : List Str) : ∀ (r acc : List Gr), (cntS os acc r).length ≤ acc.length + r.length
  | [], acc => Nat.le_refl _
  | a :: r, acc => by
    have := cntS_len os r (if cb os acc a = true then acc ++ [a] else acc)
    refine Nat.le_trans this ?_
    rw [List.length_cons]
    split
    · rw [List.length_append, List.length_singleton]; omega
    · omega
theorem cnt_len (os : List Str) (gs : List Gr) : (cnt os gs).length ≤ gs.length := by
  have := cntS_len os gs []
  simpa [cnt] using this
def g_counting_among : G := fun as n P _ => ∃ (os : List Str) (gs : List Gr), as = [.dat (.tuple (os.map PyData.str)), .dat (.tuple (gs.map enc))] ∧ gs.length ≤ 1000 ∧ os.length ≤ 1000 ∧ P (.list ((cnt os gs).map enc)) n
def N_counting_among : List Str := ["owners", "grants", "found", "grant"]
def b_counting_among_1 : MS := (mIfS (mT (mCall g_counts_beside 3 (mCons (mVar 0) (mLend 2 (mCons (mVar 3) mNil))))) (mApp 2 (mVar 3)) mNext)
def m_counting_among : MS := (mSeq (mOwn 2 (mLst mNil))
    (mSeq (mFor (mItemsT (mVar 1)) (gdName 3) b_counting_among_1)
    (mRetO 2)))
theorem t_counting_among {De : DEnds} {os : List Str} {o g : Sl} {acc : List Gr} {a : Gr} {n : Nat} (ho : o = .dat (.tuple (os.map PyData.str))) (h1 : acc.length ≤ 1000) (h2 : os.length ≤ 1000) (h : De.nx [o, g, .own ((if cb os acc a = true then acc ++ [a] else acc).map enc), .dat (enc a)] n) :
    b_counting_among_1 De [o, g, .own (acc.map enc), .dat (enc a)] n := by
  subst ho
  unfold b_counting_among_1 mLend mApp
  walk_at "ev"
  refine ⟨_, .inl rfl, os, acc, .bor (acc.map enc), a, rfl, rfl, h1, h2, _, rfl, ?_⟩
  cases hc : cb os acc a with
  | true =>
    rw [hc, if_pos rfl, List.map_append] at h
    refine iteT_of rfl ⟨?_, h⟩
    rw [List.length_map]
    have : (1001 : Nat) ≤ sizeLine := by rw [sizeLine_eq]; decide
    omega
  | false =>
    rw [hc, if_neg Bool.false_ne_true] at h
    exact iteF_of (by simp) h
theorem pr_counting_among (as n P R) (hl : as.length = 2) (h : g_counting_among as n P R) : m_counting_among (ends P R) (env0 as N_counting_among.length) n := by
  obtain ⟨os, gs, rfl, h1, h2, p⟩ := h
  show m_counting_among (ends P R) (env0 [.dat (.tuple (os.map PyData.str)), .dat (.tuple (gs.map enc))] 4) n
  unfold m_counting_among mFor mItemsT
  walk_at "ev"
  have key : ∀ (r acc : List Gr) (v : Sl), acc.length + r.length ≤ 1000 → cntS os acc r = cnt os gs →
      forW (gdName 3) b_counting_among_1 { nx := fun ρ n => ∃ ds, ρ[2]? = some (.own ds) ∧ P (.list ds) n, rt := P, ex := R } (r.map enc) [.dat (.tuple (os.map PyData.str)), .dat (.tuple (gs.map enc)), .own (acc.map enc), v] n := by
    intro r
    induction r with
    | nil =>
      intro acc v hl e
      have e' : acc = cnt os gs := e
      exact ⟨_, rfl, by rw [e']; exact p⟩
    | cons a r ih =>
      intro acc v hl e
      rw [List.length_cons] at hl
      refine ⟨_, rfl, t_counting_among rfl (by omega) h2 ?_⟩
      refine ih _ _ ?_ e
      split
      · rw [List.length_append, List.length_singleton]; omega
      · omega
  exact ⟨Nat.zero_le _, key gs [] .no (by simpa using h1) rfl⟩
/-- the data of a roll, its owners and grants -/
structure RolOk (os : List Str) (gs : List Gr) : Prop where
  ok : ∀ a ∈ gs, okGr a = true
  few : gs.length ≤ 60
  four : os.length ≤ 4
def g_counting_grants : G := fun as n P _ => ∃ (os : List Str) (gs : List Gr), as = [.dat (rolT os gs)] ∧ RolOk os gs ∧ P (.list ((cnt os gs).map enc)) n
def N_counting_grants : List Str := ["roll"]
def m_counting_grants : MS := (mRet (mCall g_counting_among 2 (mCons (mProp 1 (g_prop 0) (mVar 0)) (mCons (mProp 1 (g_prop 1) (mVar 0)) mNil))))
theorem pr_counting_grants (as n P R) (hl : as.length = 1) (h : g_counting_grants as n P R) : m_counting_grants (ends P R) (env0 as N_counting_grants.length) n := by
  obtain ⟨os, gs, rfl, hr, p⟩ := h
  show m_counting_grants (ends P R) (env0 [.dat (rolT os gs)] 1) n
  unfold m_counting_grants
  walk_at "ev"
  exact ⟨_, rfl, _, _, rfl, rfl, _, rfl, _, _, rfl, rfl, os, gs, rfl, by have := hr.few; omega, by have := hr.four; omega, p⟩
/-! ### powers -/
def cov (a b c d : Int) : Bool := decide (c ≤ a) && decide (d ≤ b)
def g_covers : G := fun as n P _ => ∃ a b c d : Int, as = [.dat (.tuple [.int a, .int b]), .dat (.tuple [.int c, .int d])] ∧ P (.bool (cov a b c d)) n
def N_covers : List Str := ["power", "other"]
def m_covers : MS := (mRet (mAndV (m2 fGe (mIx (mVarQ 0) (mC (.int 0))) (mIx (mVarQ 1) (mC (.int 0)))) (m2 fGe (mIx (mVarQ 0) (mC (.int 1))) (mIx (mVarQ 1) (mC (.int 1))))))
theorem pr_covers (as n P R) (hl : as.length = 2) (h : g_covers as n P R) : m_covers (ends P R) (env0 as N_covers.length) n := by
  obtain ⟨a, b, c, d, rfl, p⟩ := h
  show m_covers (ends P R) (env0 [.dat (.tuple [.int a, .int b]), .dat (.tuple [.int c, .int d])] 2) n
  unfold m_covers
  walk_at "ev"
  by_cases h1 : c ≤ a
  · rw [if_pos h1]; simpa [cov, h1] using p
  · rw [if_neg h1]; simpa [cov, h1] using p
/-- whether a grant goes to the person by this time -/
def atS : D → Bool
  | .none => true
  | .int _ => true
  | _ => false
def due (a : Gr) : D → Bool
  | .int t => decide (a.t ≤ t)
  | _ => true
def ito (a : Gr) (x : Str) (u : D) : Bool := a.k == x && due a u
def g_is_to : G := fun as n P _ => ∃ (a : Gr) (x : Str) (u : D), as = [.dat (enc a), .dat (.str x), .dat u] ∧ atS u = true ∧ P (.bool (ito a x u)) n
def N_is_to : List Str := ["grant", "name", "at"]
def m_is_to : MS := (mRet (mAndV (m2 (fEq false) (mIx (mVarQ 0) (mC (.int (2)))) (mVarQ 1)) (mOrV (m2 (fIsN false) (mVarQ 2) (mC .none)) (m2 fLe (mIx (mVarQ 0) (mC (.int (0)))) (mVarQ 2)))))
theorem pr_is_to (as n P R) (hl : as.length = 3) (h : g_is_to as n P R) : m_is_to (ends P R) (env0 as N_is_to.length) n := by
  obtain ⟨a, x, u, rfl, hu, p⟩ := h
  show m_is_to (ends P R) (env0 [.dat (enc a), .dat (.str x), .dat u] 3) n
  unfold m_is_to enc
  cases u with
  | none =>
    walk_at "ev"
    cases h1 : a.k == x with
    | true => simpa [ito, due, h1] using p
    | false => simpa [ito, due, h1] using p
  | int t =>
    walk_at "ev"
    cases h1 : a.k == x with
    | true => simpa [ito, due, h1] using p
    | false => simpa [ito, due, h1] using p
  | _ => cases hu
def giv (a : Gr) (x : Str) (l p : Int) (u : D) : Bool := ito a x u && cov a.l a.p l p
def g_gives : G := fun as n P _ => ∃ (a : Gr) (x : Str) (l p : Int) (u : D), as = [.dat (enc a), .dat (.str x), .dat (.tuple [.int l, .int p]), .dat u] ∧ atS u = true ∧ P (.bool (giv a x l p u)) n
def N_gives : List Str := ["grant", "name", "power", "at"]
def m_gives : MS := (mRet (mAndV (mCall g_is_to 3 (mCons (mVar 0) (mCons (mVar 1) (mCons (mVar 3) mNil)))) (mCall g_covers 2 (mCons (mSlT (mVarQ 0) (mPart (mC (.int (3)))) mNoP) (mCons (mVar 2) mNil)))))
theorem cut35 (a b c d e : D) : cutA [a, b, c, d, e] (some (3 : Int)) none = [d, e] ∧ ¬ (HT.sIx [a, b, c, d, e].length 0 (some (3 : Int)) = 0 ∧ HT.sIx [a, b, c, d, e].length [a, b, c, d, e].length none = [a, b, c, d, e].length) := ⟨rfl, fun h => absurd (show (3 : Nat) = 0 from h.1) (by decide)⟩
theorem pr_gives (as n P R) (hl : as.length = 4) (h : g_gives as n P R) : m_gives (ends P R) (env0 as N_gives.length) n := by
  obtain ⟨a, x, l, p, u, rfl, hu, q⟩ := h
  show m_gives (ends P R) (env0 [.dat (enc a), .dat (.str x), .dat (.tuple [.int l, .int p]), .dat u] 4) n
  unfold m_gives
  walk_at "ev"
  refine ⟨a, x, u, rfl, hu, _, rfl, ?_⟩
  cases h1 : ito a x u with
  | true =>
    refine iteT_of rfl ?_
    refine ⟨_, rfl, (cut35 _ _ _ _ _).2, ?_⟩
    rw [(cut35 _ _ _ _ _).1]
    exact ⟨_, _, _, _, rfl, by simpa [giv, h1] using q⟩
  | false => exact iteF_of (by simp) (by simpa [giv, h1] using q)
def prs (hs : List Gr) (x : Str) (u : D) : List (List Int) := (hs.filter fun a => ito a x u).map fun a => [a.l, a.p]
def covL (m p : List Int) : Bool := match m, p with
  | [a, b], [c, d] => cov a b c d
  | _, _ => false
def maxes (ps : List (List Int)) : List (List Int) := ps.filter fun p => !ps.any fun m => !decide (m = p) && covL m p
/-- what sorted(set(..)) of these may be -/
structure TopR (ps outs : List (List Int)) : Prop where
  nodup : outs.Nodup
  few : outs.length < 64
  mem : ∀ k, k ∈ outs ↔ k ∈ maxes ps
  rise : outs.Pairwise fun a b => TS.code 64 a ≤ TS.code 64 b
def g_top_powers : G := fun as n P _ => ∃ (hs : List Gr) (x : Str) (u : D), as = [.dat (.list (hs.map enc)), .dat (.str x), .dat u] ∧ atS u = true ∧ hs.length ≤ 60 ∧ (∀ a ∈ hs, okGr a = true) ∧ ∀ outs, TopR (prs hs x u) outs → P (.list (outs.map tupI)) n
def N_top_powers : List Str := ["held", "name", "at", "pairs", "grant", "pair", "more"]
def m_top_powers : MS := (mSeq (mSet (mL (mComp (mItems (mVarQ 0)) (gdName 4) [4] (mT (mCall g_is_to 3 (mCons (mVar 4) (mCons (mVar 1) (mCons (mVar 2) mNil))))) (mSlT (mVarQ 4) (mPart (mC (.int (3)))) mNoP))) (gdName 3))
    (mRet (mL (mSortSet (mL (mComp (mItems (mVarQ 3)) (gdName 5) [5] (mNot (mT (m1 fAny (mL (mComp (mItems (mVarQ 3)) (gdName 6) [6] mYes (mAndV (m2 (fEq true) (mVarQ 6) (mVarQ 5)) (mCall g_covers 2 (mCons (mVar 6) (mCons (mVar 5) mNil))))))))) (mVar 5)))))))
theorem okD_tupI (k : List Int) : okD (tupI k) = true := by
  have h := okD_ints k
  unfold okD at h ⊢
  simpa [tupI, PyData.plain, PyData.depth] using h
theorem eqv_tupI (j k : List Int) : PyData.eqv (tupI j) (tupI k) = decide (j = k) := by
  have go : ∀ j k : List Int, PyData.eqvAll (j.map PyData.int) (k.map PyData.int) = decide (j = k) := by
    intro j
    induction j with
    | nil => intro k; cases k <;> simp [PyData.eqvAll]
    | cons x j ih =>
      intro k
      cases k with
      | nil => simp [PyData.eqvAll]
      | cons y k =>
        simp only [List.map_cons, PyData.eqvAll, ih, PyData.eqv]
        by_cases h1 : x = y <;> by_cases h2 : j = k <;> simp [h1, h2]
  show PyData.eqvAll _ _ = _
  exact go j k
def dI : D → List Int
  | .tuple [.int a, .int b] => [a, b]
  | _ => []
theorem prs_two {hs : List Gr} {x : Str} {u : D} {k : List Int} (h : k ∈ prs hs x u) : ∃ a ∈ hs, k = [a.l, a.p] := by
  obtain ⟨a, ha, rfl⟩ := List.mem_map.mp h
  exact ⟨a, (List.mem_filter.mp ha).1, rfl⟩
theorem line100 : (100 : Nat) ≤ sizeLine := by rw [sizeLine_eq]; decide
theorem prs_len (hs : List Gr) (x : Str) (u : D) : (prs hs x u).length ≤ hs.length := by
  unfold prs
  rw [List.length_map]
  exact List.length_filter_le _ _
theorem maxes_len (ps : List (List Int)) : (maxes ps).length ≤ ps.length := List.length_filter_le _ _
theorem pr_top_powers (as n P R) (hl : as.length = 3) (h : g_top_powers as n P R) : m_top_powers (ends P R) (env0 as N_top_powers.length) n := by
  obtain ⟨hs, x, u, rfl, hu, h1, h2, p⟩ := h
  show m_top_powers (ends P R) (env0 [.dat (.list (hs.map enc)), .dat (.str x), .dat u] 7) n
  unfold m_top_powers mComp mItems mSortSet
  walk_at "ev"
  have l100 := line100
  refine comp_pure (fun d => match dec d with | some a => ito a x u | none => false) (fun d => match dec d with | some a => tupI [a.l, a.p] | none => .none) _ _ (fun d hd => ⟨_, rfl, fun Q q => ?_⟩) (fun d hd ρ1 e _ Q q => ?_) ?_ ?_
  · obtain ⟨a, _, rfl⟩ := List.mem_map.mp hd
    walk_at "ev"
    exact ⟨a, x, u, rfl, hu, _, rfl, q⟩
  · obtain ⟨a, _, rfl⟩ := List.mem_map.mp hd
    cases e
    walk_at "ev"
    refine ⟨_, rfl, (cut35 _ _ _ _ _).2, ?_⟩
    rw [(cut35 _ _ _ _ _).1]
    exact q
  · rw [List.length_nil, List.length_map]; omega
  · have e1 : ((hs.map enc).filter fun d => match dec d with | some a => ito a x u | none => false).map (fun d => match dec d with | some a => tupI [a.l, a.p] | none => .none) = (prs hs x u).map tupI := by
      rw [List.filter_map, List.map_map, prs, List.map_map]
      rfl
    rw [List.nil_append, e1]
    have pl := prs_len hs x u
    refine comp_pure (fun d => !(prs hs x u).any fun m => !decide (m = dI d) && covL m (dI d)) id _ _ (fun d hd => ⟨_, rfl, fun Q q => ?_⟩) (fun d hd ρ1 e _ Q q => ?_) ?_ ?_
    · obtain ⟨k, hk, rfl⟩ := List.mem_map.mp hd
      obtain ⟨a, ha, rfl⟩ := prs_two hk
      walk_at "ev"
      refine comp_pure (fun _ => true) (fun d => .bool (!decide (dI d = [a.l, a.p]) && covL (dI d) [a.l, a.p])) _ _ (fun d _ => ⟨_, rfl, fun Q q => q⟩) (fun d hd ρ1 e _ Q q => ?_) ?_ ?_
      · obtain ⟨k, hk, rfl⟩ := List.mem_map.mp hd
        obtain ⟨b, hb, rfl⟩ := prs_two hk
        cases e
        walk_at "ev"
        refine ⟨_, if_pos ⟨okD_tupI _, okD_tupI _⟩, _, rfl, ?_⟩
        rw [if_pos rfl, eqv_tupI]
        by_cases hq : ([b.l, b.p] : List Int) = [a.l, a.p]
        · refine iteF_of (by simp [hq]) ?_
          simpa [dI, tupI, hq] using q
        · refine iteT_of (by simp [hq]) ⟨_, _, _, _, rfl, ?_⟩
          simpa [dI, tupI, hq, covL] using q
      · rw [List.length_nil, List.length_map]; omega
      · rw [List.nil_append, filter_yes, List.map_map]
        refine ⟨.bool (((prs hs x u).map fun k => (!decide (dI (tupI k) = [a.l, a.p]) && covL (dI (tupI k)) [a.l, a.p])).any id), ?_, _, rfl, ?_⟩
        · show (bools _).map _ = _
          rw [show ((fun d => PyData.bool (!decide (dI d = [a.l, a.p]) && covL (dI d) [a.l, a.p])) ∘ tupI) = fun k => PyData.bool (!decide (dI (tupI k) = [a.l, a.p]) && covL (dI (tupI k)) [a.l, a.p]) from rfl, bools_mapB]
          rfl
        · have e2 : (((prs hs x u).map fun k => (!decide (dI (tupI k) = [a.l, a.p]) && covL (dI (tupI k)) [a.l, a.p])).any id) = (prs hs x u).any fun m => !decide (m = [a.l, a.p]) && covL m [a.l, a.p] := by
            rw [List.any_map, Bool.eq_iff_iff, List.any_eq_true, List.any_eq_true]
            constructor
            · rintro ⟨k, hk, e⟩
              obtain ⟨b, hb, rfl⟩ := prs_two hk
              exact ⟨_, hk, e⟩
            · rintro ⟨k, hk, e⟩
              obtain ⟨b, hb, rfl⟩ := prs_two hk
              exact ⟨_, hk, e⟩
          rw [e2]
          exact q
    · obtain ⟨k, hk, rfl⟩ := List.mem_map.mp hd
      cases e
      walk_at "ev"
      exact q
    · rw [List.length_nil, List.length_map]; omega
    · have e3 : (((prs hs x u).map tupI).filter fun d => !(prs hs x u).any fun m => !decide (m = dI d) && covL m (dI d)).map id = (maxes (prs hs x u)).map tupI := by
        rw [List.map_id, List.filter_map, maxes]
        congr 1
        refine List.filter_congr fun k hk => ?_
        obtain ⟨b, hb, rfl⟩ := prs_two hk
        rfl
      rw [List.nil_append, e3]
      have ml := maxes_len (prs hs x u)
      refine ⟨maxes (prs hs x u), rfl, by omega, 2, by decide, 64, fun k hk => ?_, fun outs o1 o2 o3 o4 => p outs ⟨o1, o2, o3, o4⟩⟩
      obtain ⟨b, hb, rfl⟩ := prs_two (List.mem_filter.mp hk).1
      obtain ⟨_, _, _, _, b5, b6⟩ := okGr_iff (h2 b hb)
      refine ⟨rfl, fun m hm => ?_⟩
      rcases List.mem_cons.mp hm with rfl | hm
      · omega
      · rw [List.mem_singleton.mp hm]; omega
end DS

/-! V2: has, powers_of, since, steps_of, holders; the law's call of them. -/
namespace DS
open PySem L2
local macro_rules | `(tactic| walk_at "ev") => `(tactic| simp only [mRaise, mRaiseP, mCallK, mProp, mTru, truD, mLof, mTof, mBack, mCatT, mSlT, mSlB, mSetI, mNoP, mPart, mCat, mSeq, mRet, mVar, mVarQ, slD, mC, m1, m2, mT, mNot, mAnd, mOr, mAndV, mOrV, mNotV, mIf, mChain, mNil, mCons, mSrc, mTup, mLst, mCall, mIx, mL, mIs, mIs2, mIfS, mNext, mSet, mOwn, mRetO, mRetN, mExp, mPar, mNev, datAll, gdName, gdTup, setAll, fI, fIc, fNeg, fLen, fInt, fAbs, fIsN, env0, wipeR,
  is_int_NoneType, is_int_bool, is_int_int, is_int_str, is_int_list, is_int_tuple, is_bool_NoneType, is_bool_bool, is_bool_int, is_bool_str, is_bool_list, is_bool_tuple, is_str_NoneType, is_str_bool, is_str_int, is_str_str, is_str_list, is_str_tuple, is_tuple_NoneType, is_tuple_bool, is_tuple_int, is_tuple_str, is_tuple_list, is_tuple_tuple, is_list_NoneType, is_list_bool, is_list_int, is_list_str, is_list_list, is_list_tuple,
  List.map, List.length_cons, List.length_nil, List.getElem?_cons_zero, List.getElem?_cons_succ, List.set_cons_zero, List.set_cons_succ, List.replicate, List.append_assoc, List.cons_append, List.nil_append, Option.map_some, Option.some.injEq, Sl.dat.injEq, Sl.own.injEq, exists_eq_left', exists_eq_left, exists_and_left, exists_and_right, true_and, and_true, Bool.true_eq_false, if_true, if_false, reduceIte, Bool.false_eq_true, Bool.not_true, Bool.not_false, PyData.bool.injEq, PyData.int.injEq, PyData.str.injEq, PyData.tuple.injEq, PyData.list.injEq, Nat.reduceAdd, Nat.reduceSub, Option.map_none, decide_eq_true_eq, ex_if, eq_ints, eq_strs, eq_bools, ix0, ix1, ix2, ix3, ix4, lx0, lx1, lx2, lx3])

theorem isPow_tup {d : D} (h : isPow d = true) : ∃ l p : Int, d = .tuple [.int l, .int p] := by
  match d, h with
  | .tuple [.int l, .int p], _ => exact ⟨l, p, rfl⟩
  | .tuple [.int l, .none], h => simp [isPow, within] at h
  | .tuple [.int l, .bool _], h => simp [isPow, within] at h
  | .tuple [.int l, .str _], h => simp [isPow, within] at h
  | .tuple [.int l, .list _], h => simp [isPow, within] at h
  | .tuple [.int l, .tuple _], h => simp [isPow, within] at h
  | .tuple [.int l, .dict _], h => simp [isPow, within] at h
  | .tuple [.none, _], h => simp [isPow, within] at h
  | .tuple [.bool _, _], h => simp [isPow, within] at h
  | .tuple [.str _, _], h => simp [isPow, within] at h
  | .tuple [.list _, _], h => simp [isPow, within] at h
  | .tuple [.tuple _, _], h => simp [isPow, within] at h
  | .tuple [.dict _, _], h => simp [isPow, within] at h
theorem okAt_atS {d : D} (h : okAt d = true) : atS d = true := by
  cases d <;> first | rfl | (simp [okAt, within] at h)
theorem cnt_few {os : List Str} {gs : List Gr} (h : RolOk os gs) : (cnt os gs).length ≤ 60 := Nat.le_trans (cnt_len os gs) h.few
theorem cnt_ok {os : List Str} {gs : List Gr} (h : RolOk os gs) : ∀ a ∈ cnt os gs, okGr a = true := fun a ha => h.ok a (cnt_mem ha)
def hasB (os : List Str) (gs : List Gr) (x : Str) (l p : Int) (u : D) : Bool := (os.any fun z => z == x) || (cnt os gs).any fun a => giv a x l p u
def hasV (os : List Str) (gs : List Gr) (d1 d2 d3 : D) : D := match d1, d2 with
  | .str x, .tuple [.int l, .int p] => .bool (hasB os gs x l p d3)
  | _, _ => .none
def g_has : G := fun as n P R => ∃ (os : List Str) (gs : List Gr) (d1 d2 d3 : D), as = [.dat (rolT os gs), .dat d1, .dat d2, .dat d3] ∧ RolOk os gs ∧ sane d1 = true ∧ sane d2 = true ∧ sane d3 = true ∧
  (isName d1 = false → R ⟨7, []⟩ n) ∧ (isName d1 = true → isPow d2 = false → R ⟨8, []⟩ n) ∧ (isName d1 = true → isPow d2 = true → okAt d3 = false → R ⟨9, []⟩ n) ∧ (isName d1 = true → isPow d2 = true → okAt d3 = true → P (hasV os gs d1 d2 d3) n)
def N_has : List Str := ["roll", "name", "power", "at", "grant"]
def m_has : MS := (mSeq (mExp (mCall g_need_name 1 (mCons (mVar 1) mNil)))
    (mSeq (mExp (mCall g_need_power 1 (mCons (mVar 2) mNil)))
    (mSeq (mExp (mCall g_need_at 1 (mCons (mVar 3) mNil)))
    (mSeq (mIfS (mT (m2 (fIn false) (mVarQ 1) (mProp 1 (g_prop 0) (mVar 0)))) (mRet (mC (.bool true))) mNext)
    (mRet (m1 fAny (mL (mComp (mItems (mCall g_counting_grants 1 (mCons (mVar 0) mNil))) (gdName 4) [4] mYes (mCall g_gives 4 (mCons (mVar 4) (mCons (mVar 1) (mCons (mVar 2) (mCons (mVar 3) mNil)))))))))))))
theorem pr_has (as n P R) (hl : as.length = 4) (h : g_has as n P R) : m_has (ends P R) (env0 as N_has.length) n := by
  obtain ⟨os, gs, d1, d2, d3, rfl, hr, s1, s2, s3, r1, r2, r3, p⟩ := h
  show m_has (ends P R) (env0 [.dat (rolT os gs), .dat d1, .dat d2, .dat d3] 5) n
  unfold m_has mComp mItems
  walk_at "ev"
  refine ⟨d1, rfl, sane_pl s1, fun h1 => ?_, r1⟩
  refine ⟨d2, rfl, s2, fun h2 => ?_, r2 h1⟩
  refine ⟨d3, rfl, sane_pl s3, fun h3 => ?_, r3 h1 h2⟩
  have p := p h1 h2 h3
  obtain ⟨x, rfl⟩ := isName_str h1
  obtain ⟨l, q, rfl⟩ := isPow_tup h2
  refine ⟨_, rfl, _, _, rfl, rfl, _, fIn_seq (ds := os.map PyData.str) rfl (okD_str _) (strs_alike os).1, _, rfl, ?_⟩
  rw [if_neg Bool.false_ne_true, strs_any]
  cases ho : os.any fun z => z == x with
  | true => exact iteT_of rfl (by simpa [hasV, hasB, ho] using p)
  | false =>
    refine iteF_of (by simp) ⟨os, gs, rfl, hr, _, rfl, ?_⟩
    refine comp_pure (fun _ => true) (fun d => .bool (match dec d with | some a => giv a x l q d3 | none => false)) _ _ (fun d _ => ⟨_, rfl, fun Q q => q⟩) (fun d hd ρ1 e _ Q qq => ?_) ?_ ?_
    · obtain ⟨a, _, rfl⟩ := List.mem_map.mp hd
      cases e
      walk_at "ev"
      exact ⟨a, x, l, q, d3, rfl, okAt_atS h3, qq⟩
    · rw [List.length_nil, List.length_map]
      have := cnt_few hr
      have := line100
      omega
    · rw [List.nil_append, filter_yes, List.map_map]
      refine ⟨.bool (((cnt os gs).map fun a => giv a x l q d3).any id), ?_, ?_⟩
      · show (bools _).map _ = _
        rw [show ((fun d => PyData.bool (match dec d with | some a => giv a x l q d3 | none => false)) ∘ enc) = fun a => PyData.bool (giv a x l q d3) from rfl, bools_mapB]
        rfl
      · have e : ((cnt os gs).map fun a => giv a x l q d3).any id = (cnt os gs).any fun a => giv a x l q d3 := by rw [List.any_map]; rfl
        simpa [hasV, hasB, ho, e] using p
/-! ### powers_of -/
def g_powers_of : G := fun as n P R => ∃ (os : List Str) (gs : List Gr) (d1 d3 : D), as = [.dat (rolT os gs), .dat d1, .dat d3] ∧ RolOk os gs ∧ sane d1 = true ∧ sane d3 = true ∧
  (isName d1 = false → R ⟨7, []⟩ n) ∧ (isName d1 = true → okAt d3 = false → R ⟨9, []⟩ n) ∧ (∀ x, d1 = .str x → isName d1 = true → okAt d3 = true → (os.any fun z => z == x) = true → P (.list [tupI [9, 20]]) n) ∧
  (∀ x, d1 = .str x → isName d1 = true → okAt d3 = true → (os.any fun z => z == x) = false → ∀ outs, TopR (prs (cnt os gs) x d3) outs → P (.list (outs.map tupI)) n)
def N_powers_of : List Str := ["roll", "name", "at"]
def m_powers_of : MS := (mSeq (mExp (mCall g_need_name 1 (mCons (mVar 1) mNil)))
    (mSeq (mExp (mCall g_need_at 1 (mCons (mVar 2) mNil)))
    (mSeq (mIfS (mT (m2 (fIn false) (mVarQ 1) (mProp 1 (g_prop 0) (mVar 0)))) (mRet (mL (mLst (mCons (mTup (mCons (mC (.int (9))) (mCons (mC (.int (20))) mNil))) mNil)))) mNext)
    (mRet (mCall g_top_powers 3 (mCons (mCall g_counting_grants 1 (mCons (mVar 0) mNil)) (mCons (mVar 1) (mCons (mVar 2) mNil))))))))
theorem pr_powers_of (as n P R) (hl : as.length = 3) (h : g_powers_of as n P R) : m_powers_of (ends P R) (env0 as N_powers_of.length) n := by
  obtain ⟨os, gs, d1, d3, rfl, hr, s1, s3, r1, r3, p1, p2⟩ := h
  show m_powers_of (ends P R) (env0 [.dat (rolT os gs), .dat d1, .dat d3] 3) n
  unfold m_powers_of
  walk_at "ev"
  refine ⟨d1, rfl, sane_pl s1, fun h1 => ?_, r1⟩
  refine ⟨d3, rfl, sane_pl s3, fun h3 => ?_, r3 h1⟩
  obtain ⟨x, rfl⟩ := isName_str h1
  refine ⟨_, rfl, _, _, rfl, rfl, _, fIn_seq (ds := os.map PyData.str) rfl (okD_str _) (strs_alike os).1, _, rfl, ?_⟩
  rw [if_neg Bool.false_ne_true, strs_any]
  cases ho : os.any fun z => z == x with
  | true =>
    refine iteT_of rfl ?_
    exact ⟨line2, line1, p1 x rfl h1 h3 ho⟩
  | false =>
    refine iteF_of (by simp) ⟨os, gs, rfl, hr, ?_⟩
    exact ⟨cnt os gs, x, d3, rfl, okAt_atS h3, cnt_few hr, cnt_ok hr, p2 x rfl h1 h3 ho⟩
/-! ### since -/
def tms (os : List Str) (gs : List Gr) (x : Str) (l p : Int) : List Int := ((cnt os gs).filter fun a => giv a x l p .none).map (·.t)
def g_since : G := fun as n P R => ∃ (os : List Str) (gs : List Gr) (d1 d2 : D), as = [.dat (rolT os gs), .dat d1, .dat d2] ∧ RolOk os gs ∧ sane d1 = true ∧ sane d2 = true ∧
  (isName d1 = false → R ⟨7, []⟩ n) ∧ (isName d1 = true → isPow d2 = false → R ⟨8, []⟩ n) ∧
  (∀ x l p, d1 = .str x → d2 = .tuple [.int l, .int p] → isName d1 = true → isPow d2 = true → (tms os gs x l p = [] → P .none n) ∧ ∀ m, m ∈ tms os gs x l p → (∀ y, y ∈ tms os gs x l p → m ≤ y) → P (.int m) n)
def N_since : List Str := ["roll", "name", "power", "times", "grant"]
def m_since : MS := (mSeq (mExp (mCall g_need_name 1 (mCons (mVar 1) mNil)))
    (mSeq (mExp (mCall g_need_power 1 (mCons (mVar 2) mNil)))
    (mSeq (mSet (mL (mComp (mItems (mCall g_counting_grants 1 (mCons (mVar 0) mNil))) (gdName 4) [4] (mT (mCall g_gives 4 (mCons (mVar 4) (mCons (mVar 1) (mCons (mVar 2) (mCons (mC .none) mNil)))))) (mIx (mVarQ 4) (mC (.int (0)))))) (gdName 3))
    (mRet (mMinD (mVarQ 3) (mC .none))))))
theorem pr_since (as n P R) (hl : as.length = 3) (h : g_since as n P R) : m_since (ends P R) (env0 as N_since.length) n := by
  obtain ⟨os, gs, d1, d2, rfl, hr, s1, s2, r1, r2, p⟩ := h
  show m_since (ends P R) (env0 [.dat (rolT os gs), .dat d1, .dat d2] 5) n
  unfold m_since mComp mItems mMinD
  walk_at "ev"
  refine ⟨d1, rfl, sane_pl s1, fun h1 => ?_, r1⟩
  refine ⟨d2, rfl, s2, fun h2 => ?_, r2 h1⟩
  obtain ⟨x, rfl⟩ := isName_str h1
  obtain ⟨l, q, rfl⟩ := isPow_tup h2
  obtain ⟨p1, p2⟩ := p x l q rfl rfl h1 h2
  refine ⟨os, gs, rfl, hr, _, rfl, ?_⟩
  refine comp_pure (fun d => match dec d with | some a => giv a x l q .none | none => false) (fun d => match dec d with | some a => .int a.t | none => .none) _ _ (fun d hd => ⟨_, rfl, fun Q qq => ?_⟩) (fun d hd ρ1 e _ Q qq => ?_) ?_ ?_
  · obtain ⟨a, _, rfl⟩ := List.mem_map.mp hd
    walk_at "ev"
    exact ⟨a, x, l, q, .none, rfl, rfl, _, rfl, qq⟩
  · obtain ⟨a, _, rfl⟩ := List.mem_map.mp hd
    cases e
    walk_at "ev"
    exact ⟨_, ix0 _ _, qq⟩
  · rw [List.length_nil, List.length_map]
    have := cnt_few hr
    have := line100
    omega
  · have e1 : (((cnt os gs).map enc).filter fun d => match dec d with | some a => giv a x l q .none | none => false).map (fun d => match dec d with | some a => PyData.int a.t | none => .none) = (tms os gs x l q).map PyData.int := by
      rw [List.filter_map, List.map_map, tms, List.map_map]
      rfl
    rw [List.nil_append, e1]
    exact ⟨_, rfl, p1, p2⟩
end DS

/-! V3: steps_of, holders; the law's call of them, what it expects. -/
namespace DS
open PySem L2
local macro_rules | `(tactic| walk_at "ev") => `(tactic| simp only [mRaise, mRaiseP, mCallK, mProp, mTru, truD, mLof, mTof, mBack, mCatT, mSlT, mSlB, mSetI, mNoP, mPart, mCat, mSeq, mRet, mVar, mVarQ, slD, mC, m1, m2, mT, mNot, mAnd, mOr, mAndV, mOrV, mNotV, mIf, mChain, mNil, mCons, mSrc, mTup, mLst, mCall, mIx, mL, mIs, mIs2, mIfS, mNext, mSet, mOwn, mRetO, mRetN, mExp, mPar, mNev, datAll, gdName, gdTup, setAll, fI, fIc, fNeg, fLen, fInt, fAbs, fIsN, env0, wipeR,
  is_int_NoneType, is_int_bool, is_int_int, is_int_str, is_int_list, is_int_tuple, is_bool_NoneType, is_bool_bool, is_bool_int, is_bool_str, is_bool_list, is_bool_tuple, is_str_NoneType, is_str_bool, is_str_int, is_str_str, is_str_list, is_str_tuple, is_tuple_NoneType, is_tuple_bool, is_tuple_int, is_tuple_str, is_tuple_list, is_tuple_tuple, is_list_NoneType, is_list_bool, is_list_int, is_list_str, is_list_list, is_list_tuple,
  List.map, List.length_cons, List.length_nil, List.getElem?_cons_zero, List.getElem?_cons_succ, List.set_cons_zero, List.set_cons_succ, List.replicate, List.append_assoc, List.cons_append, List.nil_append, Option.map_some, Option.some.injEq, Sl.dat.injEq, Sl.own.injEq, exists_eq_left', exists_eq_left, exists_and_left, exists_and_right, true_and, and_true, Bool.true_eq_false, if_true, if_false, reduceIte, Bool.false_eq_true, Bool.not_true, Bool.not_false, PyData.bool.injEq, PyData.int.injEq, PyData.str.injEq, PyData.tuple.injEq, PyData.list.injEq, Nat.reduceAdd, Nat.reduceSub, Option.map_none, decide_eq_true_eq, ex_if, eq_ints, eq_strs, eq_bools, ix0, ix1, ix2, ix3, ix4, lx0, lx1, lx2, lx3])

def stp (s : Int × List (List Int)) : D := .tuple [.int s.1, .list (s.2.map tupI)]
theorem okD_tops (outs : List (List Int)) : okD (.list (outs.map tupI)) = true := by
  have h : ∀ l : List (List Int), PyData.plainAll (l.map tupI) = true ∧ PyData.depthAll (l.map tupI) ≤ 10 := by
    intro l
    induction l with
    | nil => exact ⟨rfl, by simp [PyData.depthAll]⟩
    | cons k l ih =>
      have h1 : PyData.plainAll (k.map PyData.int) = true := by
        clear ih
        induction k with
        | nil => rfl
        | cons x r ih => simpa [PyData.plainAll, PyData.plain] using ih
      have h2 : PyData.depthAll (k.map PyData.int) ≤ 1 := by
        clear ih h1
        induction k with
        | nil => simp [PyData.depthAll]
        | cons x r ih =>
          simp only [List.map_cons, PyData.depthAll, PyData.depth]
          omega
      refine ⟨?_, ?_⟩
      · simp only [List.map_cons, PyData.plainAll, tupI, PyData.plain, h1, Bool.true_and]
        exact ih.1
      · have := ih.2
        simp only [List.map_cons, PyData.depthAll, tupI, PyData.depth]
        omega
  obtain ⟨h1, h2⟩ := h outs
  have h3 : PyData.depth (.list (outs.map tupI)) = PyData.depthAll (outs.map tupI) + 1 := by simp only [PyData.depth]
  have h4 : PyData.plain (.list (outs.map tupI)) = true := by simp only [PyData.plain]; exact h1
  unfold okD
  rw [h4, h3, Bool.true_and, decide_eq_true_eq]
  omega
theorem last_stp {st : List (Int × List (List Int))} (h : st ≠ []) : ∃ s ∈ st, fIx (.list (st.map stp)) (.int (-1)) = some (stp s) := by
  obtain ⟨s, hs⟩ : ∃ s, st.getLast? = some s := by
    cases e : st.getLast? with
    | none => exact absurd (List.getLast?_eq_none_iff.mp e) h
    | some s => exact ⟨s, rfl⟩
  refine ⟨s, List.mem_of_getLast? hs, ?_⟩
  have hl : 0 < st.length := List.length_pos_iff.mpr h
  have e : ixN (st.map stp).length (-1) = some (st.length - 1) := by
    unfold ixN
    rw [List.length_map, if_neg (by decide)]
    rw [if_pos (by omega)]
    congr 1
    omega
  show (ixN (st.map stp).length (-1)).bind (fun j => (st.map stp)[j]?) = _
  rw [e]
  show (st.map stp)[st.length - 1]? = _
  rw [List.getElem?_map, ← List.getLast?_eq_getElem?, hs]
  rfl
def g_steps_of : G := fun as n P R => ∃ (os : List Str) (gs : List Gr) (d1 : D), as = [.dat (rolT os gs), .dat d1] ∧ RolOk os gs ∧ sane d1 = true ∧ (isName d1 = false → R ⟨7, []⟩ n) ∧ (isName d1 = true → ∀ st : List (Int × List (List Int)), P (.list (st.map stp)) n)
def N_steps_of : List Str := ["roll", "name", "grant", "own", "steps", "powers"]
def b_steps_of_1 : MS := (mSeq (mSet (mCall g_top_powers 3 (mCons (mVar 3) (mCons (mVar 1) (mCons (mIx (mVarQ 2) (mC (.int (0)))) mNil)))) (gdName 5))
    (mIfS (mOr (mNot (mTru (mVarQ 4))) (mT (m2 (fEq true) (mIx (mIx (mVarQ 4) (m1 fNeg (mC (.int 1)))) (mC (.int 1))) (mVarQ 5)))) (mApp 4 (mTup (mCons (mIx (mVarQ 2) (mC (.int (0)))) (mCons (mVar 5) mNil)))) mNext))
def m_steps_of : MS := (mSeq (mExp (mCall g_need_name 1 (mCons (mVar 1) mNil)))
    (mSeq (mSet (mL (mComp (mItems (mCall g_counting_grants 1 (mCons (mVar 0) mNil))) (gdName 2) [2] (mT (mCall g_is_to 3 (mCons (mVar 2) (mCons (mVar 1) (mCons (mC .none) mNil))))) (mVar 2))) (gdName 3))
    (mSeq (mOwn 4 (mLst mNil))
    (mSeq (mFor (mItems (mVar 3)) (gdName 2) b_steps_of_1)
    (mRetO 4)))))
theorem t_steps_of {De : DEnds} {r v5 : Sl} {x : Str} {a : Gr} {hs : List Gr} {st : List (Int × List (List Int))} {n : Nat} (h1 : hs.length ≤ 60) (h2 : ∀ a ∈ hs, okGr a = true) (h3 : st.length ≤ 60)
    (h : ∀ (st' : List (Int × List (List Int))) (v5 : Sl), st'.length ≤ st.length + 1 → De.nx [r, .dat (.str x), .dat (enc a), .dat (.list (hs.map enc)), .own (st'.map stp), v5] n) :
    b_steps_of_1 De [r, .dat (.str x), .dat (enc a), .dat (.list (hs.map enc)), .own (st.map stp), v5] n := by
  unfold b_steps_of_1 mApp
  walk_at "ev"
  refine ⟨_, ix0 _ _, hs, x, .int a.t, rfl, rfl, h1, h2, fun outs ho => ?_⟩
  have l100 := line100
  have app : (st.map stp).length < sizeLine ∧ De.nx [r, .dat (.str x), .dat (enc a), .dat (.list (hs.map enc)), .own (st.map stp ++ [.tuple [.int a.t, .list (outs.map tupI)]]), .dat (.list (outs.map tupI))] n := by
    refine ⟨by rw [List.length_map]; omega, ?_⟩
    have := h (st ++ [(a.t, outs)]) (.dat (.list (outs.map tupI))) (by rw [List.length_append]; exact Nat.le_refl _)
    rw [List.map_append] at this
    exact this
  have keep : De.nx [r, .dat (.str x), .dat (enc a), .dat (.list (hs.map enc)), .own (st.map stp), .dat (.list (outs.map tupI))] n := h st _ (Nat.le_succ _)
  dsimp only
  by_cases he : st = []
  · subst he
    refine iteT_of rfl ⟨_, ix0 _ _, line2, app⟩
  · obtain ⟨s, hs', e1⟩ := last_stp he
    refine iteF_of ?_ ⟨_, e1, _, ix1 _ _ _, _, if_pos ⟨okD_tops _, okD_tops _⟩, _, rfl, ?_⟩
    · cases st with
      | nil => exact absurd rfl he
      | cons a st => simp
    · rw [if_pos rfl]
      refine if_cases (fun _ => ⟨_, ix0 _ _, line2, app⟩) fun _ => keep
theorem pr_steps_of (as n P R) (hl : as.length = 2) (h : g_steps_of as n P R) : m_steps_of (ends P R) (env0 as N_steps_of.length) n := by
  obtain ⟨os, gs, d1, rfl, hr, s1, r1, p⟩ := h
  show m_steps_of (ends P R) (env0 [.dat (rolT os gs), .dat d1] 6) n
  unfold m_steps_of mComp mItems mFor
  walk_at "ev"
  refine ⟨d1, rfl, sane_pl s1, fun h1 => ?_, r1⟩
  have p3 := p h1
  obtain ⟨x, rfl⟩ := isName_str h1
  have l100 := line100
  have cf := cnt_few hr
  refine ⟨os, gs, rfl, hr, _, rfl, ?_⟩
  refine comp_pure (fun d => match dec d with | some a => ito a x .none | none => false) id _ _ (fun d hd => ⟨_, rfl, fun Q qq => ?_⟩) (fun d hd ρ1 e _ Q qq => ?_) ?_ ?_
  · obtain ⟨a, _, rfl⟩ := List.mem_map.mp hd
    walk_at "ev"
    exact ⟨a, x, .none, rfl, rfl, _, rfl, qq⟩
  · cases e
    walk_at "ev"
    exact qq
  · rw [List.length_nil, List.length_map]; omega
  · have e1 : (((cnt os gs).map enc).filter fun d => match dec d with | some a => ito a x .none | none => false).map id = ((cnt os gs).filter fun a => ito a x .none).map enc := by
      rw [List.map_id, List.filter_map]
      rfl
    have ow1 : ((cnt os gs).filter fun a => ito a x .none).length ≤ 60 := Nat.le_trans (List.length_filter_le _ _) cf
    have ow2 : ∀ a ∈ (cnt os gs).filter (fun a => ito a x .none), okGr a = true := fun a ha => cnt_ok hr a (List.mem_filter.mp ha).1
    rw [List.nil_append, e1]
    generalize (cnt os gs).filter (fun a => ito a x .none) = ow at ow1 ow2
    refine ⟨Nat.zero_le _, ?_⟩
    refine for_inv5 (fun i ρ n' => n' = n ∧ ∃ (st : List (Int × List (List Int))) (v2 v5 : Sl), st.length ≤ i ∧ ρ = [.dat (rolT os gs), .dat (.str x), v2, .dat (.list (ow.map enc)), .own (st.map stp), v5]) _ ?_ ⟨rfl, [], _, _, Nat.le_refl _, rfl⟩ ?_
    · rintro i d ρ n' X hd ⟨rfl, st, v2, v5, hst, rfl⟩ hX
      obtain ⟨a, ha, rfl⟩ : ∃ a, ow[i]? = some a ∧ d = enc a := by
        rw [List.getElem?_map] at hd
        cases e : ow[i]? with
        | none => rw [e] at hd; cases hd
        | some a => rw [e] at hd; cases hd; exact ⟨a, rfl, rfl⟩
      have hi : i < ow.length := (List.getElem?_eq_some_iff.mp ha).1
      refine ⟨_, rfl, t_steps_of ow1 ow2 (by omega) fun st' v5 hl => hX _ _ ⟨rfl, st', _, _, by omega, rfl⟩⟩
    · rintro ρ n' ⟨rfl, st, v2, v5, hst, rfl⟩
      exact ⟨_, rfl, p3 st⟩
/-! ### holders -/
def g_holders : G := fun as n P R => ∃ (os : List Str) (gs : List Gr) (d2 d3 : D), as = [.dat (rolT os gs), .dat d2, .dat d3] ∧ RolOk os gs ∧ sane d2 = true ∧ sane d3 = true ∧
  (isPow d2 = false → R ⟨8, []⟩ n) ∧ (isPow d2 = true → okAt d3 = false → R ⟨9, []⟩ n) ∧ (isPow d2 = true → okAt d3 = true → ∀ ys : List Str, P (.list (ys.map PyData.str)) n)
def N_holders : List Str := ["roll", "power", "at", "found", "grant"]
def b_holders_1 : MS := (mIfS (mT (mCall g_gives 4 (mCons (mVar 4) (mCons (mIx (mVarQ 4) (mC (.int (2)))) (mCons (mVar 1) (mCons (mVar 2) mNil)))))) (mDPut 3 (mC (.bool true)) (mIx (mVarQ 4) (mC (.int (2))))) mNext)
def m_holders : MS := (mSeq (mExp (mCall g_need_power 1 (mCons (mVar 1) mNil)))
    (mSeq (mExp (mCall g_need_at 1 (mCons (mVar 2) mNil)))
    (mSeq (mDNewK 3)
    (mSeq (mFor (mItems (mCall g_counting_grants 1 (mCons (mVar 0) mNil))) (gdName 4) b_holders_1)
    (mRet (mL (mSortK 3)))))))
theorem t_holders {De : DEnds} {r : Sl} {a : Gr} {l p : Int} {u : D} {ks : List Str} {n : Nat} (hu : atS u = true) (h1 : ks.length ≤ 1000)
    (h : ∀ ks' : List Str, ks'.length ≤ ks.length + 1 → De.nx [r, .dat (.tuple [.int l, .int p]), .dat u, .dic false (kdS ks'), .dat (enc a)] n) :
    b_holders_1 De [r, .dat (.tuple [.int l, .int p]), .dat u, .dic false (kdS ks), .dat (enc a)] n := by
  unfold b_holders_1 mDPut
  walk_at "ev"
  refine ⟨_, ix2 _ _ _ _, a, a.k, l, p, u, rfl, hu, _, rfl, ?_⟩
  refine if_cases (fun _ => ?_) fun _ => h ks (Nat.le_succ _)
  exact ⟨rfl, _, ix2 _ _ _ _, _, slPut_kd ks a.k (by omega), h _ (insS_len ks a.k)⟩
theorem kdS_keys (ks : List Str) : (kdS ks).map (·.1) = ks.map Sum.inr := by
  rw [kdS, List.map_map]
  rfl
theorem pr_holders (as n P R) (hl : as.length = 3) (h : g_holders as n P R) : m_holders (ends P R) (env0 as N_holders.length) n := by
  obtain ⟨os, gs, d2, d3, rfl, hr, s2, s3, r2, r3, p⟩ := h
  show m_holders (ends P R) (env0 [.dat (rolT os gs), .dat d2, .dat d3] 5) n
  unfold m_holders mItems mFor mDNewK
  walk_at "ev"
  refine ⟨d2, rfl, s2, fun h2 => ?_, r2⟩
  refine ⟨d3, rfl, sane_pl s3, fun h3 => ?_, r3 h2⟩
  have p3 := p h2 h3
  obtain ⟨l, q, rfl⟩ := isPow_tup h2
  have cf := cnt_few hr
  refine ⟨os, gs, rfl, hr, _, rfl, ?_⟩
  refine for_inv5 (fun i ρ n' => n' = n ∧ ∃ (ks : List Str) (v : Sl), ks.length ≤ i ∧ ρ = [.dat (rolT os gs), .dat (.tuple [.int l, .int q]), .dat d3, .dic false (kdS ks), v]) _ ?_ ⟨rfl, [], _, Nat.le_refl _, rfl⟩ ?_
  · rintro i d ρ n' X hd ⟨rfl, ks, v, hk, rfl⟩ hX
    obtain ⟨a, ha, rfl⟩ : ∃ a, (cnt os gs)[i]? = some a ∧ d = enc a := by
      rw [List.getElem?_map] at hd
      cases e : (cnt os gs)[i]? with
      | none => rw [e] at hd; cases hd
      | some a => rw [e] at hd; cases hd; exact ⟨a, rfl, rfl⟩
    have hi : i < (cnt os gs).length := (List.getElem?_eq_some_iff.mp ha).1
    exact ⟨_, rfl, t_holders (okAt_atS h3) (by omega) fun ks' hl => hX _ _ ⟨rfl, ks', _, by omega, rfl⟩⟩
  · rintro ρ n' ⟨rfl, ks, v, hk, rfl⟩
    rw [List.length_map] at hk
    exact ⟨kdS ks, ks, rfl, kdS_keys ks, by omega, fun ys _ _ => p3 ys⟩
end DS

set_option exponentiation.threshold 1000
/-! V5a: rolls that are drawn are made. -/
namespace DS
open PySem L2
local macro_rules | `(tactic| walk_at "ev") => `(tactic| simp only [mRaise, mRaiseP, mCallK, mProp, mTru, truD, mLof, mTof, mBack, mCatT, mSlT, mSlB, mSetI, mNoP, mPart, mCat, mSeq, mRet, mVar, mVarQ, slD, mC, m1, m2, mT, mNot, mAnd, mOr, mAndV, mOrV, mNotV, mIf, mChain, mNil, mCons, mSrc, mTup, mLst, mCall, mIx, mL, mIs, mIs2, mIfS, mNext, mSet, mOwn, mRetO, mRetN, mExp, mPar, mNev, datAll, gdName, gdTup, setAll, fI, fIc, fNeg, fLen, fInt, fAbs, fIsN, env0, wipeR,
  is_int_NoneType, is_int_bool, is_int_int, is_int_str, is_int_list, is_int_tuple, is_bool_NoneType, is_bool_bool, is_bool_int, is_bool_str, is_bool_list, is_bool_tuple, is_str_NoneType, is_str_bool, is_str_int, is_str_str, is_str_list, is_str_tuple, is_tuple_NoneType, is_tuple_bool, is_tuple_int, is_tuple_str, is_tuple_list, is_tuple_tuple, is_list_NoneType, is_list_bool, is_list_int, is_list_str, is_list_list, is_list_tuple,
  List.map, List.length_cons, List.length_nil, List.getElem?_cons_zero, List.getElem?_cons_succ, List.set_cons_zero, List.set_cons_succ, List.replicate, List.append_assoc, List.cons_append, List.nil_append, Option.map_some, Option.some.injEq, Sl.dat.injEq, Sl.own.injEq, exists_eq_left', exists_eq_left, exists_and_left, exists_and_right, true_and, and_true, Bool.true_eq_false, if_true, if_false, reduceIte, Bool.false_eq_true, Bool.not_true, Bool.not_false, PyData.bool.injEq, PyData.int.injEq, PyData.str.injEq, PyData.tuple.injEq, PyData.list.injEq, Nat.reduceAdd, Nat.reduceSub, Option.map_none, decide_eq_true_eq, ex_if, eq_ints, eq_strs, eq_bools, ix0, ix1, ix2, ix3, ix4, lx0, lx1, lx2, lx3])

theorem findE_nones {f : Nat → Option D} : ∀ {m i : Nat}, (∀ j, i ≤ j → j < i + m → f j = none) → findE f i m = none
  | 0, i, _ => rfl
  | m + 1, i, h => by
    rw [findE_none (h i (Nat.le_refl _) (by omega))]
    exact findE_nones fun j h1 h2 => h j (by omega) (by omega)
theorem nodup_take {α : Type} {l : List α} {i : Nat} {x : α} (nd : l.Nodup) (h : l[i]? = some x) : x ∉ l.take i := fun hx => by
  obtain ⟨j, hj, e⟩ := List.getElem_of_mem hx
  rw [List.length_take] at hj
  rw [List.getElem_take] at e
  obtain ⟨hi, e2⟩ := List.getElem?_eq_some_iff.mp h
  have := (List.getElem_inj nd (h₀ := by omega) (h₁ := hi)).mp (e.trans e2.symm)
  omega
theorem oerr_drawn {os : List Str} (nd : os.Nodup) (nm : ∀ s ∈ os, nameOk s = true) (h1 : 1 ≤ os.length) (h4 : os.length ≤ 4) : oerr (os.map PyData.str) = .none := by
  unfold oerr
  rw [if_pos ⟨by rw [List.length_map]; exact h1, by rw [List.length_map]; exact h4⟩, findE_nones]
  · rfl
  intro j _ hj
  rw [List.length_map] at hj
  unfold obad
  have e : os[j]? = some os[j]! := by rw [List.getElem?_eq_getElem (by omega), List.getElem!_eq_getElem?_getD, List.getElem?_eq_getElem (by omega)]; rfl
  rw [List.getElem?_map, e]
  show (if _ then _ else _) = _
  generalize os[j]! = s at e
  have a1 : isName (.str s) = true := nm s (List.mem_of_getElem? e)
  have a2 : ((os.map PyData.str).take j).any (fun z => PyData.eqv z (.str s)) = false := by
    rw [← List.map_take, strs_any]
    rw [List.any_eq_false]
    intro z hz hh
    rw [beq_iff_eq] at hh
    subst hh
    exact nodup_take nd e hz
  rw [if_neg]
  rw [a1, a2]
  decide
theorem gserr_drawn {os ns : List Str} {gs : List Gr} (hd : Drawn os ns) (he : EntOk os ns gs) (hl : gs.length ≤ 60) : gserr (os.map PyData.str) (.list (gs.map enc)) = .none := by
  show (if _ then _ else _) = _
  rw [if_pos (by rw [List.length_map]; exact hl), findE_nones]
  · rfl
  intro j _ hj
  rw [List.length_map] at hj
  have e : ∃ a, gs[j]? = some a := ⟨_, List.getElem?_eq_getElem (by omega)⟩
  obtain ⟨a, e⟩ := e
  have ha : a ∈ gs := List.mem_of_getElem? e
  unfold gbad
  rw [List.getElem?_map, e]
  show (if _ then _ else _) = _
  rw [gerr_enc (he.ok a ha), if_neg (by decide)]
  have a1 : ((os.map PyData.str).any fun z => PyData.eqv z (tkr (enc a))) = false := by
    show ((os.map PyData.str).any fun z => PyData.eqv z (.str a.k)) = false
    rw [strs_any, List.any_eq_false]
    intro z hz hh
    rw [beq_iff_eq] at hh
    subst hh
    exact (List.nodup_append.mp hd.nd).2.2 a.k hz a.k (he.tk a ha) rfl
  have a2 : ((gs.map enc).take j).any (fun z => PyData.eqv z (enc a)) = false := by
    rw [← List.map_take, any_enc]
    exact decide_eq_false (nodup_take he.nd e)
  rw [a1, a2]
  rfl
theorem rerr_drawn {os ns : List Str} {gs : List Gr} (hd : Drawn os ns) (he : EntOk os ns gs) (hl : gs.length ≤ 60) : isN (rerr (os.map PyData.str) (.list (gs.map enc))) = true := by
  have h1 := oerr_drawn (List.nodup_append.mp hd.nd).1 (fun s hs => (hd.nm s (List.mem_append_left _ hs)).1) hd.o1 hd.o4
  unfold rerr
  rw [h1, if_pos (show isN PyData.none = true from rfl), gserr_drawn hd he hl]
  rfl
theorem rolOk_drawn {os ns : List Str} {gs : List Gr} (hd : Drawn os ns) (he : EntOk os ns gs) (hl : gs.length ≤ 60) : RolOk (sortS os) (sortG gs) := ⟨fun a ha => he.ok a (mem_sortG.mp ha), by rw [len_sortG]; exact hl, by rw [len_sortS]; exact hd.o4⟩
/-- a roll drawn is made -/
theorem make_drawn {os ns : List Str} {gs : List Gr} {n : Nat} {P : PD} {R : PX} (hd : Drawn os ns) (he : EntOk os ns gs) (hl : gs.length ≤ 60) (p : P (rolD os gs) n) : g_law_make [.dat (.list (os.map PyData.str)), .dat (.list (gs.map enc))] n P R := by
  have so : saneAll (os.map PyData.str) = true := by
    have : ∀ l : List Str, (∀ s ∈ l, nameOk s = true) → saneAll (l.map PyData.str) = true := by
      intro l
      induction l with
      | nil => intro _; rfl
      | cons s l ih =>
        intro h
        have := nameOk_len (h s List.mem_cons_self)
        simp only [List.map_cons, saneAll, sane, Bool.and_eq_true, decide_eq_true_eq]
        exact ⟨line_small (by omega), ih fun t ht => h t (.tail _ ht)⟩
    exact this os fun s hs => (hd.nm s (List.mem_append_left _ hs)).1
  have sg : sane (.list (gs.map enc)) = true := by
    have : ∀ l : List Gr, (∀ a ∈ l, okGr a = true) → saneAll (l.map enc) = true := by
      intro l
      induction l with
      | nil => intro _; rfl
      | cons a l ih =>
        intro h
        simp only [List.map_cons, saneAll, Bool.and_eq_true]
        exact ⟨sane_enc (h a List.mem_cons_self), ih fun t ht => h t (.tail _ ht)⟩
    exact this gs he.ok
  refine ⟨_, _, rfl, by rw [List.length_map]; exact hd.o1, by rw [List.length_map]; exact hd.o4, _, rfl, so, sg, fun h => ?_, fun _ os' gs' e1 e2 _ _ _ _ _ => ?_⟩
  · rw [rerr_drawn hd he hl] at h; cases h
  · have q1 : os = os' := by
      have := congrArg (List.map unS) e1
      rwa [unS_map, unS_map] at this
    have q2 : gs = gs' := by
      have e3 : gs.map enc = gs'.map enc := Option.some.inj e2
      exact List.map_inj_right (fun a b h => enc_inj h) |>.mp e3
    subst q1 q2
    exact p
end DS

/-! W1: which grants count, as a set. -/
namespace DS
open PySem L2
theorem leG_time {a b : Gr} (h : leG a b = true) : a.t ≤ b.t := by
  refine Int.not_lt.mp fun hlt => ?_
  have e : leG a b = !PyProof.Rows.lexLt PyProof.Rows.itemOrd (PySem.W.keyToks (enc b)) (PySem.W.keyToks (enc a)) := rfl
  have e2 : PyProof.Rows.lexLt PyProof.Rows.itemOrd (PySem.W.keyToks (enc b)) (PySem.W.keyToks (enc a)) = true := by
    simp only [enc, PySem.W.keyToks, PySem.W.keyToksAll, List.cons_append, List.nil_append]
    rw [PyProof.Rows.lex_cons, PyProof.Rows.lex_cons]
    have h1 : PyProof.Rows.itemOrd.blt (.inl b.t) (.inl a.t) = true := decide_eq_true hlt
    have h0 : PyProof.Rows.itemOrd.blt (.inl 1) (.inl 1) = false := rfl
    rw [h1, h0]
    rfl
  rw [e, e2] at h
  cases h
theorem toks_enc {a b : Gr} (h : PySem.W.keyToks (enc a) = PySem.W.keyToks (enc b)) : a = b := by
  simp only [enc, PySem.W.keyToks, PySem.W.keyToksAll, List.cons_append, List.nil_append, List.cons.injEq, Sum.inl.injEq, Sum.inr.injEq, true_and, and_true] at h
  obtain ⟨h1, h2, h3, h4, h5⟩ := h
  cases a
  cases b
  simp only at h1 h2 h3 h4 h5
  rw [h1, PySem.W.str_of_cps h2, PySem.W.str_of_cps h3, h4, h5]
theorem leG_anti {a b : Gr} (h1 : leG a b = true) (h2 : leG b a = true) : a = b := by
  have e1 : PyProof.Rows.lexLt PyProof.Rows.itemOrd (PySem.W.keyToks (enc b)) (PySem.W.keyToks (enc a)) = false := by
    have : leG a b = !PyProof.Rows.lexLt PyProof.Rows.itemOrd (PySem.W.keyToks (enc b)) (PySem.W.keyToks (enc a)) := rfl
    rw [this] at h1
    simpa using h1
  have e2 : PyProof.Rows.lexLt PyProof.Rows.itemOrd (PySem.W.keyToks (enc a)) (PySem.W.keyToks (enc b)) = false := by
    have : leG b a = !PyProof.Rows.lexLt PyProof.Rows.itemOrd (PySem.W.keyToks (enc a)) (PySem.W.keyToks (enc b)) := rfl
    rw [this] at h2
    simpa using h2
  refine toks_enc ?_
  exact (PyProof.Rows.listOrd PyProof.Rows.itemOrd).total _ _ e2 e1
theorem sortG_pw (l : List Gr) : (sortG l).Pairwise fun a b => leG a b = true :=
  List.pairwise_mergeSort (le := leG) (fun a b c h1 h2 => (PySem.W.sortLe_total (PyProof.Rows.listOrd PyProof.Rows.itemOrd) false fun b => PySem.W.keyToks (enc b)).trans a b c h1 h2)
    (fun a b => Bool.or_eq_true_iff.mpr ((PySem.W.sortLe_total (PyProof.Rows.listOrd PyProof.Rows.itemOrd) false fun b => PySem.W.keyToks (enc b)).total a b)) l
theorem sortG_uniq {l m : List Gr} (h : m.Pairwise fun a b => leG a b = true) (p : l.Perm m) : sortG l = m :=
  List.Perm.eq_of_pairwise (le := fun a b => leG a b = true) (fun a b _ _ h1 h2 => leG_anti h1 h2) (sortG_pw l) h ((List.mergeSort_perm l leG).trans p)
theorem sortG_time (l : List Gr) : (sortG l).Pairwise fun a b => a.t ≤ b.t := (sortG_pw l).imp fun h => leG_time h
/-! ### the one pass -/
theorem cb_mem (os os' : List Str) (h : ∀ s, s ∈ os ↔ s ∈ os') (hs : List Gr) (a : Gr) : cb os hs a = cb os' hs a := by
  unfold cb
  congr 1
  rw [Bool.eq_iff_iff, List.any_eq_true, List.any_eq_true]
  constructor
  · rintro ⟨x, hx, e⟩; exact ⟨x, (h x).mp hx, e⟩
  · rintro ⟨x, hx, e⟩; exact ⟨x, (h x).mpr hx, e⟩
theorem cntS_os (os os' : List Str) (h : ∀ s, s ∈ os ↔ s ∈ os') : ∀ (r acc : List Gr), cntS os acc r = cntS os' acc r
  | [], _ => rfl
  | a :: r, acc => by
    show cntS os (if cb os acc a = true then acc ++ [a] else acc) r = cntS os' (if cb os' acc a = true then acc ++ [a] else acc) r
    rw [cb_mem os os' h, cntS_os os os' h r]
theorem cntS_app (os : List Str) : ∀ (l r acc : List Gr), cntS os acc (l ++ r) = cntS os (cntS os acc l) r
  | [], _, _ => rfl
  | a :: l, r, acc => cntS_app os l r _
theorem cntS_pre (os : List Str) : ∀ (r acc : List Gr), ∃ s, cntS os acc r = acc ++ s ∧ s.Sublist r
  | [], acc => ⟨[], by simp [cntS], .slnil⟩
  | a :: r, acc => by
    obtain ⟨s, e, h⟩ := cntS_pre os r (if cb os acc a = true then acc ++ [a] else acc)
    have e' : cntS os acc (a :: r) = (if cb os acc a = true then acc ++ [a] else acc) ++ s := e
    by_cases hc : cb os acc a = true
    · rw [if_pos hc] at e'
      exact ⟨a :: s, by rw [e', List.append_assoc]; rfl, h.cons₂ a⟩
    · rw [if_neg hc] at e'
      exact ⟨s, e', h.cons a⟩
theorem cnt_sub (os : List Str) (gs : List Gr) : (cnt os gs).Sublist gs := by
  obtain ⟨s, e, h⟩ := cntS_pre os gs []
  rw [cnt, e]
  exact h
theorem cnt_closed {os : List Str} {gs : List Gr} (ht : gs.Pairwise fun a b => a.t ≤ b.t) {x : Gr} (hx : x ∈ gs) (h : x.g ∈ os ∨ ∃ y ∈ cnt os gs, bk y x = true) : x ∈ cnt os gs := by
  obtain ⟨l1, l2, e⟩ := List.append_of_mem hx
  subst e
  have e1 : cnt os (l1 ++ x :: l2) = cntS os (if cb os (cnt os l1) x = true then cnt os l1 ++ [x] else cnt os l1) l2 := by
    rw [cnt, cntS_app]; rfl
  have hc : cb os (cnt os l1) x = true := by
    unfold cb
    rw [Bool.or_eq_true]
    rcases h with h | ⟨y, hy, hb⟩
    · exact .inl (List.any_eq_true.mpr ⟨_, h, by simp⟩)
    · refine .inr (List.any_eq_true.mpr ⟨y, ?_, hb⟩)
      have lt : y.t < x.t := by
        unfold bk at hb
        simp only [Bool.and_eq_true, decide_eq_true_eq] at hb
        exact hb.2.1
      obtain ⟨s, es, hs⟩ := cntS_pre os (x :: l2) (cnt os l1)
      have e2 : cnt os (l1 ++ x :: l2) = cnt os l1 ++ s := by rw [cnt, cntS_app]; exact es
      rw [e2] at hy
      rcases List.mem_append.mp hy with hy | hy
      · exact hy
      · exfalso
        have hy2 := hs.subset hy
        have hp := (List.pairwise_append.mp ht).2.1
        rcases List.mem_cons.mp hy2 with rfl | hy2
        · exact Int.lt_irrefl _ lt
        · have := (List.pairwise_cons.mp hp).1 y hy2
          omega
  rw [e1, if_pos hc]
  obtain ⟨s, es, _⟩ := cntS_pre os l2 (cnt os l1 ++ [x])
  rw [es]
  simp
theorem cnt_least {os : List Str} {gs : List Gr} (S : Gr → Prop) (h1 : ∀ x ∈ gs, x.g ∈ os → S x) (h2 : ∀ x ∈ gs, ∀ y, S y → bk y x = true → S x) : ∀ x ∈ cnt os gs, S x := by
  have go : ∀ (r acc : List Gr), (∀ x ∈ r, x ∈ gs) → (∀ x ∈ acc, S x) → ∀ x ∈ cntS os acc r, S x := by
    intro r
    induction r with
    | nil => intro acc _ ha x hx; exact ha x hx
    | cons a r ih =>
      intro acc hr ha x hx
      refine ih _ (fun x hx => hr x (.tail _ hx)) (fun x hx => ?_) x hx
      split at hx
      · rename_i hc
        rcases List.mem_append.mp hx with hx | hx
        · exact ha x hx
        · rw [List.mem_singleton.mp hx]
          unfold cb at hc
          rcases Bool.or_eq_true_iff.mp hc with hc | hc
          · obtain ⟨z, hz, e⟩ := List.any_eq_true.mp hc
            rw [beq_iff_eq] at e
            subst e
            exact h1 a (hr a (.head _)) hz
          · obtain ⟨z, hz, e⟩ := List.any_eq_true.mp hc
            exact h2 a (hr a (.head _)) z (ha z hz) e
      · exact ha x hx
  exact go gs [] (fun _ h => h) (fun _ h => nomatch h)
/-- what counts among the entries es -/
abbrev cns (os : List Str) (es : List Gr) : List Gr := cnt (sortS os) (sortG es)
/-- a set that begins with the owners' grants and is closed, and holds none that does not count, is what counts -/
theorem cns_uniq {os : List Str} {es F : List Gr} (nd : es.Nodup) (fn : F.Nodup) (h1 : ∀ x ∈ F, x ∈ cns os es) (h2 : ∀ x ∈ es, x.g ∈ os → x ∈ F) (h3 : ∀ x ∈ es, ∀ y ∈ F, bk y x = true → x ∈ F) : sortG F = cns os es := by
  refine sortG_uniq ?_ ?_
  · exact List.Pairwise.sublist (cnt_sub _ _) (sortG_pw es)
  · have hn : (cns os es).Nodup := List.Nodup.sublist (cnt_sub _ _) ((List.mergeSort_perm es leG).nodup_iff.mpr nd)
    refine (List.perm_ext_iff_of_nodup fn hn).mpr fun x => ⟨h1 x, ?_⟩
    exact cnt_least (fun x => x ∈ F) (fun x hx hg => h2 x (mem_sortG.mp hx) (mem_sortS.mp hg)) (fun x hx y hy hb => h3 x (mem_sortG.mp hx) y hy hb) x
theorem cns_closed {os : List Str} {es : List Gr} {x : Gr} (hx : x ∈ es) (h : x.g ∈ os ∨ ∃ y ∈ cns os es, bk y x = true) : x ∈ cns os es :=
  cnt_closed (sortG_time es) (mem_sortG.mpr hx) (h.imp (fun h => mem_sortS.mpr h) id)
end DS

/-! W2: the law's own counting. -/
namespace DS
open PySem L2
local macro_rules | `(tactic| walk_at "ev") => `(tactic| simp only [mRaise, mRaiseP, mCallK, mProp, mTru, truD, mLof, mTof, mBack, mCatT, mSlT, mSlB, mSetI, mNoP, mPart, mCat, mSeq, mRet, mVar, mVarQ, slD, mC, m1, m2, mT, mNot, mAnd, mOr, mAndV, mOrV, mNotV, mIf, mChain, mNil, mCons, mSrc, mTup, mLst, mCall, mIx, mL, mIs, mIs2, mIfS, mNext, mSet, mOwn, mRetO, mRetN, mExp, mPar, mNev, datAll, gdName, gdTup, setAll, fI, fIc, fNeg, fLen, fInt, fAbs, fIsN, env0, wipeR,
  is_int_NoneType, is_int_bool, is_int_int, is_int_str, is_int_list, is_int_tuple, is_bool_NoneType, is_bool_bool, is_bool_int, is_bool_str, is_bool_list, is_bool_tuple, is_str_NoneType, is_str_bool, is_str_int, is_str_str, is_str_list, is_str_tuple, is_tuple_NoneType, is_tuple_bool, is_tuple_int, is_tuple_str, is_tuple_list, is_tuple_tuple, is_list_NoneType, is_list_bool, is_list_int, is_list_str, is_list_list, is_list_tuple,
  List.map, List.length_cons, List.length_nil, List.getElem?_cons_zero, List.getElem?_cons_succ, List.set_cons_zero, List.set_cons_succ, List.replicate, List.append_assoc, List.cons_append, List.nil_append, Option.map_some, Option.some.injEq, Sl.dat.injEq, Sl.own.injEq, exists_eq_left', exists_eq_left, exists_and_left, exists_and_right, true_and, and_true, Bool.true_eq_false, if_true, if_false, reduceIte, Bool.false_eq_true, Bool.not_true, Bool.not_false, PyData.bool.injEq, PyData.int.injEq, PyData.str.injEq, PyData.tuple.injEq, PyData.list.injEq, Nat.reduceAdd, Nat.reduceSub, Option.map_none, decide_eq_true_eq, ex_if, eq_ints, eq_strs, eq_bools, ix0, ix1, ix2, ix3, ix4, lx0, lx1, lx2, lx3])

def g_law_counting : G := fun as n P _ => ∃ (os : List Str) (es : List Gr), as = [.dat (.list (os.map PyData.str)), .dat (.list (es.map enc))] ∧ es.Nodup ∧ es.length ≤ 1000 ∧ P (.list ((cns os es).map enc)) n
def N_law_counting : List Str := ["owners", "entries", "entry", "found", "size", "one"]
def b_law_counting_1 : MS := (mIfS (mAnd (mT (m2 (fIn true) (mVarQ 2) (mVarQ 3))) (mT (m2 (fEq true) (mL (mComp (mItems (mVarQ 3)) (gdName 5) [5] (mT (mCall g_law_is_support 2 (mCons (mVar 5) (mCons (mVar 2) mNil)))) (mVar 5))) (mL (mLst mNil))))) (mApp 3 (mVar 2)) mNext)
def b_law_counting_2 : MS := (mSeq (mSet (m1 fLen (mVarQ 3)) (gdName 4))
    (mFor (mItems (mVar 1)) (gdName 2) b_law_counting_1))
def m_law_counting : MS := (mSeq (mOwn 3 (mComp (mItems (mVarQ 1)) (gdName 2) [2] (mT (m2 (fIn false) (mIx (mVarQ 2) (mC (.int 1))) (mVarQ 0))) (mVar 2)))
    (mSeq (mSet (m1 fNeg (mC (.int 1))) (gdName 4))
    (mSeq (mWhile (mT (m2 (fEq true) (mVarQ 4) (m1 fLen (mVarQ 3)))) b_law_counting_2)
    (mFrz 3 (mRet (mL (mSorted (mVarQ 3))))))))
/-- found, with one entry looked at -/
def look (F : List Gr) (x : Gr) : List Gr := if x ∉ F ∧ (F.any fun y => bk y x) = true then F ++ [x] else F
theorem okD_encsL (F : List Gr) : okD (.list (F.map enc)) = true := (okD_encs (all_encs F)).1
theorem t_law_counting_1 {De : DEnds} {a0 a1 a4 a5 : Sl} {F : List Gr} {x : Gr} {n : Nat} (h1 : F.length ≤ 2000) (h : De.nx [a0, a1, .dat (enc x), .own ((look F x).map enc), a4, a5] n) :
    b_law_counting_1 De [a0, a1, .dat (enc x), .own (F.map enc), a4, a5] n := by
  have l3 : (3000 : Nat) ≤ sizeLine := by rw [sizeLine_eq]; decide
  unfold b_law_counting_1 mApp mComp mItems
  walk_at "ev"
  refine ⟨_, fIn_seq (ds := F.map enc) rfl (okD_enc x) (encs_plain (all_encs F)).1, _, rfl, ?_⟩
  rw [if_pos rfl, any_enc]
  by_cases hx : x ∈ F
  · have e : look F x = F := if_neg fun h => h.1 hx
    rw [e] at h
    rw [decide_eq_true hx]
    exact iteF_of (by simp) h
  · rw [decide_eq_false hx]
    refine iteT_of (by simp) ?_
    refine comp_pure (fun d => match dec d with | some y => bk y x | none => false) id _ _ (fun d hd => ⟨_, rfl, fun Q q => ?_⟩) (fun d hd ρ1 e _ Q q => ?_) ?_ ?_
    · obtain ⟨y, _, rfl⟩ := List.mem_map.mp hd
      walk_at "ev"
      exact gF1 [enc y, enc x] (.bool (bk y x)) rfl rfl ⟨_, rfl, q⟩
    · cases e
      walk_at "ev"
      exact q
    · rw [List.length_nil, List.length_map]; omega
    · have e1 : ((F.map enc).filter fun d => match dec d with | some y => bk y x | none => false).map id = (F.filter fun y => bk y x).map enc := by
        rw [List.map_id, List.filter_map]
        rfl
      rw [List.nil_append, e1]
      refine ⟨Nat.zero_le _, _, if_pos ⟨okD_encsL _, rfl⟩, _, rfl, ?_⟩
      rw [if_pos rfl, eqv_nilL]
      have e2 : ((F.filter fun y => bk y x).map enc).isEmpty = !(F.any fun y => bk y x) := by
        rw [Bool.eq_iff_iff]
        simp [List.filter_eq_nil_iff]
      rw [e2, Bool.not_not]
      by_cases hb : (F.any fun y => bk y x) = true
      · have e : look F x = F ++ [x] := if_pos ⟨hx, hb⟩
        rw [e, List.map_append] at h
        exact iteT_of hb ⟨by rw [List.length_map]; omega, h⟩
      · have e : look F x = F := if_neg fun h => hb h.2
        rw [e] at h
        exact iteF_of hb h
def looks (F : List Gr) : List Gr → List Gr
  | [] => F
  | x :: r => looks (look F x) r
theorem look_cases (F : List Gr) (x : Gr) : (look F x = F ∧ (x ∈ F ∨ (F.any fun y => bk y x) = false)) ∨ (look F x = F ++ [x] ∧ x ∉ F ∧ (F.any fun y => bk y x) = true) := by
  unfold look
  by_cases h : x ∉ F ∧ (F.any fun y => bk y x) = true
  · rw [if_pos h]; exact .inr ⟨rfl, h⟩
  · rw [if_neg h]
    refine .inl ⟨rfl, ?_⟩
    by_cases hx : x ∈ F
    · exact .inl hx
    · refine .inr ?_
      cases e : F.any fun y => bk y x with
      | false => rfl
      | true => exact absurd ⟨hx, e⟩ h
theorem looks_len : ∀ (r F : List Gr), F.length ≤ (looks F r).length ∧ (looks F r).length ≤ F.length + r.length
  | [], F => ⟨Nat.le_refl _, Nat.le_refl _⟩
  | x :: r, F => by
    obtain ⟨h1, h2⟩ := looks_len r (look F x)
    have e : looks F (x :: r) = looks (look F x) r := rfl
    rw [e, List.length_cons]
    rcases look_cases F x with ⟨e, _⟩ | ⟨e, _⟩
    · rw [e] at h1 h2 ⊢; omega
    · rw [e] at h1 h2 ⊢
      rw [List.length_append, List.length_singleton] at h1 h2
      omega
theorem looks_good (S : Gr → Prop) (hS : ∀ x y, S y → bk y x = true → S x) : ∀ (r F : List Gr), F.Nodup → (∀ x ∈ F, S x) → (looks F r).Nodup ∧ (∀ x ∈ looks F r, S x) ∧ (∀ x ∈ F, x ∈ looks F r)
  | [], F, nd, h => ⟨nd, h, fun _ h => h⟩
  | x :: r, F, nd, h => by
    rcases look_cases F x with ⟨e, _⟩ | ⟨e, hx, hb⟩
    · have e2 : looks F (x :: r) = looks F r := by show looks (look F x) r = _; rw [e]
      rw [e2]
      exact looks_good S hS r F nd h
    · have e2 : looks F (x :: r) = looks (F ++ [x]) r := by show looks (look F x) r = _; rw [e]
      obtain ⟨y, hy, hb⟩ := List.any_eq_true.mp hb
      obtain ⟨k1, k2, k3⟩ := looks_good S hS r (F ++ [x]) (List.nodup_append.mpr ⟨nd, (by simp), fun a ha b hb e => by
        rw [List.mem_singleton.mp hb] at e
        rw [e] at ha
        exact hx ha⟩) (fun z hz => by
        rcases List.mem_append.mp hz with hz | hz
        · exact h z hz
        · rw [List.mem_singleton.mp hz]; exact hS x y (h y hy) hb)
      rw [e2]
      exact ⟨k1, k2, fun z hz => k3 z (List.mem_append_left _ hz)⟩
theorem looks_same : ∀ (r F : List Gr), (looks F r).length = F.length → looks F r = F ∧ ∀ x ∈ r, ∀ y ∈ F, bk y x = true → x ∈ F
  | [], F, _ => ⟨rfl, fun _ h => nomatch h⟩
  | x :: r, F, h => by
    rcases look_cases F x with ⟨e, hq⟩ | ⟨e, hx, hb⟩
    · have e2 : looks F (x :: r) = looks F r := by show looks (look F x) r = _; rw [e]
      rw [e2] at h ⊢
      obtain ⟨k1, k2⟩ := looks_same r F h
      refine ⟨k1, fun z hz y hy hb => ?_⟩
      rcases List.mem_cons.mp hz with rfl | hz
      · rcases hq with hq | hq
        · exact hq
        · have : (F.any fun y => bk y z) = true := List.any_eq_true.mpr ⟨y, hy, hb⟩
          rw [hq] at this; cases this
      · exact k2 z hz y hy hb
    · have e2 : looks F (x :: r) = looks (F ++ [x]) r := by show looks (look F x) r = _; rw [e]
      rw [e2] at h
      have := (looks_len r (F ++ [x])).1
      rw [List.length_append, List.length_singleton] at this
      omega
theorem nodup_le : ∀ {F L : List Gr}, F.Nodup → (∀ x ∈ F, x ∈ L) → F.length ≤ L.length
  | [], L, _, _ => Nat.zero_le _
  | a :: F, L, nd, h => by
    have ha : a ∈ L := h a (.head _)
    have hn := List.nodup_cons.mp nd
    have := nodup_le (L := L.erase a) hn.2 fun x hx => (List.mem_erase_of_ne (fun e => hn.1 (by rw [← e]; exact hx))).mpr (h x (.tail _ hx))
    rw [List.length_erase_of_mem ha] at this
    have := List.length_pos_of_mem ha
    rw [List.length_cons]
    omega
theorem t_law_pass {De : DEnds} {a0 a1 a4 a5 : Sl} {n : Nat} : ∀ (r F : List Gr) (a2 : Sl), F.length + r.length ≤ 2000 → (∀ a2, De.nx [a0, a1, a2, .own ((looks F r).map enc), a4, a5] n) →
    forW (gdName 2) b_law_counting_1 De (r.map enc) [a0, a1, a2, .own (F.map enc), a4, a5] n
  | [], F, a2, _, h => h a2
  | x :: r, F, a2, hl, h => by
    rw [List.length_cons] at hl
    refine ⟨_, rfl, t_law_counting_1 (by omega) ?_⟩
    refine t_law_pass r (look F x) (.dat (enc x)) ?_ h
    rcases look_cases F x with ⟨e, _⟩ | ⟨e, _⟩
    · rw [e]; omega
    · rw [e, List.length_append, List.length_singleton]; omega
/-- what holds between the rounds -/
structure Fnd (os : List Str) (es F : List Gr) : Prop where
  nd : F.Nodup
  sub : ∀ x ∈ F, x ∈ cns os es
  own : ∀ x ∈ es, x.g ∈ os → x ∈ F
theorem cns_in {os : List Str} {es : List Gr} {x : Gr} (h : x ∈ cns os es) : x ∈ es := mem_sortG.mp (cnt_mem h)
theorem fnd_looks {os : List Str} {es F : List Gr} (h : Fnd os es F) : Fnd os es (looks F es) := by
  have go : ∀ (r G : List Gr), (∀ x ∈ r, x ∈ es) → G.Nodup → (∀ x ∈ G, x ∈ cns os es) → (looks G r).Nodup ∧ (∀ x ∈ looks G r, x ∈ cns os es) ∧ ∀ x ∈ G, x ∈ looks G r := by
    intro r
    induction r with
    | nil => intro G _ n s; exact ⟨n, s, fun _ h => h⟩
    | cons x r ih =>
      intro G hr n s
      rcases look_cases G x with ⟨e, _⟩ | ⟨e, hx, hb⟩
      · have e2 : looks G (x :: r) = looks G r := by show looks (look G x) r = _; rw [e]
        rw [e2]
        exact ih G (fun z hz => hr z (.tail _ hz)) n s
      · have e2 : looks G (x :: r) = looks (G ++ [x]) r := by show looks (look G x) r = _; rw [e]
        obtain ⟨y, hy, hb⟩ := List.any_eq_true.mp hb
        rw [e2]
        obtain ⟨k1, k2, k3⟩ := ih (G ++ [x]) (fun z hz => hr z (.tail _ hz)) (List.nodup_append.mpr ⟨n, (by simp), fun a ha b hb e => by
          rw [List.mem_singleton.mp hb] at e
          rw [e] at ha
          exact hx ha⟩) (fun z hz => by
          rcases List.mem_append.mp hz with hz | hz
          · exact s z hz
          · rw [List.mem_singleton.mp hz]
            exact cns_closed (hr x (.head _)) (.inr ⟨y, s y hy, hb⟩))
        exact ⟨k1, k2, fun z hz => k3 z (List.mem_append_left _ hz)⟩
  obtain ⟨k1, k2, k3⟩ := go es F (fun _ h => h) h.nd h.sub
  exact ⟨k1, k2, fun x hx hg => k3 x (h.own x hx hg)⟩
theorem fnd_len {os : List Str} {es F : List Gr} (h : Fnd os es F) : F.length ≤ es.length := nodup_le h.nd fun x hx => cns_in (h.sub x hx)
theorem pr_law_counting (as n P R) (hl : as.length = 2) (h : g_law_counting as n P R) : m_law_counting (ends P R) (env0 as N_law_counting.length) n := by
  obtain ⟨os, es, rfl, nd, h1, p⟩ := h
  show m_law_counting (ends P R) (env0 [.dat (.list (os.map PyData.str)), .dat (.list (es.map enc))] 6) n
  have l3 : (3000 : Nat) ≤ sizeLine := by rw [sizeLine_eq]; decide
  unfold m_law_counting mComp mItems
  walk_at "ev"
  refine comp_pure (fun d => match dec d with | some y => os.any (fun z => z == y.g) | none => false) id _ _ (fun d hd => ⟨_, rfl, fun Q q => ?_⟩) (fun d hd ρ1 e _ Q q => ?_) ?_ ?_
  · obtain ⟨y, _, rfl⟩ := List.mem_map.mp hd
    walk_at "ev"
    refine ⟨_, ix1 _ _ _, _, fIn_seq (ds := os.map PyData.str) rfl (okD_str _) (strs_alike os).1, _, rfl, ?_⟩
    rw [if_neg Bool.false_ne_true, strs_any]
    exact q
  · cases e
    walk_at "ev"
    exact q
  · rw [List.length_nil, List.length_map]; omega
  · have e1 : ((es.map enc).filter fun d => match dec d with | some y => os.any (fun z => z == y.g) | none => false).map id = (es.filter fun y => os.any (fun z => z == y.g)).map enc := by
      rw [List.map_id, List.filter_map]
      rfl
    rw [List.nil_append, e1]
    have F0 : Fnd os es (es.filter fun y => os.any (fun z => z == y.g)) := {
      nd := nd.filter _
      sub := fun x hx => by
        obtain ⟨hx, ho⟩ := List.mem_filter.mp hx
        obtain ⟨z, hz, e⟩ := List.any_eq_true.mp ho
        rw [beq_iff_eq] at e
        subst e
        exact cns_closed hx (.inl hz)
      own := fun x hx hg => List.mem_filter.mpr ⟨hx, List.any_eq_true.mpr ⟨_, hg, by simp⟩⟩ }
    generalize (es.filter fun y => os.any (fun z => z == y.g)) = F at F0
    unfold mWhile
    refine ⟨fun m ρ n' => n' = n ∧ ∃ (F : List Gr) (sz : Int) (v2 v5 : Sl), ρ = [.dat (.list (os.map PyData.str)), .dat (.list (es.map enc)), v2, .own (F.map enc), .dat (.int sz), v5] ∧ Fnd os es F ∧ (sz = F.length → ∀ x ∈ es, ∀ y ∈ F, bk y x = true → x ∈ F) ∧ m = 2 * (es.length - F.length) + (if sz = F.length then 0 else 1),
      ⟨_, rfl, F, -1, _, _, rfl, F0, fun h => absurd h (by omega), rfl⟩, fun m ρ n' hW => ?_⟩
    obtain ⟨rfl, F, sz, v2, v5, rfl, F0, hc, rfl⟩ := hW
    have fl := fnd_len F0
    walk_at "ev"
    refine if_cases (fun hne => ?_) fun he => ?_
    · unfold b_law_counting_2 mFor mItems
      walk_at "ev"
      refine t_law_pass es F v2 (by omega) fun a2 => ?_
      have ll := looks_len es F
      have fl2 := fnd_len (fnd_looks F0)
      have hne' : sz ≠ (F.length : Int) := by simpa using hne
      rw [if_neg hne', List.length_map]
      refine ⟨_, ?_, rfl, looks F es, F.length, ⟨a2, v5, rfl⟩, fnd_looks F0, fun h => ?_, rfl⟩
      · by_cases hq : (F.length : Int) = ((looks F es).length : Int)
        · rw [if_pos hq]
          have : F.length = (looks F es).length := by omega
          omega
        · rw [if_neg hq]
          have : F.length ≠ (looks F es).length := fun z => hq (by rw [← z])
          omega
      · obtain ⟨k1, k2⟩ := looks_same es F (by omega)
        rw [k1]
        exact k2
    · have he' : sz = (F.length : Int) := by simpa using he
      have un := cns_uniq nd F0.nd F0.sub F0.own (hc he')
      unfold mFrz
      refine ⟨_, rfl, ?_⟩
      unfold mSorted
      walk_at "ev"
      obtain ⟨a1, a2, a3, a4⟩ := encs_alike F
      refine ⟨_, .inl rfl, a1, a2, a3, a4, ?_⟩
      show P (.list (srt (F.map enc))) n'
      rw [srt_enc, un]
      exact p
end DS

/-! W3: the law's own powers. -/
namespace DS
open PySem L2
local macro_rules | `(tactic| walk_at "ev") => `(tactic| simp only [mRaise, mRaiseP, mCallK, mProp, mTru, truD, mLof, mTof, mBack, mCatT, mSlT, mSlB, mSetI, mNoP, mPart, mCat, mSeq, mRet, mVar, mVarQ, slD, mC, m1, m2, mT, mNot, mAnd, mOr, mAndV, mOrV, mNotV, mIf, mChain, mNil, mCons, mSrc, mTup, mLst, mCall, mIx, mL, mIs, mIs2, mIfS, mNext, mSet, mOwn, mRetO, mRetN, mExp, mPar, mNev, datAll, gdName, gdTup, setAll, fI, fIc, fNeg, fLen, fInt, fAbs, fIsN, env0, wipeR,
  is_int_NoneType, is_int_bool, is_int_int, is_int_str, is_int_list, is_int_tuple, is_bool_NoneType, is_bool_bool, is_bool_int, is_bool_str, is_bool_list, is_bool_tuple, is_str_NoneType, is_str_bool, is_str_int, is_str_str, is_str_list, is_str_tuple, is_tuple_NoneType, is_tuple_bool, is_tuple_int, is_tuple_str, is_tuple_list, is_tuple_tuple, is_list_NoneType, is_list_bool, is_list_int, is_list_str, is_list_list, is_list_tuple,
  List.map, List.length_cons, List.length_nil, List.getElem?_cons_zero, List.getElem?_cons_succ, List.set_cons_zero, List.set_cons_succ, List.replicate, List.append_assoc, List.cons_append, List.nil_append, Option.map_some, Option.some.injEq, Sl.dat.injEq, Sl.own.injEq, exists_eq_left', exists_eq_left, exists_and_left, exists_and_right, true_and, and_true, Bool.true_eq_false, if_true, if_false, reduceIte, Bool.false_eq_true, Bool.not_true, Bool.not_false, PyData.bool.injEq, PyData.int.injEq, PyData.str.injEq, PyData.tuple.injEq, PyData.list.injEq, Nat.reduceAdd, Nat.reduceSub, Option.map_none, decide_eq_true_eq, ex_if, eq_ints, eq_strs, eq_bools, ix0, ix1, ix2, ix3, ix4, lx0, lx1, lx2, lx3])

abbrev g_law_covers : G := g_covers
def N_law_covers : List Str := ["one", "other"]
def m_law_covers : MS := (mRet (mAndV (m2 fGe (mIx (mVarQ 0) (mC (.int 0))) (mIx (mVarQ 1) (mC (.int 0)))) (m2 fGe (mIx (mVarQ 0) (mC (.int 1))) (mIx (mVarQ 1) (mC (.int 1))))))
theorem pr_law_covers (as n P R) (hl : as.length = 2) (h : g_law_covers as n P R) : m_law_covers (ends P R) (env0 as N_law_covers.length) n := pr_covers as n P R hl h
/-- what TopR says is one list -/
theorem code_inj {a b c d : Int} (h1 : 0 ≤ b ∧ b < 64) (h2 : 0 ≤ d ∧ d < 64) (h : TS.code 64 [a, b] = TS.code 64 [c, d]) : ([a, b] : List Int) = [c, d] := by
  rw [code_pair, code_pair] at h
  have e1 : a = c := by omega
  have e2 : b = d := by omega
  rw [e1, e2]
theorem topR_uniq {ps o1 o2 : List (List Int)} (hp : ∀ k ∈ ps, ∃ a b : Int, k = [a, b] ∧ 0 ≤ b ∧ b < 64) (h1 : TopR ps o1) (h2 : TopR ps o2) : o1 = o2 := by
  have pm : o1.Perm o2 := (List.perm_ext_iff_of_nodup h1.nodup h2.nodup).mpr fun k => (h1.mem k).trans (h2.mem k).symm
  refine List.Perm.eq_of_pairwise (le := fun a b => TS.code 64 a ≤ TS.code 64 b) (fun a b ha hb l1 l2 => ?_) h1.rise h2.rise pm
  obtain ⟨x, y, rfl, q1, q2⟩ := hp a (List.mem_filter.mp ((h1.mem a).mp ha)).1
  obtain ⟨z, w, rfl, q3, q4⟩ := hp b (List.mem_filter.mp ((h2.mem b).mp hb)).1
  exact code_inj ⟨q1, q2⟩ ⟨q3, q4⟩ (Int.le_antisymm l1 l2)
theorem prs_bd2 {hs : List Gr} {x : Str} {u : D} (h : ∀ a ∈ hs, okGr a = true) : ∀ k ∈ prs hs x u, k.length = 2 ∧ TS.Bd 64 k := fun k hk => by
  obtain ⟨a, ha, rfl⟩ := prs_two hk
  obtain ⟨_, _, _, _, b5, b6⟩ := okGr_iff (h a ha)
  refine ⟨rfl, fun m hm => ?_⟩
  rcases List.mem_cons.mp hm with rfl | hm
  · omega
  · rw [List.mem_singleton.mp hm]; omega
theorem prs_bd {hs : List Gr} {x : Str} {u : D} (h : ∀ a ∈ hs, okGr a = true) : ∀ k ∈ prs hs x u, ∃ a b : Int, k = [a, b] ∧ 0 ≤ b ∧ b < 64 := fun k hk => by
  obtain ⟨a, ha, rfl⟩ := prs_two hk
  obtain ⟨_, _, _, _, _, b6⟩ := okGr_iff (h a ha)
  exact ⟨_, _, rfl, by omega, by omega⟩
/-- the maximal powers, by the law -/
def g_law_powers : G := fun as n P _ => ∃ (os : List Str) (es : List Gr) (x : Str) (u : D), as = [.dat (.list (os.map PyData.str)), .dat (.list (es.map enc)), .dat (.str x), .dat u] ∧ atS u = true ∧ es.Nodup ∧ es.length ≤ 60 ∧ (∀ a ∈ es, okGr a = true) ∧ os.length ≤ 1000 ∧
  (x ∈ os → P (.list [tupI [9, 20]]) n) ∧ (x ∉ os → ∀ outs, TopR (prs (cns os es) x u) outs → P (.list (outs.map tupI)) n)
def N_law_powers : List Str := ["owners", "entries", "name", "time", "found", "entry", "greatest", "one", "other"]
def b_law_powers_1 : MS := (mIfS (mT (m2 (fEq false) (mL (mComp (mItems (mVarQ 4)) (gdName 8) [8] (mAnd (mT (mCall g_law_covers 2 (mCons (mVar 8) (mCons (mVar 7) mNil)))) (mT (m2 (fEq true) (mVarQ 8) (mVarQ 7)))) (mVar 8))) (mL (mLst mNil)))) (mApp 6 (mVar 7)) mNext)
def b_law_powers_2 : MS := (mIfS (mAnd (mT (m2 (fEq false) (mIx (mVarQ 5) (mC (.int 2))) (mVarQ 2))) (mOr (mT (m2 (fIsN false) (mVarQ 3) (mC .none))) (mT (m2 fLe (mIx (mVarQ 5) (mC (.int 0))) (mVarQ 3))))) (mApp 4 (mTup (mCons (mIx (mVarQ 5) (mC (.int 3))) (mCons (mIx (mVarQ 5) (mC (.int 4))) mNil)))) mNext)
def m_law_powers : MS := (mSeq (mIfS (mT (m2 (fIn false) (mVarQ 2) (mVarQ 0))) (mRet (mL (mLst (mCons (mTup (mCons (mC (.int 9)) (mCons (mC (.int 20)) mNil))) mNil)))) mNext)
    (mSeq (mOwn 4 (mLst mNil))
    (mSeq (mFor (mItems (mCall g_law_counting 2 (mCons (mVar 0) (mCons (mVar 1) mNil)))) (gdName 5) b_law_powers_2)
    (mSeq (mOwn 6 (mLst mNil))
    (mSeq (mFor (mItems (mL (mSortSet (mVarQ 4)))) (gdName 7) b_law_powers_1)
    (mRetO 6))))))
def pick1 (x : Str) (u : D) (F : List (List Int)) (a : Gr) : List (List Int) := if ito a x u = true then F ++ [[a.l, a.p]] else F
theorem t_law_powers_2 {De : DEnds} {a0 a1 a6 a7 a8 : Sl} {F : List (List Int)} {a : Gr} {x : Str} {u : D} {n : Nat} (hu : atS u = true) (h1 : F.length ≤ 1000) (h : De.nx [a0, a1, .dat (.str x), .dat u, .own ((pick1 x u F a).map tupI), .dat (enc a), a6, a7, a8] n) :
    b_law_powers_2 De [a0, a1, .dat (.str x), .dat u, .own (F.map tupI), .dat (enc a), a6, a7, a8] n := by
  have l3 : (3000 : Nat) ≤ sizeLine := by rw [sizeLine_eq]; decide
  unfold b_law_powers_2 mApp
  walk_at "ev"
  have yes : ito a x u = true → (∃ z, fIx (enc a) (.int 3) = some z ∧ ∃ z_1, fIx (enc a) (.int 4) = some z_1 ∧ 2 ≤ sizeLine ∧ (F.map tupI).length < sizeLine ∧ De.nx [a0, a1, .dat (.str x), .dat u, .own (F.map tupI ++ [.tuple [z, z_1]]), .dat (enc a), a6, a7, a8] n) := fun hi => by
    have e : pick1 x u F a = F ++ [[a.l, a.p]] := if_pos hi
    rw [e, List.map_append] at h
    exact ⟨_, ix3 _ _ _ _ _, _, ix4 _ _ _ _ _ _, by omega, by rw [List.length_map]; omega, h⟩
  have no : ito a x u = false → De.nx [a0, a1, .dat (.str x), .dat u, .own (F.map tupI), .dat (enc a), a6, a7, a8] n := fun hi => by
    have e : pick1 x u F a = F := if_neg (by rw [hi]; decide)
    rw [e] at h
    exact h
  refine ⟨_, ix2 _ _ _ _, _, eq_strs _ _ _, _, rfl, ?_⟩
  rw [if_neg Bool.false_ne_true]
  cases hk : a.k == x with
  | false => exact iteF_of (by decide) (no (by simp [ito, hk]))
  | true =>
    refine iteT_of rfl ?_
    cases u with
    | none => exact iteT_of rfl (yes (by simp [ito, hk, due]))
    | int t =>
      refine iteF_of (fun h => Bool.noConfusion h) ⟨_, ix0 _ _, _, rfl, _, rfl, ?_⟩
      by_cases hq : a.t ≤ t
      · exact iteT_of (decide_eq_true hq) (yes (by simp [ito, hk, due, hq]))
      · exact iteF_of (by simp [hq]) (no (by simp [ito, hk, due, hq]))
    | _ => cases hu
theorem forP2 {De : DEnds} {a0 a1 a6 a7 a8 : Sl} {x : Str} {u : D} {n : Nat} (hu : atS u = true) : ∀ (r : List Gr) (F : List (List Int)) (a5 : Sl), F.length + r.length ≤ 1000 →
    (∀ a5, De.nx [a0, a1, .dat (.str x), .dat u, .own ((F ++ prs r x u).map tupI), a5, a6, a7, a8] n) → forW (gdName 5) b_law_powers_2 De (r.map enc) [a0, a1, .dat (.str x), .dat u, .own (F.map tupI), a5, a6, a7, a8] n
  | [], F, a5, _, h => by
    have := h a5
    show De.nx _ n
    simpa [prs] using this
  | a :: r, F, a5, hl, h => by
    rw [List.length_cons] at hl
    refine ⟨_, rfl, t_law_powers_2 hu (by omega) ?_⟩
    have e : pick1 x u F a ++ prs r x u = F ++ prs (a :: r) x u := by
      unfold pick1 prs
      by_cases hi : ito a x u = true
      · rw [if_pos hi, List.filter_cons, if_pos hi, List.map_cons, List.append_assoc]; rfl
      · rw [if_neg hi, List.filter_cons, if_neg hi]
    refine forP2 hu r (pick1 x u F a) _ ?_ (by rw [e]; exact h)
    unfold pick1
    split
    · rw [List.length_append, List.length_singleton]; omega
    · omega
/-- a pair among all: is it one of the greatest -/
def gr1 (ps G : List (List Int)) (k : List Int) : List (List Int) := if (ps.any fun m => !decide (m = k) && covL m k) = true then G else G ++ [k]
theorem t_law_powers_1 {De : DEnds} {a0 a1 a2 a3 a5 a8 : Sl} {ps G : List (List Int)} {k : List Int} {n : Nat} (hp : ∀ k ∈ ps, ∃ a b : Int, k = [a, b]) (hk : k ∈ ps) (h1 : ps.length ≤ 1000) (h2 : G.length ≤ 1000) (h : ∀ a8, De.nx [a0, a1, a2, a3, .own (ps.map tupI), a5, .own ((gr1 ps G k).map tupI), .dat (tupI k), a8] n) :
    b_law_powers_1 De [a0, a1, a2, a3, .own (ps.map tupI), a5, .own (G.map tupI), .dat (tupI k), a8] n := by
  have l3 : (3000 : Nat) ≤ sizeLine := by rw [sizeLine_eq]; decide
  obtain ⟨c, d, rfl⟩ := hp k hk
  unfold b_law_powers_1 mApp mComp mItems
  walk_at "ev"
  refine comp_pure (fun e => !decide (dI e = [c, d]) && covL (dI e) [c, d]) id _ _ (fun e he => ⟨_, rfl, fun Q q => ?_⟩) (fun d hd ρ1 e _ Q q => ?_) ?_ ?_
  · obtain ⟨m, hm, rfl⟩ := List.mem_map.mp he
    obtain ⟨a, b, rfl⟩ := hp m hm
    walk_at "ev"
    refine ⟨a, b, c, d, rfl, _, rfl, ?_⟩
    cases hq : cov a b c d with
    | true =>
      refine iteT_of rfl ⟨_, if_pos ⟨okD_tupI _, okD_tupI _⟩, _, rfl, ?_⟩
      rw [if_pos rfl, eqv_tupI]
      simpa [dI, tupI, covL, hq] using q
    | false =>
      refine iteF_of (by decide) ?_
      simpa [dI, tupI, covL, hq] using q
  · cases e
    walk_at "ev"
    exact q
  · rw [List.length_nil, List.length_map]; omega
  · have e1 : ((ps.map tupI).filter fun e => !decide (dI e = [c, d]) && covL (dI e) [c, d]).map id = (ps.filter fun m => !decide (m = [c, d]) && covL m [c, d]).map tupI := by
      rw [List.map_id, List.filter_map]
      congr 1
      refine List.filter_congr fun m hm => ?_
      obtain ⟨a, b, rfl⟩ := hp m hm
      rfl
    rw [List.nil_append, e1]
    refine ⟨Nat.zero_le _, _, if_pos ⟨okD_tops _, rfl⟩, _, rfl, ?_⟩
    rw [if_neg Bool.false_ne_true, eqv_nilL]
    have e2 : ((ps.filter fun m => !decide (m = [c, d]) && covL m [c, d]).map tupI).isEmpty = !(ps.any fun m => !decide (m = [c, d]) && covL m [c, d]) := by
      rw [Bool.eq_iff_iff]
      simp [List.filter_eq_nil_iff]
    rw [e2]
    cases hb : ps.any fun m => !decide (m = [c, d]) && covL m [c, d] with
    | true =>
      have e : gr1 ps G [c, d] = G := if_pos hb
      rw [e] at h
      exact iteF_of (by decide) (h _)
    | false =>
      have e : gr1 ps G [c, d] = G ++ [[c, d]] := if_neg (by rw [hb]; decide)
      rw [e, List.map_append] at h
      exact iteT_of rfl ⟨by rw [List.length_map]; omega, h _⟩
theorem forP1 {De : DEnds} {a0 a1 a2 a3 a5 : Sl} {ps : List (List Int)} {n : Nat} (hp : ∀ k ∈ ps, ∃ a b : Int, k = [a, b]) (h1 : ps.length ≤ 500) : ∀ (r G : List (List Int)) (a7 a8 : Sl), (∀ k ∈ r, k ∈ ps) → G.length + r.length ≤ 1000 →
    (∀ a7 a8, De.nx [a0, a1, a2, a3, .own (ps.map tupI), a5, .own ((G ++ r.filter fun k => !ps.any fun m => !decide (m = k) && covL m k).map tupI), a7, a8] n) → forW (gdName 7) b_law_powers_1 De (r.map tupI) [a0, a1, a2, a3, .own (ps.map tupI), a5, .own (G.map tupI), a7, a8] n
  | [], G, a7, a8, _, _, h => by
    have := h a7 a8
    show De.nx _ n
    simpa using this
  | k :: r, G, a7, a8, hr, hl, h => by
    rw [List.length_cons] at hl
    refine ⟨_, rfl, t_law_powers_1 hp (hr k (.head _)) (by omega) (by omega) fun a8 => ?_⟩
    have e : gr1 ps G k ++ r.filter (fun k => !ps.any fun m => !decide (m = k) && covL m k) = G ++ (k :: r).filter (fun k => !ps.any fun m => !decide (m = k) && covL m k) := by
      unfold gr1
      rw [List.filter_cons]
      cases hb : ps.any fun m => !decide (m = k) && covL m k with
      | true => rfl
      | false =>
        show (G ++ [k]) ++ _ = G ++ (k :: _)
        rw [List.append_assoc]; rfl
    refine forP1 hp h1 r (gr1 ps G k) _ _ (fun z hz => hr z (.tail _ hz)) ?_ (by rw [e]; exact h)
    unfold gr1
    split
    · omega
    · rw [List.length_append, List.length_singleton]; omega
theorem pr_law_powers (as n P R) (hl : as.length = 4) (h : g_law_powers as n P R) : m_law_powers (ends P R) (env0 as N_law_powers.length) n := by
  obtain ⟨os, es, x, u, rfl, hu, nd, h1, h2, h3, p1, p2⟩ := h
  show m_law_powers (ends P R) (env0 [.dat (.list (os.map PyData.str)), .dat (.list (es.map enc)), .dat (.str x), .dat u] 9) n
  unfold m_law_powers mFor mItems
  walk_at "ev"
  refine ⟨_, fIn_seq (ds := os.map PyData.str) rfl (okD_str _) (strs_alike os).1, _, rfl, ?_⟩
  rw [if_neg Bool.false_ne_true, strs_any]
  by_cases hx : x ∈ os
  · refine iteT_of (List.any_eq_true.mpr ⟨x, hx, by simp⟩) ?_
    exact ⟨line2, line1, p1 hx⟩
  · refine iteF_of (fun h => ?_) ?_
    · obtain ⟨z, hz, e⟩ := List.any_eq_true.mp h
      rw [beq_iff_eq] at e
      subst e
      exact hx hz
    have cl : (cns os es).length ≤ 60 := Nat.le_trans (cnt_len _ _) (by rw [len_sortG]; exact h1)
    have co : ∀ a ∈ cns os es, okGr a = true := fun a ha => h2 a (cns_in ha)
    refine ⟨Nat.zero_le _, os, es, rfl, nd, by omega, _, rfl, ?_⟩
    refine forP2 hu (cns os es) [] _ (by simp; omega) fun a5 => ?_
    rw [List.nil_append]
    have pl := prs_len (cns os es) x u
    have pb := prs_bd (x := x) (u := u) co
    have pb2 := prs_bd2 (x := x) (u := u) co
    have p2 := p2 hx
    generalize prs (cns os es) x u = ps at pl pb pb2 p2
    unfold mSortSet
    walk_at "ev"
    refine ⟨Nat.zero_le _, ps, rfl, by omega, 2, by decide, 64, pb2, fun outs o1 o2 o3 o4 => ?_⟩
    refine forP1 (fun k hk => by obtain ⟨a, b, e, _⟩ := pb k hk; exact ⟨a, b, e⟩) (by omega) outs [] _ _ (fun k hk => (o3 k).mp hk) (by simp; omega) fun a7 a8 => ?_
    rw [List.nil_append]
    refine ⟨_, rfl, p2 _ ⟨o1.filter _, Nat.lt_of_le_of_lt (List.length_filter_le _ _) o2, fun k => ?_, o4.filter _⟩⟩
    rw [List.mem_filter, maxes, List.mem_filter, o3]
end DS

/-! W4a: what a roll's powers are. -/
namespace DS
open PySem L2
local macro_rules | `(tactic| walk_at "ev") => `(tactic| simp only [mRaise, mRaiseP, mCallLK, mCallL, mCallLD, mCallD, mCallK, mProp, mTru, truD, mLof, mTof, mBack, mCatT, mSlT, mSlB, mSetI, mNoP, mPart, mCat, mSeq, mRet, mVar, mVarQ, slD, mC, m1, m2, mT, mNot, mAnd, mOr, mAndV, mOrV, mNotV, mIf, mChain, mNil, mCons, mSrc, mTup, mLst, mCall, mIx, mL, mIs, mIs2, mIfS, mNext, mSet, mOwn, mRetO, mRetN, mExp, mPar, mNev, datAll, gdName, gdTup, setAll, fI, fIc, fNeg, fLen, fInt, fAbs, fIsN, env0, wipeR,
  is_int_NoneType, is_int_bool, is_int_int, is_int_str, is_int_list, is_int_tuple, is_bool_NoneType, is_bool_bool, is_bool_int, is_bool_str, is_bool_list, is_bool_tuple, is_str_NoneType, is_str_bool, is_str_int, is_str_str, is_str_list, is_str_tuple, is_tuple_NoneType, is_tuple_bool, is_tuple_int, is_tuple_str, is_tuple_list, is_tuple_tuple, is_list_NoneType, is_list_bool, is_list_int, is_list_str, is_list_list, is_list_tuple,
  List.map, List.length_cons, List.length_nil, List.getElem?_cons_zero, List.getElem?_cons_succ, List.set_cons_zero, List.set_cons_succ, List.replicate, List.append_assoc, List.cons_append, List.nil_append, Option.map_some, Option.some.injEq, Sl.dat.injEq, Sl.own.injEq, exists_eq_left', exists_eq_left, exists_and_left, exists_and_right, true_and, and_true, Bool.true_eq_false, if_true, if_false, reduceIte, Bool.false_eq_true, Bool.not_true, Bool.not_false, PyData.bool.injEq, PyData.int.injEq, PyData.str.injEq, PyData.tuple.injEq, PyData.list.injEq, Nat.reduceAdd, Nat.reduceSub, Option.map_none, decide_eq_true_eq, ex_if, eq_ints, eq_strs, eq_bools, ix0, ix1, ix2, ix3, ix4, lx0, lx1, lx2, lx3])

/-! ### every pair lies under a greatest one -/
theorem covL_trans {a b c : List Int} (h1 : covL a b = true) (h2 : covL b c = true) : covL a c = true := by
  match a, b, c, h1, h2 with
  | [x, y], [z, w], [u, v], h1, h2 =>
    simp only [covL, cov, Bool.and_eq_true, decide_eq_true_eq] at h1 h2 ⊢
    omega
theorem covL_self {a b : Int} : covL [a, b] [a, b] = true := by simp [covL, cov]
theorem maxes_over {ps : List (List Int)} (hp : ∀ k ∈ ps, k.length = 2 ∧ TS.Bd 64 k) : ∀ (f : Nat) (a b : Int), [a, b] ∈ ps → 126 - (a + b) ≤ f → ∃ m ∈ maxes ps, covL m [a, b] = true
  | f, a, b, hk, hf => by
    cases hb : ps.any fun m => !decide (m = [a, b]) && covL m [a, b] with
    | false => exact ⟨[a, b], List.mem_filter.mpr ⟨hk, by rw [hb]; rfl⟩, covL_self⟩
    | true =>
      obtain ⟨m, hm, e⟩ := List.any_eq_true.mp hb
      rw [Bool.and_eq_true] at e
      obtain ⟨e1, e2⟩ := e
      have e1' : m ≠ [a, b] := by simpa using e1
      obtain ⟨l2, bd⟩ := hp m hm
      match m, l2, bd, hm, e1', e2 with
      | [c, d], _, bd, hm, e1', e2 =>
        have c1 := bd c (.head _)
        have d1 := bd d (.tail _ (.head _))
        simp only [covL, cov, Bool.and_eq_true, decide_eq_true_eq] at e2
        have hne : ¬ (c = a ∧ d = b) := fun h => e1' (by rw [h.1, h.2])
        cases f with
        | zero => omega
        | succ f =>
          obtain ⟨m2, h2, c2⟩ := maxes_over hp f c d hm (by omega)
          exact ⟨m2, h2, covL_trans c2 (by simp only [covL, cov, Bool.and_eq_true, decide_eq_true_eq]; omega)⟩
/-- what the maximal powers are -/
def EO (os : List Str) (es : List Gr) (x : Str) (u : D) (eo : List (List Int)) : Prop := (x ∈ os ∧ eo = [[9, 20]]) ∨ (x ∉ os ∧ TopR (prs (cns os es) x u) eo)
structure EsOk (os : List Str) (es : List Gr) : Prop where
  nd : es.Nodup
  ok : ∀ a ∈ es, okGr a = true
  few : es.length ≤ 60
  o4 : os.length ≤ 4
theorem cns_okE {os : List Str} {es : List Gr} (h : EsOk os es) : ∀ a ∈ cns os es, okGr a = true := fun a ha => h.ok a (cns_in ha)
theorem EO_uniq {os : List Str} {es : List Gr} {x : Str} {u : D} {e1 e2 : List (List Int)} (h : EsOk os es) (h1 : EO os es x u e1) (h2 : EO os es x u e2) : e1 = e2 := by
  rcases h1 with ⟨a, rfl⟩ | ⟨a, t1⟩ <;> rcases h2 with ⟨b, rfl⟩ | ⟨b, t2⟩
  · rfl
  · exact absurd a b
  · exact absurd b a
  · exact topR_uniq (prs_bd (cns_okE h)) t1 t2
theorem any_sortS (os : List Str) (x : Str) : ((sortS os).any fun z => z == x) = decide (x ∈ os) := by
  rw [Bool.eq_iff_iff, List.any_eq_true, decide_eq_true_eq]
  constructor
  · rintro ⟨z, hz, e⟩
    rw [beq_iff_eq] at e
    rw [← e]
    exact mem_sortS.mp hz
  · intro h
    exact ⟨x, mem_sortS.mpr h, by simp⟩
/-- has, by the maximal powers -/
theorem has_EO {os : List Str} {es : List Gr} {x : Str} {u : D} {eo : List (List Int)} {l p : Int} (h : EsOk os es) (he : EO os es x u eo) (l9 : l ≤ 9) (p20 : p ≤ 20) : hasB (sortS os) (sortG es) x l p u = eo.any fun k => covL k [l, p] := by
  unfold hasB
  rw [any_sortS]
  rcases he with ⟨a, rfl⟩ | ⟨a, t⟩
  · rw [decide_eq_true a, Bool.true_or]
    have : cov 9 20 l p = true := by simp only [cov, Bool.and_eq_true, decide_eq_true_eq]; omega
    simp [covL, this]
  · rw [decide_eq_false a, Bool.false_or, Bool.eq_iff_iff, List.any_eq_true, List.any_eq_true]
    constructor
    · rintro ⟨g, hg, e⟩
      unfold giv at e
      rw [Bool.and_eq_true] at e
      have hk : [g.l, g.p] ∈ prs (cns os es) x u := List.mem_map.mpr ⟨g, List.mem_filter.mpr ⟨hg, e.1⟩, rfl⟩
      obtain ⟨m, hm, c⟩ := maxes_over (prs_bd2 (cns_okE h)) _ _ _ hk (Int.self_le_toNat _)
      exact ⟨m, (t.mem m).mpr hm, covL_trans c e.2⟩
    · rintro ⟨m, hm, c⟩
      obtain ⟨g, hg, rfl⟩ := List.mem_map.mp (List.mem_filter.mp ((t.mem m).mp hm)).1
      obtain ⟨hg, hi⟩ := List.mem_filter.mp hg
      exact ⟨g, hg, by unfold giv; rw [hi]; exact c⟩
theorem eq_self14 {d : D} (h : okD d = true) : fEq true d d = some (.bool false) := by
  show (if _ then _ else _) = _
  rw [if_pos ⟨h, h⟩, if_pos rfl]
  have : d.plain = true := by
    unfold okD at h
    rw [Bool.and_eq_true] at h
    exact h.1
  rw [SeqAt.eqv_refl_plain d this]
  rfl
theorem sane_name {x : Str} (h : nameOk x = true) : sane (.str x) = true := decide_eq_true (line_small (by have := nameOk_len h; omega))
theorem po_EO {os : List Str} {es : List Gr} {x : Str} {u : D} {n : Nat} {P : PD} {R : PX} (hr : RolOk (sortS os) (sortG es)) (hx : nameOk x = true) (hu : okAt u = true) (us : sane u = true) (h : ∀ eo, EO os es x u eo → P (.list (eo.map tupI)) n) :
    g_powers_of [.dat (rolT (sortS os) (sortG es)), .dat (.str x), .dat u] n P R := by
  have hn : isName (.str x) = true := hx
  refine ⟨sortS os, sortG es, .str x, u, rfl, hr, sane_name hx, us, fun z => by rw [hn] at z; (cases z), fun _ z => by rw [hu] at z; (cases z), fun y ey _ _ hm => ?_, fun y ey _ _ hm outs ho => ?_⟩
  · cases ey
    rw [any_sortS] at hm
    exact h [[9, 20]] (.inl ⟨of_decide_eq_true hm, rfl⟩)
  · cases ey
    rw [any_sortS] at hm
    exact h outs (.inr ⟨of_decide_eq_false hm, ho⟩)
theorem ha_EO {os : List Str} {es : List Gr} {x : Str} {u : D} {l p : Int} {n : Nat} {P : PD} {R : PX} {eo : List (List Int)} (hE : EsOk os es) (hr : RolOk (sortS os) (sortG es)) (hx : nameOk x = true) (hu : okAt u = true) (us : sane u = true) (he : EO os es x u eo) (l1 : 1 ≤ l) (l9 : l ≤ 9) (p0 : 0 ≤ p) (p20 : p ≤ 20) (h : P (.bool (eo.any fun k => covL k [l, p])) n) :
    g_has [.dat (rolT (sortS os) (sortG es)), .dat (.str x), .dat (.tuple [.int l, .int p]), .dat u] n P R := by
  have hn : isName (.str x) = true := hx
  have hp : isPow (.tuple [.int l, .int p]) = true := by simp only [isPow, within, Bool.and_eq_true, decide_eq_true_eq]; omega
  refine ⟨sortS os, sortG es, .str x, _, u, rfl, hr, sane_name hx, rfl, us, fun z => by rw [hn] at z; (cases z), fun _ z => by rw [hp] at z; (cases z), fun _ _ z => by rw [hu] at z; (cases z), fun _ _ _ => ?_⟩
  show P (.bool (hasB (sortS os) (sortG es) x l p u)) n
  rw [has_EO hE he l9 p20]
  exact h
theorem EO_len {os : List Str} {es : List Gr} {x : Str} {u : D} {eo : List (List Int)} (he : EO os es x u eo) : eo.length ≤ 64 ∧ ∀ k ∈ eo, ∃ a b : Int, k = [a, b] := by
  rcases he with ⟨_, rfl⟩ | ⟨_, t⟩
  · exact ⟨by decide, fun k hk => ⟨9, 20, List.mem_singleton.mp hk⟩⟩
  · refine ⟨Nat.le_of_lt t.few, fun k hk => ?_⟩
    obtain ⟨a, _, e⟩ := prs_two (List.mem_filter.mp ((t.mem k).mp hk)).1
    exact ⟨_, _, e⟩
theorem insS_mem {l : List Str} {x s : Str} (h : s ∈ insS l x) : s ∈ l ∨ s = x := by
  unfold insS at h
  split at h
  · exact .inl h
  · rcases List.mem_append.mp h with h | h
    · exact .inl h
    · exact .inr (List.mem_singleton.mp h)
theorem nmS_mem : ∀ (gs : List Gr) (l : List Str) (s : Str), s ∈ nmS l gs → s ∈ l ∨ ∃ a ∈ gs, s = a.g ∨ s = a.k
  | [], l, s, h => .inl h
  | a :: r, l, s, h => by
    rcases nmS_mem r (insS (insS l a.g) a.k) s h with h | ⟨b, hb, e⟩
    · rcases insS_mem h with h | h
      · rcases insS_mem h with h | h
        · exact .inl h
        · exact .inr ⟨a, .head _, .inl h⟩
      · exact .inr ⟨a, .head _, .inr h⟩
    · exact .inr ⟨b, .tail _ hb, e⟩
theorem perT_ok {os : List Str} {gs : List Gr} (h : ∀ a ∈ gs, okGr a = true) : (∀ s ∈ perT os gs, nameOk s = true) ∧ (perT os gs).length ≤ 2 * gs.length := by
  constructor
  · intro s hs
    have hs := (List.mem_filter.mp (mem_sortS.mp hs)).1
    rcases nmS_mem gs [] s hs with z | ⟨a, ha, e⟩
    · cases z
    · obtain ⟨_, k1, k2, _⟩ := okGr_iff (h a ha)
      rcases e with rfl | rfl
      · exact k1
      · exact k2
  · unfold perT perS
    rw [len_sortS]
    refine Nat.le_trans (List.length_filter_le _ _) ?_
    have := nmS_len gs []
    simpa using this
theorem mem_cut {xs : List D} {lo hi : Option Int} {d : D} (h : d ∈ cutA xs lo hi) : d ∈ xs := List.mem_of_mem_drop (List.mem_of_mem_take h)
theorem len_cut (xs : List D) (lo hi : Option Int) : (cutA xs lo hi).length ≤ xs.length := by
  unfold cutA
  rw [List.length_take, List.length_drop]
  omega
theorem okAt_int {t : Int} (h1 : -big ≤ t) (h2 : t ≤ big) : okAt (.int t) = true ∧ sane (.int t) = true := ⟨by simp only [okAt, within, Bool.and_eq_true, decide_eq_true_eq]; exact ⟨h1, h2⟩, rfl⟩
end DS

/-! Z1: what a later grant asks. -/
namespace DS
open PySem L2
local macro_rules | `(tactic| walk_at "ev") => `(tactic| simp only [mRaise, mRaiseP, mCallLK, mCallL, mCallLD, mCallD, mCallK, mProp, mTru, truD, mLof, mTof, mBack, mCatT, mSlT, mSlB, mSetI, mNoP, mPart, mCat, mSeq, mRet, mVar, mVarQ, slD, mC, m1, m2, mT, mNot, mAnd, mOr, mAndV, mOrV, mNotV, mIf, mChain, mNil, mCons, mSrc, mTup, mLst, mCall, mIx, mL, mIs, mIs2, mIfS, mNext, mSet, mOwn, mRetO, mRetN, mExp, mPar, mNev, datAll, gdName, gdTup, setAll, fI, fIc, fNeg, fLen, fInt, fAbs, fIsN, env0, wipeR,
  is_int_NoneType, is_int_bool, is_int_int, is_int_str, is_int_list, is_int_tuple, is_bool_NoneType, is_bool_bool, is_bool_int, is_bool_str, is_bool_list, is_bool_tuple, is_str_NoneType, is_str_bool, is_str_int, is_str_str, is_str_list, is_str_tuple, is_tuple_NoneType, is_tuple_bool, is_tuple_int, is_tuple_str, is_tuple_list, is_tuple_tuple, is_list_NoneType, is_list_bool, is_list_int, is_list_str, is_list_list, is_list_tuple,
  List.map, List.length_cons, List.length_nil, List.getElem?_cons_zero, List.getElem?_cons_succ, List.set_cons_zero, List.set_cons_succ, List.replicate, List.append_assoc, List.cons_append, List.nil_append, Option.map_some, Option.some.injEq, Sl.dat.injEq, Sl.own.injEq, exists_eq_left', exists_eq_left, exists_and_left, exists_and_right, true_and, and_true, Bool.true_eq_false, if_true, if_false, reduceIte, Bool.false_eq_true, Bool.not_true, Bool.not_false, PyData.bool.injEq, PyData.int.injEq, PyData.str.injEq, PyData.tuple.injEq, PyData.list.injEq, Nat.reduceAdd, Nat.reduceSub, Option.map_none, decide_eq_true_eq, ex_if, eq_ints, eq_strs, eq_bools, ix0, ix1, ix2, ix3, ix4, lx0, lx1, lx2, lx3])

theorem datAll_map : ∀ l : List D, datAll (l.map Sl.dat) = some l
  | [] => rfl
  | d :: r => by
    rw [List.map_cons, datAll, datAll_map r]
    rfl
/-- a loop that may return -/
theorem for_find7 {gd : GD} {body : MS} {De : DEnds} {f : D → Option D} (I : Env → Prop) {n : Nat} : ∀ (ds : List D) (ρ : Env), I ρ →
    (∀ d ∈ ds, ∀ (ρ : Env) (X : Env → Nat → Prop), I ρ → (∀ v, f d = some v → De.rt v n) → (f d = none → ∀ ρ', I ρ' → X ρ' n) → ∃ ρ1, gd d ρ = some ρ1 ∧ body { De with nx := X, ct := X, bk := De.nx } ρ1 n) →
    (∀ v, ds.findSome? f = some v → De.rt v n) → (ds.findSome? f = none → ∀ ρ, I ρ → De.nx ρ n) → forW gd body De ds ρ n
  | [], ρ, hI, _, _, h2 => h2 rfl ρ hI
  | d :: r, ρ, hI, hb, h1, h2 => by
    refine hb d (.head _) ρ _ hI (fun v e => h1 v (by rw [List.findSome?_cons, e])) fun e ρ' hI' => ?_
    exact for_find7 I r ρ' hI' (fun d hd => hb d (.tail _ hd)) (fun v e' => h1 v (by rw [List.findSome?_cons, e]; exact e')) fun e' => h2 (by rw [List.findSome?_cons, e]; exact e')
/-! ### has_one -/
def hasL (ps : List (List Int)) (l p : Int) : Bool := ps.any fun k => covL k [l, p]
def g_has_one : G := fun as n P _ => ∃ (ps : List (List Int)) (l p : Int), as = [.dat (.list (ps.map tupI)), .dat (.tuple [.int l, .int p])] ∧ ps.length ≤ 64 ∧ (∀ k ∈ ps, ∃ a b : Int, k = [a, b]) ∧ P (.bool (hasL ps l p)) n
def N_has_one : List Str := ["powers", "needed", "power"]
def m_has_one : MS := (mRet (m1 fAny (mL (mComp (mItems (mVarQ 0)) (gdName 2) [2] mYes (mCall g_covers 2 (mCons (mVar 2) (mCons (mVar 1) mNil)))))))

theorem pr_has_one (as n P R) (hl : as.length = 2) (h : g_has_one as n P R) : m_has_one (ends P R) (env0 as N_has_one.length) n := by
  obtain ⟨ps, l, p, rfl, h1, hk, q⟩ := h
  have l100 := line100
  show m_has_one (ends P R) (env0 [.dat (.list (ps.map tupI)), .dat (.tuple [.int l, .int p])] 3) n
  unfold m_has_one mComp mItems
  walk_at "ev"
  refine comp_pure (fun _ => true) (fun d => .bool (covL (dI d) [l, p])) _ _ (fun d hd => ⟨_, rfl, fun Q q => q⟩) (fun d hd ρ1 e _ Q qq => ?_) ?_ ?_
  · obtain ⟨k, hk', rfl⟩ := List.mem_map.mp hd
    obtain ⟨a, b, rfl⟩ := hk k hk'
    cases e
    walk_at "ev"
    exact ⟨a, b, l, p, rfl, qq⟩
  · rw [List.length_nil, List.length_map]; omega
  · rw [List.nil_append, filter_yes, List.map_map]
    refine ⟨.bool ((ps.map fun k => covL k [l, p]).any id), ?_, ?_⟩
    · show (bools _).map _ = _
      rw [show (ps.map ((fun d => PyData.bool (covL (dI d) [l, p])) ∘ tupI)) = ps.map fun k => PyData.bool (covL k [l, p]) from List.map_congr_left fun k hk' => by obtain ⟨a, b, rfl⟩ := hk k hk'; rfl, bools_mapB]
      rfl
    · have e : (ps.map fun k => covL k [l, p]).any id = hasL ps l p := by rw [List.any_map]; rfl
      rw [e]
      exact q
/-! ### least_difference -/
def dif (A B : List (List Int)) (l p : Int) : Bool := hasL A l (p + 1) != hasL B l (p + 1)
def ldP (A B : List (List Int)) (l : Int) : D → Option D
  | .int p => if dif A B l p = true then some (.tuple [.int l, .int p]) else none
  | _ => none
def ldL (A B : List (List Int)) : D → Option D
  | .int l => (rngD 0 20).findSome? (ldP A B l)
  | _ => none
def ld (A B : List (List Int)) : Option D := (rngD 1 9).findSome? (ldL A B)
def optD : Option D → D
  | some d => d
  | none => .none
def g_least_difference : G := fun as n P _ => ∃ (A B : List (List Int)), as = [.dat (.list (A.map tupI)), .dat (.list (B.map tupI))] ∧ A.length ≤ 64 ∧ B.length ≤ 64 ∧ (∀ k ∈ A, ∃ a b : Int, k = [a, b]) ∧ (∀ k ∈ B, ∃ a b : Int, k = [a, b]) ∧ P (optD (ld A B)) n
def N_least_difference : List Str := ["powers", "others", "level", "passes", "needed"]
def b_least_difference_1 : MS := (mSeq (mSet (mTup (mCons (mVar 2) (mCons (m2 fAdd (mVarQ 3) (mC (.int 1))) mNil))) (gdName 4))
    (mIfS (mT (m2 (fEq true) (mCall g_has_one 2 (mCons (mVar 0) (mCons (mVar 4) mNil))) (mCall g_has_one 2 (mCons (mVar 1) (mCons (mVar 4) mNil))))) (mRet (mTup (mCons (mVar 2) (mCons (mVar 3) mNil)))) mNext))
def b_least_difference_2 : MS := (mFor (mRng1 (mC (.int (20)))) (gdName 3) b_least_difference_1)
def m_least_difference : MS := (mSeq (mFor (mRng2 (mC (.int (1))) (m2 fAdd (mC (.int (9))) (mC (.int 1)))) (gdName 2) b_least_difference_2)
    (mRet (mC .none)))

theorem t_ld1 {De : DEnds} {A B : List (List Int)} {l p : Int} {a4 : Sl} {n : Nat} (h1 : A.length ≤ 64) (h2 : B.length ≤ 64) (k1 : ∀ k ∈ A, ∃ a b : Int, k = [a, b]) (k2 : ∀ k ∈ B, ∃ a b : Int, k = [a, b])
    (hv : dif A B l p = true → De.rt (.tuple [.int l, .int p]) n) (hn : dif A B l p = false → ∀ a4, De.nx [.dat (.list (A.map tupI)), .dat (.list (B.map tupI)), .dat (.int l), .dat (.int p), a4] n) :
    b_least_difference_1 De [.dat (.list (A.map tupI)), .dat (.list (B.map tupI)), .dat (.int l), .dat (.int p), a4] n := by
  unfold b_least_difference_1
  walk_at "ev"
  refine ⟨line2, A, l, p + 1, rfl, h1, k1, B, l, p + 1, rfl, h2, k2, _, eq_bools _ _ _, _, rfl, ?_⟩
  rw [if_pos rfl]
  cases hd : dif A B l p with
  | true => exact iteT_of hd ⟨line2, hv hd⟩
  | false =>
    refine iteF_of ?_ (hn hd _)
    show ¬ (dif A B l p = true)
    rw [hd]
    decide
theorem t_ld2 {De : DEnds} {A B : List (List Int)} {l : Int} {a3 a4 : Sl} {n : Nat} (h1 : A.length ≤ 64) (h2 : B.length ≤ 64) (k1 : ∀ k ∈ A, ∃ a b : Int, k = [a, b]) (k2 : ∀ k ∈ B, ∃ a b : Int, k = [a, b])
    (hv : ∀ v, ldL A B (.int l) = some v → De.rt v n) (hn : ldL A B (.int l) = none → ∀ a3 a4, De.nx [.dat (.list (A.map tupI)), .dat (.list (B.map tupI)), .dat (.int l), a3, a4] n) :
    b_least_difference_2 De [.dat (.list (A.map tupI)), .dat (.list (B.map tupI)), .dat (.int l), a3, a4] n := by
  unfold b_least_difference_2 mFor mRng1
  walk_at "ev"
  refine ⟨by decide, ?_⟩
  refine for_find7 (f := ldP A B l) (fun ρ => ∃ a3 a4, ρ = [.dat (.list (A.map tupI)), .dat (.list (B.map tupI)), .dat (.int l), a3, a4]) _ _ ⟨_, _, rfl⟩ (fun d hd ρ X q hv' hn' => ?_) (fun v e => hv v e) (fun e ρ q => ?_)
  · obtain ⟨b3, b4, rfl⟩ := q
    obtain ⟨i, _, rfl⟩ := List.mem_map.mp hd
    refine ⟨_, rfl, t_ld1 h1 h2 k1 k2 (fun e => hv' _ ?_) fun e a4 => hn' ?_ _ ⟨_, _, rfl⟩⟩
    · show (if dif A B l (0 + (i : Int)) = true then _ else _) = _
      rw [if_pos e]
    · show (if dif A B l (0 + (i : Int)) = true then _ else _) = _
      rw [if_neg (by rw [e]; decide)]
  · obtain ⟨b3, b4, rfl⟩ := q
    exact hn e _ _
theorem pr_least_difference (as n P R) (hl : as.length = 2) (h : g_least_difference as n P R) : m_least_difference (ends P R) (env0 as N_least_difference.length) n := by
  obtain ⟨A, B, rfl, h1, h2, k1, k2, p⟩ := h
  show m_least_difference (ends P R) (env0 [.dat (.list (A.map tupI)), .dat (.list (B.map tupI))] 5) n
  unfold m_least_difference mFor mRng2
  walk_at "ev"
  refine ⟨by decide, ?_⟩
  refine for_find7 (f := ldL A B) (fun ρ => ∃ a2 a3 a4, ρ = [.dat (.list (A.map tupI)), .dat (.list (B.map tupI)), a2, a3, a4]) _ _ ⟨_, _, _, rfl⟩ (fun d hd ρ X q hv' hn' => ?_) (fun v e => ?_) (fun e ρ q => ?_)
  · obtain ⟨b2, b3, b4, rfl⟩ := q
    obtain ⟨i, _, rfl⟩ := List.mem_map.mp hd
    exact ⟨_, rfl, t_ld2 h1 h2 k1 k2 hv' fun e a3 a4 => hn' e _ ⟨_, _, _, rfl⟩⟩
  · have e' : ld A B = some v := e
    rw [e'] at p
    exact p
  · obtain ⟨b2, b3, b4, rfl⟩ := q
    have e' : ld A B = none := e
    rw [e'] at p
    exact p
/-! ### need_same_owners, time_after -/
def g_need_same_owners : G := fun as n P _ => ∃ (os : List Str) (gs hs : List Gr), as = [.dat (rolT os gs), .dat (rolT os hs)] ∧ P .none n
def N_need_same_owners : List Str := ["one", "other"]
def m_need_same_owners : MS := (mIfS (mT (m2 (fEq true) (mProp 1 (g_prop 0) (mVar 0)) (mProp 1 (g_prop 0) (mVar 1)))) (mRaiseP 6) mNext)

theorem okD_strT (l : List Str) : okD (.tuple (l.map PyData.str)) = true := by
  have h1 := (strs_alike l).1
  have h2 := (strs_alike l).2.2.2
  unfold okD
  rw [PyData.plain, PyData.depth, h1, Bool.true_and, decide_eq_true_eq]
  have : ∀ l : List Str, PyData.depthAll (l.map PyData.str) ≤ 1 := by
    intro l
    induction l with
    | nil => simp [PyData.depthAll]
    | cons a r ih => rw [List.map_cons, PyData.depthAll]; simp [PyData.depth]; omega
  have := this l
  omega
theorem pr_need_same_owners (as n P R) (hl : as.length = 2) (h : g_need_same_owners as n P R) : m_need_same_owners (ends P R) (env0 as N_need_same_owners.length) n := by
  obtain ⟨os, gs, hs, rfl, p⟩ := h
  show m_need_same_owners (ends P R) (env0 [.dat (rolT os gs), .dat (rolT os hs)] 2) n
  unfold m_need_same_owners
  walk_at "ev"
  exact ⟨_, rfl, _, _, rfl, rfl, _, rfl, _, _, rfl, rfl, _, eq_self14 (okD_strT os), _, rfl, iteF_of (by decide) p⟩
def g_time_after : G := fun as n P _ => ∃ (os : List Str) (gs hs : List Gr), as = [.dat (rolT os gs), .dat (rolT os hs)] ∧ gs.length ≤ 60 ∧ hs.length ≤ 60 ∧ gs ++ hs ≠ [] ∧ (∀ a ∈ gs ++ hs, a.t < big) ∧ ∀ m, m ∈ (gs ++ hs).map (·.t) → (∀ y, y ∈ (gs ++ hs).map (·.t) → y ≤ m) → P (.int (m + 1)) n
def N_time_after : List Str := ["one", "other", "times", "grant"]
def m_time_after : MS := (mSeq (mSet (mL (mComp (mItems (mL (mLst (mStar (mProp 1 (g_prop 1) (mVar 0)) (mStar (mProp 1 (g_prop 1) (mVar 1)) mNil))))) (gdName 3) [3] mYes (mIx (mVarQ 3) (mC (.int (0)))))) (gdName 2))
    (mSeq (mIfS (mOr (mNot (mTru (mVarQ 2))) (mT (m2 (fEq false) (mMaxI (mVarQ 2)) (mC (.int (1000000000000000000000000000000)))))) (mRaiseP 9) mNext)
    (mRet (m2 fAdd (mMaxI (mVarQ 2)) (mC (.int 1))))))

theorem pr_time_after (as n P R) (hl : as.length = 2) (h : g_time_after as n P R) : m_time_after (ends P R) (env0 as N_time_after.length) n := by
  obtain ⟨os, gs, hs, rfl, h1, h2, hne, hlt, p⟩ := h
  have l3 : (3000 : Nat) ≤ sizeLine := by rw [sizeLine_eq]; decide
  show m_time_after (ends P R) (env0 [.dat (rolT os gs), .dat (rolT os hs)] 4) n
  unfold m_time_after
  generalize hend : (mSeq (mIfS (mOr _ _) _ _) _ : MS) = me
  unfold mComp mItems mStar
  walk_at "ev"
  refine ⟨_, rfl, _, _, rfl, rfl, gs.map enc, rfl, by rw [List.length_map]; omega, _, rfl, _, _, rfl, rfl, hs.map enc, rfl, by rw [List.length_map]; omega, ?_⟩
  have e0 : datAll ((gs.map enc).map Sl.dat ++ ((hs.map enc).map Sl.dat ++ [])) = some ((gs ++ hs).map enc) := by
    rw [List.append_nil, ← List.map_append, ← List.map_append]
    exact datAll_map _
  refine ⟨_, e0, by rw [List.length_map, List.length_append]; omega, ?_⟩
  refine comp_pure (fun _ => true) (fun d => match dec d with | some a => .int a.t | none => .none) _ _ (fun d hd => ⟨_, rfl, fun Q q => q⟩) (fun d hd ρ1 e _ Q q => ?_) ?_ ?_
  · obtain ⟨a, _, rfl⟩ := List.mem_map.mp hd
    cases e
    walk_at "ev"
    exact ⟨_, ix0 _ _, q⟩
  · rw [List.length_nil, List.length_map, List.length_append]; omega
  have e1 : (((gs ++ hs).map enc).filter fun _ => true).map (fun d => match dec d with | some a => PyData.int a.t | none => .none) = ((gs ++ hs).map (·.t)).map PyData.int := by
    rw [filter_yes, List.map_map, List.map_map]
    rfl
  rw [List.nil_append, e1]
  subst hend
  have hn : (gs ++ hs).map (·.t) ≠ [] := fun e => hne (List.map_eq_nil_iff.mp e)
  generalize hT : (gs ++ hs).map (·.t) = T at *
  unfold mMaxI
  walk_at "ev"
  refine iteF_of (by cases T with | nil => exact absurd rfl hn | cons _ _ => simp) ⟨T, rfl, hn, fun m h1 h2 => ?_⟩
  have hm : m < big := by
    rw [← hT] at h1
    obtain ⟨a, ha, rfl⟩ := List.mem_map.mp h1
    exact hlt a ha
  refine iteF_of ?_ ⟨T, rfl, hn, fun k h3 h4 => p k h3 h4⟩
  have hb : big = 1000000000000000000000000000000 := by decide +kernel
  rw [hb] at hm
  simp only [beq_iff_eq]
  omega
end DS

/-! Z2: persons, the first difference. -/
namespace DS
open PySem L2
local macro_rules | `(tactic| walk_at "ev") => `(tactic| simp only [mRaise, mRaiseP, mCallLK, mCallL, mCallLD, mCallD, mCallK, mProp, mTru, truD, mLof, mTof, mBack, mCatT, mSlT, mSlB, mSetI, mNoP, mPart, mCat, mSeq, mRet, mVar, mVarQ, slD, mC, m1, m2, mT, mNot, mAnd, mOr, mAndV, mOrV, mNotV, mIf, mChain, mNil, mCons, mSrc, mTup, mLst, mCall, mIx, mL, mIs, mIs2, mIfS, mNext, mSet, mOwn, mRetO, mRetN, mExp, mPar, mNev, datAll, gdName, gdTup, setAll, fI, fIc, fNeg, fLen, fInt, fAbs, fIsN, env0, wipeR,
  is_int_NoneType, is_int_bool, is_int_int, is_int_str, is_int_list, is_int_tuple, is_bool_NoneType, is_bool_bool, is_bool_int, is_bool_str, is_bool_list, is_bool_tuple, is_str_NoneType, is_str_bool, is_str_int, is_str_str, is_str_list, is_str_tuple, is_tuple_NoneType, is_tuple_bool, is_tuple_int, is_tuple_str, is_tuple_list, is_tuple_tuple, is_list_NoneType, is_list_bool, is_list_int, is_list_str, is_list_list, is_list_tuple,
  List.map, List.length_cons, List.length_nil, List.getElem?_cons_zero, List.getElem?_cons_succ, List.set_cons_zero, List.set_cons_succ, List.replicate, List.append_assoc, List.cons_append, List.nil_append, Option.map_some, Option.some.injEq, Sl.dat.injEq, Sl.own.injEq, exists_eq_left', exists_eq_left, exists_and_left, exists_and_right, true_and, and_true, Bool.true_eq_false, if_true, if_false, reduceIte, Bool.false_eq_true, Bool.not_true, Bool.not_false, PyData.bool.injEq, PyData.int.injEq, PyData.str.injEq, PyData.tuple.injEq, PyData.list.injEq, Nat.reduceAdd, Nat.reduceSub, Option.map_none, decide_eq_true_eq, ex_if, eq_ints, eq_strs, eq_bools, ix0, ix1, ix2, ix3, ix4, lx0, lx1, lx2, lx3])

/-! ### persons -/
theorem insS_has {l : List Str} {x s : Str} (h : s ∈ l ∨ s = x) : s ∈ insS l x := by
  unfold insS
  split
  · rename_i hx
    rcases h with h | rfl
    · exact h
    · first | exact hx | (obtain ⟨z, hz, e⟩ := List.any_eq_true.mp hx; rw [beq_iff_eq] at e; rw [← e]; exact hz) | exact of_decide_eq_true hx
  · rcases h with h | rfl
    · exact List.mem_append_left _ h
    · exact List.mem_append_right _ (.head _)
theorem nmS_has : ∀ (gs : List Gr) (l : List Str) (s : Str), (s ∈ l ∨ ∃ a ∈ gs, s = a.g ∨ s = a.k) → s ∈ nmS l gs
  | [], l, s, h => by
    rcases h with h | ⟨a, ha, _⟩
    · exact h
    · cases ha
  | a :: r, l, s, h => by
    refine nmS_has r (insS (insS l a.g) a.k) s ?_
    rcases h with h | ⟨b, hb, e⟩
    · exact .inl (insS_has (.inl (insS_has (.inl h))))
    · rcases List.mem_cons.mp hb with rfl | hb
      · rcases e with e | e
        · exact .inl (insS_has (.inl (insS_has (.inr e))))
        · exact .inl (insS_has (.inr e))
      · exact .inr ⟨b, hb, e⟩
theorem mem_perT {os : List Str} {gs : List Gr} {s : Str} : s ∈ perT os gs ↔ (∃ a ∈ gs, s = a.g ∨ s = a.k) ∧ s ∉ os := by
  unfold perT perS
  rw [mem_sortS, List.mem_filter]
  have ho : (!os.any fun z => z == s) = true ↔ s ∉ os := by
    rw [Bool.not_eq_true', ← Bool.not_eq_true, List.any_eq_true]
    constructor
    · exact fun h hs => h ⟨s, hs, by simp⟩
    · rintro h ⟨z, hz, e⟩
      rw [beq_iff_eq] at e
      exact h (e ▸ hz)
  rw [ho]
  constructor
  · rintro ⟨h, h2⟩
    rcases nmS_mem gs [] s h with z | z
    · cases z
    · exact ⟨z, h2⟩
  · rintro ⟨h, h2⟩
    exact ⟨nmS_has gs [] s (.inr h), h2⟩
theorem leT_anti {a b : Str} (h1 : leT a b = true) (h2 : leT b a = true) : a = b := by
  have e1 : PyProof.Rows.lexLt PyProof.Rows.itemOrd (PySem.W.keyToks (.str b)) (PySem.W.keyToks (.str a)) = false := by
    have : leT a b = !PyProof.Rows.lexLt PyProof.Rows.itemOrd (PySem.W.keyToks (.str b)) (PySem.W.keyToks (.str a)) := rfl
    rw [this] at h1
    simpa using h1
  have e2 : PyProof.Rows.lexLt PyProof.Rows.itemOrd (PySem.W.keyToks (.str a)) (PySem.W.keyToks (.str b)) = false := by
    have : leT b a = !PyProof.Rows.lexLt PyProof.Rows.itemOrd (PySem.W.keyToks (.str a)) (PySem.W.keyToks (.str b)) := rfl
    rw [this] at h2
    simpa using h2
  have : PySem.W.keyToks (.str a) = PySem.W.keyToks (.str b) := (PyProof.Rows.listOrd PyProof.Rows.itemOrd).total _ _ e2 e1
  simp only [PySem.W.keyToks, List.cons.injEq, Sum.inr.injEq, and_true] at this
  exact PySem.W.str_of_cps this
/-- two lists of texts, without repetitions, sorted, of the same members -/
theorem texts_same {l m : List Str} (h1 : l.Nodup) (h2 : m.Nodup) (p1 : l.Pairwise fun a b => leT a b = true) (p2 : m.Pairwise fun a b => leT a b = true) (h : ∀ k, k ∈ l ↔ k ∈ m) : l = m :=
  List.Perm.eq_of_pairwise (le := fun a b => leT a b = true) (fun a b _ _ h1 h2 => leT_anti h1 h2) p1 p2 ((List.perm_ext_iff_of_nodup h1 h2).mpr h)
/-! ### the first difference -/
/-- whether C gives what the grant asks -/
def tst (C : List Gr) (x : Str) (l p : Int) : Bool := C.any fun y => y.k == x && (decide (l ≤ y.l) && decide (p < y.p))
theorem tops_tst {os : List Str} {es : List Gr} {x : Str} {outs : List (List Int)} {l p : Int} (hC : ∀ a ∈ cnt os es, okGr a = true) (t : TopR (prs (cnt os es) x .none) outs) : hasL outs l (p + 1) = tst (cnt os es) x l p := by
  unfold hasL tst
  rw [Bool.eq_iff_iff, List.any_eq_true, List.any_eq_true]
  constructor
  · rintro ⟨k, hk, e⟩
    have hk := (List.mem_filter.mp ((t.mem k).mp hk)).1
    obtain ⟨a, ha, rfl⟩ := List.mem_map.mp hk
    obtain ⟨a1, a2⟩ := List.mem_filter.mp ha
    refine ⟨a, a1, ?_⟩
    simp only [covL, cov, ito, due, Bool.and_eq_true, decide_eq_true_eq] at e a2 ⊢
    exact ⟨a2.1, e.1, by omega⟩
  · rintro ⟨a, ha, e⟩
    simp only [Bool.and_eq_true, decide_eq_true_eq] at e
    have hk : [a.l, a.p] ∈ prs (cnt os es) x .none := List.mem_map.mpr ⟨a, List.mem_filter.mpr ⟨ha, by simp only [ito, due, Bool.and_true]; exact e.1⟩, rfl⟩
    obtain ⟨m, hm, c⟩ := maxes_over (prs_bd2 hC) _ _ _ hk (Int.self_le_toNat _)
    refine ⟨m, (t.mem m).mpr hm, covL_trans c ?_⟩
    simp only [covL, cov, Bool.and_eq_true, decide_eq_true_eq]
    exact ⟨e.2.1, by omega⟩
/-- the result for one person -/
def lgP (C1 C2 : List Gr) (x : Str) (l : Int) (mk : Int → Int → D) : D → Option D
  | .int p => if (tst C1 x l p != tst C2 x l p) = true then some (mk l p) else none
  | _ => none
def lgL (C1 C2 : List Gr) (x : Str) (mk : Int → Int → D) : D → Option D
  | .int l => (rngD 0 20).findSome? (lgP C1 C2 x l mk)
  | _ => none
def lg (C1 C2 : List Gr) (x : Str) (mk : Int → Int → D) : Option D := (rngD 1 9).findSome? (lgL C1 C2 x mk)
theorem findSome_congr {α β : Type} {f g : α → Option β} : ∀ {l : List α}, (∀ a ∈ l, f a = g a) → l.findSome? f = l.findSome? g
  | [], _ => rfl
  | a :: r, h => by
    rw [List.findSome?_cons, List.findSome?_cons, h a (.head _), findSome_congr (l := r) fun b hb => h b (.tail _ hb)]
theorem ld_lg {os : List Str} {gs hs : List Gr} {x : Str} {A B : List (List Int)} (h1 : ∀ a ∈ cnt os gs, okGr a = true) (h2 : ∀ a ∈ cnt os hs, okGr a = true) (t1 : TopR (prs (cnt os gs) x .none) A) (t2 : TopR (prs (cnt os hs) x .none) B) :
    ld A B = lg (cnt os gs) (cnt os hs) x fun l p => .tuple [.int l, .int p] := by
  unfold ld lg
  refine findSome_congr fun d hd => ?_
  obtain ⟨i, _, rfl⟩ := List.mem_map.mp hd
  show (rngD 0 20).findSome? _ = (rngD 0 20).findSome? _
  refine findSome_congr fun e he => ?_
  obtain ⟨j, _, rfl⟩ := List.mem_map.mp he
  show (if dif A B _ _ = true then _ else _) = (if _ then _ else _)
  unfold dif
  rw [tops_tst h1 t1, tops_tst h2 t2]
theorem findSome_map {α β γ : Type} {f : α → Option β} {g : β → γ} : ∀ {l : List α}, l.findSome? (fun a => (f a).map g) = (l.findSome? f).map g
  | [] => rfl
  | a :: r => by
    rw [List.findSome?_cons, List.findSome?_cons]
    cases f a with
    | none => exact findSome_map (l := r)
    | some b => rfl
/-- the pairs, put into grants -/
theorem lg_mk {C1 C2 : List Gr} {x : Str} {mk mk' : Int → Int → D} {g : D → D} (h : ∀ l p, mk' l p = g (mk l p)) : lg C1 C2 x mk' = (lg C1 C2 x mk).map g := by
  unfold lg
  rw [← findSome_map]
  refine findSome_congr fun d hd => ?_
  obtain ⟨i, _, rfl⟩ := List.mem_map.mp hd
  show (rngD 0 20).findSome? _ = ((rngD 0 20).findSome? _).map g
  rw [← findSome_map]
  refine findSome_congr fun e he => ?_
  obtain ⟨j, _, rfl⟩ := List.mem_map.mp he
  show (if _ then _ else _) = (if _ then _ else _ : Option D).map g
  split
  · rw [Option.map_some, h]
  · rfl
end DS

/-! Z3: a later grant. -/
namespace DS
open PySem L2
local macro_rules | `(tactic| walk_at "ev") => `(tactic| simp only [mRaise, mRaiseP, mCallLK, mCallL, mCallLD, mCallD, mCallK, mProp, mTru, truD, mLof, mTof, mBack, mCatT, mSlT, mSlB, mSetI, mNoP, mPart, mCat, mSeq, mRet, mVar, mVarQ, slD, mC, m1, m2, mT, mNot, mAnd, mOr, mAndV, mOrV, mNotV, mIf, mChain, mNil, mCons, mSrc, mTup, mLst, mCall, mIx, mL, mIs, mIs2, mIfS, mNext, mSet, mOwn, mRetO, mRetN, mExp, mPar, mNev, datAll, gdName, gdTup, setAll, fI, fIc, fNeg, fLen, fInt, fAbs, fIsN, env0, wipeR,
  is_int_NoneType, is_int_bool, is_int_int, is_int_str, is_int_list, is_int_tuple, is_bool_NoneType, is_bool_bool, is_bool_int, is_bool_str, is_bool_list, is_bool_tuple, is_str_NoneType, is_str_bool, is_str_int, is_str_str, is_str_list, is_str_tuple, is_tuple_NoneType, is_tuple_bool, is_tuple_int, is_tuple_str, is_tuple_list, is_tuple_tuple, is_list_NoneType, is_list_bool, is_list_int, is_list_str, is_list_list, is_list_tuple,
  List.map, List.length_cons, List.length_nil, List.getElem?_cons_zero, List.getElem?_cons_succ, List.set_cons_zero, List.set_cons_succ, List.replicate, List.append_assoc, List.cons_append, List.nil_append, Option.map_some, Option.some.injEq, Sl.dat.injEq, Sl.own.injEq, exists_eq_left', exists_eq_left, exists_and_left, exists_and_right, true_and, and_true, Bool.true_eq_false, if_true, if_false, reduceIte, Bool.false_eq_true, Bool.not_true, Bool.not_false, PyData.bool.injEq, PyData.int.injEq, PyData.str.injEq, PyData.tuple.injEq, PyData.list.injEq, Nat.reduceAdd, Nat.reduceSub, Option.map_none, decide_eq_true_eq, ex_if, eq_ints, eq_strs, eq_bools, ix0, ix1, ix2, ix3, ix4, lx0, lx1, lx2, lx3])

def mkG (T : Int) (x g : Str) (l p : Int) : D := .tuple [.int T, .str g, .str x, .int l, .int p]
def rsF (C1 C2 : List Gr) (T : Int) (x : Str) : D → Option D
  | .str g => lg C1 C2 g (mkG T x g)
  | _ => none
def rs (C1 C2 : List Gr) (T : Int) (x : Str) (out : List Str) : Option D := (out.map PyData.str).findSome? (rsF C1 C2 T x)
/-- the greatest time of these -/
def Mx (es : List Gr) (m : Int) : Prop := m ∈ es.map (·.t) ∧ ∀ y, y ∈ es.map (·.t) → y ≤ m
structure Ups70 (out : List Str) : Prop where
  nd : out.Nodup
  up : out.Pairwise fun a b => leT a b = true
def g_later_grant : G := fun as n P _ => ∃ (os : List Str) (gs hs : List Gr) (x : Str), as = [.dat (rolT os gs), .dat (rolT os hs), .dat (.str x)] ∧ RolOk os gs ∧ RolOk os hs ∧ gs ++ hs ≠ [] ∧ (∀ a ∈ gs ++ hs, a.t < big) ∧ nameOk x = true ∧ x ∉ os ∧ x ∉ perT os gs ∧ x ∉ perT os hs ∧
  ∀ out m, Ups70 out → (∀ k, k ∈ out ↔ k ∈ perT os gs ++ perT os hs) → Mx (gs ++ hs) m → P (optD (rs (cnt os gs) (cnt os hs) (m + 1) x out)) n
def N_later_grant : List Str := ["one", "other", "name", "time", "mine", "theirs", "giver", "power"]
def b_later_grant_1 : MS := (mSeq (mSet (mCall g_least_difference 2 (mCons (mCall g_top_powers 3 (mCons (mVar 4) (mCons (mVar 6) (mCons (mC .none) mNil)))) (mCons (mCall g_top_powers 3 (mCons (mVar 5) (mCons (mVar 6) (mCons (mC .none) mNil)))) mNil))) (gdName 7))
    (mIfS (mT (m2 (fIsN true) (mVarQ 7) (mC .none))) (mRet (mTup (mCons (mVar 3) (mCons (mVar 6) (mCons (mVar 2) (mStar (mVar 7) mNil)))))) mNext))
def m_later_grant : MS := (mSeq (mExp (mCall g_need_same_owners 2 (mCons (mVar 0) (mCons (mVar 1) mNil))))
    (mSeq (mExp (mCall g_need_name 1 (mCons (mVar 2) mNil)))
    (mSeq (mSet (mCall g_time_after 2 (mCons (mVar 0) (mCons (mVar 1) mNil))) (gdName 3))
    (mSeq (mIfS (mT (m2 (fIn false) (mVarQ 2) (mL (mLst (mStar (mProp 1 (g_prop 0) (mVar 0)) (mStar (mProp 1 (g_prop 2) (mVar 0)) (mStar (mProp 1 (g_prop 2) (mVar 1)) mNil))))))) mNev mNext)
    (mSeq (mSet (mCall g_counting_grants 1 (mCons (mVar 0) mNil)) (gdName 4))
    (mSeq (mSet (mCall g_counting_grants 1 (mCons (mVar 1) mNil)) (gdName 5))
    (mSeq (mFor (mItems (mL (mSortSetS (mL (mLst (mStar (mProp 1 (g_prop 2) (mVar 0)) (mStar (mProp 1 (g_prop 2) (mVar 1)) mNil))))))) (gdName 6) b_later_grant_1)
    (mRet (mC .none)))))))))

theorem lg_some {C1 C2 : List Gr} {x : Str} {mk : Int → Int → D} {v : D} (h : lg C1 C2 x mk = some v) : ∃ l p, v = mk l p := by
  obtain ⟨d, hd, e⟩ := List.exists_of_findSome?_eq_some h
  obtain ⟨i, _, rfl⟩ := List.mem_map.mp hd
  obtain ⟨q, hq, e⟩ := List.exists_of_findSome?_eq_some (show (rngD 0 20).findSome? _ = some v from e)
  obtain ⟨j, _, rfl⟩ := List.mem_map.mp hq
  have e' : (if (tst C1 x (1 + (i : Int)) (0 + (j : Int)) != tst C2 x (1 + (i : Int)) (0 + (j : Int))) = true then some (mk (1 + (i : Int)) (0 + (j : Int))) else none) = some v := e
  split at e'
  · exact ⟨_, _, (Option.some.inj e').symm⟩
  · cases e'
theorem t_later {De : DEnds} {a0 a1 a7 : Sl} {os : List Str} {gs hs : List Gr} {x g : Str} {T : Int} {n : Nat} (r1 : RolOk os gs) (r2 : RolOk os hs)
    (hv : ∀ v, rsF (cnt os gs) (cnt os hs) T x (.str g) = some v → De.rt v n) (hn : rsF (cnt os gs) (cnt os hs) T x (.str g) = none → ∀ a7, De.nx [a0, a1, .dat (.str x), .dat (.int T), .dat (.list ((cnt os gs).map enc)), .dat (.list ((cnt os hs).map enc)), .dat (.str g), a7] n) :
    b_later_grant_1 De [a0, a1, .dat (.str x), .dat (.int T), .dat (.list ((cnt os gs).map enc)), .dat (.list ((cnt os hs).map enc)), .dat (.str g), a7] n := by
  have l100 := line100
  unfold b_later_grant_1 mStar
  walk_at "ev"
  refine ⟨cnt os gs, g, .none, rfl, rfl, cnt_few r1, cnt_ok r1, fun A tA => ?_⟩
  refine ⟨cnt os hs, g, .none, rfl, rfl, cnt_few r2, cnt_ok r2, fun B tB => ?_⟩
  have two : ∀ {es : List Gr} {O : List (List Int)}, TopR (prs (cnt os es) g .none) O → ∀ k ∈ O, ∃ a b : Int, k = [a, b] := fun t k hk => by
    obtain ⟨a, _, e⟩ := prs_two (List.mem_filter.mp ((t.mem k).mp hk)).1
    exact ⟨_, _, e⟩
  refine ⟨A, B, rfl, Nat.le_of_lt tA.few, Nat.le_of_lt tB.few, two tA, two tB, ?_⟩
  have e1 := ld_lg (cnt_ok r1) (cnt_ok r2) tA tB
  have e2 : rsF (cnt os gs) (cnt os hs) T x (.str g) = (lg (cnt os gs) (cnt os hs) g fun l p => .tuple [.int l, .int p]).map fun d => match d with | .tuple [l, p] => .tuple [.int T, .str g, .str x, l, p] | _ => .none := lg_mk fun l p => rfl
  rw [e1]
  rw [e2] at hv hn
  cases hl : lg (cnt os gs) (cnt os hs) g fun l p => .tuple [.int l, .int p] with
  | none =>
    rw [hl] at hn
    exact hn rfl _
  | some v =>
    obtain ⟨l, p, rfl⟩ := lg_some hl
    rw [hl] at hv
    refine iteT_of rfl ⟨_, rfl, line2, [.int T, .str g, .str x, .int l, .int p], rfl, line_small (by show (5 : Nat) ≤ 1000; decide), hv _ rfl⟩
theorem perD_len {os : List Str} {gs : List Gr} (h : RolOk os gs) : (perT os gs).length ≤ 120 := by
  have := (perT_ok (os := os) h.ok).2
  have := h.few
  omega
theorem strs_any' (os : List Str) (x : Str) : ((os.map PyData.str).any fun z => PyData.eqv z (.str x)) = decide (x ∈ os) := by
  rw [strs_any, Bool.eq_iff_iff, List.any_eq_true, decide_eq_true_eq]
  constructor
  · rintro ⟨z, hz, e⟩
    rw [beq_iff_eq] at e
    exact e ▸ hz
  · exact fun h => ⟨x, h, by simp⟩
theorem pr_later_grant (as n P R) (hl : as.length = 3) (h : g_later_grant as n P R) : m_later_grant (ends P R) (env0 as N_later_grant.length) n := by
  obtain ⟨os, gs, hs, x, rfl, r1, r2, hne, hlt, hx, x1, x2, x3, p⟩ := h
  have l3 : (3000 : Nat) ≤ sizeLine := by rw [sizeLine_eq]; decide
  have f1 := r1.few
  have f2 := r2.few
  have f4 := r1.four
  have p1 := perD_len r1
  have p2 := perD_len r2
  have hxn : isName (.str x) = true := hx
  show m_later_grant (ends P R) (env0 [.dat (rolT os gs), .dat (rolT os hs), .dat (.str x)] 8) n
  unfold m_later_grant
  generalize hend : (mSeq (mSet (mCall g_counting_grants _ _) _) (mSeq (mSet _ _) _) : MS) = me
  unfold mStar
  walk_at "ev"
  refine ⟨os, gs, hs, rfl, _, rfl, sane_pl (sane_name hx), fun _ => ?_, fun z => by rw [hxn] at z; cases z⟩
  refine ⟨os, gs, hs, rfl, f1, f2, hne, hlt, fun m m1 m2 => ?_⟩
  have e0 : datAll ((os.map PyData.str).map Sl.dat ++ (((perT os gs).map PyData.str).map Sl.dat ++ (((perT os hs).map PyData.str).map Sl.dat ++ []))) = some ((os ++ (perT os gs ++ perT os hs)).map PyData.str) := by
    rw [List.append_nil, ← List.map_append, ← List.map_append, ← List.map_append, ← List.map_append]
    exact datAll_map _
  refine ⟨_, rfl, _, _, rfl, rfl, os.map PyData.str, rfl, by rw [List.length_map]; omega, _, rfl, _, _, rfl, rfl, (perT os gs).map PyData.str, rfl, by rw [List.length_map]; omega, _, rfl, _, _, rfl, rfl, (perT os hs).map PyData.str, rfl, by rw [List.length_map]; omega, _, e0, by rw [List.length_map, List.length_append, List.length_append]; omega, ?_⟩
  refine ⟨_, fIn_seq (ds := (os ++ (perT os gs ++ perT os hs)).map PyData.str) rfl (okD_str _) (strs_alike _).1, _, rfl, ?_⟩
  rw [if_neg Bool.false_ne_true, strs_any', decide_eq_false (by simp only [List.mem_append, not_or]; exact ⟨x1, x2, x3⟩)]
  refine iteF_of (by decide) ?_
  subst hend
  generalize hend : (mSeq (mFor _ _ _) _ : MS) = me
  walk_at "ev"
  refine ⟨os, gs, rfl, r1, os, hs, rfl, r2, ?_⟩
  subst hend
  unfold mFor mItems mSortSetS mStar
  walk_at "ev"
  have e1 : datAll (((perT os gs).map PyData.str).map Sl.dat ++ (((perT os hs).map PyData.str).map Sl.dat ++ [])) = some ((perT os gs ++ perT os hs).map PyData.str) := by
    rw [List.append_nil, ← List.map_append, ← List.map_append]
    exact datAll_map _
  refine ⟨_, rfl, _, _, rfl, rfl, (perT os gs).map PyData.str, rfl, by rw [List.length_map]; omega, _, rfl, _, _, rfl, rfl, (perT os hs).map PyData.str, rfl, by rw [List.length_map]; omega, _, e1, by rw [List.length_map, List.length_append]; omega, ?_⟩
  refine ⟨_, rfl, by rw [List.length_append]; omega, fun out nd mem up => ?_⟩
  have q := p out m ⟨nd, up⟩ mem ⟨m1, m2⟩
  refine for_find7 (f := rsF (cnt os gs) (cnt os hs) (m + 1) x) (fun ρ => ∃ a6 a7, ρ = [.dat (rolT os gs), .dat (rolT os hs), .dat (.str x), .dat (.int (m + 1)), .dat (.list ((cnt os gs).map enc)), .dat (.list ((cnt os hs).map enc)), a6, a7]) _ _ ⟨_, _, rfl⟩ (fun d hd ρ X qq hv hn => ?_) (fun v e => ?_) (fun e ρ qq => ?_)
  · obtain ⟨b6, b7, rfl⟩ := qq
    obtain ⟨g, _, rfl⟩ := List.mem_map.mp hd
    exact ⟨_, rfl, t_later r1 r2 hv fun e a7 => hn e _ ⟨_, _, rfl⟩⟩
  · have e' : rs (cnt os gs) (cnt os hs) (m + 1) x out = some v := e
    rw [e'] at q
    exact q
  · obtain ⟨b6, b7, rfl⟩ := qq
    have e' : rs (cnt os gs) (cnt os hs) (m + 1) x out = none := e
    rw [e'] at q
    exact q
/-! ### the law's own -/
def g_law_is_one : G := fun as n P _ => ∃ (C : List Gr) (e : Gr), as = [.dat (.list (C.map enc)), .dat (enc e)] ∧ C.length ≤ 100 ∧ P (.bool (C.any fun y => bk y e)) n
def N_law_is_one : List Str := ["counting", "entry", "one"]
def m_law_is_one : MS := (mRet (m2 (fEq true) (mL (mComp (mItems (mVarQ 0)) (gdName 2) [2] (mT (mCall g_law_is_support 2 (mCons (mVar 2) (mCons (mVar 1) mNil)))) (mVar 2))) (mL (mLst mNil))))

theorem pr_law_is_one (as n P R) (hl : as.length = 2) (h : g_law_is_one as n P R) : m_law_is_one (ends P R) (env0 as N_law_is_one.length) n := by
  obtain ⟨C, e, rfl, h1, p⟩ := h
  have l100 := line100
  show m_law_is_one (ends P R) (env0 [.dat (.list (C.map enc)), .dat (enc e)] 3) n
  unfold m_law_is_one mComp mItems
  walk_at "ev"
  refine comp_pure (fun d => match dec d with | some y => bk y e | none => false) id _ _ (fun d hd => ⟨_, rfl, fun Q q => ?_⟩) (fun d hd ρ1 e' _ Q q => ?_) ?_ ?_
  · obtain ⟨y, _, rfl⟩ := List.mem_map.mp hd
    walk_at "ev"
    exact gF1 [enc y, enc e] (.bool (bk y e)) rfl rfl ⟨_, rfl, q⟩
  · cases e'
    walk_at "ev"
    exact q
  · rw [List.length_nil, List.length_map]; omega
  rw [List.nil_append, List.map_id, List.filter_map]
  have hf : C.filter ((fun d => match dec d with | some y => bk y e | none => false) ∘ enc) = C.filter fun y => bk y e := rfl
  rw [hf]
  refine ⟨Nat.zero_le _, _, if_pos ⟨okD_encsL _, rfl⟩, ?_⟩
  rw [if_pos rfl, eqv_nilL]
  have e2 : (!((C.filter fun y => bk y e).map enc).isEmpty) = C.any fun y => bk y e := by
    rw [Bool.eq_iff_iff]
    simp [List.isEmpty_iff, List.filter_eq_nil_iff]
  rw [e2]
  exact p
end DS

/-! Z4: law k70's own search. -/
namespace DS
open PySem L2
local macro_rules | `(tactic| walk_at "ev") => `(tactic| simp only [mRaise, mRaiseP, mCallLK, mCallL, mCallLD, mCallD, mCallK, mProp, mTru, truD, mLof, mTof, mBack, mCatT, mSlT, mSlB, mSetI, mNoP, mPart, mCat, mSeq, mRet, mVar, mVarQ, slD, mC, m1, m2, mT, mNot, mAnd, mOr, mAndV, mOrV, mNotV, mIf, mChain, mNil, mCons, mSrc, mTup, mLst, mCall, mIx, mL, mIs, mIs2, mIfS, mNext, mSet, mOwn, mRetO, mRetN, mExp, mPar, mNev, datAll, gdName, gdTup, setAll, fI, fIc, fNeg, fLen, fInt, fAbs, fIsN, env0, wipeR,
  is_int_NoneType, is_int_bool, is_int_int, is_int_str, is_int_list, is_int_tuple, is_bool_NoneType, is_bool_bool, is_bool_int, is_bool_str, is_bool_list, is_bool_tuple, is_str_NoneType, is_str_bool, is_str_int, is_str_str, is_str_list, is_str_tuple, is_tuple_NoneType, is_tuple_bool, is_tuple_int, is_tuple_str, is_tuple_list, is_tuple_tuple, is_list_NoneType, is_list_bool, is_list_int, is_list_str, is_list_list, is_list_tuple,
  List.map, List.length_cons, List.length_nil, List.getElem?_cons_zero, List.getElem?_cons_succ, List.set_cons_zero, List.set_cons_succ, List.replicate, List.append_assoc, List.cons_append, List.nil_append, Option.map_some, Option.some.injEq, Sl.dat.injEq, Sl.own.injEq, exists_eq_left', exists_eq_left, exists_and_left, exists_and_right, true_and, and_true, Bool.true_eq_false, if_true, if_false, reduceIte, Bool.false_eq_true, Bool.not_true, Bool.not_false, PyData.bool.injEq, PyData.int.injEq, PyData.str.injEq, PyData.tuple.injEq, PyData.list.injEq, Nat.reduceAdd, Nat.reduceSub, Option.map_none, decide_eq_true_eq, ex_if, eq_ints, eq_strs, eq_bools, ix0, ix1, ix2, ix3, ix4, lx0, lx1, lx2, lx3])

def g_law_later : G := fun as n P _ => ∃ (os : List Str) (fs ss : List Gr) (x : Str), as = [.dat (.list (os.map PyData.str)), .dat (.list (fs.map enc)), .dat (.list (ss.map enc)), .dat (.str x)] ∧ fs.Nodup ∧ ss.Nodup ∧ fs.length ≤ 60 ∧ ss.length ≤ 60 ∧ fs ++ ss ≠ [] ∧
  ∀ out m, Ups70 out → (∀ k, k ∈ out ↔ (∃ a ∈ fs ++ ss, k = a.g ∨ k = a.k) ∧ k ∉ os) → Mx (fs ++ ss) m → P (optD (rs (cns os fs) (cns os ss) (m + 1) x out)) n
def N_law_later : List Str := ["owners", "firsts", "seconds", "name", "entry", "persons", "time", "both", "giver", "level", "passes", "person"]
def b_law_later_1 : MS := (mSeq (mSet (mTup (mCons (mVar 6) (mCons (mVar 8) (mCons (mVar 3) (mCons (mVar 9) (mCons (mVar 10) mNil)))))) (gdName 4))
    (mIfS (mT (m2 (fEq true) (mCall g_law_is_one 2 (mCons (mIx (mVarQ 7) (mC (.int 0))) (mCons (mVar 4) mNil))) (mCall g_law_is_one 2 (mCons (mIx (mVarQ 7) (mC (.int 1))) (mCons (mVar 4) mNil))))) (mRet (mVar 4)) mNext))
def b_law_later_2 : MS := (mFor (mRng1 (mC (.int 20))) (gdName 10) b_law_later_1)
def b_law_later_3 : MS := (mFor (mRng2 (mC (.int 1)) (mC (.int 10))) (gdName 9) b_law_later_2)
def m_law_later : MS := (mSeq (mSet (mL (mSortSetS (mL (mCat (mL (mComp (mItems (mL (mCat (mVarQ 1) (mVarQ 2)))) (gdName 4) [4] mYes (mIx (mVarQ 4) (mC (.int 2))))) (mL (mComp (mItems (mL (mCat (mVarQ 1) (mVarQ 2)))) (gdName 4) [4] mYes (mIx (mVarQ 4) (mC (.int 1))))))))) (gdName 5))
    (mSeq (mSet (m2 fAdd (mMaxI (mL (mComp (mItems (mL (mCat (mVarQ 1) (mVarQ 2)))) (gdName 4) [4] mYes (mIx (mVarQ 4) (mC (.int 0)))))) (mC (.int 1))) (gdName 6))
    (mSeq (mSet (mL (mLst (mCons (mCall g_law_counting 2 (mCons (mVar 0) (mCons (mVar 1) mNil))) (mCons (mCall g_law_counting 2 (mCons (mVar 0) (mCons (mVar 2) mNil))) mNil)))) (gdName 7))
    (mSeq (mFor (mItems (mL (mComp (mItems (mVarQ 5)) (gdName 11) [11] (mT (m2 (fIn true) (mVarQ 11) (mVarQ 0))) (mVar 11)))) (gdName 8) b_law_later_3)
    (mRet (mC .none))))))

def FL (os : List Str) (fs ss : List Gr) (x : Str) (a4 a5 : Sl) (T : Int) (a8 a9 a10 : Sl) : Env := [.dat (.list (os.map PyData.str)), .dat (.list (fs.map enc)), .dat (.list (ss.map enc)), .dat (.str x), a4, a5, .dat (.int T), .dat (.list [.list ((cns os fs).map enc), .list ((cns os ss).map enc)]), a8, a9, a10, .no]
theorem bk_tst {C : List Gr} {g x : Str} {m l p : Int} (h : ∀ y ∈ C, y.t ≤ m) : (C.any fun y => bk y ⟨m + 1, g, x, l, p⟩) = tst C g l p := by
  unfold tst
  rw [Bool.eq_iff_iff, List.any_eq_true, List.any_eq_true]
  constructor
  · rintro ⟨y, hy, e⟩
    simp only [bk, Bool.and_eq_true, decide_eq_true_eq] at e ⊢
    exact ⟨y, hy, e.1, e.2.2⟩
  · rintro ⟨y, hy, e⟩
    have := h y hy
    simp only [bk, Bool.and_eq_true, decide_eq_true_eq] at e ⊢
    exact ⟨y, hy, e.1, by omega, e.2⟩
theorem nodup_leS : ∀ {F L : List Str}, F.Nodup → (∀ x ∈ F, x ∈ L) → F.length ≤ L.length
  | [], _, _, _ => Nat.zero_le _
  | x :: F, L, nd, h => by
    have hx := h x (.head _)
    have nd' := List.nodup_cons.mp nd
    have := nodup_leS (F := F) (L := L.erase x) nd'.2 fun y hy => (List.mem_erase_of_ne fun e => nd'.1 (by rw [← e]; exact hy)).mpr (h y (.tail _ hy))
    rw [List.length_erase_of_mem hx] at this
    have : 0 < L.length := List.length_pos_iff.mpr fun e => by rw [e] at hx; cases hx
    rw [List.length_cons]
    omega
structure LL (os : List Str) (fs ss : List Gr) (m : Int) : Prop where
  f1 : fs.length ≤ 60
  f2 : ss.length ≤ 60
  mx : ∀ a ∈ fs ++ ss, a.t ≤ m
theorem LL.t1 {os : List Str} {fs ss : List Gr} {m : Int} (w : LL os fs ss m) : ∀ y ∈ cns os fs, y.t ≤ m := fun y hy => w.mx y (List.mem_append_left _ (cns_in hy))
theorem LL.t2 {os : List Str} {fs ss : List Gr} {m : Int} (w : LL os fs ss m) : ∀ y ∈ cns os ss, y.t ≤ m := fun y hy => w.mx y (List.mem_append_right _ (cns_in hy))
theorem LL.l1 {os : List Str} {fs ss : List Gr} {m : Int} (w : LL os fs ss m) : (cns os fs).length ≤ 100 := by
  have := cnt_len (sortS os) (sortG fs)
  rw [len_sortG] at this
  have := w.f1
  show (cnt _ _).length ≤ _
  omega
theorem LL.l2 {os : List Str} {fs ss : List Gr} {m : Int} (w : LL os fs ss m) : (cns os ss).length ≤ 100 := by
  have := cnt_len (sortS os) (sortG ss)
  rw [len_sortG] at this
  have := w.f2
  show (cnt _ _).length ≤ _
  omega
theorem t_ll1 {De : DEnds} {os : List Str} {fs ss : List Gr} {x g : Str} {m l p : Int} {a4 a5 : Sl} {n : Nat} (w : LL os fs ss m)
    (hv : (tst (cns os fs) g l p != tst (cns os ss) g l p) = true → De.rt (mkG (m + 1) x g l p) n) (hn : (tst (cns os fs) g l p != tst (cns os ss) g l p) = false → ∀ a4, De.nx (FL os fs ss x a4 a5 (m + 1) (.dat (.str g)) (.dat (.int l)) (.dat (.int p))) n) :
    b_law_later_1 De (FL os fs ss x a4 a5 (m + 1) (.dat (.str g)) (.dat (.int l)) (.dat (.int p))) n := by
  unfold FL at hn ⊢
  unfold b_law_later_1
  walk_at "ev"
  refine ⟨line_small (by decide), cns os fs, ⟨m + 1, g, x, l, p⟩, rfl, w.l1, cns os ss, ⟨m + 1, g, x, l, p⟩, rfl, w.l2, _, eq_bools _ _ _, _, rfl, ?_⟩
  rw [bk_tst w.t1, bk_tst w.t2, if_pos rfl]
  cases hd : (tst (cns os fs) g l p != tst (cns os ss) g l p) with
  | true => exact iteT_of hd (hv hd)
  | false =>
    refine iteF_of ?_ (hn hd _)
    show ¬ ((tst (cns os fs) g l p != tst (cns os ss) g l p) = true)
    rw [hd]
    decide
theorem t_ll2 {De : DEnds} {os : List Str} {fs ss : List Gr} {x g : Str} {m l : Int} {a4 a5 a10 : Sl} {n : Nat} (w : LL os fs ss m)
    (hv : ∀ v, lgL (cns os fs) (cns os ss) g (mkG (m + 1) x g) (.int l) = some v → De.rt v n) (hn : lgL (cns os fs) (cns os ss) g (mkG (m + 1) x g) (.int l) = none → ∀ a4 a10, De.nx (FL os fs ss x a4 a5 (m + 1) (.dat (.str g)) (.dat (.int l)) a10) n) :
    b_law_later_2 De (FL os fs ss x a4 a5 (m + 1) (.dat (.str g)) (.dat (.int l)) a10) n := by
  unfold b_law_later_2 mFor mRng1
  walk_at "ev"
  refine ⟨by decide, ?_⟩
  refine for_find7 (f := lgP (cns os fs) (cns os ss) g l (mkG (m + 1) x g)) (fun ρ => ∃ a4 a10, ρ = FL os fs ss x a4 a5 (m + 1) (.dat (.str g)) (.dat (.int l)) a10) _ _ ⟨_, _, rfl⟩ (fun d hd ρ X q hv' hn' => ?_) (fun v e => hv v e) (fun e ρ q => ?_)
  · obtain ⟨b4, b10, rfl⟩ := q
    obtain ⟨i, _, rfl⟩ := List.mem_map.mp hd
    refine ⟨_, rfl, t_ll1 w (fun e => hv' _ ?_) fun e a4 => hn' ?_ _ ⟨_, _, rfl⟩⟩
    · show (if (tst (cns os fs) g l (0 + (i : Int)) != tst (cns os ss) g l (0 + (i : Int))) = true then _ else _) = _
      rw [if_pos e]
    · show (if (tst (cns os fs) g l (0 + (i : Int)) != tst (cns os ss) g l (0 + (i : Int))) = true then _ else _) = _
      rw [if_neg (by rw [e]; decide)]
  · obtain ⟨b4, b10, rfl⟩ := q
    exact hn e _ _
theorem t_ll3 {De : DEnds} {os : List Str} {fs ss : List Gr} {x g : Str} {m : Int} {a4 a5 a9 a10 : Sl} {n : Nat} (w : LL os fs ss m)
    (hv : ∀ v, rsF (cns os fs) (cns os ss) (m + 1) x (.str g) = some v → De.rt v n) (hn : rsF (cns os fs) (cns os ss) (m + 1) x (.str g) = none → ∀ a4 a9 a10, De.nx (FL os fs ss x a4 a5 (m + 1) (.dat (.str g)) a9 a10) n) :
    b_law_later_3 De (FL os fs ss x a4 a5 (m + 1) (.dat (.str g)) a9 a10) n := by
  unfold b_law_later_3 mFor mRng2
  walk_at "ev"
  refine ⟨by decide, ?_⟩
  refine for_find7 (f := lgL (cns os fs) (cns os ss) g (mkG (m + 1) x g)) (fun ρ => ∃ a4 a9 a10, ρ = FL os fs ss x a4 a5 (m + 1) (.dat (.str g)) a9 a10) _ _ ⟨_, _, _, rfl⟩ (fun d hd ρ X q hv' hn' => ?_) (fun v e => hv v e) (fun e ρ q => ?_)
  · obtain ⟨b4, b9, b10, rfl⟩ := q
    obtain ⟨i, _, rfl⟩ := List.mem_map.mp hd
    exact ⟨_, rfl, t_ll2 w hv' fun e a4 a10 => hn' e _ ⟨_, _, _, rfl⟩⟩
  · obtain ⟨b4, b9, b10, rfl⟩ := q
    exact hn e _ _ _
theorem comp_all {ρ : Env} {i j : Nat} {es : List Gr} {n : Nat} {P : List D → Nat → Prop} (f : Gr → D) (hi : i < ρ.length) (hf : ∀ a : Gr, fIx (enc a) (.int (j : Int)) = some (f a)) (hl : es.length ≤ 1000) (p : P (es.map f) n) :
    compW (gdName i) mYes (mIx (mVarQ i) (mC (.int (j : Int)))) ρ P (es.map enc) [] n := by
  have l3 : (3000 : Nat) ≤ sizeLine := by rw [sizeLine_eq]; decide
  refine comp_pure (fun _ => true) (fun d => match dec d with | some a => f a | none => .none) _ _ (fun d hd => ⟨_, rfl, fun Q q => q⟩) (fun d hd ρ1 e _ Q q => ?_) ?_ ?_
  · obtain ⟨a, _, rfl⟩ := List.mem_map.mp hd
    cases e
    exact ⟨_, _, List.getElem?_set_self hi, rfl, _, hf a, q⟩
  · rw [List.length_nil, List.length_map]; omega
  · rw [List.nil_append, filter_yes, List.map_map]
    exact p
def noF (os : List Str) : D → Bool
  | .str s => decide (s ∉ os)
  | _ => false
theorem pr_law_later (as n P R) (hl : as.length = 4) (h : g_law_later as n P R) : m_law_later (ends P R) (env0 as N_law_later.length) n := by
  obtain ⟨os, fs, ss, x, rfl, nd1, nd2, f1, f2, hne, p⟩ := h
  have l3 : (3000 : Nat) ≤ sizeLine := by rw [sizeLine_eq]; decide
  show m_law_later (ends P R) (env0 [.dat (.list (os.map PyData.str)), .dat (.list (fs.map enc)), .dat (.list (ss.map enc)), .dat (.str x)] 12) n
  unfold m_law_later
  generalize hend : (mSeq (mSet (m2 fAdd (mMaxI _) _) _) _ : MS) = me
  unfold mSortSetS mComp mItems
  walk_at "ev"
  have ea : fs.map enc ++ ss.map enc = (fs ++ ss).map enc := (List.map_append ..).symm
  have el : (fs.map enc).length + (ss.map enc).length ≤ sizeLine := by rw [List.length_map, List.length_map]; omega
  have el2 : (fs ++ ss).length ≤ 120 := by rw [List.length_append]; omega
  refine ⟨el, ?_⟩
  rw [ea]
  refine comp_all (i := 4) (j := 2) (fun a => .str a.k) (by show (4 : Nat) < 12; decide) (fun a => ix2 _ _ _ _) (by omega) ?_
  refine ⟨el, ?_⟩
  refine comp_all (i := 4) (j := 1) (fun a => .str a.g) (by show (4 : Nat) < 12; decide) (fun a => ix1 _ _ _) (by omega) ?_
  refine ⟨by rw [List.length_map, List.length_map]; omega, ?_⟩
  have eb : (fs ++ ss).map (fun a => PyData.str a.k) ++ (fs ++ ss).map (fun a => PyData.str a.g) = (((fs ++ ss).map (·.k)) ++ ((fs ++ ss).map (·.g))).map PyData.str := by
    rw [List.map_append (f := PyData.str), List.map_map, List.map_map]
    rfl
  rw [eb]
  refine ⟨_, rfl, by rw [List.length_append, List.length_map, List.length_map]; omega, fun all nd mem up => ?_⟩
  subst hend
  generalize hend : (mSeq (mSet (mL (mLst _)) _) _ : MS) = me
  unfold mMaxI mComp mItems
  walk_at "ev"
  refine ⟨el, ?_⟩
  rw [ea]
  refine comp_all (i := 4) (j := 0) (fun a => .int a.t) (by show (4 : Nat) < 12; decide) (fun a => ix0 _ _) (by omega) ?_
  have ec : (fs ++ ss).map (fun a => PyData.int a.t) = ((fs ++ ss).map (·.t)).map PyData.int := by rw [List.map_map]; rfl
  rw [ec]
  refine ⟨_, rfl, fun e => hne (List.map_eq_nil_iff.mp e), fun m h1 h2 => ?_⟩
  subst hend
  generalize hend : (mSeq (mFor _ _ _) _ : MS) = me
  walk_at "ev"
  refine ⟨os, fs, rfl, nd1, by omega, os, ss, rfl, nd2, by omega, line2, ?_⟩
  subst hend
  unfold mFor mComp mItems
  walk_at "ev"
  have w : LL os fs ss m := ⟨f1, f2, fun a ha => h2 _ (List.mem_map.mpr ⟨a, ha, rfl⟩)⟩
  refine comp_pure (noF os) id _ _ (fun d hd => ⟨_, rfl, fun Q q => ?_⟩) (fun d hd ρ1 e _ Q q => ?_) ?_ ?_
  · obtain ⟨s, _, rfl⟩ := List.mem_map.mp hd
    have q' : Q (decide (s ∉ os)) n := q
    walk_at "ev"
    refine ⟨_, fIn_seq (ds := os.map PyData.str) rfl (okD_str _) (strs_alike os).1, _, rfl, ?_⟩
    rw [if_pos rfl, strs_any']
    simpa using q'
  · cases e
    walk_at "ev"
    exact q
  · rw [List.length_nil, List.length_map]
    have : all.length ≤ ((fs ++ ss).map (·.k) ++ (fs ++ ss).map (·.g)).length := nodup_leS nd fun k hk => (mem k).mp hk
    rw [List.length_append, List.length_map, List.length_map, List.length_append] at this
    omega
  rw [List.nil_append, List.map_id, List.filter_map]
  have hf : all.filter (noF os ∘ PyData.str) = all.filter fun s => decide (s ∉ os) := rfl
  rw [hf]
  have q := p (all.filter fun s => decide (s ∉ os)) m ⟨nd.sublist List.filter_sublist, up.sublist List.filter_sublist⟩ (fun k => by
    rw [List.mem_filter, mem, decide_eq_true_eq, List.mem_append, List.mem_map, List.mem_map]
    constructor
    · rintro ⟨h | h, ho⟩
      · obtain ⟨a, ha, rfl⟩ := h; exact ⟨⟨a, ha, .inr rfl⟩, ho⟩
      · obtain ⟨a, ha, rfl⟩ := h; exact ⟨⟨a, ha, .inl rfl⟩, ho⟩
    · rintro ⟨⟨a, ha, e | e⟩, ho⟩
      · exact ⟨.inr ⟨a, ha, e.symm⟩, ho⟩
      · exact ⟨.inl ⟨a, ha, e.symm⟩, ho⟩) ⟨h1, h2⟩
  refine for_find7 (f := rsF (cns os fs) (cns os ss) (m + 1) x) (fun ρ => ∃ a4 a8 a9 a10, ρ = FL os fs ss x a4 (.dat (.list (all.map PyData.str))) (m + 1) a8 a9 a10) _ _ ⟨_, _, _, _, rfl⟩ (fun d hd ρ X qq hv hn => ?_) (fun v e => ?_) (fun e ρ qq => ?_)
  · obtain ⟨b4, b8, b9, b10, rfl⟩ := qq
    obtain ⟨g, _, rfl⟩ := List.mem_map.mp hd
    exact ⟨_, rfl, t_ll3 w hv fun e a4 a9 a10 => hn e _ ⟨_, _, _, _, rfl⟩⟩
  · have e' : rs (cns os fs) (cns os ss) (m + 1) x (all.filter fun s => decide (s ∉ os)) = some v := e
    rw [e'] at q
    exact q
  · obtain ⟨b4, b8, b9, b10, rfl⟩ := qq
    have e' : rs (cns os fs) (cns os ss) (m + 1) x (all.filter fun s => decide (s ∉ os)) = none := e
    rw [e'] at q
    exact q
end DS

/-! Z5: law k70, whole. -/
namespace DS
open PySem L2
local macro_rules | `(tactic| walk_at "ev") => `(tactic| simp only [mRaise, mRaiseP, mCallLK, mCallL, mCallLD, mCallD, mCallK, mProp, mTru, truD, mLof, mTof, mBack, mCatT, mSlT, mSlB, mSetI, mNoP, mPart, mCat, mSeq, mRet, mVar, mVarQ, slD, mC, m1, m2, mT, mNot, mAnd, mOr, mAndV, mOrV, mNotV, mIf, mChain, mNil, mCons, mSrc, mTup, mLst, mCall, mIx, mL, mIs, mIs2, mIfS, mNext, mSet, mOwn, mRetO, mRetN, mExp, mPar, mNev, datAll, gdName, gdTup, setAll, fI, fIc, fNeg, fLen, fInt, fAbs, fIsN, env0, wipeR,
  is_int_NoneType, is_int_bool, is_int_int, is_int_str, is_int_list, is_int_tuple, is_bool_NoneType, is_bool_bool, is_bool_int, is_bool_str, is_bool_list, is_bool_tuple, is_str_NoneType, is_str_bool, is_str_int, is_str_str, is_str_list, is_str_tuple, is_tuple_NoneType, is_tuple_bool, is_tuple_int, is_tuple_str, is_tuple_list, is_tuple_tuple, is_list_NoneType, is_list_bool, is_list_int, is_list_str, is_list_list, is_list_tuple,
  List.map, List.length_cons, List.length_nil, List.getElem?_cons_zero, List.getElem?_cons_succ, List.set_cons_zero, List.set_cons_succ, List.replicate, List.append_assoc, List.cons_append, List.nil_append, Option.map_some, Option.some.injEq, Sl.dat.injEq, Sl.own.injEq, exists_eq_left', exists_eq_left, exists_and_left, exists_and_right, true_and, and_true, Bool.true_eq_false, if_true, if_false, reduceIte, Bool.false_eq_true, Bool.not_true, Bool.not_false, PyData.bool.injEq, PyData.int.injEq, PyData.str.injEq, PyData.tuple.injEq, PyData.list.injEq, Nat.reduceAdd, Nat.reduceSub, Option.map_none, decide_eq_true_eq, ex_if, eq_ints, eq_strs, eq_bools, ix0, ix1, ix2, ix3, ix4, lx0, lx1, lx2, lx3])

theorem new_ok {w : Str} (h : w.length = 3) (ok : nameOk w = true) : nameOk (("new" : Str) ++ w) = true ∧ ∀ s, Nam s → s ≠ ("new" : Str) ++ w := by
  have hl : (("new" : Str) ++ w).length = 6 := by rw [Str.length_append, h]; rfl
  have hc : (("new" : Str) ++ w).cps.toList = [110, 101, 119] ++ w.cps.toList := by rw [Str.cps_append, Array.toList_append]; rfl
  constructor
  · simp only [nameOk, Bool.and_eq_true, decide_eq_true_eq] at ok ⊢
    refine ⟨⟨by omega, by omega⟩, ?_⟩
    rw [hc, List.all_append, ok.2]
    rfl
  · rintro s ⟨_, hs⟩ e
    rw [e, hl] at hs
    rcases hs with hs | hs | hs | hs
    · have h1 := (fix9_len _ hs).2
      simp only [fix9, List.mem_cons, List.not_mem_nil, or_false] at hs
      have no : ∀ t : Str, t.length ≠ 6 → ("new" : Str) ++ w ≠ t := fun t ht e' => ht (by rw [← e', hl])
      rcases hs with hs | hs | hs | hs | hs | hs | hs | hs | hs
      · exact no _ (by decide +kernel) hs
      · exact no _ (by decide +kernel) hs
      · exact no _ (by decide +kernel) hs
      · exact no _ (by decide +kernel) hs
      · exact no _ (by decide +kernel) hs
      · exact no _ (by decide +kernel) hs
      · exact no _ (by decide +kernel) hs
      · rw [hs] at hc
        have : ("owners" : Str).cps.toList.head? = some 111 := by decide +kernel
        rw [hc] at this
        cases this
      · exact no _ (by decide +kernel) hs
    · omega
    · omega
    · omega
def N_law : List Str := ["script", "source", "repeat", "owners", "names", "entries", "few", "firsts", "seconds", "one", "other", "name", "due", "entry"]
def b_law_1 : MS := (mSeq (mSet (mCall g_law_owners_and_names 1 (mSrc 1 mNil)) (gdTup [3, 4]))
    (mSeq (mSet (mL (mComp (mItems (mCall g_law_entries 4 (mSrc 1 (mCons (mVar 3) (mCons (mVar 4) (mCons (mC (.int 12)) mNil)))))) (gdName 13) [13] (mT (m2 fLt (mIx (mVarQ 13) (mC (.int 0))) (m2 fPow (mC (.int 10)) (mC (.int 30))))) (mVar 13))) (gdName 5))
    (mSeq (mSet (mCall g_law_draw 2 (mSrc 1 (mCons (mC (.int 4)) mNil))) (gdName 6))
    (mSeq (mSet (mL (mComp (mItems (mVarQ 5)) (gdName 13) [13] (mT (m2 fGe (mCall g_law_draw 2 (mSrc 1 (mCons (mC (.int 8)) mNil))) (mVarQ 6))) (mVar 13))) (gdName 7))
    (mSeq (mSet (mL (mComp (mItems (mVarQ 5)) (gdName 13) [13] (mT (m2 fGe (mCall g_law_draw 2 (mSrc 1 (mCons (mC (.int 8)) mNil))) (mVarQ 6))) (mVar 13))) (gdName 8))
    (mSeq (mPar 9 10 (mCons (mCall g_law_make 2 (mCons (mVar 3) (mCons (mVar 7) mNil))) (mCons (mCall g_law_make 2 (mCons (mVar 3) (mCons (mVar 8) mNil))) mNil)))
    (mSeq (mSet (m2 fAddS (mC (.str "new")) (mCall g_law_word 2 (mSrc 1 (mCons (mC (.int 3)) mNil)))) (gdName 11))
    (mSeq (mIfS (mT (m2 (fEq true) (mL (mCat (mVarQ 7) (mVarQ 8))) (mL (mLst mNil)))) (mSeq (mSet (mCall g_law_later 4 (mCons (mVar 3) (mCons (mVar 7) (mCons (mVar 8) (mCons (mVar 11) mNil))))) (gdName 12))
    (mIfS (mT (m2 (fEq true) (mCall g_later_grant 3 (mCons (mVar 9) (mCons (mVar 10) (mCons (mVar 11) mNil)))) (mVarQ 12))) (mRet (mC (.bool false))) mNext)) mNext)
    (mIfS (mOr (mT (m2 (fEq true) (mL (mLof (mProp 1 (g_prop 1) (mVar 9)))) (mL (mSorted (mVarQ 7))))) (mT (m2 (fEq true) (mL (mLof (mProp 1 (g_prop 1) (mVar 10)))) (mL (mSorted (mVarQ 8)))))) (mRet (mC (.bool false))) mNext)))))))))
def m_law2 : MS := (mSeq (mFor (mRng1 (mC (.int 5))) (gdName 2) b_law_1)
    (mRet (mC (.bool true))))
/-- some of the entries, drawn by a bound -/
theorem some_draw {os ns : List Str} {es : List Gr} {k : D} {few : Int} {a7 a8 a9 a10 a11 a12 : Sl} {P : List D → Nat → Prop} : ∀ (r acc : List Gr) (n : Nat), acc.length + r.length ≤ 100 → r.length ≤ n → (∀ (l : List Gr) (n' : Nat), l.Sublist r → n ≤ n' + r.length → P ((acc ++ l).map enc) n') →
    compW (gdName 13) (mT (m2 fGe (mCall g_law_draw 2 (mSrc 1 (mCons (mC (.int 8)) mNil))) (mVarQ 6))) (mVar 13) [.no, .src, .dat k, .dat (.list (os.map PyData.str)), .dat (.list (ns.map PyData.str)), .dat (.list (es.map enc)), .dat (.int few), a7, a8, a9, a10, a11, a12, .no] P (r.map enc) (acc.map enc) n
  | [], acc, n, _, _, h => by
    have := h [] n (.refl _) (by simp)
    rw [List.append_nil] at this
    exact this
  | a :: r, acc, n, h1, h2, h => by
    have l100 := line100
    rw [List.length_cons] at h1 h2
    refine ⟨_, rfl, ?_⟩
    walk_at "ev"
    refine draw_at (by decide) (by decide) (by omega) fun c c0 c1 => ⟨_, rfl, _, rfl, ?_⟩
    refine if_cases (fun _ => ?_) fun _ => ?_
    · refine ⟨by rw [List.length_map]; omega, ?_⟩
      have e : acc.map enc ++ [enc a] = (acc ++ [a]).map enc := by rw [List.map_append]; rfl
      rw [e]
      refine some_draw r (acc ++ [a]) _ (by rw [List.length_append, List.length_singleton]; omega) (by omega) fun l n' hl hn => ?_
      rw [List.append_assoc]
      exact h (a :: l) n' (hl.cons_cons a) (by rw [List.length_cons]; omega)
    · exact some_draw r acc _ (by omega) (by omega) fun l n' hl hn => h l n' (hl.cons a) (by rw [List.length_cons]; omega)
def c70_same : MS := (mIfS (mOr (mT (m2 (fEq true) (mL (mLof (mProp 1 (g_prop 1) (mVar 9)))) (mL (mSorted (mVarQ 7))))) (mT (m2 (fEq true) (mL (mLof (mProp 1 (g_prop 1) (mVar 10)))) (mL (mSorted (mVarQ 8)))))) (mRet (mC (.bool false))) mNext)
theorem t70_same {De : DEnds} {os ns : List Str} {es fs ss : List Gr} {k : D} {a6 a11 a12 a13 : Sl} {n : Nat} (h : De.nx [.no, .src, .dat k, .dat (.list (os.map PyData.str)), .dat (.list (ns.map PyData.str)), .dat (.list (es.map enc)), a6, .dat (.list (fs.map enc)), .dat (.list (ss.map enc)), .dat (rolT (sortS os) (sortG fs)), .dat (rolT (sortS os) (sortG ss)), a11, a12, a13] n) : c70_same De [.no, .src, .dat k, .dat (.list (os.map PyData.str)), .dat (.list (ns.map PyData.str)), .dat (.list (es.map enc)), a6, .dat (.list (fs.map enc)), .dat (.list (ss.map enc)), .dat (rolT (sortS os) (sortG fs)), .dat (rolT (sortS os) (sortG ss)), a11, a12, a13] n := by
  unfold c70_same mSorted
  walk_at "ev"
  obtain ⟨s1, s2, s3, s4⟩ := encs_alike fs
  obtain ⟨u1, u2, u3, u4⟩ := encs_alike ss
  refine ⟨_, rfl, _, _, rfl, rfl, _, .inr rfl, _, .inl rfl, s1, s2, s3, s4, ?_⟩
  have e : (fs.map enc).mergeSort (PySem.W.dataLe false id) = (sortG fs).map enc := srt_enc fs
  have e' : (ss.map enc).mergeSort (PySem.W.dataLe false id) = (sortG ss).map enc := srt_enc ss
  rw [e]
  refine ⟨_, eq_self14 (okD_encsL _), _, rfl, iteF_of (by decide) ?_⟩
  refine ⟨_, rfl, _, _, rfl, rfl, _, .inr rfl, _, .inl rfl, u1, u2, u3, u4, ?_⟩
  rw [e']
  exact ⟨_, eq_self14 (okD_encsL _), _, rfl, iteF_of (by decide) h⟩
structure Dr (os ns : List Str) (fs ss : List Gr) (x : Str) : Prop where
  hd : Drawn os ns
  e1 : EntOk os ns fs
  e2 : EntOk os ns ss
  l1 : fs.length ≤ 12
  l2 : ss.length ≤ 12
  lt : ∀ a ∈ fs ++ ss, a.t < big
  hx : nameOk x = true
  new : ∀ s ∈ os ++ ns, s ≠ x
theorem okD_mkG (T : Int) (x g : Str) (l p : Int) : okD (mkG T x g l p) = true := by
  unfold okD mkG
  simp [PyData.plain, PyData.plainAll, PyData.depth, PyData.depthAll]
theorem okD_rs {C1 C2 : List Gr} {T : Int} {x : Str} {out : List Str} : okD (optD (rs C1 C2 T x out)) = true := by
  cases h : rs C1 C2 T x out with
  | none => rfl
  | some v =>
    obtain ⟨d, hd, e⟩ := List.exists_of_findSome?_eq_some h
    obtain ⟨g, _, rfl⟩ := List.mem_map.mp hd
    obtain ⟨l, p, rfl⟩ := lg_some (show lg C1 C2 g (mkG T x g) = some v from e)
    exact okD_mkG _ _ _ _ _
theorem Dr.notin {os ns : List Str} {fs ss : List Gr} {x : Str} (w : Dr os ns fs ss x) {es : List Gr} (h : EntOk os ns es) : x ∉ perT (sortS os) (sortG es) := fun hx => by
  obtain ⟨⟨a, ha, e⟩, _⟩ := mem_perT.mp hx
  have ha := mem_sortG.mp ha
  rcases e with e | e
  · exact w.new a.g (h.gv a ha) e.symm
  · exact w.new a.k (List.mem_append_right _ (h.tk a ha)) e.symm
theorem mx_same {es fs : List Gr} {m m' : Int} (h : ∀ a, a ∈ es ↔ a ∈ fs) (h1 : Mx es m) (h2 : Mx fs m') : m = m' := by
  obtain ⟨a, ha, rfl⟩ := List.mem_map.mp h1.1
  obtain ⟨b, hb, rfl⟩ := List.mem_map.mp h2.1
  have := h1.2 b.t (List.mem_map.mpr ⟨b, (h b).mpr hb, rfl⟩)
  have := h2.2 a.t (List.mem_map.mpr ⟨a, (h a).mp ha, rfl⟩)
  omega
def c70_later : MS := (mSeq (mSet (mCall g_law_later 4 (mCons (mVar 3) (mCons (mVar 7) (mCons (mVar 8) (mCons (mVar 11) mNil))))) (gdName 12))
    (mIfS (mT (m2 (fEq true) (mCall g_later_grant 3 (mCons (mVar 9) (mCons (mVar 10) (mCons (mVar 11) mNil)))) (mVarQ 12))) (mRet (mC (.bool false))) mNext))
theorem t70_later {De : DEnds} {os ns : List Str} {es fs ss : List Gr} {x : Str} {k : D} {a6 a12 a13 : Sl} {n : Nat} (w : Dr os ns fs ss x) (hne : fs ++ ss ≠ []) (h : ∀ a12, De.nx [.no, .src, .dat k, .dat (.list (os.map PyData.str)), .dat (.list (ns.map PyData.str)), .dat (.list (es.map enc)), a6, .dat (.list (fs.map enc)), .dat (.list (ss.map enc)), .dat (rolT (sortS os) (sortG fs)), .dat (rolT (sortS os) (sortG ss)), .dat (.str x), a12, a13] n) : c70_later De [.no, .src, .dat k, .dat (.list (os.map PyData.str)), .dat (.list (ns.map PyData.str)), .dat (.list (es.map enc)), a6, .dat (.list (fs.map enc)), .dat (.list (ss.map enc)), .dat (rolT (sortS os) (sortG fs)), .dat (rolT (sortS os) (sortG ss)), .dat (.str x), a12, a13] n := by
  have l1 := w.l1
  have l2 := w.l2
  unfold c70_later
  walk_at "ev"
  refine ⟨os, fs, ss, x, rfl, w.e1.nd, w.e2.nd, by omega, by omega, hne, fun out m u1 mem1 mx1 => ?_⟩
  have r1 := rolOk_drawn w.hd w.e1 (by omega)
  have r2 := rolOk_drawn w.hd w.e2 (by omega)
  have same : ∀ a, a ∈ fs ++ ss ↔ a ∈ sortG fs ++ sortG ss := fun a => by rw [List.mem_append, List.mem_append, mem_sortG, mem_sortG]
  refine ⟨sortS os, sortG fs, sortG ss, x, rfl, r1, r2, ?_, fun a ha => w.lt a ((same a).mpr ha), w.hx, fun ho => w.new x (List.mem_append_left _ (mem_sortS.mp ho)) rfl, w.notin w.e1, w.notin w.e2, fun out' m' u2 mem2 mx2 => ?_⟩
  · intro e
    obtain ⟨a, ha⟩ := List.exists_mem_of_ne_nil _ hne
    have := (same a).mp ha
    rw [e] at this
    cases this
  · have hm : m = m' := mx_same same mx1 mx2
    have ho : out = out' := texts_same u1.nd u2.nd u1.up u2.up fun z => by
      rw [mem1, mem2, List.mem_append, mem_perT, mem_perT]
      constructor
      · rintro ⟨⟨a, ha, e⟩, ho⟩
        rcases List.mem_append.mp ha with ha | ha
        · exact .inl ⟨⟨a, mem_sortG.mpr ha, e⟩, fun h => ho (mem_sortS.mp h)⟩
        · exact .inr ⟨⟨a, mem_sortG.mpr ha, e⟩, fun h => ho (mem_sortS.mp h)⟩
      · rintro (⟨⟨a, ha, e⟩, ho⟩ | ⟨⟨a, ha, e⟩, ho⟩)
        · exact ⟨⟨a, List.mem_append_left _ (mem_sortG.mp ha), e⟩, fun h => ho (mem_sortS.mpr h)⟩
        · exact ⟨⟨a, List.mem_append_right _ (mem_sortG.mp ha), e⟩, fun h => ho (mem_sortS.mpr h)⟩
    subst hm ho
    exact ⟨_, eq_self14 okD_rs, _, rfl, iteF_of (by decide) (h _)⟩

def ltF : D → Bool := fun d => match dec d with
  | some a => decide (a.t < big)
  | none => false
theorem t70_law {De : DEnds} {a3 a4 a5 a6 a7 a8 a9 a10 a11 a12 a13 : Sl} {k : D} {n : Nat} (hN : 3000 ≤ n) (h : ∀ a3 a4 a5 a6 a7 a8 a9 a10 a11 a12 a13 n', n ≤ n' + 3000 → De.nx [.no, .src, .dat k, a3, a4, a5, a6, a7, a8, a9, a10, a11, a12, a13] n') :
    b_law_1 De [.no, .src, .dat k, a3, a4, a5, a6, a7, a8, a9, a10, a11, a12, a13] n := by
  have l3 : (3000 : Nat) ≤ sizeLine := by rw [sizeLine_eq]; decide
  unfold b_law_1
  generalize hend : (mSeq (mSet (mCall g_law_draw _ _) _) _ : MS) = me
  unfold mComp mItems
  walk_at "ev"
  refine ⟨rfl, by omega, fun os ns n1 hd h1 => ⟨_, rfl, rfl, _, rfl, _, rfl, ?_⟩⟩
  refine ⟨os, ns, 12, rfl, hd, by decide, by decide, by omega, fun gs n2 he hg h2 => ⟨_, rfl, ?_⟩⟩
  refine comp_pure ltF id _ _ (fun d hd => ⟨_, rfl, fun Q q => ?_⟩) (fun d hd ρ1 e _ Q q => ?_) ?_ ?_
  · obtain ⟨a, _, rfl⟩ := List.mem_map.mp hd
    have q' : Q (decide (a.t < big)) n2 := q
    show mT _ [.no, .src, .dat k, .dat (.list (os.map PyData.str)), .dat (.list (ns.map PyData.str)), a5, a6, a7, a8, a9, a10, a11, a12, .dat (enc a)] n2 Q nvr
    walk_at "ev"
    refine ⟨_, ix0 _ _, by omega, ?_⟩
    rw [pow30]
    exact ⟨_, rfl, _, rfl, q'⟩
  · cases e
    exact ⟨_, rfl, q⟩
  · rw [List.length_nil, List.length_map]; omega
  rw [List.nil_append, List.map_id, List.filter_map]
  have hf : gs.filter (ltF ∘ enc) = gs.filter fun a => decide (a.t < big) := rfl
  rw [hf]
  generalize he2 : (gs.filter fun a => decide (a.t < big)) = es
  have sg : es.Sublist gs := by rw [← he2]; exact List.filter_sublist
  have hlt : ∀ a ∈ es, a.t < big := fun a ha => by
    rw [← he2] at ha
    exact of_decide_eq_true (List.mem_filter.mp ha).2
  have el : es.length ≤ 12 := by have := sg.length_le; omega
  have entry : ∀ {l : List Gr}, l.Sublist es → EntOk os ns l := fun hl => by
    have sl := hl.trans sg
    exact ⟨fun a ha => he.ok a (sl.subset ha), fun a ha => he.tk a (sl.subset ha), fun a ha => he.gv a (sl.subset ha), he.nd.sublist sl⟩
  show me De [.no, .src, .dat k, .dat (.list (os.map PyData.str)), .dat (.list (ns.map PyData.str)), .dat (.list (es.map enc)), a6, a7, a8, a9, a10, a11, a12, a13] n2
  subst hend
  generalize hend : (mSeq (mPar _ _ _) _ : MS) = me
  unfold mComp mItems
  walk_at "ev"
  refine draw_at (by decide) (by decide) (by omega) fun few w0 w1 => ?_
  refine some_draw es [] _ (by simp; omega) (by omega) fun fs n3 s1 h3 => ?_
  refine some_draw es [] _ (by simp; omega) (by omega) fun ss n4 s2 h4 => ?_
  show me De [.no, .src, .dat k, .dat (.list (os.map PyData.str)), .dat (.list (ns.map PyData.str)), .dat (.list (es.map enc)), .dat (.int few), .dat (.list (fs.map enc)), .dat (.list (ss.map enc)), a9, a10, a11, a12, a13] n4
  subst hend
  generalize hend : (mSeq (mIfS _ _ _) _ : MS) = me
  walk_at "ev"
  have k1 := s1.length_le
  have k2 := s2.length_le
  refine make_drawn hd (entry s1) (by omega) (make_drawn hd (entry s2) (by omega) ?_)
  refine ⟨_, _, rfl, word_in (k := 3) rfl (by decide) (by decide) (by omega) fun u hu hu' => ?_⟩
  obtain ⟨x1, x2⟩ := new_ok hu hu'
  refine ⟨_, if_pos (by rw [hu]; show 3 + 3 ≤ _; omega), ?_⟩
  generalize hxx : (("new" : Str) ++ u) = x at x1 x2
  have w : Dr os ns fs ss x := ⟨hd, entry s1, entry s2, by omega, by omega, fun a ha => by
    rcases List.mem_append.mp ha with ha | ha
    · exact hlt a (s1.subset ha)
    · exact hlt a (s2.subset ha), x1, fun s hs => x2 s (hd.nm s hs)⟩
  show me De [.no, .src, .dat k, .dat (.list (os.map PyData.str)), .dat (.list (ns.map PyData.str)), .dat (.list (es.map enc)), .dat (.int few), .dat (.list (fs.map enc)), .dat (.list (ss.map enc)), .dat (rolT (sortS os) (sortG fs)), .dat (rolT (sortS os) (sortG ss)), .dat (.str x), a12, a13] (n4 - 3)
  subst hend
  have fin : ∀ a12, c70_same De [.no, .src, .dat k, .dat (.list (os.map PyData.str)), .dat (.list (ns.map PyData.str)), .dat (.list (es.map enc)), .dat (.int few), .dat (.list (fs.map enc)), .dat (.list (ss.map enc)), .dat (rolT (sortS os) (sortG fs)), .dat (rolT (sortS os) (sortG ss)), .dat (.str x), a12, a13] (n4 - 3) := fun a12 => t70_same (h _ _ _ _ _ _ _ _ _ _ _ _ (by omega))
  show (mSeq (mIfS _ c70_later mNext) c70_same) De [.no, .src, .dat k, .dat (.list (os.map PyData.str)), .dat (.list (ns.map PyData.str)), .dat (.list (es.map enc)), .dat (.int few), .dat (.list (fs.map enc)), .dat (.list (ss.map enc)), .dat (rolT (sortS os) (sortG fs)), .dat (rolT (sortS os) (sortG ss)), .dat (.str x), a12, a13] (n4 - 3)
  walk_at "ev"
  refine ⟨by rw [List.length_map, List.length_map]; omega, ?_⟩
  rw [← List.map_append]
  refine ⟨Nat.zero_le _, _, if_pos ⟨okD_encsL _, rfl⟩, ?_⟩
  rw [if_pos rfl, eqv_nilL]
  refine ⟨_, rfl, ?_⟩
  by_cases hne : fs ++ ss = []
  · refine iteF_of (by rw [hne]; decide) (fin _)
  · refine iteT_of (by cases hz : fs ++ ss with | nil => exact absurd hz hne | cons a r => rfl) (t70_later w hne fun a12 => fin a12)
theorem pr_law2 {P : PD} {R : PX} {n : Nat} (hn : 2000000 ≤ n) (h : ∀ n', P (.bool true) n') : m_law2 (ends P R) ([.no, .src] ++ List.replicate 12 .no) n := by
  unfold m_law2 mFor mRng1
  walk_at "ev"
  refine ⟨by decide, ?_⟩
  refine for_inv5 (fun i ρ n' => 2000000 ≤ n' + 3000 * i ∧ ∃ a2 a3 a4 a5 a6 a7 a8 a9 a10 a11 a12 a13, ρ = [.no, .src, a2, a3, a4, a5, a6, a7, a8, a9, a10, a11, a12, a13]) (rngD 0 (Int.toNat 5)) (fun i d ρ n' X hd q hX => ?_) ⟨by omega, _, _, _, _, _, _, _, _, _, _, _, _, rfl⟩ (fun ρ n' _ => h n')
  obtain ⟨hn', a2, a3, a4, a5, a6, a7, a8, a9, a10, a11, a12, a13, e⟩ := q
  subst e
  have hi : i < 5 := by
    have := (List.getElem?_eq_some_iff.mp hd).1
    simpa [rngD] using this
  exact ⟨_, rfl, t70_law (by omega) fun a3 a4 a5 a6 a7 a8 a9 a10 a11 a12 a13 n2 h2 => hX _ n2 ⟨by omega, _, _, _, _, _, _, _, _, _, _, _, _, rfl⟩⟩
end DS

/-! Law k70_small_later_grants: the defs' derivations and the end. -/
namespace DS
open PySem L2
def top (i : Nat) : Stmt := PySem.Challenge.pw_grantroll_k70_small_later_grants.main.body.getD i (.Pass ⟨0, 0, 0, 0⟩)
abbrev s_is_whole : Stmt := top 12
abbrev s_is_within : Stmt := top 13
abbrev s_is_time : Stmt := top 14
abbrev s_is_name : Stmt := top 15
abbrev s_need_name : Stmt := top 16
abbrev s_grant_error : Stmt := top 26
abbrev s_backs : Stmt := top 27
abbrev s_owners_error : Stmt := top 37
abbrev s_grants_error : Stmt := top 38
abbrev s_persons_in : Stmt := top 39
abbrev s_need_same_owners : Stmt := top 42
abbrev s_counts_beside : Stmt := top 44
abbrev s_counting_among : Stmt := top 45
abbrev s_counting_grants : Stmt := top 46
abbrev s_covers : Stmt := top 48
abbrev s_is_to : Stmt := top 49
abbrev s_top_powers : Stmt := top 50
abbrev s_later_grant : Stmt := top 52
abbrev s_time_after : Stmt := top 53
abbrev s_least_difference : Stmt := top 54
abbrev s_has_one : Stmt := top 55
abbrev s_law_source : Stmt := top 57
abbrev s_law_draw : Stmt := top 58
abbrev s_law_pick : Stmt := top 59
abbrev s_law_shuffle : Stmt := top 60
abbrev s_law_word : Stmt := top 61
abbrev s_law_owners_and_names : Stmt := top 62
abbrev s_law_entries : Stmt := top 63
abbrev s_law_make : Stmt := top 64
abbrev s_law_is_support : Stmt := top 65
abbrev s_law_counting : Stmt := top 66
abbrev s_law_is_one : Stmt := top 67
abbrev s_law_later : Stmt := top 68
abbrev s_law : Stmt := top 69
theorem sc_is_whole : FnScope N_is_whole ["value"] (defScope s_is_whole) := ⟨rfl, rfl, rfl, by decide +kernel, rfl, by decide +kernel, by decide +kernel⟩
theorem sc_is_within : FnScope N_is_within ["value", "least", "most"] (defScope s_is_within) := ⟨rfl, rfl, rfl, by decide +kernel, rfl, by decide +kernel, by decide +kernel⟩
theorem sc_is_time : FnScope N_is_time ["value"] (defScope s_is_time) := ⟨rfl, rfl, rfl, by decide +kernel, rfl, by decide +kernel, by decide +kernel⟩
theorem sc_is_name : FnScope N_is_name ["value"] (defScope s_is_name) := ⟨rfl, rfl, rfl, by decide +kernel, rfl, by decide +kernel, by decide +kernel⟩
theorem sc_need_name : FnScope N_need_name ["value"] (defScope s_need_name) := ⟨rfl, rfl, rfl, by decide +kernel, rfl, by decide +kernel, by decide +kernel⟩
theorem sc_grant_error : FnScope N_grant_error ["value"] (defScope s_grant_error) := ⟨rfl, rfl, rfl, by decide +kernel, rfl, by decide +kernel, by decide +kernel⟩
theorem sc_backs : FnScope N_backs ["first", "second"] (defScope s_backs) := ⟨rfl, rfl, rfl, by decide +kernel, rfl, by decide +kernel, by decide +kernel⟩
theorem sc_owners_error : FnScope N_owners_error ["owners"] (defScope s_owners_error) := ⟨rfl, rfl, rfl, by decide +kernel, rfl, by decide +kernel, by decide +kernel⟩
theorem sc_grants_error : FnScope N_grants_error ["owners", "grants"] (defScope s_grants_error) := ⟨rfl, rfl, rfl, by decide +kernel, rfl, by decide +kernel, by decide +kernel⟩
theorem sc_persons_in : FnScope N_persons_in ["owners", "grants"] (defScope s_persons_in) := ⟨rfl, rfl, rfl, by decide +kernel, rfl, by decide +kernel, by decide +kernel⟩
theorem sc_need_same_owners : FnScope N_need_same_owners ["one", "other"] (defScope s_need_same_owners) := ⟨rfl, rfl, rfl, by decide +kernel, rfl, by decide +kernel, by decide +kernel⟩
theorem sc_counts_beside : FnScope N_counts_beside ["owners", "held", "grant"] (defScope s_counts_beside) := ⟨rfl, rfl, rfl, by decide +kernel, rfl, by decide +kernel, by decide +kernel⟩
theorem sc_counting_among : FnScope N_counting_among ["owners", "grants"] (defScope s_counting_among) := ⟨rfl, rfl, rfl, by decide +kernel, rfl, by decide +kernel, by decide +kernel⟩
theorem sc_counting_grants : FnScope N_counting_grants ["roll"] (defScope s_counting_grants) := ⟨rfl, rfl, rfl, by decide +kernel, rfl, by decide +kernel, by decide +kernel⟩
theorem sc_covers : FnScope N_covers ["power", "other"] (defScope s_covers) := ⟨rfl, rfl, rfl, by decide +kernel, rfl, by decide +kernel, by decide +kernel⟩
theorem sc_is_to : FnScope N_is_to ["grant", "name", "at"] (defScope s_is_to) := ⟨rfl, rfl, rfl, by decide +kernel, rfl, by decide +kernel, by decide +kernel⟩
theorem sc_top_powers : FnScope N_top_powers ["held", "name", "at"] (defScope s_top_powers) := ⟨rfl, rfl, rfl, by decide +kernel, rfl, by decide +kernel, by decide +kernel⟩
theorem sc_later_grant : FnScope N_later_grant ["one", "other", "name"] (defScope s_later_grant) := ⟨rfl, rfl, rfl, by decide +kernel, rfl, by decide +kernel, by decide +kernel⟩
theorem sc_time_after : FnScope N_time_after ["one", "other"] (defScope s_time_after) := ⟨rfl, rfl, rfl, by decide +kernel, rfl, by decide +kernel, by decide +kernel⟩
theorem sc_least_difference : FnScope N_least_difference ["powers", "others"] (defScope s_least_difference) := ⟨rfl, rfl, rfl, by decide +kernel, rfl, by decide +kernel, by decide +kernel⟩
theorem sc_has_one : FnScope N_has_one ["powers", "needed"] (defScope s_has_one) := ⟨rfl, rfl, rfl, by decide +kernel, rfl, by decide +kernel, by decide +kernel⟩
def N_law_source : List Str := ["script", "cells", "k"]
theorem sc_law_source : FnScope N_law_source ["script"] (defScope s_law_source) := ⟨rfl, rfl, rfl, by decide +kernel, rfl, by decide +kernel, by decide +kernel⟩
def N_law_draw : List Str := ["source", "limit", "cells", "turn", "place", "cell", "number", "other"]
theorem sc_law_draw : FnScope N_law_draw ["source", "limit"] (defScope s_law_draw) := ⟨rfl, rfl, rfl, by decide +kernel, rfl, by decide +kernel, by decide +kernel⟩
theorem sc_law_pick : FnScope N_law_pick ["source", "values"] (defScope s_law_pick) := ⟨rfl, rfl, rfl, by decide +kernel, rfl, by decide +kernel, by decide +kernel⟩
theorem sc_law_shuffle : FnScope N_law_shuffle ["source", "values"] (defScope s_law_shuffle) := ⟨rfl, rfl, rfl, by decide +kernel, rfl, by decide +kernel, by decide +kernel⟩
theorem sc_law_word : FnScope N_law_word ["source", "size"] (defScope s_law_word) := ⟨rfl, rfl, rfl, by decide +kernel, rfl, by decide +kernel, by decide +kernel⟩
theorem sc_law_owners_and_names : FnScope N_law_owners_and_names ["source"] (defScope s_law_owners_and_names) := ⟨rfl, rfl, rfl, by decide +kernel, rfl, by decide +kernel, by decide +kernel⟩
theorem sc_law_entries : FnScope N_law_entries ["source", "owners", "names", "most"] (defScope s_law_entries) := ⟨rfl, rfl, rfl, by decide +kernel, rfl, by decide +kernel, by decide +kernel⟩
theorem sc_law_make : FnScope N_law_make ["owners", "entries"] (defScope s_law_make) := ⟨rfl, rfl, rfl, by decide +kernel, rfl, by decide +kernel, by decide +kernel⟩
theorem sc_law_is_support : FnScope N_law_is_support ["first", "second"] (defScope s_law_is_support) := ⟨rfl, rfl, rfl, by decide +kernel, rfl, by decide +kernel, by decide +kernel⟩
theorem sc_law_counting : FnScope N_law_counting ["owners", "entries"] (defScope s_law_counting) := ⟨rfl, rfl, rfl, by decide +kernel, rfl, by decide +kernel, by decide +kernel⟩
theorem sc_law_is_one : FnScope N_law_is_one ["counting", "entry"] (defScope s_law_is_one) := ⟨rfl, rfl, rfl, by decide +kernel, rfl, by decide +kernel, by decide +kernel⟩
theorem sc_law_later : FnScope N_law_later ["owners", "firsts", "seconds", "name"] (defScope s_law_later) := ⟨rfl, rfl, rfl, by decide +kernel, rfl, by decide +kernel, by decide +kernel⟩
theorem sc_law : FnScope N_law ["script"] (defScope s_law) := ⟨rfl, rfl, rfl, by decide +kernel, rfl, by decide +kernel, by decide +kernel⟩
def inner (s : Stmt) (j : Nat) : Stmt := match s with
  | .ClassDef _ _ _ b _ _ _ _ _ _ _ => b.getD j (.Pass ⟨0, 0, 0, 0⟩)
  | _ => .Pass ⟨0, 0, 0, 0⟩
abbrev s_InvalidRoll_init : Stmt := inner (top 6) 0
abbrev s_init : Stmt := inner (top 36) 1
def N_init : List Str := ["self", "grants", "owners", "reason"]
theorem sc_init : FnScope N_init ((([("self" : Str)] ++ [("grants" : Str)]) ++ [("owners" : Str)])) (defScope s_init) := ⟨rfl, rfl, rfl, by decide +kernel, rfl, by decide +kernel, by decide +kernel⟩
theorem bind_init (kV doc pm : Value) (an : Option Addr) (cdv ct : Value) (us rest ws : List Value) (h1 : us.length = [("self" : Str)].length) (h2 : ws.length = [("grants" : Str)].length) :
    bindArgs (PySem.W.fnOf "__init__" "Roll.__init__" (defArgs s_init) (defBody s_init) (defScope s_init) .none kV doc pm an cdv ct) ⟨us ++ rest, (["grants"] : List Str).zip ws⟩ = (newTuple rest >>= fun t => pure (([("self" : Str)].zip us ++ [("grants" : Str)].zip ws) ++ [(("owners" : Str), t)])) :=
  StK.bind_starK1 (p1 := "self") (k1 := "grants") (pv := "owners") (B := fun l k => bindArgs (PySem.W.fnOf "__init__" "Roll.__init__" (defArgs s_init) (defBody s_init) (defScope s_init) .none kV doc pm an cdv ct) ⟨l, k⟩) (fun a v => by rfl) (fun a v r rs => by rfl) us rest ws h1 h2

abbrev s_p_owners : Stmt := inner (top 36) 2
theorem sc_p_owners : FnScope N_prop ["self"] (defScope s_p_owners) := ⟨rfl, rfl, rfl, by decide +kernel, rfl, by decide +kernel, by decide +kernel⟩
abbrev s_p_grants : Stmt := inner (top 36) 3
theorem sc_p_grants : FnScope N_prop ["self"] (defScope s_p_grants) := ⟨rfl, rfl, rfl, by decide +kernel, rfl, by decide +kernel, by decide +kernel⟩
abbrev s_p_persons : Stmt := inner (top 36) 4
theorem sc_p_persons : FnScope N_prop ["self"] (defScope s_p_persons) := ⟨rfl, rfl, rfl, by decide +kernel, rfl, by decide +kernel, by decide +kernel⟩
/-- what the top has left -/
structure Txt (P : Program) (K : Fg) (mg : Str → Option Value) where
  a_is_whole : Addr
  d_is_whole : FuncData
  f_is_whole : Fun K "is_whole" "is_whole" s_is_whole a_is_whole d_is_whole
  m_is_whole : mg "is_whole" = some (.ref a_is_whole)
  b_is_whole : Binds K d_is_whole ["value"] []
  a_is_within : Addr
  d_is_within : FuncData
  f_is_within : Fun K "is_within" "is_within" s_is_within a_is_within d_is_within
  m_is_within : mg "is_within" = some (.ref a_is_within)
  b_is_within : Binds K d_is_within ["value", "least", "most"] []
  a_is_time : Addr
  d_is_time : FuncData
  f_is_time : Fun K "is_time" "is_time" s_is_time a_is_time d_is_time
  m_is_time : mg "is_time" = some (.ref a_is_time)
  b_is_time : Binds K d_is_time ["value"] []
  a_is_name : Addr
  d_is_name : FuncData
  f_is_name : Fun K "is_name" "is_name" s_is_name a_is_name d_is_name
  m_is_name : mg "is_name" = some (.ref a_is_name)
  b_is_name : Binds K d_is_name ["value"] []
  a_need_name : Addr
  d_need_name : FuncData
  f_need_name : Fun K "need_name" "need_name" s_need_name a_need_name d_need_name
  m_need_name : mg "need_name" = some (.ref a_need_name)
  b_need_name : Binds K d_need_name ["value"] []
  a_grant_error : Addr
  d_grant_error : FuncData
  f_grant_error : Fun K "grant_error" "grant_error" s_grant_error a_grant_error d_grant_error
  m_grant_error : mg "grant_error" = some (.ref a_grant_error)
  b_grant_error : Binds K d_grant_error ["value"] []
  a_backs : Addr
  d_backs : FuncData
  f_backs : Fun K "backs" "backs" s_backs a_backs d_backs
  m_backs : mg "backs" = some (.ref a_backs)
  b_backs : Binds K d_backs ["first", "second"] []
  a_owners_error : Addr
  d_owners_error : FuncData
  f_owners_error : Fun K "owners_error" "owners_error" s_owners_error a_owners_error d_owners_error
  m_owners_error : mg "owners_error" = some (.ref a_owners_error)
  b_owners_error : Binds K d_owners_error ["owners"] []
  a_grants_error : Addr
  d_grants_error : FuncData
  f_grants_error : Fun K "grants_error" "grants_error" s_grants_error a_grants_error d_grants_error
  m_grants_error : mg "grants_error" = some (.ref a_grants_error)
  b_grants_error : Binds K d_grants_error ["owners", "grants"] []
  a_persons_in : Addr
  d_persons_in : FuncData
  f_persons_in : Fun K "persons_in" "persons_in" s_persons_in a_persons_in d_persons_in
  m_persons_in : mg "persons_in" = some (.ref a_persons_in)
  b_persons_in : Binds K d_persons_in ["owners", "grants"] []
  a_need_same_owners : Addr
  d_need_same_owners : FuncData
  f_need_same_owners : Fun K "need_same_owners" "need_same_owners" s_need_same_owners a_need_same_owners d_need_same_owners
  m_need_same_owners : mg "need_same_owners" = some (.ref a_need_same_owners)
  b_need_same_owners : Binds K d_need_same_owners ["one", "other"] []
  a_counts_beside : Addr
  d_counts_beside : FuncData
  f_counts_beside : Fun K "counts_beside" "counts_beside" s_counts_beside a_counts_beside d_counts_beside
  m_counts_beside : mg "counts_beside" = some (.ref a_counts_beside)
  b_counts_beside : Binds K d_counts_beside ["owners", "held", "grant"] []
  a_counting_among : Addr
  d_counting_among : FuncData
  f_counting_among : Fun K "counting_among" "counting_among" s_counting_among a_counting_among d_counting_among
  m_counting_among : mg "counting_among" = some (.ref a_counting_among)
  b_counting_among : Binds K d_counting_among ["owners", "grants"] []
  a_counting_grants : Addr
  d_counting_grants : FuncData
  f_counting_grants : Fun K "counting_grants" "counting_grants" s_counting_grants a_counting_grants d_counting_grants
  m_counting_grants : mg "counting_grants" = some (.ref a_counting_grants)
  b_counting_grants : Binds K d_counting_grants ["roll"] []
  a_covers : Addr
  d_covers : FuncData
  f_covers : Fun K "covers" "covers" s_covers a_covers d_covers
  m_covers : mg "covers" = some (.ref a_covers)
  b_covers : Binds K d_covers ["power", "other"] []
  a_is_to : Addr
  d_is_to : FuncData
  f_is_to : Fun K "is_to" "is_to" s_is_to a_is_to d_is_to
  m_is_to : mg "is_to" = some (.ref a_is_to)
  b_is_to : Binds K d_is_to ["grant", "name", "at"] []
  a_top_powers : Addr
  d_top_powers : FuncData
  f_top_powers : Fun K "top_powers" "top_powers" s_top_powers a_top_powers d_top_powers
  m_top_powers : mg "top_powers" = some (.ref a_top_powers)
  b_top_powers : Binds K d_top_powers ["held", "name", "at"] []
  a_later_grant : Addr
  d_later_grant : FuncData
  f_later_grant : Fun K "later_grant" "later_grant" s_later_grant a_later_grant d_later_grant
  m_later_grant : mg "later_grant" = some (.ref a_later_grant)
  b_later_grant : Binds K d_later_grant ["one", "other", "name"] []
  a_time_after : Addr
  d_time_after : FuncData
  f_time_after : Fun K "time_after" "time_after" s_time_after a_time_after d_time_after
  m_time_after : mg "time_after" = some (.ref a_time_after)
  b_time_after : Binds K d_time_after ["one", "other"] []
  a_least_difference : Addr
  d_least_difference : FuncData
  f_least_difference : Fun K "least_difference" "least_difference" s_least_difference a_least_difference d_least_difference
  m_least_difference : mg "least_difference" = some (.ref a_least_difference)
  b_least_difference : Binds K d_least_difference ["powers", "others"] []
  a_has_one : Addr
  d_has_one : FuncData
  f_has_one : Fun K "has_one" "has_one" s_has_one a_has_one d_has_one
  m_has_one : mg "has_one" = some (.ref a_has_one)
  b_has_one : Binds K d_has_one ["powers", "needed"] []
  a_law_source : Addr
  d_law_source : FuncData
  f_law_source : Fun K "_law_source" "_law_source" s_law_source a_law_source d_law_source
  m_law_source : mg "_law_source" = some (.ref a_law_source)
  b_law_source : Binds K d_law_source ["script"] []
  a_law_draw : Addr
  d_law_draw : FuncData
  f_law_draw : Fun K "_law_draw" "_law_draw" s_law_draw a_law_draw d_law_draw
  m_law_draw : mg "_law_draw" = some (.ref a_law_draw)
  b_law_draw : Binds K d_law_draw ["source", "limit"] []
  a_law_pick : Addr
  d_law_pick : FuncData
  f_law_pick : Fun K "_law_pick" "_law_pick" s_law_pick a_law_pick d_law_pick
  m_law_pick : mg "_law_pick" = some (.ref a_law_pick)
  b_law_pick : Binds K d_law_pick ["source", "values"] []
  a_law_shuffle : Addr
  d_law_shuffle : FuncData
  f_law_shuffle : Fun K "_law_shuffle" "_law_shuffle" s_law_shuffle a_law_shuffle d_law_shuffle
  m_law_shuffle : mg "_law_shuffle" = some (.ref a_law_shuffle)
  b_law_shuffle : Binds K d_law_shuffle ["source", "values"] []
  a_law_word : Addr
  d_law_word : FuncData
  f_law_word : Fun K "_law_word" "_law_word" s_law_word a_law_word d_law_word
  m_law_word : mg "_law_word" = some (.ref a_law_word)
  b_law_word : Binds K d_law_word ["source", "size"] []
  a_law_owners_and_names : Addr
  d_law_owners_and_names : FuncData
  f_law_owners_and_names : Fun K "_law_owners_and_names" "_law_owners_and_names" s_law_owners_and_names a_law_owners_and_names d_law_owners_and_names
  m_law_owners_and_names : mg "_law_owners_and_names" = some (.ref a_law_owners_and_names)
  b_law_owners_and_names : Binds K d_law_owners_and_names ["source"] []
  a_law_entries : Addr
  d_law_entries : FuncData
  f_law_entries : Fun K "_law_entries" "_law_entries" s_law_entries a_law_entries d_law_entries
  m_law_entries : mg "_law_entries" = some (.ref a_law_entries)
  b_law_entries : Binds K d_law_entries ["source", "owners", "names", "most"] []
  a_law_make : Addr
  d_law_make : FuncData
  f_law_make : Fun K "_law_make" "_law_make" s_law_make a_law_make d_law_make
  m_law_make : mg "_law_make" = some (.ref a_law_make)
  b_law_make : Binds K d_law_make ["owners", "entries"] []
  a_law_is_support : Addr
  d_law_is_support : FuncData
  f_law_is_support : Fun K "_law_is_support" "_law_is_support" s_law_is_support a_law_is_support d_law_is_support
  m_law_is_support : mg "_law_is_support" = some (.ref a_law_is_support)
  b_law_is_support : Binds K d_law_is_support ["first", "second"] []
  a_law_counting : Addr
  d_law_counting : FuncData
  f_law_counting : Fun K "_law_counting" "_law_counting" s_law_counting a_law_counting d_law_counting
  m_law_counting : mg "_law_counting" = some (.ref a_law_counting)
  b_law_counting : Binds K d_law_counting ["owners", "entries"] []
  a_law_is_one : Addr
  d_law_is_one : FuncData
  f_law_is_one : Fun K "_law_is_one" "_law_is_one" s_law_is_one a_law_is_one d_law_is_one
  m_law_is_one : mg "_law_is_one" = some (.ref a_law_is_one)
  b_law_is_one : Binds K d_law_is_one ["counting", "entry"] []
  a_law_later : Addr
  d_law_later : FuncData
  f_law_later : Fun K "_law_later" "_law_later" s_law_later a_law_later d_law_later
  m_law_later : mg "_law_later" = some (.ref a_law_later)
  b_law_later : Binds K d_law_later ["owners", "firsts", "seconds", "name"] []
  a_law : Addr
  d_law : FuncData
  f_law : Fun K "law" "law" s_law a_law d_law
  m_law : mg "law" = some (.ref a_law)
  b_law : Binds K d_law ["script"] []
  t_ENTRIES : Tok
  c_ENTRIES : mg "ENTRIES" = some (.int (5) t_ENTRIES)
  t_GIVER : Tok
  c_GIVER : mg "GIVER" = some (.int (1) t_GIVER)
  t_LEAST_LEVEL : Tok
  c_LEAST_LEVEL : mg "LEAST_LEVEL" = some (.int (1) t_LEAST_LEVEL)
  t_LEVEL : Tok
  c_LEVEL : mg "LEVEL" = some (.int (3) t_LEVEL)
  t_MOST_LETTERS : Tok
  c_MOST_LETTERS : mg "MOST_LETTERS" = some (.int (8) t_MOST_LETTERS)
  t_MOST_LEVEL : Tok
  c_MOST_LEVEL : mg "MOST_LEVEL" = some (.int (9) t_MOST_LEVEL)
  t_MOST_OWNERS : Tok
  c_MOST_OWNERS : mg "MOST_OWNERS" = some (.int (4) t_MOST_OWNERS)
  t_MOST_PASSES : Tok
  c_MOST_PASSES : mg "MOST_PASSES" = some (.int (20) t_MOST_PASSES)
  t_MOST_TIME : Tok
  c_MOST_TIME : mg "MOST_TIME" = some (.int (1000000000000000000000000000000) t_MOST_TIME)
  t_TAKER : Tok
  c_TAKER : mg "TAKER" = some (.int (2) t_TAKER)
  t_TIME : Tok
  c_TIME : mg "TIME" = some (.int (0) t_TIME)
  n_ValueError : mg "ValueError" = none
  n_abs : mg "abs" = none
  n_all : mg "all" = none
  n_any : mg "any" = none
  n_bool : mg "bool" = none
  n_enumerate : mg "enumerate" = none
  n_int : mg "int" = none
  n_isinstance : mg "isinstance" = none
  n_len : mg "len" = none
  n_list : mg "list" = none
  n_max : mg "max" = none
  n_min : mg "min" = none
  n_range : mg "range" = none
  n_set : mg "set" = none
  n_sorted : mg "sorted" = none
  n_str : mg "str" = none
  n_super : mg "super" = none
  n_tuple : mg "tuple" = none
  e_InvalidRoll : Addr
  e_OtherOwners : Addr
  e_InvalidName : Addr
  e_InvalidTime : Addr
  e_Roll : Addr
  e_GE : Addr
  m_GrantrollError : mg "GrantrollError" = some (.ref e_GE)
  z_dig : PySem.W.nsIn K cStatics "sys.int_max_str_digits" = some none
  m_InvalidRoll : mg "InvalidRoll" = some (.ref e_InvalidRoll)
  m_OtherOwners : mg "OtherOwners" = some (.ref e_OtherOwners)
  m_InvalidName : mg "InvalidName" = some (.ref e_InvalidName)
  m_InvalidTime : mg "InvalidTime" = some (.ref e_InvalidTime)
  x_InvalidRoll : DX.SxC K P mg e_InvalidRoll "InvalidRoll" "reason"
  p_OtherOwners : PxC K mg e_OtherOwners "OtherOwners"
  p_InvalidName : PxC K mg e_InvalidName "InvalidName"
  p_InvalidTime : PxC K mg e_InvalidTime "InvalidTime"
  q_err : ErrC K (clOf3 [(0, e_InvalidRoll), (6, e_OtherOwners), (7, e_InvalidName), (9, e_InvalidTime), (1, e_Roll)])
  q_over : OverAll K (clOf3 [(0, e_InvalidRoll), (6, e_OtherOwners), (7, e_InvalidName), (9, e_InvalidTime), (1, e_Roll)]) (.ref e_GE)
  i_ValueError : IsC K (clOf3 [(0, e_InvalidRoll), (6, e_OtherOwners), (7, e_InvalidName), (9, e_InvalidTime), (1, e_Roll)]) (.type "ValueError") is_ValueError
  m_Roll : mg "Roll" = some (.ref e_Roll)
  a_Roll : Addr
  d_Roll : FuncData
  f_Roll : FunD K "__init__" "Roll.__init__" (defArgs s_init) (defBody s_init) (defScope s_init) [] [] a_Roll d_Roll
  k_Roll : Mk K e_Roll a_Roll
  o_Roll : ObC K (clOf3 [(0, e_InvalidRoll), (6, e_OtherOwners), (7, e_InvalidName), (9, e_InvalidTime), (1, e_Roll)]) 1
  r_Roll : ClX.CRead K e_Roll (.type "type")
  cls_Roll : Cls K e_Roll
  q_p_owners : Addr
  a_p_owners : Addr
  d_p_owners : FuncData
  f_p_owners : Fun K "owners" "Roll.owners" s_p_owners a_p_owners d_p_owners
  p_owners : PropOf K e_Roll "owners" q_p_owners a_p_owners
  b_p_owners : Binds K d_p_owners ["self"] []
  q_p_grants : Addr
  a_p_grants : Addr
  d_p_grants : FuncData
  f_p_grants : Fun K "grants" "Roll.grants" s_p_grants a_p_grants d_p_grants
  p_grants : PropOf K e_Roll "grants" q_p_grants a_p_grants
  b_p_grants : Binds K d_p_grants ["self"] []
  q_p_persons : Addr
  a_p_persons : Addr
  d_p_persons : FuncData
  f_p_persons : Fun K "persons" "Roll.persons" s_p_persons a_p_persons d_p_persons
  p_persons : PropOf K e_Roll "persons" q_p_persons a_p_persons
  b_p_persons : Binds K d_p_persons ["self"] []
  t_Roll_MOST_GRANTS : Tok
  v_Roll_MOST_GRANTS : ClX.CVal K e_Roll (.type "type") "MOST_GRANTS" (.int 60) (.int 60 t_Roll_MOST_GRANTS)
section
variable {P : Program} {w : World} {K : Fg} {cl : Cl} {mg : Str → Option Value} {base : Heap}
theorem ok_p_owners (T : Txt P K mg) : FnOk P w K mg base (L2.CX P w) 1 T.a_p_owners T.d_p_owners ["self"] (spW K (clOf3 [(0, T.e_InvalidRoll), (6, T.e_OtherOwners), (7, T.e_InvalidName), (9, T.e_InvalidTime), (1, T.e_Roll)]) 1 (g_prop 0)) := by
  refine def_ok (m := m_prop 0) T.f_p_owners sc_p_owners (fun cdv A outer s H B sc E hr => ?_) (pr_prop 0)
  exact (ds_one (ds_ret (de_fld rfl T.o_Roll rfl (de_var 0))))
theorem ok_p_grants (T : Txt P K mg) : FnOk P w K mg base (L2.CX P w) 1 T.a_p_grants T.d_p_grants ["self"] (spW K (clOf3 [(0, T.e_InvalidRoll), (6, T.e_OtherOwners), (7, T.e_InvalidName), (9, T.e_InvalidTime), (1, T.e_Roll)]) 1 (g_prop 1)) := by
  refine def_ok (m := m_prop 1) T.f_p_grants sc_p_grants (fun cdv A outer s H B sc E hr => ?_) (pr_prop 1)
  exact (ds_one (ds_ret (de_fld rfl T.o_Roll rfl (de_var 0))))
theorem ok_p_persons (T : Txt P K mg) : FnOk P w K mg base (L2.CX P w) 1 T.a_p_persons T.d_p_persons ["self"] (spW K (clOf3 [(0, T.e_InvalidRoll), (6, T.e_OtherOwners), (7, T.e_InvalidName), (9, T.e_InvalidTime), (1, T.e_Roll)]) 1 (g_prop 2)) := by
  refine def_ok (m := m_prop 2) T.f_p_persons sc_p_persons (fun cdv A outer s H B sc E hr => ?_) (pr_prop 2)
  exact (ds_one (ds_ret (de_fld rfl T.o_Roll rfl (de_var 0))))
theorem ok_is_whole (T : Txt P K mg) : FnOk P w K mg base (L2.CX P w) 1 T.a_is_whole T.d_is_whole ["value"] (spW K cl 1 g_is_whole) := by
  refine def_ok (m := m_is_whole) T.f_is_whole sc_is_whole (fun cdv A outer s H B sc E hr => ?_) pr_is_whole
  have hx : Passes (L2.CX P w) (cxOf (L2.CX P w) P w K mg base N_is_whole "is_whole" (defScope s_is_whole) T.a_is_whole cdv A outer s H E) E := passes_call (takes_of rfl rfl rfl rfl) (fun _ _ _ _ h => h)
  exact (ds_one (ds_ret (de_and (de_is rfl rfl T.n_isinstance (qe_var 0) (pe_bltn (v := .ty "int") rfl T.n_int (by decide +kernel) rfl)) (de_one (de_not (de_is rfl rfl T.n_isinstance (qe_var 0) (pe_bltn (v := .ty "bool") rfl T.n_bool (by decide +kernel) rfl)))))))
theorem ok_is_name (T : Txt P K mg) : FnOk P w K mg base (L2.CX P w) 1 T.a_is_name T.d_is_name ["value"] (spW K cl 1 g_is_name) := by
  refine def_ok (m := m_is_name) T.f_is_name sc_is_name (fun cdv A outer s H B sc E hr => ?_) pr_is_name
  have hx : Passes (L2.CX P w) (cxOf (L2.CX P w) P w K mg base N_is_name "is_name" (defScope s_is_name) T.a_is_name cdv A outer s H E) E := passes_call (takes_of rfl rfl rfl rfl) (fun _ _ _ _ h => h)
  exact (ds_cons (ds_if (dt_bool (dw_or (dt_not (dt_val (de_is rfl rfl T.n_isinstance (qe_var 0) (pe_bltn (v := .ty "str") rfl T.n_str (by decide +kernel) rfl)))) (dw_or1 (dt_not (dt_chain op_le op_le f_le f_le (qe_of de_int) (qe_of (de_cb1 call_len f_len rfl T.n_len (by decide +kernel) (qe_var 0))) (qe_of (de_c (v := .int (8)) (pe_glob rfl T.c_MOST_LETTERS ⟨_, rfl⟩) fun _ => .int _))))))) (ds_one (ds_ret de_bl)) ds_nil)
    (ds_one (ds_ret (de_cb1 (cr_all rfl) f_all rfl T.n_all (by decide +kernel) (qe_ofL (le_comp (own := [("letter", 1)]) rfl sc_is_name.nd (iq_of (ie_str (de_var 0))) (blkOk_by (N := N_is_name) (sc := defScope s_is_name) (by decide +kernel)) (g_name 1) (gin_name (by decide)) (fun _ _ _ _ _ => (pg_name (i := 1) sc_is_name.nd rfl (Or.inl rfl))) (fun _ _ _ _ _ => dts_nil) (fun _ _ _ _ _ => (qe_chain op_le_str op_le_str f_leS f_leS (qe_of de_str) (qe_var 1) (qe_of de_str)))))))))
theorem ok_backs (T : Txt P K mg) : FnOk P w K mg base (L2.CX P w) 1 T.a_backs T.d_backs ["first", "second"] (spW K cl 2 g_backs) := by
  refine def_ok (m := m_backs) T.f_backs sc_backs (fun cdv A outer s H B sc E hr => ?_) pr_backs
  have hx : Passes (L2.CX P w) (cxOf (L2.CX P w) P w K mg base N_backs "backs" (defScope s_backs) T.a_backs cdv A outer s H E) E := passes_call (takes_of rfl rfl rfl rfl) (fun _ _ _ _ h => h)
  exact (ds_cons (ds_asg (g_tup [2, 3, 4, 5, 6]) (de_var 0) (pg_tup rfl (pgs_cons (pg_name (i := 2) sc_backs.nd rfl (Or.inl rfl)) (pgs_cons (pg_name (i := 3) sc_backs.nd rfl (Or.inl rfl)) (pgs_cons (pg_name (i := 4) sc_backs.nd rfl (Or.inl rfl)) (pgs_cons (pg_name (i := 5) sc_backs.nd rfl (Or.inl rfl)) (pgs_cons (pg_name (i := 6) sc_backs.nd rfl (Or.inl rfl)) pgs_nil)))))))
    (ds_cons (ds_asg (g_tup [7, 8, 3, 9, 10]) (de_var 1) (pg_tup rfl (pgs_cons (pg_name (i := 7) sc_backs.nd rfl (Or.inl rfl)) (pgs_cons (pg_name (i := 8) sc_backs.nd rfl (Or.inl rfl)) (pgs_cons (pg_name (i := 3) sc_backs.nd rfl (Or.inl rfl)) (pgs_cons (pg_name (i := 9) sc_backs.nd rfl (Or.inl rfl)) (pgs_cons (pg_name (i := 10) sc_backs.nd rfl (Or.inl rfl)) pgs_nil)))))))
    (ds_one (ds_ret (de_and (de_cmp (op_eqA (DS.hu64 hr)) (f_eq false) (qe_var 4) (qe_var 8) (nomark _)) (de_and (de_cmp op_lt f_lt (qe_var 2) (qe_var 7) (nomark _)) (de_and (de_cmp op_ge f_ge (qe_var 5) (qe_var 9) (nomark _)) (de_one (de_cmp op_gt f_gt (qe_var 6) (qe_var 10) (nomark _))))))))))
theorem ok_persons_in (T : Txt P K mg) : FnOk P w K mg base (L2.CX P w) 1 T.a_persons_in T.d_persons_in ["owners", "grants"] (spW K cl 2 g_persons_in) := by
  refine def_ok (m := m_persons_in) T.f_persons_in sc_persons_in (fun cdv A outer s H B sc E hr => ?_) pr_persons_in
  have hx : Passes (L2.CX P w) (cxOf (L2.CX P w) P w K mg base N_persons_in "persons_in" (defScope s_persons_in) T.a_persons_in cdv A outer s H E) E := passes_call (takes_of rfl rfl rfl rfl) (fun _ _ _ _ h => h)
  exact (ds_cons (ds_dnewK (i := 2) sc_persons_in.nd rfl (Or.inl rfl))
    (ds_cons (ds_for (passes_of rfl) rfl (g_name 3) ((ie_tup rfl (de_var 1))) (pg_name (i := 3) sc_persons_in.nd rfl (Or.inl rfl))
      (ds_cons (ds_dput (i := 2) (hu1 hr) de_bl (de_ix rfl (qe_var 3) (qe_of (de_c (v := .int (1)) (pe_glob rfl T.c_GIVER ⟨_, rfl⟩) fun _ => .int _)) (fun _ _ => rfl)))
    (ds_one (ds_dput (i := 2) (hu1 hr) de_bl (de_ix rfl (qe_var 3) (qe_of (de_c (v := .int (2)) (pe_glob rfl T.c_TAKER ⟨_, rfl⟩) fun _ => .int _)) (fun _ _ => rfl))))))
    (ds_one (ds_ret (de_tupleOf rfl T.n_tuple (by decide +kernel) (qe_ofL (le_sorted (DS.hu70 hr) rfl T.n_sorted (by decide +kernel) (qe_ofL (le_lock 2 (le_comp (own := [("name", 4)]) rfl sc_persons_in.nd (iq_keys 2) (blkOk_by (N := N_persons_in) (sc := defScope s_persons_in) (by decide +kernel)) (g_name 4) (gin_name (by decide)) (fun _ _ _ _ _ => (pg_name (i := 4) sc_persons_in.nd rfl (Or.inl rfl))) (fun _ _ _ _ _ => (dts_one (dt_cmp (op_notInA (DS.hu65 hr)) (f_in true) (qe_var 4) (qe_var 0) rfl))) (fun _ _ _ _ _ => (de_var 4))))))))))))
theorem ok_covers (T : Txt P K mg) : FnOk P w K mg base (L2.CX P w) 1 T.a_covers T.d_covers ["power", "other"] (spW K cl 2 g_covers) := by
  refine def_ok (m := m_covers) T.f_covers sc_covers (fun cdv A outer s H B sc E hr => ?_) pr_covers
  have hx : Passes (L2.CX P w) (cxOf (L2.CX P w) P w K mg base N_covers "covers" (defScope s_covers) T.a_covers cdv A outer s H E) E := passes_call (takes_of rfl rfl rfl rfl) (fun _ _ _ _ h => h)
  exact (ds_one (ds_ret (de_and (de_cmp op_ge f_ge (qe_of (de_ix rfl (qe_var 0) (qe_of de_int) (fun _ _ => rfl))) (qe_of (de_ix rfl (qe_var 1) (qe_of de_int) (fun _ _ => rfl))) (nomark _)) (de_one (de_cmp op_ge f_ge (qe_of (de_ix rfl (qe_var 0) (qe_of de_int) (fun _ _ => rfl))) (qe_of (de_ix rfl (qe_var 1) (qe_of de_int) (fun _ _ => rfl))) (nomark _))))))
theorem ok_is_to (T : Txt P K mg) : FnOk P w K mg base (L2.CX P w) 1 T.a_is_to T.d_is_to ["grant", "name", "at"] (spW K cl 3 g_is_to) := by
  refine def_ok (m := m_is_to) T.f_is_to sc_is_to (fun cdv A outer s H B sc E hr => ?_) pr_is_to
  have hx : Passes (L2.CX P w) (cxOf (L2.CX P w) P w K mg base N_is_to "is_to" (defScope s_is_to) T.a_is_to cdv A outer s H E) E := passes_call (takes_of rfl rfl rfl rfl) (fun _ _ _ _ h => h)
  exact (ds_one (ds_ret (de_and (de_cmp (op_eqA (DS.hu64 hr)) (f_eq false) (qe_of (de_ix rfl (qe_var 0) (qe_of (de_c (v := .int (2)) (pe_glob rfl T.c_TAKER ⟨_, rfl⟩) fun _ => .int _)) (fun _ _ => rfl))) (qe_var 1) (nomark _)) (de_one (de_or (de_cmp op_isN f_isN (qe_var 2) (qe_of de_non) (nomark _)) (de_one (de_cmp op_le f_le (qe_of (de_ix rfl (qe_var 0) (qe_of (de_c (v := .int (0)) (pe_glob rfl T.c_TIME ⟨_, rfl⟩) fun _ => .int _)) (fun _ _ => rfl))) (qe_var 2) (nomark _))))))))
theorem ok_law_source (T : Txt P K mg) : FnOk P w K mg base (L2.CX P w) 1 T.a_law_source T.d_law_source ["script"] (spSource K) := by
  refine T.f_law_source.okX sc_law_source (fun vs H Q E ⟨a, ns, e, _⟩ => by rw [e]; rfl) fun cdv A outer s H vs Q E hr ⟨a, ns, e, hs, h63, q⟩ => ?_
  subst e
  refine ⟨_, pss_cons (ps_set (i := 1) sc_law_source.nd rfl (Or.inl rfl) (pe_slice sl_list (pv 0) po_none (po_some pe_int)))
    (pss_cons (ps_for (passes_of rfl) rfl (pi_range1 rfl T.n_range (pa_cons (pe_callB call_len rfl T.n_len (by decide +kernel) (pa_cons (pv 1) pa_nil)) pa_nil)) (pg_name (i := 2) sc_law_source.nd rfl (Or.inl rfl))
        (pss_one (ps_if (pt_cmpR op_ge (pe_callB call_abs rfl T.n_abs (by decide +kernel) (pa_cons (pe_ix ix_list (pv 1) (pv 2) (fun _ _ => rfl)) pa_nil)) (pe_op op_pow pe_int pe_int) (nomark _))
          (pss_one (ps_asg (pe_op op_mod (pe_callTy call_int1 rfl T.n_int (by decide +kernel) (pa_cons (pe_ix ix_list (pv 1) (pv 2) (fun _ _ => rfl)) pa_nil)) (pe_op op_powW (pe_op op_pow pe_int pe_int) pe_int)) (pg_sub (pv 1) (pv 2) set_list))) pss_nil)))
    (pss_cons (ps_if (pt_cmpR (op_eqA (DS.hu64 hr)) (pv 1) (pe_lst pa_nil) (nomark _)) (pss_one (ps_set (i := 1) sc_law_source.nd rfl (Or.inl rfl) (pe_lst (pa_cons pe_int pa_nil)))) pss_nil)
    (pss_one (ps_ret (pe_lst (pa_cons (pv 1) (pa_cons pe_int pa_nil))))))), ?_⟩
  refine ⟨.ref a, rfl, 63, rfl, a, ns.map V.int, rfl, hs, fun p hp => ?_⟩
  rw [cut63 h63]
  refine ⟨.ref p, rfl, .ref p, ns.length, rfl, Or.inl ⟨_, SqL.of upd_same, by simp⟩, ns.length, rfl, by omega, by omega, ?_⟩
  refine ⟨fun i m σ H' => m = ns.length - i ∧ i ≤ ns.length ∧ ∃ (v : Option V) (ms : List Int), σ = [some (.ref a), some (.ref p), v] ∧ H' p = some (.lst (ms.map V.int)) ∧ ms.length = ns.length ∧ okTo ms i,
    ⟨ns.length, by omega, by omega, none, ns, rfl, upd_same, rfl, fun j hj => by omega⟩, ?_⟩
  rintro i m σ H1 ⟨rfl, hi, v, ms, rfl, hp1, hl, hok⟩
  rcases Nat.lt_or_ge i ns.length with hlt | hge
  · refine Or.inr ⟨hlt, fun σ' H' => ∃ (v : Option V) (ms : List Int), σ' = [some (.ref a), some (.ref p), v] ∧ H' p = some (.lst (ms.map V.int)) ∧ ms.length = ns.length ∧ okTo ms (i + 1), fun σ' H' h => ⟨ns.length - (i + 1), by omega, rfl, by omega, h⟩, ?_⟩
    rintro x H2 ⟨rfl, rfl⟩
    obtain ⟨z, hz⟩ : ∃ z, ms[i]? = some z := ⟨ms[i], List.getElem?_eq_getElem (by omega)⟩
    refine ⟨.ref p, rfl, .int _, rfl, p, ms.map V.int, _, .int z, rfl, rfl, SqL.of hp1, atI_nat hz, z, rfl, 10, 18, rfl, rfl, ⟨by decide, by decide, by decide⟩, _, 10 ^ 18, rfl, rfl, _, rfl, ?_⟩
    refine if_cases (fun hb => ?_) fun hb => ?_
    · refine ⟨.ref p, rfl, .int _, rfl, p, ms.map V.int, _, .int z, rfl, rfl, SqL.of hp1, atI_nat hz, Or.inl ⟨z, rfl, 10, 60, rfl, rfl, ⟨by decide, by decide, by decide⟩, 10 ^ 60, 20, rfl, rfl, ⟨by decide, big_bits⟩, z, (10 ^ 60) ^ 20, rfl, rfl, (by decide +kernel : (0 : Int) < (10 ^ 60) ^ 20), ?_⟩⟩
      refine ⟨.ref p, rfl, .int _, rfl, p, ms.map V.int, _, i, rfl, rfl, hp1, ixN_nat (by rw [List.length_map]; omega), ?_⟩
      refine ⟨_, ms.set i (z % (10 ^ 60) ^ 20), rfl, by rw [upd_same, List.map_set], by simpa using hl, okTo_set hok ⟨?_, Int.emod_lt_of_pos _ (by decide +kernel)⟩⟩
      exact Int.lt_of_lt_of_le (by decide) (Int.emod_nonneg z (by decide +kernel))
    · refine ⟨_, ms, rfl, hp1, hl, okTo_next hok fun y hy => ?_⟩
      rw [hz] at hy
      cases hy
      have hb' : ¬ ((10 : Int) ^ 18 ≤ if z < 0 then -z else z) := fun q => hb (decide_eq_true q)
      have hbig : (10 : Int) ^ 18 < (10 ^ 60) ^ 20 := by decide +kernel
      split at hb' <;> exact ⟨by omega, Int.lt_trans (by omega) hbig⟩
  · refine Or.inl ⟨hge, ?_⟩
    have hall : ∀ z ∈ ms, cellOk z := fun z hz => by
      obtain ⟨j, hj, e⟩ := List.mem_iff_getElem.1 hz
      exact hok j (by omega) z (by rw [List.getElem?_eq_getElem hj, e])
    refine ⟨.ref p, rfl, by decide, fun p2 hp2 => ?_⟩
    have ne2 : p ≠ p2 := fun e => by rw [← e, hp1] at hp2; cases hp2
    refine ⟨.list (ms.map .int), .list [], .lst (SqL.of (by rw [upd_ne ne2]; exact hp1)) (dps_ints ms), .lst (SqL.of upd_same) .nil, okD_ints ms, by decide, _, rfl, ?_⟩
    rw [eqv_nil]
    refine if_cases (fun hb => ?_) fun hb => ?_
    · refine ⟨by decide, fun p3 hp3 => ?_⟩
      refine ⟨.ref p3, rfl, two_line, fun p4 hp4 => ?_⟩
      exact q p4 p3 _ fun n hn => src_end (ms := [0]) upd_same (by decide) (by decide) (fun z hz => by simp at hz; subst hz; exact ⟨by decide, by decide +kernel⟩) hp4 n hn
    · refine ⟨.ref p, rfl, two_line, fun p4 hp4 => ?_⟩
      exact q p4 p _ fun n hn => src_end (ms := ms) (by rw [upd_ne ne2]; exact hp1) (fun e => hb (by simp [e])) (by omega) hall hp4 n hn

theorem ok_law_draw (T : Txt P K mg) : FnOk P w K mg base (L2.CX P w) 1 T.a_law_draw T.d_law_draw ["source", "limit"] (spW K cl 2 g_law_draw) := by
  refine T.f_law_draw.okX sc_law_draw (fun vs H Q E ⟨sc, B, n, as, Pp, R, _, _, _, pr, hl, _⟩ => by rw [paired_len pr]; exact hl) fun cdv A outer s H vs Q E hr ⟨sc, B, n, as, Pp, R, sub, nos, src, pr, hl, hg, ox, q⟩ => ?_
  refine ⟨_, pss_cons (ps_asg (pv 0) (pg_unl rfl (pgs_cons (pg_name (i := 2) sc_law_draw.nd rfl (Or.inl rfl)) (pgs_cons (pg_name (i := 3) sc_law_draw.nd rfl (Or.inl rfl)) pgs_nil))))
    (pss_cons (ps_set (i := 4) sc_law_draw.nd rfl (Or.inl rfl) (pe_op op_mod (pe_callTy call_int1 rfl T.n_int (by decide +kernel) (pa_cons (pv 3) pa_nil)) (pe_callB call_len rfl T.n_len (by decide +kernel) (pa_cons (pv 2) pa_nil))))
    (pss_cons (ps_set (i := 5) sc_law_draw.nd rfl (Or.inl rfl) (pe_ix ix_list (pv 2) (pv 4) (fun _ _ => rfl)))
    (pss_cons (ps_asg (pe_op op_add (pv 3) pe_int) (pg_sub (pv 0) pe_int set_list))
    (pss_cons (ps_if (pt_cmpR op_ge (pv 5) (pe_op op_pow pe_int pe_int) (nomark _))
        (pss_cons (ps_asg (pe_op op_fdivW (pv 5) (pv 1)) (pg_sub (pv 2) (pv 4) set_list)) (pss_one (ps_ret (pe_op op_mod (pe_callTy call_int1 rfl T.n_int (by decide +kernel) (pa_cons (pv 5) pa_nil)) (pv 1))))) pss_nil)
    (pss_cons (ps_set (i := 6) sc_law_draw.nd rfl (Or.inl rfl) (pe_op op_mod (pe_callTy call_int1 rfl T.n_int (by decide +kernel) (pa_cons (pe_op op_add (pe_op op_add (pe_op op_mul (pe_op op_mod (pe_callTy call_int1 rfl T.n_int (by decide +kernel) (pa_cons (pv 5) pa_nil)) pe_int) pe_int) (pe_op op_mul (pe_op op_mul (pv 3) (pv 3)) pe_int)) pe_int) pa_nil)) pe_int))
    (pss_cons (ps_set (i := 6) sc_law_draw.nd rfl (Or.inl rfl) (pe_op op_mod (pe_callTy call_int1 rfl T.n_int (by decide +kernel) (pa_cons (pe_op op_mul (pv 6) (pv 6)) pa_nil)) pe_int))
    (pss_cons (ps_set (i := 6) sc_law_draw.nd rfl (Or.inl rfl) (pe_op op_mod (pe_callTy call_int1 rfl T.n_int (by decide +kernel) (pa_cons (pe_op op_mul (pv 6) (pv 6)) pa_nil)) pe_int))
    (pss_cons (ps_if (pt_cmpR op_gt (pv 1) (pe_op op_pow pe_int pe_int) (nomark _))
        (pss_cons (ps_set (i := 7) sc_law_draw.nd rfl (Or.inl rfl) (pe_op op_mod (pe_callTy call_int1 rfl T.n_int (by decide +kernel) (pa_cons (pe_op op_add (pe_op op_add (pe_op op_mul (pv 6) pe_int) (pe_op op_mul (pv 3) pe_int)) pe_int) pa_nil)) pe_int))
          (pss_one (ps_set (i := 6) sc_law_draw.nd rfl (Or.inl rfl) (pe_op op_mul (pv 6) (pe_op op_add (pe_op op_mul (pe_op op_mul (pv 7) (pv 7)) (pv 7)) pe_int))))) pss_nil)
    (pss_one (ps_ret (pe_op op_mod (pe_callTy call_int1 rfl T.n_int (by decide +kernel) (pa_cons (pv 6) pa_nil)) (pv 1)))))))))))), ?_⟩
  obtain ⟨lim, rfl, l1, l2, n0, hP⟩ := hg
  obtain ⟨ss, cc, rfl, rfl⟩ := draw_args pr
  obtain ⟨hne, ns, t, hs, hc, hn, hn63, hcell, ht⟩ := src
  obtain ⟨z, hzm, hz⟩ := atI_z (l := ns) (k := (t : Int) % (ns.length : Int)) (Int.emod_nonneg _ (by omega)) (Int.emod_lt_of_pos _ (by omega))
  have hz2 := hcell z hzm
  have sN : ∀ x, B x ≠ none → x ≠ ss := fun x e q => e (nos x (Or.inl q))
  have st1 : Stp (some (ss, cc)) B H B (upd H ss (.lst [.ref cc, .int ((t : Int) + 1)])) :=
    ⟨fun x u e => by rw [upd_ne (sN x (by rw [e]; exact fun z => by cases z))]; exact sub x u e, Same.refl _, fun _ _ _ _ => rfl, nos, fun a o n e => by rw [upd_ne (fun q => n (Or.inl q))]; exact e⟩
  have hc1 : (upd H ss (.lst [.ref cc, .int ((t : Int) + 1)])) cc = some (.lst (ns.map V.int)) := by rw [upd_ne (fun q => hne q.symm)]; exact hc
  have sr1 : SrcOk (some (ss, cc)) (upd H ss (.lst [.ref cc, .int ((t : Int) + 1)])) (n - 1) := ⟨hne, ns, t + 1, by rw [upd_same]; rfl, hc1, hn, hn63, hcell, by omega⟩
  have hret : ∀ x : Int, Q (.int (x % lim)) (upd H ss (.lst [.ref cc, .int ((t : Int) + 1)])) := fun x => q _ _ (hP _ (Int.emod_nonneg _ (by omega)) (Int.emod_lt_of_pos _ (by omega))) _ B _ st1 sr1 (.int _)
  refine ⟨.ref ss, rfl, ss, _, rfl, SqL.of hs, rfl, .ref cc, _, rfl, .int t, _, rfl, rfl, ?_⟩
  refine ⟨.int t, rfl, Or.inl ⟨t, rfl, .ref cc, rfl, .ref cc, ns.length, rfl, Or.inl ⟨_, SqL.of hc, by simp⟩, t, ns.length, rfl, rfl, by omega, ?_⟩⟩
  refine ⟨.ref cc, rfl, .int _, rfl, cc, ns.map V.int, _, .int z, rfl, rfl, SqL.of hc, hz, ?_⟩
  refine ⟨.int t, rfl, t, 1, rfl, rfl, .ref ss, rfl, ss, _, 1, 1, rfl, rfl, hs, rfl, ?_⟩
  refine ⟨.int z, rfl, 10, 18, rfl, rfl, ⟨by decide, by decide, by decide⟩, z, 10 ^ 18, rfl, rfl, _, rfl, ?_⟩
  refine if_cases (fun hb => ?_) fun _ => ?_
  · have hb' : (10 : Int) ^ 18 ≤ z := of_decide_eq_true hb
    have h0 : 0 ≤ (t : Int) % (ns.length : Int) := Int.emod_nonneg _ (by omega)
    have h1 : (t : Int) % (ns.length : Int) < ns.length := Int.emod_lt_of_pos _ (by omega)
    have hix : ixN (ns.map V.int).length ((t : Int) % (ns.length : Int)) = some ((t : Int) % (ns.length : Int)).toNat := by
      unfold ixN; rw [if_pos h0, List.length_map, if_pos h1]
    have hd0 : 0 ≤ z / lim := Int.ediv_nonneg (by omega) (by omega)
    have hd1 : z / lim ≤ z := Int.ediv_le_self _ (by omega)
    refine ⟨.int z, rfl, .int lim, rfl, z, lim, rfl, rfl, wide_div (b := 200) (by omega) (by omega) (by decide) (by decide), .ref cc, rfl, .int _, rfl, cc, ns.map V.int, _, _, rfl, rfl, hc1, hix, ?_⟩
    refine ⟨.int z, rfl, Or.inl ⟨z, rfl, .int lim, rfl, z, lim, rfl, rfl, by omega, ?_⟩⟩
    refine q _ _ (hP _ (Int.emod_nonneg _ (by omega)) (Int.emod_lt_of_pos _ (by omega))) _ B _ ?_ ?_ (.int _)
    · exact ⟨fun x u e => by rw [upd_ne (fun q => by have e2 := nos x (Or.inr q); rw [e] at e2; cases e2)]; exact st1.sub x u e, Same.refl _, fun _ _ _ _ => rfl, nos,
        fun a o n e => by rw [upd_ne (fun q => n (Or.inr q)), upd_ne (fun q => n (Or.inl q))]; exact e⟩
    · refine ⟨hne, ns.set ((t : Int) % (ns.length : Int)).toNat (z / lim), t + 1, by rw [upd_ne hne, upd_same]; rfl, by rw [upd_same, List.map_set], by simpa using hn, by simpa using hn63, ?_, by omega⟩
      intro y hy
      rcases List.mem_or_eq_of_mem_set hy with h | h
      · exact hcell y h
      · subst h; exact ⟨by omega, by have := hz2.2; omega⟩
  · have n1 := Int.emod_nonneg z (b := 2147483629) (by decide)
    have n2 := Int.emod_lt_of_pos z (b := 2147483629) (by decide)
    refine ⟨.int z, rfl, Or.inl ⟨z, rfl, z, 2147483629, rfl, rfl, (by decide : (0 : Int) < 2147483629), _, 48271, rfl, rfl, Or.inr (by decide), ?_⟩⟩
    refine ⟨.int t, rfl, .int t, rfl, t, t, rfl, rfl, Or.inl ⟨by omega, by omega⟩, _, 69621, rfl, rfl, Or.inr (by decide), ?_⟩
    refine ⟨_, _, rfl, rfl, _, 11, rfl, rfl, Or.inl ⟨_, rfl, _, 2147483647, rfl, rfl, (by decide : (0 : Int) < 2147483647), ?_⟩⟩
    dsimp only
    generalize hm1 : (z % 2147483629 * 48271 + (t : Int) * t * 69621 + 11) % 2147483647 = m1
    have a1 : 0 ≤ m1 ∧ m1 < 2147483647 := by subst hm1; exact ⟨Int.emod_nonneg _ (by decide), Int.emod_lt_of_pos _ (by decide)⟩
    refine ⟨.int m1, rfl, .int m1, rfl, m1, m1, rfl, rfl, Or.inl ⟨by omega, by omega⟩, Or.inl ⟨_, rfl, _, 2147483629, rfl, rfl, (by decide : (0 : Int) < 2147483629), ?_⟩⟩
    dsimp only
    generalize hm2 : m1 * m1 % 2147483629 = m2
    have a2 : 0 ≤ m2 ∧ m2 < 2147483629 := by subst hm2; exact ⟨Int.emod_nonneg _ (by decide), Int.emod_lt_of_pos _ (by decide)⟩
    refine ⟨.int m2, rfl, .int m2, rfl, m2, m2, rfl, rfl, Or.inl ⟨by omega, by omega⟩, Or.inl ⟨_, rfl, _, 2147483587, rfl, rfl, (by decide : (0 : Int) < 2147483587), ?_⟩⟩
    dsimp only
    generalize hm3 : m2 * m2 % 2147483587 = m3
    have a3 : 0 ≤ m3 ∧ m3 < 2147483587 := by subst hm3; exact ⟨Int.emod_nonneg _ (by decide), Int.emod_lt_of_pos _ (by decide)⟩
    refine ⟨.int lim, rfl, 10, 9, rfl, rfl, ⟨by decide, by decide, by decide⟩, lim, 10 ^ 9, rfl, rfl, _, rfl, ?_⟩
    refine if_cases (fun _ => ?_) fun _ => ?_
    · refine ⟨.int m3, rfl, m3, 39373, rfl, rfl, Or.inr (by decide), .int t, rfl, t, 7919, rfl, rfl, Or.inr (by decide), _, _, rfl, rfl, _, 500, rfl, rfl, Or.inl ⟨_, rfl, _, 2147483629, rfl, rfl, (by decide : (0 : Int) < 2147483629), ?_⟩⟩
      dsimp only
      generalize hm4 : (m3 * 39373 + (t : Int) * 7919 + 500) % 2147483629 = m4
      have a4 : 0 ≤ m4 ∧ m4 < 2147483629 := by subst hm4; exact ⟨Int.emod_nonneg _ (by decide), Int.emod_lt_of_pos _ (by decide)⟩
      refine ⟨.int m3, rfl, .int m4, rfl, .int m4, rfl, m4, m4, rfl, rfl, Or.inl ⟨by omega, by omega⟩, .int m4, rfl, _, m4, rfl, rfl, Or.inr ⟨by omega, by omega⟩, _, 1, rfl, rfl, m3, _, rfl, rfl, Or.inl ⟨by omega, by omega⟩, ?_⟩
      exact ⟨_, rfl, Or.inl ⟨_, rfl, .int lim, rfl, _, lim, rfl, rfl, by omega, hret _⟩⟩
    · exact ⟨_, rfl, Or.inl ⟨_, rfl, .int lim, rfl, _, lim, rfl, rfl, by omega, hret _⟩⟩

theorem ok_law_is_support (T : Txt P K mg) : FnOk P w K mg base (L2.CX P w) 1 T.a_law_is_support T.d_law_is_support ["first", "second"] (spW K cl 2 g_law_is_support) := by
  refine def_ok (m := m_law_is_support) T.f_law_is_support sc_law_is_support (fun cdv A outer s H B sc E hr => ?_) pr_law_is_support
  have hx : Passes (L2.CX P w) (cxOf (L2.CX P w) P w K mg base N_law_is_support "_law_is_support" (defScope s_law_is_support) T.a_law_is_support cdv A outer s H E) E := passes_call (takes_of rfl rfl rfl rfl) (fun _ _ _ _ h => h)
  exact (ds_cons (ds_if (dt_bool (dw_or (dt_cmp (op_neA (DS.hu64 hr)) (f_eq true) (qe_of (de_ix rfl (qe_var 0) (qe_of de_int) (fun _ _ => rfl))) (qe_of (de_ix rfl (qe_var 1) (qe_of de_int) (fun _ _ => rfl))) (nomark _)) (dw_or1 (dt_cmp op_ge f_ge (qe_of (de_ix rfl (qe_var 0) (qe_of de_int) (fun _ _ => rfl))) (qe_of (de_ix rfl (qe_var 1) (qe_of de_int) (fun _ _ => rfl))) (nomark _))))) (ds_one (ds_ret de_bl)) ds_nil)
    (ds_one (ds_ret (de_and (de_cmp op_ge f_ge (qe_of (de_ix rfl (qe_var 0) (qe_of de_int) (fun _ _ => rfl))) (qe_of (de_ix rfl (qe_var 1) (qe_of de_int) (fun _ _ => rfl))) (nomark _)) (de_one (de_cmp op_gt f_gt (qe_of (de_ix rfl (qe_var 0) (qe_of de_int) (fun _ _ => rfl))) (qe_of (de_ix rfl (qe_var 1) (qe_of de_int) (fun _ _ => rfl))) (nomark _)))))))
theorem ok_is_within (T : Txt P K mg) : FnOk P w K mg base (L2.CX P w) 2 T.a_is_within T.d_is_within ["value", "least", "most"] (spW K cl 3 g_is_within) := by
  refine def_ok (m := m_is_within) T.f_is_within sc_is_within (fun cdv A outer s H B sc E hr => ?_) pr_is_within
  have hx : Passes (L2.CX P w) (cxOf (L2.CX P w) P w K mg base N_is_within "is_within" (defScope s_is_within) T.a_is_within cdv A outer s H E) E := passes_call (takes_of rfl rfl rfl rfl) (fun _ _ _ _ h => h)
  exact (ds_one (ds_ret (de_and (de_call (ok_is_whole T) (hr.mono (by decide)) rfl T.m_is_whole T.f_is_whole.kp T.b_is_whole hx (da_cons (de_var 0) da_nil)) (de_one (qe_chain op_le op_le f_le f_le (qe_var 1) (qe_var 0) (qe_var 2))))))
theorem ok_need_name (T : Txt P K mg) : FnOk P w K mg base (L2.CX P w) 2 T.a_need_name T.d_need_name ["value"] (spW K (clOf3 [(0, T.e_InvalidRoll), (6, T.e_OtherOwners), (7, T.e_InvalidName), (9, T.e_InvalidTime), (1, T.e_Roll)]) 1 g_need_name) := by
  refine def_ok (m := m_need_name) T.f_need_name sc_need_name (fun cdv A outer s H B sc E hr => ?_) pr_need_name
  have hx : Passes (L2.CX P w) (cxOf (L2.CX P w) P w K mg base N_need_name "need_name" (defScope s_need_name) T.a_need_name cdv A outer s H E) E := passes_call (takes_of rfl rfl rfl rfl) (fun _ _ _ _ h => h)
  exact (ds_one (ds_if (dt_not (dt_val (de_call (ok_is_name T) (hr.mono (by decide)) rfl T.m_is_name T.f_is_name.kp T.b_is_name hx (da_cons (de_var 0) da_nil)))) (ds_one (ds_raiseP (c := 7) rfl T.p_InvalidName (by first | rfl | simp [clOf3, List.lookup]) (takes_of rfl rfl rfl rfl) rfl)) ds_nil))
theorem ok_owners_error (T : Txt P K mg) : FnOk P w K mg base (L2.CX P w) 2 T.a_owners_error T.d_owners_error ["owners"] (spW K cl 1 g_owners_error) := by
  refine def_ok (m := m_owners_error) T.f_owners_error sc_owners_error (fun cdv A outer s H B sc E hr => ?_) pr_owners_error
  have hx : Passes (L2.CX P w) (cxOf (L2.CX P w) P w K mg base N_owners_error "owners_error" (defScope s_owners_error) T.a_owners_error cdv A outer s H E) E := passes_call (takes_of rfl rfl rfl rfl) (fun _ _ _ _ h => h)
  exact (ds_cons (ds_if (dt_not (dt_chain op_le op_le f_le f_le (qe_of de_int) (qe_of (de_cb1 call_len f_len rfl T.n_len (by decide +kernel) (qe_var 0))) (qe_of (de_c (v := .int (4)) (pe_glob rfl T.c_MOST_OWNERS ⟨_, rfl⟩) fun _ => .int _)))) (ds_one (ds_ret (de_tup (da_cons de_str da_nil)))) ds_nil)
    (ds_cons (ds_for (passes_of rfl) rfl (g_tup [1, 2]) ((ie_enum rfl rfl T.n_enumerate (de_var 0))) (pg_tup rfl (pgs_cons (pg_name (i := 1) sc_owners_error.nd rfl (Or.inl rfl)) (pgs_cons (pg_name (i := 2) sc_owners_error.nd rfl (Or.inl rfl)) pgs_nil)))
      (ds_one (ds_if (dt_bool (dw_or (dt_not (dt_val (de_call (ok_is_name T) (hr.mono (by decide)) rfl T.m_is_name T.f_is_name.kp T.b_is_name hx (da_cons (de_var 2) da_nil)))) (dw_or1 (dt_cmp (op_inA (DS.hu65 hr)) (f_in false) (qe_var 2) (qe_of (de_sliceT rfl (qe_var 0) dp_none (dp_some (de_var 1)))) rfl)))) (ds_one (ds_ret (de_tup (da_cons de_str (da_cons (de_var 1) da_nil))))) ds_nil)))
    (ds_one (ds_ret de_non))))
theorem ok_counts_beside (T : Txt P K mg) : FnOk P w K mg base (L2.CX P w) 2 T.a_counts_beside T.d_counts_beside ["owners", "held", "grant"] (spW K cl 3 g_counts_beside) := by
  refine def_ok (m := m_counts_beside) T.f_counts_beside sc_counts_beside (fun cdv A outer s H B sc E hr => ?_) pr_counts_beside
  have hx : Passes (L2.CX P w) (cxOf (L2.CX P w) P w K mg base N_counts_beside "counts_beside" (defScope s_counts_beside) T.a_counts_beside cdv A outer s H E) E := passes_call (takes_of rfl rfl rfl rfl) (fun _ _ _ _ h => h)
  exact (ds_one (ds_ret (de_or (de_cmp (op_inA (DS.hu65 hr)) (f_in false) (qe_of (de_ix rfl (qe_var 2) (qe_of (de_c (v := .int (1)) (pe_glob rfl T.c_GIVER ⟨_, rfl⟩) fun _ => .int _)) (fun _ _ => rfl))) (qe_var 0) rfl) (de_one (de_cb1 (cr_any rfl) f_any rfl T.n_any (by decide +kernel) (qe_ofL (le_comp (own := [("earlier", 3)]) rfl sc_counts_beside.nd (iq_list rfl (qe_var 1)) (blkOk_by (N := N_counts_beside) (sc := defScope s_counts_beside) (by decide +kernel)) (g_name 3) (gin_name (by decide)) (fun _ _ _ _ _ => (pg_name (i := 3) sc_counts_beside.nd rfl (Or.inl rfl))) (fun _ _ _ _ _ => dts_nil) (fun _ _ _ _ _ => (de_call (ok_backs T) (hr.mono (by decide)) rfl T.m_backs T.f_backs.kp T.b_backs passL (da_cons (de_var 3) (da_cons (de_var 2) da_nil)))))))))))
theorem ok_top_powers (T : Txt P K mg) : FnOk P w K mg base (L2.CX P w) 2 T.a_top_powers T.d_top_powers ["held", "name", "at"] (spW K cl 3 g_top_powers) := by
  refine def_ok (m := m_top_powers) T.f_top_powers sc_top_powers (fun cdv A outer s H B sc E hr => ?_) pr_top_powers
  have hx : Passes (L2.CX P w) (cxOf (L2.CX P w) P w K mg base N_top_powers "top_powers" (defScope s_top_powers) T.a_top_powers cdv A outer s H E) E := passes_call (takes_of rfl rfl rfl rfl) (fun _ _ _ _ h => h)
  exact (ds_cons (ds_set (i := 3) sc_top_powers.nd rfl (Or.inr rfl) (de_ofL (le_comp (own := [("grant", 4)]) rfl sc_top_powers.nd (iq_list rfl (qe_var 0)) (blkOk_by (N := N_top_powers) (sc := defScope s_top_powers) (by decide +kernel)) (g_name 4) (gin_name (by decide)) (fun _ _ _ _ _ => (pg_name (i := 4) sc_top_powers.nd rfl (Or.inl rfl))) (fun _ _ _ _ _ => (dts_one (dt_val (de_call (ok_is_to T) (hr.mono (by decide)) rfl T.m_is_to T.f_is_to.kp T.b_is_to passL (da_cons (de_var 4) (da_cons (de_var 1) (da_cons (de_var 2) da_nil))))))) (fun _ _ _ _ _ => (de_sliceT rfl (qe_var 4) (dp_some (de_c (v := .int (3)) (pe_glob rfl T.c_LEVEL ⟨_, rfl⟩) fun _ => .int _)) dp_none)))))
    (ds_one (ds_ret (de_ofL (le_sortSet rfl (DS.hu64 hr) rfl T.n_sorted (by decide +kernel) rfl T.n_set (by decide +kernel) (qe_ofL (le_comp (own := [("pair", 5)]) rfl sc_top_powers.nd (iq_list rfl (qe_var 3)) (blkOk_by (N := N_top_powers) (sc := defScope s_top_powers) (by decide +kernel)) (g_name 5) (gin_name (by decide)) (fun _ _ _ _ _ => (pg_name (i := 5) sc_top_powers.nd rfl (Or.inr rfl))) (fun _ _ _ _ _ => (dts_one (dt_not (dt_val (de_cb1 (cr_any rfl) f_any rfl T.n_any (by decide +kernel) (qe_ofL (le_comp (own := [("more", 6)]) rfl sc_top_powers.nd (iq_list rfl (qe_var 3)) (blkOk_by (N := N_top_powers) (by rfl)) (g_name 6) (gin_name (by decide)) (fun _ _ _ _ _ => (pg_name (i := 6) sc_top_powers.nd rfl (Or.inl rfl))) (fun _ _ _ _ _ => dts_nil) (fun _ _ _ _ _ => (de_and (de_cmp (op_neA (DS.hu64 hr)) (f_eq true) (qe_var 6) (qe_var 5) (nomark _)) (de_one (de_call (ok_covers T) (hr.mono (by decide)) rfl T.m_covers T.f_covers.kp T.b_covers passL (da_cons (de_var 6) (da_cons (de_var 5) da_nil))))))))))))) (fun _ _ _ _ _ => (de_var 5)))))))))
theorem ok_has_one (T : Txt P K mg) : FnOk P w K mg base (L2.CX P w) 2 T.a_has_one T.d_has_one ["powers", "needed"] (spW K cl 2 g_has_one) := by
  refine def_ok (m := m_has_one) T.f_has_one sc_has_one (fun cdv A outer s H B sc E hr => ?_) pr_has_one
  have hx : Passes (L2.CX P w) (cxOf (L2.CX P w) P w K mg base N_has_one "has_one" (defScope s_has_one) T.a_has_one cdv A outer s H E) E := passes_call (takes_of rfl rfl rfl rfl) (fun _ _ _ _ h => h)
  exact (ds_one (ds_ret (de_cb1 (cr_any rfl) f_any rfl T.n_any (by decide +kernel) (qe_ofL (le_comp (own := [("power", 2)]) rfl sc_has_one.nd (iq_list rfl (qe_var 0)) (blkOk_by (N := N_has_one) (sc := defScope s_has_one) (by decide +kernel)) (g_name 2) (gin_name (by decide)) (fun _ _ _ _ _ => (pg_name (i := 2) sc_has_one.nd rfl (Or.inl rfl))) (fun _ _ _ _ _ => dts_nil) (fun _ _ _ _ _ => (de_call (ok_covers T) (hr.mono (by decide)) rfl T.m_covers T.f_covers.kp T.b_covers passL (da_cons (de_var 2) (da_cons (de_var 1) da_nil)))))))))
theorem ok_law_pick (T : Txt P K mg) : FnOk P w K mg base (L2.CX P w) 2 T.a_law_pick T.d_law_pick ["source", "values"] (spW K cl 2 g_law_pick) := by
  refine def_ok (m := m_law_pick) T.f_law_pick sc_law_pick (fun cdv A outer s H B sc E hr => ?_) pr_law_pick
  have hx : Passes (L2.CX P w) (cxOf (L2.CX P w) P w K mg base N_law_pick "_law_pick" (defScope s_law_pick) T.a_law_pick cdv A outer s H E) E := passes_call (takes_of rfl rfl rfl rfl) (fun _ _ _ _ h => h)
  exact (ds_one (ds_ret (de_ix rfl (qe_var 1) (qe_of (de_call (ok_law_draw T) (hr.mono (by decide)) rfl T.m_law_draw T.f_law_draw.kp T.b_law_draw hx (da_src 0 (da_cons (de_cb1 call_len f_len rfl T.n_len (by decide +kernel) (qe_var 1)) da_nil)))) (fun _ _ => rfl))))
theorem ok_law_shuffle (T : Txt P K mg) : FnOk P w K mg base (L2.CX P w) 2 T.a_law_shuffle T.d_law_shuffle ["source", "values"] (spW K cl 2 g_law_shuffle) := by
  refine def_ok (m := m_law_shuffle) T.f_law_shuffle sc_law_shuffle (fun cdv A outer s H B sc E hr => ?_) pr_law_shuffle
  have hx : Passes (L2.CX P w) (cxOf (L2.CX P w) P w K mg base N_law_shuffle "_law_shuffle" (defScope s_law_shuffle) T.a_law_shuffle cdv A outer s H E) E := passes_call (takes_of rfl rfl rfl rfl) (fun _ _ _ _ h => h)
  exact (ds_cons (ds_own (i := 2) sc_law_shuffle.nd rfl (Or.inl rfl) (le_lst da_nil))
    (ds_cons (ds_for (passes_of rfl) rfl (g_name 3) (ie_list rfl (de_var 1)) (pg_name (i := 3) sc_law_shuffle.nd rfl (Or.inl rfl))
      (ds_one (ds_ins (i := 2) (de_call (ok_law_draw T) (hr.mono (by decide)) rfl T.m_law_draw T.f_law_draw.kp T.b_law_draw hx (da_src 0 (da_cons (de_op op_add f_add (qe_of (de_cb1 call_len f_len rfl T.n_len (by decide +kernel) (qe_var 2))) (qe_of de_int)) da_nil))) (de_var 3))))
    (ds_one (ds_retO 2))))
theorem ok_law_word (T : Txt P K mg) : FnOk P w K mg base (L2.CX P w) 2 T.a_law_word T.d_law_word ["source", "size"] (spW K cl 2 g_law_word) := by
  refine def_ok (m := m_law_word) T.f_law_word sc_law_word (fun cdv A outer s H B sc E hr => ?_) pr_law_word
  have hx : Passes (L2.CX P w) (cxOf (L2.CX P w) P w K mg base N_law_word "_law_word" (defScope s_law_word) T.a_law_word cdv A outer s H E) E := passes_call (takes_of rfl rfl rfl rfl) (fun _ _ _ _ h => h)
  exact (ds_one (ds_ret (de_join rfl de_str (qe_ofL (le_comp (own := [("k", 2)]) rfl sc_law_word.nd (iq_of (ie_rng1 rfl T.n_range (de_var 1))) (blkOk_by (N := N_law_word) (sc := defScope s_law_word) (by decide +kernel)) (g_name 2) (gin_name (by decide)) (fun _ _ _ _ _ => (pg_name (i := 2) sc_law_word.nd rfl (Or.inl rfl))) (fun _ _ _ _ _ => dts_nil) (fun _ _ _ _ _ => (de_ix rfl (qe_of de_str) (qe_of (de_call (ok_law_draw T) (hr.mono (by decide)) rfl T.m_law_draw T.f_law_draw.kp T.b_law_draw passL (da_src 0 (da_cons de_int da_nil)))) (fun _ _ => rfl))))))))
theorem ok_law_counting (T : Txt P K mg) : FnOk P w K mg base (L2.CX P w) 2 T.a_law_counting T.d_law_counting ["owners", "entries"] (spW K cl 2 g_law_counting) := by
  refine def_ok (m := m_law_counting) T.f_law_counting sc_law_counting (fun cdv A outer s H B sc E hr => ?_) pr_law_counting
  have hx : Passes (L2.CX P w) (cxOf (L2.CX P w) P w K mg base N_law_counting "_law_counting" (defScope s_law_counting) T.a_law_counting cdv A outer s H E) E := passes_call (takes_of rfl rfl rfl rfl) (fun _ _ _ _ h => h)
  exact (ds_cons (ds_ownLc (i := 3) (own := [("entry", 2)]) rfl sc_law_counting.nd rfl rfl (sw_true rfl rfl rfl (by decide +kernel)) (iq_list rfl (qe_var 1)) (blkOk_by (N := N_law_counting) (sc := defScope s_law_counting) (by decide +kernel)) (g_name 2) (gin_name (by decide)) (fun _ _ _ _ _ => (pg_name (i := 2) sc_law_counting.nd rfl (Or.inl rfl))) (fun _ _ _ _ _ => (dts_one (dt_cmp (op_inA (DS.hu65 hr)) (f_in false) (qe_of (de_ix rfl (qe_var 2) (qe_of de_int) (fun _ _ => rfl))) (qe_var 0) rfl))) (fun _ _ _ _ _ => (de_var 2)))
    (ds_cons (ds_set (i := 4) sc_law_counting.nd rfl (Or.inl rfl) (de_neg (qe_of de_int)))
    (ds_cons (ds_while (passes_of rfl) (dt_cmp (op_neA (DS.hu64 hr)) (f_eq true) (qe_var 4) (qe_of (de_cb1 call_len f_len rfl T.n_len (by decide +kernel) (qe_var 3))) (nomark _))
      (ds_cons (ds_set (i := 4) sc_law_counting.nd rfl (Or.inl rfl) (de_cb1 call_len f_len rfl T.n_len (by decide +kernel) (qe_var 3)))
    (ds_one (ds_for (passes_of rfl) rfl (g_name 2) (ie_list rfl (de_var 1)) (pg_name (i := 2) sc_law_counting.nd rfl (Or.inr rfl))
      (ds_one (ds_if (dt_bool (dw_and (dt_cmp (op_notInA (DS.hu65 hr)) (f_in true) (qe_var 2) (qe_var 3) rfl) (dw_and1 (dt_cmp (op_neA (DS.hu64 hr)) (f_eq true) (qe_ofL (le_comp (own := [("one", 5)]) rfl sc_law_counting.nd (iq_list rfl (qe_var 3)) (blkOk_by (N := N_law_counting) (sc := defScope s_law_counting) (by decide +kernel)) (g_name 5) (gin_name (by decide)) (fun _ _ _ _ _ => (pg_name (i := 5) sc_law_counting.nd rfl (Or.inl rfl))) (fun _ _ _ _ _ => (dts_one (dt_val (de_call (ok_law_is_support T) (hr.mono (by decide)) rfl T.m_law_is_support T.f_law_is_support.kp T.b_law_is_support passL (da_cons (de_var 5) (da_cons (de_var 2) da_nil)))))) (fun _ _ _ _ _ => (de_var 5)))) (qe_ofL (le_lst da_nil)) (nomark _))))) (ds_one (ds_app (i := 3) (de_var 2))) ds_nil))))))
    (ds_one (ds_frz 3 (ds_ret (de_ofL (le_sorted (DS.hu70 hr) rfl T.n_sorted (by decide +kernel) (qe_var 3)))))))))
theorem ok_law_is_one (T : Txt P K mg) : FnOk P w K mg base (L2.CX P w) 2 T.a_law_is_one T.d_law_is_one ["counting", "entry"] (spW K cl 2 g_law_is_one) := by
  refine def_ok (m := m_law_is_one) T.f_law_is_one sc_law_is_one (fun cdv A outer s H B sc E hr => ?_) pr_law_is_one
  have hx : Passes (L2.CX P w) (cxOf (L2.CX P w) P w K mg base N_law_is_one "_law_is_one" (defScope s_law_is_one) T.a_law_is_one cdv A outer s H E) E := passes_call (takes_of rfl rfl rfl rfl) (fun _ _ _ _ h => h)
  exact (ds_one (ds_ret (de_cmp (op_neA (DS.hu64 hr)) (f_eq true) (qe_ofL (le_comp (own := [("one", 2)]) rfl sc_law_is_one.nd (iq_list rfl (qe_var 0)) (blkOk_by (N := N_law_is_one) (sc := defScope s_law_is_one) (by decide +kernel)) (g_name 2) (gin_name (by decide)) (fun _ _ _ _ _ => (pg_name (i := 2) sc_law_is_one.nd rfl (Or.inl rfl))) (fun _ _ _ _ _ => (dts_one (dt_val (de_call (ok_law_is_support T) (hr.mono (by decide)) rfl T.m_law_is_support T.f_law_is_support.kp T.b_law_is_support passL (da_cons (de_var 2) (da_cons (de_var 1) da_nil)))))) (fun _ _ _ _ _ => (de_var 2)))) (qe_ofL (le_lst da_nil)) (nomark _))))
theorem ok_is_time (T : Txt P K mg) : FnOk P w K mg base (L2.CX P w) 3 T.a_is_time T.d_is_time ["value"] (spW K cl 1 g_is_time) := by
  refine def_ok (m := m_is_time) T.f_is_time sc_is_time (fun cdv A outer s H B sc E hr => ?_) pr_is_time
  have hx : Passes (L2.CX P w) (cxOf (L2.CX P w) P w K mg base N_is_time "is_time" (defScope s_is_time) T.a_is_time cdv A outer s H E) E := passes_call (takes_of rfl rfl rfl rfl) (fun _ _ _ _ h => h)
  exact (ds_one (ds_ret (de_call (ok_is_within T) (hr.mono (by decide)) rfl T.m_is_within T.f_is_within.kp T.b_is_within hx (da_cons (de_var 0) (da_cons (de_neg (qe_of (de_c (v := .int (1000000000000000000000000000000)) (pe_glob rfl T.c_MOST_TIME ⟨_, rfl⟩) fun _ => .int _))) (da_cons (de_c (v := .int (1000000000000000000000000000000)) (pe_glob rfl T.c_MOST_TIME ⟨_, rfl⟩) fun _ => .int _) da_nil))))))
theorem ok_need_same_owners (T : Txt P K mg) : FnOk P w K mg base (L2.CX P w) 3 T.a_need_same_owners T.d_need_same_owners ["one", "other"] (spW K (clOf3 [(0, T.e_InvalidRoll), (6, T.e_OtherOwners), (7, T.e_InvalidName), (9, T.e_InvalidTime), (1, T.e_Roll)]) 2 g_need_same_owners) := by
  refine def_ok (m := m_need_same_owners) T.f_need_same_owners sc_need_same_owners (fun cdv A outer s H B sc E hr => ?_) pr_need_same_owners
  have hx : Passes (L2.CX P w) (cxOf (L2.CX P w) P w K mg base N_need_same_owners "need_same_owners" (defScope s_need_same_owners) T.a_need_same_owners cdv A outer s H E) E := passes_call (takes_of rfl rfl rfl rfl) (fun _ _ _ _ h => h)
  exact (ds_one (ds_if (dt_cmp (op_neA (DS.hu64 hr)) (f_eq true) (qe_of (de_prop rfl (by first | rfl | simp [clOf3, List.lookup]) T.cls_Roll T.p_owners (ok_p_owners T) (hr.mono (by decide)) T.b_p_owners passL (de_var 0))) (qe_of (de_prop rfl (by first | rfl | simp [clOf3, List.lookup]) T.cls_Roll T.p_owners (ok_p_owners T) (hr.mono (by decide)) T.b_p_owners passL (de_var 1))) (nomark _)) (ds_one (ds_raiseP (c := 6) rfl T.p_OtherOwners (by first | rfl | simp [clOf3, List.lookup]) (takes_of rfl rfl rfl rfl) rfl)) ds_nil))
theorem ok_counting_among (T : Txt P K mg) : FnOk P w K mg base (L2.CX P w) 3 T.a_counting_among T.d_counting_among ["owners", "grants"] (spW K cl 2 g_counting_among) := by
  refine def_ok (m := m_counting_among) T.f_counting_among sc_counting_among (fun cdv A outer s H B sc E hr => ?_) pr_counting_among
  have hx : Passes (L2.CX P w) (cxOf (L2.CX P w) P w K mg base N_counting_among "counting_among" (defScope s_counting_among) T.a_counting_among cdv A outer s H E) E := passes_call (takes_of rfl rfl rfl rfl) (fun _ _ _ _ h => h)
  exact (ds_cons (ds_own (i := 2) sc_counting_among.nd rfl (Or.inl rfl) (le_lst da_nil))
    (ds_cons (ds_for (passes_of rfl) rfl (g_name 3) ((ie_tup rfl (de_var 1))) (pg_name (i := 3) sc_counting_among.nd rfl (Or.inl rfl))
      (ds_one (ds_if (dt_val (de_call (ok_counts_beside T) (hr.mono (by decide)) rfl T.m_counts_beside T.f_counts_beside.kp T.b_counts_beside hx (da_cons (de_var 0) (da_lend 2 (da_cons (de_var 3) da_nil))))) (ds_one (ds_app (i := 2) (de_var 3))) ds_nil)))
    (ds_one (ds_retO 2))))
theorem ok_time_after (T : Txt P K mg) : FnOk P w K mg base (L2.CX P w) 3 T.a_time_after T.d_time_after ["one", "other"] (spW K (clOf3 [(0, T.e_InvalidRoll), (6, T.e_OtherOwners), (7, T.e_InvalidName), (9, T.e_InvalidTime), (1, T.e_Roll)]) 2 g_time_after) := by
  refine def_ok (m := m_time_after) T.f_time_after sc_time_after (fun cdv A outer s H B sc E hr => ?_) pr_time_after
  have hx : Passes (L2.CX P w) (cxOf (L2.CX P w) P w K mg base N_time_after "time_after" (defScope s_time_after) T.a_time_after cdv A outer s H E) E := passes_call (takes_of rfl rfl rfl rfl) (fun _ _ _ _ h => h)
  exact (ds_cons (ds_setLc (i := 2) (own := [("grant", 3)]) rfl sc_time_after.nd rfl rfl (sw_true rfl rfl rfl (by decide +kernel)) (iq_list rfl (qe_ofL (le_lst (da_star rfl (de_prop rfl (by first | rfl | simp [clOf3, List.lookup]) T.cls_Roll T.p_grants (ok_p_grants T) (hr.mono (by decide)) T.b_p_grants passL (de_var 0)) (da_star rfl (de_prop rfl (by first | rfl | simp [clOf3, List.lookup]) T.cls_Roll T.p_grants (ok_p_grants T) (hr.mono (by decide)) T.b_p_grants passL (de_var 1)) da_nil))))) (blkOk_by (N := N_time_after) (sc := defScope s_time_after) (by decide +kernel)) (g_name 3) (gin_name (by decide)) (fun _ _ _ _ _ => (pg_name (i := 3) sc_time_after.nd rfl (Or.inl rfl))) (fun _ _ _ _ _ => dts_nil) (fun _ _ _ _ _ => (de_ix rfl (qe_var 3) (qe_of (de_c (v := .int (0)) (pe_glob rfl T.c_TIME ⟨_, rfl⟩) fun _ => .int _)) (fun _ _ => rfl))))
    (ds_cons (ds_if (dt_bool (dw_or (dt_not (dt_tru (qe_var 2))) (dw_or1 (dt_cmp (op_eqA (DS.hu64 hr)) (f_eq false) (qe_of (de_maxI rfl (DS.hu64 hr) rfl T.n_max (by decide +kernel) (qe_var 2))) (qe_of (de_c (v := .int (1000000000000000000000000000000)) (pe_glob rfl T.c_MOST_TIME ⟨_, rfl⟩) fun _ => .int _)) (nomark _))))) (ds_one (ds_raiseP (c := 9) rfl T.p_InvalidTime (by first | rfl | simp [clOf3, List.lookup]) (takes_of rfl rfl rfl rfl) rfl)) ds_nil)
    (ds_one (ds_ret (de_op op_add f_add (qe_of (de_maxI rfl (DS.hu64 hr) rfl T.n_max (by decide +kernel) (qe_var 2))) (qe_of de_int))))))
theorem ok_least_difference (T : Txt P K mg) : FnOk P w K mg base (L2.CX P w) 3 T.a_least_difference T.d_least_difference ["powers", "others"] (spW K cl 2 g_least_difference) := by
  refine def_ok (m := m_least_difference) T.f_least_difference sc_least_difference (fun cdv A outer s H B sc E hr => ?_) pr_least_difference
  have hx : Passes (L2.CX P w) (cxOf (L2.CX P w) P w K mg base N_least_difference "least_difference" (defScope s_least_difference) T.a_least_difference cdv A outer s H E) E := passes_call (takes_of rfl rfl rfl rfl) (fun _ _ _ _ h => h)
  exact (ds_cons (ds_for (passes_of rfl) rfl (g_name 2) ((ie_rng2 rfl T.n_range (de_c (v := .int (1)) (pe_glob rfl T.c_LEAST_LEVEL ⟨_, rfl⟩) fun _ => .int _) (de_op op_add f_add (qe_of (de_c (v := .int (9)) (pe_glob rfl T.c_MOST_LEVEL ⟨_, rfl⟩) fun _ => .int _)) (qe_of de_int)))) (pg_name (i := 2) sc_least_difference.nd rfl (Or.inl rfl))
      (ds_one (ds_for (passes_of rfl) rfl (g_name 3) ((ie_rng1 rfl T.n_range (de_c (v := .int (20)) (pe_glob rfl T.c_MOST_PASSES ⟨_, rfl⟩) fun _ => .int _))) (pg_name (i := 3) sc_least_difference.nd rfl (Or.inl rfl))
      (ds_cons (ds_set (i := 4) sc_least_difference.nd rfl (Or.inl rfl) (de_tup (da_cons (de_var 2) (da_cons (de_op op_add f_add (qe_var 3) (qe_of de_int)) da_nil))))
    (ds_one (ds_if (dt_cmp (op_neA (DS.hu64 hr)) (f_eq true) (qe_of (de_call (ok_has_one T) (hr.mono (by decide)) rfl T.m_has_one T.f_has_one.kp T.b_has_one hx (da_cons (de_var 0) (da_cons (de_var 4) da_nil)))) (qe_of (de_call (ok_has_one T) (hr.mono (by decide)) rfl T.m_has_one T.f_has_one.kp T.b_has_one hx (da_cons (de_var 1) (da_cons (de_var 4) da_nil)))) (nomark _)) (ds_one (ds_ret (de_tup (da_cons (de_var 2) (da_cons (de_var 3) da_nil))))) ds_nil))))))
    (ds_one (ds_ret de_non)))
theorem ok_law_owners_and_names (T : Txt P K mg) : FnOk P w K mg base (L2.CX P w) 3 T.a_law_owners_and_names T.d_law_owners_and_names ["source"] (spW K cl 1 g_law_owners_and_names) := by
  refine def_ok (m := m_law_owners_and_names) T.f_law_owners_and_names sc_law_owners_and_names (fun cdv A outer s H B sc E hr => ?_) pr_law_owners_and_names
  have hx : Passes (L2.CX P w) (cxOf (L2.CX P w) P w K mg base N_law_owners_and_names "_law_owners_and_names" (defScope s_law_owners_and_names) T.a_law_owners_and_names cdv A outer s H E) E := passes_call (takes_of rfl rfl rfl rfl) (fun _ _ _ _ h => h)
  exact (ds_cons (ds_set (i := 1) sc_law_owners_and_names.nd rfl (Or.inl rfl) (de_ofL (le_lst (da_cons de_str (da_cons de_str (da_cons de_str (da_cons de_str (da_cons de_str (da_cons de_str (da_cons de_str (da_cons de_str (da_cons de_str da_nil))))))))))))
    (ds_cons (ds_set (i := 1) sc_law_owners_and_names.nd rfl (Or.inl rfl) (de_ofL (le_cat (qe_var 1) (qe_ofL (le_lst (da_cons (de_call (ok_law_word T) (hr.mono (by decide)) rfl T.m_law_word T.f_law_word.kp T.b_law_word hx (da_src 0 (da_cons (de_op op_add f_add (qe_of de_int) (qe_of (de_call (ok_law_draw T) (hr.mono (by decide)) rfl T.m_law_draw T.f_law_draw.kp T.b_law_draw hx (da_src 0 (da_cons de_int da_nil))))) da_nil))) (da_cons (de_call (ok_law_word T) (hr.mono (by decide)) rfl T.m_law_word T.f_law_word.kp T.b_law_word hx (da_src 0 (da_cons de_int da_nil))) da_nil)))))))
    (ds_cons (ds_set (i := 1) sc_law_owners_and_names.nd rfl (Or.inl rfl) (de_call (ok_law_shuffle T) (hr.mono (by decide)) rfl T.m_law_shuffle T.f_law_shuffle.kp T.b_law_shuffle hx (da_src 0 (da_cons (de_var 1) da_nil))))
    (ds_cons (ds_set (i := 2) sc_law_owners_and_names.nd rfl (Or.inl rfl) (de_op op_add f_add (qe_of de_int) (qe_of (de_call (ok_law_draw T) (hr.mono (by decide)) rfl T.m_law_draw T.f_law_draw.kp T.b_law_draw hx (da_src 0 (da_cons de_int da_nil))))))
    (ds_one (ds_ret (de_tup (da_cons (de_ofL (le_slice rfl (qe_var 1) dp_none (dp_some (de_var 2)))) (da_cons (de_ofL (le_slice rfl (qe_var 1) (dp_some (de_var 2)) (dp_some (de_op op_add f_add (qe_of (de_op op_add f_add (qe_var 2) (qe_of de_int))) (qe_of (de_call (ok_law_draw T) (hr.mono (by decide)) rfl T.m_law_draw T.f_law_draw.kp T.b_law_draw hx (da_src 0 (da_cons de_int da_nil)))))))) da_nil)))))))))
theorem ok_law_entries (T : Txt P K mg) : FnOk P w K mg base (L2.CX P w) 3 T.a_law_entries T.d_law_entries ["source", "owners", "names", "most"] (spW K cl 4 g_law_entries) := by
  refine def_ok (m := m_law_entries) T.f_law_entries sc_law_entries (fun cdv A outer s H B sc E hr => ?_) pr_law_entries
  have hx : Passes (L2.CX P w) (cxOf (L2.CX P w) P w K mg base N_law_entries "_law_entries" (defScope s_law_entries) T.a_law_entries cdv A outer s H E) E := passes_call (takes_of rfl rfl rfl rfl) (fun _ _ _ _ h => h)
  exact (ds_cons (ds_set (i := 4) sc_law_entries.nd rfl (Or.inl rfl) (de_ix rfl (qe_ofL (le_lst (da_cons de_int (da_cons de_int (da_cons de_int (da_cons (de_op op_pow f_pow (qe_of de_int) (qe_of de_int)) da_nil)))))) (qe_of (de_call (ok_law_draw T) (hr.mono (by decide)) rfl T.m_law_draw T.f_law_draw.kp T.b_law_draw hx (da_src 0 (da_cons de_int da_nil)))) (fun _ _ => rfl)))
    (ds_cons (ds_set (i := 5) sc_law_entries.nd rfl (Or.inl rfl) (de_ix rfl (qe_ofL (le_lst (da_cons de_int (da_cons de_int (da_cons de_int da_nil))))) (qe_of (de_call (ok_law_draw T) (hr.mono (by decide)) rfl T.m_law_draw T.f_law_draw.kp T.b_law_draw hx (da_src 0 (da_cons de_int da_nil)))) (fun _ _ => rfl)))
    (ds_cons (ds_own (i := 6) sc_law_entries.nd rfl (Or.inl rfl) (le_lst da_nil))
    (ds_cons (ds_for (passes_of rfl) rfl (g_name 7) ((ie_rng1 rfl T.n_range (de_call (ok_law_draw T) (hr.mono (by decide)) rfl T.m_law_draw T.f_law_draw.kp T.b_law_draw hx (da_src 0 (da_cons (de_op op_add f_add (qe_var 3) (qe_of de_int)) da_nil))))) (pg_name (i := 7) sc_law_entries.nd rfl (Or.inl rfl))
      (ds_cons (ds_set (i := 8) sc_law_entries.nd rfl (Or.inr rfl) (de_call (ok_law_pick T) (hr.mono (by decide)) rfl T.m_law_pick T.f_law_pick.kp T.b_law_pick hx (da_src 0 (da_cons (de_var 2) da_nil))))
    (ds_cons (ds_setLc (i := 9) (own := [("name", 16)]) rfl sc_law_entries.nd rfl rfl (sw_true rfl rfl rfl (by decide +kernel)) (iq_list rfl (qe_ofL (le_cat (qe_var 1) (qe_var 2)))) (blkOk_by (N := N_law_entries) (sc := defScope s_law_entries) (by decide +kernel)) (g_name 16) (gin_name (by decide)) (fun _ _ _ _ _ => (pg_name (i := 16) sc_law_entries.nd rfl (Or.inl rfl))) (fun _ _ _ _ _ => (dts_one (dt_cmp (op_neA (DS.hu64 hr)) (f_eq true) (qe_var 16) (qe_var 8) (nomark _)))) (fun _ _ _ _ _ => (de_var 16)))
    (ds_cons (ds_set (i := 10) sc_law_entries.nd rfl (Or.inl rfl) (de_op op_sub f_sub (qe_of (de_call (ok_law_draw T) (hr.mono (by decide)) rfl T.m_law_draw T.f_law_draw.kp T.b_law_draw hx (da_src 0 (da_cons (de_op op_add f_add (qe_of (de_op op_mul f_mul (qe_of de_int) (qe_var 4))) (qe_of de_int)) da_nil)))) (qe_var 4)))
    (ds_cons (ds_par (i := 11) (j := 12) (by rfl) sc_law_entries.nd rfl rfl (by decide) rfl rfl (da_cons (de_op op_add f_add (qe_of de_int) (qe_of (de_call (ok_law_draw T) (hr.mono (by decide)) rfl T.m_law_draw T.f_law_draw.kp T.b_law_draw hx (da_src 0 (da_cons de_int da_nil))))) (da_cons (de_call (ok_law_draw T) (hr.mono (by decide)) rfl T.m_law_draw T.f_law_draw.kp T.b_law_draw hx (da_src 0 (da_cons (de_op op_add f_add (qe_var 5) (qe_of de_int)) da_nil))) da_nil)) (by rfl))
    (ds_cons (ds_set (i := 13) sc_law_entries.nd rfl (Or.inl rfl) (de_call (ok_law_pick T) (hr.mono (by decide)) rfl T.m_law_pick T.f_law_pick.kp T.b_law_pick hx (da_src 0 (da_cons (de_var 9) da_nil))))
    (ds_cons (ds_if (dt_bool (dw_and (dt_cmp (op_neA (DS.hu64 hr)) (f_eq true) (qe_var 6) (qe_ofL (le_lst da_nil)) (nomark _)) (dw_and1 (dt_cmp op_gt f_gt (qe_of (de_call (ok_law_draw T) (hr.mono (by decide)) rfl T.m_law_draw T.f_law_draw.kp T.b_law_draw hx (da_src 0 (da_cons de_int da_nil)))) (qe_of de_int) (nomark _))))) (ds_cons (ds_set (i := 14) sc_law_entries.nd rfl (Or.inl rfl) (de_call (ok_law_pick T) (hr.mono (by decide)) rfl T.m_law_pick T.f_law_pick.kp T.b_law_pick hx (da_src 0 (da_lend 6 da_nil))))
    (ds_one (ds_if (dt_cmp (op_neA (DS.hu64 hr)) (f_eq true) (qe_of (de_ix rfl (qe_var 14) (qe_of de_int) (fun _ _ => rfl))) (qe_var 8) (nomark _)) (ds_cons (ds_set (i := 13) sc_law_entries.nd rfl (Or.inl rfl) (de_ix rfl (qe_var 14) (qe_of de_int) (fun _ _ => rfl)))
    (ds_cons (ds_set (i := 11) sc_law_entries.nd rfl (Or.inl rfl) (de_op op_add f_add (qe_of de_int) (qe_of (de_call (ok_law_draw T) (hr.mono (by decide)) rfl T.m_law_draw T.f_law_draw.kp T.b_law_draw hx (da_src 0 (da_cons (de_ix rfl (qe_var 14) (qe_of de_int) (fun _ _ => rfl)) da_nil))))))
    (ds_cons (ds_set (i := 12) sc_law_entries.nd rfl (Or.inl rfl) (de_call (ok_law_draw T) (hr.mono (by decide)) rfl T.m_law_draw T.f_law_draw.kp T.b_law_draw hx (da_src 0 (da_cons (de_op op_add f_add (qe_of (de_ix rfl (qe_var 14) (qe_of de_int) (fun _ _ => rfl))) (qe_of de_int)) da_nil))))
    (ds_one (ds_set (i := 10) sc_law_entries.nd rfl (Or.inl rfl) (de_cb2 (call_min2 rfl) f_min rfl T.n_min (by decide +kernel) (qe_of (de_op op_add f_add (qe_of (de_ix rfl (qe_var 14) (qe_of de_int) (fun _ _ => rfl))) (qe_of (de_call (ok_law_draw T) (hr.mono (by decide)) rfl T.m_law_draw T.f_law_draw.kp T.b_law_draw hx (da_src 0 (da_cons de_int da_nil)))))) (qe_of (de_op op_pow f_pow (qe_of de_int) (qe_of de_int))))))))) ds_nil))) ds_nil)
    (ds_cons (ds_set (i := 15) sc_law_entries.nd rfl (Or.inl rfl) (de_tup (da_cons (de_var 10) (da_cons (de_var 13) (da_cons (de_var 8) (da_cons (de_var 11) (da_cons (de_var 12) da_nil)))))))
    (ds_one (ds_if (dt_cmp (op_notInA (DS.hu65 hr)) (f_in true) (qe_var 15) (qe_var 6) rfl) (ds_one (ds_app (i := 6) (de_var 15))) ds_nil))))))))))
    (ds_one (ds_retO 6))))))
theorem ok_law_later (T : Txt P K mg) : FnOk P w K mg base (L2.CX P w) 3 T.a_law_later T.d_law_later ["owners", "firsts", "seconds", "name"] (spW K cl 4 g_law_later) := by
  refine def_ok (m := m_law_later) T.f_law_later sc_law_later (fun cdv A outer s H B sc E hr => ?_) pr_law_later
  have hx : Passes (L2.CX P w) (cxOf (L2.CX P w) P w K mg base N_law_later "_law_later" (defScope s_law_later) T.a_law_later cdv A outer s H E) E := passes_call (takes_of rfl rfl rfl rfl) (fun _ _ _ _ h => h)
  exact (ds_cons (ds_set (i := 5) sc_law_later.nd rfl (Or.inl rfl) (de_ofL (le_sortSetS rfl rfl T.n_sorted (by decide +kernel) rfl T.n_set (by decide +kernel) (qe_ofL (le_cat (qe_ofL (le_comp (own := [("entry", 4)]) rfl sc_law_later.nd (iq_list rfl (qe_ofL (le_cat (qe_var 1) (qe_var 2)))) (blkOk_by (N := N_law_later) (sc := defScope s_law_later) (by decide +kernel)) (g_name 4) (gin_name (by decide)) (fun _ _ _ _ _ => (pg_name (i := 4) sc_law_later.nd rfl (Or.inl rfl))) (fun _ _ _ _ _ => dts_nil) (fun _ _ _ _ _ => (de_ix rfl (qe_var 4) (qe_of de_int) (fun _ _ => rfl))))) (qe_ofL (le_comp (own := [("entry", 4)]) rfl sc_law_later.nd (iq_list rfl (qe_ofL (le_cat (qe_var 1) (qe_var 2)))) (blkOk_by (N := N_law_later) (sc := defScope s_law_later) (by decide +kernel)) (g_name 4) (gin_name (by decide)) (fun _ _ _ _ _ => (pg_name (i := 4) sc_law_later.nd rfl (Or.inl rfl))) (fun _ _ _ _ _ => dts_nil) (fun _ _ _ _ _ => (de_ix rfl (qe_var 4) (qe_of de_int) (fun _ _ => rfl))))))))))
    (ds_cons (ds_set (i := 6) sc_law_later.nd rfl (Or.inl rfl) (de_op op_add f_add (qe_of (de_maxI rfl (DS.hu64 hr) rfl T.n_max (by decide +kernel) (qe_ofL (le_comp (own := [("entry", 4)]) rfl sc_law_later.nd (iq_list rfl (qe_ofL (le_cat (qe_var 1) (qe_var 2)))) (blkOk_by (N := N_law_later) (sc := defScope s_law_later) (by decide +kernel)) (g_name 4) (gin_name (by decide)) (fun _ _ _ _ _ => (pg_name (i := 4) sc_law_later.nd rfl (Or.inl rfl))) (fun _ _ _ _ _ => dts_nil) (fun _ _ _ _ _ => (de_ix rfl (qe_var 4) (qe_of de_int) (fun _ _ => rfl))))))) (qe_of de_int)))
    (ds_cons (ds_set (i := 7) sc_law_later.nd rfl (Or.inl rfl) (de_ofL (le_lst (da_cons (de_call (ok_law_counting T) (hr.mono (by decide)) rfl T.m_law_counting T.f_law_counting.kp T.b_law_counting hx (da_cons (de_var 0) (da_cons (de_var 1) da_nil))) (da_cons (de_call (ok_law_counting T) (hr.mono (by decide)) rfl T.m_law_counting T.f_law_counting.kp T.b_law_counting hx (da_cons (de_var 0) (da_cons (de_var 2) da_nil))) da_nil)))))
    (ds_cons (ds_for (passes_of rfl) rfl (g_name 8) (ie_list rfl (de_ofL (le_comp (own := [("person", 11)]) rfl sc_law_later.nd (iq_list rfl (qe_var 5)) (blkOk_by (N := N_law_later) (sc := defScope s_law_later) (by decide +kernel)) (g_name 11) (gin_name (by decide)) (fun _ _ _ _ _ => (pg_name (i := 11) sc_law_later.nd rfl (Or.inl rfl))) (fun _ _ _ _ _ => (dts_one (dt_cmp (op_notInA (DS.hu65 hr)) (f_in true) (qe_var 11) (qe_var 0) rfl))) (fun _ _ _ _ _ => (de_var 11))))) (pg_name (i := 8) sc_law_later.nd rfl (Or.inl rfl))
      (ds_one (ds_for (passes_of rfl) rfl (g_name 9) ((ie_rng2 rfl T.n_range de_int de_int)) (pg_name (i := 9) sc_law_later.nd rfl (Or.inl rfl))
      (ds_one (ds_for (passes_of rfl) rfl (g_name 10) ((ie_rng1 rfl T.n_range de_int)) (pg_name (i := 10) sc_law_later.nd rfl (Or.inl rfl))
      (ds_cons (ds_set (i := 4) sc_law_later.nd rfl (Or.inl rfl) (de_tup (da_cons (de_var 6) (da_cons (de_var 8) (da_cons (de_var 3) (da_cons (de_var 9) (da_cons (de_var 10) da_nil)))))))
    (ds_one (ds_if (dt_cmp (op_neA (DS.hu64 hr)) (f_eq true) (qe_of (de_call (ok_law_is_one T) (hr.mono (by decide)) rfl T.m_law_is_one T.f_law_is_one.kp T.b_law_is_one hx (da_cons (de_ix rfl (qe_var 7) (qe_of de_int) (fun _ _ => rfl)) (da_cons (de_var 4) da_nil)))) (qe_of (de_call (ok_law_is_one T) (hr.mono (by decide)) rfl T.m_law_is_one T.f_law_is_one.kp T.b_law_is_one hx (da_cons (de_ix rfl (qe_var 7) (qe_of de_int) (fun _ _ => rfl)) (da_cons (de_var 4) da_nil)))) (nomark _)) (ds_one (ds_ret (de_var 4))) ds_nil))))))))
    (ds_one (ds_ret de_non))))))
theorem ok_grant_error (T : Txt P K mg) : FnOk P w K mg base (L2.CX P w) 4 T.a_grant_error T.d_grant_error ["value"] (spW K cl 1 g_grant_error) := by
  refine def_ok (m := m_grant_error) T.f_grant_error sc_grant_error (fun cdv A outer s H B sc E hr => ?_) pr_grant_error
  have hx : Passes (L2.CX P w) (cxOf (L2.CX P w) P w K mg base N_grant_error "grant_error" (defScope s_grant_error) T.a_grant_error cdv A outer s H E) E := passes_call (takes_of rfl rfl rfl rfl) (fun _ _ _ _ h => h)
  exact (ds_cons (ds_if (dt_bool (dw_or (dt_not (dt_val (de_is rfl rfl T.n_isinstance (qe_var 0) (pe_bltn (v := .ty "tuple") rfl T.n_tuple (by decide +kernel) rfl)))) (dw_or1 (dt_cmp (op_neA (DS.hu64 hr)) (f_eq true) (qe_of (de_cb1 call_len f_len rfl T.n_len (by decide +kernel) (qe_var 0))) (qe_of (de_c (v := .int (5)) (pe_glob rfl T.c_ENTRIES ⟨_, rfl⟩) fun _ => .int _)) (nomark _))))) (ds_one (ds_ret (de_tup (da_cons de_str da_nil)))) ds_nil)
    (ds_cons (ds_asg (g_tup [1, 2, 3, 4, 5]) (de_var 0) (pg_tup rfl (pgs_cons (pg_name (i := 1) sc_grant_error.nd rfl (Or.inl rfl)) (pgs_cons (pg_name (i := 2) sc_grant_error.nd rfl (Or.inl rfl)) (pgs_cons (pg_name (i := 3) sc_grant_error.nd rfl (Or.inl rfl)) (pgs_cons (pg_name (i := 4) sc_grant_error.nd rfl (Or.inl rfl)) (pgs_cons (pg_name (i := 5) sc_grant_error.nd rfl (Or.inl rfl)) pgs_nil)))))))
    (ds_cons (ds_if (dt_not (dt_val (de_call (ok_is_time T) (hr.mono (by decide)) rfl T.m_is_time T.f_is_time.kp T.b_is_time hx (da_cons (de_var 1) da_nil)))) (ds_one (ds_ret (de_tup (da_cons de_str da_nil)))) ds_nil)
    (ds_cons (ds_if (dt_not (dt_val (de_call (ok_is_name T) (hr.mono (by decide)) rfl T.m_is_name T.f_is_name.kp T.b_is_name hx (da_cons (de_var 2) da_nil)))) (ds_one (ds_ret (de_tup (da_cons de_str da_nil)))) ds_nil)
    (ds_cons (ds_if (dt_not (dt_val (de_call (ok_is_name T) (hr.mono (by decide)) rfl T.m_is_name T.f_is_name.kp T.b_is_name hx (da_cons (de_var 3) da_nil)))) (ds_one (ds_ret (de_tup (da_cons de_str da_nil)))) ds_nil)
    (ds_cons (ds_if (dt_cmp (op_eqA (DS.hu64 hr)) (f_eq false) (qe_var 2) (qe_var 3) (nomark _)) (ds_one (ds_ret (de_tup (da_cons de_str da_nil)))) ds_nil)
    (ds_cons (ds_if (dt_not (dt_val (de_call (ok_is_within T) (hr.mono (by decide)) rfl T.m_is_within T.f_is_within.kp T.b_is_within hx (da_cons (de_var 4) (da_cons (de_c (v := .int (1)) (pe_glob rfl T.c_LEAST_LEVEL ⟨_, rfl⟩) fun _ => .int _) (da_cons (de_c (v := .int (9)) (pe_glob rfl T.c_MOST_LEVEL ⟨_, rfl⟩) fun _ => .int _) da_nil)))))) (ds_one (ds_ret (de_tup (da_cons de_str da_nil)))) ds_nil)
    (ds_cons (ds_if (dt_not (dt_val (de_call (ok_is_within T) (hr.mono (by decide)) rfl T.m_is_within T.f_is_within.kp T.b_is_within hx (da_cons (de_var 5) (da_cons de_int (da_cons (de_c (v := .int (20)) (pe_glob rfl T.c_MOST_PASSES ⟨_, rfl⟩) fun _ => .int _) da_nil)))))) (ds_one (ds_ret (de_tup (da_cons de_str da_nil)))) ds_nil)
    (ds_one (ds_ret de_non))))))))))
theorem ok_counting_grants (T : Txt P K mg) : FnOk P w K mg base (L2.CX P w) 4 T.a_counting_grants T.d_counting_grants ["roll"] (spW K (clOf3 [(0, T.e_InvalidRoll), (6, T.e_OtherOwners), (7, T.e_InvalidName), (9, T.e_InvalidTime), (1, T.e_Roll)]) 1 g_counting_grants) := by
  refine def_ok (m := m_counting_grants) T.f_counting_grants sc_counting_grants (fun cdv A outer s H B sc E hr => ?_) pr_counting_grants
  have hx : Passes (L2.CX P w) (cxOf (L2.CX P w) P w K mg base N_counting_grants "counting_grants" (defScope s_counting_grants) T.a_counting_grants cdv A outer s H E) E := passes_call (takes_of rfl rfl rfl rfl) (fun _ _ _ _ h => h)
  exact (ds_one (ds_ret (de_call (ok_counting_among T) (hr.mono (by decide)) rfl T.m_counting_among T.f_counting_among.kp T.b_counting_among hx (da_cons (de_prop rfl (by first | rfl | simp [clOf3, List.lookup]) T.cls_Roll T.p_owners (ok_p_owners T) (hr.mono (by decide)) T.b_p_owners passL (de_var 0)) (da_cons (de_prop rfl (by first | rfl | simp [clOf3, List.lookup]) T.cls_Roll T.p_grants (ok_p_grants T) (hr.mono (by decide)) T.b_p_grants passL (de_var 0)) da_nil)))))
theorem ok_grants_error (T : Txt P K mg) : FnOk P w K mg base (L2.CX P w) 5 T.a_grants_error T.d_grants_error ["owners", "grants"] (spW K (clOf3 [(0, T.e_InvalidRoll), (6, T.e_OtherOwners), (7, T.e_InvalidName), (9, T.e_InvalidTime), (1, T.e_Roll)]) 2 g_grants_error) := by
  refine def_ok (m := m_grants_error) T.f_grants_error sc_grants_error (fun cdv A outer s H B sc E hr => ?_) pr_grants_error
  have hx : Passes (L2.CX P w) (cxOf (L2.CX P w) P w K mg base N_grants_error "grants_error" (defScope s_grants_error) T.a_grants_error cdv A outer s H E) E := passes_call (takes_of rfl rfl rfl rfl) (fun _ _ _ _ h => h)
  exact (ds_cons (ds_if (dt_bool (dw_or (dt_not (dt_val (de_is2 rfl rfl T.n_isinstance (qe_var 1) (pe_bltn (v := .ty "list") rfl T.n_list (by decide +kernel) rfl) (pe_bltn (v := .ty "tuple") rfl T.n_tuple (by decide +kernel) rfl)))) (dw_or1 (dt_cmp op_gt f_gt (qe_of (de_cb1 call_len f_len rfl T.n_len (by decide +kernel) (qe_var 1))) (qe_of (de_cval rfl T.m_Roll T.r_Roll T.v_Roll_MOST_GRANTS (fun _ => .int _))) (nomark _))))) (ds_one (ds_ret (de_tup (da_cons de_str da_nil)))) ds_nil)
    (ds_cons (ds_for (passes_of rfl) rfl (g_tup [2, 3]) ((ie_enum rfl rfl T.n_enumerate (de_var 1))) (pg_tup rfl (pgs_cons (pg_name (i := 2) sc_grants_error.nd rfl (Or.inl rfl)) (pgs_cons (pg_name (i := 3) sc_grants_error.nd rfl (Or.inl rfl)) pgs_nil)))
      (ds_cons (ds_set (i := 4) sc_grants_error.nd rfl (Or.inl rfl) (de_call (ok_grant_error T) (hr.mono (by decide)) rfl T.m_grant_error T.f_grant_error.kp T.b_grant_error hx (da_cons (de_var 3) da_nil)))
    (ds_cons (ds_if (dt_cmp op_notN f_notN (qe_var 4) (qe_of de_non) (nomark _)) (ds_one (ds_ret (de_tup (da_cons de_str (da_cons (de_var 2) (da_cons (de_var 4) da_nil)))))) ds_nil)
    (ds_cons (ds_if (dt_cmp (op_inA (DS.hu65 hr)) (f_in false) (qe_of (de_ix rfl (qe_var 3) (qe_of (de_c (v := .int (2)) (pe_glob rfl T.c_TAKER ⟨_, rfl⟩) fun _ => .int _)) (fun _ _ => rfl))) (qe_var 0) rfl) (ds_one (ds_ret (de_tup (da_cons de_str (da_cons (de_var 2) da_nil))))) ds_nil)
    (ds_one (ds_if (dt_cmp (op_inA (DS.hu65 hr)) (f_in false) (qe_var 3) (qe_of (de_sliceB rfl (qe_var 1) dp_none (dp_some (de_var 2)))) rfl) (ds_one (ds_ret (de_tup (da_cons de_str (da_cons (de_var 2) da_nil))))) ds_nil))))))
    (ds_one (ds_ret de_non))))
theorem ok_later_grant (T : Txt P K mg) : FnOk P w K mg base (L2.CX P w) 5 T.a_later_grant T.d_later_grant ["one", "other", "name"] (spW K (clOf3 [(0, T.e_InvalidRoll), (6, T.e_OtherOwners), (7, T.e_InvalidName), (9, T.e_InvalidTime), (1, T.e_Roll)]) 3 g_later_grant) := by
  refine def_ok (m := m_later_grant) T.f_later_grant sc_later_grant (fun cdv A outer s H B sc E hr => ?_) pr_later_grant
  have hx : Passes (L2.CX P w) (cxOf (L2.CX P w) P w K mg base N_later_grant "later_grant" (defScope s_later_grant) T.a_later_grant cdv A outer s H E) E := passes_call (takes_of rfl rfl rfl rfl) (fun _ _ _ _ h => h)
  exact (ds_cons (ds_exp (de_call (ok_need_same_owners T) (hr.mono (by decide)) rfl T.m_need_same_owners T.f_need_same_owners.kp T.b_need_same_owners hx (da_cons (de_var 0) (da_cons (de_var 1) da_nil))))
    (ds_cons (ds_exp (de_call (ok_need_name T) (hr.mono (by decide)) rfl T.m_need_name T.f_need_name.kp T.b_need_name hx (da_cons (de_var 2) da_nil)))
    (ds_cons (ds_set (i := 3) sc_later_grant.nd rfl (Or.inl rfl) (de_call (ok_time_after T) (hr.mono (by decide)) rfl T.m_time_after T.f_time_after.kp T.b_time_after hx (da_cons (de_var 0) (da_cons (de_var 1) da_nil))))
    (ds_cons (ds_if (dt_cmp (op_inA (DS.hu65 hr)) (f_in false) (qe_var 2) (qe_ofL (le_lst (da_star rfl (de_prop rfl (by first | rfl | simp [clOf3, List.lookup]) T.cls_Roll T.p_owners (ok_p_owners T) (hr.mono (by decide)) T.b_p_owners passL (de_var 0)) (da_star rfl (de_prop rfl (by first | rfl | simp [clOf3, List.lookup]) T.cls_Roll T.p_persons (ok_p_persons T) (hr.mono (by decide)) T.b_p_persons passL (de_var 0)) (da_star rfl (de_prop rfl (by first | rfl | simp [clOf3, List.lookup]) T.cls_Roll T.p_persons (ok_p_persons T) (hr.mono (by decide)) T.b_p_persons passL (de_var 1)) da_nil))))) rfl) (ds_one ds_nev) ds_nil)
    (ds_cons (ds_set (i := 4) sc_later_grant.nd rfl (Or.inl rfl) (de_call (ok_counting_grants T) (hr.mono (by decide)) rfl T.m_counting_grants T.f_counting_grants.kp T.b_counting_grants hx (da_cons (de_var 0) da_nil)))
    (ds_cons (ds_set (i := 5) sc_later_grant.nd rfl (Or.inl rfl) (de_call (ok_counting_grants T) (hr.mono (by decide)) rfl T.m_counting_grants T.f_counting_grants.kp T.b_counting_grants hx (da_cons (de_var 1) da_nil)))
    (ds_cons (ds_for (passes_of rfl) rfl (g_name 6) (ie_list rfl (de_ofL (le_sortSetS rfl rfl T.n_sorted (by decide +kernel) rfl T.n_set (by decide +kernel) (qe_ofL (le_lst (da_star rfl (de_prop rfl (by first | rfl | simp [clOf3, List.lookup]) T.cls_Roll T.p_persons (ok_p_persons T) (hr.mono (by decide)) T.b_p_persons passL (de_var 0)) (da_star rfl (de_prop rfl (by first | rfl | simp [clOf3, List.lookup]) T.cls_Roll T.p_persons (ok_p_persons T) (hr.mono (by decide)) T.b_p_persons passL (de_var 1)) da_nil))))))) (pg_name (i := 6) sc_later_grant.nd rfl (Or.inl rfl))
      (ds_cons (ds_set (i := 7) sc_later_grant.nd rfl (Or.inl rfl) (de_call (ok_least_difference T) (hr.mono (by decide)) rfl T.m_least_difference T.f_least_difference.kp T.b_least_difference hx (da_cons (de_call (ok_top_powers T) (hr.mono (by decide)) rfl T.m_top_powers T.f_top_powers.kp T.b_top_powers hx (da_cons (de_var 4) (da_cons (de_var 6) (da_cons de_non da_nil)))) (da_cons (de_call (ok_top_powers T) (hr.mono (by decide)) rfl T.m_top_powers T.f_top_powers.kp T.b_top_powers hx (da_cons (de_var 5) (da_cons (de_var 6) (da_cons de_non da_nil)))) da_nil))))
    (ds_one (ds_if (dt_cmp op_notN f_notN (qe_var 7) (qe_of de_non) (nomark _)) (ds_one (ds_ret (de_tup (da_cons (de_var 3) (da_cons (de_var 6) (da_cons (de_var 2) (da_star rfl (de_var 7) da_nil))))))) ds_nil))))
    (ds_one (ds_ret de_non)))))))))
theorem ok_Roll (T : Txt P K mg) : StK.FnRK P w K mg base (L2.CX P w) 6 T.a_Roll ["grants"] (spMk K (clOf3 [(0, T.e_InvalidRoll), (6, T.e_OtherOwners), (7, T.e_InvalidName), (9, T.e_InvalidTime), (1, T.e_Roll)]) T.e_Roll 1 g_Roll) := by
  refine init_sk (cl := (clOf3 [(0, T.e_InvalidRoll), (6, T.e_OtherOwners), (7, T.e_InvalidName), (9, T.e_InvalidTime), (1, T.e_Roll)])) (n := 1) (m := m_init g_owners_error g_grants_error g_persons_in) (self := "self") (pv := "owners") (ks := ["grants"]) T.f_Roll sc_init (by first | rfl | simp [clOf3, List.lookup]) bind_init (fun cdv A outer s H0 H B sc E hr => ?_) (fun x os zs nn Pp R h1 h2 => pr_init x os zs nn Pp R h1 h2)
  have hx : Passes (L2.CX P w) (cxOf (L2.CX P w) P w K mg base N_init "Roll.__init__" (defScope s_init) T.a_Roll cdv A outer s H E) E := passes_call (takes_of rfl rfl rfl rfl) (fun _ _ _ _ h => h)
  exact (ds_cons (ds_set (i := 3) sc_init.nd rfl (Or.inl rfl) (de_call (ok_owners_error T) (hr.mono (by decide)) rfl T.m_owners_error T.f_owners_error.kp T.b_owners_error hx (da_cons (de_var 2) da_nil)))
    (ds_cons (ds_if (dt_cmp op_isN f_isN (qe_var 3) (qe_of de_non) (nomark _)) (ds_one (ds_set (i := 3) sc_init.nd rfl (Or.inl rfl) (de_call (ok_grants_error T) (hr.mono (by decide)) rfl T.m_grants_error T.f_grants_error.kp T.b_grants_error hx (da_cons (de_var 2) (da_cons (de_var 1) da_nil))))) ds_nil)
    (ds_cons (ds_if (dt_cmp op_notN f_notN (qe_var 3) (qe_of de_non) (nomark _)) (ds_one (ds_raise (c := 0) rfl T.x_InvalidRoll (by first | rfl | simp [clOf3, List.lookup]) rfl hr (by decide) (takes_of rfl rfl rfl rfl) (de_var 3) rfl)) ds_nil)
    (ds_cons (ds_put (i := 0) (n := 1) (k := 0) rfl T.o_Roll rfl (by exact (by decide : (3 : Nat) < 1000)) (de_tupleOf rfl T.n_tuple (by decide +kernel) (qe_ofL (le_sorted (DS.hu70 hr) rfl T.n_sorted (by decide +kernel) (qe_var 2)))))
    (ds_cons (ds_put (i := 0) (n := 1) (k := 1) rfl T.o_Roll rfl (by exact (by decide : (3 : Nat) < 1000)) (de_tupleOf rfl T.n_tuple (by decide +kernel) (qe_ofL (le_sorted (DS.hu70 hr) rfl T.n_sorted (by decide +kernel) (qe_var 1)))))
    (ds_one (ds_put (i := 0) (n := 1) (k := 2) rfl T.o_Roll rfl (by exact (by decide : (3 : Nat) < 1000)) (de_call (ok_persons_in T) (hr.mono (by decide)) rfl T.m_persons_in T.f_persons_in.kp T.b_persons_in hx (da_cons (de_bfld 0 1 0 rfl T.o_Roll rfl) (da_cons (de_bfld 0 1 1 rfl T.o_Roll rfl) da_nil))))))))))

theorem ok_law_make (T : Txt P K mg) : FnOk P w K mg base (L2.CX P w) 8 T.a_law_make T.d_law_make ["owners", "entries"] (spW K (clOf3 [(0, T.e_InvalidRoll), (6, T.e_OtherOwners), (7, T.e_InvalidName), (9, T.e_InvalidTime), (1, T.e_Roll)]) 2 g_law_make) := by
  refine def_ok (m := m_law_make) T.f_law_make sc_law_make (fun cdv A outer s H B sc E hr => ?_) pr_law_make
  have hx : Passes (L2.CX P w) (cxOf (L2.CX P w) P w K mg base N_law_make "_law_make" (defScope s_law_make) T.a_law_make cdv A outer s H E) E := passes_call (takes_of rfl rfl rfl rfl) (fun _ _ _ _ h => h)
  exact (ds_cons (ds_if (dt_cmp (op_eqA (DS.hu64 hr)) (f_eq false) (qe_of (de_cb1 call_len f_len rfl T.n_len (by decide +kernel) (qe_var 0))) (qe_of de_int) (nomark _)) (ds_one (ds_ret (de_makePK T.k_Roll (ok_Roll T) (hr.mono (by decide)) rfl T.m_Roll hx (da_cons (de_ix rfl (qe_var 0) (qe_of de_int) (fun _ _ => rfl)) da_nil) (dk_cons (de_var 1) dk_nil)))) ds_nil)
    (ds_cons (ds_if (dt_cmp (op_eqA (DS.hu64 hr)) (f_eq false) (qe_of (de_cb1 call_len f_len rfl T.n_len (by decide +kernel) (qe_var 0))) (qe_of de_int) (nomark _)) (ds_one (ds_ret (de_makePK T.k_Roll (ok_Roll T) (hr.mono (by decide)) rfl T.m_Roll hx (da_cons (de_ix rfl (qe_var 0) (qe_of de_int) (fun _ _ => rfl)) (da_cons (de_ix rfl (qe_var 0) (qe_of de_int) (fun _ _ => rfl)) da_nil)) (dk_cons (de_var 1) dk_nil)))) ds_nil)
    (ds_cons (ds_if (dt_cmp (op_eqA (DS.hu64 hr)) (f_eq false) (qe_of (de_cb1 call_len f_len rfl T.n_len (by decide +kernel) (qe_var 0))) (qe_of de_int) (nomark _)) (ds_one (ds_ret (de_makePK T.k_Roll (ok_Roll T) (hr.mono (by decide)) rfl T.m_Roll hx (da_cons (de_ix rfl (qe_var 0) (qe_of de_int) (fun _ _ => rfl)) (da_cons (de_ix rfl (qe_var 0) (qe_of de_int) (fun _ _ => rfl)) (da_cons (de_ix rfl (qe_var 0) (qe_of de_int) (fun _ _ => rfl)) da_nil))) (dk_cons (de_var 1) dk_nil)))) ds_nil)
    (ds_one (ds_ret (de_makePK T.k_Roll (ok_Roll T) (hr.mono (by decide)) rfl T.m_Roll hx (da_cons (de_ix rfl (qe_var 0) (qe_of de_int) (fun _ _ => rfl)) (da_cons (de_ix rfl (qe_var 0) (qe_of de_int) (fun _ _ => rfl)) (da_cons (de_ix rfl (qe_var 0) (qe_of de_int) (fun _ _ => rfl)) (da_cons (de_ix rfl (qe_var 0) (qe_of de_int) (fun _ _ => rfl)) da_nil)))) (dk_cons (de_var 1) dk_nil)))))))
theorem ok_law (T : Txt P K mg) : FnG P w K mg base 12 T.a_law T.d_law ["script"] (spLaw K) := by
  refine fng_of T.f_law sc_law (fun vs H Q E ⟨a, ns, e, _⟩ => by rw [e]; rfl) fun cdv A outer s H vs Q E hgd hr ⟨a, ns, e, hs, hl, q⟩ => ?_
  subst e
  have hx : Passes (L2.CX P w) (cxOf (L2.CX P w) P w K mg base N_law "law" (defScope s_law) T.a_law cdv A outer s H E) E := passes_call (takes_of rfl rfl rfl rfl) (fun _ _ _ _ h => h)
  refine ⟨_, pss_cons (ps_set (i := 1) sc_law.nd rfl (by first | exact Or.inl rfl | exact Or.inr rfl) (pe_call (ok_law_source T) (hr.mono (by decide)) rfl T.m_law_source T.f_law_source.kp T.b_law_source .nil hx (pa_cons (pv 0) pa_nil)))
    (pss_ex (K := K) (cl := (clOf3 [(0, T.e_InvalidRoll), (6, T.e_OtherOwners), (7, T.e_InvalidName), (9, T.e_InvalidTime), (1, T.e_Roll)])) (E := E) (m := m_law2) fun sc H0 B0 => ?body), ?_⟩
  case body =>
      exact (ds_cons (ds_for (passes_of rfl) rfl (g_name 2) ((ie_rng1 rfl T.n_range de_int)) (pg_name (i := 2) sc_law.nd rfl (Or.inl rfl))
      (ds_cons (ds_asg (g_tup [3, 4]) (de_call (ok_law_owners_and_names T) (hr.mono (by decide)) rfl T.m_law_owners_and_names T.f_law_owners_and_names.kp T.b_law_owners_and_names hx (da_src 1 da_nil)) (pg_tup rfl (pgs_cons (pg_name (i := 3) sc_law.nd rfl (Or.inl rfl)) (pgs_cons (pg_name (i := 4) sc_law.nd rfl (Or.inl rfl)) pgs_nil))))
    (ds_cons (ds_setLc (i := 5) (own := [("entry", 13)]) rfl sc_law.nd rfl rfl (sw_true rfl rfl rfl (by decide +kernel)) (iq_list rfl (qe_of (de_call (ok_law_entries T) (hr.mono (by decide)) rfl T.m_law_entries T.f_law_entries.kp T.b_law_entries hx (da_src 1 (da_cons (de_var 3) (da_cons (de_var 4) (da_cons de_int da_nil))))))) (blkOk_by (N := N_law) (sc := defScope s_law) (by decide +kernel)) (g_name 13) (gin_name (by decide)) (fun _ _ _ _ _ => (pg_name (i := 13) sc_law.nd rfl (Or.inl rfl))) (fun _ _ _ _ _ => (dts_one (dt_cmp op_lt f_lt (qe_of (de_ix rfl (qe_var 13) (qe_of de_int) (fun _ _ => rfl))) (qe_of (de_op op_pow f_pow (qe_of de_int) (qe_of de_int))) (nomark _)))) (fun _ _ _ _ _ => (de_var 13)))
    (ds_cons (ds_set (i := 6) sc_law.nd rfl (Or.inr rfl) (de_call (ok_law_draw T) (hr.mono (by decide)) rfl T.m_law_draw T.f_law_draw.kp T.b_law_draw hx (da_src 1 (da_cons de_int da_nil))))
    (ds_cons (ds_setLc (i := 7) (own := [("entry", 13)]) rfl sc_law.nd rfl rfl (sw_true rfl rfl rfl (by decide +kernel)) (iq_list rfl (qe_var 5)) (blkOk_by (N := N_law) (sc := defScope s_law) (by decide +kernel)) (g_name 13) (gin_name (by decide)) (fun _ _ _ _ _ => (pg_name (i := 13) sc_law.nd rfl (Or.inl rfl))) (fun _ _ _ _ _ => (dts_one (dt_cmp op_ge f_ge (qe_of (de_call (ok_law_draw T) (hr.mono (by decide)) rfl T.m_law_draw T.f_law_draw.kp T.b_law_draw passL (da_src 1 (da_cons de_int da_nil)))) (qe_var 6) (nomark _)))) (fun _ _ _ _ _ => (de_var 13)))
    (ds_cons (ds_setLc (i := 8) (own := [("entry", 13)]) rfl sc_law.nd rfl rfl (sw_true rfl rfl rfl (by decide +kernel)) (iq_list rfl (qe_var 5)) (blkOk_by (N := N_law) (sc := defScope s_law) (by decide +kernel)) (g_name 13) (gin_name (by decide)) (fun _ _ _ _ _ => (pg_name (i := 13) sc_law.nd rfl (Or.inl rfl))) (fun _ _ _ _ _ => (dts_one (dt_cmp op_ge f_ge (qe_of (de_call (ok_law_draw T) (hr.mono (by decide)) rfl T.m_law_draw T.f_law_draw.kp T.b_law_draw passL (da_src 1 (da_cons de_int da_nil)))) (qe_var 6) (nomark _)))) (fun _ _ _ _ _ => (de_var 13)))
    (ds_cons (ds_par (i := 9) (j := 10) (by rfl) sc_law.nd rfl rfl (by decide) rfl rfl (da_cons (de_call (ok_law_make T) (hr.mono (by decide)) rfl T.m_law_make T.f_law_make.kp T.b_law_make hx (da_cons (de_var 3) (da_cons (de_var 7) da_nil))) (da_cons (de_call (ok_law_make T) (hr.mono (by decide)) rfl T.m_law_make T.f_law_make.kp T.b_law_make hx (da_cons (de_var 3) (da_cons (de_var 8) da_nil))) da_nil)) (by rfl))
    (ds_cons (ds_set (i := 11) sc_law.nd rfl (Or.inl rfl) (de_op op_add_str f_addS (qe_of de_str) (qe_of (de_call (ok_law_word T) (hr.mono (by decide)) rfl T.m_law_word T.f_law_word.kp T.b_law_word hx (da_src 1 (da_cons de_int da_nil))))))
    (ds_cons (ds_if (dt_cmp (op_neA (DS.hu64 hr)) (f_eq true) (qe_ofL (le_cat (qe_var 7) (qe_var 8))) (qe_ofL (le_lst da_nil)) (nomark _)) (ds_cons (ds_set (i := 12) sc_law.nd rfl (Or.inl rfl) (de_call (ok_law_later T) (hr.mono (by decide)) rfl T.m_law_later T.f_law_later.kp T.b_law_later hx (da_cons (de_var 3) (da_cons (de_var 7) (da_cons (de_var 8) (da_cons (de_var 11) da_nil))))))
    (ds_one (ds_if (dt_cmp (op_neA (DS.hu64 hr)) (f_eq true) (qe_of (de_call (ok_later_grant T) (hr.mono (by decide)) rfl T.m_later_grant T.f_later_grant.kp T.b_later_grant hx (da_cons (de_var 9) (da_cons (de_var 10) (da_cons (de_var 11) da_nil))))) (qe_var 12) (nomark _)) (ds_one (ds_ret de_bl)) ds_nil))) ds_nil)
    (ds_one (ds_if (dt_bool (dw_or (dt_cmp (op_neA (DS.hu64 hr)) (f_eq true) (qe_ofL (le_listOf rfl T.n_list (by decide +kernel) (qe_of (de_prop rfl (by first | rfl | simp [clOf3, List.lookup]) T.cls_Roll T.p_grants (ok_p_grants T) (hr.mono (by decide)) T.b_p_grants passL (de_var 9))))) (qe_ofL (le_sorted (DS.hu70 hr) rfl T.n_sorted (by decide +kernel) (qe_var 7))) (nomark _)) (dw_or1 (dt_cmp (op_neA (DS.hu64 hr)) (f_eq true) (qe_ofL (le_listOf rfl T.n_list (by decide +kernel) (qe_of (de_prop rfl (by first | rfl | simp [clOf3, List.lookup]) T.cls_Roll T.p_grants (ok_p_grants T) (hr.mono (by decide)) T.b_p_grants passL (de_var 10))))) (qe_ofL (le_sorted (DS.hu70 hr) rfl T.n_sorted (by decide +kernel) (qe_var 8))) (nomark _))))) (ds_one (ds_ret de_bl)) ds_nil)))))))))))
    (ds_one (ds_ret de_bl)))
  refine ⟨_, rfl, a, ns, rfl, hs, hl, fun s1 c1 H1 hsrc => ?_⟩
  refine ⟨some (s1, c1), H1, fun _ => none, fun _ => none, [.no, .src] ++ List.replicate 12 .no, 2000000, ends (fun d _ => d = .bool true) (fun _ _ => False), law_frame (hsrc _ (by decide)), pr_law2 (by decide) (fun _ => rfl), ?_, ?_, ?_, ?_, ?_⟩
  · intro ρ' n' z; cases z
  · intro d n' z v B' H' _ _ r
    have e : d = .bool true := z
    subst e
    cases r
    exact q H'
  · intro er n' z; exact z.elim
  · intro ρ' n' z; exact z.elim
  · intro ρ' n' z; exact z.elim
end

end DS

namespace DS
open PySem L2
theorem all_mk {l : PySem.W.OpenLaw} {w : World} {K : Fg} {h : Heap} {mg : Str → Option Value} {fa : Addr} (X : K.In h) (G : h.Ns mainGlobals mg) (hfa : mg "law" = some (.ref fa))
    {f0 : Addr} {od0 an0 : Option Addr} {sl0 : Array (Option Value)} {oc0 kV0 dc0 pm0 cd0 ct0 : Value}
    (a0 : PySem.W.nsIn K mainGlobals "is_whole" = some (some (.ref f0))) (l0 : K.lookup f0 = some ⟨oc0, od0, .func (PySem.W.fnOf "is_whole" "is_whole" (defArgs s_is_whole) (defBody s_is_whole) (defScope s_is_whole) .none kV0 dc0 pm0 an0 cd0 ct0), sl0⟩) (c0 : PySem.W.codeIn K cd0 "is_whole" = true) (k0 : PySem.W.keepIn K (.ref f0) = true)
    {f1 : Addr} {od1 an1 : Option Addr} {sl1 : Array (Option Value)} {oc1 kV1 dc1 pm1 cd1 ct1 : Value}
    (a1 : PySem.W.nsIn K mainGlobals "is_within" = some (some (.ref f1))) (l1 : K.lookup f1 = some ⟨oc1, od1, .func (PySem.W.fnOf "is_within" "is_within" (defArgs s_is_within) (defBody s_is_within) (defScope s_is_within) .none kV1 dc1 pm1 an1 cd1 ct1), sl1⟩) (c1 : PySem.W.codeIn K cd1 "is_within" = true) (k1 : PySem.W.keepIn K (.ref f1) = true)
    {f2 : Addr} {od2 an2 : Option Addr} {sl2 : Array (Option Value)} {oc2 kV2 dc2 pm2 cd2 ct2 : Value}
    (a2 : PySem.W.nsIn K mainGlobals "is_time" = some (some (.ref f2))) (l2 : K.lookup f2 = some ⟨oc2, od2, .func (PySem.W.fnOf "is_time" "is_time" (defArgs s_is_time) (defBody s_is_time) (defScope s_is_time) .none kV2 dc2 pm2 an2 cd2 ct2), sl2⟩) (c2 : PySem.W.codeIn K cd2 "is_time" = true) (k2 : PySem.W.keepIn K (.ref f2) = true)
    {f3 : Addr} {od3 an3 : Option Addr} {sl3 : Array (Option Value)} {oc3 kV3 dc3 pm3 cd3 ct3 : Value}
    (a3 : PySem.W.nsIn K mainGlobals "is_name" = some (some (.ref f3))) (l3 : K.lookup f3 = some ⟨oc3, od3, .func (PySem.W.fnOf "is_name" "is_name" (defArgs s_is_name) (defBody s_is_name) (defScope s_is_name) .none kV3 dc3 pm3 an3 cd3 ct3), sl3⟩) (c3 : PySem.W.codeIn K cd3 "is_name" = true) (k3 : PySem.W.keepIn K (.ref f3) = true)
    {f4 : Addr} {od4 an4 : Option Addr} {sl4 : Array (Option Value)} {oc4 kV4 dc4 pm4 cd4 ct4 : Value}
    (a4 : PySem.W.nsIn K mainGlobals "need_name" = some (some (.ref f4))) (l4 : K.lookup f4 = some ⟨oc4, od4, .func (PySem.W.fnOf "need_name" "need_name" (defArgs s_need_name) (defBody s_need_name) (defScope s_need_name) .none kV4 dc4 pm4 an4 cd4 ct4), sl4⟩) (c4 : PySem.W.codeIn K cd4 "need_name" = true) (k4 : PySem.W.keepIn K (.ref f4) = true)
    {f5 : Addr} {od5 an5 : Option Addr} {sl5 : Array (Option Value)} {oc5 kV5 dc5 pm5 cd5 ct5 : Value}
    (a5 : PySem.W.nsIn K mainGlobals "grant_error" = some (some (.ref f5))) (l5 : K.lookup f5 = some ⟨oc5, od5, .func (PySem.W.fnOf "grant_error" "grant_error" (defArgs s_grant_error) (defBody s_grant_error) (defScope s_grant_error) .none kV5 dc5 pm5 an5 cd5 ct5), sl5⟩) (c5 : PySem.W.codeIn K cd5 "grant_error" = true) (k5 : PySem.W.keepIn K (.ref f5) = true)
    {f6 : Addr} {od6 an6 : Option Addr} {sl6 : Array (Option Value)} {oc6 kV6 dc6 pm6 cd6 ct6 : Value}
    (a6 : PySem.W.nsIn K mainGlobals "backs" = some (some (.ref f6))) (l6 : K.lookup f6 = some ⟨oc6, od6, .func (PySem.W.fnOf "backs" "backs" (defArgs s_backs) (defBody s_backs) (defScope s_backs) .none kV6 dc6 pm6 an6 cd6 ct6), sl6⟩) (c6 : PySem.W.codeIn K cd6 "backs" = true) (k6 : PySem.W.keepIn K (.ref f6) = true)
    {f7 : Addr} {od7 an7 : Option Addr} {sl7 : Array (Option Value)} {oc7 kV7 dc7 pm7 cd7 ct7 : Value}
    (a7 : PySem.W.nsIn K mainGlobals "owners_error" = some (some (.ref f7))) (l7 : K.lookup f7 = some ⟨oc7, od7, .func (PySem.W.fnOf "owners_error" "owners_error" (defArgs s_owners_error) (defBody s_owners_error) (defScope s_owners_error) .none kV7 dc7 pm7 an7 cd7 ct7), sl7⟩) (c7 : PySem.W.codeIn K cd7 "owners_error" = true) (k7 : PySem.W.keepIn K (.ref f7) = true)
    {f8 : Addr} {od8 an8 : Option Addr} {sl8 : Array (Option Value)} {oc8 kV8 dc8 pm8 cd8 ct8 : Value}
    (a8 : PySem.W.nsIn K mainGlobals "grants_error" = some (some (.ref f8))) (l8 : K.lookup f8 = some ⟨oc8, od8, .func (PySem.W.fnOf "grants_error" "grants_error" (defArgs s_grants_error) (defBody s_grants_error) (defScope s_grants_error) .none kV8 dc8 pm8 an8 cd8 ct8), sl8⟩) (c8 : PySem.W.codeIn K cd8 "grants_error" = true) (k8 : PySem.W.keepIn K (.ref f8) = true)
    {f9 : Addr} {od9 an9 : Option Addr} {sl9 : Array (Option Value)} {oc9 kV9 dc9 pm9 cd9 ct9 : Value}
    (a9 : PySem.W.nsIn K mainGlobals "persons_in" = some (some (.ref f9))) (l9 : K.lookup f9 = some ⟨oc9, od9, .func (PySem.W.fnOf "persons_in" "persons_in" (defArgs s_persons_in) (defBody s_persons_in) (defScope s_persons_in) .none kV9 dc9 pm9 an9 cd9 ct9), sl9⟩) (c9 : PySem.W.codeIn K cd9 "persons_in" = true) (k9 : PySem.W.keepIn K (.ref f9) = true)
    {f10 : Addr} {od10 an10 : Option Addr} {sl10 : Array (Option Value)} {oc10 kV10 dc10 pm10 cd10 ct10 : Value}
    (a10 : PySem.W.nsIn K mainGlobals "need_same_owners" = some (some (.ref f10))) (l10 : K.lookup f10 = some ⟨oc10, od10, .func (PySem.W.fnOf "need_same_owners" "need_same_owners" (defArgs s_need_same_owners) (defBody s_need_same_owners) (defScope s_need_same_owners) .none kV10 dc10 pm10 an10 cd10 ct10), sl10⟩) (c10 : PySem.W.codeIn K cd10 "need_same_owners" = true) (k10 : PySem.W.keepIn K (.ref f10) = true)
    {f11 : Addr} {od11 an11 : Option Addr} {sl11 : Array (Option Value)} {oc11 kV11 dc11 pm11 cd11 ct11 : Value}
    (a11 : PySem.W.nsIn K mainGlobals "counts_beside" = some (some (.ref f11))) (l11 : K.lookup f11 = some ⟨oc11, od11, .func (PySem.W.fnOf "counts_beside" "counts_beside" (defArgs s_counts_beside) (defBody s_counts_beside) (defScope s_counts_beside) .none kV11 dc11 pm11 an11 cd11 ct11), sl11⟩) (c11 : PySem.W.codeIn K cd11 "counts_beside" = true) (k11 : PySem.W.keepIn K (.ref f11) = true)
    {f12 : Addr} {od12 an12 : Option Addr} {sl12 : Array (Option Value)} {oc12 kV12 dc12 pm12 cd12 ct12 : Value}
    (a12 : PySem.W.nsIn K mainGlobals "counting_among" = some (some (.ref f12))) (l12 : K.lookup f12 = some ⟨oc12, od12, .func (PySem.W.fnOf "counting_among" "counting_among" (defArgs s_counting_among) (defBody s_counting_among) (defScope s_counting_among) .none kV12 dc12 pm12 an12 cd12 ct12), sl12⟩) (c12 : PySem.W.codeIn K cd12 "counting_among" = true) (k12 : PySem.W.keepIn K (.ref f12) = true)
    {f13 : Addr} {od13 an13 : Option Addr} {sl13 : Array (Option Value)} {oc13 kV13 dc13 pm13 cd13 ct13 : Value}
    (a13 : PySem.W.nsIn K mainGlobals "counting_grants" = some (some (.ref f13))) (l13 : K.lookup f13 = some ⟨oc13, od13, .func (PySem.W.fnOf "counting_grants" "counting_grants" (defArgs s_counting_grants) (defBody s_counting_grants) (defScope s_counting_grants) .none kV13 dc13 pm13 an13 cd13 ct13), sl13⟩) (c13 : PySem.W.codeIn K cd13 "counting_grants" = true) (k13 : PySem.W.keepIn K (.ref f13) = true)
    {f14 : Addr} {od14 an14 : Option Addr} {sl14 : Array (Option Value)} {oc14 kV14 dc14 pm14 cd14 ct14 : Value}
    (a14 : PySem.W.nsIn K mainGlobals "covers" = some (some (.ref f14))) (l14 : K.lookup f14 = some ⟨oc14, od14, .func (PySem.W.fnOf "covers" "covers" (defArgs s_covers) (defBody s_covers) (defScope s_covers) .none kV14 dc14 pm14 an14 cd14 ct14), sl14⟩) (c14 : PySem.W.codeIn K cd14 "covers" = true) (k14 : PySem.W.keepIn K (.ref f14) = true)
    {f15 : Addr} {od15 an15 : Option Addr} {sl15 : Array (Option Value)} {oc15 kV15 dc15 pm15 cd15 ct15 : Value}
    (a15 : PySem.W.nsIn K mainGlobals "is_to" = some (some (.ref f15))) (l15 : K.lookup f15 = some ⟨oc15, od15, .func (PySem.W.fnOf "is_to" "is_to" (defArgs s_is_to) (defBody s_is_to) (defScope s_is_to) .none kV15 dc15 pm15 an15 cd15 ct15), sl15⟩) (c15 : PySem.W.codeIn K cd15 "is_to" = true) (k15 : PySem.W.keepIn K (.ref f15) = true)
    {f16 : Addr} {od16 an16 : Option Addr} {sl16 : Array (Option Value)} {oc16 kV16 dc16 pm16 cd16 ct16 : Value}
    (a16 : PySem.W.nsIn K mainGlobals "top_powers" = some (some (.ref f16))) (l16 : K.lookup f16 = some ⟨oc16, od16, .func (PySem.W.fnOf "top_powers" "top_powers" (defArgs s_top_powers) (defBody s_top_powers) (defScope s_top_powers) .none kV16 dc16 pm16 an16 cd16 ct16), sl16⟩) (c16 : PySem.W.codeIn K cd16 "top_powers" = true) (k16 : PySem.W.keepIn K (.ref f16) = true)
    {f17 : Addr} {od17 an17 : Option Addr} {sl17 : Array (Option Value)} {oc17 kV17 dc17 pm17 cd17 ct17 : Value}
    (a17 : PySem.W.nsIn K mainGlobals "later_grant" = some (some (.ref f17))) (l17 : K.lookup f17 = some ⟨oc17, od17, .func (PySem.W.fnOf "later_grant" "later_grant" (defArgs s_later_grant) (defBody s_later_grant) (defScope s_later_grant) .none kV17 dc17 pm17 an17 cd17 ct17), sl17⟩) (c17 : PySem.W.codeIn K cd17 "later_grant" = true) (k17 : PySem.W.keepIn K (.ref f17) = true)
    {f18 : Addr} {od18 an18 : Option Addr} {sl18 : Array (Option Value)} {oc18 kV18 dc18 pm18 cd18 ct18 : Value}
    (a18 : PySem.W.nsIn K mainGlobals "time_after" = some (some (.ref f18))) (l18 : K.lookup f18 = some ⟨oc18, od18, .func (PySem.W.fnOf "time_after" "time_after" (defArgs s_time_after) (defBody s_time_after) (defScope s_time_after) .none kV18 dc18 pm18 an18 cd18 ct18), sl18⟩) (c18 : PySem.W.codeIn K cd18 "time_after" = true) (k18 : PySem.W.keepIn K (.ref f18) = true)
    {f19 : Addr} {od19 an19 : Option Addr} {sl19 : Array (Option Value)} {oc19 kV19 dc19 pm19 cd19 ct19 : Value}
    (a19 : PySem.W.nsIn K mainGlobals "least_difference" = some (some (.ref f19))) (l19 : K.lookup f19 = some ⟨oc19, od19, .func (PySem.W.fnOf "least_difference" "least_difference" (defArgs s_least_difference) (defBody s_least_difference) (defScope s_least_difference) .none kV19 dc19 pm19 an19 cd19 ct19), sl19⟩) (c19 : PySem.W.codeIn K cd19 "least_difference" = true) (k19 : PySem.W.keepIn K (.ref f19) = true)
    {f20 : Addr} {od20 an20 : Option Addr} {sl20 : Array (Option Value)} {oc20 kV20 dc20 pm20 cd20 ct20 : Value}
    (a20 : PySem.W.nsIn K mainGlobals "has_one" = some (some (.ref f20))) (l20 : K.lookup f20 = some ⟨oc20, od20, .func (PySem.W.fnOf "has_one" "has_one" (defArgs s_has_one) (defBody s_has_one) (defScope s_has_one) .none kV20 dc20 pm20 an20 cd20 ct20), sl20⟩) (c20 : PySem.W.codeIn K cd20 "has_one" = true) (k20 : PySem.W.keepIn K (.ref f20) = true)
    {f21 : Addr} {od21 an21 : Option Addr} {sl21 : Array (Option Value)} {oc21 kV21 dc21 pm21 cd21 ct21 : Value}
    (a21 : PySem.W.nsIn K mainGlobals "_law_source" = some (some (.ref f21))) (l21 : K.lookup f21 = some ⟨oc21, od21, .func (PySem.W.fnOf "_law_source" "_law_source" (defArgs s_law_source) (defBody s_law_source) (defScope s_law_source) .none kV21 dc21 pm21 an21 cd21 ct21), sl21⟩) (c21 : PySem.W.codeIn K cd21 "_law_source" = true) (k21 : PySem.W.keepIn K (.ref f21) = true)
    {f22 : Addr} {od22 an22 : Option Addr} {sl22 : Array (Option Value)} {oc22 kV22 dc22 pm22 cd22 ct22 : Value}
    (a22 : PySem.W.nsIn K mainGlobals "_law_draw" = some (some (.ref f22))) (l22 : K.lookup f22 = some ⟨oc22, od22, .func (PySem.W.fnOf "_law_draw" "_law_draw" (defArgs s_law_draw) (defBody s_law_draw) (defScope s_law_draw) .none kV22 dc22 pm22 an22 cd22 ct22), sl22⟩) (c22 : PySem.W.codeIn K cd22 "_law_draw" = true) (k22 : PySem.W.keepIn K (.ref f22) = true)
    {f23 : Addr} {od23 an23 : Option Addr} {sl23 : Array (Option Value)} {oc23 kV23 dc23 pm23 cd23 ct23 : Value}
    (a23 : PySem.W.nsIn K mainGlobals "_law_pick" = some (some (.ref f23))) (l23 : K.lookup f23 = some ⟨oc23, od23, .func (PySem.W.fnOf "_law_pick" "_law_pick" (defArgs s_law_pick) (defBody s_law_pick) (defScope s_law_pick) .none kV23 dc23 pm23 an23 cd23 ct23), sl23⟩) (c23 : PySem.W.codeIn K cd23 "_law_pick" = true) (k23 : PySem.W.keepIn K (.ref f23) = true)
    {f24 : Addr} {od24 an24 : Option Addr} {sl24 : Array (Option Value)} {oc24 kV24 dc24 pm24 cd24 ct24 : Value}
    (a24 : PySem.W.nsIn K mainGlobals "_law_shuffle" = some (some (.ref f24))) (l24 : K.lookup f24 = some ⟨oc24, od24, .func (PySem.W.fnOf "_law_shuffle" "_law_shuffle" (defArgs s_law_shuffle) (defBody s_law_shuffle) (defScope s_law_shuffle) .none kV24 dc24 pm24 an24 cd24 ct24), sl24⟩) (c24 : PySem.W.codeIn K cd24 "_law_shuffle" = true) (k24 : PySem.W.keepIn K (.ref f24) = true)
    {f25 : Addr} {od25 an25 : Option Addr} {sl25 : Array (Option Value)} {oc25 kV25 dc25 pm25 cd25 ct25 : Value}
    (a25 : PySem.W.nsIn K mainGlobals "_law_word" = some (some (.ref f25))) (l25 : K.lookup f25 = some ⟨oc25, od25, .func (PySem.W.fnOf "_law_word" "_law_word" (defArgs s_law_word) (defBody s_law_word) (defScope s_law_word) .none kV25 dc25 pm25 an25 cd25 ct25), sl25⟩) (c25 : PySem.W.codeIn K cd25 "_law_word" = true) (k25 : PySem.W.keepIn K (.ref f25) = true)
    {f26 : Addr} {od26 an26 : Option Addr} {sl26 : Array (Option Value)} {oc26 kV26 dc26 pm26 cd26 ct26 : Value}
    (a26 : PySem.W.nsIn K mainGlobals "_law_owners_and_names" = some (some (.ref f26))) (l26 : K.lookup f26 = some ⟨oc26, od26, .func (PySem.W.fnOf "_law_owners_and_names" "_law_owners_and_names" (defArgs s_law_owners_and_names) (defBody s_law_owners_and_names) (defScope s_law_owners_and_names) .none kV26 dc26 pm26 an26 cd26 ct26), sl26⟩) (c26 : PySem.W.codeIn K cd26 "_law_owners_and_names" = true) (k26 : PySem.W.keepIn K (.ref f26) = true)
    {f27 : Addr} {od27 an27 : Option Addr} {sl27 : Array (Option Value)} {oc27 kV27 dc27 pm27 cd27 ct27 : Value}
    (a27 : PySem.W.nsIn K mainGlobals "_law_entries" = some (some (.ref f27))) (l27 : K.lookup f27 = some ⟨oc27, od27, .func (PySem.W.fnOf "_law_entries" "_law_entries" (defArgs s_law_entries) (defBody s_law_entries) (defScope s_law_entries) .none kV27 dc27 pm27 an27 cd27 ct27), sl27⟩) (c27 : PySem.W.codeIn K cd27 "_law_entries" = true) (k27 : PySem.W.keepIn K (.ref f27) = true)
    {f28 : Addr} {od28 an28 : Option Addr} {sl28 : Array (Option Value)} {oc28 kV28 dc28 pm28 cd28 ct28 : Value}
    (a28 : PySem.W.nsIn K mainGlobals "_law_make" = some (some (.ref f28))) (l28 : K.lookup f28 = some ⟨oc28, od28, .func (PySem.W.fnOf "_law_make" "_law_make" (defArgs s_law_make) (defBody s_law_make) (defScope s_law_make) .none kV28 dc28 pm28 an28 cd28 ct28), sl28⟩) (c28 : PySem.W.codeIn K cd28 "_law_make" = true) (k28 : PySem.W.keepIn K (.ref f28) = true)
    {f29 : Addr} {od29 an29 : Option Addr} {sl29 : Array (Option Value)} {oc29 kV29 dc29 pm29 cd29 ct29 : Value}
    (a29 : PySem.W.nsIn K mainGlobals "_law_is_support" = some (some (.ref f29))) (l29 : K.lookup f29 = some ⟨oc29, od29, .func (PySem.W.fnOf "_law_is_support" "_law_is_support" (defArgs s_law_is_support) (defBody s_law_is_support) (defScope s_law_is_support) .none kV29 dc29 pm29 an29 cd29 ct29), sl29⟩) (c29 : PySem.W.codeIn K cd29 "_law_is_support" = true) (k29 : PySem.W.keepIn K (.ref f29) = true)
    {f30 : Addr} {od30 an30 : Option Addr} {sl30 : Array (Option Value)} {oc30 kV30 dc30 pm30 cd30 ct30 : Value}
    (a30 : PySem.W.nsIn K mainGlobals "_law_counting" = some (some (.ref f30))) (l30 : K.lookup f30 = some ⟨oc30, od30, .func (PySem.W.fnOf "_law_counting" "_law_counting" (defArgs s_law_counting) (defBody s_law_counting) (defScope s_law_counting) .none kV30 dc30 pm30 an30 cd30 ct30), sl30⟩) (c30 : PySem.W.codeIn K cd30 "_law_counting" = true) (k30 : PySem.W.keepIn K (.ref f30) = true)
    {f31 : Addr} {od31 an31 : Option Addr} {sl31 : Array (Option Value)} {oc31 kV31 dc31 pm31 cd31 ct31 : Value}
    (a31 : PySem.W.nsIn K mainGlobals "_law_is_one" = some (some (.ref f31))) (l31 : K.lookup f31 = some ⟨oc31, od31, .func (PySem.W.fnOf "_law_is_one" "_law_is_one" (defArgs s_law_is_one) (defBody s_law_is_one) (defScope s_law_is_one) .none kV31 dc31 pm31 an31 cd31 ct31), sl31⟩) (c31 : PySem.W.codeIn K cd31 "_law_is_one" = true) (k31 : PySem.W.keepIn K (.ref f31) = true)
    {f32 : Addr} {od32 an32 : Option Addr} {sl32 : Array (Option Value)} {oc32 kV32 dc32 pm32 cd32 ct32 : Value}
    (a32 : PySem.W.nsIn K mainGlobals "_law_later" = some (some (.ref f32))) (l32 : K.lookup f32 = some ⟨oc32, od32, .func (PySem.W.fnOf "_law_later" "_law_later" (defArgs s_law_later) (defBody s_law_later) (defScope s_law_later) .none kV32 dc32 pm32 an32 cd32 ct32), sl32⟩) (c32 : PySem.W.codeIn K cd32 "_law_later" = true) (k32 : PySem.W.keepIn K (.ref f32) = true)
    {f33 : Addr} {od33 an33 : Option Addr} {sl33 : Array (Option Value)} {oc33 kV33 dc33 pm33 cd33 ct33 : Value}
    (a33 : PySem.W.nsIn K mainGlobals "law" = some (some (.ref f33))) (l33 : K.lookup f33 = some ⟨oc33, od33, .func (PySem.W.fnOf "law" "law" (defArgs s_law) (defBody s_law) (defScope s_law) .none kV33 dc33 pm33 an33 cd33 ct33), sl33⟩) (c33 : PySem.W.codeIn K cd33 "law" = true) (k33 : PySem.W.keepIn K (.ref f33) = true)
    {tk_ENTRIES : Tok} (z_ENTRIES : PySem.W.nsIn K mainGlobals "ENTRIES" = some (some (.int (5) tk_ENTRIES)))
    {tk_GIVER : Tok} (z_GIVER : PySem.W.nsIn K mainGlobals "GIVER" = some (some (.int (1) tk_GIVER)))
    {tk_LEAST_LEVEL : Tok} (z_LEAST_LEVEL : PySem.W.nsIn K mainGlobals "LEAST_LEVEL" = some (some (.int (1) tk_LEAST_LEVEL)))
    {tk_LEVEL : Tok} (z_LEVEL : PySem.W.nsIn K mainGlobals "LEVEL" = some (some (.int (3) tk_LEVEL)))
    {tk_MOST_LETTERS : Tok} (z_MOST_LETTERS : PySem.W.nsIn K mainGlobals "MOST_LETTERS" = some (some (.int (8) tk_MOST_LETTERS)))
    {tk_MOST_LEVEL : Tok} (z_MOST_LEVEL : PySem.W.nsIn K mainGlobals "MOST_LEVEL" = some (some (.int (9) tk_MOST_LEVEL)))
    {tk_MOST_OWNERS : Tok} (z_MOST_OWNERS : PySem.W.nsIn K mainGlobals "MOST_OWNERS" = some (some (.int (4) tk_MOST_OWNERS)))
    {tk_MOST_PASSES : Tok} (z_MOST_PASSES : PySem.W.nsIn K mainGlobals "MOST_PASSES" = some (some (.int (20) tk_MOST_PASSES)))
    {tk_MOST_TIME : Tok} (z_MOST_TIME : PySem.W.nsIn K mainGlobals "MOST_TIME" = some (some (.int (1000000000000000000000000000000) tk_MOST_TIME)))
    {tk_TAKER : Tok} (z_TAKER : PySem.W.nsIn K mainGlobals "TAKER" = some (some (.int (2) tk_TAKER)))
    {tk_TIME : Tok} (z_TIME : PySem.W.nsIn K mainGlobals "TIME" = some (some (.int (0) tk_TIME)))
    (y_ValueError : PySem.W.nsIn K mainGlobals "ValueError" = some none)
    (y_abs : PySem.W.nsIn K mainGlobals "abs" = some none)
    (y_all : PySem.W.nsIn K mainGlobals "all" = some none)
    (y_any : PySem.W.nsIn K mainGlobals "any" = some none)
    (y_bool : PySem.W.nsIn K mainGlobals "bool" = some none)
    (y_enumerate : PySem.W.nsIn K mainGlobals "enumerate" = some none)
    (y_int : PySem.W.nsIn K mainGlobals "int" = some none)
    (y_isinstance : PySem.W.nsIn K mainGlobals "isinstance" = some none)
    (y_len : PySem.W.nsIn K mainGlobals "len" = some none)
    (y_list : PySem.W.nsIn K mainGlobals "list" = some none)
    (y_max : PySem.W.nsIn K mainGlobals "max" = some none)
    (y_min : PySem.W.nsIn K mainGlobals "min" = some none)
    (y_range : PySem.W.nsIn K mainGlobals "range" = some none)
    (y_set : PySem.W.nsIn K mainGlobals "set" = some none)
    (y_sorted : PySem.W.nsIn K mainGlobals "sorted" = some none)
    (y_str : PySem.W.nsIn K mainGlobals "str" = some none)
    (y_super : PySem.W.nsIn K mainGlobals "super" = some none)
    (y_tuple : PySem.W.nsIn K mainGlobals "tuple" = some none)
    {nmG qG : Str} {NG : Addr} {bsG : List Value} {snG2 : List Str} {subG : List Value} {abG : Bool} {colG : Option Bool} {ddG : Option Addr} {n0 n1 n2 n3 n5 : Option Value} {G1 : Addr} {nm_InvalidRoll q_InvalidRoll : Str} {N_InvalidRoll : Addr} {bs_InvalidRoll : List Value} {sn_InvalidRoll : List Str} {sub_InvalidRoll : List Value} {ab_InvalidRoll : Bool} {col_InvalidRoll : Option Bool} {dd_InvalidRoll : Option Addr} {m0_InvalidRoll m1_InvalidRoll m2_InvalidRoll m3_InvalidRoll m5_InvalidRoll : Option Value} {E_InvalidRoll : Addr} {nm_OtherOwners q_OtherOwners : Str} {N_OtherOwners : Addr} {bs_OtherOwners : List Value} {sn_OtherOwners : List Str} {sub_OtherOwners : List Value} {ab_OtherOwners : Bool} {col_OtherOwners : Option Bool} {dd_OtherOwners : Option Addr} {m0_OtherOwners m1_OtherOwners m2_OtherOwners m3_OtherOwners m5_OtherOwners : Option Value} {E_OtherOwners : Addr} {nm_InvalidName q_InvalidName : Str} {N_InvalidName : Addr} {bs_InvalidName : List Value} {sn_InvalidName : List Str} {sub_InvalidName : List Value} {ab_InvalidName : Bool} {col_InvalidName : Option Bool} {dd_InvalidName : Option Addr} {m0_InvalidName m1_InvalidName m2_InvalidName m3_InvalidName m5_InvalidName : Option Value} {E_InvalidName : Addr} {nm_InvalidTime q_InvalidTime : Str} {N_InvalidTime : Addr} {bs_InvalidTime : List Value} {sn_InvalidTime : List Str} {sub_InvalidTime : List Value} {ab_InvalidTime : Bool} {col_InvalidTime : Option Bool} {dd_InvalidTime : Option Addr} {m0_InvalidTime m1_InvalidTime m2_InvalidTime m3_InvalidTime m5_InvalidTime : Option Value} {E_InvalidTime : Addr} {fI_InvalidRoll cda_InvalidRoll cc_InvalidRoll : Addr} {ocI_InvalidRoll docI_InvalidRoll pmI_InvalidRoll ctI_InvalidRoll : Value} {odI_InvalidRoll anI_InvalidRoll : Option Addr} {slI_InvalidRoll : Array (Option Value)} {cclC_InvalidRoll clC_InvalidRoll : Value} {cddC_InvalidRoll cldC_InvalidRoll : Option Addr} {vsC_InvalidRoll : Array Value} {csC_InvalidRoll cslC_InvalidRoll : Array (Option Value)} {fileC_InvalidRoll : Str} {tfC_InvalidRoll : Tok} {R0 fR : Addr} {ocR kVR dcR pmR cdR ctR : Value} {odR anR : Option Addr} {slR : Array (Option Value)} {pO_owners gO_owners : Addr} {rest_owners : List Value} {ocP_owners kVP_owners dcP_owners pmP_owners cdP_owners ctP_owners : Value} {odP_owners anP_owners : Option Addr} {slP_owners : Array (Option Value)} {pO_grants gO_grants : Addr} {rest_grants : List Value} {ocP_grants kVP_grants dcP_grants pmP_grants cdP_grants ctP_grants : Value} {odP_grants anP_grants : Option Addr} {slP_grants : Array (Option Value)} {pO_persons gO_persons : Addr} {rest_persons : List Value} {ocP_persons kVP_persons dcP_persons pmP_persons cdP_persons ctP_persons : Value} {odP_persons anP_persons : Option Addr} {slP_persons : Array (Option Value)} {tk_MOST_GRANTS : Tok}
    (aG : PySem.W.nsIn K mainGlobals "GrantrollError" = some (some (.ref G1)))
    (xG : K.lookup G1 = some (excClassObj nmG qG G1 NG bsG [.type "ValueError", .type "Exception", .type "BaseException", .type "object"] true snG2 subG abG colG ddG n0 n1 n2 n3 n5 "ValueError.__new__"))
    (iG : PySem.W.findIn K (.ref G1) "__init__" = some (some (.builtin "ValueError.__init__")))
    (tA : PySem.W.nsIn K cStatics "thirdparty.any" = some none)
    (bG : PySem.W.subIn K (.ref G1) (.type "BaseException") = some true)
    (hdG : PySem.W.hasDictIn K G1 = true)
    (tG : PySem.W.typeIn K (.ref G1) = some (.type "type"))
    (snG : PySem.W.specialIn K (.builtin "object.__class__") "__get__" = some (some (.builtin "getset_descriptor.__get__")))
    (tkG : PySem.W.takesIn K (.builtin "object.__class__") = some true)
    (zd : PySem.W.nsIn K cStatics "sys.int_max_str_digits" = some none)
    (topS : (l.prog.main.scope.names.lookup ("super" : Str)).isSome = false)
    (aE_InvalidRoll : PySem.W.nsIn K mainGlobals "InvalidRoll" = some (some (.ref E_InvalidRoll)))
    (xE_InvalidRoll : K.lookup E_InvalidRoll = some (excClassObj nm_InvalidRoll q_InvalidRoll E_InvalidRoll N_InvalidRoll bs_InvalidRoll [.ref G1, .type "ValueError", .type "Exception", .type "BaseException", .type "object"] true sn_InvalidRoll sub_InvalidRoll ab_InvalidRoll col_InvalidRoll dd_InvalidRoll m0_InvalidRoll m1_InvalidRoll m2_InvalidRoll m3_InvalidRoll m5_InvalidRoll "ValueError.__new__"))
    (rE_InvalidRoll : PySem.W.mroIn K E_InvalidRoll (.ref E_InvalidRoll) = some true)
    (vE_InvalidRoll : PySem.W.subIn K (.ref E_InvalidRoll) (.type "ValueError") = some true)
    (kE_InvalidRoll : PySem.W.keepIn K (.ref E_InvalidRoll) = true)
    (bE_InvalidRoll : PySem.W.subIn K (.ref E_InvalidRoll) (.type "BaseException") = some true)
    (tE_InvalidRoll : PySem.W.typeIn K (.ref E_InvalidRoll) = some (.type "type"))
    (gaE_InvalidRoll : PySem.W.findIn K (.ref E_InvalidRoll) "__getattribute__" = some (some (.builtin "BaseException.__getattribute__")))
    (hdE_InvalidRoll : PySem.W.hasDictIn K E_InvalidRoll = true)
    (gtE_InvalidRoll : PySem.W.findIn K (.ref E_InvalidRoll) "__getattr__" = some none)
    (caE_InvalidRoll : PySem.W.findIn K (.ref E_InvalidRoll) "__class__" = some (some (.builtin "object.__class__")))
    (moE_InvalidRoll : PySem.W.mroIn K E_InvalidRoll (.type "object") = some true)
    (sEG_InvalidRoll : PySem.W.subIn K (.ref E_InvalidRoll) (.ref G1) = some true)
    (kV_InvalidRoll : PySem.W.kitOne K (.ref E_InvalidRoll) (.type "ValueError") = some true)
    (aE_OtherOwners : PySem.W.nsIn K mainGlobals "OtherOwners" = some (some (.ref E_OtherOwners)))
    (xE_OtherOwners : K.lookup E_OtherOwners = some (excClassObj nm_OtherOwners q_OtherOwners E_OtherOwners N_OtherOwners bs_OtherOwners [.ref G1, .type "ValueError", .type "Exception", .type "BaseException", .type "object"] true sn_OtherOwners sub_OtherOwners ab_OtherOwners col_OtherOwners dd_OtherOwners m0_OtherOwners m1_OtherOwners m2_OtherOwners m3_OtherOwners m5_OtherOwners "ValueError.__new__"))
    (rE_OtherOwners : PySem.W.mroIn K E_OtherOwners (.ref E_OtherOwners) = some true)
    (vE_OtherOwners : PySem.W.subIn K (.ref E_OtherOwners) (.type "ValueError") = some true)
    (kE_OtherOwners : PySem.W.keepIn K (.ref E_OtherOwners) = true)
    (bE_OtherOwners : PySem.W.subIn K (.ref E_OtherOwners) (.type "BaseException") = some true)
    (tE_OtherOwners : PySem.W.typeIn K (.ref E_OtherOwners) = some (.type "type"))
    (gaE_OtherOwners : PySem.W.findIn K (.ref E_OtherOwners) "__getattribute__" = some (some (.builtin "BaseException.__getattribute__")))
    (hdE_OtherOwners : PySem.W.hasDictIn K E_OtherOwners = true)
    (gtE_OtherOwners : PySem.W.findIn K (.ref E_OtherOwners) "__getattr__" = some none)
    (caE_OtherOwners : PySem.W.findIn K (.ref E_OtherOwners) "__class__" = some (some (.builtin "object.__class__")))
    (moE_OtherOwners : PySem.W.mroIn K E_OtherOwners (.type "object") = some true)
    (sEG_OtherOwners : PySem.W.subIn K (.ref E_OtherOwners) (.ref G1) = some true)
    (kV_OtherOwners : PySem.W.kitOne K (.ref E_OtherOwners) (.type "ValueError") = some true)
    (aE_InvalidName : PySem.W.nsIn K mainGlobals "InvalidName" = some (some (.ref E_InvalidName)))
    (xE_InvalidName : K.lookup E_InvalidName = some (excClassObj nm_InvalidName q_InvalidName E_InvalidName N_InvalidName bs_InvalidName [.ref G1, .type "ValueError", .type "Exception", .type "BaseException", .type "object"] true sn_InvalidName sub_InvalidName ab_InvalidName col_InvalidName dd_InvalidName m0_InvalidName m1_InvalidName m2_InvalidName m3_InvalidName m5_InvalidName "ValueError.__new__"))
    (rE_InvalidName : PySem.W.mroIn K E_InvalidName (.ref E_InvalidName) = some true)
    (vE_InvalidName : PySem.W.subIn K (.ref E_InvalidName) (.type "ValueError") = some true)
    (kE_InvalidName : PySem.W.keepIn K (.ref E_InvalidName) = true)
    (bE_InvalidName : PySem.W.subIn K (.ref E_InvalidName) (.type "BaseException") = some true)
    (tE_InvalidName : PySem.W.typeIn K (.ref E_InvalidName) = some (.type "type"))
    (gaE_InvalidName : PySem.W.findIn K (.ref E_InvalidName) "__getattribute__" = some (some (.builtin "BaseException.__getattribute__")))
    (hdE_InvalidName : PySem.W.hasDictIn K E_InvalidName = true)
    (gtE_InvalidName : PySem.W.findIn K (.ref E_InvalidName) "__getattr__" = some none)
    (caE_InvalidName : PySem.W.findIn K (.ref E_InvalidName) "__class__" = some (some (.builtin "object.__class__")))
    (moE_InvalidName : PySem.W.mroIn K E_InvalidName (.type "object") = some true)
    (sEG_InvalidName : PySem.W.subIn K (.ref E_InvalidName) (.ref G1) = some true)
    (kV_InvalidName : PySem.W.kitOne K (.ref E_InvalidName) (.type "ValueError") = some true)
    (aE_InvalidTime : PySem.W.nsIn K mainGlobals "InvalidTime" = some (some (.ref E_InvalidTime)))
    (xE_InvalidTime : K.lookup E_InvalidTime = some (excClassObj nm_InvalidTime q_InvalidTime E_InvalidTime N_InvalidTime bs_InvalidTime [.ref G1, .type "ValueError", .type "Exception", .type "BaseException", .type "object"] true sn_InvalidTime sub_InvalidTime ab_InvalidTime col_InvalidTime dd_InvalidTime m0_InvalidTime m1_InvalidTime m2_InvalidTime m3_InvalidTime m5_InvalidTime "ValueError.__new__"))
    (rE_InvalidTime : PySem.W.mroIn K E_InvalidTime (.ref E_InvalidTime) = some true)
    (vE_InvalidTime : PySem.W.subIn K (.ref E_InvalidTime) (.type "ValueError") = some true)
    (kE_InvalidTime : PySem.W.keepIn K (.ref E_InvalidTime) = true)
    (bE_InvalidTime : PySem.W.subIn K (.ref E_InvalidTime) (.type "BaseException") = some true)
    (tE_InvalidTime : PySem.W.typeIn K (.ref E_InvalidTime) = some (.type "type"))
    (gaE_InvalidTime : PySem.W.findIn K (.ref E_InvalidTime) "__getattribute__" = some (some (.builtin "BaseException.__getattribute__")))
    (hdE_InvalidTime : PySem.W.hasDictIn K E_InvalidTime = true)
    (gtE_InvalidTime : PySem.W.findIn K (.ref E_InvalidTime) "__getattr__" = some none)
    (caE_InvalidTime : PySem.W.findIn K (.ref E_InvalidTime) "__class__" = some (some (.builtin "object.__class__")))
    (moE_InvalidTime : PySem.W.mroIn K E_InvalidTime (.type "object") = some true)
    (sEG_InvalidTime : PySem.W.subIn K (.ref E_InvalidTime) (.ref G1) = some true)
    (kV_InvalidTime : PySem.W.kitOne K (.ref E_InvalidTime) (.type "ValueError") = some true)
    (oE_InvalidRoll : PySem.W.findIn K (.ref E_InvalidRoll) "__setattr__" = some (some (.builtin "object.__setattr__")))
    (fE_InvalidRoll : PySem.W.findIn K (.ref E_InvalidRoll) "reason" = some none)
    (jE_InvalidRoll : PySem.W.findIn K (.ref E_InvalidRoll) "__init__" = some (some (.ref fI_InvalidRoll)))
    (lI_InvalidRoll : K.lookup fI_InvalidRoll = some ⟨ocI_InvalidRoll, odI_InvalidRoll, .func (PySem.W.ksFn "__init__" "InvalidRoll.__init__" (defArgs s_InvalidRoll_init) (defBody s_InvalidRoll_init) (DX.sxS "reason") .none .none docI_InvalidRoll pmI_InvalidRoll anI_InvalidRoll (.ref cda_InvalidRoll) ctI_InvalidRoll cc_InvalidRoll), slI_InvalidRoll⟩)
    (cI_InvalidRoll : PySem.W.codeIn K (.ref cda_InvalidRoll) "InvalidRoll.__init__" = true)
    (lC_InvalidRoll : K.lookup cda_InvalidRoll = some ⟨cclC_InvalidRoll, cddC_InvalidRoll, .fields vsC_InvalidRoll, csC_InvalidRoll⟩)
    (vC_InvalidRoll : vsC_InvalidRoll[2]? = some (.str fileC_InvalidRoll tfC_InvalidRoll))
    (gC_InvalidRoll : (l.prog.main.file == fileC_InvalidRoll) = true)
    (lcC_InvalidRoll : K.lookup cc_InvalidRoll = some ⟨clC_InvalidRoll, cldC_InvalidRoll, .cell (some (.ref E_InvalidRoll)), cslC_InvalidRoll⟩)
    (tI_InvalidRoll : PySem.W.typeIn K (.ref fI_InvalidRoll) = some (.type "function"))
    (bas_OtherOwners : PySem.W.excIn K E_OtherOwners [.type "ValueError", .type "Exception", .type "BaseException", .type "object"] "ValueError.__new__" = true)
    (bas_InvalidName : PySem.W.excIn K E_InvalidName [.type "ValueError", .type "Exception", .type "BaseException", .type "object"] "ValueError.__new__" = true)
    (bas_InvalidTime : PySem.W.excIn K E_InvalidTime [.type "ValueError", .type "Exception", .type "BaseException", .type "object"] "ValueError.__new__" = true)
    (nV : PySem.W.kitOne K (.type "NoneType") (.type "ValueError") = some false)
    (aR : PySem.W.nsIn K mainGlobals "Roll" = some (some (.ref R0)))
    (pgR : PySem.W.plainGet K R0 Str.empty = true)
    (hdR : PySem.W.hasDictIn K R0 = true)
    (poR : PySem.W.plainOver K R0 = true)
    (saR : PySem.W.findIn K (.ref R0) "__setattr__" = some (some (.builtin "object.__setattr__")))
    (mkR : PySem.W.makesIn K R0 = true)
    (kcR : PySem.W.keepIn K (.ref R0) = true)
    (jR : PySem.W.findIn K (.ref R0) "__init__" = some (some (.ref fR)))
    (isR : PySem.W.isFn K (.ref fR) = true)
    (lR : K.lookup fR = some ⟨ocR, odR, .func (PySem.W.fnOf "__init__" "Roll.__init__" (defArgs s_init) (defBody s_init) (defScope s_init) .none kVR dcR pmR anR cdR ctR), slR⟩)
    (cR : PySem.W.codeIn K cdR "Roll.__init__" = true)
    (kR : PySem.W.keepIn K (.ref fR) = true)
    (noA : PySem.W.findIn K (.ref R0) "_owners" = some none)
    (noB : PySem.W.findIn K (.ref R0) "_grants" = some none)
    (noC : PySem.W.findIn K (.ref R0) "_persons" = some none)
    (rdR : PySem.W.readsIn K R0 (.type "type") = true)
    (raR : PySem.W.specialIn K (.ref R0) "__getattribute__" = some (some (.builtin "type.__getattribute__")))
    (pa_owners : PySem.W.findIn K (.ref R0) "owners" = some (some (.ref pO_owners)))
    (pg_owners : PySem.W.specialIn K (.ref pO_owners) "__get__" = some (some (.builtin "property.__get__")))
    (pt_owners : PySem.W.takesIn K (.ref pO_owners) = some true)
    (pr_owners : PySem.W.recIn K pO_owners "property" = some (.ref gO_owners :: rest_owners))
    (pl_owners : K.lookup gO_owners = some ⟨ocP_owners, odP_owners, .func (PySem.W.fnOf "owners" "Roll.owners" (defArgs s_p_owners) (defBody s_p_owners) (defScope s_p_owners) .none kVP_owners dcP_owners pmP_owners anP_owners cdP_owners ctP_owners), slP_owners⟩)
    (pc_owners : PySem.W.codeIn K cdP_owners "Roll.owners" = true)
    (pk_owners : PySem.W.keepIn K (.ref gO_owners) = true)
    (pa_grants : PySem.W.findIn K (.ref R0) "grants" = some (some (.ref pO_grants)))
    (pg_grants : PySem.W.specialIn K (.ref pO_grants) "__get__" = some (some (.builtin "property.__get__")))
    (pt_grants : PySem.W.takesIn K (.ref pO_grants) = some true)
    (pr_grants : PySem.W.recIn K pO_grants "property" = some (.ref gO_grants :: rest_grants))
    (pl_grants : K.lookup gO_grants = some ⟨ocP_grants, odP_grants, .func (PySem.W.fnOf "grants" "Roll.grants" (defArgs s_p_grants) (defBody s_p_grants) (defScope s_p_grants) .none kVP_grants dcP_grants pmP_grants anP_grants cdP_grants ctP_grants), slP_grants⟩)
    (pc_grants : PySem.W.codeIn K cdP_grants "Roll.grants" = true)
    (pk_grants : PySem.W.keepIn K (.ref gO_grants) = true)
    (pa_persons : PySem.W.findIn K (.ref R0) "persons" = some (some (.ref pO_persons)))
    (pg_persons : PySem.W.specialIn K (.ref pO_persons) "__get__" = some (some (.builtin "property.__get__")))
    (pt_persons : PySem.W.takesIn K (.ref pO_persons) = some true)
    (pr_persons : PySem.W.recIn K pO_persons "property" = some (.ref gO_persons :: rest_persons))
    (pl_persons : K.lookup gO_persons = some ⟨ocP_persons, odP_persons, .func (PySem.W.fnOf "persons" "Roll.persons" (defArgs s_p_persons) (defBody s_p_persons) (defScope s_p_persons) .none kVP_persons dcP_persons pmP_persons anP_persons cdP_persons ctP_persons), slP_persons⟩)
    (pc_persons : PySem.W.codeIn K cdP_persons "Roll.persons" = true)
    (pk_persons : PySem.W.keepIn K (.ref gO_persons) = true)
    (fc_MOST_GRANTS : PySem.W.findCls K (.ref R0) (.type "type") "MOST_GRANTS" = some (.val (.int 60 tk_MOST_GRANTS)))
    : ∃ fd : FuncData, (∀ (s : Shared) (v : Value), BindsTo s fd ⟨[v], []⟩ [("script", v)]) ∧ ∀ base : Heap, K.In base → base.Ns mainGlobals mg → FnG l.prog w K mg base 12 fa fd ["script"] (spLaw K) := by
  have e := hfa.symm.trans (PySem.W.mg_of X G a33)
  cases e
  have iE_InvalidRoll : PySem.W.excInitIn K E_InvalidRoll [.type "ValueError", .type "Exception", .type "BaseException", .type "object"] "ValueError.__new__" = true := by
    unfold PySem.W.excInitIn
    rw [xE_InvalidRoll]
    simp [excClassObj, PySem.W.excTail]
  have sE_InvalidRoll : PySem.W.ks_superIn K E_InvalidRoll E_InvalidRoll "__init__" = some (some (.builtin "ValueError.__init__")) := by
    have e : PySem.W.findIn K (.ref G1) "__init__" = PySem.W.alongIn K "__init__" (.ref G1 :: [.type "ValueError", .type "Exception", .type "BaseException", .type "object"]) := by
      unfold PySem.W.findIn
      dsimp only
      rw [xG]
    unfold PySem.W.ks_superIn PySem.W.clsIn
    rw [xE_InvalidRoll]
    show PySem.W.alongIn K "__init__" (((Value.ref E_InvalidRoll :: Value.ref G1 :: [.type "ValueError", .type "Exception", .type "BaseException", .type "object"]).dropWhile (· != .ref E_InvalidRoll)).drop 1) = _
    rw [show (((Value.ref E_InvalidRoll :: Value.ref G1 :: [.type "ValueError", .type "Exception", .type "BaseException", .type "object"]).dropWhile (· != .ref E_InvalidRoll)).drop 1) = Value.ref G1 :: [.type "ValueError", .type "Exception", .type "BaseException", .type "object"] from by simp [List.dropWhile_cons], ← e]
    exact iG
  have sx_InvalidRoll : DX.SxT K l.prog E_InvalidRoll fI_InvalidRoll cda_InvalidRoll cc_InvalidRoll "reason" "not a roll" := {
    cls := ⟨_, _, _, _, _, _, _, _, _, _, _, _, _, _, _, xE_InvalidRoll, by rfl⟩, ini := ⟨_, PySem.F.excBase_ValueError, iE_InvalidRoll⟩, sup := sE_InvalidRoll, isV := vE_InvalidRoll, any := tA, mro := rE_InvalidRoll, sa := oE_InvalidRoll, noN := fE_InvalidRoll, cod := ⟨_, _, _, _, _, _, lC_InvalidRoll, vC_InvalidRoll, gC_InvalidRoll⟩, cel := ⟨_, _, _, lcC_InvalidRoll⟩,
    fn := ⟨_, _, _, _, _, _, _, _, _, _, _, _, _, _, _, _, _, _, _, _, _, _, _, lI_InvalidRoll, cI_InvalidRoll, rfl, fun s x v => .of_eq (by first | rfl | with_unfolding_all rfl), fun env => ⟨_, by rfl⟩, rfl⟩,
    fne := by decide +kernel, fns := by decide +kernel, fnc := by decide +kernel, nfd := by decide +kernel, fnd := by decide +kernel, top := topS }
  have xc_InvalidRoll : DX.SxC K l.prog mg E_InvalidRoll "InvalidRoll" "reason" := { txt := ⟨fI_InvalidRoll, cda_InvalidRoll, cc_InvalidRoll, _, sx_InvalidRoll, jE_InvalidRoll, tI_InvalidRoll⟩, gC := PySem.W.mg_of X G aE_InvalidRoll, gs := PySem.W.mg_none_of X G y_super, ndb := by decide +kernel, kC := kE_InvalidRoll, exC := bE_InvalidRoll, tyC := tE_InvalidRoll, ga := gaE_InvalidRoll, hdC := hdE_InvalidRoll }
  let T : Txt l.prog K mg := {
    a_is_whole := f0, d_is_whole := _, f_is_whole := fun_mk (st := s_is_whole) l0 c0 k0, m_is_whole := PySem.W.mg_of X G a0, b_is_whole := (fun_mk (st := s_is_whole) l0 c0 k0).binds fun _ _ _ _ _ _ us hl => match us, hl with | [_], _ => rfl,
    a_is_within := f1, d_is_within := _, f_is_within := fun_mk (st := s_is_within) l1 c1 k1, m_is_within := PySem.W.mg_of X G a1, b_is_within := (fun_mk (st := s_is_within) l1 c1 k1).binds fun _ _ _ _ _ _ us hl => match us, hl with | [_, _, _], _ => rfl,
    a_is_time := f2, d_is_time := _, f_is_time := fun_mk (st := s_is_time) l2 c2 k2, m_is_time := PySem.W.mg_of X G a2, b_is_time := (fun_mk (st := s_is_time) l2 c2 k2).binds fun _ _ _ _ _ _ us hl => match us, hl with | [_], _ => rfl,
    a_is_name := f3, d_is_name := _, f_is_name := fun_mk (st := s_is_name) l3 c3 k3, m_is_name := PySem.W.mg_of X G a3, b_is_name := (fun_mk (st := s_is_name) l3 c3 k3).binds fun _ _ _ _ _ _ us hl => match us, hl with | [_], _ => rfl,
    a_need_name := f4, d_need_name := _, f_need_name := fun_mk (st := s_need_name) l4 c4 k4, m_need_name := PySem.W.mg_of X G a4, b_need_name := (fun_mk (st := s_need_name) l4 c4 k4).binds fun _ _ _ _ _ _ us hl => match us, hl with | [_], _ => rfl,
    a_grant_error := f5, d_grant_error := _, f_grant_error := fun_mk (st := s_grant_error) l5 c5 k5, m_grant_error := PySem.W.mg_of X G a5, b_grant_error := (fun_mk (st := s_grant_error) l5 c5 k5).binds fun _ _ _ _ _ _ us hl => match us, hl with | [_], _ => rfl,
    a_backs := f6, d_backs := _, f_backs := fun_mk (st := s_backs) l6 c6 k6, m_backs := PySem.W.mg_of X G a6, b_backs := (fun_mk (st := s_backs) l6 c6 k6).binds fun _ _ _ _ _ _ us hl => match us, hl with | [_, _], _ => rfl,
    a_owners_error := f7, d_owners_error := _, f_owners_error := fun_mk (st := s_owners_error) l7 c7 k7, m_owners_error := PySem.W.mg_of X G a7, b_owners_error := (fun_mk (st := s_owners_error) l7 c7 k7).binds fun _ _ _ _ _ _ us hl => match us, hl with | [_], _ => rfl,
    a_grants_error := f8, d_grants_error := _, f_grants_error := fun_mk (st := s_grants_error) l8 c8 k8, m_grants_error := PySem.W.mg_of X G a8, b_grants_error := (fun_mk (st := s_grants_error) l8 c8 k8).binds fun _ _ _ _ _ _ us hl => match us, hl with | [_, _], _ => rfl,
    a_persons_in := f9, d_persons_in := _, f_persons_in := fun_mk (st := s_persons_in) l9 c9 k9, m_persons_in := PySem.W.mg_of X G a9, b_persons_in := (fun_mk (st := s_persons_in) l9 c9 k9).binds fun _ _ _ _ _ _ us hl => match us, hl with | [_, _], _ => rfl,
    a_need_same_owners := f10, d_need_same_owners := _, f_need_same_owners := fun_mk (st := s_need_same_owners) l10 c10 k10, m_need_same_owners := PySem.W.mg_of X G a10, b_need_same_owners := (fun_mk (st := s_need_same_owners) l10 c10 k10).binds fun _ _ _ _ _ _ us hl => match us, hl with | [_, _], _ => rfl,
    a_counts_beside := f11, d_counts_beside := _, f_counts_beside := fun_mk (st := s_counts_beside) l11 c11 k11, m_counts_beside := PySem.W.mg_of X G a11, b_counts_beside := (fun_mk (st := s_counts_beside) l11 c11 k11).binds fun _ _ _ _ _ _ us hl => match us, hl with | [_, _, _], _ => rfl,
    a_counting_among := f12, d_counting_among := _, f_counting_among := fun_mk (st := s_counting_among) l12 c12 k12, m_counting_among := PySem.W.mg_of X G a12, b_counting_among := (fun_mk (st := s_counting_among) l12 c12 k12).binds fun _ _ _ _ _ _ us hl => match us, hl with | [_, _], _ => rfl,
    a_counting_grants := f13, d_counting_grants := _, f_counting_grants := fun_mk (st := s_counting_grants) l13 c13 k13, m_counting_grants := PySem.W.mg_of X G a13, b_counting_grants := (fun_mk (st := s_counting_grants) l13 c13 k13).binds fun _ _ _ _ _ _ us hl => match us, hl with | [_], _ => rfl,
    a_covers := f14, d_covers := _, f_covers := fun_mk (st := s_covers) l14 c14 k14, m_covers := PySem.W.mg_of X G a14, b_covers := (fun_mk (st := s_covers) l14 c14 k14).binds fun _ _ _ _ _ _ us hl => match us, hl with | [_, _], _ => rfl,
    a_is_to := f15, d_is_to := _, f_is_to := fun_mk (st := s_is_to) l15 c15 k15, m_is_to := PySem.W.mg_of X G a15, b_is_to := (fun_mk (st := s_is_to) l15 c15 k15).binds fun _ _ _ _ _ _ us hl => match us, hl with | [_, _, _], _ => rfl,
    a_top_powers := f16, d_top_powers := _, f_top_powers := fun_mk (st := s_top_powers) l16 c16 k16, m_top_powers := PySem.W.mg_of X G a16, b_top_powers := (fun_mk (st := s_top_powers) l16 c16 k16).binds fun _ _ _ _ _ _ us hl => match us, hl with | [_, _, _], _ => rfl,
    a_later_grant := f17, d_later_grant := _, f_later_grant := fun_mk (st := s_later_grant) l17 c17 k17, m_later_grant := PySem.W.mg_of X G a17, b_later_grant := (fun_mk (st := s_later_grant) l17 c17 k17).binds fun _ _ _ _ _ _ us hl => match us, hl with | [_, _, _], _ => rfl,
    a_time_after := f18, d_time_after := _, f_time_after := fun_mk (st := s_time_after) l18 c18 k18, m_time_after := PySem.W.mg_of X G a18, b_time_after := (fun_mk (st := s_time_after) l18 c18 k18).binds fun _ _ _ _ _ _ us hl => match us, hl with | [_, _], _ => rfl,
    a_least_difference := f19, d_least_difference := _, f_least_difference := fun_mk (st := s_least_difference) l19 c19 k19, m_least_difference := PySem.W.mg_of X G a19, b_least_difference := (fun_mk (st := s_least_difference) l19 c19 k19).binds fun _ _ _ _ _ _ us hl => match us, hl with | [_, _], _ => rfl,
    a_has_one := f20, d_has_one := _, f_has_one := fun_mk (st := s_has_one) l20 c20 k20, m_has_one := PySem.W.mg_of X G a20, b_has_one := (fun_mk (st := s_has_one) l20 c20 k20).binds fun _ _ _ _ _ _ us hl => match us, hl with | [_, _], _ => rfl,
    a_law_source := f21, d_law_source := _, f_law_source := fun_mk (st := s_law_source) l21 c21 k21, m_law_source := PySem.W.mg_of X G a21, b_law_source := (fun_mk (st := s_law_source) l21 c21 k21).binds fun _ _ _ _ _ _ us hl => match us, hl with | [_], _ => rfl,
    a_law_draw := f22, d_law_draw := _, f_law_draw := fun_mk (st := s_law_draw) l22 c22 k22, m_law_draw := PySem.W.mg_of X G a22, b_law_draw := (fun_mk (st := s_law_draw) l22 c22 k22).binds fun _ _ _ _ _ _ us hl => match us, hl with | [_, _], _ => rfl,
    a_law_pick := f23, d_law_pick := _, f_law_pick := fun_mk (st := s_law_pick) l23 c23 k23, m_law_pick := PySem.W.mg_of X G a23, b_law_pick := (fun_mk (st := s_law_pick) l23 c23 k23).binds fun _ _ _ _ _ _ us hl => match us, hl with | [_, _], _ => rfl,
    a_law_shuffle := f24, d_law_shuffle := _, f_law_shuffle := fun_mk (st := s_law_shuffle) l24 c24 k24, m_law_shuffle := PySem.W.mg_of X G a24, b_law_shuffle := (fun_mk (st := s_law_shuffle) l24 c24 k24).binds fun _ _ _ _ _ _ us hl => match us, hl with | [_, _], _ => rfl,
    a_law_word := f25, d_law_word := _, f_law_word := fun_mk (st := s_law_word) l25 c25 k25, m_law_word := PySem.W.mg_of X G a25, b_law_word := (fun_mk (st := s_law_word) l25 c25 k25).binds fun _ _ _ _ _ _ us hl => match us, hl with | [_, _], _ => rfl,
    a_law_owners_and_names := f26, d_law_owners_and_names := _, f_law_owners_and_names := fun_mk (st := s_law_owners_and_names) l26 c26 k26, m_law_owners_and_names := PySem.W.mg_of X G a26, b_law_owners_and_names := (fun_mk (st := s_law_owners_and_names) l26 c26 k26).binds fun _ _ _ _ _ _ us hl => match us, hl with | [_], _ => rfl,
    a_law_entries := f27, d_law_entries := _, f_law_entries := fun_mk (st := s_law_entries) l27 c27 k27, m_law_entries := PySem.W.mg_of X G a27, b_law_entries := (fun_mk (st := s_law_entries) l27 c27 k27).binds fun _ _ _ _ _ _ us hl => match us, hl with | [_, _, _, _], _ => rfl,
    a_law_make := f28, d_law_make := _, f_law_make := fun_mk (st := s_law_make) l28 c28 k28, m_law_make := PySem.W.mg_of X G a28, b_law_make := (fun_mk (st := s_law_make) l28 c28 k28).binds fun _ _ _ _ _ _ us hl => match us, hl with | [_, _], _ => rfl,
    a_law_is_support := f29, d_law_is_support := _, f_law_is_support := fun_mk (st := s_law_is_support) l29 c29 k29, m_law_is_support := PySem.W.mg_of X G a29, b_law_is_support := (fun_mk (st := s_law_is_support) l29 c29 k29).binds fun _ _ _ _ _ _ us hl => match us, hl with | [_, _], _ => rfl,
    a_law_counting := f30, d_law_counting := _, f_law_counting := fun_mk (st := s_law_counting) l30 c30 k30, m_law_counting := PySem.W.mg_of X G a30, b_law_counting := (fun_mk (st := s_law_counting) l30 c30 k30).binds fun _ _ _ _ _ _ us hl => match us, hl with | [_, _], _ => rfl,
    a_law_is_one := f31, d_law_is_one := _, f_law_is_one := fun_mk (st := s_law_is_one) l31 c31 k31, m_law_is_one := PySem.W.mg_of X G a31, b_law_is_one := (fun_mk (st := s_law_is_one) l31 c31 k31).binds fun _ _ _ _ _ _ us hl => match us, hl with | [_, _], _ => rfl,
    a_law_later := f32, d_law_later := _, f_law_later := fun_mk (st := s_law_later) l32 c32 k32, m_law_later := PySem.W.mg_of X G a32, b_law_later := (fun_mk (st := s_law_later) l32 c32 k32).binds fun _ _ _ _ _ _ us hl => match us, hl with | [_, _, _, _], _ => rfl,
    a_law := fa, d_law := _, f_law := fun_mk (st := s_law) l33 c33 k33, m_law := PySem.W.mg_of X G a33, b_law := (fun_mk (st := s_law) l33 c33 k33).binds fun _ _ _ _ _ _ us hl => match us, hl with | [_], _ => rfl,
    t_ENTRIES := tk_ENTRIES, c_ENTRIES := PySem.W.mg_of X G z_ENTRIES,
    t_GIVER := tk_GIVER, c_GIVER := PySem.W.mg_of X G z_GIVER,
    t_LEAST_LEVEL := tk_LEAST_LEVEL, c_LEAST_LEVEL := PySem.W.mg_of X G z_LEAST_LEVEL,
    t_LEVEL := tk_LEVEL, c_LEVEL := PySem.W.mg_of X G z_LEVEL,
    t_MOST_LETTERS := tk_MOST_LETTERS, c_MOST_LETTERS := PySem.W.mg_of X G z_MOST_LETTERS,
    t_MOST_LEVEL := tk_MOST_LEVEL, c_MOST_LEVEL := PySem.W.mg_of X G z_MOST_LEVEL,
    t_MOST_OWNERS := tk_MOST_OWNERS, c_MOST_OWNERS := PySem.W.mg_of X G z_MOST_OWNERS,
    t_MOST_PASSES := tk_MOST_PASSES, c_MOST_PASSES := PySem.W.mg_of X G z_MOST_PASSES,
    t_MOST_TIME := tk_MOST_TIME, c_MOST_TIME := PySem.W.mg_of X G z_MOST_TIME,
    t_TAKER := tk_TAKER, c_TAKER := PySem.W.mg_of X G z_TAKER,
    t_TIME := tk_TIME, c_TIME := PySem.W.mg_of X G z_TIME,
    n_ValueError := PySem.W.mg_none_of X G y_ValueError,
    n_abs := PySem.W.mg_none_of X G y_abs,
    n_all := PySem.W.mg_none_of X G y_all,
    n_any := PySem.W.mg_none_of X G y_any,
    n_bool := PySem.W.mg_none_of X G y_bool,
    n_enumerate := PySem.W.mg_none_of X G y_enumerate,
    n_int := PySem.W.mg_none_of X G y_int,
    n_isinstance := PySem.W.mg_none_of X G y_isinstance,
    n_len := PySem.W.mg_none_of X G y_len,
    n_list := PySem.W.mg_none_of X G y_list,
    n_max := PySem.W.mg_none_of X G y_max,
    n_min := PySem.W.mg_none_of X G y_min,
    n_range := PySem.W.mg_none_of X G y_range,
    n_set := PySem.W.mg_none_of X G y_set,
    n_sorted := PySem.W.mg_none_of X G y_sorted,
    n_str := PySem.W.mg_none_of X G y_str,
    n_super := PySem.W.mg_none_of X G y_super,
    n_tuple := PySem.W.mg_none_of X G y_tuple,
    e_GE := G1, m_GrantrollError := PySem.W.mg_of X G aG, z_dig := zd,
    e_InvalidRoll := E_InvalidRoll, m_InvalidRoll := PySem.W.mg_of X G aE_InvalidRoll,
    e_OtherOwners := E_OtherOwners, m_OtherOwners := PySem.W.mg_of X G aE_OtherOwners,
    e_InvalidName := E_InvalidName, m_InvalidName := PySem.W.mg_of X G aE_InvalidName,
    e_InvalidTime := E_InvalidTime, m_InvalidTime := PySem.W.mg_of X G aE_InvalidTime,
    x_InvalidRoll := xc_InvalidRoll,
    p_OtherOwners := ⟨bas_OtherOwners, PySem.W.mg_of X G aE_OtherOwners, kE_OtherOwners, bE_OtherOwners, tE_OtherOwners⟩,
    p_InvalidName := ⟨bas_InvalidName, PySem.W.mg_of X G aE_InvalidName, kE_InvalidName, bE_InvalidName, tE_InvalidName⟩,
    p_InvalidTime := ⟨bas_InvalidTime, PySem.W.mg_of X G aE_InvalidTime, kE_InvalidTime, bE_InvalidTime, tE_InvalidTime⟩,
    q_err := errC_of (al1 (fun _ => ⟨⟨gaE_InvalidRoll, gtE_InvalidRoll, bE_InvalidRoll, hdE_InvalidRoll, caE_InvalidRoll, snG, tkG, moE_InvalidRoll⟩, ⟨gaE_InvalidRoll, gtE_InvalidRoll, bE_InvalidRoll, hdE_InvalidRoll⟩, (fun f hf => by rw [List.mem_singleton.mp hf]; exact fE_InvalidRoll)⟩) (al1 (fun _ => ⟨⟨gaE_OtherOwners, gtE_OtherOwners, bE_OtherOwners, hdE_OtherOwners, caE_OtherOwners, snG, tkG, moE_OtherOwners⟩, ⟨gaE_OtherOwners, gtE_OtherOwners, bE_OtherOwners, hdE_OtherOwners⟩, (fun f hf => nomatch hf)⟩) (al1 (fun _ => ⟨⟨gaE_InvalidName, gtE_InvalidName, bE_InvalidName, hdE_InvalidName, caE_InvalidName, snG, tkG, moE_InvalidName⟩, ⟨gaE_InvalidName, gtE_InvalidName, bE_InvalidName, hdE_InvalidName⟩, (fun f hf => nomatch hf)⟩) (al1 (fun _ => ⟨⟨gaE_InvalidTime, gtE_InvalidTime, bE_InvalidTime, hdE_InvalidTime, caE_InvalidTime, snG, tkG, moE_InvalidTime⟩, ⟨gaE_InvalidTime, gtE_InvalidTime, bE_InvalidTime, hdE_InvalidTime⟩, (fun f hf => nomatch hf)⟩) (al1 (fun z => nomatch z) al0))))),
    q_over := over_of (al1 (fun _ => PySem.W.exm_ref bG hdG tG sEG_InvalidRoll) (al1 (fun _ => PySem.W.exm_ref bG hdG tG sEG_OtherOwners) (al1 (fun _ => PySem.W.exm_ref bG hdG tG sEG_InvalidName) (al1 (fun _ => PySem.W.exm_ref bG hdG tG sEG_InvalidTime) (al1 (fun z => nomatch z) al0))))),
    i_ValueError := isC_of (al1 (fun _ => kV_InvalidRoll) (al1 (fun _ => kV_OtherOwners) (al1 (fun _ => kV_InvalidName) (al1 (fun _ => kV_InvalidTime) (al1 (fun z => nomatch z) al0))))) nV,
    e_Roll := R0, m_Roll := PySem.W.mg_of X G aR, a_Roll := fR, d_Roll := _, f_Roll := ⟨⟨_, _, _, _, _, _, _, _, _, _, rfl, lR, cR, .inl ⟨rfl, rfl⟩, .inl rfl⟩, kR⟩, k_Roll := ⟨mkR, jR, isR, kcR⟩, o_Roll := obC_of (by first | rfl | simp [List.lookup] | decide) ⟨pgR, hdR, poR, saR⟩ (by intro f hf; simp only [fldsOf, List.mem_cons, List.not_mem_nil, or_false] at hf; rcases hf with rfl | rfl | rfl <;> first | exact noA | exact noB | exact noC) (by decide +kernel), r_Roll := ⟨rdR, raR⟩,
    cls_Roll := ⟨pgR, hdR, poR, saR⟩,
    q_p_owners := pO_owners, a_p_owners := gO_owners, d_p_owners := _, f_p_owners := (fun_mk (st := s_p_owners) pl_owners pc_owners pk_owners), p_owners := ⟨pa_owners, pg_owners, pt_owners, ⟨_, pr_owners⟩⟩, b_p_owners := (fun_mk (st := s_p_owners) pl_owners pc_owners pk_owners).binds fun _ _ _ _ _ _ us hl => match us, hl with | [_], _ => rfl,
    q_p_grants := pO_grants, a_p_grants := gO_grants, d_p_grants := _, f_p_grants := (fun_mk (st := s_p_grants) pl_grants pc_grants pk_grants), p_grants := ⟨pa_grants, pg_grants, pt_grants, ⟨_, pr_grants⟩⟩, b_p_grants := (fun_mk (st := s_p_grants) pl_grants pc_grants pk_grants).binds fun _ _ _ _ _ _ us hl => match us, hl with | [_], _ => rfl,
    q_p_persons := pO_persons, a_p_persons := gO_persons, d_p_persons := _, f_p_persons := (fun_mk (st := s_p_persons) pl_persons pc_persons pk_persons), p_persons := ⟨pa_persons, pg_persons, pt_persons, ⟨_, pr_persons⟩⟩, b_p_persons := (fun_mk (st := s_p_persons) pl_persons pc_persons pk_persons).binds fun _ _ _ _ _ _ us hl => match us, hl with | [_], _ => rfl,
    t_Roll_MOST_GRANTS := tk_MOST_GRANTS, v_Roll_MOST_GRANTS := ⟨fc_MOST_GRANTS, ⟨_, rfl⟩⟩ }
  refine ⟨PySem.W.fnOf "law" "law" (defArgs s_law) (defBody s_law) (defScope s_law) .none kV33 dc33 pm33 an33 cd33 ct33, fun s v => .of_eq rfl, fun base _ _ => ?_⟩
  exact ok_law T
end DS
open PySem PySem.W PyProof.Rows
set_option maxRecDepth 100000 in
set_option maxHeartbeats 0 in
theorem PySem.Challenge.cw_grantroll_k70_small_later_grants_holds : PySem.Challenge.rw_grantroll_k70_small_later_grants.Holds := by
  w_on; o_law; k_head; (case hw => w_witness2)
  k_fill
  refine DS.walk_G (l := PySem.Challenge.rw_grantroll_k70_small_later_grants) (n := 63) (k := 12) (x := "script") (sp := DS.spLaw) rfl (by decide) rfl ⟨rfl, by decide, by decide⟩ (fun w h Y => PySem.W.kIn_of Y) ?F DS.law_end
  case F =>
    intro w mg fa h KX G hmg
    refine' DS.all_mk KX G hmg ?a0 ?l0 ?c0 ?k0 ?a1 ?l1 ?c1 ?k1 ?a2 ?l2 ?c2 ?k2 ?a3 ?l3 ?c3 ?k3 ?a4 ?l4 ?c4 ?k4 ?a5 ?l5 ?c5 ?k5 ?a6 ?l6 ?c6 ?k6 ?a7 ?l7 ?c7 ?k7 ?a8 ?l8 ?c8 ?k8 ?a9 ?l9 ?c9 ?k9 ?a10 ?l10 ?c10 ?k10 ?a11 ?l11 ?c11 ?k11 ?a12 ?l12 ?c12 ?k12 ?a13 ?l13 ?c13 ?k13 ?a14 ?l14 ?c14 ?k14 ?a15 ?l15 ?c15 ?k15 ?a16 ?l16 ?c16 ?k16 ?a17 ?l17 ?c17 ?k17 ?a18 ?l18 ?c18 ?k18 ?a19 ?l19 ?c19 ?k19 ?a20 ?l20 ?c20 ?k20 ?a21 ?l21 ?c21 ?k21 ?a22 ?l22 ?c22 ?k22 ?a23 ?l23 ?c23 ?k23 ?a24 ?l24 ?c24 ?k24 ?a25 ?l25 ?c25 ?k25 ?a26 ?l26 ?c26 ?k26 ?a27 ?l27 ?c27 ?k27 ?a28 ?l28 ?c28 ?k28 ?a29 ?l29 ?c29 ?k29 ?a30 ?l30 ?c30 ?k30 ?a31 ?l31 ?c31 ?k31 ?a32 ?l32 ?c32 ?k32 ?a33 ?l33 ?c33 ?k33 ?z_ENTRIES ?z_GIVER ?z_LEAST_LEVEL ?z_LEVEL ?z_MOST_LETTERS ?z_MOST_LEVEL ?z_MOST_OWNERS ?z_MOST_PASSES ?z_MOST_TIME ?z_TAKER ?z_TIME ?y_ValueError ?y_abs ?y_all ?y_any ?y_bool ?y_enumerate ?y_int ?y_isinstance ?y_len ?y_list ?y_max ?y_min ?y_range ?y_set ?y_sorted ?y_str ?y_super ?y_tuple ?aG ?xG ?iG ?tA ?bG ?hdG ?tG ?snG ?tkG ?zd ?topS ?aE_InvalidRoll ?xE_InvalidRoll ?rE_InvalidRoll ?vE_InvalidRoll ?kE_InvalidRoll ?bE_InvalidRoll ?tE_InvalidRoll ?gaE_InvalidRoll ?hdE_InvalidRoll ?gtE_InvalidRoll ?caE_InvalidRoll ?moE_InvalidRoll ?sEG_InvalidRoll ?kV_InvalidRoll ?aE_OtherOwners ?xE_OtherOwners ?rE_OtherOwners ?vE_OtherOwners ?kE_OtherOwners ?bE_OtherOwners ?tE_OtherOwners ?gaE_OtherOwners ?hdE_OtherOwners ?gtE_OtherOwners ?caE_OtherOwners ?moE_OtherOwners ?sEG_OtherOwners ?kV_OtherOwners ?aE_InvalidName ?xE_InvalidName ?rE_InvalidName ?vE_InvalidName ?kE_InvalidName ?bE_InvalidName ?tE_InvalidName ?gaE_InvalidName ?hdE_InvalidName ?gtE_InvalidName ?caE_InvalidName ?moE_InvalidName ?sEG_InvalidName ?kV_InvalidName ?aE_InvalidTime ?xE_InvalidTime ?rE_InvalidTime ?vE_InvalidTime ?kE_InvalidTime ?bE_InvalidTime ?tE_InvalidTime ?gaE_InvalidTime ?hdE_InvalidTime ?gtE_InvalidTime ?caE_InvalidTime ?moE_InvalidTime ?sEG_InvalidTime ?kV_InvalidTime ?oE_InvalidRoll ?fE_InvalidRoll ?jE_InvalidRoll ?lI_InvalidRoll ?cI_InvalidRoll ?lC_InvalidRoll ?vC_InvalidRoll ?gC_InvalidRoll ?lcC_InvalidRoll ?tI_InvalidRoll ?bas_OtherOwners ?bas_InvalidName ?bas_InvalidTime ?nV ?aR ?pgR ?hdR ?poR ?saR ?mkR ?kcR ?jR ?isR ?lR ?cR ?kR ?noA ?noB ?noC ?rdR ?raR ?pa_owners ?pg_owners ?pt_owners ?pr_owners ?pl_owners ?pc_owners ?pk_owners ?pa_grants ?pg_grants ?pt_grants ?pr_grants ?pl_grants ?pc_grants ?pk_grants ?pa_persons ?pg_persons ?pt_persons ?pr_persons ?pl_persons ?pc_persons ?pk_persons ?fc_MOST_GRANTS
    (case a0 => k_is)
    (case l0 => k_is)
    (case c0 => k_is)
    (case k0 => k_is)
    (case a1 => k_is)
    (case l1 => k_is)
    (case c1 => k_is)
    (case k1 => k_is)
    (case a2 => k_is)
    (case l2 => k_is)
    (case c2 => k_is)
    (case k2 => k_is)
    (case a3 => k_is)
    (case l3 => k_is)
    (case c3 => k_is)
    (case k3 => k_is)
    (case a4 => k_is)
    (case l4 => k_is)
    (case c4 => k_is)
    (case k4 => k_is)
    (case a5 => k_is)
    (case l5 => k_is)
    (case c5 => k_is)
    (case k5 => k_is)
    (case a6 => k_is)
    (case l6 => k_is)
    (case c6 => k_is)
    (case k6 => k_is)
    (case a7 => k_is)
    (case l7 => k_is)
    (case c7 => k_is)
    (case k7 => k_is)
    (case a8 => k_is)
    (case l8 => k_is)
    (case c8 => k_is)
    (case k8 => k_is)
    (case a9 => k_is)
    (case l9 => k_is)
    (case c9 => k_is)
    (case k9 => k_is)
    (case a10 => k_is)
    (case l10 => k_is)
    (case c10 => k_is)
    (case k10 => k_is)
    (case a11 => k_is)
    (case l11 => k_is)
    (case c11 => k_is)
    (case k11 => k_is)
    (case a12 => k_is)
    (case l12 => k_is)
    (case c12 => k_is)
    (case k12 => k_is)
    (case a13 => k_is)
    (case l13 => k_is)
    (case c13 => k_is)
    (case k13 => k_is)
    (case a14 => k_is)
    (case l14 => k_is)
    (case c14 => k_is)
    (case k14 => k_is)
    (case a15 => k_is)
    (case l15 => k_is)
    (case c15 => k_is)
    (case k15 => k_is)
    (case a16 => k_is)
    (case l16 => k_is)
    (case c16 => k_is)
    (case k16 => k_is)
    (case a17 => k_is)
    (case l17 => k_is)
    (case c17 => k_is)
    (case k17 => k_is)
    (case a18 => k_is)
    (case l18 => k_is)
    (case c18 => k_is)
    (case k18 => k_is)
    (case a19 => k_is)
    (case l19 => k_is)
    (case c19 => k_is)
    (case k19 => k_is)
    (case a20 => k_is)
    (case l20 => k_is)
    (case c20 => k_is)
    (case k20 => k_is)
    (case a21 => k_is)
    (case l21 => k_is)
    (case c21 => k_is)
    (case k21 => k_is)
    (case a22 => k_is)
    (case l22 => k_is)
    (case c22 => k_is)
    (case k22 => k_is)
    (case a23 => k_is)
    (case l23 => k_is)
    (case c23 => k_is)
    (case k23 => k_is)
    (case a24 => k_is)
    (case l24 => k_is)
    (case c24 => k_is)
    (case k24 => k_is)
    (case a25 => k_is)
    (case l25 => k_is)
    (case c25 => k_is)
    (case k25 => k_is)
    (case a26 => k_is)
    (case l26 => k_is)
    (case c26 => k_is)
    (case k26 => k_is)
    (case a27 => k_is)
    (case l27 => k_is)
    (case c27 => k_is)
    (case k27 => k_is)
    (case a28 => k_is)
    (case l28 => k_is)
    (case c28 => k_is)
    (case k28 => k_is)
    (case a29 => k_is)
    (case l29 => k_is)
    (case c29 => k_is)
    (case k29 => k_is)
    (case a30 => k_is)
    (case l30 => k_is)
    (case c30 => k_is)
    (case k30 => k_is)
    (case a31 => k_is)
    (case l31 => k_is)
    (case c31 => k_is)
    (case k31 => k_is)
    (case a32 => k_is)
    (case l32 => k_is)
    (case c32 => k_is)
    (case k32 => k_is)
    (case a33 => k_is)
    (case l33 => k_is)
    (case c33 => k_is)
    (case k33 => k_is)
    (case z_ENTRIES => k_is)
    (case z_GIVER => k_is)
    (case z_LEAST_LEVEL => k_is)
    (case z_LEVEL => k_is)
    (case z_MOST_LETTERS => k_is)
    (case z_MOST_LEVEL => k_is)
    (case z_MOST_OWNERS => k_is)
    (case z_MOST_PASSES => k_is)
    (case z_MOST_TIME => k_is)
    (case z_TAKER => k_is)
    (case z_TIME => k_is)
    (case y_ValueError => k_is)
    (case y_abs => k_is)
    (case y_all => k_is)
    (case y_any => k_is)
    (case y_bool => k_is)
    (case y_enumerate => k_is)
    (case y_int => k_is)
    (case y_isinstance => k_is)
    (case y_len => k_is)
    (case y_list => k_is)
    (case y_max => k_is)
    (case y_min => k_is)
    (case y_range => k_is)
    (case y_set => k_is)
    (case y_sorted => k_is)
    (case y_str => k_is)
    (case y_super => k_is)
    (case y_tuple => k_is)
    (case aG => k_is)
    (case xG => k_is)
    (case iG => k_is)
    (case tA => k_is)
    (case bG => k_is)
    (case hdG => k_is)
    (case tG => k_is)
    (case snG => k_is)
    (case tkG => k_is)
    (case zd => k_is)
    (case topS => first | rfl | decide +kernel)
    (case aE_InvalidRoll => k_is)
    (case xE_InvalidRoll => k_is)
    (case rE_InvalidRoll => k_is)
    (case vE_InvalidRoll => k_is)
    (case kE_InvalidRoll => k_is)
    (case bE_InvalidRoll => k_is)
    (case tE_InvalidRoll => k_is)
    (case gaE_InvalidRoll => k_is)
    (case hdE_InvalidRoll => k_is)
    (case gtE_InvalidRoll => k_is)
    (case caE_InvalidRoll => k_is)
    (case moE_InvalidRoll => k_is)
    (case sEG_InvalidRoll => first | k_is | rfl)
    (case kV_InvalidRoll => first | k_is | rfl)
    (case aE_OtherOwners => k_is)
    (case xE_OtherOwners => k_is)
    (case rE_OtherOwners => k_is)
    (case vE_OtherOwners => k_is)
    (case kE_OtherOwners => k_is)
    (case bE_OtherOwners => k_is)
    (case tE_OtherOwners => k_is)
    (case gaE_OtherOwners => k_is)
    (case hdE_OtherOwners => k_is)
    (case gtE_OtherOwners => k_is)
    (case caE_OtherOwners => k_is)
    (case moE_OtherOwners => k_is)
    (case sEG_OtherOwners => first | k_is | rfl)
    (case kV_OtherOwners => first | k_is | rfl)
    (case aE_InvalidName => k_is)
    (case xE_InvalidName => k_is)
    (case rE_InvalidName => k_is)
    (case vE_InvalidName => k_is)
    (case kE_InvalidName => k_is)
    (case bE_InvalidName => k_is)
    (case tE_InvalidName => k_is)
    (case gaE_InvalidName => k_is)
    (case hdE_InvalidName => k_is)
    (case gtE_InvalidName => k_is)
    (case caE_InvalidName => k_is)
    (case moE_InvalidName => k_is)
    (case sEG_InvalidName => first | k_is | rfl)
    (case kV_InvalidName => first | k_is | rfl)
    (case aE_InvalidTime => k_is)
    (case xE_InvalidTime => k_is)
    (case rE_InvalidTime => k_is)
    (case vE_InvalidTime => k_is)
    (case kE_InvalidTime => k_is)
    (case bE_InvalidTime => k_is)
    (case tE_InvalidTime => k_is)
    (case gaE_InvalidTime => k_is)
    (case hdE_InvalidTime => k_is)
    (case gtE_InvalidTime => k_is)
    (case caE_InvalidTime => k_is)
    (case moE_InvalidTime => k_is)
    (case sEG_InvalidTime => first | k_is | rfl)
    (case kV_InvalidTime => first | k_is | rfl)
    (case oE_InvalidRoll => k_is)
    (case fE_InvalidRoll => k_is)
    (case jE_InvalidRoll => k_is)
    (case lI_InvalidRoll => k_is)
    (case cI_InvalidRoll => k_is)
    (case lC_InvalidRoll => k_is)
    (case vC_InvalidRoll => first | rfl | k_is)
    (case gC_InvalidRoll => first | rfl | decide +kernel | k_is)
    (case lcC_InvalidRoll => k_is)
    (case tI_InvalidRoll => k_is)
    (case bas_OtherOwners => k_exc)
    (case bas_InvalidName => k_exc)
    (case bas_InvalidTime => k_exc)
    (case nV => first | rfl | k_is)
    (case aR => k_is)
    (case pgR => k_is)
    (case hdR => k_is)
    (case poR => k_is)
    (case saR => k_is)
    (case mkR => k_is)
    (case kcR => k_is)
    (case jR => k_is)
    (case isR => k_is)
    (case lR => k_is)
    (case cR => k_is)
    (case kR => k_is)
    (case noA => k_is)
    (case noB => k_is)
    (case noC => k_is)
    (case rdR => k_is)
    (case raR => k_is)
    (case pa_owners => k_is)
    (case pg_owners => k_is)
    (case pt_owners => k_is)
    (case pr_owners => k_is)
    (case pl_owners => k_is)
    (case pc_owners => k_is)
    (case pk_owners => k_is)
    (case pa_grants => k_is)
    (case pg_grants => k_is)
    (case pt_grants => k_is)
    (case pr_grants => k_is)
    (case pl_grants => k_is)
    (case pc_grants => k_is)
    (case pk_grants => k_is)
    (case pa_persons => k_is)
    (case pg_persons => k_is)
    (case pt_persons => k_is)
    (case pr_persons => k_is)
    (case pl_persons => k_is)
    (case pc_persons => k_is)
    (case pk_persons => k_is)
    (case fc_MOST_GRANTS => k_is)
#print axioms PySem.Challenge.cw_grantroll_k70_small_later_grants_holds
