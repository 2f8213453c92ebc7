import PyProof.Rows.All
import Wide.All
import OpenK.AllK
import Wide.FinOn
import HandS.ForMost
import HandS.ForExc
import HandS.IsInst
import KE.DataEq
import HandS.TupAny
import PyProof.ReprReads
import HandS.More
import PyProof.StrLawsRepr
import PyProof.FitsInt
import HandS.NoneIn
import HandS.Wide
import KE.KExcSuper
import HandS.ExcInit
import HandS.ExcCtx
import HandS.ExcIs
import HandS.ExcField
import KE.KExcIs
import PyProof.ReprRoads
import HandS.Style
import HandS.WideBits
import HandS.Text
import PySem.Challenge.RW_grantroll_k01_grant_errors
set_option Elab.async false
set_option linter.all false
set_option maxRecDepth 100000
set_option maxHeartbeats 4000000
/-! DS0: values as data (PyData), a def's frame as slots of data, what a piece of the text does to them. -/
namespace DS
open PySem L2
abbrev D := PyData
abbrev Fg := PySem.W.Frag

/-- the text's own classes by number: where the class stands, its instances' fields in order -/
structure Cl where
  adr : Nat → Option Addr
  flds : Nat → List Str

mutual
/-- the value v, in the heap A, is the data d -/
inductive DR (K : Fg) (cl : Cl) (A : Hp) : V → D → Prop
  | non : DR K cl A .non .none
  | bl (b : Bool) : DR K cl A (.bl b) (.bool b)
  | int (i : Int) : DR K cl A (.int i) (.int i)
  | str (x : Str) : DR K cl A (.str x) (.str x)
  | lst {a : Addr} {xs : List V} {ds : List D} : A a = some (.lst xs) → DRs K cl A xs ds → DR K cl A (.ref a) (.list ds)
  | tup {a : Addr} {xs : List V} {ds : List D} : SqT K A a xs → DRs K cl A xs ds → DR K cl A (.ref a) (.tuple ds)
  | ins {n : Nat} {C a dx : Addr} {vs : List V} {ds : List D} : cl.adr n = some C → A a = some (.ins C dx ((cl.flds n).zip vs)) → vs.length = (cl.flds n).length → DRs K cl A vs ds →
      DR K cl A (.ref a) (.dict [(.int n, .tuple ds)])
inductive DRs (K : Fg) (cl : Cl) (A : Hp) : List V → List D → Prop
  | nil : DRs K cl A [] []
  | cons {v : V} {vs : List V} {d : D} {ds : List D} : DR K cl A v d → DRs K cl A vs ds → DRs K cl A (v :: vs) (d :: ds)
end
section
variable {K : Fg} {cl : Cl} {A A' : Hp}
theorem sqt_same {a : Addr} {xs : List V} (e : Same A A') (h : SqT K A a xs) : SqT K A' a xs := by
  rcases h with (h | ⟨o, h⟩) | h
  · exact .inl (.inl (e _ _ h))
  · exact .inl (.inr ⟨o, e _ _ h⟩)
  · exact .inr h
mutual
theorem DR.mono (e : Same A A') : ∀ {v : V} {d : D}, DR K cl A v d → DR K cl A' v d
  | _, _, .non => .non
  | _, _, .bl b => .bl b
  | _, _, .int i => .int i
  | _, _, .str x => .str x
  | _, _, .lst h t => .lst (e _ _ h) (DRs.mono e t)
  | _, _, .tup h t => .tup (sqt_same e h) (DRs.mono e t)
  | _, _, .ins h1 h2 h3 t => .ins h1 (e _ _ h2) h3 (DRs.mono e t)
theorem DRs.mono (e : Same A A') : ∀ {vs : List V} {ds : List D}, DRs K cl A vs ds → DRs K cl A' vs ds
  | _, _, .nil => .nil
  | _, _, .cons h t => .cons (DR.mono e h) (DRs.mono e t)
end
mutual
theorem DR.dp : ∀ {v : V} {d : D}, DR K cl A v d → d.plain = true → Dp K A v d
  | _, _, .non, _ => .non
  | _, _, .bl b, _ => .bl b
  | _, _, .int i, _ => .int i
  | _, _, .str x, _ => .str x
  | _, _, .lst h t, c => .lst (SqL.of h) (DRs.dp t (by simpa [PyData.plain] using c))
  | _, _, .tup h t, c => .tup h (DRs.dp t (by simpa [PyData.plain] using c))
  | _, _, .ins _ _ _ _, c => by simp [PyData.plain] at c
theorem DRs.dp : ∀ {vs : List V} {ds : List D}, DRs K cl A vs ds → PyData.plainAll ds = true → DpAll K A vs ds
  | _, _, .nil, _ => .nil
  | _, _, .cons h t, c => by
    have c' := c
    simp only [PyData.plainAll, Bool.and_eq_true] at c'
    exact .cons (DR.dp h c'.1) (DRs.dp t c'.2)
end
theorem DRs.length : ∀ {vs : List V} {ds : List D}, DRs K cl A vs ds → vs.length = ds.length
  | _, _, .nil => rfl
  | _, _, .cons _ t => congrArg (· + 1) (DRs.length t)
theorem DRs.get : ∀ {vs : List V} {ds : List D} {i : Nat} {v : V}, DRs K cl A vs ds → vs[i]? = some v → ∃ d, ds[i]? = some d ∧ DR K cl A v d
  | _, _, i, v, .nil, e => by simp at e
  | _, _, 0, v, .cons h _, e => by simp at e; subst e; exact ⟨_, rfl, h⟩
  | _, _, i + 1, v, .cons _ t, e => by
    obtain ⟨d, h1, h2⟩ := DRs.get (i := i) t (by simpa using e)
    exact ⟨d, by simpa using h1, h2⟩
theorem DRs.getV : ∀ {vs : List V} {ds : List D} {i : Nat} {d : D}, DRs K cl A vs ds → ds[i]? = some d → ∃ v, vs[i]? = some v ∧ DR K cl A v d
  | _, _, i, v, .nil, e => by simp at e
  | _, _, 0, v, .cons h _, e => by simp at e; subst e; exact ⟨_, rfl, h⟩
  | _, _, i + 1, v, .cons _ t, e => by
    obtain ⟨d, h1, h2⟩ := DRs.getV (i := i) t (by simpa using e)
    exact ⟨d, by simpa using h1, h2⟩
theorem DRs.append : ∀ {vs ws : List V} {ds es : List D}, DRs K cl A vs ds → DRs K cl A ws es → DRs K cl A (vs ++ ws) (ds ++ es)
  | _, _, _, _, .nil, s => s
  | _, _, _, _, .cons h t, s => .cons h (DRs.append t s)
theorem DRs.take : ∀ {vs : List V} {ds : List D} (n : Nat), DRs K cl A vs ds → DRs K cl A (vs.take n) (ds.take n)
  | _, _, 0, _ => by simpa using DRs.nil
  | _, _, n + 1, .nil => by simpa using DRs.nil
  | _, _, n + 1, .cons h t => by simpa using DRs.cons h (DRs.take n t)
theorem DRs.drop : ∀ {vs : List V} {ds : List D} (n : Nat), DRs K cl A vs ds → DRs K cl A (vs.drop n) (ds.drop n)
  | _, _, 0, s => by simpa using s
  | _, _, n + 1, .nil => by simpa using DRs.nil
  | _, _, n + 1, .cons h t => by simpa using DRs.drop n t
theorem DRs.set : ∀ {vs : List V} {ds : List D} (n : Nat) {v : V} {d : D}, DR K cl A v d → DRs K cl A vs ds → DRs K cl A (vs.set n v) (ds.set n d)
  | _, _, _, _, _, h, .nil => .nil
  | _, _, 0, _, _, h, .cons _ t => .cons h t
  | _, _, n + 1, _, _, h, .cons g t => .cons g (DRs.set n h t)
theorem DRs.ints : ∀ {vs : List V} {ns : List Int}, vs = ns.map V.int → DRs K cl A vs (ns.map PyData.int)
  | _, [], e => by subst e; exact .nil
  | _, n :: r, e => by subst e; exact .cons (.int n) (DRs.ints rfl)
end

/-! ### the script's source: a list [cells, turn] -/
abbrev Sc := Option (Addr × Addr)
def inS (sc : Sc) (a : Addr) : Prop := match sc with
  | none => False
  | some p => a = p.1 ∨ a = p.2
instance (sc : Sc) (a : Addr) : Decidable (inS sc a) := by unfold inS; cases sc <;> infer_instance
/-- all that was tracked stands, the source apart -/
def Ext (sc : Sc) (H H' : Hp) : Prop := ∀ a o, ¬ inS sc a → H a = some o → H' a = some o
theorem Ext.refl (sc : Sc) (H : Hp) : Ext sc H H := fun _ _ _ h => h
theorem Ext.trans {sc : Sc} {H H1 H2 : Hp} (a : Ext sc H H1) (b : Ext sc H1 H2) : Ext sc H H2 := fun x o n h => b x o n (a x o n h)
theorem Ext.new {sc : Sc} {H : Hp} {p : Addr} {o : HO} (h : H p = none) : Ext sc H (upd H p o) := fun a u _ e => by
  rw [upd_ne (ne_of_none e h)]; exact e
def hid (sc : Sc) (H : Hp) : Hp := fun a => if inS sc a then none else H a
theorem hid_of {sc : Sc} {H : Hp} {a : Addr} (h : ¬ inS sc a) : hid sc H a = H a := by unfold hid; rw [if_neg h]
theorem hid_sub {sc : Sc} {H : Hp} : Same (hid sc H) H := fun a o e => by
  unfold hid at e; split at e
  · cases e
  · exact e
theorem Ext.hid {sc : Sc} {H H' : Hp} (e : Ext sc H H') : Same (hid sc H) (hid sc H') := fun a o q => by
  unfold DS.hid at q ⊢
  split at q
  · cases q
  · rename_i n; rw [if_neg n]; exact e a o n q
/-- a cell of the source: not too great -/
def cellOk (z : Int) : Prop := -(10 ^ 18) < z ∧ z < (10 ^ 60) ^ 20
/-- the source with n draws left at least -/
def SrcOk (sc : Sc) (H : Hp) (n : Nat) : Prop := match sc with
  | none => True
  | some (s, c) => s ≠ c ∧ ∃ (ns : List Int) (t : Nat), H s = some (.lst [.ref c, .int t]) ∧ H c = some (.lst (ns.map V.int)) ∧ 0 < ns.length ∧ ns.length ≤ 63 ∧ (∀ z ∈ ns, cellOk z) ∧ t + n ≤ 2 ^ 60

/-! ### slots -/
inductive Sl where
  | no
  | dat (d : D)
  | own (ds : List D)
  | src
inductive SlR (K : Fg) (cl : Cl) (sc : Sc) (H0 B H : Hp) : Option V → Sl → Prop
  | no (v : Option V) : SlR K cl sc H0 B H v .no
  | dat {v : V} {d : D} (h : DR K cl B v d) : SlR K cl sc H0 B H (some v) (.dat d)
  | own {p : Addr} {vs : List V} {ds : List D} (h0 : H0 p = none) (hB : B p = none) (hs : ¬ inS sc p) (h : H p = some (.lst vs)) (r : DRs K cl B vs ds) : SlR K cl sc H0 B H (some (.ref p)) (.own ds)
  | src {s c : Addr} (h : sc = some (s, c)) : SlR K cl sc H0 B H (some (.ref s)) .src

/-- what is fixed through a def: the written part, the classes, the source, the heap at the entry and its settled part, the wish of exceptions -/
structure Cn where
  K : Fg
  cl : Cl
  sc : Sc
  H0 : Hp
  B0 : Hp
  E : XK
/-- from (B, H) to (B', H'): settled things stay settled, all stands but the source -/
structure Stp (sc : Sc) (B H B' H' : Hp) : Prop where
  sub : Same B' H'
  old : Same B B'
  new : ∀ p, H p ≠ none → B' p = B p
  nos : ∀ a, inS sc a → B' a = none
  ext : Ext sc H H'
structure Fr (C : Cn) (B : Hp) (σ : St) (H : Hp) (ρ : List Sl) (n : Nat) : Prop where
  sub : Same B H
  old : Same C.B0 B
  new : ∀ p, C.H0 p ≠ none → B p = C.B0 p
  nos : ∀ a, inS C.sc a → B a = none
  ext : Ext C.sc C.H0 H
  src : SrcOk C.sc H n
  slo : Paired (SlR C.K C.cl C.sc C.H0 B H) σ ρ
  dis : ∀ (i j : Nat) (p : Addr) (ds es : List D), σ[i]? = some (some (.ref p)) → σ[j]? = some (some (.ref p)) → ρ[i]? = some (.own ds) → ρ[j]? = some (.own es) → i = j
section
variable {sc : Sc} {B H B1 H1 B2 H2 B' H' : Hp}
theorem Stp.refl (h : Same B H) (n : ∀ a, inS sc a → B a = none) : Stp sc B H B H := ⟨h, Same.refl _, fun _ _ => rfl, n, Ext.refl _ _⟩
theorem Stp.keep (a : Stp sc B H B1 H1) (h : H = H) : ∀ p, ¬ inS sc p → H p ≠ none → H1 p ≠ none := fun p n q => by
  cases e : H p with
  | none => exact absurd e q
  | some o => rw [a.ext p o n e]; exact fun z => by cases z
theorem Stp.trans (a : Stp sc B H B1 H1) (b : Stp sc B1 H1 B2 H2) : Stp sc B H B2 H2 where
  sub := b.sub
  old := a.old.trans b.old
  new := fun p q => by
    by_cases hs : inS sc p
    · rw [b.nos p hs]
      have := a.new p q
      rw [a.nos p hs] at this
      exact this
    · rw [b.new p (a.keep rfl p hs q), a.new p q]
  nos := b.nos
  ext := a.ext.trans b.ext
/-- a new object p is laid in H alone -/
theorem Stp.lay {p : Addr} {o : HO} (a : Stp sc B H B1 H1) (hp : H1 p = none) : Stp sc B H B1 (upd H1 p o) where
  sub := fun x u e => by rw [upd_ne (ne_of_none (a.sub x u e) hp)]; exact a.sub x u e
  old := a.old
  new := a.new
  nos := a.nos
  ext := a.ext.trans (Ext.new hp)
/-- .. and settled -/
theorem Stp.settle {p : Addr} {o : HO} (a : Stp sc B H B1 H1) (hp : H p = none) (h1 : H1 p = some o) (hb : B1 p = none) (hs : ¬ inS sc p) : Stp sc B H (upd B1 p o) H1 where
  sub := fun x u e => by
    by_cases hx : x = p
    · subst hx; rw [upd_same] at e; cases e; exact h1
    · rw [upd_ne hx] at e; exact a.sub x u e
  old := fun x u e => by rw [upd_ne (ne_of_none (a.old x u e) hb)]; exact a.old x u e
  new := fun x q => by
    have hx : x ≠ p := fun z => q (z ▸ hp)
    rw [upd_ne hx]; exact a.new x q
  nos := fun x q => by
    have hx : x ≠ p := fun z => hs (z ▸ q)
    rw [upd_ne hx]; exact a.nos x q
  ext := a.ext
theorem same_upd {p : Addr} {o : HO} (hb : B p = none) : Same B (upd B p o) := fun x u e => by rw [upd_ne (ne_of_none e hb)]; exact e
theorem Stp.hid (a : Stp sc B H B1 H1) : Same B1 (DS.hid sc H1) := fun x o e => by
  have hs : ¬ inS sc x := fun z => by rw [a.nos x z] at e; cases e
  rw [hid_of hs]; exact a.sub x o e
/-- the source stands in H: what is new is not of it -/
theorem src_in {n : Nat} (h : SrcOk sc H n) : ∀ a, inS sc a → H a ≠ none := fun a q => by
  unfold SrcOk at h
  unfold inS at q
  cases sc with
  | none => exact q.elim
  | some p =>
    obtain ⟨s, c⟩ := p
    obtain ⟨_, ns, t, h1, h2, _⟩ := h
    rcases q with q | q
    · have e : a = s := q
      subst e; rw [h1]; exact fun z => by cases z
    · have e : a = c := q
      subst e; rw [h2]; exact fun z => by cases z
theorem src_new {n : Nat} {p : Addr} (h : SrcOk sc H n) (hp : H p = none) : ¬ inS sc p := fun q => src_in h p q hp
theorem src_lay {n : Nat} {p : Addr} {o : HO} (h : SrcOk sc H n) (hp : H p = none) : SrcOk sc (upd H p o) n := by
  have f := src_new h hp
  unfold SrcOk at h ⊢
  cases sc with
  | none => trivial
  | some q =>
    obtain ⟨s, c⟩ := q
    obtain ⟨a0, ns, t, h1, h2, r⟩ := h
    exact ⟨a0, ns, t, by rw [upd_ne (ne_of_none h1 hp)]; exact h1, by rw [upd_ne (ne_of_none h2 hp)]; exact h2, r⟩
theorem src_less {n m : Nat} (h : SrcOk sc H n) (l : m ≤ n) : SrcOk sc H m := by
  unfold SrcOk at h ⊢
  cases sc with
  | none => trivial
  | some q =>
    obtain ⟨s, c⟩ := q
    obtain ⟨a0, ns, t, h1, h2, h3, h4, h5, h6⟩ := h
    exact ⟨a0, ns, t, h1, h2, h3, h4, h5, by omega⟩
theorem paired_mono {α β : Type} {F G : α → β → Prop} (f : ∀ a b, F a b → G a b) {l : List α} {r : List β} (p : Paired F l r) : Paired G l r := Paired.mapP p f
theorem SlR.step {K : Fg} {cl : Cl} {H0 : Hp} {v : Option V} {x : Sl} (h : SlR K cl sc H0 B H v x) (s : Stp sc B H B' H') : SlR K cl sc H0 B' H' v x := by
  cases h with
  | no v => exact .no v
  | dat h => exact .dat (h.mono s.old)
  | own h0 hB hs h r => exact .own h0 (by rw [s.new _ (by rw [h]; exact fun z => by cases z)]; exact hB) hs (s.ext _ _ hs h) (r.mono s.old)
  | src h => exact .src h
theorem Fr.step {C : Cn} {σ : St} {ρ : List Sl} {n n' : Nat} (F : Fr C B σ H ρ n) (s : Stp C.sc B H B' H') (k : SrcOk C.sc H' n') : Fr C B' σ H' ρ n' where
  sub := s.sub
  old := F.old.trans s.old
  new := fun p q => by
    by_cases hs : inS C.sc p
    · rw [s.nos p hs, ← F.new p q, F.nos p hs]
    · have q' : H p ≠ none := by
        cases e : C.H0 p with
        | none => exact absurd e q
        | some o => rw [F.ext p o hs e]; exact fun z => by cases z
      rw [s.new p q', F.new p q]
  nos := s.nos
  ext := F.ext.trans s.ext
  src := k
  slo := Paired.mapP F.slo fun a b h => h.step s
  dis := F.dis
theorem Fr.self {C : Cn} {σ : St} {ρ : List Sl} {n : Nat} (F : Fr C B σ H ρ n) : Stp C.sc B H B H := Stp.refl F.sub F.nos
/-- from the entry -/
theorem Fr.entry {C : Cn} {σ : St} {ρ : List Sl} {n : Nat} (F : Fr C B σ H ρ n) : Stp C.sc C.B0 C.H0 B H := ⟨F.sub, F.old, F.new, F.nos, F.ext⟩
end
theorem paired_get {α β : Type} {F : α → β → Prop} : ∀ {l : List α} {r : List β} {i : Nat} {b : β}, Paired F l r → r[i]? = some b → ∃ a, l[i]? = some a ∧ F a b
  | _, _, _, _, .nil, e => by simp at e
  | _, _, 0, _, .cons h _, e => by simp at e; subst e; exact ⟨_, rfl, h⟩
  | _, _, i + 1, b, .cons _ t, e => by
    obtain ⟨a, h1, h2⟩ := paired_get (i := i) (b := b) t (by simpa using e)
    exact ⟨a, by simpa using h1, h2⟩
theorem paired_set {α β : Type} {F : α → β → Prop} {a : α} {b : β} (h : F a b) : ∀ {l : List α} {r : List β} (i : Nat), Paired F l r → Paired F (l.set i a) (r.set i b)
  | _, _, _, .nil => .nil
  | _, _, 0, .cons _ t => .cons h t
  | _, _, i + 1, .cons g t => .cons g (paired_set h i t)
theorem paired_len {α β : Type} {F : α → β → Prop} : ∀ {l : List α} {r : List β}, Paired F l r → l.length = r.length
  | _, _, .nil => rfl
  | _, _, .cons _ t => congrArg (· + 1) (paired_len t)

/-! ### readings over data -/
/-- an error of the text's own classes: the class by number, the field where it has one -/
structure Er where
  c : Nat
  f : List D
/-- the classes of errors: where they stand, the field's name -/
abbrev PD := D → Nat → Prop
abbrev PX := Er → Nat → Prop
abbrev Env := List Sl
/-- what an expression gives: of the slots and the draws left, what is wanted of its data and of its errors -/
abbrev M := Env → Nat → PD → PX → Prop
abbrev MT := Env → Nat → (Bool → Nat → Prop) → PX → Prop
abbrev ML := Env → Nat → (List D → Nat → Prop) → PX → Prop
abbrev MA := Env → Nat → (List Sl → Nat → Prop) → PX → Prop
structure DEnds where
  nx : Env → Nat → Prop
  rt : PD
  ex : PX
  bk : Env → Nat → Prop := fun _ _ => False
  ct : Env → Nat → Prop := fun _ _ => False
abbrev MS := DEnds → Env → Nat → Prop

/-- how an error lies in the heap -/
def ErR (C : Cn) (B' H' : Hp) (cls : Value) (d : Option Addr) (er : Er) : Prop :=
  ∃ A, C.cl.adr er.c = some A ∧ cls = .ref A ∧ ((er.f = [] ∧ d = none) ∨ ∃ x a v f, er.f = [x] ∧ d = some a ∧ C.cl.flds er.c = [f] ∧ H' a = some (.xd [(f, v)]) ∧ DR C.K C.cl B' v x)
def OkX (C : Cn) (B H : Hp) (R : PX) : Prop := ∀ er n', R er n' → ∀ cls d B' H', Stp C.sc B H B' H' → SrcOk C.sc H' n' → ErR C B' H' cls d er → C.E cls d H'

/-- data, settled -/
def tD (C : Cn) (m : M) : TE := fun σ H Q => ∃ B ρ n P R, Fr C B σ H ρ n ∧ m ρ n P R ∧ OkX C B H R ∧ ∀ d n', P d n' → ∀ v B' H', Stp C.sc B H B' H' → SrcOk C.sc H' n' → DR C.K C.cl B' v d → Q v H'
/-- a value to be read now: settled data, or a list of one's own with settled items -/
inductive QR (K : Fg) (cl : Cl) (A B : Hp) : V → D → Prop
  | set {v : V} {d : D} (h : DR K cl B v d) : QR K cl A B v d
  | lst {a : Addr} {xs : List V} {ds : List D} (h : A a = some (.lst xs)) (r : DRs K cl B xs ds) : QR K cl A B (.ref a) (.list ds)
theorem QR.mono {K : Fg} {cl : Cl} {A B A' B' : Hp} {v : V} {d : D} (h : QR K cl A B v d) (a : Same A A') (b : Same B B') : QR K cl A' B' v d := by
  cases h with
  | set h => exact .set (h.mono b)
  | lst h r => exact .lst (a _ _ h) (r.mono b)
theorem QR.dr {K : Fg} {cl : Cl} {A B : Hp} {v : V} {d : D} (h : QR K cl A B v d) (s : Same B A) : DR K cl A v d := by
  cases h with
  | set h => exact h.mono s
  | lst h r => exact .lst h (r.mono s)
def tQ (C : Cn) (m : M) : TE := fun σ H Q => ∃ B ρ n P R, Fr C B σ H ρ n ∧ m ρ n P R ∧ OkX C B H R ∧ ∀ d n', P d n' → ∀ v B' H', Stp C.sc B H B' H' → SrcOk C.sc H' n' → QR C.K C.cl (hid C.sc H') B' v d → Q v H'
/-- a new list -/
def tL (C : Cn) (m : ML) : TE := fun σ H Q => ∃ B ρ n P R, Fr C B σ H ρ n ∧ m ρ n P R ∧ OkX C B H R ∧ ∀ ds n', P ds n' → ∀ p vs B' H', H p = none → Stp C.sc B H B' H' → B' p = none → SrcOk C.sc H' n' → H' p = some (.lst vs) → DRs C.K C.cl B' vs ds → Q (.ref p) H'
def tT (C : Cn) (m : MT) : TT := fun σ H Q => ∃ B ρ n P R, Fr C B σ H ρ n ∧ m ρ n P R ∧ OkX C B H R ∧ ∀ b n', P b n' → ∀ B' H', Stp C.sc B H B' H' → SrcOk C.sc H' n' → Q b H'
/-- an argument's value: data, or the source -/
inductive AgR (K : Fg) (cl : Cl) (sc : Sc) (B : Hp) : V → Sl → Prop
  | dat {v : V} {d : D} (h : DR K cl B v d) : AgR K cl sc B v (.dat d)
  | src {s c : Addr} (h : sc = some (s, c)) : AgR K cl sc B (.ref s) .src
theorem AgR.mono {K : Fg} {cl : Cl} {sc : Sc} {B B' : Hp} {v : V} {x : Sl} (h : AgR K cl sc B v x) (e : Same B B') : AgR K cl sc B' v x := by
  cases h with
  | dat h => exact .dat (h.mono e)
  | src h => exact .src h
def tA (C : Cn) (m : MA) : TA := fun σ H Q => ∃ B ρ n P R, Fr C B σ H ρ n ∧ m ρ n P R ∧ OkX C B H R ∧ ∀ as n', P as n' → ∀ vs B' H', Stp C.sc B H B' H' → SrcOk C.sc H' n' → Paired (AgR C.K C.cl C.sc B') vs as → Q vs H'
/-- a statement -/
def tS (C : Cn) (m : MS) : TS := fun Z σ H => ∃ B ρ n De, Fr C B σ H ρ n ∧ m De ρ n ∧
  (∀ ρ' n', De.nx ρ' n' → ∀ σ' B' H', Same B B' → Fr C B' σ' H' ρ' n' → Z.nx σ' H') ∧
  (∀ d n', De.rt d n' → ∀ v B' H', Stp C.sc C.B0 C.H0 B' H' → SrcOk C.sc H' n' → DR C.K C.cl B' v d → Z.rt v H') ∧
  OkX C C.B0 C.H0 De.ex ∧
  (∀ ρ' n', De.bk ρ' n' → ∀ σ' B' H', Same B B' → Fr C B' σ' H' ρ' n' → Z.bk σ' H') ∧
  (∀ ρ' n', De.ct ρ' n' → ∀ σ' B' H', Same B B' → Fr C B' σ' H' ρ' n' → Z.ct σ' H')

section
variable {X : Cx}
theorem pe_weak {e : Expr} {t t' : TE} (h : PE X e t) (w : ∀ σ H Q, t' σ H Q → t σ H Q) : PE X e t' := ⟨fun pins s σ H Q I q => h.run pins s σ H Q I (w σ H Q q)⟩
theorem pt_weak {e : Expr} {t t' : TT} (h : PT X e t) (w : ∀ σ H Q, t' σ H Q → t σ H Q) : PT X e t' := ⟨fun pins s σ H Q I q => h.run pins s σ H Q I (w σ H Q q)⟩
theorem pa_weak {e : List Expr} {t t' : TA} (h : PA X e t) (w : ∀ σ H Q, t' σ H Q → t σ H Q) : PA X e t' := ⟨fun p pins s σ H Q I q => h.run p pins s σ H Q I (w σ H Q q)⟩
theorem ps_weak {e : Stmt} {t t' : TS} (h : PS X e t) (w : ∀ D σ H, t' D σ H → t D σ H) : PS X e t' := ⟨fun pins s σ H D I q => h.run pins s σ H D I (w D σ H q)⟩
theorem pss_weak {e : List Stmt} {t t' : TS} (h : PSs X e t) (w : ∀ D σ H, t' D σ H → t D σ H) : PSs X e t' := ⟨fun pins s σ H D I q => h.run pins s σ H D I (w D σ H q)⟩
theorem pi_weak {tg e : Expr} {t t' : TI} (h : PI X tg e t) (w : ∀ σ H Q, t' σ H Q → t σ H Q) : PI X tg e t' := ⟨fun pins s σ H Q I q => h.run pins s σ H Q I (w σ H Q q)⟩
end
abbrev DE (X : Cx) (C : Cn) (e : Expr) (m : M) : Prop := PE X e (tD C m)
abbrev QE (X : Cx) (C : Cn) (e : Expr) (m : M) : Prop := PE X e (tQ C m)
abbrev LE (X : Cx) (C : Cn) (e : Expr) (m : ML) : Prop := PE X e (tL C m)
abbrev DT (X : Cx) (C : Cn) (e : Expr) (m : MT) : Prop := PT X e (tT C m)
abbrev DA (X : Cx) (C : Cn) (es : List Expr) (m : MA) : Prop := PA X es (tA C m)
abbrev DS (X : Cx) (C : Cn) (st : Stmt) (m : MS) : Prop := PS X st (tS C m)
abbrev DSs (X : Cx) (C : Cn) (st : List Stmt) (m : MS) : Prop := PSs X st (tS C m)
/-- a new list as settled data -/
def mL (m : ML) : M := fun ρ n P R => m ρ n (fun ds => P (.list ds)) R
section
variable {X : Cx} {C : Cn} {e : Expr} {m : M} {l : ML}
theorem qe_of (h : DE X C e m) : QE X C e m := pe_weak h fun σ H Q ⟨B, ρ, n, P, R, F, w, x, k⟩ => ⟨B, ρ, n, P, R, F, w, x, fun d n' p v B' H' s c r => k d n' p v B' H' s c (.set r)⟩
theorem de_ofL (h : LE X C e l) : DE X C e (mL l) := pe_weak h fun σ H Q ⟨B, ρ, n, P, R, F, w, x, k⟩ =>
  ⟨B, ρ, n, fun ds => P (.list ds), R, F, w, x, fun ds n' q p vs B' H' hp s hb c h1 r =>
    k (.list ds) n' q (.ref p) (upd B' p (.lst vs)) H' (s.settle hp h1 hb (src_new F.src hp)) c (.lst upd_same (r.mono (same_upd hb)))⟩
theorem qe_ofL (h : LE X C e l) : QE X C e (mL l) := qe_of (de_ofL h)
end
theorem OkX.step {C : Cn} {B H B' H' : Hp} {R : PX} (h : OkX C B H R) (s : Stp C.sc B H B' H') : OkX C B' H' R := fun er n' r cls d B2 H2 s2 k q => h er n' r cls d B2 H2 (s.trans s2) k q
theorem OkX.lift {C : Cn} {B H : Hp} {σ : St} {ρ : List Sl} {n : Nat} {R : PX} (F : Fr C B σ H ρ n) (h : OkX C C.B0 C.H0 R) : OkX C B H R := h.step F.entry
end DS

/-! DS1: rules for expressions. -/
namespace DS
open PySem L2
section
variable {X : Cx} {C : Cn} {K : Fg} {cl : Cl}
/-! ### names, constants -/
def mVar (i : Nat) : M := fun ρ n P _ => ∃ d, ρ[i]? = some (.dat d) ∧ P d n
def slD : Sl → Option D
  | .dat d => some d
  | .own ds => some (.list ds)
  | _ => none
def mVarQ (i : Nat) : M := fun ρ n P _ => ∃ s d, ρ[i]? = some s ∧ slD s = some d ∧ P d n
def mC (d : D) : M := fun _ n P _ => P d n
theorem de_var (i : Nat) {x : Str} {pos : Pos} (hN : X.N[i]? = some x := by rfl) (hv : Vis X.env.scope x := by first | exact Or.inl rfl | exact Or.inr (Or.inl rfl) | exact Or.inr (Or.inr rfl)) (hd : (x == ("__debug__" : Str)) = false := by decide)
    (hcd : (x == ("__classdict__" : Str)) = false := by decide) : DE X C (.Name x pos) (mVar i) := pe_weak (pe_var hN hv hd hcd) fun σ H Q ⟨B, ρ, n, P, R, F, ⟨d, e, p⟩, x, k⟩ => by
  obtain ⟨a, h1, h2⟩ := paired_get F.slo e
  cases h2 with
  | dat h => exact ⟨_, h1, k d n p _ B H F.self F.src h⟩
theorem qe_var (i : Nat) {x : Str} {pos : Pos} (hN : X.N[i]? = some x := by rfl) (hv : Vis X.env.scope x := by first | exact Or.inl rfl | exact Or.inr (Or.inl rfl) | exact Or.inr (Or.inr rfl)) (hd : (x == ("__debug__" : Str)) = false := by decide)
    (hcd : (x == ("__classdict__" : Str)) = false := by decide) : QE X C (.Name x pos) (mVarQ i) := pe_weak (pe_var hN hv hd hcd) fun σ H Q ⟨B, ρ, n, P, R, F, ⟨s, d, e, e2, p⟩, x, k⟩ => by
  obtain ⟨a, h1, h2⟩ := paired_get F.slo e
  cases h2 with
  | dat h => cases e2; exact ⟨_, h1, k _ n p _ B H F.self F.src (.set h)⟩
  | own h0 hB hs h r => cases e2; exact ⟨_, h1, k _ n p _ B H F.self F.src (.lst (by rw [hid_of hs]; exact h) r)⟩
  | no _ => cases e2
  | src _ => cases e2
theorem de_c {e : Expr} {v : V} {d : D} (h : PE X e (tC v)) (r : ∀ B, DR C.K C.cl B v d) : DE X C e (mC d) := pe_weak h fun σ H Q ⟨B, ρ, n, P, R, F, p, x, k⟩ => k d n p v B H F.self F.src (r B)
theorem de_int {i : Int} {j pos} : DE X C (.Constant (.int i) j pos) (mC (.int i)) := de_c pe_int fun _ => .int i
theorem de_bl {b : Bool} {j pos} : DE X C (.Constant (.bool b) j pos) (mC (.bool b)) := de_c pe_bl fun _ => .bl b
theorem de_non {j pos} : DE X C (.Constant .none j pos) (mC .none) := de_c pe_non fun _ => .non
theorem de_str {x : Str} {j pos} : DE X C (.Constant (.str x) j pos) (mC (.str x)) := de_c pe_str fun _ => .str x
/-! ### operators whose answer is no object -/
/-- r answers on data as f says -/
def OpF (K : Fg) (cl : Cl) (r : R2) (f : D → D → Option D) : Prop := ∀ (A H : Hp) (x y : V) (dx dy z : D), Same A H → DR K cl A x dx → DR K cl A y dy → f dx dy = some z → ∀ Q : VK, (∀ v, (∀ A', DR K cl A' v z) → Q v H) → r x y H Q
def m2 (f : D → D → Option D) (a b : M) : M := fun ρ n P R => a ρ n (fun x n1 => b ρ n1 (fun y n2 => ∃ z, f x y = some z ∧ P z n2) R) R
theorem t2_ok {r : R2} {f : D → D → Option D} {a b : M} (hf : OpF C.K C.cl r f) {σ : St} {H : Hp} {Q : VK} (h : tD C (m2 f a b) σ H Q) : tOp r (tQ C a) (tQ C b) σ H Q := by
  obtain ⟨B, ρ, n, P, R, F, w, ox, k⟩ := h
  refine ⟨B, ρ, n, _, R, F, w, ox, fun dx n1 hb x B1 H1 s1 k1 rx => ⟨B1, ρ, n1, _, R, F.step s1 k1, hb, ox.step s1, fun dy n2 hz y B2 H2 s2 k2 ry => ?_⟩⟩
  obtain ⟨z, hz, p⟩ := hz
  exact hf (hid C.sc H2) H2 x y dx dy z hid_sub ((rx.mono s2.ext.hid s2.old).dr s2.hid) (ry.dr s2.hid) hz Q fun v hv => k z n2 p v B2 H2 (s1.trans s2) k2 (hv B2)
theorem de_op {op : Operator} {r : R2} {f : D → D → Option D} {x y : Expr} {a b : M} {pos : Pos} (ho : OpR X (binaryOp op) r) (hf : OpF C.K C.cl r f) (ha : QE X C x a) (hb : QE X C y b) : DE X C (.BinOp x op y pos) (m2 f a b) :=
  pe_weak (pe_op ho ha hb) fun _ _ _ => t2_ok hf
theorem de_cmp {op : CmpOp} {r : R2} {f : D → D → Option D} {x y : Expr} {a b : M} {pos : Pos} (ho : OpR X (compareOp op) r) (hf : OpF C.K C.cl r f) (ha : QE X C x a) (hb : QE X C y b) (hm : behindInMarks op y = false) : DE X C (.Compare x [op] [y] pos) (m2 f a b) :=
  pe_weak (pe_cmpR ho ha hb hm) fun _ _ _ => t2_ok hf
def mT (m : M) : MT := fun ρ n P R => m ρ n (fun d n' => ∃ b, d = .bool b ∧ P b n') R
theorem tT_ok {t : TE} {m : M} (h : ∀ σ H Q, tD C m σ H Q → t σ H Q) {σ : St} {H : Hp} {Q : Bool → Hp → Prop} (q : tT C (mT m) σ H Q) : tTest t σ H Q := by
  obtain ⟨B, ρ, n, P, R, F, w, ox, k⟩ := q
  refine h _ _ _ ⟨B, ρ, n, _, R, F, w, ox, fun d n' hb v B' H' s c r => ?_⟩
  obtain ⟨b, rfl, p⟩ := hb
  cases r
  exact ⟨b, rfl, k b n' p B' H' s c⟩
theorem dt_cmp {op : CmpOp} {r : R2} {f : D → D → Option D} {x y : Expr} {a b : M} {pos : Pos} (ho : OpR X (compareOp op) r) (hf : OpF C.K C.cl r f) (ha : QE X C x a) (hb : QE X C y b) (hm : behindInMarks op y = false) : DT X C (.Compare x [op] [y] pos) (mT (m2 f a b)) :=
  pt_weak (pt_cmpR ho ha hb hm) fun _ _ _ => tT_ok fun _ _ _ => t2_ok hf
/-- an expression that gives True or False, as a test -/
theorem dt_val {e : Expr} {m : M} (h : DE X C e m) (he : ∀ whole, isTrue e X.env whole = (do let v ← whole; standAt e.pos; holding [v] (truthy v)) := by intro _; rfl) : DT X C e (mT m) :=
  pt_weak (pt_val h he) fun _ _ _ q => tT_ok (t := tD C m) (fun _ _ _ z => z) q
def mNot (m : MT) : MT := fun ρ n P R => m ρ n (fun b n' => P (!b) n') R
theorem dt_not {a : Expr} {m : MT} {pos : Pos} (h : DT X C a m) : DT X C (.UnaryOp .Not a pos) (mNot m) := pt_weak (pt_not h) fun _ _ _ ⟨B, ρ, n, P, R, F, w, ox, k⟩ => ⟨B, ρ, n, _, R, F, w, ox, fun b n' p B' H' s c => k (!b) n' p B' H' s c⟩
abbrev DW (X : Cx) (C : Cn) (e : Expr) (m : MT) : Prop := PW X e (tT C m)
theorem pw_weak {e : Expr} {t t' : TT} (h : PW X e t) (w : ∀ σ H Q, t' σ H Q → t σ H Q) : PW X e t' := ⟨fun wh pins s σ H Q I q => h.run wh pins s σ H Q I (w σ H Q q)⟩
def mAnd (a b : MT) : MT := fun ρ n P R => a ρ n (fun k n1 => if k = true then b ρ n1 P R else P false n1) R
def mOr (a b : MT) : MT := fun ρ n P R => a ρ n (fun k n1 => if k = true then P true n1 else b ρ n1 P R) R
theorem dw_and1 {a : Expr} {m : MT} {pos : Pos} (h : DT X C a m) : DW X C (.BoolOp .And [a] pos) m := pw_and1 h
theorem dw_or1 {a : Expr} {m : MT} {pos : Pos} (h : DT X C a m) : DW X C (.BoolOp .Or [a] pos) m := pw_or1 h
theorem dw_and {a b : Expr} {rest : List Expr} {ma mb : MT} {pos : Pos} (ha : DT X C a ma) (hb : DW X C (.BoolOp .And (b :: rest) pos) mb) : DW X C (.BoolOp .And (a :: b :: rest) pos) (mAnd ma mb) := pw_weak (pw_and ha hb) fun σ H Q ⟨B, ρ, n, P, R, F, w, ox, k⟩ => by
  refine ⟨B, ρ, n, _, R, F, w, ox, fun c n1 p B1 H1 s1 k1 => ?_⟩
  cases c with
  | true => exact ⟨B1, ρ, n1, P, R, F.step s1 k1, p, ox.step s1, fun b n' q B' H' s2 c2 => k b n' q B' H' (s1.trans s2) c2⟩
  | false => exact k false n1 p B1 H1 s1 k1
theorem dw_or {a b : Expr} {rest : List Expr} {ma mb : MT} {pos : Pos} (ha : DT X C a ma) (hb : DW X C (.BoolOp .Or (b :: rest) pos) mb) : DW X C (.BoolOp .Or (a :: b :: rest) pos) (mOr ma mb) := pw_weak (pw_or ha hb) fun σ H Q ⟨B, ρ, n, P, R, F, w, ox, k⟩ => by
  refine ⟨B, ρ, n, _, R, F, w, ox, fun c n1 p B1 H1 s1 k1 => ?_⟩
  cases c with
  | false => exact ⟨B1, ρ, n1, P, R, F.step s1 k1, p, ox.step s1, fun b n' q B' H' s2 c2 => k b n' q B' H' (s1.trans s2) c2⟩
  | true => exact k true n1 p B1 H1 s1 k1
theorem dt_bool {e : Expr} {m : MT} (h : DW X C e m) : DT X C e m := h.pt
/-- and, or as values: all but the last True or False -/
def mAndV (a b : M) : M := fun ρ n P R => a ρ n (fun x n1 => ∃ k, x = .bool k ∧ if k = true then b ρ n1 P R else P (.bool false) n1) R
def mOrV (a b : M) : M := fun ρ n P R => a ρ n (fun x n1 => ∃ k, x = .bool k ∧ if k = true then P (.bool true) n1 else b ρ n1 P R) R
def mNotV (a : M) : M := fun ρ n P R => a ρ n (fun x n1 => ∃ k, x = .bool k ∧ P (.bool (!k)) n1) R
theorem de_one {op} {a : Expr} {m : M} {pos : Pos} (h : DE X C a m) : DE X C (.BoolOp op [a] pos) m := pe_one h
theorem de_and {a b : Expr} {rest : List Expr} {ma mb : M} {pos : Pos} (ha : DE X C a ma) (hb : DE X C (.BoolOp .And (b :: rest) pos) mb) : DE X C (.BoolOp .And (a :: b :: rest) pos) (mAndV ma mb) := pe_weak (pe_and ha hb) fun σ H Q ⟨B, ρ, n, P, R, F, w, ox, k⟩ => by
  refine ⟨B, ρ, n, _, R, F, w, ox, fun d n1 p v B1 H1 s1 k1 r => ?_⟩
  obtain ⟨c, rfl, p⟩ := p
  cases r
  refine ⟨c, rfl, ?_⟩
  cases c with
  | true => exact ⟨B1, ρ, n1, P, R, F.step s1 k1, p, ox.step s1, fun b n' q v B' H' s2 c2 r => k b n' q v B' H' (s1.trans s2) c2 r⟩
  | false => exact k _ n1 p _ B1 H1 s1 k1 (.bl false)
theorem de_or {a b : Expr} {rest : List Expr} {ma mb : M} {pos : Pos} (ha : DE X C a ma) (hb : DE X C (.BoolOp .Or (b :: rest) pos) mb) : DE X C (.BoolOp .Or (a :: b :: rest) pos) (mOrV ma mb) := pe_weak (pe_or ha hb) fun σ H Q ⟨B, ρ, n, P, R, F, w, ox, k⟩ => by
  refine ⟨B, ρ, n, _, R, F, w, ox, fun d n1 p v B1 H1 s1 k1 r => ?_⟩
  obtain ⟨c, rfl, p⟩ := p
  cases r
  refine ⟨c, rfl, ?_⟩
  cases c with
  | false => exact ⟨B1, ρ, n1, P, R, F.step s1 k1, p, ox.step s1, fun b n' q v B' H' s2 c2 r => k b n' q v B' H' (s1.trans s2) c2 r⟩
  | true => exact k _ n1 p _ B1 H1 s1 k1 (.bl true)
theorem de_not {a : Expr} {ma : M} {pos : Pos} (ha : DE X C a ma) : DE X C (.UnaryOp .Not a pos) (mNotV ma) := pe_weak (pe_not ha) fun σ H Q ⟨B, ρ, n, P, R, F, w, ox, k⟩ => by
  refine ⟨B, ρ, n, _, R, F, w, ox, fun d n1 p v B1 H1 s1 k1 r => ?_⟩
  obtain ⟨c, rfl, p⟩ := p
  cases r
  exact ⟨c, rfl, k _ n1 p _ B1 H1 s1 k1 (.bl _)⟩
def mIf (t : MT) (a b : M) : M := fun ρ n P R => t ρ n (fun k n1 => if k = true then a ρ n1 P R else b ρ n1 P R) R
theorem de_if {c a b : Expr} {mc : MT} {ma mb : M} {pos : Pos} (hc : DT X C c mc) (ha : DE X C a ma) (hb : DE X C b mb) : DE X C (.IfExp c a b pos) (mIf mc ma mb) := pe_weak (pe_ifExp hc ha hb) fun σ H Q ⟨B, ρ, n, P, R, F, w, ox, k⟩ => by
  refine ⟨B, ρ, n, _, R, F, w, ox, fun c n1 p B1 H1 s1 k1 => ?_⟩
  cases c with
  | true => exact ⟨B1, ρ, n1, P, R, F.step s1 k1, p, ox.step s1, fun b n' q v B' H' s2 c2 r => k b n' q v B' H' (s1.trans s2) c2 r⟩
  | false => exact ⟨B1, ρ, n1, P, R, F.step s1 k1, p, ox.step s1, fun b n' q v B' H' s2 c2 r => k b n' q v B' H' (s1.trans s2) c2 r⟩
/-- a < b < c -/
def mChain (f g : D → D → Option D) (a b c : M) : M := fun ρ n P R => a ρ n (fun x n1 => b ρ n1 (fun y n2 => ∃ k, f x y = some (.bool k) ∧ if k = true then c ρ n2 (fun z n3 => ∃ u, g y z = some u ∧ P u n3) R else P (.bool false) n2) R) R
end
end DS

/-! DS2: operators on data. -/
namespace DS
open PySem L2
def okD (d : D) : Bool := d.plain && decide (d.depth ≤ 64)
def okDs (ds : List D) : Bool := PyData.plainAll ds && decide (PyData.depthAll ds ≤ 64)
section
variable {X : Cx} {C : Cn} {K : Fg} {cl : Cl}
/-! ### == != in, not in, over data -/
def rEqA (K : Fg) (neg : Bool) : R2 := fun x y H Q => ∃ d e, Dp K H x d ∧ Dp K H y e ∧ okD d = true ∧ okD e = true ∧ Q (.bl (if neg then !PyData.eqv d e else PyData.eqv d e)) H
def rInA (K : Fg) (neg : Bool) : R2 := fun x y H Q => ∃ d ds e, Dp K H x d ∧ Dp K H y e ∧ (e = .list ds ∨ e = .tuple ds) ∧ okD d = true ∧ PyData.plainAll ds = true ∧ Q (.bl (if neg then !ds.any (fun z => PyData.eqv z d) else ds.any fun z => PyData.eqv z d)) H
theorem okD_iff {d : D} (h : okD d = true) : d.plain = true ∧ d.depth ≤ 64 := by
  unfold okD at h
  rw [Bool.and_eq_true, decide_eq_true_eq] at h
  exact h
theorem op_eqA (hu : X.A.units + 64 < cLine) : OpR X (compareOp .Eq) (rEqA X.K false) := by
  intro pins s σ H x y v u Q I rx ry h
  obtain ⟨d, e, hd, he, sd, se, q⟩ := h
  obtain ⟨as, r1⟩ := Dp.reads I d x v hd rx
  obtain ⟨bs, r2⟩ := Dp.reads I e y u he ry
  have h1 := okD_iff sd
  have h2 := okD_iff se
  have h3 : min d.depth e.depth ≤ 64 := Nat.le_trans (Nat.min_le_left _ _) h1.2
  exact SeqAt.eq_plain r1 r2 h1.1 h2.1 (by omega) ⟨.bl _, H, I, rfl, q⟩
theorem op_neA (hu : X.A.units + 64 < cLine) : OpR X (compareOp .NotEq) (rEqA X.K true) := by
  intro pins s σ H x y v u Q I rx ry h
  obtain ⟨d, e, hd, he, sd, se, q⟩ := h
  obtain ⟨as, r1⟩ := Dp.reads I d x v hd rx
  obtain ⟨bs, r2⟩ := Dp.reads I e y u he ry
  have h1 := okD_iff sd
  have h2 := okD_iff se
  have h3 : min d.depth e.depth ≤ 64 := Nat.le_trans (Nat.min_le_left _ _) h1.2
  exact SeqAt.ne_plain r1 r2 h1.1 h2.1 (by omega) ⟨.bl _, H, I, rfl, q⟩
theorem op_inA (hu : X.A.units + 65 < cLine) : OpR X (compareOp .In) (rInA X.K false) := by
  intro pins s σ H x y v u Q I rx ry h
  obtain ⟨d, ds, e, hd, he, hl, sd, se, q⟩ := h
  obtain ⟨as, r1⟩ := Dp.reads I d x v hd rx
  obtain ⟨bs, r2⟩ := Dp.reads I e y u he ry
  have h1 := okD_iff sd
  have h3 : min (PyData.depthAll ds) d.depth ≤ 64 := Nat.le_trans (Nat.min_le_right _ _) h1.2
  rcases hl with rfl | rfl
  · exact SeqAt.in_list_data r2 r1 se h1.1 (by omega) ⟨.bl _, H, I, rfl, q⟩
  · exact SeqAt.in_tuple_data r2 r1 se h1.1 (by omega) ⟨.bl _, H, I, rfl, q⟩
theorem op_notInA (hu : X.A.units + 65 < cLine) : OpR X (compareOp .NotIn) (rInA X.K true) := by
  intro pins s σ H x y v u Q I rx ry h
  obtain ⟨d, ds, e, hd, he, hl, sd, se, q⟩ := h
  obtain ⟨as, r1⟩ := Dp.reads I d x v hd rx
  obtain ⟨bs, r2⟩ := Dp.reads I e y u he ry
  have h1 := okD_iff sd
  have h3 : min (PyData.depthAll ds) d.depth ≤ 64 := Nat.le_trans (Nat.min_le_right _ _) h1.2
  rcases hl with rfl | rfl
  · exact SeqAt.notIn_list_data r2 r1 se h1.1 (by omega) ⟨.bl _, H, I, rfl, q⟩
  · exact SeqAt.notIn_tuple_data r2 r1 se h1.1 (by omega) ⟨.bl _, H, I, rfl, q⟩
def fEq (neg : Bool) (x y : D) : Option D := if okD x = true ∧ okD y = true then some (.bool (if neg then !PyData.eqv x y else PyData.eqv x y)) else none
def fIn (neg : Bool) (x y : D) : Option D := match y with
  | .list ds => if okD x = true ∧ PyData.plainAll ds = true then some (.bool (if neg then !ds.any (fun z => PyData.eqv z x) else ds.any fun z => PyData.eqv z x)) else none
  | .tuple ds => if okD x = true ∧ PyData.plainAll ds = true then some (.bool (if neg then !ds.any (fun z => PyData.eqv z x) else ds.any fun z => PyData.eqv z x)) else none
  | _ => none
theorem ite_some' {c : Prop} [Decidable c] {α : Type} {a b : α} (h : (if c then some a else none) = some b) : c ∧ a = b := by
  split at h
  · exact ⟨by assumption, Option.some.inj h⟩
  · cases h
theorem Dp.mono' {A A' : Hp} : ∀ {v : V} {d : D}, DR K cl A v d → Same A A' → d.plain = true → Dp K A' v d := fun h e p => (h.mono e).dp p
theorem f_eq (neg : Bool) : OpF K cl (rEqA K neg) (fEq neg) := fun A H x y dx dy z s hx hy e Q q => by
  obtain ⟨⟨h1, h2⟩, rfl⟩ := ite_some' e
  exact ⟨dx, dy, Dp.mono' hx s (okD_iff h1).1, Dp.mono' hy s (okD_iff h2).1, h1, h2, q _ fun _ => .bl _⟩
theorem f_in (neg : Bool) : OpF K cl (rInA K neg) (fIn neg) := fun A H x y dx dy z s hx hy e Q q => by
  cases dy with
  | list ds =>
    obtain ⟨⟨h1, h2⟩, rfl⟩ := ite_some' e
    exact ⟨dx, ds, _, Dp.mono' hx s (okD_iff h1).1, Dp.mono' hy s (by simpa [PyData.plain] using h2), .inl rfl, h1, h2, q _ fun _ => .bl _⟩
  | tuple ds =>
    obtain ⟨⟨h1, h2⟩, rfl⟩ := ite_some' e
    exact ⟨dx, ds, _, Dp.mono' hx s (okD_iff h1).1, Dp.mono' hy s (by simpa [PyData.plain] using h2), .inr rfl, h1, h2, q _ fun _ => .bl _⟩
  | none => cases e
  | bool _ => cases e
  | int _ => cases e
  | str _ => cases e
  | dict _ => cases e
/-! ### whole numbers -/
def fI (g : Int → Int → D) (x y : D) : Option D := match x, y with
  | .int i, .int j => some (g i j)
  | _, _ => none
def fIc (c : Int → Int → Bool) (g : Int → Int → D) (x y : D) : Option D := match x, y with
  | .int i, .int j => if c i j = true then some (g i j) else none
  | _, _ => none
theorem f_I {g : Int → Int → V} {g' : Int → Int → D} (hg : ∀ i j A, DR K cl A (g i j) (g' i j)) : OpF K cl (rI0 g) (fI g') := fun A H x y dx dy z s hx hy e Q q => by
  cases hx <;> cases hy <;> cases e
  exact ⟨_, _, rfl, rfl, q _ fun A' => hg _ _ A'⟩
theorem f_Ic {c : Int → Int → Bool} {P : Int → Int → Prop} (hc : ∀ i j, c i j = true → P i j) {g : Int → Int → V} {g' : Int → Int → D} (hg : ∀ i j A, DR K cl A (g i j) (g' i j)) : OpF K cl (rI P g) (fIc c g') := fun A H x y dx dy z s hx hy e Q q => by
  cases hx <;> cases hy <;> first
    | (cases e; done)
    | (obtain ⟨h1, rfl⟩ := ite_some' (show (if c _ _ = true then some (g' _ _) else none) = some z from e)
       exact ⟨_, _, rfl, rfl, hc _ _ h1, q _ fun A' => hg _ _ A'⟩)
abbrev fAdd := fI fun i j => .int (i + j)
abbrev fSub := fI fun i j => .int (i - j)
abbrev fLt := fI fun i j => .bool (decide (i < j))
abbrev fLe := fI fun i j => .bool (decide (i ≤ j))
abbrev fGt := fI fun i j => .bool (decide (j < i))
abbrev fGe := fI fun i j => .bool (decide (j ≤ i))
abbrev fMul := fIc (fun i _ => decide (-(2 ^ 64) < i ∧ i < 2 ^ 64)) fun i j => .int (i * j)
abbrev fMod := fIc (fun _ j => decide (0 < j)) fun i j => .int (i % j)
abbrev fPow := fIc (fun i j => decide (0 ≤ j ∧ j ≤ 1000000 ∧ i.natAbs < 2 ^ 64)) fun i j => .int (i ^ j.toNat)
theorem f_add : OpF K cl (rI0 fun i j => .int (i + j)) fAdd := f_I fun _ _ _ => .int _
theorem f_sub : OpF K cl (rI0 fun i j => .int (i - j)) fSub := f_I fun _ _ _ => .int _
theorem f_lt : OpF K cl (rI0 fun i j => .bl (decide (i < j))) fLt := f_I fun _ _ _ => .bl _
theorem f_le : OpF K cl (rI0 fun i j => .bl (decide (i ≤ j))) fLe := f_I fun _ _ _ => .bl _
theorem f_gt : OpF K cl (rI0 fun i j => .bl (decide (j < i))) fGt := f_I fun _ _ _ => .bl _
theorem f_ge : OpF K cl (rI0 fun i j => .bl (decide (j ≤ i))) fGe := f_I fun _ _ _ => .bl _
theorem f_mul : OpF K cl (rI CMul fun i j => .int (i * j)) fMul := f_Ic (fun i j h => .inl (of_decide_eq_true h)) fun _ _ _ => .int _
theorem f_mod : OpF K cl (rI (fun _ j => 0 < j) fun i j => .int (i % j)) fMod := f_Ic (fun i j h => of_decide_eq_true h) fun _ _ _ => .int _
theorem f_pow : OpF K cl (rI CPow fun i j => .int (i ^ j.toNat)) fPow := f_Ic (P := CPow) (fun i j h => by have q : 0 ≤ j ∧ j ≤ 1000000 ∧ i.natAbs < 2 ^ 64 := of_decide_eq_true h; exact q) fun _ _ _ => .int _
/-- is None, is not None -/
def fIsN (neg : Bool) (x y : D) : Option D := match y with
  | .none => some (.bool (if neg then !(match x with | .none => true | _ => false) else (match x with | .none => true | _ => false)))
  | _ => none
theorem f_isN : OpF K cl (fun x y H Q => y = .non ∧ Q (.bl (decide (x = .non))) H) (fIsN false) := fun A H x y dx dy z s hx hy e Q q => by
  cases hy <;> cases e
  refine ⟨rfl, ?_⟩
  cases hx <;> exact q _ fun _ => .bl _
theorem f_notN : OpF K cl (fun x y H Q => y = .non ∧ Q (.bl (!decide (x = .non))) H) (fIsN true) := fun A H x y dx dy z s hx hy e Q q => by
  cases hy <;> cases e
  refine ⟨rfl, ?_⟩
  cases hx <;> exact q _ fun _ => .bl _
/-- texts by the order of their signs -/
def fLeS (x y : D) : Option D := match x, y with
  | .str a, .str b => some (.bool (!decide (b.cps.toList < a.cps.toList)))
  | _, _ => none
theorem f_leS : OpF K cl (fun x y H Q => ∃ i j, x = .str i ∧ y = .str j ∧ Q (.bl (!decide (j.cps.toList < i.cps.toList))) H) fLeS := fun A H x y dx dy z s hx hy e Q q => by
  cases hx <;> cases hy <;> cases e
  exact ⟨_, _, rfl, rfl, q _ fun _ => .bl _⟩
def fAddS (x y : D) : Option D := match x, y with
  | .str a, .str b => if a.length + b.length ≤ sizeLine then some (.str (a ++ b)) else none
  | _, _ => none
theorem f_addS : OpF K cl (fun x y H Q => ∃ i j, x = .str i ∧ y = .str j ∧ i.length + j.length ≤ sizeLine ∧ Q (.str (i ++ j)) H) fAddS := fun A H x y dx dy z s hx hy e Q q => by
  cases hx <;> cases hy <;> first
    | (cases e; done)
    | (obtain ⟨h1, rfl⟩ := ite_some' (show (if _ ≤ sizeLine then some (PyData.str _) else none) = some z from e)
       exact ⟨_, _, rfl, rfl, h1, q _ fun _ => .str _⟩)
theorem qe_chain {op op' : CmpOp} {r r' : R2} {f g : D → D → Option D} {a b c : Expr} {ma mb mc : M} {pos : Pos} (ho : OpR X (compareOp op) r) (ho' : OpR X (compareOp op') r') (hf : OpF C.K C.cl r f) (hg : OpF C.K C.cl r' g) (ha : QE X C a ma) (hb : QE X C b mb) (hc : QE X C c mc)
    (hm : lastMarks [op, op'] [b, c] = false := by with_unfolding_all rfl) : DE X C (.Compare a [op, op'] [b, c] pos) (mChain f g ma mb mc) := pe_weak (pe_chain ho ho' ha hb hc hm) fun σ H Q ⟨B, ρ, n, P, R, F, w, ox, k⟩ => by
  refine ⟨B, ρ, n, _, R, F, w, ox, fun dx n1 hb x B1 H1 s1 k1 rx => ⟨B1, ρ, n1, _, R, F.step s1 k1, hb, ox.step s1, fun dy n2 hz y B2 H2 s2 k2 ry => ?_⟩⟩
  obtain ⟨b, hz, p⟩ := hz
  refine hf (hid C.sc H2) H2 x y dx dy _ hid_sub ((rx.mono s2.ext.hid s2.old).dr s2.hid) (ry.dr s2.hid) hz _ fun v hv => ?_
  cases hv B2
  refine ⟨b, rfl, ?_⟩
  cases b with
  | false => exact k _ n2 p _ B2 H2 (s1.trans s2) k2 (.bl false)
  | true =>
    rw [if_pos rfl]
    refine ⟨B2, ρ, n2, _, R, (F.step s1 k1).step s2 k2, p, (ox.step s1).step s2, fun dz n3 hu z B3 H3 s3 k3 rz => ?_⟩
    obtain ⟨u, hu, p⟩ := hu
    exact hg (hid C.sc H3) H3 y z dy dz u hid_sub ((ry.mono s3.ext.hid s3.old).dr s3.hid) (rz.dr s3.hid) hu Q fun v hv => k u n3 p v B3 H3 ((s1.trans s2).trans s3) k3 (hv B3)
theorem t_chain {r r' : R2} {f g : D → D → Option D} {ma mb mc : M} (hf : OpF C.K C.cl r f) (hg : OpF C.K C.cl r' g) {σ : St} {H : Hp} {Q : VK} (h : tD C (mChain f g ma mb mc) σ H Q) : tChain r r' (tQ C ma) (tQ C mb) (tQ C mc) σ H Q := by
  obtain ⟨B, ρ, n, P, R, F, w, ox, k⟩ := h
  refine ⟨B, ρ, n, _, R, F, w, ox, fun dx n1 hb x B1 H1 s1 k1 rx => ⟨B1, ρ, n1, _, R, F.step s1 k1, hb, ox.step s1, fun dy n2 hz y B2 H2 s2 k2 ry => ?_⟩⟩
  obtain ⟨b, hz, p⟩ := hz
  refine hf (hid C.sc H2) H2 x y dx dy _ hid_sub ((rx.mono s2.ext.hid s2.old).dr s2.hid) (ry.dr s2.hid) hz _ fun v hv => ?_
  cases hv B2
  refine ⟨b, rfl, ?_⟩
  cases b with
  | false => exact k _ n2 p _ B2 H2 (s1.trans s2) k2 (.bl false)
  | true =>
    rw [if_pos rfl]
    refine ⟨B2, ρ, n2, _, R, (F.step s1 k1).step s2 k2, p, (ox.step s1).step s2, fun dz n3 hu z B3 H3 s3 k3 rz => ?_⟩
    obtain ⟨u, hu, p⟩ := hu
    exact hg (hid C.sc H3) H3 y z dy dz u hid_sub ((ry.mono s3.ext.hid s3.old).dr s3.hid) (rz.dr s3.hid) hu Q fun v hv => k u n3 p v B3 H3 ((s1.trans s2).trans s3) k3 (hv B3)
theorem dt_chain {op op' : CmpOp} {r r' : R2} {f g : D → D → Option D} {a b c : Expr} {ma mb mc : M} {pos : Pos} (ho : OpR X (compareOp op) r) (ho' : OpR X (compareOp op') r') (hf : OpF C.K C.cl r f) (hg : OpF C.K C.cl r' g) (ha : QE X C a ma) (hb : QE X C b mb) (hc : QE X C c mc)
    (hm : lastMarks [op, op'] [b, c] = false := by with_unfolding_all rfl) : DT X C (.Compare a [op, op'] [b, c] pos) (mT (mChain f g ma mb mc)) := pt_weak (pt_chain ho ho' ha hb hc hm) fun _ _ _ => tT_ok fun _ _ _ => t_chain hf hg
end
end DS

/-! DS3: arguments, displays, calls, items, slices, comprehensions. -/
namespace DS
open PySem L2
section
variable {X : Cx} {C : Cn} {K : Fg} {cl : Cl}
/-! ### arguments -/
def mNil : MA := fun _ n P _ => P [] n
def mCons (m : M) (r : MA) : MA := fun ρ n P R => m ρ n (fun d n1 => r ρ n1 (fun as n2 => P (.dat d :: as) n2) R) R
def mSrc (i : Nat) (r : MA) : MA := fun ρ n P R => ρ[i]? = some .src ∧ r ρ n (fun as n2 => P (.src :: as) n2) R
theorem da_nil : DA X C [] mNil := pa_weak pa_nil fun σ H Q ⟨B, ρ, n, P, R, F, w, ox, k⟩ => k [] n w [] B H F.self F.src .nil
theorem da_cons {e : Expr} {es : List Expr} {m : M} {r : MA} (ha : DE X C e m) (hr : DA X C es r) (hs : starEach (e :: es) X.env = (false, eval e X.env) :: starEach es X.env := by rfl) : DA X C (e :: es) (mCons m r) :=
  pa_weak (pa_cons ha hr hs) fun σ H Q ⟨B, ρ, n, P, R, F, w, ox, k⟩ =>
    ⟨B, ρ, n, _, R, F, w, ox, fun d n1 hb v B1 H1 s1 k1 rv => ⟨B1, ρ, n1, _, R, F.step s1 k1, hb, ox.step s1, fun as n2 p vs B2 H2 s2 k2 rs => k _ n2 p (v :: vs) B2 H2 (s1.trans s2) k2 (.cons (.dat (rv.mono s2.old)) rs)⟩⟩
theorem da_src (i : Nat) {x : Str} {pos : Pos} {es : List Expr} {r : MA} (hr : DA X C es r) (hN : X.N[i]? = some x := by rfl) (hv : Vis X.env.scope x := by first | exact Or.inl rfl | exact Or.inr (Or.inl rfl) | exact Or.inr (Or.inr rfl)) (hd : (x == ("__debug__" : Str)) = false := by decide)
    (hcd : (x == ("__classdict__" : Str)) = false := by decide) (hs : starEach (.Name x pos :: es) X.env = (false, eval (.Name x pos) X.env) :: starEach es X.env := by rfl) : DA X C (.Name x pos :: es) (mSrc i r) :=
  pa_weak (pa_cons (pe_var hN hv hd hcd) hr hs) fun σ H Q ⟨B, ρ, n, P, R, F, ⟨e, w⟩, ox, k⟩ => by
    obtain ⟨a, h1, h2⟩ := paired_get F.slo e
    cases h2 with
    | src h => exact ⟨_, h1, B, ρ, n, _, R, F, w, ox, fun as n2 p vs B2 H2 s2 k2 rs => k _ n2 p _ B2 H2 s2 k2 (.cons (.src h) rs)⟩
def datAll : List Sl → Option (List D)
  | [] => some []
  | .dat d :: r => (datAll r).map (d :: ·)
  | _ :: _ => none
theorem datAll_rel {sc : Sc} {B : Hp} : ∀ {vs : List V} {as : List Sl} {ds : List D}, Paired (AgR K cl sc B) vs as → datAll as = some ds → DRs K cl B vs ds
  | _, [], _, .nil, e => by cases e; exact .nil
  | _, .dat d :: r, ds, .cons (.dat h) t, e => by
    unfold datAll at e
    cases q : datAll r with
    | none => rw [q] at e; cases e
    | some es => rw [q] at e; cases e; exact .cons h (datAll_rel t q)
  | _, .src :: r, ds, .cons (.src h) t, e => by cases e
/-! ### displays -/
def mTup (a : MA) : M := fun ρ n P R => a ρ n (fun as n1 => ∃ ds, datAll as = some ds ∧ ds.length ≤ sizeLine ∧ P (.tuple ds) n1) R
def mLst (a : MA) : ML := fun ρ n P R => a ρ n (fun as n1 => ∃ ds, datAll as = some ds ∧ ds.length ≤ sizeLine ∧ P ds n1) R
theorem fresh_of {sc : Sc} {B H B' H' : Hp} {p : Addr} {n : Nat} (s : Stp sc B H B' H') (h : H' p = none) (k : SrcOk sc H' n) : H p = none := by
  cases e : H p with
  | none => rfl
  | some o =>
    have hs : ¬ inS sc p := src_new k h
    rw [s.ext p o hs e] at h; cases h
theorem none_of {sc : Sc} {B H B' H' : Hp} {p : Addr} (s : Stp sc B H B' H') (h : H' p = none) : B' p = none := by
  cases e : B' p with
  | none => rfl
  | some o => rw [s.sub p o e] at h; cases h
/-- a new settled object -/
theorem Stp.put {sc : Sc} {B H B' H' : Hp} {p : Addr} {o : HO} {n : Nat} (s : Stp sc B H B' H') (h : H' p = none) (k : SrcOk sc H' n) : Stp sc B H (upd B' p o) (upd H' p o) :=
  (s.lay h).settle (fresh_of s h k) upd_same (none_of s h) (src_new k h)
theorem de_tup {es : List Expr} {a : MA} {pos : Pos} {x2} (h : DA X C es a) : DE X C (.Tuple es x2 pos) (mTup a) := pe_weak (pe_tup h) fun σ H Q ⟨B, ρ, n, P, R, F, w, ox, k⟩ =>
  ⟨B, ρ, n, _, R, F, w, ox, fun as n1 ⟨ds, e, l, p⟩ vs B1 H1 s1 k1 rs => ⟨by rw [(datAll_rel rs e).length]; exact l, fun q hq => k _ n1 p (.ref q) (upd B1 q (.tup vs)) _ (s1.put hq k1) (src_lay k1 hq)
    (.tup (SqT.of upd_same) ((datAll_rel rs e).mono (same_upd (none_of s1 hq))))⟩⟩
theorem le_lst {es : List Expr} {a : MA} {pos : Pos} (h : DA X C es a) : LE X C (.List es pos) (mLst a) := pe_weak (pe_lst h) fun σ H Q ⟨B, ρ, n, P, R, F, w, ox, k⟩ =>
  ⟨B, ρ, n, _, R, F, w, ox, fun as n1 ⟨ds, e, l, p⟩ vs B1 H1 s1 k1 rs => ⟨by rw [(datAll_rel rs e).length]; exact l, fun q hq => k _ n1 p q vs B1 _ (fresh_of s1 hq k1) (s1.lay hq) (none_of s1 hq) (src_lay k1 hq) upd_same (datAll_rel rs e)⟩⟩
/-! ### calls of the text's own defs -/
abbrev G := List Sl → Nat → PD → PX → Prop
def spW (K : Fg) (cl : Cl) (ar : Nat) (g : G) : Sp := fun vs H Q E => ∃ sc B n as P R, Same B H ∧ (∀ a, inS sc a → B a = none) ∧ SrcOk sc H n ∧ Paired (AgR K cl sc B) vs as ∧ as.length = ar ∧ g as n P R ∧ OkX ⟨K, cl, sc, H, B, E⟩ B H R ∧
  ∀ d n', P d n' → ∀ v B' H', Stp sc B H B' H' → SrcOk sc H' n' → DR K cl B' v d → Q v H'
def mCall (g : G) (ar : Nat) (a : MA) : M := fun ρ n P R => a ρ n (fun as n1 => as.length = ar ∧ g as n1 P R) R
theorem t_call {g : G} {ar : Nat} {a : MA} {σ : St} {H : Hp} {Q : VK} (h : tD C (mCall g ar a) σ H Q) : tCall (spW C.K C.cl ar g) [] C.E (tA C a) σ H Q := by
  obtain ⟨B, ρ, n, P, R, F, w, ox, k⟩ := h
  refine ⟨B, ρ, n, _, R, F, w, ox, fun as n1 q vs B1 H1 s1 k1 rs => ?_⟩
  show spW C.K C.cl ar g (vs ++ []) H1 Q C.E
  rw [List.append_nil]
  exact ⟨C.sc, B1, n1, as, P, R, s1.sub, s1.nos, k1, rs, q.1, q.2, ox.step s1, fun d n' p v B' H' s2 k2 r => k d n' p v B' H' (s1.trans s2) k2 r⟩
theorem de_call {k ar : Nat} {f : Addr} {fd : FuncData} {ps : List Str} {g : G} {a : MA} {x : Str} {p pos : Pos} {e : Expr} {es : List Expr} (F : FnOk X.prog X.w X.K X.mg X.base (L2.CX X.prog X.w) k f fd ps (spW C.K C.cl ar g)) (hr : Room k X.A) (hg : Gl X x) (hm : X.mg x = some (.ref f))
    (hk : PySem.W.keepIn X.K (.ref f) = true) (hb : Binds X.K fd ps []) (hx : Passes (L2.CX X.prog X.w) X C.E) (ha : DA X C (e :: es) a) (hdb : (x == ("__debug__" : Str)) = false := by decide)
    (he : starEach (e :: es) X.env = (false, eval e X.env) :: starEach es X.env := by rfl) (hpl : (backTo pos (starEach es X.env)).any (·.1) = false := by rfl) : DE X C (.Call (.Name x p) (e :: es) [] pos) (mCall g ar a) :=
  pe_weak (pe_call F hr hg hm hk hb .nil hx ha hdb he hpl) fun _ _ _ => t_call
theorem de_call0 {k ar : Nat} {f : Addr} {fd : FuncData} {ps : List Str} {g : G} {x : Str} {p pos : Pos} (F : FnOk X.prog X.w X.K X.mg X.base (L2.CX X.prog X.w) k f fd ps (spW C.K C.cl ar g)) (hr : Room k X.A) (hg : Gl X x) (hm : X.mg x = some (.ref f))
    (hk : PySem.W.keepIn X.K (.ref f) = true) (hb : Binds X.K fd ps []) (hx : Passes (L2.CX X.prog X.w) X C.E) (hdb : (x == ("__debug__" : Str)) = false := by decide) : DE X C (.Call (.Name x p) [] [] pos) (mCall g ar mNil) :=
  pe_weak (pe_call0 F hr hg hm hk hb .nil hx hdb) fun σ H Q ⟨B, ρ, n, P, R, F, w, ox, k⟩ => by
    show spW C.K C.cl ar g ([] ++ []) H Q C.E
    exact ⟨C.sc, B, n, [], P, R, F.sub, F.nos, F.src, .nil, w.1, w.2, ox, k⟩
/-! ### items -/
def fIx (x y : D) : Option D := match x, y with
  | .list ds, .int i => atI ds i
  | .tuple ds, .int i => atI ds i
  | .str z, .int i => if z.length ≤ sizeLine then (atI z.cps.toList i).map fun c => .str ⟨#[c]⟩ else none
  | _, _ => none
def mIx (a b : M) : M := m2 fIx a b
theorem atI_rel {A : Hp} {vs : List V} {ds : List D} {i : Int} {d : D} (h : DRs K cl A vs ds) (e : atI ds i = some d) : ∃ v, atI vs i = some v ∧ DR K cl A v d := by
  unfold atI at e ⊢
  rw [h.length]
  cases q : ixN ds.length i with
  | none => rw [q] at e; cases e
  | some j =>
    rw [q] at e
    exact h.getV e
theorem de_ix {x y : Expr} {a b : M} {pos : Pos} (hK : X.K = C.K) (ha : QE X C x a) (hb : QE X C y b) (hs : PlainIx y) : DE X C (.Subscript x y pos) (mIx a b) := pe_weak (pe_ix ix_seq ha hb hs) fun σ H Q ⟨B, ρ, n, P, R, F, w, ox, k⟩ => by
  rw [hK]
  refine ⟨B, ρ, n, _, R, F, w, ox, fun dx n1 hb x B1 H1 s1 k1 rx => ⟨B1, ρ, n1, _, R, F.step s1 k1, hb, ox.step s1, fun dy n2 hz y B2 H2 s2 k2 ry => ?_⟩⟩
  obtain ⟨z, hz, p⟩ := hz
  have rx2 := rx.mono s2.ext.hid s2.old
  have fin := fun v (h : DR C.K C.cl B2 v z) => k z n2 p v B2 H2 (s1.trans s2) k2 h
  cases ry with
  | lst _ _ => exact absurd hz (by cases dx <;> simp [fIx])
  | set ry =>
    cases rx2 with
    | lst h r =>
      cases ry <;> first
        | (simp [fIx] at hz; done)
        | (obtain ⟨v, h1, h2⟩ := atI_rel r hz
           exact .inl ⟨_, _, _, v, rfl, rfl, SqL.of (hid_sub _ _ h), h1, fin v h2⟩)
    | set rx =>
      cases rx with
      | lst h r =>
        cases ry <;> first
          | (simp [fIx] at hz; done)
          | (obtain ⟨v, h1, h2⟩ := atI_rel r hz
             exact .inl ⟨_, _, _, v, rfl, rfl, SqL.of (s2.sub _ _ h), h1, fin v h2⟩)
      | tup h r =>
        cases ry <;> first
          | (simp [fIx] at hz; done)
          | (obtain ⟨v, h1, h2⟩ := atI_rel r hz
             exact .inr (.inl ⟨_, _, _, v, rfl, rfl, sqt_same s2.sub h, h1, fin v h2⟩))
      | str w =>
        cases ry <;> first
          | (simp [fIx] at hz; done)
          | (rename_i i
             have hz' : (if w.length ≤ sizeLine then (atI w.cps.toList i).map (fun c => (PyData.str ⟨#[c]⟩ : D)) else none) = some z := hz
             have h1 : w.length ≤ sizeLine := by
               by_cases q : w.length ≤ sizeLine
               · exact q
               · rw [if_neg q] at hz'; cases hz'
             rw [if_pos h1] at hz'
             have h2 := hz'
             obtain ⟨c, e1, e2⟩ := Option.map_eq_some_iff.mp h2
             subst e2
             exact .inr (.inr ⟨w, _, c, rfl, rfl, h1, e1, fin _ (.str _)⟩))
      | non => exact absurd hz (by cases dy <;> simp [fIx])
      | bl _ => exact absurd hz (by cases dy <;> simp [fIx])
      | int _ => exact absurd hz (by cases dy <;> simp [fIx])
      | ins _ _ _ _ => exact absurd hz (by cases dy <;> simp [fIx])
end
end DS

/-! DS4: what is walked, comprehensions; slices, sums of lists, built-in functions. -/
namespace DS
open PySem L2
section
variable {X : Cx} {C : Cn} {K : Fg} {cl : Cl}
/-! ### built-in functions, one argument, an answer that is no object -/
def CF1 (K : Fg) (cl : Cl) (r : List V → Hp → VK → Prop) (f : D → Option D) : Prop := ∀ (A H : Hp) (x : V) (dx z : D), Same A H → DR K cl A x dx → f dx = some z → ∀ Q : VK, (∀ v, (∀ A', DR K cl A' v z) → Q v H) → r [x] H Q
def CF2 (K : Fg) (cl : Cl) (r : List V → Hp → VK → Prop) (f : D → D → Option D) : Prop := ∀ (A H : Hp) (x y : V) (dx dy z : D), Same A H → DR K cl A x dx → DR K cl A y dy → f dx dy = some z → ∀ Q : VK, (∀ v, (∀ A', DR K cl A' v z) → Q v H) → r [x, y] H Q
def m1 (f : D → Option D) (a : M) : M := fun ρ n P R => a ρ n (fun x n1 => ∃ z, f x = some z ∧ P z n1) R
theorem t_cb1 {r : List V → Hp → VK → Prop} {f : D → Option D} {a : M} (hf : CF1 C.K C.cl r f) {σ : St} {H : Hp} {Q : VK} (h : tD C (m1 f a) σ H Q) : tCB r (tCons (tQ C a) tNil) σ H Q := by
  obtain ⟨B, ρ, n, P, R, F, w, ox, k⟩ := h
  refine ⟨B, ρ, n, _, R, F, w, ox, fun dx n1 hz x B1 H1 s1 k1 rx => ?_⟩
  obtain ⟨z, hz, p⟩ := hz
  exact hf (hid C.sc H1) H1 x dx z hid_sub (rx.dr s1.hid) hz Q fun v hv => k z n1 p v B1 H1 s1 k1 (hv B1)
theorem t_cb2 {r : List V → Hp → VK → Prop} {f : D → D → Option D} {a b : M} (hf : CF2 C.K C.cl r f) {σ : St} {H : Hp} {Q : VK} (h : tD C (m2 f a b) σ H Q) : tCB r (tCons (tQ C a) (tCons (tQ C b) tNil)) σ H Q := by
  obtain ⟨B, ρ, n, P, R, F, w, ox, k⟩ := h
  refine ⟨B, ρ, n, _, R, F, w, ox, fun dx n1 hb x B1 H1 s1 k1 rx => ⟨B1, ρ, n1, _, R, F.step s1 k1, hb, ox.step s1, fun dy n2 hz y B2 H2 s2 k2 ry => ?_⟩⟩
  obtain ⟨z, hz, p⟩ := hz
  exact hf (hid C.sc H2) H2 x y dx dy z hid_sub ((rx.mono s2.ext.hid s2.old).dr s2.hid) (ry.dr s2.hid) hz Q fun v hv => k z n2 p v B2 H2 (s1.trans s2) k2 (hv B2)
theorem de_cb1 {id : String} {r : List V → Hp → VK → Prop} {f : D → Option D} {a : M} {x : Str} {e : Expr} {p pos : Pos} (hc : CallR X (.builtin id) r) (hf : CF1 C.K C.cl r f) (hg : Gl X x) (hm : X.mg x = none) (hv : bootBuiltins x = some (.builtin id)) (ha : QE X C e a)
    (hn : x ≠ "__name__" := by decide) (hdb : (x == ("__debug__" : Str)) = false := by decide) (he : starEach (e :: []) X.env = (false, eval e X.env) :: starEach [] X.env := by rfl) : DE X C (.Call (.Name x p) [e] [] pos) (m1 f a) :=
  pe_weak (pe_callB hc hg hm hv (pa_cons ha pa_nil he) hn hdb he) fun _ _ _ => t_cb1 hf
theorem de_ct1 {T : String} {r : List V → Hp → VK → Prop} {f : D → Option D} {a : M} {x : Str} {e : Expr} {p pos : Pos} (hc : CallR X (.type T) r) (hf : CF1 C.K C.cl r f) (hg : Gl X x) (hm : X.mg x = none) (hv : bootBuiltins x = some (.type T)) (ha : QE X C e a)
    (hn : x ≠ "__name__" := by decide) (hdb : (x == ("__debug__" : Str)) = false := by decide) (he : starEach (e :: []) X.env = (false, eval e X.env) :: starEach [] X.env := by rfl) : DE X C (.Call (.Name x p) [e] [] pos) (m1 f a) :=
  pe_weak (pe_callTy hc hg hm hv (pa_cons ha pa_nil he) hn hdb he) fun _ _ _ => t_cb1 hf
theorem de_cb2 {id : String} {r : List V → Hp → VK → Prop} {f : D → D → Option D} {a b : M} {x : Str} {e e2 : Expr} {p pos : Pos} (hc : CallR X (.builtin id) r) (hf : CF2 C.K C.cl r f) (hg : Gl X x) (hm : X.mg x = none) (hv : bootBuiltins x = some (.builtin id)) (ha : QE X C e a) (hb : QE X C e2 b)
    (hn : x ≠ "__name__" := by decide) (hdb : (x == ("__debug__" : Str)) = false := by decide) (he : starEach (e :: [e2]) X.env = (false, eval e X.env) :: starEach [e2] X.env := by rfl) (he2 : starEach (e2 :: []) X.env = (false, eval e2 X.env) :: starEach [] X.env := by rfl) (hpl : (backTo pos (starEach [e2] X.env)).any (·.1) = false := by rfl) : DE X C (.Call (.Name x p) [e, e2] [] pos) (m2 f a b) :=
  pe_weak (pe_callB hc hg hm hv (pa_cons ha (pa_cons hb pa_nil he2) he) hn hdb he hpl) fun _ _ _ => t_cb2 hf
/-- len -/
def fLen : D → Option D
  | .list ds => some (.int ds.length)
  | .tuple ds => some (.int ds.length)
  | .str z => if z.length ≤ sizeLine then some (.int z.length) else none
  | _ => none
theorem f_len : CF1 K cl (fun xs H Q => ∃ x n, xs = [x] ∧ LenV K x H n ∧ Q (.int n) H) fLen := fun A H x dx z s hx e Q q => by
  cases hx with
  | lst h r => cases e; exact ⟨_, _, rfl, .inl ⟨_, SqL.of (s _ _ h), rfl⟩, q _ fun _ => by rw [r.length]; exact .int _⟩
  | tup h r => cases e; exact ⟨_, _, rfl, .inr ⟨_, sqt_same s h, rfl⟩, q _ fun _ => by rw [r.length]; exact .int _⟩
  | str y =>
    obtain ⟨h1, rfl⟩ := ite_some' (show (if y.length ≤ sizeLine then some (PyData.int (y.length : Int)) else none) = some z from e)
    exact ⟨_, _, rfl, ⟨h1, rfl⟩, q _ fun _ => .int _⟩
  | non => cases e
  | bl _ => cases e
  | int _ => cases e
  | ins _ _ _ _ => cases e
def fAbs : D → Option D
  | .int i => some (.int (if i < 0 then -i else i))
  | _ => none
theorem f_abs : CF1 K cl (fun xs H Q => ∃ i, xs = [.int i] ∧ Q (.int (if i < 0 then -i else i)) H) fAbs := fun A H x dx z s hx e Q q => by
  cases hx <;> cases e
  exact ⟨_, rfl, q _ fun _ => .int _⟩
def fInt : D → Option D
  | .int i => some (.int i)
  | .bool b => some (.int (if b then 1 else 0))
  | _ => none
theorem f_int : CF1 K cl (fun xs H Q => (∃ i, xs = [.int i] ∧ Q (.int i) H) ∨ ∃ k, xs = [.bl k] ∧ Q (.int (if k then 1 else 0)) H) fInt := fun A H x dx z s hx e Q q => by
  cases hx <;> cases e
  · exact .inr ⟨_, rfl, q _ fun _ => .int _⟩
  · exact .inl ⟨_, rfl, q _ fun _ => .int _⟩
abbrev fMax := fI fun i j => .int (if j > i then j else i)
abbrev fMin := fI fun i j => .int (if j < i then j else i)
theorem f_max : CF2 K cl (fun xs H Q => ∃ i j, xs = [.int i, .int j] ∧ Q (.int (if j > i then j else i)) H) fMax := fun A H x y dx dy z s hx hy e Q q => by
  cases hx <;> cases hy <;> cases e
  exact ⟨_, _, rfl, q _ fun _ => .int _⟩
theorem f_min : CF2 K cl (fun xs H Q => ∃ i j, xs = [.int i, .int j] ∧ Q (.int (if j < i then j else i)) H) fMin := fun A H x y dx dy z s hx hy e Q q => by
  cases hx <;> cases hy <;> cases e
  exact ⟨_, _, rfl, q _ fun _ => .int _⟩
/-- -i -/
def fNeg : D → Option D
  | .int i => some (.int (-i))
  | _ => none
theorem de_neg {a : Expr} {m : M} {pos : Pos} (h : QE X C a m) : DE X C (.UnaryOp .USub a pos) (m1 fNeg m) := pe_weak (pe_un un_neg h) fun σ H Q ⟨B, ρ, n, P, R, F, w, ox, k⟩ =>
  ⟨B, ρ, n, _, R, F, w, ox, fun dx n1 ⟨z, hz, p⟩ x B1 H1 s1 k1 rx => by
    have r := rx.dr s1.hid
    cases r <;> cases hz
    exact ⟨_, rfl, k _ n1 p _ B1 H1 s1 k1 (.int _)⟩⟩
/-! ### isinstance with a built-in class -/
/-- the class of data -/
def clsOf : D → Option String
  | .none => some "NoneType"
  | .bool _ => some "bool"
  | .int _ => some "int"
  | .str _ => some "str"
  | .list _ => some "list"
  | .tuple _ => some "tuple"
  | .dict _ => none
def fIs (T : String) (x : D) : Option D := (clsOf x).bind fun c => (kitB c T).map .bool
theorem tyx_of {A H : Hp} {x : V} {dx : D} {c : String} (s : Same A H) (h : DR K cl A x dx) (e : clsOf dx = some c) : TyX K H x (.type c) := by
  cases h with
  | non => cases e; exact .base .non
  | bl _ => cases e; exact .base (.bl _)
  | int _ => cases e; exact .base (.int _)
  | str _ => cases e; exact .base (.str _)
  | lst h _ => cases e; exact .base (.lst (s _ _ h))
  | tup h _ =>
    cases e
    rcases h with (h | ⟨o, h⟩) | ⟨o, its, n, h1, h2, _⟩
    · exact .base (.tup (s _ _ h))
    · exact .fTuple (s _ _ h)
    · exact .kTuple h1 h2
  | ins _ _ _ _ => cases e
def mIs (T : String) (m : M) : M := m1 (fIs T) m
theorem de_is {T : String} {a : M} {e t : Expr} {p pos : Pos} (hK : X.K = C.K) (hg : Gl X "isinstance") (hm : X.mg "isinstance" = none) (ha : QE X C e a) (ht : PE X t (tC (.ty T)))
    (he : starEach (e :: [t]) X.env = (false, eval e X.env) :: starEach [t] X.env := by rfl) (he2 : starEach (t :: []) X.env = (false, eval t X.env) :: starEach [] X.env := by rfl) (hpl : (backTo pos (starEach [t] X.env)).any (·.1) = false := by rfl) : DE X C (.Call (.Name "isinstance" p) [e, t] [] pos) (mIs T a) :=
  pe_weak (pe_callB call_isi hg hm (by decide +kernel) (pa_cons ha (pa_cons ht pa_nil he2) he) (by decide) (by decide) he hpl) fun σ H Q ⟨B, ρ, n, P, R, F, w, ox, k⟩ => by
    refine ⟨B, ρ, n, _, R, F, w, ox, fun dx n1 hz x B1 H1 s1 k1 rx => ?_⟩
    obtain ⟨z, hz, p⟩ := hz
    unfold fIs at hz
    obtain ⟨c, e1, e2⟩ := Option.bind_eq_some_iff.mp hz
    obtain ⟨b, e3, e4⟩ := Option.map_eq_some_iff.mp e2
    subst e4
    refine ⟨x, .ty T, .type c, .type T, b, rfl, .ty T, ?_, kit_ty e3, k _ n1 p _ B1 H1 s1 k1 (.bl b)⟩
    rw [hK]
    exact tyx_of hid_sub (rx.dr s1.hid) e1
/-! ### targets -/
abbrev GD := D → Env → Option Env
/-- the target's store, on data -/
def GOk (C : Cn) (g : TG) (gd : GD) : Prop := ∀ (B H : Hp) (σ : St) (ρ ρ1 : Env) (n : Nat) (v : V) (d : D), Fr C B σ H ρ n → DR C.K C.cl B v d → gd d ρ = some ρ1 → ∀ Q : St → Hp → Prop, (∀ σ1, Fr C B σ1 H ρ1 n → Q σ1 H) → g v σ H Q
theorem Fr.set {B H : Hp} {σ : St} {ρ : Env} {n : Nat} {v : V} {d : D} (F : Fr C B σ H ρ n) (h : DR C.K C.cl B v d) (i : Nat) : Fr C B (σ.set i (some v)) H (ρ.set i (.dat d)) n :=
  { F with
    slo := paired_set (.dat h) i F.slo
    dis := fun a b p ds es h1 h2 h3 h4 => by
      have ne : ∀ (j : Nat) (es : List D), (ρ.set i (.dat d))[j]? = some (.own es) → j ≠ i ∧ ρ[j]? = some (.own es) := fun j es q => by
        by_cases hj : j = i
        · subst hj
          by_cases hl : j < ρ.length
          · rw [List.getElem?_set_self hl] at q; cases q
          · rw [List.getElem?_eq_none (by rw [List.length_set]; omega)] at q; cases q
        · rw [List.getElem?_set_ne (Ne.symm hj)] at q; exact ⟨hj, q⟩
      obtain ⟨na, h3⟩ := ne a ds h3
      obtain ⟨nb, h4⟩ := ne b es h4
      rw [List.getElem?_set_ne (Ne.symm na)] at h1
      rw [List.getElem?_set_ne (Ne.symm nb)] at h2
      exact F.dis a b p ds es h1 h2 h3 h4 }
def gdName (i : Nat) : GD := fun d ρ => some (ρ.set i (.dat d))
theorem g_name (i : Nat) : GOk C (gName i) (gdName i) := fun B H σ ρ ρ1 n v d F h e Q q => by
  cases e
  exact q _ (F.set h i)
/-- a, b, .. of a tuple -/
def setAll : List Nat → List D → Env → Env
  | i :: is, d :: ds, ρ => setAll is ds (ρ.set i (.dat d))
  | _, _, ρ => ρ
def gdTup (is : List Nat) : GD := fun d ρ => match d with
  | .tuple ds => if ds.length = is.length then some (setAll is ds ρ) else none
  | _ => none
def gNames : List Nat → TGs
  | [] => gNil
  | i :: is => gCons (gName i) (gNames is)
theorem g_names : ∀ (is : List Nat) (vs : List V) (ds : List D) {B H : Hp} {σ : St} {ρ : Env} {n : Nat}, Fr C B σ H ρ n → DRs C.K C.cl B vs ds → ds.length = is.length → ∀ Q : St → Hp → Prop, (∀ σ1, Fr C B σ1 H (setAll is ds ρ) n → Q σ1 H) → gNames is vs σ H Q
  | [], vs, ds, B, H, σ, ρ, n, F, h, e, Q, q => by
    cases ds with
    | nil => cases h; exact ⟨rfl, q σ F⟩
    | cons _ _ => cases e
  | i :: is, vs, ds, B, H, σ, ρ, n, F, h, e, Q, q => by
    cases ds with
    | nil => cases e
    | cons d ds =>
      cases h with
      | cons h t => exact ⟨_, _, rfl, g_names is _ ds (F.set h i) t (by simpa using e) Q q⟩
theorem g_tup (is : List Nat) : GOk C (gTup C.K is.length (gNames is)) (gdTup is) := fun B H σ ρ ρ1 n v d F h e Q q => by
  cases h with
  | tup h t =>
    obtain ⟨h1, rfl⟩ := ite_some' e
    exact ⟨_, _, rfl, sqt_same F.sub h, by rw [t.length]; exact h1, g_names is _ _ F t h1 Q q⟩
  | non => cases e
  | bl _ => cases e
  | int _ => cases e
  | str _ => cases e
  | lst _ _ => cases e
  | ins _ _ _ _ => cases e
/-! ### what is walked -/
/-- J gives the data ds, wherever Kp holds -/
def Wk (C : Cn) (J : It) (ds : List D) (Kp : Hp → Hp → Prop) : Prop := ∀ (B H : Hp) (i n : Nat), Kp B H → Same B H → (∀ a, inS C.sc a → B a = none) → SrcOk C.sc H n →
  (i < ds.length → J.go i H ∧ ∀ x H', J.yld i H x H' → ∃ B' d, ds[i]? = some d ∧ Stp C.sc B H B' H' ∧ SrcOk C.sc H' n ∧ DR C.K C.cl B' x d) ∧ (ds.length ≤ i → J.stop i H)
abbrev MI := Env → Nat → (List D → Nat → Prop) → PX → Prop
/-- a walk over settled things -/
def tI (C : Cn) (m : MI) : TI := fun σ H R => ∃ B ρ n P R0, Fr C B σ H ρ n ∧ m ρ n P R0 ∧ OkX C B H R0 ∧ ∀ ds n', P ds n' → ∀ J B' H', Stp C.sc B H B' H' → SrcOk C.sc H' n' → Wk C J ds (fun B H => Same B' B) → R J H'
/-- a walk while nothing of one's own changes -/
def tIq (C : Cn) (m : MI) : TI := fun σ H R => ∃ B ρ n P R0, Fr C B σ H ρ n ∧ m ρ n P R0 ∧ OkX C B H R0 ∧ ∀ ds n', P ds n' → ∀ J B' H' Kp, Stp C.sc B H B' H' → SrcOk C.sc H' n' → Kp B' H' → (∀ B H B' H', Kp B H → Stp C.sc B H B' H' → Kp B' H') → Wk C J ds Kp → R J H'
abbrev IE (X : Cx) (C : Cn) (tg e : Expr) (m : MI) : Prop := PI X tg e (tI C m)
abbrev IQ (X : Cx) (C : Cn) (tg e : Expr) (m : MI) : Prop := PI X tg e (tIq C m)
theorem iq_of {tg e : Expr} {m : MI} (h : IE X C tg e m) : IQ X C tg e m := pi_weak h fun σ H R ⟨B, ρ, n, P, R0, F, w, ox, k⟩ =>
  ⟨B, ρ, n, P, R0, F, w, ox, fun ds n' p J B' H' s c wk => k ds n' p J B' H' (fun B H => Same B' B) s c (Same.refl _) (fun _ _ _ _ h s => h.trans s.old) wk⟩
theorem wk_list {a : Addr} {vs : List V} {ds : List D} {Kp : Hp → Hp → Prop} (h : ∀ B H, Kp B H → Same B H → H a = some (.lst vs) ∧ DRs C.K C.cl B vs ds) : Wk C (Itl C.K a) ds Kp := fun B H i n kp s ns sr => by
  obtain ⟨h1, r⟩ := h B H kp s
  refine ⟨fun hi => ⟨?_, fun x H' y => ?_⟩, fun hi => ⟨vs, SqL.of h1, by rw [r.length]; exact hi⟩⟩
  · have hi' : i < vs.length := by rw [r.length]; exact hi
    exact ⟨vs, vs[i], SqL.of h1, List.getElem?_eq_getElem hi'⟩
  · obtain ⟨rfl, y⟩ := y
    obtain ⟨d, e, q⟩ := r.get (y vs (SqL.of h1))
    exact ⟨B, d, e, Stp.refl s ns, sr, q⟩
theorem wk_tup {a : Addr} {vs : List V} {ds : List D} {Kp : Hp → Hp → Prop} (h : ∀ B H, Kp B H → Same B H → SqT C.K H a vs ∧ DRs C.K C.cl B vs ds) : Wk C (Itt C.K a) ds Kp := fun B H i n kp s ns sr => by
  obtain ⟨h1, r⟩ := h B H kp s
  refine ⟨fun hi => ⟨?_, fun x H' y => ?_⟩, fun hi => ⟨vs, h1, by rw [r.length]; exact hi⟩⟩
  · have hi' : i < vs.length := by rw [r.length]; exact hi
    exact ⟨vs, vs[i], h1, List.getElem?_eq_getElem hi'⟩
  · obtain ⟨rfl, y⟩ := y
    obtain ⟨d, e, q⟩ := r.get (y vs h1)
    exact ⟨B, d, e, Stp.refl s ns, sr, q⟩
theorem hid_not {sc : Sc} {H : Hp} {a : Addr} {o : HO} (h : hid sc H a = some o) : ¬ inS sc a := fun z => by
  unfold hid at h; rw [if_pos z] at h; cases h
/-- the items of a list -/
def mItems (m : M) : MI := fun ρ n P R => m ρ n (fun d n1 => ∃ ds, d = .list ds ∧ P ds n1) R
def mItemsT (m : M) : MI := fun ρ n P R => m ρ n (fun d n1 => ∃ ds, d = .tuple ds ∧ P ds n1) R
theorem ie_list {tg e : Expr} {m : M} (hK : X.K = C.K) (h : DE X C e m) : IE X C tg e (mItems m) := pi_weak (pi_list h) fun σ H R ⟨B, ρ, n, P, R0, F, w, ox, k⟩ => by
  rw [hK]
  refine ⟨B, ρ, n, _, R0, F, w, ox, fun d n1 p v B1 H1 s1 k1 r => ?_⟩
  obtain ⟨ds, rfl, p⟩ := p
  cases r with
  | lst h t => exact ⟨_, rfl, ⟨_, SqL.of (s1.sub _ _ h)⟩, k ds n1 p _ B1 H1 s1 k1 (wk_list fun B' H' kp s => ⟨s _ _ (kp _ _ h), t.mono kp⟩)⟩
theorem ie_tup {tg e : Expr} {m : M} (hK : X.K = C.K) (h : DE X C e m) : IE X C tg e (mItemsT m) := pi_weak (pi_tup h) fun σ H R ⟨B, ρ, n, P, R0, F, w, ox, k⟩ => by
  rw [hK]
  refine ⟨B, ρ, n, _, R0, F, w, ox, fun d n1 p v B1 H1 s1 k1 r => ?_⟩
  obtain ⟨ds, rfl, p⟩ := p
  cases r with
  | tup h t => exact ⟨_, rfl, ⟨_, sqt_same s1.sub h⟩, k ds n1 p _ B1 H1 s1 k1 (wk_tup fun B' H' kp s => ⟨sqt_same s (sqt_same kp h), t.mono kp⟩)⟩
theorem iq_list {tg e : Expr} {m : M} (hK : X.K = C.K) (h : QE X C e m) : IQ X C tg e (mItems m) := pi_weak (pi_list h) fun σ H R ⟨B, ρ, n, P, R0, F, w, ox, k⟩ => by
  rw [hK]
  refine ⟨B, ρ, n, _, R0, F, w, ox, fun d n1 p v B1 H1 s1 k1 r => ?_⟩
  obtain ⟨ds, rfl, p⟩ := p
  cases r with
  | set r =>
    cases r with
    | lst h t => exact ⟨_, rfl, ⟨_, SqL.of (s1.sub _ _ h)⟩, k ds n1 p _ B1 H1 (fun B H => Same B1 B) s1 k1 (Same.refl _) (fun _ _ _ _ h s => h.trans s.old) (wk_list fun B' H' kp s => ⟨s _ _ (kp _ _ h), t.mono kp⟩)⟩
  | @lst a xs _ h t => exact ⟨_, rfl, ⟨_, SqL.of (hid_sub _ _ h)⟩, k ds n1 p _ B1 H1 (fun B H => (¬ inS C.sc a ∧ H a = some (.lst xs)) ∧ DRs C.K C.cl B xs ds) s1 k1
      ⟨⟨hid_not h, hid_sub _ _ h⟩, t⟩ (fun _ _ _ _ h s => ⟨⟨h.1.1, s.ext _ _ h.1.1 h.1.2⟩, h.2.mono s.old⟩) (wk_list fun B' H' kp s => ⟨kp.1.2, kp.2⟩)⟩
/-- range(n), range(a, b) -/
def rngD (lo : Int) (n : Nat) : List D := (List.range n).map fun (i : Nat) => .int (lo + (i : Int))
theorem wk_rng {lo : Int} {k : Nat} {Kp : Hp → Hp → Prop} : Wk C (Itr lo k) (rngD lo k) Kp := fun B H i n kp s ns sr => by
  have hl : (rngD lo k).length = k := by unfold rngD; rw [List.length_map, List.length_range]
  rw [hl]
  refine ⟨fun hi => ⟨hi, fun x H' y => ?_⟩, fun hi => hi⟩
  obtain ⟨rfl, rfl⟩ := y
  refine ⟨B, .int (lo + i), ?_, Stp.refl s ns, sr, .int _⟩
  unfold rngD
  rw [List.getElem?_map, List.getElem?_range hi]
  rfl
def mRng1 (m : M) : MI := fun ρ n P R => m ρ n (fun d n1 => ∃ j : Int, d = .int j ∧ (-(2 ^ 62) ≤ j ∧ j < 2 ^ 62) ∧ P (rngD 0 j.toNat) n1) R
def mRng2 (a b : M) : MI := fun ρ n P R => a ρ n (fun d n1 => b ρ n1 (fun e n2 => ∃ i j : Int, d = .int i ∧ e = .int j ∧ (-(2 ^ 62) ≤ i ∧ i < 2 ^ 62 ∧ -(2 ^ 62) ≤ j ∧ j < 2 ^ 62) ∧ P (rngD i (j - i).toNat) n2) R) R
theorem ie_rng1 {tg a : Expr} {m : M} {p pos : Pos} (hg : Gl X "range") (hm : X.mg "range" = none) (h : DE X C a m) (hs : starEach [a] X.env = [(false, eval a X.env)] := by rfl) : IE X C tg (.Call (.Name "range" p) [a] [] pos) (mRng1 m) :=
  pi_weak (pi_range1 hg hm (pa_cons h pa_nil hs) hs) fun σ H R ⟨B, ρ, n, P, R0, F, w, ox, k⟩ => by
    refine ⟨B, ρ, n, _, R0, F, w, ox, fun d n1 p v B1 H1 s1 k1 r => ?_⟩
    obtain ⟨j, rfl, ⟨h1, h2⟩, p⟩ := p
    cases r
    exact ⟨j, rfl, h1, h2, k _ n1 p _ B1 H1 s1 k1 wk_rng⟩
theorem ie_rng2 {tg a b : Expr} {ma mb : M} {p pos : Pos} (hg : Gl X "range") (hm : X.mg "range" = none) (ha : DE X C a ma) (hb : DE X C b mb) (hs : starEach [a, b] X.env = [(false, eval a X.env), (false, eval b X.env)] := by rfl) (hs2 : starEach [b] X.env = [(false, eval b X.env)] := by rfl)
    (hs3 : starEach (a :: [b]) X.env = (false, eval a X.env) :: starEach [b] X.env := by rfl) : IE X C tg (.Call (.Name "range" p) [a, b] [] pos) (mRng2 ma mb) :=
  pi_weak (pi_range2 hg hm (pa_cons ha (pa_cons hb pa_nil hs2) hs3) hs hs2) fun σ H R ⟨B, ρ, n, P, R0, F, w, ox, k⟩ => by
    refine ⟨B, ρ, n, _, R0, F, w, ox, fun d n1 p v B1 H1 s1 k1 r => ⟨B1, ρ, n1, _, R0, F.step s1 k1, p, ox.step s1, fun e n2 q u B2 H2 s2 k2 r2 => ?_⟩⟩
    obtain ⟨i, j, rfl, rfl, h1, q⟩ := q
    cases r
    cases r2
    exact ⟨i, j, rfl, h1, k _ n2 q _ B2 H2 (s1.trans s2) k2 wk_rng⟩
/-- the signs of a text -/
def signs (x : Str) : List D := x.cps.toList.map fun c => .str ⟨#[c]⟩
def mSigns (m : M) : MI := fun ρ n P R => m ρ n (fun d n1 => ∃ x, d = .str x ∧ P (signs x) n1) R
theorem ie_str {tg e : Expr} {m : M} (h : DE X C e m) : IE X C tg e (mSigns m) := pi_weak (pi_str h) fun σ H R ⟨B, ρ, n, P, R0, F, w, ox, k⟩ => by
  refine ⟨B, ρ, n, _, R0, F, w, ox, fun d n1 p v B1 H1 s1 k1 r => ?_⟩
  obtain ⟨x, rfl, p⟩ := p
  cases r
  refine ⟨x, rfl, k _ n1 p _ B1 H1 s1 k1 fun B H i n kp s ns sr => ?_⟩
  have hl : (signs x).length = x.cps.size := by unfold signs; rw [List.length_map, Array.length_toList]
  rw [hl]
  refine ⟨fun hi => ⟨hi, fun y H' q => ?_⟩, fun hi => hi⟩
  obtain ⟨rfl, c, e, rfl⟩ := q
  refine ⟨B, .str ⟨#[c]⟩, ?_, Stp.refl s ns, sr, .str _⟩
  unfold signs
  rw [List.getElem?_map, Array.getElem?_toList, e]
  rfl
end
end DS

/-! DS5: comprehensions, statements, defs. -/
namespace DS
open PySem L2
section
variable {X : Cx} {C : Cn} {K : Fg} {cl : Cl}
theorem paired_at {α β : Type} {F : α → β → Prop} {l : List α} {r : List β} {i : Nat} {a : α} {b : β} (p : Paired F l r) (h1 : l[i]? = some a) (h2 : r[i]? = some b) : F a b := by
  obtain ⟨x, e1, e2⟩ := paired_get p h2
  rw [h1] at e1; cases e1; exact e2
theorem paired_ix {α β : Type} {F : α → β → Prop} : ∀ {l : List α} {r : List β}, l.length = r.length → (∀ (j : Nat) a b, l[j]? = some a → r[j]? = some b → F a b) → Paired F l r
  | [], [], _, _ => .nil
  | a :: l, b :: r, e, h => .cons (h 0 a b rfl rfl) (paired_ix (by simpa using e) fun j x y h1 h2 => h (j + 1) x y (by simpa using h1) (by simpa using h2))
/-! ### comprehensions -/
def wipeR (ρ : Env) : List Nat → Env
  | [] => ρ
  | v :: vs => (wipeR ρ vs).set v .no
theorem Fr.drop {B H : Hp} {σ : St} {ρ : Env} {n : Nat} (F : Fr C B σ H ρ n) (i : Nat) (o : Option V) : Fr C B (σ.set i o) H (ρ.set i .no) n :=
  { F with
    slo := paired_set (.no o) i F.slo
    dis := fun a b p ds es h1 h2 h3 h4 => by
      have ne : ∀ (j : Nat) (es : List D), (ρ.set i .no)[j]? = some (.own es) → j ≠ i ∧ ρ[j]? = some (.own es) := fun j es q => by
        by_cases hj : j = i
        · subst hj
          by_cases hl : j < ρ.length
          · rw [List.getElem?_set_self hl] at q; cases q
          · rw [List.getElem?_eq_none (by rw [List.length_set]; omega)] at q; cases q
        · rw [List.getElem?_set_ne (Ne.symm hj)] at q; exact ⟨hj, q⟩
      obtain ⟨na, h3⟩ := ne a ds h3
      obtain ⟨nb, h4⟩ := ne b es h4
      rw [List.getElem?_set_ne (Ne.symm na)] at h1
      rw [List.getElem?_set_ne (Ne.symm nb)] at h2
      exact F.dis a b p ds es h1 h2 h3 h4 }
theorem Fr.wipe {B H : Hp} {σ : St} {ρ : Env} {n : Nat} (F : Fr C B σ H ρ n) : ∀ vs : List Nat, Fr C B (wipe σ vs) H (wipeR ρ vs) n
  | [] => F
  | v :: vs => (Fr.wipe F vs).drop v none
/-- how a target stores in the comprehension's own slots -/
def GIn (g : TG) (vs : List Nat) : Prop := ∀ (v : V) (σ : St) (H : Hp) (Q : St → Hp → Prop), g v σ H Q → g v σ H fun σ2 H2 => wipe σ2 vs = wipe σ vs ∧ Q σ2 H2
theorem wipe_set (σ : St) (o : Option V) : ∀ (vs : List Nat) (i : Nat), i ∈ vs → wipe (σ.set i o) vs = wipe σ vs
  | v :: vs, i, h => by
    by_cases e : i = v
    · subst e
      by_cases hm : i ∈ vs
      · unfold wipe; rw [wipe_set σ o vs i hm]
      · unfold wipe
        have : ∀ (us : List Nat), i ∉ us → wipe (σ.set i o) us = (wipe σ us).set i o := fun us => by
          induction us with
          | nil => intro _; rfl
          | cons u us ih =>
            intro hu
            unfold wipe
            rw [ih (fun z => hu (List.mem_cons_of_mem _ z)), List.set_comm _ _ (fun z => hu (by rw [z]; exact List.mem_cons_self))]
        rw [this vs hm, List.set_set]
    · have hm : i ∈ vs := (List.mem_cons.mp h).resolve_left e
      unfold wipe; rw [wipe_set σ o vs i hm]
theorem wipe_wipe (σ : St) (vs : List Nat) : wipe (wipe σ vs) vs = wipe σ vs := by
  have gen : ∀ (us vs : List Nat), (∀ u ∈ us, u ∈ vs) → wipe (wipe σ us) vs = wipe σ vs := fun us => by
    induction us with
    | nil => intro vs _; rfl
    | cons u us ih =>
      intro vs h
      show wipe ((wipe σ us).set u none) vs = wipe σ vs
      rw [wipe_set _ none vs u (h u List.mem_cons_self)]
      exact ih vs fun x hx => h x (List.mem_cons_of_mem _ hx)
  exact gen vs vs fun _ h => h
theorem gin_name {i : Nat} {vs : List Nat} (h : i ∈ vs) : GIn (gName i) vs := fun v σ H Q q => ⟨wipe_set σ _ vs i h, q⟩
theorem gin_names : ∀ (is : List Nat) (vs : List Nat), (∀ i ∈ is, i ∈ vs) → ∀ (xs : List V) (σ σ0 : St) (H : Hp) (Q : St → Hp → Prop), wipe σ vs = wipe σ0 vs → gNames is xs σ H Q → gNames is xs σ H fun σ2 H2 => wipe σ2 vs = wipe σ0 vs ∧ Q σ2 H2
  | [], vs, h, xs, σ, σ0, H, Q, e, q => ⟨q.1, e, q.2⟩
  | i :: is, vs, h, xs, σ, σ0, H, Q, e, ⟨v, r, e1, q⟩ => ⟨v, r, e1, gin_names is vs (fun j hj => h j (List.mem_cons_of_mem _ hj)) r _ σ0 H Q (by rw [wipe_set σ _ vs i (h i List.mem_cons_self)]; exact e) q⟩
theorem gin_tup {is vs : List Nat} {k : Nat} (h : ∀ i ∈ is, i ∈ vs) : GIn (gTup K k (gNames is)) vs := fun v σ H Q ⟨a, xs, e, s, l, q⟩ => ⟨a, xs, e, s, l, gin_names is vs h xs σ σ H Q rfl q⟩
/-- no error at all -/
def nvr : PX := fun _ _ => False
/-- within a comprehension nothing is let out -/
def Cn.qt (C : Cn) : Cn := { C with E := fun _ _ _ => False }
theorem Fr.qt {B H : Hp} {σ : St} {ρ : Env} {n : Nat} (F : Fr C B σ H ρ n) : Fr C.qt B σ H ρ n := ⟨F.sub, F.old, F.new, F.nos, F.ext, F.src, F.slo, F.dis⟩
theorem okx_qt {B H : Hp} : OkX C.qt B H nvr := fun _ _ z => z.elim
def compW (gd : GD) (tt : MT) (te : M) (ρ : Env) (P : List D → Nat → Prop) : List D → List D → Nat → Prop
  | [], acc, n => P acc n
  | d :: r, acc, n => ∃ ρ1, gd d ρ = some ρ1 ∧ tt ρ1 n (fun b n1 => if b = true then te ρ1 n1 (fun y n2 => acc.length < sizeLine ∧ compW gd tt te ρ P r (acc ++ [y]) n2) nvr else compW gd tt te ρ P r acc n1) nvr
def mComp (mi : MI) (gd : GD) (vs : List Nat) (tt : MT) (te : M) : ML := fun ρ n P R => mi ρ n (fun ds n1 => compW gd tt te (wipeR ρ vs) P ds [] n1) R
theorem Stp.mut {sc : Sc} {B H B' H' : Hp} {p : Addr} {o : HO} (s : Stp sc B H B' H') (hp : H p = none) (hb : B' p = none) : Stp sc B H B' (upd H' p o) where
  sub := fun a u e => by rw [upd_ne (ne_of_none e hb)]; exact s.sub a u e
  old := s.old
  new := s.new
  nos := s.nos
  ext := fun a u n e => by rw [upd_ne (ne_of_none e hp)]; exact s.ext a u n e
theorem src_mut {sc : Sc} {H : Hp} {n : Nat} {p : Addr} {o : HO} (h : SrcOk sc H n) (hs : ¬ inS sc p) : SrcOk sc (upd H p o) n := by
  unfold SrcOk at h ⊢
  cases sc with
  | none => trivial
  | some q =>
    obtain ⟨s, c⟩ := q
    obtain ⟨a0, ns, t, h1, h2, r⟩ := h
    have n1 : s ≠ p := fun z => hs (.inl z.symm)
    have n2 : c ≠ p := fun z => hs (.inr z.symm)
    exact ⟨a0, ns, t, by rw [upd_ne n1]; exact h1, by rw [upd_ne n2]; exact h2, r⟩
theorem g_in {g : TG} {gd : GD} {vs : List Nat} (hg : GOk C g gd) (hi : GIn g vs) {B H : Hp} {σ : St} {ρ ρ1 : Env} {n : Nat} {v : V} {d : D} (F : Fr C B (wipe σ vs) H ρ n) (h : DR C.K C.cl B v d) (e : gd d ρ = some ρ1) {Q : St → Hp → Prop} (q : ∀ σ1, Fr C B σ1 H ρ1 n → Q σ1 H) :
    g v (wipe σ vs) H fun σ2 H2 => wipe σ2 vs = wipe σ vs ∧ Q σ2 H2 := by
  have z := hi v (wipe σ vs) H Q (hg B H _ ρ ρ1 n v d F h e Q q)
  rw [wipe_wipe] at z
  exact z
theorem t_comp {mi : MI} {g : TG} {gd : GD} {vs : List Nat} {tt : MT} {te : M} (hg : GOk C g gd) (hi : GIn g vs) {σ : St} {H : Hp} {Q : VK} (h : tL C (mComp mi gd vs tt te) σ H Q) : tLc (tIq C mi) g (tT C.qt tt) (tD C.qt te) vs σ H Q := by
  obtain ⟨B, ρ, n, P, R, F, w, ox, k⟩ := h
  refine ⟨B, ρ, n, _, R, F, w, ox, fun ds n1 cw J B1 H1 Kp s1 k1 kp kps wk D hD => ?_⟩
  have hDH : H D = none := fresh_of s1 hD k1
  have hDB : B1 D = none := none_of s1 hD
  have hDS : ¬ inS C.sc D := src_new k1 hD
  refine ⟨fun i m Hc => m = ds.length - i ∧ i ≤ ds.length ∧ ∃ (Bc : Hp) (nc : Nat) (acc : List _) (accV : List V), Stp C.sc B1 H1 Bc Hc ∧ SrcOk C.sc Hc nc ∧ Bc D = none ∧ Hc D = some (.lst accV) ∧ DRs C.K C.cl Bc accV acc ∧
    compW gd tt te (wipeR ρ vs) P (ds.drop i) acc nc, ⟨ds.length, by omega, Nat.zero_le _, B1, n1, [], [], (Stp.refl s1.sub s1.nos).lay hD, src_lay k1 hD, hDB, upd_same, .nil, by simpa using cw⟩, ?_⟩
  rintro i m Hc ⟨rfl, hi1, Bc, nc, acc, accV, s2, k2, hb, hd, ra, cw⟩
  have kpc : Kp Bc Hc := kps _ _ _ _ kp s2
  obtain ⟨wgo, wst⟩ := wk Bc Hc i nc kpc s2.sub s2.nos k2
  by_cases hlt : i < ds.length
  · obtain ⟨go, yl⟩ := wgo hlt
    refine .inr ⟨go, _, fun H' q => ⟨ds.length - (i + 1), by omega, q⟩, fun x H' y => ?_⟩
    obtain ⟨B', d, e, s3, k3, rd⟩ := yl x H' y
    have ed : ds.drop i = d :: ds.drop (i + 1) := by
      rw [List.drop_eq_getElem_cons hlt]
      have := List.getElem?_eq_getElem hlt
      rw [e] at this
      rw [Option.some.inj this]
    rw [ed] at cw
    obtain ⟨ρ1, eg, q⟩ := cw
    have Fc : Fr C Bc σ Hc ρ nc := (F.step s1 k1).step s2 k2
    have Fy : Fr C B' (wipe σ vs) H' (wipeR ρ vs) nc := (Fc.step s3 k3).wipe vs
    refine g_in hg hi Fy rd eg fun σ1 F1 => ?_
    refine ⟨B', ρ1, nc, _, nvr, F1.qt, q, okx_qt, fun b n3 qb B3 H3 s4 k4 => ?_⟩
    have sB : Stp C.sc B1 H1 B3 H3 := (s2.trans s3).trans s4
    have hD3 : H3 D = some (.lst accV) := s4.ext _ _ hDS (s3.ext _ _ hDS hd)
    have hb3 : B3 D = none := by
      rw [s4.new D (by rw [s3.ext _ _ hDS hd]; exact fun z => by cases z), s3.new D (by rw [hd]; exact fun z => by cases z)]
      exact hb
    have ra3 : DRs C.K C.cl B3 accV acc := ra.mono (s3.old.trans s4.old)
    cases b with
    | false =>
      rw [if_neg Bool.false_ne_true] at qb
      exact iteF ⟨rfl, hlt, B3, n3, acc, accV, sB, k4, hb3, hD3, ra3, qb⟩
    | true =>
      rw [if_pos rfl] at qb
      refine iteT ⟨B3, ρ1, n3, _, nvr, (F1.step s4 k4).qt, qb, okx_qt, fun y n4 ⟨hl, cw⟩ yv B4 H4 s5 k5 ry => ?_⟩
      have hD4 : H4 D = some (.lst accV) := s5.ext _ _ hDS hD3
      have hb4 : B4 D = none := by
        rw [s5.new D (by rw [hD3]; exact fun z => by cases z)]
        exact hb3
      have sC := (sB.trans s5).mut (o := .lst (accV ++ [yv])) hD hb4
      exact ⟨accV, hD4, by rw [ra.length]; exact hl, rfl, hlt, B4, n4, acc ++ [y], accV ++ [yv], sC, src_mut k5 hDS, hb4, upd_same, (ra3.mono s5.old).append (.cons ry .nil), cw⟩
  · have e : i = ds.length := by omega
    refine .inl ⟨wst (by omega), ?_⟩
    rw [e, List.drop_length] at cw
    exact k acc nc cw D accV Bc Hc hDH (s1.trans s2) hb k2 hd ra
def mYes : MT := fun _ n P _ => P true n
abbrev DTs (X : Cx) (C : Cn) (es : List Expr) (m : MT) : Prop := PTs X es (tT C m)
theorem dts_nil : DTs X C [] mYes := ⟨fun pins s σ H Q I ⟨B, ρ, n, P, R, F, w, ox, k⟩ => pts_nil.run pins s σ H Q I (k true n w B H F.self F.src)⟩
theorem dts_one {c : Expr} {m : MT} (h : DT X C c m) : DTs X C [c] m := pts_one h
theorem le_comp {elt tg iter : Expr} {ifs : List Expr} {scope : Scope} {own : List (Str × Nat)} {pos : Pos} {mi : MI} {g : TG} {gd : GD} {tt : MT} {te : M} (hc : X.calm = true) (hN : X.N.Nodup) (hi : IQ X C tg iter mi) (ok : BlkOk X.N X.env.scope scope own) (hgd : GOk C g gd) (hin : GIn g (own.map (·.2)))
    (hg : ∀ (s : Shared) (H : Hp) (A : Addr) (cl : List (Str × Addr)) (fp : List Addr), PG (X.blk s H scope (compEnvC scope cl A X.env) fp) tg g) (ht : ∀ (s : Shared) (H : Hp) (A : Addr) (cl : List (Str × Addr)) (fp : List Addr), DTs (X.blk s H scope (compEnvC scope cl A X.env) fp) C.qt ifs tt)
    (he : ∀ (s : Shared) (H : Hp) (A : Addr) (cl : List (Str × Addr)) (fp : List Addr), DE (X.blk s H scope (compEnvC scope cl A X.env) fp) C.qt elt te) (hs : ∀ x, foldedSetIterable iter X.env x = pure x := by intro _; rfl) :
    LE X C (.ListComp elt [⟨tg, iter, ifs, 0⟩] scope pos) (mComp mi gd (own.map (·.2)) tt te) := pe_weak (pe_lc hc hN hi ok hg ht he hs) fun _ _ _ => t_comp hgd hin
/-! ### statements -/
def mSeq (a b : MS) : MS := fun De ρ n => a { De with nx := fun ρ n => b De ρ n } ρ n
def mNext : MS := fun De ρ n => De.nx ρ n
theorem ds_nil : DSs X C [] mNext := pss_weak pss_nil fun Z σ H ⟨B, ρ, n, De, F, w, nx, _⟩ => nx ρ n w σ B H (Same.refl _) F
theorem ds_cons {st : Stmt} {rest : List Stmt} {a b : MS} (h1 : DS X C st a) (h2 : DSs X C rest b) : DSs X C (st :: rest) (mSeq a b) := pss_weak (pss_cons h1 h2) fun Z σ H ⟨B, ρ, n, De, F, w, nx, rt, ex, bk, ct⟩ =>
  ⟨B, ρ, n, _, F, w, fun ρ' n' q σ' B' H' s F' => ⟨B', ρ', n', De, F', q, fun ρ2 n2 q2 σ2 B2 H2 s2 F2 => nx ρ2 n2 q2 σ2 B2 H2 (s.trans s2) F2, rt, ex, fun ρ2 n2 q2 σ2 B2 H2 s2 F2 => bk ρ2 n2 q2 σ2 B2 H2 (s.trans s2) F2, fun ρ2 n2 q2 σ2 B2 H2 s2 F2 => ct ρ2 n2 q2 σ2 B2 H2 (s.trans s2) F2⟩, rt, ex, bk, ct⟩
theorem ds_one {st : Stmt} {a : MS} (h : DS X C st a) : DSs X C [st] a := pss_one h
def mSet (te : M) (gd : GD) : MS := fun De ρ n => te ρ n (fun d n1 => ∃ ρ1, gd d ρ = some ρ1 ∧ De.nx ρ1 n1) De.ex
theorem t_set {te : M} {g : TG} {gd : GD} (hg : GOk C g gd) {Z : Ends} {σ : St} {H : Hp} (h : tS C (mSet te gd) Z σ H) : tAsg (tD C te) g Z σ H := by
  obtain ⟨B, ρ, n, De, F, w, nx, rt, ex, bk, ct⟩ := h
  refine ⟨B, ρ, n, _, De.ex, F, w, ex.lift F, fun d n1 q v B1 H1 s1 k1 r => ?_⟩
  obtain ⟨ρ1, e, q⟩ := q
  exact hg B1 H1 σ ρ ρ1 n1 v d (F.step s1 k1) r e _ fun σ1 F1 => nx ρ1 n1 q σ1 B1 H1 s1.old F1
theorem ds_asg {tg e : Expr} {te : M} {g : TG} {gd : GD} {pos : Pos} (hgd : GOk C g gd) (he : DE X C e te) (hg : PG X tg g) (hs : swapsWithSole [tg] e pos.line X.env = pure false := by rfl) (hw : swappedStores [tg] e X.env = pure none := by rfl)
    (h1 : (assignEach [tg] X.env).map (·.2) = [assign tg X.env] := by rfl) : DS X C (.Assign [tg] e pos) (mSet te gd) := ps_weak (ps_asg he hg hs hw h1) fun _ _ _ => t_set hgd
theorem ds_set {i : Nat} {x : Str} {e : Expr} {te : M} {pos pos' : Pos} (hN : X.N.Nodup) (hi : X.N[i]? = some x) (hx : Loc X.env.scope x) (he : DE X C e te) (hs : swapsWith e (some (.Name x pos')) pos.line X.env = pure false := by rfl) (hf : X.fn x = true ∨ X.env.scope.names.lookup x = some .local := by first | exact .inl rfl | exact .inr rfl | assumption) :
    DS X C (.Assign [.Name x pos'] e pos) (mSet te (gdName i)) := ps_weak (ps_set hN hi hx he hs hf) fun _ _ _ => t_set (g_name i)
/-- a list of one's own -/
def mOwn (i : Nat) (l : ML) : MS := fun De ρ n => l ρ n (fun ds n1 => De.nx (ρ.set i (.own ds)) n1) De.ex
theorem own_step {B H B1 H1 : Hp} {σ : St} {ρ : Env} {n n1 : Nat} {p : Addr} {vs : List V} {ds : List D} (F : Fr C B σ H ρ n) (s : Stp C.sc B H B1 H1) (k : SrcOk C.sc H1 n1) (hp : H p = none) (hb : B1 p = none) (h1 : H1 p = some (.lst vs)) (r : DRs C.K C.cl B1 vs ds) (i : Nat) :
    Fr C B1 (σ.set i (some (.ref p))) H1 (ρ.set i (.own ds)) n1 :=
  have F1 := F.step s k
  have hs : ¬ inS C.sc p := src_new F.src hp
  have h0 : C.H0 p = none := by
    cases e : C.H0 p with
    | none => rfl
    | some o => rw [F.ext p o hs e] at hp; cases hp
  { F1 with
    slo := paired_set (.own h0 hb hs h1 r) i F1.slo
    dis := fun a b q ds' es h2 h3 h4 h5 => by
      have old : ∀ (j : Nat) (q : Addr) (es : List D), j ≠ i → σ[j]? = some (some (.ref q)) → ρ[j]? = some (.own es) → q ≠ p := fun j q es hj e1 e2 z => by
        obtain ⟨x, e3, e4⟩ := paired_get F.slo e2
        rw [e1] at e3
        cases e3
        cases e4 with
        | own _ _ _ h _ => rw [z, hp] at h; cases h
      by_cases ha : a = i
      · by_cases hbi : b = i
        · rw [ha, hbi]
        · subst ha
          rw [List.getElem?_set_ne (Ne.symm hbi)] at h3 h5
          have hl : a < σ.length := by
            by_cases z : a < σ.length
            · exact z
            · rw [List.getElem?_eq_none (by rw [List.length_set]; omega)] at h2; cases h2
          rw [List.getElem?_set_self hl] at h2
          cases h2
          exact absurd rfl (old b p es hbi h3 h5)
      · rw [List.getElem?_set_ne (Ne.symm ha)] at h2 h4
        by_cases hbi : b = i
        · subst hbi
          have hl : b < σ.length := by
            by_cases z : b < σ.length
            · exact z
            · rw [List.getElem?_eq_none (by rw [List.length_set]; omega)] at h3; cases h3
          rw [List.getElem?_set_self hl] at h3
          cases h3
          exact absurd rfl (old a p ds' ha h2 h4)
        · rw [List.getElem?_set_ne (Ne.symm hbi)] at h3 h5
          exact F.dis a b q ds' es h2 h3 h4 h5 }
theorem t_own {i : Nat} {l : ML} {Z : Ends} {σ : St} {H : Hp} (h : tS C (mOwn i l) Z σ H) : tAsg (tL C l) (gName i) Z σ H := by
  obtain ⟨B, ρ, n, De, F, w, nx, rt, ex, bk, ct⟩ := h
  exact ⟨B, ρ, n, _, De.ex, F, w, ex.lift F, fun ds n1 q p vs B1 H1 hp s1 hb k1 h1 r => nx _ n1 q _ B1 H1 s1.old (own_step F s1 k1 hp hb h1 r i)⟩
theorem ds_own {i : Nat} {x : Str} {e : Expr} {l : ML} {pos pos' : Pos} (hN : X.N.Nodup) (hi : X.N[i]? = some x) (hx : Loc X.env.scope x) (he : LE X C e l) (hs : swapsWith e (some (.Name x pos')) pos.line X.env = pure false := by rfl) (hf : X.fn x = true ∨ X.env.scope.names.lookup x = some .local := by first | exact .inl rfl | exact .inr rfl | assumption) :
    DS X C (.Assign [.Name x pos'] e pos) (mOwn i l) := ps_weak (ps_set hN hi hx he hs hf) fun _ _ _ => t_own
/-- a list of one's own is settled -/
def mFrz (i : Nat) (m : MS) : MS := fun De ρ n => ∃ ds, ρ[i]? = some (.own ds) ∧ m De (ρ.set i (.dat (.list ds))) n
theorem frz_step {B H : Hp} {σ : St} {ρ : Env} {n : Nat} {i : Nat} {ds : List D} (F : Fr C B σ H ρ n) (e : ρ[i]? = some (.own ds)) : ∃ B', Same B B' ∧ Fr C B' σ H (ρ.set i (.dat (.list ds))) n := by
  obtain ⟨x, e1, e2⟩ := paired_get F.slo e
  cases e2 with
  | @own p vs _ h0 hB hs h r =>
    refine ⟨upd B p (.lst vs), same_upd hB, ?_⟩
    have sub : Same (upd B p (.lst vs)) H := fun a u q => by
      by_cases ha : a = p
      · subst ha; rw [upd_same] at q; cases q; exact h
      · rw [upd_ne ha] at q; exact F.sub a u q
    have ne : ∀ (j : Nat) (es : List D), (ρ.set i (.dat (.list ds)))[j]? = some (.own es) → j ≠ i ∧ ρ[j]? = some (.own es) := fun j es q => by
      by_cases hj : j = i
      · subst hj
        by_cases hl : j < ρ.length
        · rw [List.getElem?_set_self hl] at q; cases q
        · rw [List.getElem?_eq_none (by rw [List.length_set]; omega)] at q; cases q
      · rw [List.getElem?_set_ne (Ne.symm hj)] at q; exact ⟨hj, q⟩
    refine ⟨sub, F.old.trans (same_upd hB), fun a q => ?_, fun a q => ?_, F.ext, F.src, ?_, fun a b q es fs h1 h2 h3 h4 => F.dis a b q es fs h1 h2 (ne a es h3).2 (ne b fs h4).2⟩
    · have ha : a ≠ p := fun z => q (z ▸ h0)
      rw [upd_ne ha]; exact F.new a q
    · have ha : a ≠ p := fun z => hs (z ▸ q)
      rw [upd_ne ha]; exact F.nos a q
    · refine paired_ix (by rw [List.length_set]; exact paired_len F.slo) fun j a b h1 h2 => ?_
      by_cases hj : j = i
      · subst hj
        rw [e1] at h1; cases h1
        have hl : j < ρ.length := (List.getElem?_eq_some_iff.mp e).1
        rw [List.getElem?_set_self hl] at h2; cases h2
        exact .dat (.lst upd_same (r.mono (same_upd hB)))
      · rw [List.getElem?_set_ne (Ne.symm hj)] at h2
        have q := paired_at F.slo h1 h2
        cases q with
        | no _ => exact .no _
        | dat h => exact .dat (h.mono (same_upd hB))
        | src h => exact .src h
        | @own q us _ g0 gB gs g gr =>
          have ne : q ≠ p := fun z => by
            subst z
            exact hj (F.dis j i q _ _ h1 e1 h2 e)
          exact .own g0 (by rw [upd_ne ne]; exact gB) gs g (gr.mono (same_upd hB))
theorem t_frz {i : Nat} {m : MS} {Z : Ends} {σ : St} {H : Hp} (h : tS C (mFrz i m) Z σ H) : tS C m Z σ H := by
  obtain ⟨B, ρ, n, De, F, ⟨ds, e, w⟩, nx, rt, ex, bk, ct⟩ := h
  obtain ⟨B', s, F'⟩ := frz_step F e
  exact ⟨B', _, n, De, F', w, fun ρ' n' q σ' B2 H' s2 F2 => nx ρ' n' q σ' B2 H' (s.trans s2) F2, rt, ex, fun ρ' n' q σ' B2 H' s2 F2 => bk ρ' n' q σ' B2 H' (s.trans s2) F2, fun ρ' n' q σ' B2 H' s2 F2 => ct ρ' n' q σ' B2 H' (s.trans s2) F2⟩
theorem ds_frz (i : Nat) {st : Stmt} {m : MS} (h : DS X C st m) : DS X C st (mFrz i m) := ps_weak h fun _ _ _ => t_frz
theorem dss_frz (i : Nat) {st : List Stmt} {m : MS} (h : DSs X C st m) : DSs X C st (mFrz i m) := pss_weak h fun _ _ _ => t_frz
/-! return, if, pass -/
def mRet (te : M) : MS := fun De ρ n => te ρ n De.rt De.ex
theorem ds_ret {e : Expr} {te : M} {pos : Pos} (h : DE X C e te) : DS X C (.Return (some e) pos) (mRet te) := ps_weak (ps_ret h) fun Z σ H ⟨B, ρ, n, De, F, w, nx, rt, ex, bk, ct⟩ =>
  ⟨B, ρ, n, _, De.ex, F, w, ex.lift F, fun d n1 q v B1 H1 s1 k1 r => rt d n1 q v B1 H1 (F.entry.trans s1) k1 r⟩
def mRetN : MS := fun De _ n => De.rt .none n
theorem ds_retN {pos : Pos} : DS X C (.Return none pos) mRetN := ps_weak ps_retN fun Z σ H ⟨B, ρ, n, De, F, w, nx, rt, ex, bk, ct⟩ => rt .none n w .non B H F.entry F.src .non
def mIfS (c : MT) (a b : MS) : MS := fun De ρ n => c ρ n (fun k n1 => if k = true then a De ρ n1 else b De ρ n1) De.ex
theorem ds_if {c : Expr} {p q : List Stmt} {mc : MT} {a b : MS} {pos : Pos} (hc : DT X C c mc) (ha : DSs X C p a) (hb : DSs X C q b) : DS X C (.If c p q pos) (mIfS mc a b) := ps_weak (ps_if hc ha hb) fun Z σ H ⟨B, ρ, n, De, F, w, nx, rt, ex, bk, ct⟩ => by
  refine ⟨B, ρ, n, _, De.ex, F, w, ex.lift F, fun k n1 q B1 H1 s1 k1 => ?_⟩
  have nx' := fun ρ' n' q σ' B2 H' (s2 : Same B1 B2) F2 => nx ρ' n' q σ' B2 H' (s1.old.trans s2) F2
  have bk' := fun ρ' n' q σ' B2 H' (s2 : Same B1 B2) F2 => bk ρ' n' q σ' B2 H' (s1.old.trans s2) F2
  have ct' := fun ρ' n' q σ' B2 H' (s2 : Same B1 B2) F2 => ct ρ' n' q σ' B2 H' (s1.old.trans s2) F2
  cases k with
  | true => exact ⟨B1, ρ, n1, De, F.step s1 k1, q, nx', rt, ex, bk', ct'⟩
  | false => exact ⟨B1, ρ, n1, De, F.step s1 k1, q, nx', rt, ex, bk', ct'⟩
theorem ds_pass {pos : Pos} : DS X C (.Pass pos) mNext := ps_weak ps_pass fun Z σ H ⟨B, ρ, n, De, F, w, nx, _⟩ => nx ρ n w σ B H (Same.refl _) F
def mBrk : MS := fun De ρ n => De.bk ρ n
def mCnt : MS := fun De ρ n => De.ct ρ n
theorem ds_brk {pos : Pos} : DS X C (.Break pos) mBrk := ps_weak ps_break fun Z σ H ⟨B, ρ, n, De, F, w, nx, rt, ex, bk, ct⟩ => bk ρ n w σ B H (Same.refl _) F
theorem ds_cnt {pos : Pos} : DS X C (.Continue pos) mCnt := ps_weak ps_continue fun Z σ H ⟨B, ρ, n, De, F, w, nx, rt, ex, bk, ct⟩ => ct ρ n w σ B H (Same.refl _) F
def mNev : MS := fun _ _ _ => False
theorem ds_nev {st : Stmt} : DS X C st mNev := ps_weak ps_never fun Z σ H ⟨B, ρ, n, De, F, w, _⟩ => w
theorem dss_nev {st : List Stmt} : DSs X C st mNev := pss_weak pss_never fun Z σ H ⟨B, ρ, n, De, F, w, _⟩ => w
/-- an expression alone -/
def mExp (te : M) : MS := fun De ρ n => te ρ n (fun _ n1 => De.nx ρ n1) De.ex
theorem ds_exp {e : Expr} {te : M} {pos : Pos} (h : DE X C e te) (hs : swapsWith e none pos.line X.env = pure false := by rfl) : DS X C (.Expr e pos) (mExp te) := ps_weak (ps_expr h hs) fun Z σ H ⟨B, ρ, n, De, F, w, nx, rt, ex, bk, ct⟩ =>
  ⟨B, ρ, n, _, De.ex, F, w, ex.lift F, fun d n1 q v B1 H1 s1 k1 r => nx ρ n1 q σ B1 H1 s1.old (F.step s1 k1)⟩
/-! for, while -/
def forW (gd : GD) (body : MS) (De : DEnds) : List D → Env → Nat → Prop
  | [], ρ, n => De.nx ρ n
  | d :: r, ρ, n => ∃ ρ1, gd d ρ = some ρ1 ∧ body { De with nx := forW gd body De r, ct := forW gd body De r, bk := De.nx } ρ1 n
def mFor (mi : MI) (gd : GD) (body : MS) : MS := fun De ρ n => mi ρ n (fun ds n1 => forW gd body De ds ρ n1) De.ex
theorem ds_for {tg iter : Expr} {body : List Stmt} {mi : MI} {g : TG} {gd : GD} {mb : MS} {pos : Pos} (hp : PassesOwn (model X.prog X.w) X.A X.env X.xe) (hc : X.calm = true) (hgd : GOk C g gd) (hi : IE X C tg iter mi) (hg : PG X tg g) (hb : DSs X C body mb)
    (hs : ∀ x, foldedSetIterable iter X.env x = pure x := by intro _; rfl) : DS X C (.For tg iter body [] pos) (mFor mi gd mb) := ps_weak (ps_for hp hc hi hg hb hs) fun Z σ H ⟨B, ρ, n, De, F, w, nx, rt, ex, bk, ct⟩ => by
  refine ⟨B, ρ, n, _, De.ex, F, w, ex.lift F, fun ds n1 fw J B1 H1 s1 k1 wk => ?_⟩
  refine ⟨fun i m σ' H' => m = ds.length - i ∧ i ≤ ds.length ∧ ∃ B' ρ' n', Same B1 B' ∧ Fr C B' σ' H' ρ' n' ∧ forW gd mb De (ds.drop i) ρ' n', ⟨ds.length, by omega, Nat.zero_le _, B1, ρ, n1, Same.refl _, F.step s1 k1, by simpa using fw⟩, ?_⟩
  rintro i m σ' H' ⟨rfl, hi1, B', ρ', n', sB, F', fw'⟩
  obtain ⟨wgo, wst⟩ := wk B' H' i n' sB F'.sub F'.nos F'.src
  by_cases hlt : i < ds.length
  · obtain ⟨go, yl⟩ := wgo hlt
    refine .inr ⟨go, fun σ2 H2 => i + 1 ≤ ds.length ∧ ∃ B' ρ' n', Same B1 B' ∧ Fr C B' σ2 H2 ρ' n' ∧ forW gd mb De (ds.drop (i + 1)) ρ' n', fun σ2 H2 q => ⟨ds.length - (i + 1), by omega, rfl, q.1, q.2⟩, fun x H2 y => ?_⟩
    obtain ⟨B2, d, e, s3, k3, rd⟩ := yl x H2 y
    have ed : ds.drop i = d :: ds.drop (i + 1) := by
      rw [List.drop_eq_getElem_cons hlt]
      have := List.getElem?_eq_getElem hlt
      rw [e] at this
      rw [Option.some.inj this]
    rw [ed] at fw'
    obtain ⟨ρ1, eg, q⟩ := fw'
    refine hgd B2 H2 σ' ρ' ρ1 n' x d (F'.step s3 k3) rd eg _ fun σ1 F1 => ?_
    have go' : ∀ (ρ2 : Env) (n2 : Nat), forW gd mb De (ds.drop (i + 1)) ρ2 n2 → ∀ (σ2 : St) (B3 H3 : Hp), Same B2 B3 → Fr C B3 σ2 H3 ρ2 n2 → i + 1 ≤ ds.length ∧ ∃ B' ρ' n', Same B1 B' ∧ Fr C B' σ2 H3 ρ' n' ∧ forW gd mb De (ds.drop (i + 1)) ρ' n' :=
      fun ρ2 n2 q σ2 B3 H3 s F3 => ⟨hlt, B3, ρ2, n2, (sB.trans s3.old).trans s, F3, q⟩
    exact ⟨B2, ρ1, n', _, F1, q, go', rt, ex, fun ρ2 n2 q σ2 B3 H3 s F3 => nx ρ2 n2 q σ2 B3 H3 (((s1.old.trans sB).trans s3.old).trans s) F3, go'⟩
  · have e : i = ds.length := by omega
    refine .inl ⟨wst (by omega), ?_⟩
    rw [e, List.drop_length] at fw'
    exact nx ρ' n' fw' σ' B' H' (s1.old.trans sB) F'
def mWhile (c : MT) (body : MS) : MS := fun De ρ n => ∃ W : Nat → Env → Nat → Prop, (∃ m, W m ρ n) ∧ ∀ m ρ n, W m ρ n → c ρ n (fun b n1 => if b = true then body { De with nx := fun ρ' n' => ∃ m', m' < m ∧ W m' ρ' n', ct := fun ρ' n' => ∃ m', m' < m ∧ W m' ρ' n', bk := De.nx } ρ n1 else De.nx ρ n1) De.ex
theorem ds_while {c : Expr} {body : List Stmt} {mc : MT} {m : MS} {pos : Pos} (hp : PassesOwn (model X.prog X.w) X.A X.env X.xe) (hc : DT X C c mc) (hb : DSs X C body m) : DS X C (.While c body [] pos) (mWhile mc m) := ps_weak (ps_while hp hc hb) fun Z σ H ⟨B, ρ, n, De, F, ⟨W, ⟨m0, w0⟩, wt⟩, nx, rt, ex, bk, ct⟩ => by
  refine ⟨fun m σ' H' => ∃ B' ρ' n', Same B B' ∧ Fr C B' σ' H' ρ' n' ∧ W m ρ' n', ⟨m0, B, ρ, n, Same.refl _, F, w0⟩, ?_⟩
  rintro m1 σ' H' ⟨B', ρ', n', sB, F', w⟩
  refine ⟨B', ρ', n', _, De.ex, F', wt m1 ρ' n' w, ex.lift F', fun b n1 q B1 H1 s1 k1 => ?_⟩
  cases b with
  | false =>
    rw [if_neg Bool.false_ne_true] at q
    exact iteF (nx ρ' n1 q σ' B1 H1 (sB.trans s1.old) (F'.step s1 k1))
  | true =>
    rw [if_pos rfl] at q
    have go' : ∀ (ρ2 : Env) (n2 : Nat), (∃ m', m' < m1 ∧ W m' ρ2 n2) → ∀ (σ2 : St) (B3 H3 : Hp), Same B1 B3 → Fr C B3 σ2 H3 ρ2 n2 → ∃ m', m' < m1 ∧ ∃ B' ρ' n', Same B B' ∧ Fr C B' σ2 H3 ρ' n' ∧ W m' ρ' n' :=
      fun ρ2 n2 ⟨m', hm, q⟩ σ2 B3 H3 s F3 => ⟨m', hm, B3, ρ2, n2, (sB.trans s1.old).trans s, F3, q⟩
    exact iteT ⟨_, fun σ2 H2 q => q, B1, ρ', n1, _, F'.step s1 k1, q, go', rt, ex, fun ρ2 n2 q σ2 B3 H3 s F3 => nx ρ2 n2 q σ2 B3 H3 ((sB.trans s1.old).trans s) F3, go'⟩
end
/-! ### a def -/
section
open PySem.Spec PyProof.Rows
variable {P : Program} {w : World} {K : Fg} {cl : Cl} {mg : Str → Option Value} {base : Heap}
theorem ag_sl {sc : Sc} {H B : Hp} : ∀ {vs : List V} {as : List Sl}, Paired (AgR K cl sc B) vs as → Paired (SlR K cl sc H B H) (vs.map some) as
  | _, _, .nil => .nil
  | _, _, .cons h t => .cons (by
      cases h with
      | dat h => exact .dat h
      | src h => exact .src h) (ag_sl t)
theorem ag_no_own {sc : Sc} {B : Hp} : ∀ {vs : List V} {as : List Sl}, Paired (AgR K cl sc B) vs as → ∀ (i : Nat) (ds : List D), as[i]? ≠ some (.own ds)
  | _, _, .nil, i, ds, e => by simp at e
  | _, _, .cons h t, 0, ds, e => by simp at e; subst e; cases h
  | _, _, .cons h t, i + 1, ds, e => ag_no_own t i ds (by simpa using e)
theorem paired_app {α β : Type} {F : α → β → Prop} : ∀ {l l' : List α} {r r' : List β}, Paired F l r → Paired F l' r' → Paired F (l ++ l') (r ++ r')
  | _, _, _, _, .nil, s => s
  | _, _, _, _, .cons h t, s => .cons h (paired_app t s)
theorem paired_rep {α β : Type} {F : α → β → Prop} {a : α} {b : β} (h : F a b) : ∀ n : Nat, Paired F (List.replicate n a) (List.replicate n b)
  | 0 => .nil
  | n + 1 => .cons h (paired_rep h n)
def env0 (as : List Sl) (k : Nat) : Env := as ++ List.replicate (k - as.length) .no
theorem def_ok {x qual : Str} {st : Stmt} {f : Addr} {fd : FuncData} {N ps : List Str} {k : Nat} {g : G} {m : MS} (F : Fun K x qual st f fd) (S : FnScope N ps (defScope st))
    (hb : ∀ (cdv : Value) (A : Around) (outer : List PySem.Env) (s : Shared) (H B : Hp) (sc : Sc) (E : XK), Room k (A.deeper (envOfC qual (defScope st) s.heap.objs.size f cdv)) →
      DSs (cxOf (L2.CX P w) P w K mg base N qual (defScope st) f cdv A outer s H E) ⟨K, cl, sc, H, B, E⟩ (defBody st) m)
    (hm : ∀ as n P R, as.length = ps.length → g as n P R → m { nx := fun _ n' => P .none n', rt := P, ex := R } (env0 as N.length) n) : FnOk P w K mg base (L2.CX P w) (k + 1) f fd ps (spW K cl ps.length g) := by
  refine F.okX S (fun vs H Q E ⟨sc, B, n, as, Pp, R, _, _, _, pr, hl, _⟩ => by rw [paired_len pr]; exact hl) fun cdv A outer s H vs Q E hr ⟨sc, B, n, as, Pp, R, sub, nos, src, pr, hl, hg, ox, q⟩ => ?_
  refine ⟨_, hb cdv A outer s H B sc E hr, B, env0 as N.length, n, _, ?_, hm as n Pp R hl hg, ?_, ?_, ox, ?_, ?_⟩
  · refine ⟨sub, Same.refl _, fun _ _ => rfl, nos, Ext.refl _ _, src, ?_, ?_⟩
    · unfold L2.start env0
      rw [paired_len pr]
      exact paired_app (ag_sl pr) (paired_rep (.no _) _)
    · intro i j p ds es h1 h2 h3 h4
      exfalso
      unfold env0 at h3
      by_cases hi : i < as.length
      · rw [List.getElem?_append_left hi] at h3
        exact ag_no_own pr i ds h3
      · rw [List.getElem?_append_right (by omega), List.getElem?_replicate] at h3
        split at h3 <;> cases h3
  · intro ρ' n' q' σ' B' H' s' F'
    exact q .none n' q' .non B' H' F'.entry F'.src .non
  · intro d n' q' v B' H' s' k' r
    exact q d n' q' v B' H' s' k' r
  · intro ρ' n' z; exact z.elim
  · intro ρ' n' z; exact z.elim
end
end DS

/-! DS6: lists of one's own, new lists, slices, repr. -/
namespace DS
open PySem L2
section
variable {X : Cx} {C : Cn} {K : Fg} {cl : Cl}
/-! ### a list of one's own is changed -/
theorem own_mut {B H : Hp} {σ : St} {ρ : Env} {n i : Nat} {ds es : List D} {p : Addr} {ws : List V} (F : Fr C B σ H ρ n) (e : ρ[i]? = some (.own ds)) (e1 : σ[i]? = some (some (.ref p))) (r : DRs C.K C.cl B ws es) : Fr C B σ (upd H p (.lst ws)) (ρ.set i (.own es)) n := by
  have q := paired_at F.slo e1 e
  cases q with
  | own h0 hB hs h _ =>
    refine ⟨fun a u x => by rw [upd_ne (ne_of_none x hB)]; exact F.sub a u x, F.old, F.new, F.nos, fun a u ns x => by rw [upd_ne (ne_of_none x h0)]; exact F.ext a u ns x, src_mut F.src hs, ?_, ?_⟩
    · refine paired_ix (by rw [List.length_set]; exact paired_len F.slo) fun j a b h1 h2 => ?_
      by_cases hj : j = i
      · subst hj
        rw [e1] at h1; cases h1
        rw [List.getElem?_set_self (List.getElem?_eq_some_iff.mp e).1] at h2; cases h2
        exact .own h0 hB hs upd_same r
      · rw [List.getElem?_set_ne (Ne.symm hj)] at h2
        have q := paired_at F.slo h1 h2
        cases q with
        | no _ => exact .no _
        | dat h => exact .dat h
        | src h => exact .src h
        | @own q us _ g0 gB gs g gr =>
          have ne : q ≠ p := fun z => by
            subst z
            exact hj (F.dis j i q _ _ h1 e1 h2 e)
          exact .own g0 gB gs (by rw [upd_ne ne]; exact g) gr
    · intro a b q xs ys h1 h2 h3 h4
      have own : ∀ (j : Nat) (es' : List D), (ρ.set i (.own es))[j]? = some (.own es') → ∃ es', ρ[j]? = some (.own es') := fun j es' q => by
        by_cases hj : j = i
        · subst hj; exact ⟨ds, e⟩
        · rw [List.getElem?_set_ne (Ne.symm hj)] at q; exact ⟨es', q⟩
      obtain ⟨_, h3⟩ := own a xs h3
      obtain ⟨_, h4⟩ := own b ys h4
      exact F.dis a b q _ _ h1 h2 h3 h4
/-- after an evaluation a list of one's own stands as it stood -/
theorem own_at {B H : Hp} {σ : St} {ρ : Env} {n i : Nat} {ds : List D} (F : Fr C B σ H ρ n) (e : ρ[i]? = some (.own ds)) : ∃ p vs, σ[i]? = some (some (.ref p)) ∧ H p = some (.lst vs) ∧ DRs C.K C.cl B vs ds := by
  obtain ⟨x, e1, e2⟩ := paired_get F.slo e
  cases e2 with
  | own h0 hB hs h r => exact ⟨_, _, e1, h, r⟩
def mApp (i : Nat) (te : M) : MS := fun De ρ n => ∃ ds, ρ[i]? = some (.own ds) ∧ te ρ n (fun d n1 => ds.length < sizeLine ∧ De.nx (ρ.set i (.own (ds ++ [d]))) n1) De.ex
theorem ds_app {i : Nat} {x : Str} {e : Expr} {te : M} {px apos cpos pos : Pos} (h : DE X C e te) (hN : X.N[i]? = some x := by rfl) (hv : Vis X.env.scope x := by first | exact Or.inl rfl | exact Or.inr (Or.inl rfl) | exact Or.inr (Or.inr rfl)) (hd : (x == ("__debug__" : Str)) = false := by decide)
    (hcd : (x == ("__classdict__" : Str)) = false := by decide) (hbase : attributeBase (.Name x px) "append" X.env (eval (.Name x px) X.env) = eval (.Name x px) X.env := by rfl)
    (hfew : ((backTo cpos (starEach [e] X.env)).all (fun x => !x.1) && (backToKw cpos (keywordEach [] X.env)).all (fun x => x.1.isSome) && decide (([e] : List Expr).length + ([] : List Keyword).length + (if ([] : List Keyword).isEmpty then 0 else 1) < 30)) = true := by rfl)
    (hline : (apos.endLine == cpos.line) = true := by rfl) (hs : starEach (e :: []) X.env = (false, eval e X.env) :: starEach [] X.env := by rfl) (hw : swapsWith (.Call (.Attribute (.Name x px) "append" apos) [e] [] cpos) none pos.line X.env = pure false := by rfl) :
    DS X C (.Expr (.Call (.Attribute (.Name x px) "append" apos) [e] [] cpos) pos) (mApp i te) :=
  ps_weak (ps_expr (pe_bm PySem.F.plainAttrs_list PySem.F.slot_list_append PySem.F.type_list_append mt_append (pe_var hN hv hd hcd) (pa_cons h pa_nil hs) hbase hfew hline hs) hw) fun Z σ H ⟨B, ρ, n, De, F, ⟨ds, e, w⟩, nx, rt, ex, bk, ct⟩ => by
    obtain ⟨p, vs, e1, e2, r⟩ := own_at F e
    refine ⟨_, e1, .inl ⟨rfl, _, SqL.of e2⟩, B, ρ, n, _, De.ex, F, w, ex.lift F, fun d n1 q v B1 H1 s1 k1 rd => ?_⟩
    have F1 := F.step s1 k1
    obtain ⟨p', vs', e1', e2', r'⟩ := own_at F1 e
    rw [e1] at e1'; cases e1'
    exact ⟨p, vs', v, rfl, rfl, e2', by rw [r'.length]; exact q.1, nx _ n1 q.2 σ B1 _ s1.old (own_mut F1 e e1 (r'.append (.cons rd .nil)))⟩
def mIns (i : Nat) (ti te : M) : MS := fun De ρ n => ∃ ds, ρ[i]? = some (.own ds) ∧ ti ρ n (fun k n1 => te ρ n1 (fun d n2 => ∃ j : Int, k = .int j ∧ ds.length < sizeLine ∧ (0 ≤ j ∧ j < 2 ^ 63) ∧ De.nx (ρ.set i (.own (ds.take j.toNat ++ [d] ++ ds.drop j.toNat))) n2) De.ex) De.ex
theorem ds_ins {i : Nat} {x : Str} {k e : Expr} {ti te : M} {px apos cpos pos : Pos} (hk : DE X C k ti) (h : DE X C e te) (hN : X.N[i]? = some x := by rfl) (hv : Vis X.env.scope x := by first | exact Or.inl rfl | exact Or.inr (Or.inl rfl) | exact Or.inr (Or.inr rfl)) (hd : (x == ("__debug__" : Str)) = false := by decide)
    (hcd : (x == ("__classdict__" : Str)) = false := by decide) (hbase : attributeBase (.Name x px) "insert" X.env (eval (.Name x px) X.env) = eval (.Name x px) X.env := by rfl)
    (hfew : ((backTo cpos (starEach [k, e] X.env)).all (fun x => !x.1) && (backToKw cpos (keywordEach [] X.env)).all (fun x => x.1.isSome) && decide (([k, e] : List Expr).length + ([] : List Keyword).length + (if ([] : List Keyword).isEmpty then 0 else 1) < 30)) = true := by rfl)
    (hline : (apos.endLine == cpos.line) = true := by rfl) (hs : starEach (k :: [e]) X.env = (false, eval k X.env) :: starEach [e] X.env := by rfl) (hs2 : starEach (e :: []) X.env = (false, eval e X.env) :: starEach [] X.env := by rfl) (hpl : (backTo cpos (starEach [e] X.env)).any (·.1) = false := by rfl)
    (hw : swapsWith (.Call (.Attribute (.Name x px) "insert" apos) [k, e] [] cpos) none pos.line X.env = pure false := by rfl) :
    DS X C (.Expr (.Call (.Attribute (.Name x px) "insert" apos) [k, e] [] cpos) pos) (mIns i ti te) :=
  ps_weak (ps_expr (pe_bm PySem.F.plainAttrs_list PySem.F.slot_list_insert PySem.F.type_list_insert mt_insert (pe_var hN hv hd hcd) (pa_cons hk (pa_cons h pa_nil hs2) hs) hbase hfew hline hs hpl) hw) fun Z σ H ⟨B, ρ, n, De, F, ⟨ds, e, w⟩, nx, rt, ex, bk, ct⟩ => by
    obtain ⟨p, vs, e1, e2, r⟩ := own_at F e
    refine ⟨_, e1, .inl ⟨rfl, _, SqL.of e2⟩, B, ρ, n, _, De.ex, F, w, ex.lift F, fun dk n1 w2 vk B1 H1 s1 k1 rk => ⟨B1, ρ, n1, _, De.ex, F.step s1 k1, w2, (ex.lift F).step s1, fun d n2 q v B2 H2 s2 k2 rd => ?_⟩⟩
    obtain ⟨j, rfl, q1, ⟨q2, q3⟩, q4⟩ := q
    cases rk
    have F2 := (F.step s1 k1).step s2 k2
    obtain ⟨p', vs', e1', e2', r'⟩ := own_at F2 e
    rw [e1] at e1'; cases e1'
    exact ⟨p, vs', j, v, rfl, rfl, e2', by rw [r'.length]; exact q1, q2, q3, nx _ n2 q4 σ B2 _ (s1.old.trans s2.old) (own_mut F2 e e1 (((r'.take _).append (.cons rd .nil)).append (r'.drop _)))⟩
/-- one's own list is handed back -/
def mRetO (i : Nat) : MS := fun De ρ n => ∃ ds, ρ[i]? = some (.own ds) ∧ De.rt (.list ds) n
theorem ds_retO (i : Nat) {x : Str} {pos pos2 : Pos} (hN : X.N[i]? = some x := by rfl) (hv : Vis X.env.scope x := by first | exact Or.inl rfl | exact Or.inr (Or.inl rfl) | exact Or.inr (Or.inr rfl)) (hd : (x == ("__debug__" : Str)) = false := by decide)
    (hcd : (x == ("__classdict__" : Str)) = false := by decide) : DS X C (.Return (some (.Name x pos)) pos2) (mRetO i) := ps_weak (ds_frz i (ds_ret (de_var i hN hv hd hcd))) fun Z σ H ⟨B, ρ, n, De, F, ⟨ds, e, w⟩, z⟩ =>
  ⟨B, ρ, n, De, F, ⟨ds, e, .list ds, List.getElem?_set_self (List.getElem?_eq_some_iff.mp e).1, w⟩, z⟩
/-! ### new lists: slices, sums -/
def cutA {α : Type} (xs : List α) (lo hi : Option Int) : List α := (xs.drop (HT.sIx xs.length 0 lo)).take (HT.sIx xs.length xs.length hi - HT.sIx xs.length 0 lo)
theorem DRs.cut {A : Hp} {vs : List V} {ds : List D} (h : DRs K cl A vs ds) (lo hi : Option Int) : DRs K cl A (cutV vs lo hi) (cutA ds lo hi) := by
  unfold cutV cutA
  rw [h.length]
  exact (h.drop _).take _
abbrev MO := Env → Nat → (Option Int → Nat → Prop) → PX → Prop
def tP (C : Cn) (m : MO) : TO := fun σ H Q => ∃ B ρ n P R, Fr C B σ H ρ n ∧ m ρ n P R ∧ OkX C B H R ∧ ∀ o n', P o n' → ∀ B' H', Stp C.sc B H B' H' → SrcOk C.sc H' n' → Q o H'
def mNoP : MO := fun _ n P _ => P none n
def mPart (m : M) : MO := fun ρ n P R => m ρ n (fun d n1 => ∃ i : Int, d = .int i ∧ P (some i) n1) R
abbrev DP (X : Cx) (C : Cn) (e : Option Expr) (m : MO) : Prop := PO X e (tP C m)
theorem po_weak {e : Option Expr} {t t' : TO} (h : PO X e t) (w : ∀ σ H Q, t' σ H Q → t σ H Q) : PO X e t' := ⟨fun pins s σ H Q I q => h.run pins s σ H Q I (w σ H Q q)⟩
theorem dp_none : DP X C none mNoP := po_weak po_none fun σ H Q ⟨B, ρ, n, P, R, F, w, ox, k⟩ => k none n w B H F.self F.src
theorem dp_some {e : Expr} {m : M} (h : DE X C e m) : DP X C (some e) (mPart m) := po_weak (po_some h) fun σ H Q ⟨B, ρ, n, P, R, F, w, ox, k⟩ => ⟨B, ρ, n, _, R, F, w, ox, fun d n1 ⟨i, e, p⟩ v B1 H1 s1 k1 r => by
  subst e
  cases r
  exact ⟨i, rfl, k _ n1 p B1 H1 s1 k1⟩⟩
def mSlL (a : M) (l h : MO) : ML := fun ρ n P R => a ρ n (fun d n1 => l ρ n1 (fun lo n2 => h ρ n2 (fun hi n3 => ∃ ds, d = .list ds ∧ P (cutA ds lo hi) n3) R) R) R
theorem le_slice {e : Expr} {lo hi : Option Expr} {a : M} {l h : MO} {p2 pos : Pos} (hK : X.K = C.K) (ha : QE X C e a) (hl : DP X C lo l) (hh : DP X C hi h) : LE X C (.Subscript e (.Slice lo hi none p2) pos) (mSlL a l h) := pe_weak (pe_slice sl_list ha hl hh) fun σ H Q ⟨B, ρ, n, P, R, F, w, ox, k⟩ => by
  rw [hK]
  refine ⟨B, ρ, n, _, R, F, w, ox, fun d n1 w1 v B1 H1 s1 k1 rv => ⟨B1, ρ, n1, _, R, F.step s1 k1, w1, ox.step s1, fun o n2 w2 B2 H2 s2 k2 => ⟨B2, ρ, n2, _, R, (F.step s1 k1).step s2 k2, w2, (ox.step s1).step s2, fun o2 n3 ⟨ds, ed, p⟩ B3 H3 s3 k3 => ?_⟩⟩⟩
  subst ed
  have r3 := (rv.mono s2.ext.hid s2.old).mono s3.ext.hid s3.old
  have st := (s1.trans s2).trans s3
  have fin : ∀ (a : Addr) (xs : List V), H3 a = some (.lst xs) → DRs C.K C.cl B3 xs ds → v = .ref a → rSlL C.K v o o2 H3 Q := fun a xs h1 r e => ⟨a, xs, e, SqL.of h1, fun q hq =>
    k _ n3 p q _ B3 _ (fresh_of st hq k3) (st.lay hq) (none_of st hq) (src_lay k3 hq) upd_same (r.cut o o2)⟩
  cases r3 with
  | lst h r => exact fin _ _ (hid_sub _ _ h) r rfl
  | set h =>
    cases h with
    | lst h r => exact fin _ _ (s3.sub _ _ h) r rfl
/-- a + b of two lists -/
def mCat (a b : M) : ML := fun ρ n P R => a ρ n (fun x n1 => b ρ n1 (fun y n2 => ∃ ds es, x = .list ds ∧ y = .list es ∧ ds.length + es.length ≤ sizeLine ∧ P (ds ++ es) n2) R) R
theorem q_list {A H B : Hp} {v : V} {ds : List D} (h : QR K cl A B v (.list ds)) (s : Same A H) (sb : Same B H) : ∃ a xs, v = .ref a ∧ H a = some (.lst xs) ∧ DRs K cl B xs ds := by
  cases h with
  | lst h r => exact ⟨_, _, rfl, s _ _ h, r⟩
  | set h =>
    cases h with
    | lst h r => exact ⟨_, _, rfl, sb _ _ h, r⟩
theorem le_cat {x y : Expr} {a b : M} {pos : Pos} (ha : QE X C x a) (hb : QE X C y b) : LE X C (.BinOp x .Add y pos) (mCat a b) := pe_weak (pe_op op_cat ha hb) fun σ H Q ⟨B, ρ, n, P, R, F, w, ox, k⟩ => by
  refine ⟨B, ρ, n, _, R, F, w, ox, fun dx n1 hb x B1 H1 s1 k1 rx => ⟨B1, ρ, n1, _, R, F.step s1 k1, hb, ox.step s1, fun dy n2 hz y B2 H2 s2 k2 ry => ?_⟩⟩
  obtain ⟨ds, es, rfl, rfl, hl, p⟩ := hz
  obtain ⟨l, xs, e1, h1, r1⟩ := q_list (rx.mono s2.ext.hid s2.old) hid_sub s2.sub
  obtain ⟨m, ys, e2, h2, r2⟩ := q_list ry hid_sub s2.sub
  have st := s1.trans s2
  exact ⟨l, m, xs, ys, e1, e2, h1, h2, by rw [r1.length, r2.length]; exact hl, fun q hq => k _ n2 p q _ B2 _ (fresh_of st hq k2) (st.lay hq) (none_of st hq) (src_lay k2 hq) upd_same (r1.append r2)⟩
/-- s.join(a list of texts) -/
def txts : List D → Option (List Str)
  | [] => some []
  | .str x :: r => (txts r).map (x :: ·)
  | _ :: _ => none
theorem txts_rel {A : Hp} : ∀ {vs : List V} {ds : List D} {ys : List Str}, DRs K cl A vs ds → txts ds = some ys → vs = ys.map V.str
  | _, [], _, .nil, e => by cases e; rfl
  | _, d :: r, ys, .cons h t, e => by
    cases h with
    | str x =>
      unfold txts at e
      obtain ⟨zs, e1, e2⟩ := Option.map_eq_some_iff.mp e
      subst e2
      rw [txts_rel t e1]; rfl
    | non => cases e
    | bl _ => cases e
    | int _ => cases e
    | lst _ _ => cases e
    | tup _ _ => cases e
    | ins _ _ _ _ => cases e
def mJoin (a b : M) : M := fun ρ n P R => a ρ n (fun x n1 => ∃ z, x = .str z ∧ b ρ n1 (fun y n2 => ∃ ds ys, y = .list ds ∧ txts ds = some ys ∧ (ys.map (·.length)).sum + ys.length * z.length ≤ 16777216 ∧ P (.str (Txt.join z ys)) n2) R) R
theorem de_join {o e : Expr} {a b : M} {apos pos : Pos} (hK : X.K = C.K) (ho : DE X C o a) (he : QE X C e b) (hs : starEach [e] X.env = [(false, eval e X.env)] := by rfl) (hbase : attributeBase o "join" X.env (eval o X.env) = eval o X.env := by rfl) (hline : (apos.endLine == pos.line) = true := by rfl) :
    DE X C (.Call (.Attribute o "join" apos) [e] [] pos) (mJoin a b) := pe_weak (pe_join ho he hs hbase hline) fun σ H Q ⟨B, ρ, n, P, R, F, w, ox, k⟩ => by
  refine ⟨B, ρ, n, _, R, F, w, ox, fun dx n1 hb x B1 H1 s1 k1 rx => ?_⟩
  obtain ⟨z, rfl, w1⟩ := hb
  cases rx
  refine ⟨⟨z, rfl⟩, B1, ρ, n1, _, R, F.step s1 k1, w1, ox.step s1, fun dy n2 hz y B2 H2 s2 k2 ry => ?_⟩
  obtain ⟨ds, ys, rfl, h1, h2, p⟩ := hz
  obtain ⟨l, xs, e1, h3, r1⟩ := q_list ry hid_sub s2.sub
  subst e1
  have e2 := txts_rel r1 h1
  subst e2
  rw [hK]
  exact ⟨z, l, ys, rfl, rfl, .inl (SqL.of h3), h2, k _ n2 p _ B2 H2 (s1.trans s2) k2 (.str _)⟩
end
end DS

/-! DS7: defs that are called where no repr is under way; repr of data; the end of a law. -/
namespace DS
open PySem L2
/-- as FnOk, asked only where no repr is under way -/
structure FnG (P : Program) (w : World) (K : Fg) (mg : Str → Option Value) (base : Heap) (k : Nat) (f : Addr) (fd : FuncData) (ps : List Str) (sp : Sp) : Prop where
  ln : ∀ vs H Q E, sp vs H Q E → vs.length = ps.length
  go : ∀ (A : Around) (outer : List PySem.Env) (s : Shared) (H : Hp) (args : Args) (us : List Value) (vs : List V) (Q : VK) (E : XK), A.guards = some [] → Room k A → Env0 P w K mg base A outer s H → BindsTo s fd args (ps.zip us) → Vals vs us → sp vs H Q E →
    codeAny (model P w) A (.call (.ref f) args) (CR (L2.CX P w) outer P w H s Q E) s
section
open PyProof.Rows
variable {P : Program} {w : World} {K : Fg} {mg : Str → Option Value} {base : Heap}
theorem FnG.ofOk {k : Nat} {f : Addr} {fd : FuncData} {ps : List Str} {sp : Sp} (F : FnOk P w K mg base (L2.CX P w) k f fd ps sp) : FnG P w K mg base k f fd ps sp :=
  ⟨F.len, fun A outer s H args us vs Q E _ hr e0 hb r h => F.run A outer s H args us vs Q E hr e0 hb r h⟩
/-- by the def's text -/
theorem fng_of {x qual : Str} {st : Stmt} {f : Addr} {fd : FuncData} {N ps : List Str} {k : Nat} {sp : Sp} (F : Fun K x qual st f fd) (S : FnScope N ps (defScope st)) (len : ∀ vs H Q E, sp vs H Q E → vs.length = ps.length)
    (hbody : ∀ (cdv : Value) (A : Around) (outer : List PySem.Env) (s : Shared) (H : Hp) (vs : List V) (Q : VK) (E : XK), A.guards = some [] → Room k (A.deeper (envOfC qual (defScope st) s.heap.objs.size f cdv)) → sp vs H Q E →
      ∃ t, PSs (cxOf (L2.CX P w) P w K mg base N qual (defScope st) f cdv A outer s H E) (defBody st) t ∧ t { nx := fun _ H' => Q .non H', rt := Q } (L2.start N vs) H) : FnG P w K mg base (k + 1) f fd ps sp := by
  obtain ⟨oc, od, kV, doc, pm, an, cdv, ct, osl, e, lk, hcd⟩ := F.ex
  subst e
  refine ⟨len, fun A outer s H args us vs Q E hgd hr e0 hb r hsp => ?_⟩
  have lenv := len _ _ _ _ hsp
  have back : ∀ (b : Addr) (o : Obj), base.get? b = some o → s.heap.get? b = some o := fun b o q => (e0.bs b o q).1
  have inK : K.In s.heap := e0.mod.kin.keeps back
  have kinds : ∀ y ∈ ps.zip us, (defScope st).names.lookup y.1 = some .local ∨ ((defScope st).names.lookup y.1 = some .cell ∧ ((cellsFrom (s.heap.objs.size + 1) (defScope st).names []).lookup y.1).isSome = true) := by
    rintro ⟨a, v⟩ hy
    cases S.par a (List.of_mem_zip hy).1 with
    | inl q => exact .inl q
    | inr q => exact .inr ⟨q, PySem.W.cellsFrom_some _ _ _ (.inl q)⟩
  refine codeAny_call_function hr.depth (inK _ _ lk) rfl S.co S.gen rfl (PySem.W.codeRec_of inK hcd) (hb _ _ _ _ (wpAny_newFunctionEnv_cells S.kind kinds fun env he s1 x => ?_))
  subst he
  refine ⟨(e0.mod.nolimit.keeps back).keeps x.toInCall.keep, codeAny_func ?_⟩
  obtain ⟨t, ht, hq⟩ := hbody cdv A outer s H vs Q E hgd (hr.deeper _) hsp
  refine wpAny_mono (ht.run [] s1 (L2.start N vs) H _ (inv_start S hr.hd e0 lenv r x) hq) (fun fl s' hs => ?_) fun e s' hs => hs
  cases fl with
  | ret u => obtain ⟨v, σ', H', J, rv, q⟩ := hs; exact ⟨v, H', J.os, J.bare, J.base, J.hok, rv, q⟩
  | next => obtain ⟨σ', H', J, q⟩ := hs; exact ⟨.non, H', J.os, J.bare, J.base, J.hok, rfl, q⟩
  | brk => obtain ⟨_, _, _, q⟩ := hs; exact q.elim
  | cont => obtain ⟨_, _, _, q⟩ := hs; exact q.elim
end
section
variable {X : Cx} {C : Cn}
/-- a call of such a def -/
theorem pe_callG {k : Nat} {f : Addr} {fd : FuncData} {ps : List Str} {sp : Sp} {x : Str} {p pos : Pos} {e : Expr} {es : List Expr} {t : TA} {E : XK} (F : FnG X.prog X.w X.K X.mg X.base k f fd ps sp) (hgd : X.A.guards = some []) (hr : Room k X.A) (hg : Gl X x) (hm : X.mg x = some (.ref f))
    (hk : PySem.W.keepIn X.K (.ref f) = true) (hb : Binds X.K fd ps []) (hx : Passes (L2.CX X.prog X.w) X E) (ha : PA X (e :: es) t) (hdb : (x == ("__debug__" : Str)) = false := by decide)
    (he : starEach (e :: es) X.env = (false, eval e X.env) :: starEach es X.env := by rfl) (hpl : (backTo pos (starEach es X.env)).any (·.1) = false := by rfl) : PE X (.Call (.Name x p) (e :: es) [] pos) (tCall sp [] E t) := by
  refine ⟨fun pins s σ H Q I h => wpAny_Call_Name_kw (ld_glob I hg hm (PySem.W.callWith_K (h₀ := X.base) I.ok.mod.kin hk (thn (ha.run pos pins s σ H _ I h) fun us s1 ⟨vs, H1, I1, r, q⟩ => ⟨I1.kIn, ?_⟩) he hpl) hdb)⟩
  have q' : sp vs H1 Q E := by
    have z : sp (vs ++ []) H1 Q E := q
    rw [List.append_nil] at z
    exact z
  have hl : us.length = ps.length := by rw [← r.length]; exact F.ln _ _ _ _ q'
  have hb' := hb s1 us I1.kIn (by rw [List.append_nil]; exact hl)
  rw [List.append_nil] at hb'
  refine wpAny_call (codeAny_mono (F.go X.A X.stack s1 H1 ⟨us, []⟩ us vs Q E hgd hr I1.env0 hb' r q') fun z s' hq => ?_)
  match z, hq with
  | .error e, hq => exact hx pins σ H1 s1 e s' I1 hq
  | .ok (.ret u), hq => exact I1.after hq
  | .ok .next, hq => exact False.elim hq
  | .ok .brk, hq => exact False.elim hq
  | .ok .cont, hq => exact False.elim hq
theorem de_callG {k ar : Nat} {f : Addr} {fd : FuncData} {ps : List Str} {g : G} {a : MA} {x : Str} {p pos : Pos} {e : Expr} {es : List Expr} (F : FnG X.prog X.w X.K X.mg X.base k f fd ps (spW C.K C.cl ar g)) (hgd : X.A.guards = some []) (hr : Room k X.A) (hg : Gl X x) (hm : X.mg x = some (.ref f))
    (hk : PySem.W.keepIn X.K (.ref f) = true) (hb : Binds X.K fd ps []) (hx : Passes (L2.CX X.prog X.w) X C.E) (ha : DA X C (e :: es) a) (hdb : (x == ("__debug__" : Str)) = false := by decide)
    (he : starEach (e :: es) X.env = (false, eval e X.env) :: starEach es X.env := by rfl) (hpl : (backTo pos (starEach es X.env)).any (·.1) = false := by rfl) : DE X C (.Call (.Name x p) (e :: es) [] pos) (mCall g ar a) :=
  pe_weak (pe_callG F hgd hr hg hm hk hb hx ha hdb he hpl) fun _ _ _ => t_call
/-! ### repr of a list or a tuple -/
def fRepr (d : D) : Option D := match d with
  | .list _ => if PyData.showable d = true ∧ d.hasDict = false ∧ d.depth ≤ 64 ∧ d.plain = true ∧ d.shown.length ≤ sizeLine then some (.str d.shown) else none
  | .tuple _ => if PyData.showable d = true ∧ d.hasDict = false ∧ d.depth ≤ 64 ∧ d.plain = true ∧ d.shown.length ≤ sizeLine then some (.str d.shown) else none
  | _ => none
def rRepr (K : Fg) : List V → Hp → VK → Prop := fun xs H Q => ∃ (a : Addr) (d : D), xs = [.ref a] ∧ Dp K H (.ref a) d ∧ PyData.showable d = true ∧ d.hasDict = false ∧ d.depth ≤ 64 ∧ d.shown.length ≤ sizeLine ∧ Q (.str d.shown) H
theorem cr_repr (hgd : X.A.guards = some []) (hu : X.A.units + 70 < cLine) : CallR X (.builtin "repr") (rRepr X.K) := by
  intro pins s σ H xs us Q I r h
  obtain ⟨a, d, rfl, hd, h1, h2, h3, h4, q⟩ := h
  obtain ⟨u, rfl, ru⟩ := vals1 r
  obtain rfl : u = Value.ref a := ru
  obtain ⟨as, rd⟩ := Dp.reads I d (.ref a) (.ref a) hd (show RelV (.ref a) (.ref a) from rfl)
  exact PySem.repr_of_reads' rd h1 (fun z => by rw [h2] at z; cases z) hgd (by omega) (fun _ _ e => e) (fun h' u tk k => ⟨.str d.shown, H, I.kept k, ⟨u, rfl⟩, q⟩) h4
theorem f_repr {K : Fg} {cl : Cl} : CF1 K cl (rRepr K) fRepr := fun A H x dx z s hx e Q q => by
  cases hx with
  | lst h r =>
    obtain ⟨⟨h1, h2, h3, h4, h5⟩, rfl⟩ := ite_some' e
    exact ⟨_, _, rfl, Dp.mono' (.lst h r) s h4, h1, h2, h3, h5, q _ fun _ => .str _⟩
  | tup h r =>
    obtain ⟨⟨h1, h2, h3, h4, h5⟩, rfl⟩ := ite_some' e
    exact ⟨_, _, rfl, Dp.mono' (.tup h r) s h4, h1, h2, h3, h5, q _ fun _ => .str _⟩
  | non => cases e
  | bl _ => cases e
  | int _ => cases e
  | str _ => cases e
  | ins _ _ _ _ => cases e
end
/-! ### the end of a law -/
section
open PyProof.Rows PySem.W
/-- the law's own call, from a heap in which the script alone may be tracked -/
theorem law_go {P : Program} {w : World} {K : Fg} {mg mb : Str → Option Value} {k : Nat} {fa a : Addr} {fd : FuncData} {x : Str} {sp : Sp} {s1 : Shared} {vs : List Value} {ns : List Int}
    (inK : K.In s1.heap) (hns : s1.heap.Ns mainGlobals mg) (hb : s1.heap.Ns builtinsNs mb) (hbb : ∀ x : Str, x ≠ "__name__" → mb x = bootBuiltins x) (lim : s1.heap.NoLimit) (hg : s1.gens = #[])
    (ha : s1.heap.get? a = some { cls := .type "list", data := .seq vs.toArray }) (hi : IntsAre vs ns) (hl : ns.length ≤ sizeLine) (hr : Room k callerA)
    (F : ∀ base : Heap, K.In base → base.Ns mainGlobals mg → FnG P w K mg base k fa fd [x] sp) (bind : ∀ (s : Shared) (u : Value), BindsTo s fd ⟨[u], []⟩ [(x, u)])
    (hsp : ∀ H : Hp, Only H → SqL K H a (ns.map V.int) → sp [.ref a] H (fun v _ => v = .bl true) fun _ _ _ => False) :
    codeAny (model P w) callerA (.call (.ref fa) ⟨[.ref a], []⟩) (fun r s' => r = .ok (.ret (.bool true)) ∧ OldK s1.heap s'.heap ∧ s'.os = s1.os ∧ AllBare s'.gens) s1 := by
  have rv := vals_ints hi
  have main : ∀ H : Hp, Only H → SqL K H a (ns.map V.int) → HOk P w H s1.heap → (∀ b, H b ≠ none → b = a ∧ K.lookup a = none) →
      codeAny (model P w) callerA (.call (.ref fa) ⟨[.ref a], []⟩) (fun r s' => r = .ok (.ret (.bool true)) ∧ OldK s1.heap s'.heap ∧ s'.os = s1.os ∧ AllBare s'.gens) s1 := by
    intro H only hS ok hA
    have dictFree : ∀ {b : Addr} {o : Obj} {es : Array DictEntry} {ep : Nat}, s1.heap.get? b = some o → o.data = .dict es ep → H b = none := by
      intro b o es ep e d
      by_cases z : H b = none
      · exact z
      · obtain ⟨rfl, _⟩ := hA b z
        rw [ha] at e; cases e
        exact absurd d (by intro q; cases q)
    have nsIn : ∀ {b : Addr} {m : Str → Option Value}, s1.heap.Ns b m → (hidT s1.heap H).Ns b m := by
      rintro b m ⟨o, es, ep, e, d, r⟩
      exact ⟨o, es, ep, hidT_get e (dictFree e d), d, r⟩
    have inB : K.In (hidT s1.heap H) := by
      intro b o e
      refine hidT_get (inK b o e) ?_
      by_cases z : H b = none
      · exact z
      · obtain ⟨rfl, q⟩ := hA b z
        rw [q] at e; cases e
    obtain ⟨mc, l1, l2⟩ := lim
    have e0 : Env0 P w K mg (hidT s1.heap H) callerA [] s1 H :=
      { frames := rfl, mod := ⟨inB, nsIn hns, ⟨mb, nsIn hb, hbb⟩, ⟨mc, nsIn l1, l2⟩⟩, bs := fun b o e => of_hidT e, bsz := Nat.le_of_eq (hidT_size _ _), funs := trivial, frf := fun b z => (by cases z), hok := ok, bare := .of_eq hg }
    refine codeAny_mono ((F _ inB (nsIn hns)).go callerA [] s1 H ⟨[.ref a], []⟩ [.ref a] [.ref a] _ _ rfl hr e0 (bind s1 (.ref a)) (.cons rfl .nil) (hsp H only hS)) fun r s' h => ?_
    match r, h with
    | .error e, h =>
      obtain ⟨_, _, _, _, _, _, _, _, _, _, _, _, z⟩ := h
      exact z.elim
    | .ok .next, h => exact False.elim h
    | .ok .brk, h => exact False.elim h
    | .ok .cont, h => exact False.elim h
    | .ok (.ret u), h =>
      obtain ⟨v, H', os, bare, un, ok', r', q⟩ := h
      obtain rfl : v = .bl true := q
      obtain rfl : u = Value.bool true := r'
      refine ⟨rfl, OldK.of_keep fun b o e => ?_, os, bare⟩
      rcases only b with z | ⟨ob, xs, z⟩
      · exact un.keep b o e z (by intro q; cases q) (by simp)
      · have e1 := (ok b _ z).1
        have e2 := (ok' b _ (un.frzs b ob _ z)).1
        rw [e] at e1; cases e1; exact e2
  cases hk : K.lookup a with
  | some o =>
    have e := inK a o hk
    rw [ha] at e; cases e
    exact main (fun _ => none) (fun _ => .inl rfl) (.inr ⟨_, vs.toArray, _, hk, rfl, rfl, rfl, by rw [List.size_toArray, hi.length]; exact hl, by simpa using rv⟩) (fun b u z => by cases z) fun b z => absurd rfl z
  | none =>
    let O : HO := .frz { cls := .type "list", data := .seq vs.toArray } (.lst (ns.map V.int))
    have at_a : ∀ b, (fun b => if b = a then some O else none : Hp) b ≠ none → b = a := fun b z => by
      by_cases q : b = a
      · exact q
      · exact absurd (if_neg q) z
    refine main (fun b => if b = a then some O else none) (fun b => ?_) (.inl (.inr ⟨_, if_pos rfl⟩)) (fun b u z => ?_) fun b z => ⟨at_a b z, hk⟩
    · by_cases q : b = a
      · exact .inr ⟨_, _, if_pos q⟩
      · exact .inl (if_neg q)
    · obtain rfl := at_a b (by rw [z]; exact fun q => by cases q)
      have z' := (if_pos rfl).symm.trans z
      cases z'
      exact ⟨ha, by rw [List.length_map]; exact hl, vs, _, rv, ha⟩
theorem walk_G {l : OpenLaw} {n k : Nat} {q : Program} {loose : List Str} {XP : (Str → Option Value) → Heap → Prop} {YP : World → Heap → Prop} {d : DefRec} {K : Params → Frag} {sp : Frag → Sp} {x : Str}
    (hn : l.most = some n) (hn2 : n ≤ sizeLine) (hdf : d.params.defaults = []) (hr : Room k callerA) (hY : ∀ (w : World) (h : Heap), YP w h → (K w.params).In h)
    (F : ∀ (w : World) (mg : Str → Option Value) (fa : Addr) (h : Heap), (K w.params).In h → h.Ns mainGlobals mg → mg d.name = some (.ref fa) →
      ∃ fd : FuncData, (∀ (s : Shared) (u : Value), BindsTo s fd ⟨[u], []⟩ [(x, u)]) ∧ ∀ base : Heap, (K w.params).In base → base.Ns mainGlobals mg → FnG l.prog w (K w.params) mg base k fa fd [x] (sp (K w.params)))
    (hsp : ∀ (K : Frag) (H : Hp) (a : Addr) (ns : List Int), ns.length ≤ n → SqL K H a (ns.map V.int) → sp K [.ref a] H (fun v _ => v = .bl true) fun _ _ _ => False) :
    WalkO q loose XP YP l.row.toRowW d [] (fun f vs => PySem.call f vs) := by
  refine Att.attach_call hn hdf fun w s0 s1 mg mb fa o pm cd doc a vs ns G Y ho hd hcd hmg hobj hints hlen hg => ?_
  have inK := hY w _ Y
  obtain ⟨fd, hb, hF⟩ := F w mg fa _ inK G.T.g hmg
  exact law_go inK G.T.g G.T.b G.T.builtins G.T.nolimit hg hobj hints (Nat.le_trans hlen hn2) hr hF hb fun H _ hS => hsp (K w.params) H a ns hlen hS
end
end DS

/-! DS8: more rules; reckoning with readings. -/
namespace DS
open PySem L2
theorem hu64 {k : Nat} {A : Around} (hr : Room k A) : A.units + 64 < cLine := by have := hr.un; omega
theorem hu65 {k : Nat} {A : Around} (hr : Room k A) : A.units + 65 < cLine := by have := hr.un; omega
theorem hu70 {k : Nat} {A : Around} (hr : Room k A) : A.units + 70 < cLine := by have := hr.un; omega
section
variable {X : Cx} {C : Cn} {K : Fg} {cl : Cl}
/-! all, any of a list of truth values -/
def bools : List D → Option (List Bool)
  | [] => some []
  | .bool b :: r => (bools r).map (b :: ·)
  | _ :: _ => none
theorem bools_rel {A : Hp} : ∀ {vs : List V} {ds : List D} {bs : List Bool}, DRs K cl A vs ds → bools ds = some bs → vs = bs.map V.bl
  | _, [], _, .nil, e => by cases e; rfl
  | _, d :: r, bs, .cons h t, e => by
    cases h with
    | bl b =>
      unfold bools at e
      obtain ⟨cs, e1, e2⟩ := Option.map_eq_some_iff.mp e
      subst e2
      rw [bools_rel t e1]; rfl
    | non => cases e
    | str _ => cases e
    | int _ => cases e
    | lst _ _ => cases e
    | tup _ _ => cases e
    | ins _ _ _ _ => cases e
def fAll : D → Option D
  | .list ds => (bools ds).map fun bs => .bool (bs.all id)
  | _ => none
def fAny : D → Option D
  | .list ds => (bools ds).map fun bs => .bool (bs.any id)
  | _ => none
theorem f_all : CF1 K cl (rAll K) fAll := fun A H x dx z s hx e Q q => by
  cases hx with
  | lst h r =>
    obtain ⟨bs, e1, e2⟩ := Option.map_eq_some_iff.mp e
    subst e2
    have := bools_rel r e1
    subst this
    exact ⟨_, bs, rfl, SqL.of (s _ _ h), q _ fun _ => .bl _⟩
  | non => cases e
  | bl _ => cases e
  | int _ => cases e
  | str _ => cases e
  | tup _ _ => cases e
  | ins _ _ _ _ => cases e
theorem f_any : CF1 K cl (rAny K) fAny := fun A H x dx z s hx e Q q => by
  cases hx with
  | lst h r =>
    obtain ⟨bs, e1, e2⟩ := Option.map_eq_some_iff.mp e
    subst e2
    have := bools_rel r e1
    subst this
    exact ⟨_, bs, rfl, SqL.of (s _ _ h), q _ fun _ => .bl _⟩
  | non => cases e
  | bl _ => cases e
  | int _ => cases e
  | str _ => cases e
  | tup _ _ => cases e
  | ins _ _ _ _ => cases e
/-! y = [.. for ..] -/
theorem ds_setLc {i : Nat} {y : Str} {py : Pos} {elt tg iter : Expr} {ifs : List Expr} {scope : Scope} {own : List (Str × Nat)} {pos spos : Pos} {mi : MI} {g : TG} {gd : GD} {tt : MT} {te : M} (hc : X.calm = true) (hN : X.N.Nodup) (hy : X.N[i]? = some y) (hyl : X.env.scope.names.lookup y = some .local)
    (hsw : swapsWith (.ListComp elt [⟨tg, iter, ifs, 0⟩] scope pos) (some (.Name y py)) spos.line X.env = pure true) (hi : IQ X C tg iter mi) (ok : BlkOk X.N X.env.scope scope own) (hgd : GOk C g gd) (hin : GIn g (own.map (·.2)))
    (hg : ∀ (s : Shared) (H : Hp) (A : Addr) (cl : List (Str × Addr)) (fp : List Addr), PG (X.blk s H scope (compEnvC scope cl A X.env) fp) tg g) (ht : ∀ (s : Shared) (H : Hp) (A : Addr) (cl : List (Str × Addr)) (fp : List Addr), DTs (X.blk s H scope (compEnvC scope cl A X.env) fp) C.qt ifs tt)
    (he : ∀ (s : Shared) (H : Hp) (A : Addr) (cl : List (Str × Addr)) (fp : List Addr), DE (X.blk s H scope (compEnvC scope cl A X.env) fp) C.qt elt te) (hs : ∀ x, foldedSetIterable iter X.env x = pure x := by intro _; rfl) :
    DS X C (.Assign [.Name y py] (.ListComp elt [⟨tg, iter, ifs, 0⟩] scope pos) spos) (mSet (mL (mComp mi gd (own.map (·.2)) tt te)) (gdName i)) :=
  ps_weak (ps_setLc hc hN hy hyl hsw hi ok hg ht he hs) fun Z σ H h => by
    refine t_set (te := mL (mComp mi gd (own.map (·.2)) tt te)) (g_name i) h |> fun z => ?_
    exact t_comp hgd hin (by
      obtain ⟨B, ρ, n, P, R, F, w, ox, k⟩ := z
      exact ⟨B, ρ, n, fun ds => P (.list ds), R, F, w, ox, fun ds n' q p vs B' H' hp s hb c h1 r =>
        k (.list ds) n' q (.ref p) (upd B' p (.lst vs)) H' (s.settle hp h1 hb (src_new F.src hp)) c (.lst upd_same (r.mono (same_upd hb)))⟩)
theorem ds_ownLc {i : Nat} {y : Str} {py : Pos} {elt tg iter : Expr} {ifs : List Expr} {scope : Scope} {own : List (Str × Nat)} {pos spos : Pos} {mi : MI} {g : TG} {gd : GD} {tt : MT} {te : M} (hc : X.calm = true) (hN : X.N.Nodup) (hy : X.N[i]? = some y) (hyl : X.env.scope.names.lookup y = some .local)
    (hsw : swapsWith (.ListComp elt [⟨tg, iter, ifs, 0⟩] scope pos) (some (.Name y py)) spos.line X.env = pure true) (hi : IQ X C tg iter mi) (ok : BlkOk X.N X.env.scope scope own) (hgd : GOk C g gd) (hin : GIn g (own.map (·.2)))
    (hg : ∀ (s : Shared) (H : Hp) (A : Addr) (cl : List (Str × Addr)) (fp : List Addr), PG (X.blk s H scope (compEnvC scope cl A X.env) fp) tg g) (ht : ∀ (s : Shared) (H : Hp) (A : Addr) (cl : List (Str × Addr)) (fp : List Addr), DTs (X.blk s H scope (compEnvC scope cl A X.env) fp) C.qt ifs tt)
    (he : ∀ (s : Shared) (H : Hp) (A : Addr) (cl : List (Str × Addr)) (fp : List Addr), DE (X.blk s H scope (compEnvC scope cl A X.env) fp) C.qt elt te) (hs : ∀ x, foldedSetIterable iter X.env x = pure x := by intro _; rfl) :
    DS X C (.Assign [.Name y py] (.ListComp elt [⟨tg, iter, ifs, 0⟩] scope pos) spos) (mOwn i (mComp mi gd (own.map (·.2)) tt te)) :=
  ps_weak (ps_setLc hc hN hy hyl hsw hi ok hg ht he hs) fun Z σ H h => t_comp hgd hin (t_own h)
/-- a, b = e1, e2 -/
def mPar (i j : Nat) (a : MA) : MS := fun De ρ n => a ρ n (fun as n1 => ∃ d e, as = [.dat d, .dat e] ∧ De.nx ((ρ.set i (.dat d)).set j (.dat e)) n1) De.ex
end
/-! ### reckoning -/
/-- a def without effects: its data in, its data out -/
def gF (f : List D → Option D) : G := fun as n P _ => ∃ ds z, as = ds.map .dat ∧ f ds = some z ∧ P z n
theorem mSeq_d (a b : MS) (De : DEnds) (ρ : Env) (n : Nat) : mSeq a b De ρ n = a { De with nx := fun ρ n => b De ρ n } ρ n := rfl
theorem mRet_d (te : M) (De : DEnds) (ρ : Env) (n : Nat) : mRet te De ρ n = te ρ n De.rt De.ex := rfl
theorem mVar_d {i : Nat} {ρ : Env} {n : Nat} {P : PD} {R : PX} {d : D} (h : ρ[i]? = some (.dat d)) : mVar i ρ n P R = P d n := by
  unfold mVar; rw [h]; simp
theorem mVarQ_d {i : Nat} {ρ : Env} {n : Nat} {P : PD} {R : PX} {d : D} (h : ρ[i]? = some (.dat d)) : mVarQ i ρ n P R = P d n := by
  unfold mVarQ; rw [h]; simp [slD]
theorem mVarQ_o {i : Nat} {ρ : Env} {n : Nat} {P : PD} {R : PX} {ds : List D} (h : ρ[i]? = some (.own ds)) : mVarQ i ρ n P R = P (.list ds) n := by
  unfold mVarQ; rw [h]; simp [slD]
end DS

/-! DS9: isinstance by kinds; what is reckoned. -/
namespace DS
open PySem L2
theorem kit_int_NoneType : kitB "NoneType" "int" = some false := by decide +kernel
theorem kit_int_bool : kitB "bool" "int" = some true := by decide +kernel
theorem kit_int_int : kitB "int" "int" = some true := by decide +kernel
theorem kit_int_str : kitB "str" "int" = some false := by decide +kernel
theorem kit_int_list : kitB "list" "int" = some false := by decide +kernel
theorem kit_int_tuple : kitB "tuple" "int" = some false := by decide +kernel
theorem kit_bool_NoneType : kitB "NoneType" "bool" = some false := by decide +kernel
theorem kit_bool_bool : kitB "bool" "bool" = some true := by decide +kernel
theorem kit_bool_int : kitB "int" "bool" = some false := by decide +kernel
theorem kit_bool_str : kitB "str" "bool" = some false := by decide +kernel
theorem kit_bool_list : kitB "list" "bool" = some false := by decide +kernel
theorem kit_bool_tuple : kitB "tuple" "bool" = some false := by decide +kernel
theorem kit_str_NoneType : kitB "NoneType" "str" = some false := by decide +kernel
theorem kit_str_bool : kitB "bool" "str" = some false := by decide +kernel
theorem kit_str_int : kitB "int" "str" = some false := by decide +kernel
theorem kit_str_str : kitB "str" "str" = some true := by decide +kernel
theorem kit_str_list : kitB "list" "str" = some false := by decide +kernel
theorem kit_str_tuple : kitB "tuple" "str" = some false := by decide +kernel
theorem kit_tuple_NoneType : kitB "NoneType" "tuple" = some false := by decide +kernel
theorem kit_tuple_bool : kitB "bool" "tuple" = some false := by decide +kernel
theorem kit_tuple_int : kitB "int" "tuple" = some false := by decide +kernel
theorem kit_tuple_str : kitB "str" "tuple" = some false := by decide +kernel
theorem kit_tuple_list : kitB "list" "tuple" = some false := by decide +kernel
theorem kit_tuple_tuple : kitB "tuple" "tuple" = some true := by decide +kernel
theorem kit_list_NoneType : kitB "NoneType" "list" = some false := by decide +kernel
theorem kit_list_bool : kitB "bool" "list" = some false := by decide +kernel
theorem kit_list_int : kitB "int" "list" = some false := by decide +kernel
theorem kit_list_str : kitB "str" "list" = some false := by decide +kernel
theorem kit_list_list : kitB "list" "list" = some true := by decide +kernel
theorem kit_list_tuple : kitB "tuple" "list" = some false := by decide +kernel
theorem is_int_NoneType  : fIs "int" .none = some (.bool false) := by show (kitB "NoneType" "int").map PyData.bool = _; rw [kit_int_NoneType]; rfl
theorem is_int_bool {b : Bool} : fIs "int" (.bool b) = some (.bool true) := by show (kitB "bool" "int").map PyData.bool = _; rw [kit_int_bool]; rfl
theorem is_int_int {i : Int} : fIs "int" (.int i) = some (.bool true) := by show (kitB "int" "int").map PyData.bool = _; rw [kit_int_int]; rfl
theorem is_int_str {s : Str} : fIs "int" (.str s) = some (.bool false) := by show (kitB "str" "int").map PyData.bool = _; rw [kit_int_str]; rfl
theorem is_int_list {l : List D} : fIs "int" (.list l) = some (.bool false) := by show (kitB "list" "int").map PyData.bool = _; rw [kit_int_list]; rfl
theorem is_int_tuple {l : List D} : fIs "int" (.tuple l) = some (.bool false) := by show (kitB "tuple" "int").map PyData.bool = _; rw [kit_int_tuple]; rfl
theorem is_bool_NoneType  : fIs "bool" .none = some (.bool false) := by show (kitB "NoneType" "bool").map PyData.bool = _; rw [kit_bool_NoneType]; rfl
theorem is_bool_bool {b : Bool} : fIs "bool" (.bool b) = some (.bool true) := by show (kitB "bool" "bool").map PyData.bool = _; rw [kit_bool_bool]; rfl
theorem is_bool_int {i : Int} : fIs "bool" (.int i) = some (.bool false) := by show (kitB "int" "bool").map PyData.bool = _; rw [kit_bool_int]; rfl
theorem is_bool_str {s : Str} : fIs "bool" (.str s) = some (.bool false) := by show (kitB "str" "bool").map PyData.bool = _; rw [kit_bool_str]; rfl
theorem is_bool_list {l : List D} : fIs "bool" (.list l) = some (.bool false) := by show (kitB "list" "bool").map PyData.bool = _; rw [kit_bool_list]; rfl
theorem is_bool_tuple {l : List D} : fIs "bool" (.tuple l) = some (.bool false) := by show (kitB "tuple" "bool").map PyData.bool = _; rw [kit_bool_tuple]; rfl
theorem is_str_NoneType  : fIs "str" .none = some (.bool false) := by show (kitB "NoneType" "str").map PyData.bool = _; rw [kit_str_NoneType]; rfl
theorem is_str_bool {b : Bool} : fIs "str" (.bool b) = some (.bool false) := by show (kitB "bool" "str").map PyData.bool = _; rw [kit_str_bool]; rfl
theorem is_str_int {i : Int} : fIs "str" (.int i) = some (.bool false) := by show (kitB "int" "str").map PyData.bool = _; rw [kit_str_int]; rfl
theorem is_str_str {s : Str} : fIs "str" (.str s) = some (.bool true) := by show (kitB "str" "str").map PyData.bool = _; rw [kit_str_str]; rfl
theorem is_str_list {l : List D} : fIs "str" (.list l) = some (.bool false) := by show (kitB "list" "str").map PyData.bool = _; rw [kit_str_list]; rfl
theorem is_str_tuple {l : List D} : fIs "str" (.tuple l) = some (.bool false) := by show (kitB "tuple" "str").map PyData.bool = _; rw [kit_str_tuple]; rfl
theorem is_tuple_NoneType  : fIs "tuple" .none = some (.bool false) := by show (kitB "NoneType" "tuple").map PyData.bool = _; rw [kit_tuple_NoneType]; rfl
theorem is_tuple_bool {b : Bool} : fIs "tuple" (.bool b) = some (.bool false) := by show (kitB "bool" "tuple").map PyData.bool = _; rw [kit_tuple_bool]; rfl
theorem is_tuple_int {i : Int} : fIs "tuple" (.int i) = some (.bool false) := by show (kitB "int" "tuple").map PyData.bool = _; rw [kit_tuple_int]; rfl
theorem is_tuple_str {s : Str} : fIs "tuple" (.str s) = some (.bool false) := by show (kitB "str" "tuple").map PyData.bool = _; rw [kit_tuple_str]; rfl
theorem is_tuple_list {l : List D} : fIs "tuple" (.list l) = some (.bool false) := by show (kitB "list" "tuple").map PyData.bool = _; rw [kit_tuple_list]; rfl
theorem is_tuple_tuple {l : List D} : fIs "tuple" (.tuple l) = some (.bool true) := by show (kitB "tuple" "tuple").map PyData.bool = _; rw [kit_tuple_tuple]; rfl
theorem is_list_NoneType  : fIs "list" .none = some (.bool false) := by show (kitB "NoneType" "list").map PyData.bool = _; rw [kit_list_NoneType]; rfl
theorem is_list_bool {b : Bool} : fIs "list" (.bool b) = some (.bool false) := by show (kitB "bool" "list").map PyData.bool = _; rw [kit_list_bool]; rfl
theorem is_list_int {i : Int} : fIs "list" (.int i) = some (.bool false) := by show (kitB "int" "list").map PyData.bool = _; rw [kit_list_int]; rfl
theorem is_list_str {s : Str} : fIs "list" (.str s) = some (.bool false) := by show (kitB "str" "list").map PyData.bool = _; rw [kit_list_str]; rfl
theorem is_list_list {l : List D} : fIs "list" (.list l) = some (.bool true) := by show (kitB "list" "list").map PyData.bool = _; rw [kit_list_list]; rfl
theorem is_list_tuple {l : List D} : fIs "list" (.tuple l) = some (.bool false) := by show (kitB "tuple" "list").map PyData.bool = _; rw [kit_list_tuple]; rfl
theorem ex_if {α : Type} {c : Prop} [Decidable c] {a : α} {Q : α → Prop} : (∃ z, (if c then some a else none) = some z ∧ Q z) = (c ∧ Q a) := by
  by_cases h : c
  · rw [if_pos h]; simp [h]
  · rw [if_neg h]; simp [h]
theorem eq_ints (neg : Bool) (i j : Int) : fEq neg (.int i) (.int j) = some (.bool (if neg then !(i == j) else i == j)) := by
  unfold fEq
  rw [if_pos ⟨rfl, rfl⟩]
  cases neg <;> simp [PyData.eqv]
theorem eq_strs (neg : Bool) (x y : Str) : fEq neg (.str x) (.str y) = some (.bool (if neg then !(x == y) else x == y)) := by
  unfold fEq
  rw [if_pos ⟨rfl, rfl⟩]
  cases neg <;> simp [PyData.eqv]
theorem eq_bools (neg : Bool) (x y : Bool) : fEq neg (.bool x) (.bool y) = some (.bool (if neg then !(x == y) else x == y)) := by
  unfold fEq
  rw [if_pos ⟨rfl, rfl⟩]
  cases neg <;> simp [PyData.eqv]
theorem ix0 (a : D) (r : List D) : fIx (.tuple (a :: r)) (.int 0) = some a := by
  show atI _ _ = _
  unfold atI ixN
  rw [if_pos (by decide), if_pos (by simp only [List.length_cons]; omega)]
  rfl
theorem ix1 (a b : D) (r : List D) : fIx (.tuple (a :: b :: r)) (.int 1) = some b := by
  show atI _ _ = _
  unfold atI ixN
  rw [if_pos (by decide), if_pos (by simp only [List.length_cons]; omega)]
  rfl
theorem ix2 (a b c : D) (r : List D) : fIx (.tuple (a :: b :: c :: r)) (.int 2) = some c := by
  show atI _ _ = _
  unfold atI ixN
  rw [if_pos (by decide), if_pos (by simp only [List.length_cons]; omega)]
  rfl
theorem ix3 (a b c d : D) (r : List D) : fIx (.tuple (a :: b :: c :: d :: r)) (.int 3) = some d := by
  show atI _ _ = _
  unfold atI ixN
  rw [if_pos (by decide), if_pos (by simp only [List.length_cons]; omega)]
  rfl
theorem ix4 (a b c d e : D) (r : List D) : fIx (.tuple (a :: b :: c :: d :: e :: r)) (.int 4) = some e := by
  show atI _ _ = _
  unfold atI ixN
  rw [if_pos (by decide), if_pos (by simp only [List.length_cons]; omega)]
  rfl
theorem lx0 (a : D) (r : List D) : fIx (.list (a :: r)) (.int 0) = some a := ix0 a r
theorem lx1 (a b : D) (r : List D) : fIx (.list (a :: b :: r)) (.int 1) = some b := ix1 a b r
theorem lx2 (a b c : D) (r : List D) : fIx (.list (a :: b :: c :: r)) (.int 2) = some c := ix2 a b c r
theorem lx3 (a b c d : D) (r : List D) : fIx (.list (a :: b :: c :: d :: r)) (.int 3) = some d := ix3 a b c d r
end DS

/-! P1: the grants' defs over data. -/
namespace DS
open PySem L2
local macro_rules | `(tactic| walk_at "ev") => `(tactic| simp only [mSeq, mRet, mVar, mVarQ, slD, mC, m1, m2, mT, mNot, mAnd, mOr, mAndV, mOrV, mNotV, mIf, mChain, mNil, mCons, mSrc, mTup, mLst, mCall, mIx, mL, mIs, mIfS, mNext, mSet, mOwn, mRetO, mRetN, mExp, mPar, mNev, datAll, gdName, gdTup, setAll, fI, fIc, fNeg, fLen, fInt, fAbs, fIsN, env0, wipeR,
  is_int_NoneType, is_int_bool, is_int_int, is_int_str, is_int_list, is_int_tuple, is_bool_NoneType, is_bool_bool, is_bool_int, is_bool_str, is_bool_list, is_bool_tuple, is_str_NoneType, is_str_bool, is_str_int, is_str_str, is_str_list, is_str_tuple, is_tuple_NoneType, is_tuple_bool, is_tuple_int, is_tuple_str, is_tuple_list, is_tuple_tuple, is_list_NoneType, is_list_bool, is_list_int, is_list_str, is_list_list, is_list_tuple,
  List.map, List.length_cons, List.length_nil, List.getElem?_cons_zero, List.getElem?_cons_succ, List.set_cons_zero, List.set_cons_succ, List.replicate, List.append_assoc, List.cons_append, List.nil_append, Option.map_some, Option.some.injEq, Sl.dat.injEq, Sl.own.injEq, exists_eq_left', exists_eq_left, exists_and_left, exists_and_right, true_and, and_true, Bool.true_eq_false, if_true, if_false, reduceIte, Bool.false_eq_true, Bool.not_true, Bool.not_false, PyData.bool.injEq, PyData.int.injEq, PyData.str.injEq, PyData.tuple.injEq, PyData.list.injEq, Nat.reduceAdd, Nat.reduceSub, Option.map_none, decide_eq_true_eq, ex_if, eq_ints, eq_strs, eq_bools, ix0, ix1, ix2, ix3, ix4, lx0, lx1, lx2, lx3])
/-! ### whole numbers, names -/
def isI : D → Bool
  | .int _ => true
  | _ => false
def within (d : D) (lo hi : Int) : Bool := match d with
  | .int i => decide (lo ≤ i) && decide (i ≤ hi)
  | _ => false
/-- data of the plain kinds: no object of an own class; a text not too long -/
def pl : D → Bool
  | .dict _ => false
  | .str s => decide (s.length ≤ sizeLine)
  | _ => true
def letter (c : Nat) : Bool := decide (97 ≤ c) && decide (c ≤ 122)
def isName : D → Bool
  | .str s => decide (1 ≤ s.length) && decide (s.length ≤ 8) && s.cps.toList.all letter
  | _ => false
def f_whole : List D → Option D
  | [d] => if pl d = true then some (.bool (isI d)) else none
  | _ => none
def f_within : List D → Option D
  | [d, .int lo, .int hi] => if pl d = true then some (.bool (within d lo hi)) else none
  | _ => none
def big : Int := 1000000000000000000000000000000
def f_time : List D → Option D
  | [d] => if pl d = true then some (.bool (within d (-big) big)) else none
  | _ => none
def f_name : List D → Option D
  | [d] => if pl d = true then some (.bool (isName d)) else none
  | _ => none
abbrev g_is_whole : G := gF f_whole
abbrev g_is_within : G := gF f_within
abbrev g_is_time : G := gF f_time
abbrev g_is_name : G := gF f_name
theorem gF1 {f : List D → Option D} {as : List Sl} {n : Nat} {P : PD} {R : PX} (ds : List D) (z : D) (h1 : as = ds.map .dat) (h2 : f ds = some z) (p : P z n) : gF f as n P R := ⟨ds, z, h1, h2, p⟩
def m_is_whole : MS := (mRet (mAndV (mIs "int" (mVarQ 0)) (mNotV (mIs "bool" (mVarQ 0)))))
def N_is_whole : List Str := ["value"]
abbrev ends (P : PD) (R : PX) : DEnds := { nx := fun _ n' => P .none n', rt := P, ex := R }
theorem pr_is_whole (as n P R) (hl : as.length = 1) (h : g_is_whole as n P R) : m_is_whole (ends P R) (env0 as N_is_whole.length) n := by
  obtain ⟨ds, z, rfl, e, p⟩ := h
  match ds, e with
  | [d], e =>
    obtain ⟨c, rfl⟩ := ite_some' e
    show m_is_whole (ends P R) (env0 [.dat d] 1) n
    unfold m_is_whole
    cases d <;> first
      | (cases c; done)
      | (walk_at "ev"; exact p)
def N_is_within : List Str := ["value", "least", "most"]
def m_is_within : MS := (mRet (mAndV (mCall g_is_whole 1 (mCons (mVar 0) mNil)) (mChain fLe fLe (mVarQ 1) (mVarQ 0) (mVarQ 2))))
theorem pr_is_within (as n P R) (hl : as.length = 3) (h : g_is_within as n P R) : m_is_within (ends P R) (env0 as N_is_within.length) n := by
  obtain ⟨ds, z, rfl, e, p⟩ := h
  match ds, e with
  | [d, .int lo, .int hi], e =>
    obtain ⟨c, rfl⟩ := ite_some' e
    show m_is_within (ends P R) (env0 [.dat d, .dat (.int lo), .dat (.int hi)] 3) n
    unfold m_is_within
    walk_at "ev"
    refine gF1 [d] _ rfl (if_pos c) ⟨_, rfl, ?_⟩
    cases d with
    | int i =>
      simp only [isI, if_true]
      walk_at "ev"
      have q := p
      unfold within at q
      by_cases h1 : lo ≤ i
      · rw [if_pos h1]
        simpa [h1] using q
      · rw [if_neg h1]
        simpa [h1] using q
    | _ => simpa [isI, within] using p
def N_is_time : List Str := ["value"]
def m_is_time : MS := (mRet (mCall g_is_within 3 (mCons (mVar 0) (mCons (m1 fNeg (mC (.int (1000000000000000000000000000000)))) (mCons (mC (.int (1000000000000000000000000000000))) mNil)))))
theorem pr_is_time (as n P R) (hl : as.length = 1) (h : g_is_time as n P R) : m_is_time (ends P R) (env0 as N_is_time.length) n := by
  obtain ⟨ds, z, rfl, e, p⟩ := h
  match ds, e with
  | [d], e =>
    obtain ⟨c, rfl⟩ := ite_some' e
    show m_is_time (ends P R) (env0 [.dat d] 1) n
    unfold m_is_time
    walk_at "ev"
    exact gF1 [d, .int (-big), .int big] _ rfl (if_pos c) p
/-! a comprehension without effects -/
theorem comp_pure {gd : GD} {tt : MT} {te : M} {ρ : Env} {P : List D → Nat → Prop} {n : Nat} (keep : D → Bool) (f : D → D) : ∀ (ds acc : List D), (∀ d ∈ ds, ∃ ρ1, gd d ρ = some ρ1 ∧ ∀ (Q : Bool → Nat → Prop), Q (keep d) n → tt ρ1 n Q nvr) →
    (∀ d ∈ ds, ∀ ρ1, gd d ρ = some ρ1 → keep d = true → ∀ (Q : PD), Q (f d) n → te ρ1 n Q nvr) → acc.length + ds.length ≤ sizeLine → P (acc ++ (ds.filter keep).map f) n → compW gd tt te ρ P ds acc n
  | [], acc, _, _, _, p => by simpa [compW] using p
  | d :: ds, acc, h1, h2, hl, p => by
    obtain ⟨ρ1, e, q⟩ := h1 d List.mem_cons_self
    refine ⟨ρ1, e, q _ ?_⟩
    cases hk : keep d with
    | true =>
      rw [if_pos rfl]
      refine h2 d List.mem_cons_self ρ1 e hk _ ⟨?_, ?_⟩
      · rw [List.length_cons] at hl; omega
      · refine comp_pure keep f ds _ (fun d hd => h1 d (List.mem_cons_of_mem _ hd)) (fun d hd => h2 d (List.mem_cons_of_mem _ hd)) (by rw [List.length_append, List.length_cons, List.length_nil]; rw [List.length_cons] at hl; omega) ?_
        rw [List.filter_cons, hk] at p
        simpa using p
    | false =>
      rw [if_neg Bool.false_ne_true]
      refine comp_pure keep f ds acc (fun d hd => h1 d (List.mem_cons_of_mem _ hd)) (fun d hd => h2 d (List.mem_cons_of_mem _ hd)) (by rw [List.length_cons] at hl; omega) ?_
      rw [List.filter_cons, hk] at p
      simpa using p
def sgn : D → Bool
  | .str x => x.cps.toList.all letter
  | _ => false
def N_is_name : List Str := ["value", "letter"]
def m_is_name : MS := (mSeq (mIfS (mOr (mNot (mT (mIs "str" (mVarQ 0)))) (mNot (mT (mChain fLe fLe (mC (.int 1)) (m1 fLen (mVarQ 0)) (mC (.int (8))))))) (mRet (mC (.bool false))) mNext)
    (mRet (m1 fAll (mL (mComp (mSigns (mVar 0)) (gdName 1) [1] mYes (mChain fLeS fLeS (mC (.str "a")) (mVarQ 1) (mC (.str "z"))))))))
theorem sign_le (c : Nat) : (!decide (([c] : List Nat) < ("a" : Str).cps.toList)) = decide (97 ≤ c) := by
  have e : ("a" : Str).cps.toList = [97] := by decide +kernel
  rw [e]
  by_cases h : 97 ≤ c
  · have : ¬ ([c] : List Nat) < [97] := by
      intro q
      cases q with
      | rel h => omega
      | cons h => cases h
    rw [decide_eq_false this, decide_eq_true h]; rfl
  · have : ([c] : List Nat) < [97] := .rel (by omega)
    rw [decide_eq_true this, decide_eq_false h]; rfl
theorem le_sign (c : Nat) : (!decide (("z" : Str).cps.toList < ([c] : List Nat))) = decide (c ≤ 122) := by
  have e : ("z" : Str).cps.toList = [122] := by decide +kernel
  rw [e]
  by_cases h : c ≤ 122
  · have : ¬ [122] < ([c] : List Nat) := by
      intro q
      cases q with
      | rel h => omega
      | cons h => cases h
    rw [decide_eq_false this, decide_eq_true h]; rfl
  · have : [122] < ([c] : List Nat) := .rel (by omega)
    rw [decide_eq_true this, decide_eq_false h]; rfl
theorem bools_map (f : Nat → Bool) : ∀ l : List Nat, bools (l.map fun c => PyData.bool (f c)) = some (l.map f)
  | [] => rfl
  | c :: l => by
    show (bools (l.map fun c => PyData.bool (f c))).map (f c :: ·) = _
    rw [bools_map f l]; rfl
theorem pr_is_name (as n P R) (hl : as.length = 1) (h : g_is_name as n P R) : m_is_name (ends P R) (env0 as N_is_name.length) n := by
  obtain ⟨ds, z, rfl, e, p⟩ := h
  match ds, e with
  | [d], e =>
    obtain ⟨c, rfl⟩ := ite_some' e
    show m_is_name (ends P R) (env0 [.dat d] 2) n
    unfold m_is_name
    cases d with
    | str s =>
      have hs : s.length ≤ sizeLine := of_decide_eq_true c
      walk_at "ev"
      refine ⟨hs, ?_⟩
      have lenI : ((s.length : Nat) : Int) ≤ 8 ↔ s.length ≤ 8 := by omega
      by_cases h1 : 1 ≤ (s.length : Int)
      · rw [if_pos h1]
        by_cases h2 : (s.length : Int) ≤ 8
        · rw [if_neg (by simp [h2])]
          unfold mComp mSigns
          walk_at "ev"
          refine comp_pure (fun _ => true) (fun d => .bool (sgn d)) _ _ (fun d _ => ⟨_, rfl, fun Q q => q⟩) (fun d hd ρ1 e _ Q q => ?_) ?_ ?_
          · unfold signs at hd
            obtain ⟨c, _, rfl⟩ := List.mem_map.mp hd
            cases e
            walk_at "ev"
            have e1 : fLeS (.str "a") (.str ⟨#[c]⟩) = some (.bool (decide (97 ≤ c))) := by
              show some (PyData.bool (!decide (([c] : List Nat) < ("a" : Str).cps.toList))) = _
              rw [sign_le]
            have e2 : fLeS (.str ⟨#[c]⟩) (.str "z") = some (.bool (decide (c ≤ 122))) := by
              show some (PyData.bool (!decide (("z" : Str).cps.toList < ([c] : List Nat)))) = _
              rw [le_sign]
            refine ⟨_, e1, ?_⟩
            have q' : Q (.bool (decide (97 ≤ c) && decide (c ≤ 122))) n := by simpa [sgn, letter] using q
            by_cases h3 : 97 ≤ c
            · rw [if_pos (decide_eq_true h3)]
              exact ⟨_, e2, by simpa [h3] using q'⟩
            · rw [if_neg (by simpa using h3)]
              simpa [h3] using q'
          · simp only [List.length_nil, signs, List.length_map, Array.length_toList]
            have : s.cps.size = s.length := rfl
            omega
          · have e3 : (List.filter (fun _ => true) (signs s)).map (fun d => PyData.bool (sgn d)) = s.cps.toList.map fun c => PyData.bool (letter c) := by
              rw [List.filter_eq_self.mpr (fun _ _ => rfl)]
              unfold signs
              rw [List.map_map]
              apply List.map_congr_left
              intro c _
              simp [sgn]
            show ∃ z, fAll (.list ([] ++ _)) = some z ∧ P z n
            rw [List.nil_append, e3]
            refine ⟨.bool (s.cps.toList.all letter), ?_, ?_⟩
            · show (bools _).map _ = _
              rw [bools_map]
              simp [List.all_map]
            · have h3 : 1 ≤ s.length := by omega
              have h4 : s.length ≤ 8 := by omega
              simpa [isName, h3, h4] using p
        · rw [if_pos (by simp [h2])]
          have h4 : ¬ s.length ≤ 8 := by omega
          simpa [isName, h4] using p
      · rw [if_neg h1]
        have h3 : ¬ 1 ≤ s.length := by omega
        simpa [isName, h3] using p
    | dict _ => cases c
    | _ =>
      walk_at "ev"
      exact p
/-! ### grant_error -/
mutual
/-- no object of an own class, no text too long, at any depth -/
def sane : D → Bool
  | .dict _ => false
  | .str s => decide (s.length ≤ sizeLine)
  | .list l => saneAll l
  | .tuple l => saneAll l
  | .none | .bool _ | .int _ => true
def saneAll : List D → Bool
  | [] => true
  | x :: r => sane x && saneAll r
end
theorem sane_pl {d : D} (h : sane d = true) : pl d = true := by
  cases d <;> first
    | rfl
    | (simpa [sane, pl] using h)
def okG (x : D) : Bool := match x with
  | .tuple [t, g, k, l, p] => within t (-big) big && isName g && isName k && !PyData.eqv g k && within l 1 9 && within p 0 20
  | _ => false
def gerr (x : D) : D := match x with
  | .tuple [t, g, k, l, p] =>
    if within t (-big) big = false then .tuple [.str "time"] else
    if isName g = false then .tuple [.str "giver"] else
    if isName k = false then .tuple [.str "taker"] else
    if PyData.eqv g k = true then .tuple [.str "same"] else
    if within l 1 9 = false then .tuple [.str "level"] else
    if within p 0 20 = false then .tuple [.str "passes"] else .none
  | _ => .tuple [.str "grant"]
theorem gerr5 (t g k l q : D) : gerr (.tuple [t, g, k, l, q]) = if within t (-big) big = false then .tuple [.str "time"] else
    if isName g = false then .tuple [.str "giver"] else
    if isName k = false then .tuple [.str "taker"] else
    if PyData.eqv g k = true then .tuple [.str "same"] else
    if within l 1 9 = false then .tuple [.str "level"] else
    if within q 0 20 = false then .tuple [.str "passes"] else .none := rfl
def f_gerr : List D → Option D
  | [d] => if sane d = true then some (gerr d) else none
  | _ => none
abbrev g_grant_error : G := gF f_gerr
def N_grant_error : List Str := ["value", "time", "giver", "taker", "level", "passes"]
def m_grant_error : MS := (mSeq (mIfS (mOr (mNot (mT (mIs "tuple" (mVarQ 0)))) (mT (m2 (fEq true) (m1 fLen (mVarQ 0)) (mC (.int (5)))))) (mRet (mTup (mCons (mC (.str "grant")) mNil))) mNext)
    (mSeq (mSet (mVar 0) (gdTup [1, 2, 3, 4, 5]))
    (mSeq (mIfS (mNot (mT (mCall g_is_time 1 (mCons (mVar 1) mNil)))) (mRet (mTup (mCons (mC (.str "time")) mNil))) mNext)
    (mSeq (mIfS (mNot (mT (mCall g_is_name 1 (mCons (mVar 2) mNil)))) (mRet (mTup (mCons (mC (.str "giver")) mNil))) mNext)
    (mSeq (mIfS (mNot (mT (mCall g_is_name 1 (mCons (mVar 3) mNil)))) (mRet (mTup (mCons (mC (.str "taker")) mNil))) mNext)
    (mSeq (mIfS (mT (m2 (fEq false) (mVarQ 2) (mVarQ 3))) (mRet (mTup (mCons (mC (.str "same")) mNil))) mNext)
    (mSeq (mIfS (mNot (mT (mCall g_is_within 3 (mCons (mVar 4) (mCons (mC (.int (1))) (mCons (mC (.int (9))) mNil)))))) (mRet (mTup (mCons (mC (.str "level")) mNil))) mNext)
    (mSeq (mIfS (mNot (mT (mCall g_is_within 3 (mCons (mVar 5) (mCons (mC (.int 0)) (mCons (mC (.int (20))) mNil)))))) (mRet (mTup (mCons (mC (.str "passes")) mNil))) mNext)
    (mRet (mC .none))))))))))
theorem line1 : (1 : Nat) ≤ sizeLine := by rw [sizeLine_eq]; decide
theorem line2 : (2 : Nat) ≤ sizeLine := by rw [sizeLine_eq]; decide
theorem isName_str {d : D} (h : isName d = true) : ∃ s, d = .str s := by
  cases d <;> first
    | exact ⟨_, rfl⟩
    | cases h
/-- a call of a def without effects in an if -/
theorem gF_at {f : List D → Option D} {ds : List D} {z : D} {n : Nat} {P : PD} {R : PX} (h : f ds = some z) (p : P z n) : gF f (ds.map .dat) n P R := ⟨ds, z, rfl, h, p⟩
theorem pr_grant_error (as n P R) (hl : as.length = 1) (h : g_grant_error as n P R) : m_grant_error (ends P R) (env0 as N_grant_error.length) n := by
  obtain ⟨ds, z, rfl, e, p⟩ := h
  match ds, e with
  | [d], e =>
    obtain ⟨c, rfl⟩ := ite_some' e
    show m_grant_error (ends P R) (env0 [.dat d] 6) n
    unfold m_grant_error
    cases d with
    | tuple l =>
      walk_at "ev"
      match l, c, p with
      | [t, g, k, l, q], c, p =>
        simp only [sane, saneAll, Bool.and_eq_true] at c
        obtain ⟨c1, c2, c3, c4, c5, _⟩ := c
        walk_at "ev"
        rw [if_neg (by decide)]
        refine gF_at (ds := [t]) (if_pos (sane_pl c1)) ⟨_, rfl, ?_⟩
        rw [gerr5] at p
        cases h1 : within t (-big) big with
        | false => rw [if_pos h1] at p; exact ⟨line1, p⟩
        | true =>
        rw [if_neg (by rw [h1]; decide)] at p
        refine iteF ?_
        refine gF_at (ds := [g]) (if_pos (sane_pl c2)) ⟨_, rfl, ?_⟩
        cases h2 : isName g with
        | false => rw [if_pos h2] at p; exact ⟨line1, p⟩
        | true =>
        rw [if_neg (by rw [h2]; decide)] at p
        refine iteF ?_
        refine gF_at (ds := [k]) (if_pos (sane_pl c3)) ⟨_, rfl, ?_⟩
        cases h3 : isName k with
        | false => rw [if_pos h3] at p; exact ⟨line1, p⟩
        | true =>
        rw [if_neg (by rw [h3]; decide)] at p
        refine iteF ?_
        obtain ⟨x, rfl⟩ := isName_str h2
        obtain ⟨y, rfl⟩ := isName_str h3
        refine ⟨_, eq_strs _ _ _, _, rfl, ?_⟩
        have ev : PyData.eqv (.str x) (.str y) = (x == y) := by simp [PyData.eqv]
        rw [ev] at p
        cases h4 : x == y with
        | true => rw [if_pos h4] at p; exact ⟨line1, p⟩
        | false =>
        rw [if_neg (by rw [h4]; decide)] at p
        refine iteF ?_
        refine gF_at (ds := [l, .int 1, .int 9]) (if_pos (sane_pl c4)) ⟨_, rfl, ?_⟩
        cases h5 : within l 1 9 with
        | false => rw [if_pos h5] at p; exact ⟨line1, p⟩
        | true =>
        rw [if_neg (by rw [h5]; decide)] at p
        refine iteF ?_
        refine gF_at (ds := [q, .int 0, .int 20]) (if_pos (sane_pl c5)) ⟨_, rfl, ?_⟩
        cases h6 : within q 0 20 with
        | false => rw [if_pos h6] at p; exact ⟨line1, p⟩
        | true =>
        rw [if_neg (by rw [h6]; decide)] at p
        refine iteF ?_
        exact p
      | [], c, p => exact ⟨line1, p⟩
      | [_], c, p => exact ⟨line1, p⟩
      | [_, _], c, p => exact ⟨line1, p⟩
      | [_, _, _], c, p => exact ⟨line1, p⟩
      | [_, _, _, _], c, p => exact ⟨line1, p⟩
      | _ :: _ :: _ :: _ :: _ :: _ :: r, c, p =>
        rw [if_pos (by simp; omega)]
        exact ⟨line1, p⟩
    | dict _ => cases c
    | _ =>
      walk_at "ev"
      exact ⟨line1, p⟩
end DS

/-! P2: backs, supports (of grants), the law's draws. -/
namespace DS
open PySem L2
local macro_rules | `(tactic| walk_at "ev") => `(tactic| simp only [mSeq, mRet, mVar, mVarQ, slD, mC, m1, m2, mT, mNot, mAnd, mOr, mAndV, mOrV, mNotV, mIf, mChain, mNil, mCons, mSrc, mTup, mLst, mCall, mIx, mL, mIs, mIfS, mNext, mSet, mOwn, mRetO, mRetN, mExp, mPar, mNev, datAll, gdName, gdTup, setAll, fI, fIc, fNeg, fLen, fInt, fAbs, fIsN, env0, wipeR,
  is_int_NoneType, is_int_bool, is_int_int, is_int_str, is_int_list, is_int_tuple, is_bool_NoneType, is_bool_bool, is_bool_int, is_bool_str, is_bool_list, is_bool_tuple, is_str_NoneType, is_str_bool, is_str_int, is_str_str, is_str_list, is_str_tuple, is_tuple_NoneType, is_tuple_bool, is_tuple_int, is_tuple_str, is_tuple_list, is_tuple_tuple, is_list_NoneType, is_list_bool, is_list_int, is_list_str, is_list_list, is_list_tuple,
  List.map, List.length_cons, List.length_nil, List.getElem?_cons_zero, List.getElem?_cons_succ, List.set_cons_zero, List.set_cons_succ, List.replicate, List.append_assoc, List.cons_append, List.nil_append, Option.map_some, Option.some.injEq, Sl.dat.injEq, Sl.own.injEq, exists_eq_left', exists_eq_left, exists_and_left, exists_and_right, true_and, and_true, Bool.true_eq_false, if_true, if_false, reduceIte, Bool.false_eq_true, Bool.not_true, Bool.not_false, PyData.bool.injEq, PyData.int.injEq, PyData.str.injEq, PyData.tuple.injEq, PyData.list.injEq, Nat.reduceAdd, Nat.reduceSub, Option.map_none, decide_eq_true_eq, ex_if, eq_ints, eq_strs, eq_bools, ix0, ix1, ix2, ix3, ix4, lx0, lx1, lx2, lx3])
structure Gr where
  t : Int
  g : Str
  k : Str
  l : Int
  p : Int
def enc (a : Gr) : D := .tuple [.int a.t, .str a.g, .str a.k, .int a.l, .int a.p]
def dec : D → Option Gr
  | .tuple [.int t, .str g, .str k, .int l, .int p] => some ⟨t, g, k, l, p⟩
  | _ => none
theorem dec_enc (a : Gr) : dec (enc a) = some a := rfl
theorem enc_of {d : D} {a : Gr} (h : dec d = some a) : d = enc a := by
  unfold dec at h
  split at h
  · cases h; rfl
  · cases h
def nameOk (s : Str) : Bool := decide (1 ≤ s.length) && decide (s.length ≤ 8) && s.cps.toList.all letter
def okGr (a : Gr) : Bool := decide (-big ≤ a.t) && decide (a.t ≤ big) && nameOk a.g && nameOk a.k && !(a.g == a.k) && decide (1 ≤ a.l) && decide (a.l ≤ 9) && decide (0 ≤ a.p) && decide (a.p ≤ 20)
def bk (a b : Gr) : Bool := a.k == b.g && (decide (a.t < b.t) && (decide (b.l ≤ a.l) && decide (b.p < a.p)))
theorem line_small {n : Nat} (h : n ≤ 1000) : n ≤ sizeLine := by rw [sizeLine_eq]; omega
theorem okGr_iff {a : Gr} (h : okGr a = true) : (-big ≤ a.t ∧ a.t ≤ big) ∧ nameOk a.g = true ∧ nameOk a.k = true ∧ (a.g == a.k) = false ∧ (1 ≤ a.l ∧ a.l ≤ 9) ∧ 0 ≤ a.p ∧ a.p ≤ 20 := by
  simp only [okGr, Bool.and_eq_true, decide_eq_true_eq, Bool.not_eq_true'] at h
  obtain ⟨⟨⟨⟨⟨⟨⟨⟨h1, h2⟩, h3⟩, h4⟩, h5⟩, h6⟩, h7⟩, h8⟩, h9⟩ := h
  exact ⟨⟨h1, h2⟩, h3, h4, h5, ⟨h6, h7⟩, h8, h9⟩
theorem nameOk_len {s : Str} (h : nameOk s = true) : s.length ≤ 8 := by
  simp only [nameOk, Bool.and_eq_true, decide_eq_true_eq] at h
  exact h.1.2
theorem sane_enc {a : Gr} (h : okGr a = true) : sane (enc a) = true := by
  obtain ⟨_, h1, h2, _⟩ := okGr_iff h
  have e1 := line_small (Nat.le_trans (nameOk_len h1) (by decide))
  have e2 := line_small (Nat.le_trans (nameOk_len h2) (by decide))
  simp [enc, sane, saneAll, e1, e2]
theorem gerr_enc {a : Gr} (h : okGr a = true) : gerr (enc a) = .none := by
  obtain ⟨⟨h0, h0'⟩, h1, h2, h3, ⟨h4, h4'⟩, h5, h5'⟩ := okGr_iff h
  have a1 : within (.int a.t) (-big) big = true := by simp [within, h0, h0']
  have a2 : isName (.str a.g) = true := h1
  have a3 : isName (.str a.k) = true := h2
  have a4 : PyData.eqv (.str a.g) (.str a.k) = false := by simp only [PyData.eqv]; exact h3
  have a5 : within (.int a.l) 1 9 = true := by simp [within, h4, h4']
  have a6 : within (.int a.p) 0 20 = true := by simp [within, h5, h5']
  unfold enc
  rw [gerr5, a1, a2, a3, a4, a5, a6]
  rfl
def f_backs : List D → Option D
  | [x, y] => (dec x).bind fun a => (dec y).map fun b => .bool (bk a b)
  | _ => none
abbrev g_backs : G := gF f_backs
def N_backs : List Str := ["first", "second", "earlier", "_", "holder", "high", "many", "later", "giver", "low", "few"]
def m_backs : MS := (mSeq (mSet (mVar 0) (gdTup [2, 3, 4, 5, 6]))
    (mSeq (mSet (mVar 1) (gdTup [7, 8, 3, 9, 10]))
    (mRet (mAndV (m2 (fEq false) (mVarQ 4) (mVarQ 8)) (mAndV (m2 fLt (mVarQ 2) (mVarQ 7)) (mAndV (m2 fGe (mVarQ 5) (mVarQ 9)) (m2 fGt (mVarQ 6) (mVarQ 10))))))))
theorem pr_backs (as n P R) (hl : as.length = 2) (h : g_backs as n P R) : m_backs (ends P R) (env0 as N_backs.length) n := by
  obtain ⟨ds, z, rfl, e, p⟩ := h
  match ds, e with
  | [x, y], e =>
    obtain ⟨a, e1, e2⟩ := Option.bind_eq_some_iff.mp e
    obtain ⟨b, e3, e4⟩ := Option.map_eq_some_iff.mp e2
    subst e4
    have := enc_of e1; subst this
    have := enc_of e3; subst this
    show m_backs (ends P R) (env0 [.dat (enc a), .dat (enc b)] 11) n
    unfold m_backs enc
    walk_at "ev"
    unfold bk at p
    cases h1 : a.k == b.g with
    | false => rw [h1] at p; exact p
    | true =>
      rw [h1] at p
      refine iteT ?_
      by_cases h2 : a.t < b.t
      · rw [if_pos h2]
        by_cases h3 : b.l ≤ a.l
        · rw [if_pos h3]
          simpa [h2, h3] using p
        · rw [if_neg h3]
          simpa [h2, h3] using p
      · rw [if_neg h2]
        simpa [h2] using p
/-- supports of two grants -/
def f_supports : List D → Option D
  | [x, y] => (dec x).bind fun a => (dec y).bind fun b => if okGr a = true ∧ okGr b = true then some (.bool (bk a b)) else none
  | _ => none
abbrev g_supports : G := gF f_supports
def N_supports : List Str := ["first", "second", "value", "reason"]
def m_supports : MS := (mSeq (mFor (mItemsT (mTup (mCons (mVar 0) (mCons (mVar 1) mNil)))) (gdName 2)
      (mSeq (mSet (mCall g_grant_error 1 (mCons (mVar 2) mNil)) (gdName 3))
    (mIfS (mT (m2 (fIsN true) (mVarQ 3) (mC .none))) mNev mNext)))
    (mRet (mCall g_backs 2 (mCons (mVar 0) (mCons (mVar 1) mNil)))))
theorem pr_supports (as n P R) (hl : as.length = 2) (h : g_supports as n P R) : m_supports (ends P R) (env0 as N_supports.length) n := by
  obtain ⟨ds, z, rfl, e, p⟩ := h
  match ds, e with
  | [x, y], e =>
    obtain ⟨a, e1, e2⟩ := Option.bind_eq_some_iff.mp e
    obtain ⟨b, e3, e4⟩ := Option.bind_eq_some_iff.mp e2
    obtain ⟨⟨ha, hb⟩, rfl⟩ := ite_some' e4
    have := enc_of e1; subst this
    have := enc_of e3; subst this
    show m_supports (ends P R) (env0 [.dat (enc a), .dat (enc b)] 4) n
    unfold m_supports mFor mItemsT
    walk_at "ev"
    refine ⟨line2, _, rfl, ?_⟩
    refine ⟨_, rfl, ?_⟩
    walk_at "ev"
    refine gF_at (ds := [enc a]) (if_pos (sane_enc ha)) ?_
    rw [gerr_enc ha]
    walk_at "ev"
    refine ⟨_, rfl, ?_⟩
    walk_at "ev"
    refine gF_at (ds := [enc b]) (if_pos (sane_enc hb)) ?_
    rw [gerr_enc hb]
    walk_at "ev"
    exact ⟨_, rfl, _, rfl, gF_at (ds := [enc a, enc b]) rfl p⟩
/-! ### the law's draws -/
/-- a draw below the limit -/
def g_law_draw : G := fun as n P _ => ∃ lim : Int, as = [.src, .dat (.int lim)] ∧ 1 ≤ lim ∧ lim < 2 ^ 200 ∧ 0 < n ∧ ∀ k, 0 ≤ k → k < lim → P (.int k) (n - 1)
/-- one of the values -/
def g_law_pick : G := fun as n P _ => ∃ ds, as = [.src, .dat (.list ds)] ∧ 0 < ds.length ∧ ds.length ≤ sizeLine ∧ 0 < n ∧ ∀ d ∈ ds, P d (n - 1)
def N_law_pick : List Str := ["source", "values"]
def m_law_pick : MS := (mRet (mIx (mVarQ 1) (mCall g_law_draw 2 (mSrc 0 (mCons (m1 fLen (mVarQ 1)) mNil)))))
theorem line_200 {n : Nat} (h : n ≤ sizeLine) : (n : Int) < 2 ^ 200 := by
  rw [sizeLine_eq] at h
  have : (16777216 : Int) < 2 ^ 200 := by decide
  omega
theorem atI_in {ds : List D} {k : Int} (h0 : 0 ≤ k) (h1 : k < ds.length) : ∃ d, atI ds k = some d ∧ d ∈ ds := by
  have hk : k.toNat < ds.length := by omega
  refine ⟨ds[k.toNat], ?_, List.getElem_mem hk⟩
  unfold atI ixN
  rw [if_pos h0, if_pos h1]
  exact List.getElem?_eq_getElem hk
theorem pr_law_pick (as n P R) (hl : as.length = 2) (h : g_law_pick as n P R) : m_law_pick (ends P R) (env0 as N_law_pick.length) n := by
  obtain ⟨ds, rfl, h1, h2, h3, p⟩ := h
  show m_law_pick (ends P R) (env0 [.src, .dat (.list ds)] 2) n
  unfold m_law_pick
  walk_at "ev"
  refine ⟨_, rfl, by omega, line_200 h2, h3, fun k k0 k1 => ?_⟩
  obtain ⟨d, e, m⟩ := atI_in k0 k1
  exact ⟨d, e, p d m⟩
/-- some order of the values -/
def g_law_shuffle : G := fun as n P _ => ∃ ds, as = [.src, .dat (.list ds)] ∧ ds.length < 10000 ∧ ds.length ≤ n ∧ ∀ es, es.Perm ds → P (.list es) (n - ds.length)
def N_law_shuffle : List Str := ["source", "values", "result", "value"]
def b_law_shuffle_1 : MS := (mIns 2 (mCall g_law_draw 2 (mSrc 0 (mCons (m2 fAdd (m1 fLen (mVarQ 2)) (mC (.int 1))) mNil))) (mVar 3))
def m_law_shuffle : MS := (mSeq (mOwn 2 (mLst mNil))
    (mSeq (mFor (mItems (mVar 1)) (gdName 3) b_law_shuffle_1)
    (mRetO 2)))
theorem ins_perm (xs : List D) (d : D) (k : Nat) : (xs.take k ++ [d] ++ xs.drop k).Perm (d :: xs) := by
  rw [List.append_assoc]
  refine (List.perm_middle (a := d) (l₁ := xs.take k) (l₂ := xs.drop k)).trans ?_
  rw [List.take_append_drop]
theorem t_law_shuffle {De : DEnds} {v d : D} {xs : List D} {n : Nat} (h1 : xs.length < 10000) (h2 : 0 < n) (h : ∀ k : Nat, De.nx [.src, .dat v, .own (xs.take k ++ [d] ++ xs.drop k), .dat d] (n - 1)) : b_law_shuffle_1 De [.src, .dat v, .own xs, .dat d] n := by
  unfold b_law_shuffle_1 mIns
  walk_at "ev"
  refine ⟨_, rfl, by omega, ?_, h2, fun k k0 k1 => ⟨_, rfl, ?_, ⟨k0, ?_⟩, ?_⟩⟩
  · have : (20000 : Int) < 2 ^ 200 := by decide
    omega
  · rw [sizeLine_eq]; omega
  · have : (20000 : Int) < 2 ^ 63 := by decide
    omega
  · simpa using h k.toNat
theorem pr_law_shuffle (as n P R) (hl : as.length = 2) (h : g_law_shuffle as n P R) : m_law_shuffle (ends P R) (env0 as N_law_shuffle.length) n := by
  obtain ⟨ds, rfl, h1, h2, p⟩ := h
  show m_law_shuffle (ends P R) (env0 [.src, .dat (.list ds)] 4) n
  unfold m_law_shuffle mFor mItems
  walk_at "ev"
  refine ⟨Nat.zero_le _, ?_⟩
  have key : ∀ (r xs : List D) (v : Sl) (m : Nat), xs.length + r.length = ds.length → m = n - xs.length → (∀ es : List D, es.Perm (xs ++ r) → es.Perm ds) →
      forW (gdName 3) b_law_shuffle_1 { nx := fun ρ n => ∃ ds, ρ[2]? = some (Sl.own ds) ∧ P (PyData.list ds) n, rt := P, ex := R } r [.src, .dat (.list ds), .own xs, v] m := by
    intro r
    induction r with
    | nil =>
      intro xs v m e1 e2 hp
      rw [List.length_nil] at e1
      refine ⟨xs, rfl, ?_⟩
      rw [e2, show xs.length = ds.length by omega]
      exact p xs (hp xs (by simp))
    | cons d r ih =>
      intro xs v m e1 e2 hp
      rw [List.length_cons] at e1
      refine ⟨_, rfl, t_law_shuffle (by omega) (by omega) fun k => ?_⟩
      have pm := ins_perm xs d k
      have pl := pm.length_eq
      rw [List.length_cons] at pl
      refine ih _ _ _ (by rw [pl]; omega) (by rw [pl]; omega) fun es he => hp es (he.trans ?_)
      refine (pm.append_right r).trans ?_
      show (d :: (xs ++ r)).Perm (xs ++ d :: r)
      exact List.perm_middle.symm
  exact key ds [] .no n (by simp) (by simp) (fun es he => by simpa using he)
end DS

/-! P3: law k02 over data. -/
namespace DS
open PySem L2
local macro_rules | `(tactic| walk_at "ev") => `(tactic| simp only [mSeq, mRet, mVar, mVarQ, slD, mC, m1, m2, mT, mNot, mAnd, mOr, mAndV, mOrV, mNotV, mIf, mChain, mNil, mCons, mSrc, mTup, mLst, mCall, mIx, mL, mIs, mIfS, mNext, mSet, mOwn, mRetO, mRetN, mExp, mPar, mNev, datAll, gdName, gdTup, setAll, fI, fIc, fNeg, fLen, fInt, fAbs, fIsN, env0, wipeR,
  is_int_NoneType, is_int_bool, is_int_int, is_int_str, is_int_list, is_int_tuple, is_bool_NoneType, is_bool_bool, is_bool_int, is_bool_str, is_bool_list, is_bool_tuple, is_str_NoneType, is_str_bool, is_str_int, is_str_str, is_str_list, is_str_tuple, is_tuple_NoneType, is_tuple_bool, is_tuple_int, is_tuple_str, is_tuple_list, is_tuple_tuple, is_list_NoneType, is_list_bool, is_list_int, is_list_str, is_list_list, is_list_tuple,
  List.map, List.length_cons, List.length_nil, List.getElem?_cons_zero, List.getElem?_cons_succ, List.set_cons_zero, List.set_cons_succ, List.replicate, List.append_assoc, List.cons_append, List.nil_append, Option.map_some, Option.some.injEq, Sl.dat.injEq, Sl.own.injEq, exists_eq_left', exists_eq_left, exists_and_left, exists_and_right, true_and, and_true, Bool.true_eq_false, if_true, if_false, reduceIte, Bool.false_eq_true, Bool.not_true, Bool.not_false, PyData.bool.injEq, PyData.int.injEq, PyData.str.injEq, PyData.tuple.injEq, PyData.list.injEq, Nat.reduceAdd, Nat.reduceSub, Option.map_none, decide_eq_true_eq, ex_if, eq_ints, eq_strs, eq_bools, ix0, ix1, ix2, ix3, ix4, lx0, lx1, lx2, lx3])
abbrev g_law_is_support : G := gF f_backs
def N_law_is_support : List Str := ["first", "second"]
def m_law_is_support : MS := (mSeq (mIfS (mOr (mT (m2 (fEq true) (mIx (mVarQ 0) (mC (.int 2))) (mIx (mVarQ 1) (mC (.int 1))))) (mT (m2 fGe (mIx (mVarQ 0) (mC (.int 0))) (mIx (mVarQ 1) (mC (.int 0)))))) (mRet (mC (.bool false))) mNext)
    (mRet (mAndV (m2 fGe (mIx (mVarQ 0) (mC (.int 3))) (mIx (mVarQ 1) (mC (.int 3)))) (m2 fGt (mIx (mVarQ 0) (mC (.int 4))) (mIx (mVarQ 1) (mC (.int 4)))))))
theorem pr_law_is_support (as n P R) (hl : as.length = 2) (h : g_law_is_support as n P R) : m_law_is_support (ends P R) (env0 as N_law_is_support.length) n := by
  obtain ⟨ds, z, rfl, e, p⟩ := h
  match ds, e with
  | [x, y], e =>
    obtain ⟨a, e1, e2⟩ := Option.bind_eq_some_iff.mp e
    obtain ⟨b, e3, e4⟩ := Option.map_eq_some_iff.mp e2
    subst e4
    have := enc_of e1; subst this
    have := enc_of e3; subst this
    show m_law_is_support (ends P R) (env0 [.dat (enc a), .dat (enc b)] 2) n
    unfold m_law_is_support enc
    walk_at "ev"
    unfold bk at p
    cases h1 : a.k == b.g with
    | false => rw [h1] at p; exact p
    | true =>
      rw [h1] at p
      by_cases h2 : a.t < b.t
      · have h2' : ¬ b.t ≤ a.t := by omega
        rw [if_neg (by simp)]
        rw [if_neg h2']
        by_cases h3 : b.l ≤ a.l
        · rw [if_pos h3]
          simpa [h2, h3] using p
        · rw [if_neg h3]
          simpa [h2, h3] using p
      · have h2' : b.t ≤ a.t := by omega
        rw [if_neg (by simp), if_pos h2']
        simpa [h2] using p
def g_law_near : G := fun as n P _ => ∃ a, as = [.src, .dat (enc a)] ∧ okGr a = true ∧ 5 ≤ n ∧ ∀ b, okGr b = true → P (enc b) (n - 5)
def N_law_near : List Str := ["source", "grant", "time", "giver", "taker", "level", "passes", "others", "name", "other"]
def m_law_near : MS := (mSeq (mSet (mVar 1) (gdTup [2, 3, 4, 5, 6]))
    (mSeq (mSet (mL (mLst (mCons (mC (.str "d")) (mCons (mC (.str "dd")) (mCons (mC (.str "da")) (mCons (mC (.str "ad")) mNil)))))) (gdName 7))
    (mSeq (mSet (m2 fMax (m2 fSub (mC (.int 0)) (m2 fPow (mC (.int 10)) (mC (.int 30)))) (m2 fMin (m2 fPow (mC (.int 10)) (mC (.int 30))) (m2 fSub (m2 fAdd (mVarQ 2) (mCall g_law_draw 2 (mSrc 0 (mCons (mC (.int 3)) mNil)))) (mC (.int 1))))) (gdName 2))
    (mSeq (mSet (m2 fMax (mC (.int 1)) (m2 fMin (mC (.int 9)) (m2 fSub (m2 fAdd (mVarQ 5) (mCall g_law_draw 2 (mSrc 0 (mCons (mC (.int 3)) mNil)))) (mC (.int 1))))) (gdName 5))
    (mSeq (mSet (m2 fMax (mC (.int 0)) (m2 fMin (mC (.int 20)) (m2 fSub (m2 fAdd (mVarQ 6) (mCall g_law_draw 2 (mSrc 0 (mCons (mC (.int 3)) mNil)))) (mC (.int 1))))) (gdName 6))
    (mSeq (mSet (mCall g_law_pick 2 (mSrc 0 (mCons (mL (mComp (mItems (mVarQ 7)) (gdName 9) [9] (mT (m2 (fEq true) (mVarQ 9) (mVarQ 4))) (mVar 9))) mNil))) (gdName 8))
    (mSeq (mIfS (mT (m2 (fEq false) (mCall g_law_draw 2 (mSrc 0 (mCons (mC (.int 5)) mNil))) (mC (.int 0)))) (mRet (mTup (mCons (mVar 2) (mCons (mVar 8) (mCons (mVar 4) (mCons (mVar 5) (mCons (mVar 6) mNil))))))) mNext)
    (mRet (mTup (mCons (mVar 2) (mCons (mVar 4) (mCons (mVar 8) (mCons (mVar 5) (mCons (mVar 6) mNil))))))))))))))
theorem clamp_lo (lo hi x : Int) : lo ≤ (if (if x < hi then x else hi) > lo then (if x < hi then x else hi) else lo) := by
  by_cases h : (if x < hi then x else hi) > lo
  · rw [if_pos h]; omega
  · rw [if_neg h]; exact Int.le_refl _
theorem clamp_hi (lo hi x : Int) (hl : lo ≤ hi) : (if (if x < hi then x else hi) > lo then (if x < hi then x else hi) else lo) ≤ hi := by
  by_cases h : (if x < hi then x else hi) > lo
  · rw [if_pos h]
    by_cases g : x < hi
    · rw [if_pos g]; omega
    · rw [if_neg g]; exact Int.le_refl _
  · rw [if_neg h]; exact hl
theorem pow30 : (10 : Int) ^ (30 : Int).toNat = big := by decide +kernel
theorem draw_at {lim : Int} {n : Nat} {P : PD} {R : PX} (h1 : 1 ≤ lim) (h2 : lim < 2 ^ 200) (h3 : 0 < n) (h : ∀ k, 0 ≤ k → k < lim → P (.int k) (n - 1)) : g_law_draw [.src, .dat (.int lim)] n P R := ⟨lim, rfl, h1, h2, h3, h⟩
theorem pr_law_near (as n P R) (hl : as.length = 2) (h : g_law_near as n P R) : m_law_near (ends P R) (env0 as N_law_near.length) n := by
  obtain ⟨a, rfl, ha, hn, p⟩ := h
  obtain ⟨⟨h0, h0'⟩, h1, h2, h3, ⟨h4, h4'⟩, h5, h5'⟩ := okGr_iff ha
  show m_law_near (ends P R) (env0 [.src, .dat (enc a)] 10) n
  unfold m_law_near enc
  walk_at "ev"
  refine ⟨line_small (by decide), ?_⟩
  refine ⟨by decide, by decide, draw_at (by decide) (by decide) (by omega) fun k1 k1l k1h => ⟨_, rfl, _, rfl, _, rfl, _, rfl, ?_⟩⟩
  refine draw_at (by decide) (by decide) (by omega) fun k2 k2l k2h => ⟨_, rfl, _, rfl, _, rfl, _, rfl, ?_⟩
  refine draw_at (by decide) (by decide) (by omega) fun k3 k3l k3h => ⟨_, rfl, _, rfl, _, rfl, _, rfl, ?_⟩
  unfold mComp mItems
  walk_at "ev"
  refine comp_pure (fun d => !PyData.eqv d (.str a.k)) id _ _ (fun d hd => ⟨_, rfl, fun Q q => ?_⟩) (fun d hd ρ1 e _ Q q => ?_) ?_ ?_
  · obtain ⟨s, rfl⟩ : ∃ s : Str, d = .str s := by
      simp only [List.mem_cons, List.not_mem_nil, or_false] at hd
      rcases hd with rfl | rfl | rfl | rfl <;> exact ⟨_, rfl⟩
    walk_at "ev"
    have q' : Q (!(s == a.k)) (n - 1 - 1 - 1) := by simpa [PyData.eqv] using q
    exact q'
  · cases e
    walk_at "ev"
    exact q
  · simp only [List.length_cons, List.length_nil]
    rw [sizeLine_eq]; decide
  · refine ⟨_, rfl, ?_, ?_, by omega, fun d hd => ?_⟩
    · rw [List.nil_append, List.map_id]
      refine List.length_pos_iff.mpr fun z => ?_
      have e1 := List.filter_eq_nil_iff.mp z (.str "d") (by simp)
      have e2 := List.filter_eq_nil_iff.mp z (.str "dd") (by simp)
      simp [PyData.eqv] at e1 e2
      rw [← e1] at e2
      exact absurd e2 (by decide +kernel)
    · rw [List.nil_append, List.map_id]
      refine Nat.le_trans (List.length_filter_le _ _) ?_
      simp only [List.length_cons, List.length_nil]
      rw [sizeLine_eq]; decide
    · rw [List.nil_append, List.map_id] at hd
      obtain ⟨hm, hk⟩ := List.mem_filter.mp hd
      obtain ⟨s, rfl, hs⟩ : ∃ s : Str, d = .str s ∧ nameOk s = true := by
        simp only [List.mem_cons, List.not_mem_nil, or_false] at hm
        rcases hm with rfl | rfl | rfl | rfl <;> exact ⟨_, rfl, by decide +kernel⟩
      have hne : (s == a.k) = false := by simpa [PyData.eqv] using hk
      have hne' : (a.k == s) = false := by
        rw [beq_eq_false_iff_ne] at hne ⊢
        exact fun z => hne z.symm
      refine draw_at (by decide) (by decide) (by omega) fun k4 k4l k4h => ?_
      walk_at "ev"
      have fin : ∀ (g k : Str), nameOk g = true → nameOk k = true → (g == k) = false → ∀ (t l q : Int), -big ≤ t → t ≤ big → 1 ≤ l → l ≤ 9 → 0 ≤ q → q ≤ 20 → P (enc ⟨t, g, k, l, q⟩) (n - 1 - 1 - 1 - 1 - 1) := by
        intro g k g1 g2 g3 t l q t1 t2 l1 l2 q1 q2
        have := p ⟨t, g, k, l, q⟩ (by simp [okGr, g1, g2, g3, t1, t2, l1, l2, q1, q2])
        rw [show n - 1 - 1 - 1 - 1 - 1 = n - 5 by omega]
        exact this
      have len5 : (5 : Nat) ≤ sizeLine := line_small (by decide)
      have pb : (0 : Int) ≤ big := by decide
      have b0 : (0 : Int) - big = -big := by omega
      have tl := clamp_lo (0 - big) big (a.t + k1 - 1)
      have th := clamp_hi (0 - big) big (a.t + k1 - 1) (by omega)
      rw [b0] at tl th
      rw [pow30]
      split
      · exact ⟨len5, fin s a.k hs h2 hne _ _ _ (by rw [b0]; exact tl) (by rw [b0]; exact th) (clamp_lo 1 9 _) (clamp_hi 1 9 _ (by decide)) (clamp_lo 0 20 _) (clamp_hi 0 20 _ (by decide))⟩
      · exact ⟨len5, fin a.k s h2 hs hne' _ _ _ (by rw [b0]; exact tl) (by rw [b0]; exact th) (clamp_lo 1 9 _) (clamp_hi 1 9 _ (by decide)) (clamp_lo 0 20 _) (clamp_hi 0 20 _ (by decide))⟩
end DS

/-! R1: how long a repr is. -/
namespace DS
open PySem L2
mutual
def sz : D → Nat
  | .none => 4
  | .bool _ => 5
  | .int _ => 2000
  | .str x => 10 * x.length + 2
  | .list l => 2 + szs l
  | .tuple l => 3 + szs l
  | .dict _ => 0
def szs : List D → Nat
  | [] => 0
  | x :: r => sz x + 2 + szs r
end
mutual
/-- numbers not too long, signs of the usual kind, no dict -/
def shw : D → Bool
  | .none | .bool _ => true
  | .int i => decide (i.natAbs.log2 < 1920)
  | .str x => x.cps.toList.all fun c => decide (c < 16 ^ 8)
  | .list l => shws l
  | .tuple l => shws l
  | .dict _ => false
def shws : List D → Bool
  | [] => true
  | x :: r => shw x && shws r
end
theorem lt_len (ts : List Str) : (listText ts).length ≤ 2 + piled ts := by
  cases ts with
  | nil => exact Nat.le_of_eq rfl
  | cons t r =>
    have h := textFrom_length_pos r 1 (("[" : Str) ++ (if (0 : Nat) > 0 then ", " else "" : String) ++ t) (Nat.succ_pos 0)
    have e : (listText (t :: r)).length = (textFrom 1 (("[" : Str) ++ (if (0 : Nat) > 0 then ", " else "" : String) ++ t) r).length + 1 := by
      show (textFrom 0 "[" (t :: r) ++ "]").length = _
      rw [strLen_append]; rfl
    rw [e, h, strLen_append, strLen_append, piled_cons]
    have e1 : (("[" : String) : Str).length = 1 := rfl
    have e2 : ((if (0 : Nat) > 0 then ", " else "" : String) : Str).length = 0 := rfl
    omega
theorem tt_len (ts : List Str) : (tupleText ts).length ≤ 3 + piled ts := by
  unfold tupleText
  rw [strLen_append, strLen_append]
  have e1 : (("(" : String) : Str).length = 1 := rfl
  have e2 : ((if ts.length == 1 then ",)" else ")" : String) : Str).length ≤ 2 := by
    by_cases h : (ts.length == 1) = true
    · rw [if_pos h]; exact Nat.le_of_eq rfl
    · rw [if_neg h]; decide +kernel
  have e3 : (Str.join ", " ts).length ≤ piled ts := by
    cases ts with
    | nil => exact Nat.le_of_eq rfl
    | cons t r =>
      have := join_length_add (t :: r) (by simp)
      omega
  omega
mutual
theorem shown_len : ∀ d : D, shw d = true → d.showable = true ∧ d.hasDict = false ∧ d.plain = true ∧ d.shown.length ≤ sz d
  | .none, _ => ⟨rfl, rfl, rfl, by simp only [PyData.shown, sz]; decide +kernel⟩
  | .bool b, _ => ⟨rfl, rfl, rfl, by cases b <;> (simp only [PyData.shown, sz]; decide +kernel)⟩
  | .int i, h => by
    have h' : i.natAbs.log2 < 1920 := of_decide_eq_true (by simpa [shw] using h)
    refine ⟨by simpa [PyData.showable] using h', by simp [PyData.hasDict], rfl, ?_⟩
    simp only [PyData.shown, sz]
    have := int_text_length_le (k := 1920) (by decide) h'
    have e : (Str.ofString (toString i)).length = (toString i).length := ofString_length _
    show (Str.ofString (toString i)).length ≤ 2000
    omega
  | .str x, h => by
    refine ⟨by simp [PyData.showable], by simp [PyData.hasDict], rfl, ?_⟩
    simp only [PyData.shown, sz]
    refine StrLaws.reprText_len x fun c hc => ?_
    have h' : x.cps.toList.all (fun c => decide (c < 16 ^ 8)) = true := by simpa [shw] using h
    exact of_decide_eq_true (List.all_eq_true.mp h' c hc)
  | .list l, h => by
    obtain ⟨h1, h2, h3, h4⟩ := showns_len l (by simpa [shw] using h)
    refine ⟨by simpa [PyData.showable] using h1, by simpa [PyData.hasDict] using h2, by simpa [PyData.plain] using h3, ?_⟩
    simp only [PyData.shown, sz]
    have := lt_len (PyData.shownAll l)
    omega
  | .tuple l, h => by
    obtain ⟨h1, h2, h3, h4⟩ := showns_len l (by simpa [shw] using h)
    refine ⟨by simpa [PyData.showable] using h1, by simpa [PyData.hasDict] using h2, by simpa [PyData.plain] using h3, ?_⟩
    simp only [PyData.shown, sz]
    have := tt_len (PyData.shownAll l)
    omega
  | .dict _, h => by simp [shw] at h
theorem showns_len : ∀ l : List D, shws l = true → PyData.showableAll l = true ∧ PyData.hasDictAll l = false ∧ PyData.plainAll l = true ∧ piled (PyData.shownAll l) ≤ szs l
  | [], _ => ⟨rfl, rfl, rfl, by simp [PyData.shownAll, piled, szs]⟩
  | x :: r, h => by
    have h' : shw x = true ∧ shws r = true := by simpa [shws] using h
    obtain ⟨a1, a2, a3, a4⟩ := shown_len x h'.1
    obtain ⟨b1, b2, b3, b4⟩ := showns_len r h'.2
    refine ⟨by simp [PyData.showableAll, a1, b1], by simp [PyData.hasDictAll, a2, b2], by simp [PyData.plainAll, a3, b3], ?_⟩
    simp only [PyData.shownAll, piled_cons, szs]
    omega
end
/-- repr of a list is told -/
theorem repr_l {l : List D} (h : shws l = true) (hd : (PyData.list l).depth ≤ 64) (hz : 2 + szs l ≤ 16000000) : fRepr (.list l) = some (.str (PyData.shown (.list l))) := by
  obtain ⟨a1, a2, a3, a4⟩ := shown_len (.list l) (by simpa [shw] using h)
  have a4' : (PyData.shown (.list l)).length ≤ 2 + szs l := by simpa [sz] using a4
  show (if _ then _ else _) = _
  rw [if_pos ⟨a1, a2, hd, a3, by rw [sizeLine_eq]; omega⟩]
theorem repr_t {l : List D} (h : shws l = true) (hd : (PyData.tuple l).depth ≤ 64) (hz : 3 + szs l ≤ 16000000) : fRepr (.tuple l) = some (.str (PyData.shown (.tuple l))) := by
  obtain ⟨a1, a2, a3, a4⟩ := shown_len (.tuple l) (by simpa [shw] using h)
  have a4' : (PyData.shown (.tuple l)).length ≤ 3 + szs l := by simpa [sz] using a4
  show (if _ then _ else _) = _
  rw [if_pos ⟨a1, a2, hd, a3, by rw [sizeLine_eq]; omega⟩]
end DS

/-! S1: the law's end and what its own def is asked. -/
namespace DS
open PySem L2
/-- the law is handed a list of at most 63 ints; True comes out -/
def spLaw (K : Fg) : Sp := fun vs H Q _ => ∃ (a : Addr) (ns : List Int), vs = [.ref a] ∧ SqL K H a (ns.map V.int) ∧ ns.length ≤ 63 ∧ ∀ H', Q (.bl true) H'
theorem law_end (K : PySem.W.Frag) (H : Hp) (a : Addr) (ns : List Int) (h : ns.length ≤ 63) (hs : SqL K H a (ns.map V.int)) : spLaw K [.ref a] H (fun v _ => v = .bl true) fun _ _ _ => False := ⟨a, ns, rfl, hs, h, fun _ => rfl⟩
/-- _law_source's promise: a new source -/
def spSource (K : Fg) : Sp := fun vs H Q _ => ∃ (a : Addr) (ns : List Int), vs = [.ref a] ∧ SqL K H a (ns.map V.int) ∧ ns.length ≤ 63 ∧
  ∀ (s c : Addr) (H' : Hp), (∀ n : Nat, n ≤ 2 ^ 60 → SrcOk (some (s, c)) H' n) → Q (.ref s) H'
/-- a def where no repr is under way, by its reading over data -/
theorem def_okG {P : Program} {w : World} {K : Fg} {cl : Cl} {mg : Str → Option Value} {base : Heap} {x qual : Str} {st : Stmt} {f : Addr} {fd : FuncData} {N ps : List Str} {k : Nat} {g : G} {m : MS} (F : Fun K x qual st f fd) (S : FnScope N ps (defScope st))
    (hb : ∀ (cdv : Value) (A : Around) (outer : List PySem.Env) (s : Shared) (H B : Hp) (sc : Sc) (E : XK), A.guards = some [] → Room k (A.deeper (PyProof.Rows.envOfC qual (defScope st) s.heap.objs.size f cdv)) →
      DSs (cxOf (L2.CX P w) P w K mg base N qual (defScope st) f cdv A outer s H E) ⟨K, cl, sc, H, B, E⟩ (defBody st) m)
    (hm : ∀ as n P R, as.length = ps.length → g as n P R → m { nx := fun _ n' => P .none n', rt := P, ex := R } (env0 as N.length) n) : FnG P w K mg base (k + 1) f fd ps (spW K cl ps.length g) := by
  refine fng_of F S (fun vs H Q E ⟨sc, B, n, as, Pp, R, _, _, _, pr, hl, _⟩ => by rw [paired_len pr]; exact hl) fun cdv A outer s H vs Q E hgd hr ⟨sc, B, n, as, Pp, R, sub, nos, src, pr, hl, hg, ox, q⟩ => ?_
  refine ⟨_, hb cdv A outer s H B sc E hgd hr, B, env0 as N.length, n, _, ?_, hm as n Pp R hl hg, ?_, ?_, ox, ?_, ?_⟩
  · refine ⟨sub, Same.refl _, fun _ _ => rfl, nos, Ext.refl _ _, src, ?_, ?_⟩
    · unfold L2.start env0
      rw [paired_len pr]
      exact paired_app (ag_sl pr) (paired_rep (.no _) _)
    · intro i j p ds es h1 h2 h3 h4
      exfalso
      unfold env0 at h3
      by_cases hi : i < as.length
      · rw [List.getElem?_append_left hi] at h3
        exact ag_no_own pr i ds h3
      · rw [List.getElem?_append_right (by omega), List.getElem?_replicate] at h3
        split at h3 <;> cases h3
  · intro ρ' n' q' σ' B' H' s' F'
    exact q .none n' q' .non B' H' F'.entry F'.src .non
  · intro d n' q' v B' H' s' k' r
    exact q d n' q' v B' H' s' k' r
  · intro ρ' n' z; exact z.elim
  · intro ρ' n' z; exact z.elim
/-- the rest of a block, with what is fixed found out on the way -/
theorem pss_ex {X : Cx} {K : Fg} {cl : Cl} {sts : List Stmt} {m : MS} {E : XK} (h : ∀ (sc : Sc) (H0 B0 : Hp), DSs X ⟨K, cl, sc, H0, B0, E⟩ sts m) : PSs X sts (fun Z σ H => ∃ sc H0 B0, tS ⟨K, cl, sc, H0, B0, E⟩ m Z σ H) :=
  ⟨fun pins s σ H D I ⟨sc, H0, B0, q⟩ => (h sc H0 B0).run pins s σ H D I q⟩
/-- the law's frame behind the source's making -/
theorem law_frame {K : Fg} {cl : Cl} {E : XK} {H : Hp} {s c : Addr} {v : Option V} {k n : Nat} (h : SrcOk (some (s, c)) H n) : Fr ⟨K, cl, some (s, c), H, fun _ => none, E⟩ (fun _ => none) ([v, some (.ref s)] ++ List.replicate k none) H ([.no, .src] ++ List.replicate k .no) n where
  sub := fun _ _ e => by cases e
  old := Same.refl _
  new := fun _ _ => rfl
  nos := fun _ _ => rfl
  ext := Ext.refl _ _
  src := h
  slo := .cons (.no v) (.cons (.src rfl) (paired_rep (.no _) k))
  dis := fun i j p ds es h1 h2 h3 h4 => by
    exfalso
    match i, h3 with
    | 0, h3 => cases h3
    | 1, h3 => cases h3
    | i + 2, h3 =>
      have h3' : (List.replicate k Sl.no)[i]? = some (.own ds) := by simpa using h3
      rw [List.getElem?_replicate] at h3'
      split at h3' <;> cases h3'
end DS

/-! S2: the making of the source, and a draw. -/
namespace DS
open PySem L2
theorem op_powW {X : Cx} : OpR X (binaryOp .Pow) (rI (fun i j => 0 ≤ j ∧ (Builtin.Int.intBits i : Int) * j ≤ 2 ^ 27) fun i j => .int (i ^ j.toNat)) := opI fun _ _ _ _ _ _ _ hc q => PyProof.Rows.pow_int hc.1 hc.2 q
theorem two_line : (2 : Nat) ≤ sizeLine := by rw [sizeLine_eq]; omega
theorem cut63 {ns : List Int} (h : ns.length ≤ 63) : cutV (ns.map V.int) none (some 63) = ns.map V.int := by
  unfold cutV HT.sIx
  simp only [List.drop_zero, List.length_map]
  rw [List.take_of_length_le]
  simp only [List.length_map]
  have : ¬ ((63 : Int) < 0) := by decide
  rw [if_neg this]
  show ns.length ≤ min 63 ns.length - 0
  omega
theorem dps_ints {K : Fg} {H : Hp} : ∀ ns : List Int, DpAll K H (ns.map V.int) (ns.map PyData.int)
  | [] => .nil
  | n :: r => .cons (.int n) (dps_ints r)
theorem eqv_nil (ms : List Int) : PyData.eqv (.list (ms.map .int)) (.list []) = decide (ms = []) := by
  cases ms <;> simp [PyData.eqv, PyData.eqvAll]
theorem okD_ints (ms : List Int) : okD (.list (ms.map .int)) = true := by
  have h1 : PyData.plainAll (ms.map .int) = true := by
    induction ms with
    | nil => rfl
    | cons x r ih => simpa [PyData.plainAll, PyData.plain] using ih
  have h2 : PyData.depthAll (ms.map .int) ≤ 1 := by
    induction ms with
    | nil => simp [PyData.depthAll]
    | cons x r ih =>
      simp only [List.map_cons, PyData.depthAll, PyData.depth]
      have := ih (by simpa [PyData.plainAll, PyData.plain] using h1)
      omega
  unfold okD
  have h3 : (PyData.list (ms.map .int)).depth = PyData.depthAll (ms.map .int) + 1 := by simp [PyData.depth]
  have h4 : (PyData.list (ms.map .int)).plain = true := by simp only [PyData.plain]; exact h1
  rw [h4, h3]
  exact decide_eq_true (by omega)
theorem big_bits : (Builtin.Int.intBits ((10 : Int) ^ 60) : Int) * 20 ≤ 2 ^ 27 := by decide +kernel
theorem src_end {s c : Addr} {H : Hp} {ms : List Int} (hc : H c = some (.lst (ms.map V.int))) (h0 : ms ≠ []) (h63 : ms.length ≤ 63) (hk : ∀ z ∈ ms, cellOk z) (hs : H s = none) (n : Nat) (hn : n ≤ 2 ^ 60) : SrcOk (some (s, c)) (upd H s (.lst [.ref c, .int 0])) n := by
  have ne : s ≠ c := fun e => by rw [e, hc] at hs; cases hs
  exact ⟨ne, ms, 0, upd_same, by rw [upd_ne (fun q => ne q.symm)]; exact hc, List.length_pos_iff.2 h0, h63, hk, by omega⟩
/-- the cells before i are good -/
def okTo (ms : List Int) (i : Nat) : Prop := ∀ j, j < i → ∀ x, ms[j]? = some x → cellOk x
theorem okTo_next {ms : List Int} {i : Nat} (h : okTo ms i) (hx : ∀ x, ms[i]? = some x → cellOk x) : okTo ms (i + 1) := fun j hj x e => by
  by_cases q : j = i
  · subst q; exact hx x e
  · exact h j (by omega) x e
theorem okTo_set {ms : List Int} {i : Nat} {y : Int} (h : okTo ms i) (hy : cellOk y) : okTo (ms.set i y) (i + 1) := fun j hj x e => by
  by_cases q : j = i
  · subst q
    rw [List.getElem?_set_self'] at e
    cases e2 : ms[j]? with
    | none => rw [e2] at e; cases e
    | some u => rw [e2] at e; simp at e; subst e; exact hy
  · rw [List.getElem?_set_ne (fun z => q z.symm)] at e; exact h j (by omega) x e
theorem ixN_nat {n i : Nat} (h : i < n) : ixN n ((0 : Int) + (i : Int)) = some i := by
  unfold ixN
  rw [if_pos (by omega), if_pos (by omega)]
  congr 1
  omega
theorem atI_nat {ms : List Int} {i : Nat} {x : Int} (h : ms[i]? = some x) : atI (ms.map V.int) ((0 : Int) + (i : Int)) = some (.int x) := by
  have hi : i < ms.length := by
    rcases Nat.lt_or_ge i ms.length with q | q
    · exact q
    · rw [List.getElem?_eq_none q] at h; cases h
  unfold atI
  rw [ixN_nat (by simpa using hi)]
  show (ms.map V.int)[i]? = _
  rw [List.getElem?_map, h]
  rfl
theorem draw_args {K : Fg} {cl : Cl} {sc : Sc} {B : Hp} {vs : List V} {lim : Int} (pr : Paired (AgR K cl sc B) vs [.src, .dat (.int lim)]) : ∃ s c, sc = some (s, c) ∧ vs = [.ref s, .int lim] := by
  cases pr with
  | cons h t =>
    cases h with
    | src e =>
      cases t with
      | cons h2 t2 =>
        cases t2
        cases h2 with
        | dat h3 => cases h3; exact ⟨_, _, e, rfl⟩
theorem if_cases {c : Prop} [Decidable c] {X Y : Prop} (h1 : c → X) (h2 : ¬ c → Y) : if c then X else Y := by
  split
  · exact h1 ‹_›
  · exact h2 ‹_›
theorem atI_z {l : List Int} {k : Int} (h0 : 0 ≤ k) (h1 : k < l.length) : ∃ z, z ∈ l ∧ atI (l.map V.int) k = some (V.int z) := by
  have hk : k.toNat < l.length := by omega
  refine ⟨l[k.toNat], List.getElem_mem hk, ?_⟩
  unfold atI ixN
  rw [if_pos h0, List.length_map, if_pos h1]
  show (l.map V.int)[k.toNat]? = _
  rw [List.getElem?_map, List.getElem?_eq_getElem hk]
  rfl
end DS

/-! EX1: an error of one's own classes whose __init__ hands a text to super().__init__ and keeps one field. -/
namespace DX
open PySem PySem.W PySem.Calls PyProof.Rows PySem.HandSPX
/-- the scope of such an __init__ -/
abbrev sxS (fld : Str) : Scope := { kind := .function, names := [(PySem.Str.ofString "self", .local), (fld, .local), (PySem.Str.ofString "__class__", .free), (PySem.Str.ofString "super", .globalImplicit)], isGenerator := false, isCoroutine := false, more := [] }
/-- what the written part says of such a class at C, of its __init__ at fI -/
structure SxT (K : Frag) (prog : Program) (C fI cda cc : Addr) (fld lit : Str) : Prop where
  cls : ∃ nm q N bs bm sn sub ab col dd k0 k1 k2 k3 k5, K.lookup C = some (excClassObj nm q C N bs bm true sn sub ab col dd k0 k1 k2 k3 k5 "ValueError.__new__") ∧ refsVE bm = true
  ini : ∃ bmB, ExcBaseFacts "ValueError" "ValueError.__new__" "ValueError.__init__" bmB ∧ excInitIn K C bmB "ValueError.__new__" = true
  sup : ks_superIn K C C "__init__" = some (some (.builtin "ValueError.__init__"))
  isV : subIn K (.ref C) (.type "ValueError") = some true
  any : nsIn K cStatics "thirdparty.any" = some none
  mro : mroIn K C (.ref C) = some true
  sa : findIn K (.ref C) "__setattr__" = some (some (.builtin "object.__setattr__"))
  noN : findIn K (.ref C) fld = some none
  cod : ∃ ccl cdd vs ccs file tf, K.lookup cda = some ⟨ccl, cdd, .fields vs, ccs⟩ ∧ vs[2]? = some (.str file tf) ∧ ((prog.main.file : Str) == file) = true
  cel : ∃ cl cld csl, K.lookup cc = some ⟨cl, cld, .cell (some (.ref C)), csl⟩
  fn : ∃ qual oc od ps body doc pm an ct osl a1 a2 j q1 q2 q3 q4 q5 q6 p1 p2 p3 p4, K.lookup fI = some ⟨oc, od, .func (ksFn "__init__" qual ps body (sxS fld) .none .none doc pm an (.ref cda) ct cc), osl⟩ ∧ codeIn K (.ref cda) qual = true ∧
    ps = { posonlyargs := [], args := [{ arg := "self", annotation := none, pos := a1 }, { arg := fld, annotation := none, pos := a2 }], vararg := none, kwonlyargs := [], kw_defaults := [], kwarg := none, defaults := [] } ∧
    (∀ (s : Shared) (x v : Value), BindsTo s (ksFn "__init__" qual ps body (sxS fld) .none .none doc pm an (.ref cda) ct cc) ⟨[x, v], []⟩ [("self", x), (fld, v)]) ∧
    (∀ env : PySem.Env, ∃ pl : Sem Bool, eval (.Call (.Attribute (.Call (.Name "super" q1) [] [] q2) "__init__" q3) [.Constant (.str lit) j q4] [] q5) env = (do
      let ov ← attributeBase (.Call (.Name "super" q1) [] [] q2) "__init__" env (eval (.Call (.Name "super" q1) [] [] q2) env)
      standAt q3.atName
      let (f, first) ← holding [ov] (getMethod ov "__init__" pl)
      callWith q5 f first (backTo q5 (starEach [.Constant (.str lit) j q4] env)) [])) ∧
    body = [.Expr (.Call (.Attribute (.Call (.Name "super" q1) [] [] q2) "__init__" q3) [.Constant (.str lit) j q4] [] q5) q6, .Assign [.Attribute (.Name "self" p1) fld p2] (.Name fld p3) p4]
  fne : (fld == ("self" : Str)) = false
  fns : (("super" : Str) == fld) = false
  fnc : (("__class__" : Str) == fld) = false
  nfd : (("self" : Str) == fld) = false
  fnd : (fld == ("__debug__" : Str)) = false
  top : (prog.main.scope.names.lookup ("super" : Str)).isSome = false

/-- what __init__ leaves of a fresh error at x: its dict at dx holds the field -/
structure SxEnd (h h' : Heap) (x C dx t1 : Addr) (fld : Str) (v : Value) : Prop where
  keep : ∀ b o, b ≠ x → h.get? b = some o → h'.get? b = some o
  obj : h'.get? x = some { cls := .ref C, dict := some dx, data := .fields #[.ref t1, .none, .none, .none, .bool false, .none] }
  dbig : h.objs.size ≤ dx
  dne : dx ≠ x
  ns : h'.Ns1 dx (fun y => if y = fld then some v else none)
theorem one_fits {α : Type} {v : α} : [v].length ≤ sizeLine := by rw [sizeLine_eq]; exact (by decide : 1 ≤ 16777216)
section
variable {prog : Program} {w : World} {A : Around} {R : Result → Shared → Prop} {s : Shared} {K : Frag} {mg mb : Str → Option Value} {C fI cda cc : Addr} {fld lit : Str}
theorem sx_init (T : SxT K prog C fI cda cc fld lit) {x t0 : Addr} {v : Value} (X : K.In s.heap) (hlim : s.heap.NoLimit) (hg : s.heap.Ns mainGlobals mg) (hms : mg "super" = none) (hb : s.heap.Ns builtinsNs mb) (hbs : mb "super" = some (.type "super"))
    (hx : s.heap.get? x = some (excO C t0)) (hnx : K.lookup x = none) (hroom : A.depth < recursionLimit)
    (hq : ∀ h' tk dx t1, SxEnd s.heap h' x C dx t1 fld v → R (.ok (.ret .none)) { s with heap := h', toks := tk }) :
    codeAny (model prog w) A (.call (.ref fI) ⟨[.ref x, v], []⟩) R s := by
  obtain ⟨qual, oc, od, ps, body, doc, pm, an, ct, osl, a1, a2, j, q1, q2, q3, q4, q5, q6, p1, p2, p3, p4, ho, hcd, rfl, hbd, hev, rfl⟩ := T.fn
  obtain ⟨nm, q, N, bs, bm, sn, sub, ab, col, dd, k0, k1, k2, k3, k5, hC, hbm⟩ := T.cls
  obtain ⟨bmB, FB, hini⟩ := T.ini
  obtain ⟨ccl, cdd, vs, ccs, file, tf, hcod, hvs, hfile⟩ := T.cod
  obtain ⟨cl, cld, csl, hcel⟩ := T.cel
  have scX : (sxS fld).names.lookup ("self" : Str) = some .local := by simp [List.lookup]
  have scF : (sxS fld).names.lookup fld = some .local := by simp [List.lookup, T.fne]
  have scC : (sxS fld).names.lookup ("__class__" : Str) = some .free := by simp [List.lookup, T.fnc, show (PySem.Str.ofString "__class__" == PySem.Str.ofString "self") = false by decide]
  have scS : (sxS fld).names.lookup ("super" : Str) = some .globalImplicit := by simp [List.lookup, T.fns, show (PySem.Str.ofString "super" == PySem.Str.ofString "self") = false by decide, show (PySem.Str.ofString "super" == PySem.Str.ofString "__class__") = false by decide]
  have scK : (sxS fld).kind = .function := rfl
  have scN : ∀ x ∈ (sxS fld).names, x.2 ≠ .cell := fun p hp => by
    simp only [List.mem_cons, List.not_mem_nil, or_false] at hp
    rcases hp with rfl | rfl | rfl | rfl <;> simp
  have hxL : x ≠ s.heap.objs.size := Nat.ne_of_lt (Heap.lt_size hx)
  refine ks_codeAny_call_defAt (fd := ksFn "__init__" qual _ _ (sxS fld) .none .none doc pm an (.ref cda) ct cc) (binds := [("self", .ref x), (fld, v)]) hroom (X _ _ ho) rfl hlim (codeRec_of X hcd) rfl (hbd _ _ _) scN (fun y hy => ?_) (fun h₁ hn k => ?_) rfl rfl rfl
  · rcases List.mem_cons.mp hy with rfl | hy
    · exact scX
    · rcases List.mem_cons.mp hy with rfl | hy
      · exact scF
      · cases hy
  have X₁ : K.In h₁ := X.keeps k
  have hx₁ := k _ _ hx
  have nf := T.nfd
  have lself : List.lookup ("self" : Str) [(("self" : Str), Value.ref x), (fld, v)].reverse = some (.ref x) := by
    show List.lookup ("self" : Str) [(fld, v), (("self" : Str), Value.ref x)] = _
    simp [List.lookup, nf]
  have lfld : List.lookup fld [(("self" : Str), Value.ref x), (fld, v)].reverse = some v := by
    show List.lookup fld [(fld, v), (("self" : Str), Value.ref x)] = _
    simp [List.lookup]
  obtain ⟨pl, hev⟩ := hev (ksEnv qual (sxS fld) s.heap.objs.size fI (.ref cda) cc)
  refine ks_wpAt_execs_cons (ks_wpAt_Expr_any (ks_wpAt_MethodCall (he := hev) (ks_wpAt_super_base (f := fI) (cc := cda) (ar := ⟨"self", none, a1⟩) scS scC (by decide) rfl (X₁ _ _ ho) rfl rfl rfl (X₁ _ _ hcod) rfl hvs hfile T.top ?_)))
  refine ks_loadName_global scK scS (loadGlobal_builtin (hg.keeps k) hms (hb.keeps k) hbs ⟨rfl, ?_⟩)
  refine wpAny_loadName_free scK scC rfl ⟨_, X₁ _ _ hcel, rfl⟩ ?_
  refine wpAny_loadName_local scK scX hn lself ?_
  refine ks_wpAny_isType_cls (X₁ _ _ hC) rfl ⟨rfl, ?_⟩
  refine ks_wpAny_call_super (h := h₁) (X₁ _ _ hC) rfl hx₁ rfl (fun c e => by cases e) (looks_mroIn X₁ T.mro) (fun h₂ hso k₂ => ?_)
  have lt1 : s.heap.objs.size < h₁.objs.size := hn.lt
  have X₀ : K.In (hideAll s.heap [x]) := fun a o e => hideAll_get _ (X _ _ e) (fun z => by
    have z' : a = x := by simpa using z
    rw [z', hnx] at e
    cases e)
  have F₂ : Fr (hideAll s.heap [x]) s.heap.objs.size h₂ _ := ⟨hn.keeps k₂, fun b o e => k₂ _ _ (k _ _ (of_hideAll _ e)), Nat.le_of_eq (hideAll_size _ _)⟩
  have N₂ : News (hideAll s.heap [x]) s.heap.objs.size h₂ [(h₁.objs.size, ks_superObj C x C), (x, excObj C t0 none .none)] := fun p hp => by
    rcases List.mem_cons.mp hp with rfl | hp
    · refine ⟨hso, Nat.ne_of_gt lt1, ?_⟩
      cases z : (hideAll s.heap [x]).get? h₁.objs.size with
      | none => rfl
      | some o => exact absurd (Nat.lt_trans lt1 (Heap.lt_size (of_hideAll _ z))) (Nat.lt_irrefl _)
    · have e : p = (x, excObj C t0 none .none) := by simpa using hp
      subst e
      exact ⟨k₂ _ _ hx₁, hxL, hideAll_none _ List.mem_cons_self⟩
  refine kxs_method (s := ⟨h₂, s.gens, s.drawn, _, s.os⟩) kxs_ValueError F₂ X₀ N₂ List.mem_cons_self (ox := excObj C t0 none .none) (odx := none) ⟨k₂ _ _ hx₁, rfl, rfl, trivial⟩ T.any T.sup T.isV (by decide) (fun u h₃ F₃ N₃ lt3 => ?_)
  refine kxs_callWith1 N₃ List.mem_cons_self (spliced_more (wpAny_Constant_str (spliced_none ⟨kxs_at N₃ List.mem_cons_self, ?_⟩)))
  refine kxs_call F₃ X₀ N₃ FB hini List.mem_cons_self (.tail ?_ (.tail ?_ (.head (fun p hp => by cases hp)))) one_fits (fun t' h₄ F₄ N₄ lt4 => ?_)
  · exact Nat.ne_of_gt (Nat.lt_trans (Heap.lt_size hx) (Nat.lt_trans lt1 (lt3 _ List.mem_cons_self)))
  · exact Nat.ne_of_gt (Nat.lt_trans (Heap.lt_size hx) lt1)
  have hx₄ : h₄.get? x = some (excObj C t' none .none) := (N₄ (x, excObj C t' none .none) (by simp)).1
  have X₄ : K.In h₄ := X₀.keeps F₄.keep
  have hcl : clsIn K C = some { name := nm, bases := bs, mro := .ref C :: bm, ns := N, qualname := q, hasDict := true, slotNames := sn, subclasses := sub, abstract := ab, collection := col, hasDel := false } := by unfold clsIn; rw [hC] <;> rfl
  refine wpAt_of_wpAny (wpAny_execs_cons (plainObj_wpAny_Assign_Attribute ?_))
  refine wpAny_Name (wpAny_loadName_local scK scF F₄.ns lfld ?_) T.fnd
  refine wpAny_Name (wpAny_loadName_local scK scX F₄.ns lself ?_)
  refine set_plain X₄ (ox := excObj C t' none .none) (od := none) ⟨hx₄, rfl, rfl, trivial⟩ T.sa ?_
  refine exc_osa X₄ hx₄ hcl hbm rfl T.noN (fun h₅ tk₅ dx k₅ dn dne hx₅ hn₅ => ?_)
  refine wpAny_execs_nil (hq h₅ tk₅ dx t' ⟨fun b o hne e => ?_, hx₅, ?_, dne, hn₅⟩)
  · exact k₅ b o hne (F₄.keep b o (hideAll_get _ e (by simpa using hne)))
  · exact Nat.le_of_lt (Nat.lt_of_lt_of_le F₄.ns.lt dn)
end
end DX

/-! EX2: such an error made, and raised. -/
namespace DX
open PySem PySem.W PySem.Calls PyProof.Rows PySem.HandSPX
/-- a made one: new, its dict (new) holds the field -/
structure SxMade (h h' : Heap) (e C d : Addr) (fld : Str) (v : Value) : Prop where
  keep : ∀ b o, h.get? b = some o → h'.get? b = some o
  new : h.objs.size ≤ e
  obj : ∃ t1 : Addr, h'.get? e = some { cls := .ref C, dict := some d, data := .fields #[.ref t1, .none, .none, .none, .bool false, .none] }
  dbig : h.objs.size ≤ d
  dne : d ≠ e
  ns : h'.Ns1 d (fun y => if y = fld then some v else none)
/-- what names it -/
structure SxC (K : Frag) (prog : Program) (mg : Str → Option Value) (C : Addr) (nm fld : Str) : Prop where
  txt : ∃ fI cda cc lit, SxT K prog C fI cda cc fld lit ∧ findIn K (.ref C) "__init__" = some (some (.ref fI)) ∧ typeIn K (.ref fI) = some (.type "function")
  gC : mg nm = some (.ref C)
  gs : mg "super" = none
  ndb : (nm == ("__debug__" : Str)) = false
  kC : keepIn K (.ref C) = true
  exC : subIn K (.ref C) (.type "BaseException") = some true
  tyC : typeIn K (.ref C) = some (.type "type")
  ga : findIn K (.ref C) "__getattribute__" = some (some (.builtin "BaseException.__getattribute__"))
  hdC : hasDictIn K C = true
section
variable {prog : Program} {w : World} {A : Around} {R : Result → Shared → Prop} {s : Shared} {K : Frag} {mg mb : Str → Option Value} {C : Addr} {nm fld : Str}
theorem sx_made (T : SxC K prog mg C nm fld) {v : Value} (X : K.In s.heap) (hlim : s.heap.NoLimit) (hg : s.heap.Ns mainGlobals mg) (hb : s.heap.Ns builtinsNs mb) (hbs : mb "super" = some (.type "super")) (hroom : A.depth + 1 < recursionLimit)
    (hq : ∀ h' tk e d, SxMade s.heap h' e C d fld v → R (.ok (.ret (.ref e))) { s with heap := h', toks := tk }) :
    codeAny (model prog w) A (.call (.ref C) ⟨[v], []⟩) R s := by
  obtain ⟨fI, cda, cc, lit, T1, iC, tC⟩ := T.txt
  obtain ⟨nm, q, N, bs, bm, sn, sub, ab, col, dd, k0, k1, k2, k3, k5, hC, hbm⟩ := T1.cls
  obtain ⟨hp, g, dr, tk, os⟩ := s
  have k : ∀ b o, hp.get? b = some o → ((hp.push (kdv_tup [v])).push (excO C hp.objs.size)).get? b = some o := fun b o e => Heap.get?_push_of_some _ (Heap.get?_push_of_some _ e)
  have hget : ((hp.push (kdv_tup [v])).push (excO C hp.objs.size)).get? (hp.objs.size + 1) = some (excO C hp.objs.size) := by heap_get
  have hnx : K.lookup (hp.objs.size + 1) = none := by
    cases e : K.lookup (hp.objs.size + 1) with
    | none => rfl
    | some o =>
      have z : hp.get? (hp.objs.size + 1) = some o := X _ _ e
      exact absurd (Nat.lt_of_succ_lt (Heap.lt_size z)) (Nat.lt_irrefl _)
  refine call_own F.excBase_ValueError (fun X => refsVE_contains X bm hbm) (X _ _ hC) (looks_findIn X iC) (fun self => bind_fn X self tC) one_fits ?_
  refine sx_init (s := ⟨(hp.push (kdv_tup [v])).push (excO C hp.objs.size), g, dr, tk, os⟩) T1 (X.keeps k) (hlim.keeps k) (hg.keeps k) T.gs (hb.keeps k) hbs hget hnx ?_ fun h' tk' dx t1 ⟨k', hx, dn, dne, hns⟩ => ?_
  · show A.depth + 1 < recursionLimit
    exact hroom
  · have old : ∀ b o, hp.get? b = some o → h'.get? b = some o := fun b o e => k' b o (Nat.ne_of_lt (Nat.lt_succ_of_lt (Heap.lt_size e))) (k b o e)
    have z : hp.objs.size + 1 + 1 ≤ dx := by
      have y := dn
      simp only [Heap.size_push] at y
      exact y
    exact ⟨rfl, hq h' tk' (hp.objs.size + 1) dx ⟨old, Nat.le_succ _, ⟨t1, hx⟩, Nat.le_trans (Nat.le_trans (Nat.le_succ _) (Nat.le_succ _)) z, dne, hns⟩⟩
end
end DX
namespace DX
open PySem L2
section
variable {X : Cx} {C : Addr} {nm fld : Str}
/-- C(e) -/
def tMkX (C : Addr) (fld : Str) (ta : TA) : St → Hp → XK → Prop := fun σ H Q => ta σ H fun vs H1 => ∃ v, vs = [v] ∧ ∀ d, H1 d = none → Q (.ref C) (some d) (upd H1 d (.xd [(fld, v)]))
theorem rel_one {v : V} {v' : Value} (r : RelV v v') (fld f : Str) : RelO (List.lookup f [(fld, v)]) (if f = fld then some v' else none) := by
  by_cases hw : f = fld
  · subst hw
    rw [if_pos rfl]
    have q : List.lookup f [(f, v)] = some v := by simp [List.lookup]
    rw [q]
    exact r
  · rw [if_neg hw]
    have qw : (f == fld) = false := by simpa using hw
    have q2 : List.lookup f [(fld, v)] = none := by simp [List.lookup, qw]
    rw [q2]
    trivial
theorem pmk_sx {a : Expr} {ta : TA} {p pos : Pos} {k : Nat} (T : SxC X.K X.prog X.mg C nm fld) (hr : Room k X.A) (hk : 1 ≤ k) (ha : PA X [a] ta) (hg : Gl X nm)
    (he : starEach (a :: []) X.env = (false, eval a X.env) :: starEach [] X.env := by rfl) (hpl : (PySem.backTo pos (starEach [] X.env)).any (·.1) = false := by rfl) :
    PMk X (.Call (.Name nm p) [a] [] pos) (tMkX C fld ta) := by
  intro pins s σ H Q I h
  refine wpAny_Call_Name_kw (ld_glob I hg T.gC ?_ T.ndb)
  refine PySem.W.callWith_K (h₀ := X.base) I.ok.mod.kin T.kC (thn (ha.run pos pins s σ H _ I h) fun us s1 hh => ?_) he hpl
  obtain ⟨vs, H1, I1, r1, v, ev, q1⟩ := hh
  subst ev
  refine ⟨I1.kIn, ?_⟩
  cases r1 with
  | cons rv rn =>
    rename_i v' us'
    cases rn
    have hlim := I1.nolimit
    obtain ⟨mb, hb1, hb2⟩ := I1.ok.mod.blt
    have hbs : mb "super" = some (.type "super") := (hb2 _ (by decide)).trans (by decide +kernel)
    have hbl := hb1.keeps I1.bk
    have hgl := I1.ok.mod.glob.keeps I1.bk
    obtain ⟨hp, g, dr, tk, os⟩ := s1
    refine wpAny_call (sx_made T I1.kIn hlim hgl hbl hbs (by have := hr.dp; omega) fun h' tk' e d M => ?_)
    show MkP X pins σ Q (.ref e) ⟨h', g, dr, tk', os⟩
    obtain ⟨t1, hoe⟩ := M.obj
    have hns := M.ns
    obtain ⟨G', g1, g2⟩ := restrict h' fun b => decide (b ≠ e)
    have gk : ∀ b, b ≠ e → G'.get? b = h'.get? b := fun b hb => g1 b (decide_eq_true hb)
    have ge : G'.get? e = none := g2 e (by simp)
    have old : ∀ b o, hp.get? b = some o → G'.get? b = some o := fun b o q => (gk b (Nat.ne_of_lt (Nat.lt_of_lt_of_le (Heap.lt_size q) M.new))).trans (M.keep b o q)
    have ob : ObjOk X.prog X.w (upd H1 d (.xd [(fld, v)])) G' d (.xd [(fld, v)]) :=
      ⟨_, hns.at (fun o q => (gk d M.dne).trans q), fun f => rel_one rv fld f⟩
    have J : Inv X pins σ (upd H1 d (.xd [(fld, v)])) ⟨G', g, dr, tk', os⟩ := I1.laid (t' := tk') old M.dbig ob
    refine ⟨e, _, _, ⟨G', g, dr, tk', os⟩, _, .ref C, some d, rfl, J, fun b o q => ?_, ge, hoe, ⟨rfl, rfl⟩, rfl, rfl, ?_, rfl, I1.bare, raises_own T.exC T.tyC, q1 d (I1.hok.fresh M.dbig)⟩
    · by_cases hb : b = e
      · have q' : G'.get? b = some o := q
        rw [hb, ge] at q'; cases q'
      · exact (gk b hb).symm.trans q
    · rw [upd_ne (Ne.symm M.dne)]
      exact I1.hok.fresh M.new
/-- raise C(e) -/
def tRaiseX (C : Addr) (fld : Str) (W : WX) (ta : TA) : TS := fun _ σ H => tMkX C fld ta σ H fun cls d H' => W cls d σ H'
theorem ps_raiseX {a : Expr} {ta : TA} {W : WX} {p pos pos2 : Pos} {k : Nat} (hc : X.calm = true) (T : SxC X.K X.prog X.mg C nm fld) (hr : Room k X.A) (hk : 1 ≤ k) (tk : Takes X W) (ha : PA X [a] ta) (hg : Gl X nm)
    (he : starEach (a :: []) X.env = (false, eval a X.env) :: starEach [] X.env := by rfl) (hpl : (PySem.backTo pos (starEach [] X.env)).any (·.1) = false := by rfl) :
    PS X (.Raise (some (.Call (.Name nm p) [a] [] pos)) none pos2) (tRaiseX C fld W ta) := ps_raise hc tk (pmk_sx T hr hk ha hg he hpl)
end
end DX

/-! EX3: an error that an except clause hands to a name of one's own, and what is asked of it later. -/
namespace DX
open PySem PySem.Spec PyProof.Rows L2
/-- at a: an error of the class cls, its dict (d | none) -/
def held (a : Addr) (cls : Value) (d : Option Addr) : HO := .ext fun h => ∃ (o : Obj) (vs : Array Value), h.get? a = some o ∧ o.cls = cls ∧ o.dict = d ∧ o.data = .fields vs
theorem held_ok {P : Program} {w : World} {H : Hp} {h : Heap} {a : Addr} {cls : Value} {d : Option Addr} {o : Obj} {vs : Array Value} (e : h.get? a = some o) (z : Zc cls d o) (hd : o.data = .fields vs) : ObjOk P w H h a (held a cls d) :=
  ⟨⟨o, vs, e, z.1, z.2, hd⟩, ⟨o, e⟩, fun h1 h2 ⟨o1, v1, e1, c1, d1, f1⟩ k => ⟨o1, v1, k _ e1, c1, d1, f1⟩⟩
theorem held_at {P : Program} {w : World} {H : Hp} {h : Heap} {a : Addr} {cls : Value} {d : Option Addr} (hok : HOk P w H h) (e : H a = some (held a cls d)) : ∃ (o : Obj) (vs : Array Value), h.get? a = some o ∧ o.cls = cls ∧ o.dict = d ∧ o.data = .fields vs := by
  have x : ObjOk P w H h a (.ext fun h => ∃ (o : Obj) (vs : Array Value), h.get? a = some o ∧ o.cls = cls ∧ o.dict = d ∧ o.data = .fields vs) := hok a _ e
  exact x.1
section
variable {X : Cx} {pins : List (Addr × Obj)} {σ : L2.St} {H : Hp} {s : Shared} {a : Addr} {cls : Value} {d : Option Addr} {o : Obj} {vs : Array Value}
/-- a pinned error is let into the abstract heap -/
theorem let_in (I : Inv X (pins ++ [(a, o)]) σ H s) (z : Zc cls d o) (hd : o.data = .fields vs) (hn : X.s_0.heap.get? a = none) (hp : ∀ p ∈ X.pn ++ pins, p.1 ≠ a) : Inv X pins σ (upd H a (held a cls d)) s := by
  obtain ⟨e, na, nL, nF, nC⟩ := I.pin (a, o) (by simp)
  have ne : ∀ {b : Addr} {u : HO}, H b = some u → b ≠ a := fun q => ne_of_none q na
  have nc : ∀ x c, X.env.cells.lookup x = some c → c ≠ a := fun x c q z => by
    obtain ⟨v, oc, e1, e2⟩ := I.cell x c q
    rw [z] at e1
    have e' : s.heap.get? a = some o := e
    rw [e'] at e1
    cases e1
    exact nC _ e2
  have old : ∀ {b : Addr} {u : Obj}, X.s_0.heap.get? b = some u → b ≠ a := fun q z => by rw [z, hn] at q; cases q
  exact {
    ok := I.ok
    os := I.os
    bare := I.bare
    base := {
      keep := I.base.keep
      slot := I.base.slot
      there := I.base.there
      free := fun b u q n x => by rw [upd_ne (old q)]; exact I.base.free b u q n x
      tups := fun b xs q => by have y := I.base.tups b xs q; rw [upd_ne (ne y)]; exact y
      frzs := fun b u v q => by have y := I.base.frzs b u v q; rw [upd_ne (ne y)]; exact y
      tbls := fun b ps q => by obtain ⟨m, y⟩ := I.base.tbls b ps q; exact ⟨m, by rw [upd_ne (ne y)]; exact y⟩ }
    loc := I.loc
    cell := I.cell
    free := by rw [upd_ne (Ne.symm nL)]; exact I.free
    freeC := fun x c q => by rw [upd_ne (nc x c q)]; exact I.freeC x c q
    pin := fun p q => by
      obtain ⟨b1, b2, b3⟩ := I.pin p (by
        rcases List.mem_append.mp q with q | q
        · exact List.mem_append_left _ q
        · exact List.mem_append_right _ (List.mem_append_left _ q))
      exact ⟨b1, by rw [upd_ne (hp p q)]; exact b2, b3⟩
    hok := fun b u q => by
      by_cases hb : b = a
      · subst hb
        rw [upd_same] at q
        cases q
        exact held_ok e z hd
      · rw [upd_ne hb] at q
        exact (I.hok b u q).stay (fun _ _ _ k => k) (fun c k => by rw [upd_ne (ne k)]; exact k) (fun c xs k => by rw [upd_ne (ne k)]; exact k)
    len := I.len }
/-- the suite's end, the error still pinned -/
theorem out_of {q : Addr × Obj} {pn' : List (Addr × Obj)} (I : Inv (X.suite a (q :: (X.pn ++ pins))) pn' σ H s) (ok : X.Ok) : Inv X (pins ++ [q]) σ H s where
  ok := ok
  os := I.os
  bare := I.bare
  base := I.base
  loc := I.loc
  cell := I.cell
  free := I.free
  freeC := I.freeC
  pin := fun p hp => I.pin p (List.mem_append_left _ (by
    rcases List.mem_append.mp hp with h | h
    · exact List.mem_cons_of_mem _ (List.mem_append_left _ h)
    · rcases List.mem_append.mp h with h | h
      · exact List.mem_cons_of_mem _ (List.mem_append_right _ h)
      · rw [List.mem_singleton.mp h]; exact List.mem_cons_self))
  hok := I.hok
  len := I.len
end
/-- what the clause 'except x as n: y = n' wishes: slot i is n's, slot j is y's -/
def wKeep (K : PySem.W.Frag) (c : Value) (i j : Nat) (Wout : WX) (D : Ends) : WX := fun kl dd σ H =>
  ∃ b, PySem.W.exmOne K kl c = some b ∧ (b = true → ∀ e, H e = none → D.nx (((σ.set i (some (.ref e))).set j (some (.ref e))).set i none) (upd H e (held e kl dd))) ∧ (b = false → Wout kl dd σ H)
section
variable {X : Cx} {x n y : Str} {c : Value} {i j : Nat} {body : List Stmt} {np np2 yp ap pos pos' : Pos} {tb : WX → TS} {Wout : WX}
theorem ps_try_keep (hs : X.stack = X.env :: X.outer) (hf : X.env.frame = some X.env.locals) (hex : X.ex = []) (hN : X.N.Nodup) (hi : X.N[i]? = some n) (hj : X.N[j]? = some y) (hln : X.env.kindOf n = some .local) (hly : X.env.kindOf y = some .local) (hc : Names X x c) (tk : Takes X Wout)
    (hb : ∀ (W : WX) (pn : List (Addr × Obj)) (xe : Value → Shared → Prop), Takes (X.tr pn xe) W → PassesOwn (model X.prog X.w) X.A X.env xe → PSs (X.tr pn xe) body (tb W))
    (hnd : (n == ("__debug__" : Str)) = false := by decide) (hnc : (n == ("__classdict__" : Str)) = false := by decide) (hsw : swapsWith (.Name n np2) (some (.Name y yp)) ap.line X.env = pure false := by rfl) :
    PS X (.Try body [.ExceptHandler (some (.Name x np)) (some n) [.Assign [.Name y yp] (.Name n np2) ap] pos'] [] [] pos) (fun D σ H => tb (wKeep X.K c i j Wout D) D σ H) := by
  refine ⟨fun pins s0 σ0 H0 D I0 start => ?_⟩
  have ok := I0.ok
  have frames : X.A.frames = some (X.env :: X.outer) := ok.frames.trans (congrArg some hs)
  refine wpAny_Try_except (wpAny_mono ((hb (wKeep X.K c i j Wout D) (X.pn ++ pins) _ (fun u s1 air => ?caught) PassesOwn.looking).run [] s0 σ0 H0 D (I0.toTry _) start) (fun f s1 q => ?through) fun _ _ z => z)
  case through =>
    cases f with
    | next => obtain ⟨σ1, H1, J1, z⟩ := q; exact wpAny_execs_nil ⟨σ1, H1, J1.ofTry ok, z⟩
    | brk => obtain ⟨σ1, H1, J1, z⟩ := q; exact ⟨σ1, H1, J1.ofTry ok, z⟩
    | cont => obtain ⟨σ1, H1, J1, z⟩ := q; exact ⟨σ1, H1, J1.ofTry ok, z⟩
    | ret v => obtain ⟨v1, σ1, H1, J1, r, z⟩ := q; exact ⟨v1, σ1, H1, J1.ofTry ok, r, z⟩
  case caught =>
    obtain ⟨e, G, st, ps, ρ, Hx, kl, dd, rfl, J0, inG, upG, sky, fresh, osE, bareE, b, tst, yes, no⟩ := air
    have J : Inv X pins ρ Hx st := J0.ofTry ok
    show wpAny (model X.prog X.w) X.A (noteFrame (.ref e) X.env) _ _ _
    refine Sky.land Zc.steady frames hf (by rw [← hs]; exact sky) fun h3 fly up3 => ?_
    have J3 : Inv X pins ρ Hx { s1 with heap := h3 } := J.landed inG fly.1 (upG.trans up3) osE bareE
    obtain ⟨o3, v3, at3, z3, d3⟩ := fly.there
    have off : e ∉ frs (X.env :: X.outer) := fun hm => by
      obtain ⟨_, o', e', hnf⟩ := fly.2.2.1.mem hm
      rw [at3] at e'
      cases e'
      exact hnf _ d3
    have offL : e ≠ X.env.locals := fun z => off (List.mem_filterMap.mpr ⟨X.env, List.mem_cons_self, hf.trans (congrArg some z.symm)⟩)
    have offF : e ∉ X.fs := fun hm => by
      obtain ⟨en, he, q⟩ := List.mem_filterMap.mp hm
      exact off (List.mem_filterMap.mpr ⟨en, .tail _ he, q⟩)
    have notG : ∀ b o, st.heap.get? b = some o → b ∉ frs X.stack → b ≠ e := fun b o q hb z => by
      have y := inG b o q hb
      rw [z, fly.2.1] at y
      cases y
    have new0 : X.s_0.heap.get? e = none := by
      cases q : X.s_0.heap.get? e with
      | none => rfl
      | some o =>
        obtain ⟨o', q'⟩ := J.base.there e o q (by rw [hex]; exact fun z => nomatch z)
        exact absurd rfl (notG e o' q' (by rw [hs]; exact off))
    have apart : ∀ p ∈ X.pn ++ pins, p.1 ≠ e := fun p hp => by
      obtain ⟨q1, _, q3, q4, _⟩ := J.pin p hp
      refine notG _ _ q1 fun hm => ?_
      rw [hs] at hm
      obtain ⟨en, he, q⟩ := List.mem_filterMap.mp hm
      rcases List.mem_cons.mp he with rfl | he
      · rw [hf] at q
        exact q3 (Option.some.inj q).symm
      · exact q4 (List.mem_filterMap.mpr ⟨en, he, q⟩)
    have S3 := J3.suite at3 d3 fresh offL offF
    refine wpAny_handleBy_cons (codeAny_handlers_test ?_) (by intro q; cases q)
    have typ : PySem.W.Looks (model X.prog X.w) h3 (typeOf (.ref e)) kl := fun A Q E s k q => wpAny_typeOf_ref (k _ _ at3) (by rw [z3.1]; exact q)
    have hit := PySem.W.exm_one (M := model X.prog X.w) J3.kIn typ tst
    have ask : ∀ {Q : Value → Shared → Prop} {E : Value → Shared → Prop}, Q c { s1 with heap := h3 } → wpAny (model X.prog X.w) (X.A.mark (some (.ref e))) (eval (.Name x np) X.env) Q E { s1 with heap := h3 } := fun {Q E} q => by
      rcases hc with ⟨hg, hdbg, hm | ⟨hm, hv, hnn⟩⟩
      · exact ld_glob (X := X.suite e ((e, o3) :: (X.pn ++ pins))) S3 hg hm q hdbg
      · exact ld_blt (X := X.suite e ((e, o3) :: (X.pn ++ pins))) S3 hg hm hv q hnn hdbg
    refine ask (hit.here ?_)
    cases b with
    | true =>
      refine codeAny_handlers_suite_as (HandSPX.lands_againZ fly fun h4 fly4 up4 => ?_)
      have J4 : Inv X pins ρ Hx { s1 with heap := h4 } := J.landed inG fly4.1 ((upG.trans up3).trans up4) osE bareE
      obtain ⟨o4, v4, at4, z4, d4⟩ := fly4.there
      have S4 := J4.suite at4 d4 fresh offL offF
      refine store_ok (X := X.suite e ((e, o4) :: (X.pn ++ pins))) (v := .ref e) S4 hN hi (.inl hln) rfl (fun s5 S5 => ?_) (.inr hln)
      have hlen : i < ρ.length := by rw [J.len]; exact (List.getElem?_eq_some_iff.mp hi).1
      have asg : PSs (X.suite e ((e, o4) :: (X.pn ++ pins))) [.Assign [.Name y yp] (.Name n np2) ap] (tAsg (tVar i) (gName j)) :=
        pss_one (ps_set (X := X.suite e ((e, o4) :: (X.pn ++ pins))) hN hj (.inl hly) (pe_var (X := X.suite e ((e, o4) :: (X.pn ++ pins))) hi (.inl hln) hnd hnc) hsw (.inr hly))
      refine wpAny_mono (asg.run [] s5 _ Hx { nx := fun σ' H' => σ' = (ρ.set i (some (.ref e))).set j (some (.ref e)) ∧ H' = Hx, rt := fun _ _ => False } S5 ⟨.ref e, List.getElem?_set_self hlen, rfl, rfl⟩) (fun f s6 q => ?_) (fun _ _ z => False.elim z)
      cases f with
      | next =>
        obtain ⟨σ6, H6, S6, rfl, rfl⟩ := q
        exact gone_ok (out_of S6 ok) hN hi hln fun s7 J7 => ⟨_, _, let_in J7 z4 d4 new0 apart, yes rfl e fresh⟩
      | brk => obtain ⟨_, _, _, z⟩ := q; exact z.elim
      | cont => obtain ⟨_, _, _, z⟩ := q; exact z.elim
      | ret v => obtain ⟨_, _, _, _, _, z⟩ := q; exact z.elim
    | false =>
      show wpAny _ X.A (handleBy (.ref e) X.env []) _ _ _
      refine wpAny_handleBy_nil ?_
      obtain ⟨_, _, _, o5, v5, T5, _, _, at5, _, d5, tr5, _⟩ := id fly
      unfold PySem.passOn
      refine wpAny_bind (wpAny_field at5 d5 tr5 ?_)
      rw [if_neg (show ¬ ((Value.ref T5 == Value.none) = true) from by simp)]
      have on : wpAny (model X.prog X.w) X.A (setFlight (.ref e) X.env.frame) (fun _ s4 => wpAny (model X.prog X.w) X.A (throw (.ref e) : Sem Flow) (SP X pins D) X.xe s4) X.xe { s1 with heap := h3 } := by
        rw [hf]
        refine HandSPX.setFlight_upZ fly fun h4 up' u4 => wpAny_throw (tk _ _ ?_)
        exact ⟨e, G, st, pins, ρ, Hx, kl, dd, rfl, J, inG, (upG.trans up3).trans u4, .inr (.inr (by rw [hs]; exact up')), fresh, osE, bareE, no rfl⟩
      first
        | exact wpAny_bind on
        | exact wpAny_bind (wpAny_pure (wpAny_bind on))
end
end DX

/-! EX4: isinstance of a held error, its field. -/
namespace DX
open PySem PySem.Spec PyProof.Rows L2
section
variable {X : Cx}
/-- a held error as the walk sees it -/
theorem held_inst {pins : List (Addr × Obj)} {σ : L2.St} {H : Hp} {s : Shared} {a D : Addr} {d : Option Addr} (I : Inv X pins σ H s) (e : H a = some (held a (.ref D) d)) (hd : d = none ∨ ∃ dd fs, d = some dd ∧ H dd = some (.xd fs)) :
    ∃ (o : Obj) (od : Option Obj), PySem.W.InstAt s.heap a o D od := by
  obtain ⟨o, vs, e1, c1, d1, f1⟩ := held_at I.hok e
  have nc : PySem.W.notCls o = true := by unfold PySem.W.notCls; rw [f1] <;> rfl
  rcases hd with rfl | ⟨dd, fs, rfl, ed⟩
  · exact ⟨o, none, e1, c1, nc, by rw [d1]; trivial⟩
  · have hx : ObjOk X.prog X.w H s.heap dd (.xd fs) := I.hok dd _ ed
    obtain ⟨mA, hns, _⟩ := hx
    obtain ⟨od, ho, _⟩ := lookIn_ns hns
    exact ⟨o, some od, e1, c1, nc, by rw [d1]; exact ho⟩
/-- isinstance(x, c), x a held error -/
def rIsH (K : PySem.W.Frag) : List V → Hp → VK → Prop := fun xs H Q => ∃ (a D : Addr) (d : Option Addr) (c : V) (cv : Value) (b : Bool), xs = [.ref a, c] ∧ H a = some (held a (.ref D) d) ∧ (d = none ∨ ∃ dd fs, d = some dd ∧ H dd = some (.xd fs)) ∧
  ExcC K D ∧ (∀ u, RelV c u → u = cv) ∧ PySem.W.kitOne K (.ref D) cv = some b ∧ Q (.bl b) H
theorem call_isH : CallR X (.builtin "isinstance") (rIsH X.K) := by
  intro pins s σ H xs us Q I r ⟨a, D, d, c, cv, b, hxs, e, hd, T, hcv, k, q⟩
  subst hxs
  cases r with
  | cons rx rr =>
    cases rr with
    | cons rt rr =>
      cases rr
      cases rx
      have ec := hcv _ rt
      subst ec
      obtain ⟨o, od, J⟩ := held_inst I e hd
      obtain ⟨cd, hc, _⟩ := PySem.W.any_some T.hd
      exact PySem.W.kia_one (PySem.W.kitx_exc (by rw [hc]; rfl) T.hg T.hk T.hs T.ha T.hn T.ht T.hm) I.kIn J k (fun z => nomatch z) fun tk => ⟨.bl b, H, I.kept (t' := tk) fun _ _ z => z, rfl, q⟩
/-- either way of a call -/
theorem call_or {f : Value} {R1 R2 : List V → Hp → VK → Prop} (h1 : CallR X f R1) (h2 : CallR X f R2) : CallR X f (fun xs H Q => R1 xs H Q ∨ R2 xs H Q) := by
  intro pins s σ H xs us Q I r h
  rcases h with h | h
  · exact h1 pins s σ H xs us Q I r h
  · exact h2 pins s σ H xs us Q I r h
/-- x.n, x a held error -/
def tHd (K : PySem.W.Frag) (n : Str) (te : TE) : TE := fun σ H Q => te σ H fun x H1 => ∃ (a C dd : Addr) (fs : List (Str × V)) (v : V), x = .ref a ∧ H1 a = some (held a (.ref C) (some dd)) ∧ XfC K C ∧ PySem.W.findIn K (.ref C) n = some none ∧ H1 dd = some (.xd fs) ∧ fs.lookup n = some v ∧ Q v H1
theorem pe_hd {e : Expr} {te : TE} {pos : Pos} {n : Str} (he : PE X e te) (hb : attributeBase e n X.env (eval e X.env) = eval e X.env := by rfl) : PE X (.Attribute e n pos) (tHd X.K n te) := by
  refine ⟨fun pins s σ H Q I h => ?_⟩
  refine attr_of hb (thn (he.run pins s σ H _ I h) fun u s1 hh => ?_)
  obtain ⟨x, H1, I1, rx, a, C, dd, fs, v, rfl, ea, T, hno, ed, l, q⟩ := hh
  obtain rfl : u = Value.ref a := rx
  obtain ⟨o, vs, e1, c1, d1, f1⟩ := held_at I1.hok ea
  have hx : ObjOk X.prog X.w H1 s1.heap dd (.xd fs) := I1.hok dd _ ed
  obtain ⟨mA, hns, hr⟩ := hx
  obtain ⟨od, ho, hl⟩ := lookIn_ns hns
  obtain ⟨u, hu, ru⟩ := RelO.some_of (v := v) (o := mA n) (by rw [← l]; exact hr n)
  have J : PySem.W.InstAt s1.heap a o C (some od) := ⟨e1, c1, by unfold PySem.W.notCls; rw [f1] <;> rfl, by rw [d1]; exact ho⟩
  exact HandSPX.exc_get I1.kIn J T.ga T.gg T.exC (PySem.W.findObj_own T.hdC hno rfl (by rw [hl, hu])) (handed_of ru) ⟨v, H1, I1.tok _, ru, q⟩
end
end DX

/-! BR: repr of data with long numbers (below 3300 bits). -/
namespace BR
open PySem PySem.Builtin
/-- the interpreter's limit of digits is its own -/
def Lim (h : Heap) : Prop := ∃ K : PySem.W.Frag, K.In h ∧ PySem.W.nsIn K cStatics "sys.int_max_str_digits" = some none
theorem Lim.keeps {h h' : Heap} (x : Lim h) (k : ∀ b o, h.get? b = some o → h'.get? b = some o) : Lim h' := by
  obtain ⟨K, a, b⟩ := x
  exact ⟨K, a.keeps k, b⟩
section
variable {M : Model} {prog : Program} {w : World} {A : Around} {E : Value → Shared → Prop} {s : Shared}
theorem over_none {a : Int} {Q : Option Nat → Shared → Prop} (L : Lim s.heap) (ha : a.natAbs.log2 < 3300) (h : Q none s) : wpAny M A (overDigitLimit? a) Q E s := by
  unfold overDigitLimit?
  by_cases h1 : a.natAbs.log2 < 1920
  · rw [if_pos h1]; exact wpAny_pure h
  · rw [if_neg h1]
    obtain ⟨K, hk, hm⟩ := L
    refine wpAny_bind ?_
    unfold intMaxStrDigits
    refine wpAny_bind ((PySem.W.looks_nsIn hk hm) _ _ _ _ (fun _ _ z => z) ?_)
    refine wpAny_pure ?_
    have c1 : ¬ (a.natAbs.log2 / 30 + 1 > 1000) := by omega
    have c2 : ((4300 : Nat) == 0 || decide (a.natAbs.log2 < 3 * 4300)) = true := by
      simp only [Bool.or_eq_true, decide_eq_true_eq]
      right; omega
    simp only [c1, if_false]
    rw [if_pos c2]
    exact wpAny_pure h
theorem fits {a : Int} (h : a.natAbs.log2 < 3300) : (Str.ofString (toString a)).length ≤ sizeLine := by
  have e := int_text_length_le (k := 3300) (by decide) h
  rw [ofString_length, sizeLine_eq]
  omega
theorem call_int {a : Int} {t : Tok} {Q : Value → Shared → Prop} (L : Lim s.heap) (ha : a.natAbs.log2 < 3300) (h : Q (.str (toString a) s.toks) { s with toks := s.toks + 1 }) :
    wpAny (model prog w) A (call (.builtin "int.__repr__") [.int a t]) Q E s := by
  refine wpAny_call (codeAny_call_builtin F.slot_int_repr.plain F.entry_int_repr (F.slot_int_repr.check _ _ _ _ _ _ _ _ (typeIs_int s a t) (F.args_int_repr_1 _) ?_))
  unfold «int.__repr__»
  show wpAny _ _ (overDigitLimit? a >>= _) _ _ _
  refine wpAny_bind (over_none L ha ?_)
  unfold retStr
  refine wpAny_bind (wpAny_mkStr ?_ (fits ha))
  exact wpAny_pure h
theorem obj_int {a : Int} {t : Tok} {Q : Value → Shared → Prop} (hu : A.units < cLine) (L : Lim s.heap) (ha : a.natAbs.log2 < 3300) (h : Q (.str (toString a) s.toks) { s with toks := s.toks + 1 }) : wpAny (model prog w) A (pyReprObj (.int a t)) Q E s :=
  wpAny_pyReprObj_slot hu (typeIs_int s a t) F.slot_int_repr.toG (call_int L ha ⟨_, _, rfl, h⟩)
end
mutual
/-- what is shown: no dict, no number of 3300 bits -/
def shB : PyData → Bool
  | .none | .bool _ | .str _ => true
  | .int i => decide (i.natAbs.log2 < 3300)
  | .list l => shBs l
  | .tuple l => shBs l
  | .dict _ => false
def shBs : List PyData → Bool
  | [] => true
  | x :: r => shB x && shBs r
end
section
variable {prog : Program} {w : World} {h₀ : Heap}
theorem under_int {a : Int} {t : Tok} (L : Lim h₀) (ha : a.natAbs.log2 < 3300) (as : List Addr) (n : Nat) : ReprK prog w as h₀ n (.int a t) (toString a) := fun base hz A g E s Q hg hc hu hk hQ => by
  rw [pyReprUnder_leaf (v := .int a t) (by omega) (fun _ e => nomatch e)]
  unfold pyRepr
  exact wpAny_bind (obj_int (by omega) (L.keeps hk) ha (wpAny_pure (hQ s.heap _ fun _ _ e => e)))
mutual
theorem one_of : ∀ {v : Value} {d : PyData} {as : List Addr}, Lim h₀ → Reads h₀ v d as → shB d = true → d.shown.length ≤ sizeLine → ∃ bs, ReadAtMost h₀ d.depth bs ∧ ReprK prog w bs h₀ d.depth v d.shown
  | _, _, _, L, .none, _, _ => ⟨[], (fun _ z => nomatch z), by rw [PyData.shown]; exact .of_is ReprIs.none _ _ _⟩
  | _, _, _, L, .bool b, _, _ => ⟨[], (fun _ z => nomatch z), by rw [PyData.shown]; exact .of_is (ReprIs.bool b) _ _ _⟩
  | _, _, _, L, .int i t, c, _ => ⟨[], (fun _ z => nomatch z), by rw [PyData.shown]; exact under_int L (by simpa [shB] using c) _ _⟩
  | _, _, _, L, .str x t, _, z => ⟨[], (fun _ z => nomatch z), by rw [PyData.shown] at z ⊢; exact .of_is (ReprIs.str x t z) _ _ _⟩
  | _, _, _, L, .list (a := a) (vs := vs) (xs := xs) e1 e2 e3 e4, c, z => by
    rw [PyData.shown] at z
    obtain ⟨bs, b1, k1⟩ := all_of L e4 (by simpa [shB] using c) fun t m => Nat.le_trans (listText_mem_le m) z
    have me : Reads h₀ (.ref a) (.list xs) _ := .list e1 e2 e3 e4
    have out : a ∉ bs := not_mem_of_deeper me (by rw [PyData.depth]; omega) b1
    refine ⟨a :: bs, ReadAtMost.cons me (by rw [PyData.depth]; omega) b1, ?_⟩
    rw [PyData.depth, PyData.shown]
    obtain ⟨l⟩ := vs
    cases l with
    | nil =>
      have e4' : ReadsAll h₀ [] xs _ := e4
      cases e4'
      rw [PyData.shownAll, listText_nil]
      exact ReprK.listEmpty e1 e2 e3
    | cons x l => exact ReprK.list e1 e2 e3 out (by simpa using k1.length_eq) fun i y m => k1.item i y (by simpa using m)
  | _, _, _, L, .tuple (a := a) (xs := xs) e1 e2 e3 e4, c, z => by
    rw [PyData.shown] at z
    obtain ⟨bs, b1, k1⟩ := all_of L e4 (by simpa [shB] using c) fun t m => Nat.le_trans (tupleText_mem_le m) z
    have me : Reads h₀ (.ref a) (.tuple xs) _ := .tuple e1 e2 e3 e4
    have out : a ∉ bs := not_mem_of_deeper me (by rw [PyData.depth]; omega) b1
    refine ⟨a :: bs, ReadAtMost.cons me (by rw [PyData.depth]; omega) b1, ?_⟩
    rw [PyData.depth, PyData.shown]
    exact ReprK.tuple e1 e2 e3 out k1
  | _, _, _, L, .dict _ _ _ _ _, c, _ => by simp [shB] at c
theorem all_of : ∀ {vs : List Value} {ds : List PyData} {as : List Addr}, Lim h₀ → ReadsAll h₀ vs ds as → shBs ds = true → (∀ t ∈ PyData.shownAll ds, t.length ≤ sizeLine) →
    ∃ bs, ReadAtMost h₀ (PyData.depthAll ds) bs ∧ ReprAllK prog w bs h₀ (PyData.depthAll ds) vs (PyData.shownAll ds)
  | _, _, _, L, .nil, _, _ => ⟨[], (fun _ z => nomatch z), by rw [PyData.shownAll]; exact .nil⟩
  | _, _, _, L, .cons (d := d) (ds := ds) r rs, c, z => by
    have c' : shB d = true ∧ shBs ds = true := by simpa [shBs] using c
    rw [PyData.shownAll] at z ⊢
    obtain ⟨x1, p1, k1⟩ := one_of L r c'.1 (z _ List.mem_cons_self)
    obtain ⟨x2, p2, k2⟩ := all_of L rs c'.2 fun t m => z t (.tail _ m)
    rw [PyData.depthAll]
    exact ⟨x1 ++ x2, (p1.mono (Nat.le_max_left _ _)).append (p2.mono (Nat.le_max_right _ _)), .cons ((k1.more fun b m => List.mem_append_left _ m).level_le (Nat.le_max_left _ _)) (k2.more_le (fun b m => List.mem_append_right _ m) (Nat.le_max_right _ _))⟩
end
variable {A : Around} {E : Value → Shared → Prop} {s : Shared} {Q : Value → Shared → Prop}
/-- repr(x), x a list or a tuple -/
theorem repr_ref {a : Addr} {d : PyData} {as : List Addr} (L : Lim s.heap) (r : Reads s.heap (.ref a) d as) (c : shB d = true) (hg : A.guards = some []) (hu : A.units + (d.depth + 1) < cLine)
    (hQ : ∀ h' u tk, (∀ b o, s.heap.get? b = some o → h'.get? b = some o) → Q (.str d.shown u) { s with heap := h', toks := tk }) (z : d.shown.length ≤ sizeLine) : wpAny (model prog w) A (call (.builtin "repr") [.ref a]) Q E s := by
  cases r with
  | list e1 e2 e3 e4 =>
    rename_i o vs n xs as0
    rw [PyData.shown] at z
    obtain ⟨bs, b1, k1⟩ := all_of (prog := prog) (w := w) L e4 (by simpa [shB] using c) fun t m => Nat.le_trans (listText_mem_le m) z
    have out : a ∉ bs := not_mem_of_deeper (.list e1 e2 e3 e4) (by rw [PyData.depth]; omega) b1
    rw [PyData.depth] at hu
    rw [PyData.shown] at hQ
    refine call_repr_slot (by omega) ⟨o, e1, e2⟩ F.slot_list_repr.toG ?_
    obtain ⟨l⟩ := vs
    cases l with
    | nil =>
      have e4' : ReadsAll s.heap [] xs _ := e4
      cases e4'
      rw [PyData.shownAll, listText_nil] at hQ
      exact call_list_repr_empty ⟨o, e1, e2⟩ e1 e3 ⟨_, _, rfl, hQ s.heap _ _ fun _ _ e => e⟩
    | cons x l => exact call_list_reprK e1 e2 e3 out (by simpa using k1.length_eq) (fun i y m => k1.item i y (by simpa using m)) hg (fun b _ => Clear.nil b) (by show A.units + 1 + _ < cLine; omega) (fun _ _ e => e) (fun h' u tk k => ⟨_, _, rfl, hQ h' u tk k⟩) z
  | tuple e1 e2 e3 e4 =>
    rename_i o vs n xs
    rw [PyData.shown] at z
    obtain ⟨bs, b1, k1⟩ := all_of (prog := prog) (w := w) L e4 (by simpa [shB] using c) fun t m => Nat.le_trans (tupleText_mem_le m) z
    have out : a ∉ bs := not_mem_of_deeper (.tuple e1 e2 e3 e4) (by rw [PyData.depth]; omega) b1
    rw [PyData.depth] at hu
    rw [PyData.shown] at hQ
    refine call_repr_slot (by omega) ⟨o, e1, e2⟩ F.slot_tuple_repr ?_
    exact call_tuple_reprK e1 e2 e3 out k1 hg (fun b _ => Clear.nil b) (by show A.units + 1 + _ < cLine; omega) (fun _ _ e => e) (fun h' u tk k => ⟨_, _, rfl, hQ h' u tk k⟩) z
  | dict _ _ _ _ _ => simp [shB] at c
end
end BR

/-! TR: t[::-1] of a tuple of five. -/
namespace TR
open PySem PySem.Spec PyProof.Rows L2 HT
section
variable {prog : Program} {w : World} {A : Around} {E : Value → Shared → Prop} {s : Shared}
theorem applied_back {sl : Addr} {vl vu vs : Value} {Q : Int × Int × Nat → Shared → Prop} (hs : s.heap.IsSliceOf sl vl vu vs) (pl : IsPart vl none) (pu : IsPart vu none) (ps : IsPart vs (some (-1))) (h : Q (4, -1, 5) s) :
    wpAny (model prog w) A (Builtin.Slice.sliceApplied (.ref sl) (pure (5 : Int))) Q E s := by
  obtain ⟨os, at0, _, fl⟩ := id hs
  unfold Builtin.Slice.sliceApplied Builtin.Slice.sliceFields
  refine wpAny_bind (wpAny_bind (wpAny_field at0 fl (x := vl) rfl (wpAny_bind (wpAny_field at0 fl (x := vu) rfl (wpAny_bind (wpAny_field at0 fl (x := vs) rfl (wpAny_pure ?_)))))))
  refine wpAny_bind (slicePart_ ps ?_)
  show wpAny _ _ (if (((some (-1) : Option Int).getD 1) == 0) = true then _ else _) _ _ s
  rw [if_neg (by decide)]
  refine wpAny_bind (slicePart_ pl (wpAny_bind (slicePart_ pu (wpAny_bind (wpAny_pure ?_)))))
  show wpAny _ _ (match Builtin.Slice.sliceAdjust none none (-1) (5 : Int) with | (lo, hi) => pure (lo, (-1 : Int), Builtin.Slice.slicePlaces lo hi (-1))) _ _ s
  have e : Builtin.Slice.sliceAdjust none none (-1) (5 : Int) = (4, -1) := by decide
  rw [e]
  have e2 : Builtin.Slice.slicePlaces 4 (-1) (-1) = 5 := by decide
  show wpAny _ _ (pure ((4 : Int), (-1 : Int), Builtin.Slice.slicePlaces 4 (-1) (-1))) _ _ s
  rw [e2]
  exact wpAny_pure h
theorem item_back {t sl : Addr} {a b c d e : Value} {vl vu vs : Value} {Q : Value → Shared → Prop} (ht : IsTup s.heap t #[a, b, c, d, e]) (hs : s.heap.IsSliceOf sl vl vu vs) (pl : IsPart vl none) (pu : IsPart vu none) (ps : IsPart vs (some (-1)))
    (h : Q (.ref s.heap.objs.size) { s with heap := s.heap.push { cls := .type "tuple", data := .seq #[e, d, c, b, a] } }) : wpAny (model prog w) A (getItem (.ref t) (.ref sl)) Q E s := by
  obtain ⟨os, at0, cs, _⟩ := id hs
  have hTs : s.TypeIs (.ref sl) "slice" := ⟨os, at0, cs⟩
  unfold getItem
  try with_reducible refine wpAny_holding ?_
  first | refine wpAny_bind (wpAny_pure ?_) | skip
  refine wpAny_bind (wpAny_sequenceKey ht.typeIs (by decide) ?_)
  refine wpAny_bind (wpAny_callSpecial?_slot (name := Str.ofString "__getitem__") ht.typeIs PyProof.Rows.slot_tuple_getitem (wpAny_call_entry PyProof.Rows.slot_tuple_getitem ht.typeIs entry_tuple_getitem ?_ (args_tuple_getitem _ _)))
  show wpAny _ _ (Builtin.Tuple.tupleItemsOf (.ref t) >>= _) _ _ s
  refine wpAny_bind (tupleItemsOf_ ht (wpAny_bind (wpAny_typeOf hTs ?_)))
  rw [if_pos (by decide)]
  refine wpAny_bind (applied_back hs pl pu ps ?_)
  show wpAny _ _ (if ((4 : Int) == 0 && (-1 : Int) == 1 && 5 == 5) = true then _ else _) _ _ s
  rw [if_neg (by decide)]
  have pick : ((List.range 5).filterMap fun (k : Nat) => (#[a, b, c, d, e] : Array Value)[((4 : Int) + (k : Int) * (-1)).toNat]?).toArray = #[e, d, c, b, a] := by rfl
  show wpAny _ _ (Builtin.Tuple.tupleExact ((List.range 5).filterMap fun (k : Nat) => (#[a, b, c, d, e] : Array Value)[((4 : Int) + (k : Int) * (-1)).toNat]?).toArray >>= _) _ _ s
  rw [pick]
  have small : sizeOk (.seq #[e, d, c, b, a]) := by
    show (5 : Nat) ≤ sizeLine
    rw [sizeLine_eq]; decide
  first
    | exact wpAny_bind (m := Builtin.Tuple.tupleExact _) (wpAny_newObj_type (wpAny_pure ⟨_, rfl, wpAny_pure h⟩) small)
    | exact wpAny_bind (m := Builtin.Tuple.tupleExact _) (wpAny_newObj_type (wpAny_bind (wpAny_pure (wpAny_pure ⟨_, rfl, wpAny_pure h⟩))) small)
end
section
variable {X : Cx}
def tBack (K : PySem.W.Frag) (te : TE) : TE := fun σ H Q => te σ H fun x H1 => ∃ t a b c d e, x = .ref t ∧ SqT K H1 t [a, b, c, d, e] ∧ ∀ p, H1 p = none → Q (.ref p) (upd H1 p (.tup [e, d, c, b, a]))
theorem pe_back {e : Expr} {te : TE} {k : Nat} {p1 p2 p3 pos : Pos} (he : PE X e te) : PE X (.Subscript e (.Slice none none (some (.UnaryOp .USub (.Constant (.int 1) k p1) p2)) p3) pos) (tBack X.K te) := by
  refine ⟨fun pins s σ H Q I h => ?_⟩
  refine Subscript_ (thn (he.run pins s σ H _ I h) fun v s1 ⟨x, H1, I1, r1, t, a, b, c, d, f, ex, hx, q⟩ => ?_)
  subst ex
  cases r1
  have minus : PO X (some (.UnaryOp .USub (.Constant (.int 1) k p1) p2)) (tPart (tUn (rU fun i => .int (-i)) (tC (.int 1)))) := po_some (pe_un un_neg pe_int)
  refine wpAny_Slice (thn (po_none.run pins s1 σ H1 (fun o H2 => o = none ∧ H2 = H1) I1 ⟨rfl, rfl⟩) fun vl s2 ⟨l, H2, I2, pl, el, e2⟩ => ?_)
  subst el e2
  refine thn (po_none.run pins s2 σ H2 (fun o H3 => o = none ∧ H3 = H2) I2 ⟨rfl, rfl⟩) fun vu s3 ⟨u, H3, I3, pu, eu, e3⟩ => ?_
  subst eu e3
  refine thn (minus.run pins s3 σ H3 (fun o H4 => o = some (-1) ∧ H4 = H3) I3 ⟨1, rfl, -1, rfl, rfl, rfl⟩) fun vs s4 ⟨o, H4, I4, ps, eo, e4⟩ => ?_
  subst eo e4
  have I5 : Inv X pins σ H4 { s4 with heap := s4.heap.push { cls := .type "slice", data := .fields #[vl, vu, vs] } } := I4.kept (t' := s4.toks) fun b ob q => Heap.get?_push_of_some _ q
  obtain ⟨its, r, ht, hz⟩ := I5.tuple hx
  show wpAny (model X.prog X.w) X.A (subscriptTail e (.Slice none none (some (.UnaryOp .USub (.Constant (.int 1) k p1) p2)) p3) (.ref t) (.ref s4.heap.objs.size)) (EP X pins σ Q) X.xe { s4 with heap := s4.heap.push { cls := .type "slice", data := .fields #[vl, vu, vs] } }
  refine tail_any (ops := [.ref t, .ref s4.heap.objs.size]) ht.typeIs (PyProof.Rows.slot_tuple_getitem.lookup) ?_ (by with_unfolding_all rfl)
  cases r with
  | cons ra r => cases r with
    | cons rb r => cases r with
      | cons rc r => cases r with
        | cons rd r => cases r with
          | cons rf r =>
            cases r
            refine item_back ht (Heap.IsSliceOf.new _ vl vu vs) pl pu ps ?_
            refine ⟨.ref _, _, I5.laid (t' := s4.toks) (o := .tup [f, d, c, b, a]) (fun b ob q => Heap.get?_push_of_some _ q) (Nat.le_refl _) ?_, rfl, q _ (I5.hok.fresh (Nat.le_refl _))⟩
            exact ⟨by show (5 : Nat) ≤ sizeLine; rw [sizeLine_eq]; decide, _, .cons rf (.cons rd (.cons rc (.cons rb (.cons ra .nil)))), IsTup.new _ _⟩
end
end TR

/-! DS10: more of data: list(t), tuple(l), t[lo:hi], t[::-1], t + u, l[k] = x, wide products, a sign in a text, repr of all data, raise. -/
namespace DS
open PySem L2
section
variable {X : Cx} {C : Cn} {K : Fg} {cl : Cl}
/-- x as a list of data: settled, or one's own -/
theorem q_tup {A H B : Hp} {v : V} {ds : List D} (h : QR K cl A B v (.tuple ds)) (sb : Same B H) : ∃ a xs, v = .ref a ∧ SqT K H a xs ∧ DRs K cl B xs ds := by
  cases h with
  | set h =>
    cases h with
    | tup h r => exact ⟨_, _, rfl, sqt_same sb h, r⟩
/-- list(x), x a tuple or a list -/
def mLof (a : M) : ML := fun ρ n P R => a ρ n (fun d n1 => ∃ ds, (d = .list ds ∨ d = .tuple ds) ∧ P ds n1) R
theorem le_listOf {x : Str} {e : Expr} {a : M} {p pos : Pos} (hg : Gl X x) (hm : X.mg x = none) (hv : bootBuiltins x = some (.type "list")) (ha : QE X C e a)
    (hn : x ≠ "__name__" := by decide) (hdb : (x == ("__debug__" : Str)) = false := by decide) (he : starEach (e :: []) X.env = (false, eval e X.env) :: starEach [] X.env := by rfl) (hK : X.K = C.K := by rfl) : LE X C (.Call (.Name x p) [e] [] pos) (mLof a) :=
  pe_weak (pe_callTy call_list_of hg hm hv (pa_cons ha pa_nil he) hn hdb he) fun σ H Q ⟨B, ρ, n, P, R, F, w, ox, k⟩ => by
    refine ⟨B, ρ, n, _, R, F, w, ox, fun d n1 ⟨ds, hd, p⟩ v B1 H1 s1 k1 rv => ?_⟩
    have fin : ∀ (q : Addr) (xs : List V), v = .ref q → (SqL X.K H1 q xs ∨ SqT X.K H1 q xs) → DRs C.K C.cl B1 xs ds → (∃ p ys, [v] = [V.ref p] ∧ (SqL X.K H1 p ys ∨ SqT X.K H1 p ys) ∧ ∀ l, H1 l = none → Q (.ref l) (upd H1 l (.lst ys))) := fun q xs e h r =>
      ⟨q, xs, by rw [e], h, fun l hl => k ds n1 p l xs B1 _ (fresh_of s1 hl k1) (s1.lay hl) (none_of s1 hl) (src_lay k1 hl) upd_same r⟩
    rcases hd with rfl | rfl
    · obtain ⟨q, xs, e, h, r⟩ := q_list rv hid_sub s1.sub
      exact fin q xs e (.inl (SqL.of h)) r
    · obtain ⟨q, xs, e, h, r⟩ := q_tup rv s1.sub
      exact fin q xs e (.inr (by rw [hK]; exact h)) r
/-- tuple(x), x a list -/
def mTof (a : M) : M := fun ρ n P R => a ρ n (fun d n1 => ∃ ds, d = .list ds ∧ P (.tuple ds) n1) R
theorem de_tupleOf {x : Str} {e : Expr} {a : M} {p pos : Pos} (hg : Gl X x) (hm : X.mg x = none) (hv : bootBuiltins x = some (.type "tuple")) (ha : QE X C e a)
    (hn : x ≠ "__name__" := by decide) (hdb : (x == ("__debug__" : Str)) = false := by decide) (he : starEach (e :: []) X.env = (false, eval e X.env) :: starEach [] X.env := by rfl) : DE X C (.Call (.Name x p) [e] [] pos) (mTof a) :=
  pe_weak (pe_callTy call_tuple_of hg hm hv (pa_cons ha pa_nil he) hn hdb he) fun σ H Q ⟨B, ρ, n, P, R, F, w, ox, k⟩ => by
    refine ⟨B, ρ, n, _, R, F, w, ox, fun d n1 ⟨ds, hd, p⟩ v B1 H1 s1 k1 rv => ?_⟩
    subst hd
    obtain ⟨q, xs, e, h, r⟩ := q_list rv hid_sub s1.sub
    exact ⟨q, xs, by rw [e], .inl ⟨SqL.of h, fun l hl => k _ n1 p (.ref l) (upd B1 l (.tup xs)) _ (s1.put hl k1) (src_lay k1 hl) (.tup (SqT.of upd_same) (r.mono (same_upd (none_of s1 hl))))⟩⟩
/-- t[lo:hi], not the whole -/
def mSlT (a : M) (l h : MO) : M := fun ρ n P R => a ρ n (fun d n1 => l ρ n1 (fun lo n2 => h ρ n2 (fun hi n3 => ∃ ds, d = .tuple ds ∧ ¬ (HT.sIx ds.length 0 lo = 0 ∧ HT.sIx ds.length ds.length hi = ds.length) ∧ P (.tuple (cutA ds lo hi)) n3) R) R) R
theorem de_sliceT {e : Expr} {lo hi : Option Expr} {a : M} {l h : MO} {p2 pos : Pos} (hK : X.K = C.K) (ha : QE X C e a) (hl : DP X C lo l) (hh : DP X C hi h) : DE X C (.Subscript e (.Slice lo hi none p2) pos) (mSlT a l h) := pe_weak (pe_slice sl_tup ha hl hh) fun σ H Q ⟨B, ρ, n, P, R, F, w, ox, k⟩ => by
  rw [hK]
  refine ⟨B, ρ, n, _, R, F, w, ox, fun d n1 w1 v B1 H1 s1 k1 rv => ⟨B1, ρ, n1, _, R, F.step s1 k1, w1, ox.step s1, fun o n2 w2 B2 H2 s2 k2 => ⟨B2, ρ, n2, _, R, (F.step s1 k1).step s2 k2, w2, (ox.step s1).step s2, fun o2 n3 ⟨ds, ed, nw, p⟩ B3 H3 s3 k3 => ?_⟩⟩⟩
  subst ed
  have r3 := (rv.mono s2.ext.hid s2.old).mono s3.ext.hid s3.old
  have st := (s1.trans s2).trans s3
  obtain ⟨q, xs, e, ht, r⟩ := q_tup r3 s3.sub
  exact ⟨q, xs, e, ht, by rw [r.length]; exact nw, fun y hy => k _ n3 p (.ref y) (upd B3 y (.tup (cutV xs o o2))) _ (st.put hy k3) (src_lay k3 hy) (.tup (SqT.of upd_same) ((r.cut o o2).mono (same_upd (none_of st hy))))⟩
/-- t[::-1], five items -/
def mBack (a : M) : M := fun ρ n P R => a ρ n (fun d n1 => ∃ x1 x2 x3 x4 x5, d = .tuple [x1, x2, x3, x4, x5] ∧ P (.tuple [x5, x4, x3, x2, x1]) n1) R
theorem de_back {e : Expr} {a : M} {k : Nat} {p1 p2 p3 pos : Pos} (hK : X.K = C.K) (ha : QE X C e a) : DE X C (.Subscript e (.Slice none none (some (.UnaryOp .USub (.Constant (.int 1) k p1) p2)) p3) pos) (mBack a) := pe_weak (TR.pe_back ha) fun σ H Q ⟨B, ρ, n, P, R, F, w, ox, k⟩ => by
  rw [hK]
  refine ⟨B, ρ, n, _, R, F, w, ox, fun d n1 ⟨x1, x2, x3, x4, x5, ed, p⟩ v B1 H1 s1 k1 rv => ?_⟩
  subst ed
  obtain ⟨q, xs, e, ht, r⟩ := q_tup rv s1.sub
  cases r with
  | cons r1 r => cases r with
    | cons r2 r => cases r with
      | cons r3 r => cases r with
        | cons r4 r => cases r with
          | cons r5 r =>
            cases r
            refine ⟨q, _, _, _, _, _, e, ht, fun y hy => k _ n1 p (.ref y) (upd B1 y (.tup _)) _ (s1.put hy k1) (src_lay k1 hy) (.tup (SqT.of upd_same) ?_)⟩
            exact (DRs.cons r5 (.cons r4 (.cons r3 (.cons r2 (.cons r1 .nil))))).mono (same_upd (none_of s1 hy))
/-- t + u, neither empty -/
def mCatT (a b : M) : M := fun ρ n P R => a ρ n (fun x n1 => b ρ n1 (fun y n2 => ∃ ds es, x = .tuple ds ∧ y = .tuple es ∧ ds ≠ [] ∧ es ≠ [] ∧ ds.length + es.length ≤ sizeLine ∧ P (.tuple (ds ++ es)) n2) R) R
theorem de_catT {x y : Expr} {a b : M} {pos : Pos} (hK : X.K = C.K) (ha : QE X C x a) (hb : QE X C y b) : DE X C (.BinOp x .Add y pos) (mCatT a b) := pe_weak (pe_op op_catA ha hb) fun σ H Q ⟨B, ρ, n, P, R, F, w, ox, k⟩ => by
  rw [hK]
  refine ⟨B, ρ, n, _, R, F, w, ox, fun dx n1 hb x B1 H1 s1 k1 rx => ⟨B1, ρ, n1, _, R, F.step s1 k1, hb, ox.step s1, fun dy n2 hz y B2 H2 s2 k2 ry => ?_⟩⟩
  obtain ⟨ds, es, rfl, rfl, e1, e2, hl, p⟩ := hz
  obtain ⟨a1, xs, ea, h1, r1⟩ := q_tup (rx.mono s2.ext.hid s2.old) s2.sub
  obtain ⟨a2, ys, eb, h2, r2⟩ := q_tup ry s2.sub
  have n1' : xs ≠ [] := fun z => by rw [z] at r1; cases r1; exact e1 rfl
  have n2' : ys ≠ [] := fun z => by rw [z] at r2; cases r2; exact e2 rfl
  refine ⟨a1, a2, xs, ys, ea, eb, h1, h2, by rw [r1.length, r2.length]; exact hl, fun z => absurd z n1', fun _ z => absurd z n2', fun _ _ q hq => ?_⟩
  have st := s1.trans s2
  exact k _ n2 p (.ref q) (upd B2 q (.tup (xs ++ ys))) _ (st.put hq k2) (src_lay k2 hq) (.tup (SqT.of upd_same) ((r1.append r2).mono (same_upd (none_of st hq))))
/-- l[k] = x, l one's own -/
def mSetI (i : Nat) (te ti : M) : MS := fun De ρ n => ∃ ds, ρ[i]? = some (.own ds) ∧ te ρ n (fun d n1 => ti ρ n1 (fun k n2 => ∃ (j : Int) (m : Nat), k = .int j ∧ ixN ds.length j = some m ∧ De.nx (ρ.set i (.own (ds.set m d))) n2) De.ex) De.ex
theorem ds_setI {i : Nat} {x : Str} {e k : Expr} {te ti : M} {p1 p2 pos : Pos} (h : DE X C e te) (hk : DE X C k ti) (hN : X.N[i]? = some x := by rfl) (hv : Vis X.env.scope x := by first | exact Or.inl rfl | exact Or.inr (Or.inl rfl) | exact Or.inr (Or.inr rfl)) (hd : (x == ("__debug__" : Str)) = false := by decide)
    (hcd : (x == ("__classdict__" : Str)) = false := by decide)
    (hst : ∀ {te : TE} {g : TG}, PE X e te → PG X (.Subscript (.Name x p1) k p2) g → PS X (.Assign [.Subscript (.Name x p1) k p2] e pos) (tAsg te g) := by exact fun h g => ps_asg h g)
    (hsub : ∀ {to ti : TE} {t : TSet}, PE X (.Name x p1) to → PE X k ti → PSet X t → PG X (.Subscript (.Name x p1) k p2) (gSub to ti t) := by exact fun a b c => pg_sub a b c) :
    DS X C (.Assign [.Subscript (.Name x p1) k p2] e pos) (mSetI i te ti) :=
  ps_weak (hst h (hsub (pe_var hN hv hd hcd) hk set_list)) fun Z σ H ⟨B, ρ, n, De, F, ⟨ds, e, w⟩, nx, rt, ex, bk, ct⟩ => by
    refine ⟨B, ρ, n, _, De.ex, F, w, ex.lift F, fun dv n1 w2 v B1 H1 s1 k1 rv => ?_⟩
    have F1 := F.step s1 k1
    obtain ⟨p, vs, e1, e2, r⟩ := own_at F1 e
    refine ⟨_, e1, B1, ρ, n1, _, De.ex, F1, w2, (ex.lift F).step s1, fun dk n2 ⟨j, m, ek, em, q⟩ vk B2 H2 s2 k2 rk => ?_⟩
    subst ek
    cases rk
    have F2 := F1.step s2 k2
    obtain ⟨p', vs', e1', e2', r'⟩ := own_at F2 e
    rw [e1] at e1'; cases e1'
    exact ⟨p, vs', j, m, rfl, rfl, e2', by rw [r'.length]; exact em, nx _ n2 q σ B2 _ (s1.old.trans s2.old) (own_mut F2 e e1 (r'.set m (rv.mono s2.old)))⟩
abbrev fMulX := fIc (fun i j => decide ((Builtin.Int.intBits i : Int) + (Builtin.Int.intBits j : Int) ≤ 134217728)) fun i j => .int (i * j)
theorem f_mulX : OpF K cl (rI CMulX fun i j => .int (i * j)) fMulX := f_Ic (P := CMulX) (fun i j h => (of_decide_eq_true h : (Builtin.Int.intBits i : Int) + (Builtin.Int.intBits j : Int) ≤ 134217728)) fun _ _ _ => .int _
/-- a sign in a text -/
def fSign (neg : Bool) (x y : D) : Option D := match x, y with
  | .str a, .str z => match a.cps.toList with
    | [c] => some (.bool (if neg then !decide (c ∈ z.cps.toList) else decide (c ∈ z.cps.toList)))
    | _ => none
  | _, _ => none
theorem f_notSign : OpF K cl (fun x y H Q => ∃ (c : Nat) (z : Str), x = .str ⟨#[c]⟩ ∧ y = .str z ∧ Q (.bl (!decide (c ∈ z.cps.toList))) H) (fSign true) := fun A H x y dx dy z s hx hy e Q q => by
  cases hx <;> cases hy <;> first
    | (cases e; done)
    | skip
  rename_i a b
  have e' : (match a.cps.toList with | [c] => some (PyData.bool (!decide (c ∈ b.cps.toList))) | _ => none) = some z := e
  split at e'
  · rename_i c hc
    cases e'
    have ea : a = ⟨#[c]⟩ := by
      obtain ⟨⟨l⟩⟩ := a
      simp only at hc
      subst hc
      rfl
    exact ⟨c, b, by rw [ea], rfl, q _ fun _ => .bl _⟩
  · cases e'
/-! ### repr of all data -/
def fReprB (d : D) : Option D := if BR.shB d = true ∧ d.depth ≤ 64 ∧ d.plain = true ∧ d.shown.length ≤ sizeLine then some (.str d.shown) else none
def rReprB (K : Fg) : List V → Hp → VK → Prop := fun xs H Q => ∃ (v : V) (d : D), xs = [v] ∧ Dp K H v d ∧ BR.shB d = true ∧ d.depth ≤ 64 ∧ d.shown.length ≤ sizeLine ∧ Q (.str d.shown) H
theorem cr_reprB (hgd : X.A.guards = some []) (hu : X.A.units + 70 < cLine) (e2 : PySem.W.nsIn X.K cStatics "sys.int_max_str_digits" = some none) : CallR X (.builtin "repr") (rReprB X.K) := by
  intro pins s σ H xs us Q I r h
  obtain ⟨v, d, rfl, hd, h1, h2, h3, q⟩ := h
  obtain ⟨u, rfl, ru⟩ := vals1 r
  have L : BR.Lim s.heap := ⟨X.K, I.kIn, e2⟩
  cases hd with
  | non =>
    obtain rfl : u = Value.none := ru
    exact PySem.P.repr_of_none ⟨.str _, H, I.tok _, ⟨_, rfl⟩, q⟩
  | bl b =>
    obtain rfl : u = Value.bool b := ru
    exact PySem.P.repr_of_bool ⟨.str _, H, I.tok _, ⟨_, rfl⟩, q⟩
  | int i =>
    obtain ⟨t, rfl⟩ : ∃ t, u = Value.int i t := ru
    exact call_repr_slot (by omega) (typeIs_int s i t) PySem.F.slot_int_repr.toG (BR.call_int L (by simpa [BR.shB] using h1) ⟨_, _, rfl, .str _, H, I.tok _, ⟨_, rfl⟩, q⟩)
  | str x =>
    obtain ⟨t, rfl⟩ : ∃ t, u = Value.str x t := ru
    exact PySem.P.repr_of_str ⟨.str _, H, I.tok _, ⟨_, rfl⟩, q⟩ (by rw [PyData.shown] at h3; exact h3)
  | lst hs hall =>
    rename_i a vs ds
    obtain rfl : u = Value.ref a := ru
    obtain ⟨as, rd⟩ := Dp.reads I (.list ds) (.ref a) (.ref a) (.lst hs hall) (show RelV (.ref a) (.ref a) from rfl)
    exact BR.repr_ref L rd h1 hgd (by omega) (fun h' u tk k => ⟨.str _, H, I.kept k, ⟨u, rfl⟩, q⟩) h3
  | tup hs hall =>
    rename_i a vs ds
    obtain rfl : u = Value.ref a := ru
    obtain ⟨as, rd⟩ := Dp.reads I (.tuple ds) (.ref a) (.ref a) (.tup hs hall) (show RelV (.ref a) (.ref a) from rfl)
    exact BR.repr_ref L rd h1 hgd (by omega) (fun h' u tk k => ⟨.str _, H, I.kept k, ⟨u, rfl⟩, q⟩) h3
theorem f_reprB {K : Fg} {cl : Cl} : CF1 K cl (rReprB K) fReprB := fun A H x dx z s hx e Q q => by
  obtain ⟨⟨h1, h2, h3, h4⟩, rfl⟩ := ite_some' e
  exact ⟨x, dx, rfl, Dp.mono' hx s h3, h1, h2, h4, q _ fun _ => .str _⟩
/-! ### raise C(e) -/
def mRaise (c : Nat) (a : M) : MS := fun De ρ n => a ρ n (fun d n1 => De.ex ⟨c, [d]⟩ n1) De.ex
theorem ds_raise {nm fld : Str} {a : Expr} {m : M} {c : Nat} {Ad : Addr} {p pos pos2 : Pos} {k : Nat} (hc : X.calm = true) (T : DX.SxC X.K X.prog X.mg Ad nm fld) (hcl : C.cl.adr c = some Ad) (hfl : C.cl.flds c = [fld]) (hr : Room k X.A) (hk : 1 ≤ k) (tk : Takes X (fun cls d _ H => C.E cls d H)) (h : DE X C a m) (hg : Gl X nm)
    (he : starEach (a :: []) X.env = (false, eval a X.env) :: starEach [] X.env := by rfl) (hpl : (PySem.backTo pos (starEach [] X.env)).any (·.1) = false := by rfl) :
    DS X C (.Raise (some (.Call (.Name nm p) [a] [] pos)) none pos2) (mRaise c m) :=
  ps_weak (DX.ps_raiseX hc T hr hk tk (pa_cons h pa_nil he) hg he hpl) fun Z σ H ⟨B, ρ, n, De, F, w, nx, rt, ex, bk, ct⟩ =>
    ⟨B, ρ, n, _, De.ex, F, w, ex.lift F, fun d n1 p v B1 H1 s1 k1 r => ⟨v, rfl, fun q hq => ex ⟨c, [d]⟩ n1 p (.ref Ad) (some q) B1 _ ((F.entry.trans s1).lay hq) (src_lay k1 hq) ⟨Ad, hcl, rfl, .inr ⟨d, q, v, fld, rfl, rfl, hfl, upd_same, r⟩⟩⟩⟩
end
end DS

/-! P5: data of a bounded size: what it is asked. -/
namespace DS
open PySem L2
mutual
def szB : D → Nat
  | .none => 4
  | .bool _ => 5
  | .int _ => 3400
  | .str x => 10 * x.length + 2
  | .list l => 2 + szBs l
  | .tuple l => 3 + szBs l
  | .dict _ => 0
def szBs : List D → Nat
  | [] => 0
  | x :: r => szB x + 2 + szBs r
end
mutual
/-- numbers below 3300 bits, short texts of usual signs, no dict -/
def okB : D → Bool
  | .none | .bool _ => true
  | .int i => decide (i.natAbs.log2 < 3300)
  | .str x => decide (x.length ≤ 100) && x.cps.toList.all fun c => decide (c < 16 ^ 8)
  | .list l => okBs l
  | .tuple l => okBs l
  | .dict _ => false
def okBs : List D → Bool
  | [] => true
  | x :: r => okB x && okBs r
end
mutual
theorem okB_all : ∀ d : D, okB d = true → BR.shB d = true ∧ d.plain = true ∧ sane d = true ∧ d.shown.length ≤ szB d
  | .none, _ => ⟨rfl, rfl, rfl, by simp only [PyData.shown, szB]; decide +kernel⟩
  | .bool b, _ => ⟨rfl, rfl, rfl, by cases b <;> (simp only [PyData.shown, szB]; decide +kernel)⟩
  | .int i, h => by
    have h' : i.natAbs.log2 < 3300 := of_decide_eq_true (by simpa [okB] using h)
    refine ⟨by simpa [BR.shB] using h', rfl, rfl, ?_⟩
    simp only [PyData.shown, szB]
    have := int_text_length_le (k := 3300) (by decide) h'
    have e : (Str.ofString (toString i)).length = (toString i).length := ofString_length _
    show (Str.ofString (toString i)).length ≤ 3400
    omega
  | .str x, h => by
    have h' : x.length ≤ 100 ∧ x.cps.toList.all (fun c => decide (c < 16 ^ 8)) = true := by simpa [okB] using h
    refine ⟨rfl, rfl, ?_, ?_⟩
    · have := line_small (Nat.le_trans h'.1 (by decide : 100 ≤ 1000))
      simpa [sane] using this
    · simp only [PyData.shown, szB]
      exact StrLaws.reprText_len x fun c hc => of_decide_eq_true (List.all_eq_true.mp h'.2 c hc)
  | .list l, h => by
    obtain ⟨h1, h2, h3, h4⟩ := okBs_all l (by simpa [okB] using h)
    refine ⟨by simpa [BR.shB] using h1, by simpa [PyData.plain] using h2, by simpa [sane] using h3, ?_⟩
    simp only [PyData.shown, szB]
    have := lt_len (PyData.shownAll l)
    omega
  | .tuple l, h => by
    obtain ⟨h1, h2, h3, h4⟩ := okBs_all l (by simpa [okB] using h)
    refine ⟨by simpa [BR.shB] using h1, by simpa [PyData.plain] using h2, by simpa [sane] using h3, ?_⟩
    simp only [PyData.shown, szB]
    have := tt_len (PyData.shownAll l)
    omega
  | .dict _, h => by simp [okB] at h
theorem okBs_all : ∀ l : List D, okBs l = true → BR.shBs l = true ∧ PyData.plainAll l = true ∧ saneAll l = true ∧ piled (PyData.shownAll l) ≤ szBs l
  | [], _ => ⟨rfl, rfl, rfl, by simp [PyData.shownAll, piled, szBs]⟩
  | x :: r, h => by
    have h' : okB x = true ∧ okBs r = true := by simpa [okBs] using h
    obtain ⟨a1, a2, a3, a4⟩ := okB_all x h'.1
    obtain ⟨b1, b2, b3, b4⟩ := okBs_all r h'.2
    refine ⟨by simp [BR.shBs, a1, b1], by simp [PyData.plainAll, a2, b2], by simp [saneAll, a3, b3], ?_⟩
    simp only [PyData.shownAll, piled_cons, szBs]
    omega
end
/-- fit of level k: no deeper than k, no greater than z -/
structure Fit (k z : Nat) (d : D) : Prop where
  ok : okB d = true
  dp : d.depth ≤ k
  sz : szB d ≤ z
theorem Fit.le {k z k' z' : Nat} {d : D} (h : Fit k z d) (h1 : k ≤ k') (h2 : z ≤ z') : Fit k' z' d := ⟨h.ok, Nat.le_trans h.dp h1, Nat.le_trans h.sz h2⟩
theorem fits_all {k z : Nat} : ∀ {l : List D}, (∀ d ∈ l, Fit k z d) → okBs l = true ∧ PyData.depthAll l ≤ k ∧ szBs l ≤ l.length * (z + 2)
  | [], _ => ⟨rfl, by simp [PyData.depthAll], by simp [szBs]⟩
  | x :: r, h => by
    have hx := h x List.mem_cons_self
    obtain ⟨h1, h2, h3⟩ := fits_all (l := r) fun d m => h d (.tail _ m)
    refine ⟨by simp [okBs, hx.ok, h1], ?_, ?_⟩
    · simp only [PyData.depthAll]; have := hx.dp; omega
    · simp only [szBs, List.length_cons, Nat.succ_mul]; have := hx.sz; omega
theorem fit_tup {k z n : Nat} {l : List D} (h : ∀ d ∈ l, Fit k z d) (hn : l.length ≤ n) : Fit (k + 1) (3 + n * (z + 2)) (.tuple l) := by
  obtain ⟨h1, h2, h3⟩ := fits_all h
  refine ⟨by simpa [okB] using h1, by simp only [PyData.depth]; omega, ?_⟩
  simp only [szB]
  have := Nat.mul_le_mul_right (z + 2) hn
  omega
theorem fit_lst {k z n : Nat} {l : List D} (h : ∀ d ∈ l, Fit k z d) (hn : l.length ≤ n) : Fit (k + 1) (3 + n * (z + 2)) (.list l) := by
  obtain ⟨h1, h2, h3⟩ := fits_all h
  refine ⟨by simpa [okB] using h1, by simp only [PyData.depth]; omega, ?_⟩
  simp only [szB]
  have := Nat.mul_le_mul_right (z + 2) hn
  omega
/-- a value of the law -/
abbrev Val5 (d : D) : Prop := Fit 5 1000000 d
theorem Val5.repr {d : D} (h : Val5 d) : fReprB d = some (.str d.shown) := by
  obtain ⟨h1, h2, _, h4⟩ := okB_all d h.ok
  have := h.sz
  show (if _ then _ else _) = _
  rw [if_pos ⟨h1, Nat.le_trans h.dp (by decide), h2, by rw [sizeLine_eq]; omega⟩]
theorem Val5.sane {d : D} (h : Val5 d) : sane d = true := (okB_all d h.ok).2.2.1
theorem Val5.okD {d : D} (h : Val5 d) : okD d = true := by
  unfold DS.okD
  rw [(okB_all d h.ok).2.1, Bool.true_and]
  exact decide_eq_true (Nat.le_trans h.dp (by decide))
/-! ### atoms -/
abbrev Atom (d : D) : Prop := Fit 1 3400 d
theorem atom_int {i : Int} (h : i.natAbs.log2 < 3300) : Atom (.int i) := ⟨by simpa [okB] using h, by simp [PyData.depth], by simp [szB]⟩
theorem log_under {i : Int} {b : Nat} (hb : b ≤ 3300) (h1 : -(2 ^ b) < i) (h2 : i < 2 ^ b) : i.natAbs.log2 < 3300 := by
  by_cases h0 : i.natAbs = 0
  · rw [h0]; decide
  · refine Nat.lt_of_lt_of_le ((Nat.log2_lt h0).mpr ?_) hb
    have e : ((2 ^ b : Nat) : Int) = (2 : Int) ^ b := by push_cast; rfl
    omega
theorem atom_small {i : Int} (h1 : -(2 ^ 128) < i) (h2 : i < 2 ^ 128) : Atom (.int i) := atom_int (log_under (b := 128) (by decide) h1 h2)
theorem atom_none : Atom .none := ⟨rfl, by simp [PyData.depth], by simp [szB]⟩
theorem atom_bool (b : Bool) : Atom (.bool b) := ⟨rfl, by simp [PyData.depth], by simp [szB]⟩
theorem atom_str {s : Str} (h : s.length ≤ 100) (h2 : s.cps.toList.all (fun c => decide (c < 16 ^ 8)) = true) : Atom (.str s) := ⟨by simp [okB, h, h2], by simp [PyData.depth], by simp only [szB]; omega⟩
theorem nameOk_atom {s : Str} (h : nameOk s = true) : Atom (.str s) := by
  refine atom_str (Nat.le_trans (nameOk_len h) (by decide)) ?_
  simp only [nameOk, Bool.and_eq_true] at h
  rw [List.all_eq_true] at h ⊢
  intro c hc
  have := h.2 c hc
  simp only [letter, Bool.and_eq_true, decide_eq_true_eq] at this
  exact decide_eq_true (by omega)
theorem enc_atoms {a : Gr} (h : okGr a = true) : ∀ d ∈ ([.int a.t, .str a.g, .str a.k, .int a.l, .int a.p] : List D), Atom d := by
  obtain ⟨⟨h0, h0'⟩, h1, h2, h3, ⟨h4, h4'⟩, h5, h5'⟩ := okGr_iff h
  have hb : big < 2 ^ 128 := by decide
  intro d hd
  simp only [List.mem_cons, List.not_mem_nil, or_false] at hd
  rcases hd with rfl | rfl | rfl | rfl | rfl
  · exact atom_small (by omega) (by omega)
  · exact nameOk_atom h1
  · exact nameOk_atom h2
  · exact atom_small (by omega) (by omega)
  · exact atom_small (by omega) (by omega)
theorem enc_fit {a : Gr} (h : okGr a = true) : Fit 2 20415 (enc a) := (fit_tup (n := 6) (enc_atoms h) (by simp)).le (by decide) (by decide)
/-- what grant_error says of nothing wrong: a grant -/
theorem gerr_none {d : D} (h : gerr d = .none) : ∃ a, d = enc a ∧ okGr a = true := by
  cases d with
  | tuple l =>
    match l, h with
    | [t, g, k, l, q], h =>
      rw [gerr5] at h
      split at h
      · cases h
      rename_i c1
      split at h
      · cases h
      rename_i c2
      split at h
      · cases h
      rename_i c3
      split at h
      · cases h
      rename_i c4
      split at h
      · cases h
      rename_i c5
      split at h
      · cases h
      rename_i c6
      simp only [Bool.not_eq_false] at c1 c2 c3 c5 c6
      obtain ⟨sg, rfl⟩ := isName_str c2
      obtain ⟨sk, rfl⟩ := isName_str c3
      cases t <;> simp only [within] at c1 <;> first
        | (exact absurd c1 Bool.false_ne_true)
        | skip
      cases l <;> simp only [within] at c5 <;> first
        | (exact absurd c5 Bool.false_ne_true)
        | skip
      cases q <;> simp only [within] at c6 <;> first
        | (exact absurd c6 Bool.false_ne_true)
        | skip
      rename_i t l q
      refine ⟨⟨t, sg, sk, l, q⟩, rfl, ?_⟩
      have e : (sg == sk) = false := by
        have : PyData.eqv (.str sg) (.str sk) = false := by simpa using c4
        simpa only [PyData.eqv] using this
      simp only [Bool.and_eq_true, decide_eq_true_eq] at c1 c5 c6
      have n1 : nameOk sg = true := c2
      have n2 : nameOk sk = true := c3
      simp [okGr, c1.1, c1.2, n1, n2, e, c5.1, c5.2, c6.1, c6.2]
    | [], h => cases h
    | [_], h => cases h
    | [_, _], h => cases h
    | [_, _, _], h => cases h
    | [_, _, _, _], h => cases h
    | _ :: _ :: _ :: _ :: _ :: _ :: _, h => cases h
  | none => cases h
  | bool _ => cases h
  | int _ => cases h
  | str _ => cases h
  | list _ => cases h
  | dict _ => cases h
/-- a reason -/
def isR (d : D) : Prop := d = .none ∨ ∃ s : Str, d = .tuple [.str s]
theorem gerr_r (d : D) : isR (gerr d) := by
  cases d with
  | tuple l =>
    match l with
    | [t, g, k, l, q] =>
      rw [gerr5]
      repeat' split
      all_goals first
        | exact .inl rfl
        | exact .inr ⟨_, rfl⟩
    | [] => exact .inr ⟨_, rfl⟩
    | [_] => exact .inr ⟨_, rfl⟩
    | [_, _] => exact .inr ⟨_, rfl⟩
    | [_, _, _] => exact .inr ⟨_, rfl⟩
    | [_, _, _, _] => exact .inr ⟨_, rfl⟩
    | _ :: _ :: _ :: _ :: _ :: _ :: _ => exact .inr ⟨_, rfl⟩
  | none => exact .inr ⟨_, rfl⟩
  | bool _ => exact .inr ⟨_, rfl⟩
  | int _ => exact .inr ⟨_, rfl⟩
  | str _ => exact .inr ⟨_, rfl⟩
  | list _ => exact .inr ⟨_, rfl⟩
  | dict _ => exact .inr ⟨_, rfl⟩
theorem isR.okD {d : D} (h : isR d) : okD d = true := by
  rcases h with rfl | ⟨s, rfl⟩
  · rfl
  · unfold DS.okD
    have e1 : (PyData.tuple [.str s]).plain = true := by simp [PyData.plain, PyData.plainAll]
    have e2 : (PyData.tuple [.str s]).depth ≤ 64 := by simp [PyData.depth, PyData.depthAll]
    rw [e1, decide_eq_true e2]; rfl
theorem isR.eqv {d : D} (h : isR d) : PyData.eqv d d = true := by
  rcases h with rfl | ⟨s, rfl⟩
  · rfl
  · simp [PyData.eqv, PyData.eqvAll]
theorem for_inv5 {gd : GD} {body : MS} {De : DEnds} (I : Nat → Env → Nat → Prop) (ds : List D) {ρ : Env} {n : Nat}
    (turn : ∀ (i : Nat) (d : D) (ρ : Env) (n : Nat) (X : Env → Nat → Prop), ds[i]? = some d → I i ρ n → (∀ ρ' n', I (i + 1) ρ' n' → X ρ' n') → ∃ ρ1, gd d ρ = some ρ1 ∧ body { De with nx := X, ct := X, bk := De.nx } ρ1 n)
    (h0 : I 0 ρ n) (hd : ∀ ρ n, I ds.length ρ n → De.nx ρ n) : forW gd body De ds ρ n := by
  have go : ∀ (r : List D) (i : Nat) (ρ : Env) (n : Nat), ds.drop i = r → i ≤ ds.length → I i ρ n → forW gd body De r ρ n := by
    intro r
    induction r with
    | nil =>
      intro i ρ n e hi h
      have : ds.length ≤ i := List.drop_eq_nil_iff.mp e
      have : i = ds.length := by omega
      subst this
      exact hd ρ n h
    | cons d r ih =>
      intro i ρ n e hi h
      have hlt : i < ds.length := by
        by_cases z : i < ds.length
        · exact z
        · rw [List.drop_eq_nil_iff.mpr (by omega)] at e; cases e
      have e2 := List.drop_eq_getElem_cons hlt
      rw [e] at e2
      injection e2 with e3 e4
      obtain ⟨ρ1, g, b⟩ := turn i d ρ n (forW gd body De r) (by rw [List.getElem?_eq_getElem hlt, e3]) h fun ρ' n' q => ih (i + 1) ρ' n' e4.symm (by omega) q
      exact ⟨ρ1, g, b⟩
  exact go ds 0 ρ n rfl (Nat.zero_le _) h0
end DS

/-! P6: law k01: the program's supports that may raise, what the law expects, great numbers, words, grants. -/
namespace DS
open PySem L2
local macro_rules | `(tactic| walk_at "ev") => `(tactic| simp only [mRaise, mLof, mTof, mBack, mCatT, mSlT, mSetI, mNoP, mPart, mCat, mSeq, mRet, mVar, mVarQ, slD, mC, m1, m2, mT, mNot, mAnd, mOr, mAndV, mOrV, mNotV, mIf, mChain, mNil, mCons, mSrc, mTup, mLst, mCall, mIx, mL, mIs, mIfS, mNext, mSet, mOwn, mRetO, mRetN, mExp, mPar, mNev, datAll, gdName, gdTup, setAll, fI, fIc, fNeg, fLen, fInt, fAbs, fIsN, env0, wipeR,
  is_int_NoneType, is_int_bool, is_int_int, is_int_str, is_int_list, is_int_tuple, is_bool_NoneType, is_bool_bool, is_bool_int, is_bool_str, is_bool_list, is_bool_tuple, is_str_NoneType, is_str_bool, is_str_int, is_str_str, is_str_list, is_str_tuple, is_tuple_NoneType, is_tuple_bool, is_tuple_int, is_tuple_str, is_tuple_list, is_tuple_tuple, is_list_NoneType, is_list_bool, is_list_int, is_list_str, is_list_list, is_list_tuple,
  List.map, List.length_cons, List.length_nil, List.getElem?_cons_zero, List.getElem?_cons_succ, List.set_cons_zero, List.set_cons_succ, List.replicate, List.append_assoc, List.cons_append, List.nil_append, Option.map_some, Option.some.injEq, Sl.dat.injEq, Sl.own.injEq, exists_eq_left', exists_eq_left, exists_and_left, exists_and_right, true_and, and_true, Bool.true_eq_false, if_true, if_false, reduceIte, Bool.false_eq_true, Bool.not_true, Bool.not_false, PyData.bool.injEq, PyData.int.injEq, PyData.str.injEq, PyData.tuple.injEq, PyData.list.injEq, Nat.reduceAdd, Nat.reduceSub, Option.map_none, decide_eq_true_eq, ex_if, eq_ints, eq_strs, eq_bools, ix0, ix1, ix2, ix3, ix4, lx0, lx1, lx2, lx3])
/-! ### supports, that may raise -/
def g_supports_x : G := fun as n P R => ∃ x y : D, as = [.dat x, .dat y] ∧ sane x = true ∧ sane y = true ∧ (gerr x ≠ .none → R ⟨0, [gerr x]⟩ n) ∧ (gerr x = .none → gerr y ≠ .none → R ⟨0, [gerr y]⟩ n) ∧ (gerr x = .none → gerr y = .none → ∀ b, P (.bool b) n)
def N_supports_x : List Str := ["first", "second", "value", "reason"]
def b_supports_x_1 : MS := (mSeq (mSet (mCall g_grant_error 1 (mCons (mVar 2) mNil)) (gdName 3))
    (mIfS (mT (m2 (fIsN true) (mVarQ 3) (mC .none))) (mRaise 0 (mVar 3)) mNext))
def m_supports_x : MS := (mSeq (mFor (mItemsT (mTup (mCons (mVar 0) (mCons (mVar 1) mNil)))) (gdName 2) b_supports_x_1)
    (mRet (mCall g_backs 2 (mCons (mVar 0) (mCons (mVar 1) mNil)))))
theorem t_supports_x {De : DEnds} {x y d : D} {s3 : Sl} {n : Nat} (hs : sane d = true) (h1 : gerr d ≠ .none → De.ex ⟨0, [gerr d]⟩ n) (h2 : gerr d = .none → De.nx [.dat x, .dat y, .dat d, .dat .none] n) : b_supports_x_1 De [.dat x, .dat y, .dat d, s3] n := by
  unfold b_supports_x_1
  walk_at "ev"
  refine gF_at (ds := [d]) (if_pos hs) ?_
  rcases gerr_r d with e | ⟨s, e⟩
  · rw [e]
    walk_at "ev"
    exact h2 e
  · have h1' := h1 (by rw [e]; exact fun z => by cases z)
    rw [e] at h1' ⊢
    walk_at "ev"
    exact h1'
theorem pr_supports_x (as n P R) (hl : as.length = 2) (h : g_supports_x as n P R) : m_supports_x (ends P R) (env0 as N_supports_x.length) n := by
  obtain ⟨x, y, rfl, hx, hy, h1, h2, h3⟩ := h
  show m_supports_x (ends P R) (env0 [.dat x, .dat y] 4) n
  unfold m_supports_x mFor mItemsT
  walk_at "ev"
  refine ⟨line2, _, rfl, ?_⟩
  refine t_supports_x hx h1 fun ex => ?_
  refine ⟨_, rfl, ?_⟩
  refine t_supports_x hy (h2 ex) fun ey => ?_
  obtain ⟨a, rfl, ha⟩ := gerr_none ex
  obtain ⟨b, rfl, hb⟩ := gerr_none ey
  walk_at "ev"
  show ∃ d, _ ∧ ∃ d_1, _ ∧ g_backs [Sl.dat d, Sl.dat d_1] n P R
  exact ⟨_, rfl, _, rfl, gF_at (f := f_backs) (ds := [enc a, enc b]) (z := .bool (bk a b)) rfl (h3 ex ey _)⟩
/-! ### what the law expects -/
abbrev g_law_is_within : G := gF f_within
def N_law_is_within : List Str := ["value", "least", "most"]
def m_law_is_within : MS := (mRet (mAndV (mIs "int" (mVarQ 0)) (mAndV (mNotV (mIs "bool" (mVarQ 0))) (mAndV (m2 fGe (mVarQ 0) (mVarQ 1)) (m2 fLe (mVarQ 0) (mVarQ 2))))))
theorem pr_law_is_within (as n P R) (hl : as.length = 3) (h : g_law_is_within as n P R) : m_law_is_within (ends P R) (env0 as N_law_is_within.length) n := by
  obtain ⟨ds, z, rfl, e, p⟩ := h
  match ds, e with
  | [d, .int lo, .int hi], e =>
    obtain ⟨c, rfl⟩ := ite_some' e
    show m_law_is_within (ends P R) (env0 [.dat d, .dat (.int lo), .dat (.int hi)] 3) n
    unfold m_law_is_within
    cases d <;> first
      | (cases c; done)
      | (walk_at "ev"; exact p)
      | skip
    rename_i i _
    walk_at "ev"
    by_cases h1 : lo ≤ i
    · rw [if_pos h1]; simpa [within, h1] using p
    · rw [if_neg h1]; simpa [within, h1] using p
/-! ### a word -/
theorem alpha_is : ("abcdefghijklmnopqrstuvwxyz" : Str).cps.toList = List.range' 97 26 := by decide +kernel
theorem alpha_mem (c : Nat) : decide (c ∈ ("abcdefghijklmnopqrstuvwxyz" : Str).cps.toList) = letter c := by
  rw [alpha_is]
  by_cases h : 97 ≤ c ∧ c ≤ 122
  · have : c ∈ List.range' 97 26 := List.mem_range'_1.mpr ⟨h.1, by omega⟩
    simp [letter, this, h.1, h.2]
  · have : ¬ c ∈ List.range' 97 26 := fun z => by
      have := List.mem_range'_1.mp z
      exact h ⟨this.1, by omega⟩
    simp only [letter, this, decide_false]
    by_cases h1 : 97 ≤ c
    · have h2 : ¬ c ≤ 122 := fun z => h ⟨h1, z⟩
      simp [h2]
    · simp [h1]
theorem flat_ok {l : List D} (h : ∀ d ∈ l, ∃ s, d = .str s) : PyData.plainAll l = true ∧ PyData.depthAll l ≤ 1 := by
  induction l with
  | nil => exact ⟨rfl, by simp [PyData.depthAll]⟩
  | cons x r ih =>
    obtain ⟨s, rfl⟩ := h _ List.mem_cons_self
    obtain ⟨i1, i2⟩ := ih fun d m => h d (.tail _ m)
    exact ⟨by simp [PyData.plainAll, PyData.plain, i1], by simp only [PyData.depthAll, PyData.depth]; omega⟩
theorem okD_flat {l : List D} (h : ∀ d ∈ l, ∃ s, d = .str s) : okD (.list l) = true := by
  obtain ⟨h1, h2⟩ := flat_ok h
  unfold okD
  have e : (PyData.list l).depth ≤ 64 := by simp only [PyData.depth]; omega
  have e1 : (PyData.list l).plain = true := by simpa [PyData.plain] using h1
  rw [e1, decide_eq_true e]; rfl
abbrev g_law_is_word : G := gF f_name
def N_law_is_word : List Str := ["value", "letter"]
def m_law_is_word : MS := (mSeq (mIfS (mOr (mNot (mT (mIs "str" (mVarQ 0)))) (mOr (mT (m2 fLt (m1 fLen (mVarQ 0)) (mC (.int 1)))) (mT (m2 fGt (m1 fLen (mVarQ 0)) (mC (.int 8)))))) (mRet (mC (.bool false))) mNext)
    (mRet (m2 (fEq false) (mL (mComp (mSigns (mVar 0)) (gdName 1) [1] (mT (m2 (fSign true) (mVarQ 1) (mC (.str "abcdefghijklmnopqrstuvwxyz")))) (mVar 1))) (mL (mLst mNil)))))
def badSign : D → Bool
  | .str x => !(x.cps.toList.all letter)
  | _ => false
theorem pr_law_is_word (as n P R) (hl : as.length = 1) (h : g_law_is_word as n P R) : m_law_is_word (ends P R) (env0 as N_law_is_word.length) n := by
  obtain ⟨ds, z, rfl, e, p⟩ := h
  match ds, e with
  | [d], e =>
    obtain ⟨c, rfl⟩ := ite_some' e
    show m_law_is_word (ends P R) (env0 [.dat d] 2) n
    unfold m_law_is_word
    cases d with
    | dict _ => cases c
    | str s =>
      have hs : s.length ≤ sizeLine := of_decide_eq_true c
      walk_at "ev"
      refine ⟨hs, ?_⟩
      by_cases h1 : (s.length : Int) < 1
      · rw [if_pos h1]
        have h3 : ¬ 1 ≤ s.length := by omega
        simpa [isName, h3] using p
      · rw [if_neg h1]
        refine ⟨hs, ?_⟩
        by_cases h2 : 8 < (s.length : Int)
        · rw [if_pos h2]
          have h4 : ¬ s.length ≤ 8 := by omega
          simpa [isName, h4] using p
        · rw [if_neg h2]
          unfold mComp mSigns
          walk_at "ev"
          refine comp_pure badSign (fun d => d) _ _ (fun d hd => ⟨_, rfl, fun Q q => ?_⟩) (fun d hd ρ1 e _ Q q => ?_) ?_ ?_
          · unfold signs at hd
            obtain ⟨c, _, rfl⟩ := List.mem_map.mp hd
            walk_at "ev"
            refine ⟨.bool (!letter c), ?_, ?_⟩
            · show some (PyData.bool (!decide (c ∈ ("abcdefghijklmnopqrstuvwxyz" : Str).cps.toList))) = _
              rw [alpha_mem]
            · have q' : Q (!letter c) n := by simpa [badSign] using q
              exact ⟨_, rfl, q'⟩
          · cases e
            walk_at "ev"
            exact q
          · simp only [List.length_nil, signs, List.length_map, Array.length_toList]
            have : s.cps.size = s.length := rfl
            omega
          · have hm : List.map (fun d => d) (List.filter badSign (signs s)) = List.filter badSign (signs s) := List.map_id' _
            have fl : ∀ d ∈ List.filter badSign (signs s), ∃ x, d = .str x := fun d hd => by
              have := (List.mem_filter.mp hd).1
              unfold signs at this
              obtain ⟨c, _, rfl⟩ := List.mem_map.mp this
              exact ⟨_, rfl⟩
            refine ⟨Nat.zero_le _, .bool (s.cps.toList.all letter), ?_, ?_⟩
            · rw [List.nil_append, hm]
              show (if _ then _ else _) = _
              rw [if_pos ⟨okD_flat fl, okD_flat (fun _ z => nomatch z)⟩]
              have e1 : PyData.eqv (.list (List.filter badSign (signs s))) (.list []) = (List.filter badSign (signs s)).isEmpty := by
                cases List.filter badSign (signs s) <;> simp [PyData.eqv, PyData.eqvAll]
              rw [if_neg Bool.false_ne_true, e1]
              congr 2
              cases ha : s.cps.toList.all letter with
              | true =>
                have : List.filter badSign (signs s) = [] := by
                  rw [List.filter_eq_nil_iff]
                  intro d hd
                  unfold signs at hd
                  obtain ⟨c, hc, rfl⟩ := List.mem_map.mp hd
                  have := List.all_eq_true.mp ha c hc
                  simp [badSign, this]
                rw [this]; rfl
              | false =>
                obtain ⟨c, hc, hl⟩ := List.all_eq_false.mp ha
                have : PyData.str ⟨#[c]⟩ ∈ List.filter badSign (signs s) := by
                  refine List.mem_filter.mpr ⟨?_, ?_⟩
                  · unfold signs; exact List.mem_map.mpr ⟨c, hc, rfl⟩
                  · simpa [badSign] using hl
                cases hq : List.filter badSign (signs s) with
                | nil => rw [hq] at this; cases this
                | cons _ _ => rfl
            · have h3 : 1 ≤ s.length := by omega
              have h4 : s.length ≤ 8 := by omega
              simpa [isName, h3, h4] using p
    | _ =>
      walk_at "ev"
      exact p

/-! ### what is expected -/
theorem big_eq : (10 : Int) ^ Int.toNat 30 = big := by decide +kernel
theorem big_neg : (0 : Int) - 10 ^ Int.toNat 30 = -big := by decide +kernel
abbrev g_law_expected : G := gF f_gerr
def N_law_expected : List Str := ["value"]
def m_law_expected : MS := (mSeq (mIfS (mOr (mNot (mT (mIs "tuple" (mVarQ 0)))) (mT (m2 (fEq true) (m1 fLen (mVarQ 0)) (mC (.int 5))))) (mRet (mTup (mCons (mC (.str "grant")) mNil))) mNext)
    (mSeq (mIfS (mNot (mT (mCall g_law_is_within 3 (mCons (mIx (mVarQ 0) (mC (.int 0))) (mCons (m2 fSub (mC (.int 0)) (m2 fPow (mC (.int 10)) (mC (.int 30)))) (mCons (m2 fPow (mC (.int 10)) (mC (.int 30))) mNil)))))) (mRet (mTup (mCons (mC (.str "time")) mNil))) mNext)
    (mSeq (mIfS (mNot (mT (mCall g_law_is_word 1 (mCons (mIx (mVarQ 0) (mC (.int 1))) mNil)))) (mRet (mTup (mCons (mC (.str "giver")) mNil))) mNext)
    (mSeq (mIfS (mNot (mT (mCall g_law_is_word 1 (mCons (mIx (mVarQ 0) (mC (.int 2))) mNil)))) (mRet (mTup (mCons (mC (.str "taker")) mNil))) mNext)
    (mSeq (mIfS (mT (m2 (fEq false) (mIx (mVarQ 0) (mC (.int 1))) (mIx (mVarQ 0) (mC (.int 2))))) (mRet (mTup (mCons (mC (.str "same")) mNil))) mNext)
    (mSeq (mIfS (mNot (mT (mCall g_law_is_within 3 (mCons (mIx (mVarQ 0) (mC (.int 3))) (mCons (mC (.int 1)) (mCons (mC (.int 9)) mNil)))))) (mRet (mTup (mCons (mC (.str "level")) mNil))) mNext)
    (mRet (mIx (mL (mLst (mCons (mTup (mCons (mC (.str "passes")) mNil)) (mCons (mC .none) mNil)))) (m1 fInt (mCall g_law_is_within 3 (mCons (mIx (mVarQ 0) (mC (.int 4))) (mCons (mC (.int 0)) (mCons (mC (.int 20)) mNil)))))))))))))
theorem pr_law_expected (as n P R) (hl : as.length = 1) (h : g_law_expected as n P R) : m_law_expected (ends P R) (env0 as N_law_expected.length) n := by
  obtain ⟨ds, z, rfl, e, p⟩ := h
  match ds, e with
  | [d], e =>
    obtain ⟨c, rfl⟩ := ite_some' e
    show m_law_expected (ends P R) (env0 [.dat d] 1) n
    unfold m_law_expected
    cases d with
    | dict _ => cases c
    | tuple l =>
      match l, c, p with
      | [t, g, k, l, q], c, p =>
        simp only [sane, saneAll, Bool.and_eq_true] at c
        obtain ⟨c1, c2, c3, c4, c5, _⟩ := c
        walk_at "ev"
        rw [if_neg (by decide)]
        rw [big_neg, big_eq]
        refine ⟨by decide, by decide, ?_⟩
        refine gF_at (ds := [t, .int (-big), .int big]) (if_pos (sane_pl c1)) ⟨_, rfl, ?_⟩
        rw [gerr5] at p
        cases h1 : within t (-big) big with
        | false => rw [if_pos h1] at p; exact ⟨line1, p⟩
        | true =>
        rw [if_neg (by rw [h1]; decide)] at p
        refine iteF ?_
        refine gF_at (ds := [g]) (if_pos (sane_pl c2)) ⟨_, rfl, ?_⟩
        cases h2 : isName g with
        | false => rw [if_pos h2] at p; exact ⟨line1, p⟩
        | true =>
        rw [if_neg (by rw [h2]; decide)] at p
        refine iteF ?_
        refine gF_at (ds := [k]) (if_pos (sane_pl c3)) ⟨_, rfl, ?_⟩
        cases h3 : isName k with
        | false => rw [if_pos h3] at p; exact ⟨line1, p⟩
        | true =>
        rw [if_neg (by rw [h3]; decide)] at p
        refine iteF ?_
        obtain ⟨x, rfl⟩ := isName_str h2
        obtain ⟨y, rfl⟩ := isName_str h3
        refine ⟨_, eq_strs _ _ _, _, rfl, ?_⟩
        have ev : PyData.eqv (.str x) (.str y) = (x == y) := by simp [PyData.eqv]
        rw [ev] at p
        cases h4 : x == y with
        | true => rw [if_pos h4] at p; exact ⟨line1, p⟩
        | false =>
        rw [if_neg (by rw [h4]; decide)] at p
        refine iteF ?_
        refine gF_at (ds := [l, .int 1, .int 9]) (if_pos (sane_pl c4)) ⟨_, rfl, ?_⟩
        cases h5 : within l 1 9 with
        | false => rw [if_pos h5] at p; exact ⟨line1, p⟩
        | true =>
        rw [if_neg (by rw [h5]; decide)] at p
        refine iteF ?_
        refine ⟨line1, line2, ?_⟩
        refine gF_at (ds := [q, .int 0, .int 20]) (if_pos (sane_pl c5)) ⟨_, rfl, ?_⟩
        cases h6 : within q 0 20 with
        | false => rw [if_pos h6] at p; exact ⟨_, lx0 _ _, p⟩
        | true =>
        rw [if_neg (by rw [h6]; decide)] at p
        exact ⟨_, lx1 _ _ _, p⟩
      | [], c, p => walk_at "ev"; exact ⟨line1, p⟩
      | [_], c, p => walk_at "ev"; exact ⟨line1, p⟩
      | [_, _], c, p => walk_at "ev"; exact ⟨line1, p⟩
      | [_, _, _], c, p => walk_at "ev"; exact ⟨line1, p⟩
      | [_, _, _, _], c, p => walk_at "ev"; exact ⟨line1, p⟩
      | _ :: _ :: _ :: _ :: _ :: _ :: r, c, p =>
        walk_at "ev"
        rw [if_pos (by simp; omega)]
        exact ⟨line1, p⟩
    | _ =>
      walk_at "ev"
      exact ⟨line1, p⟩
/-! ### great numbers -/
def great : Int := 10 ^ 960
def g_law_great : G := fun as n P _ => as = [] ∧ P (.int great) n
def N_law_great : List Str := ["great", "k"]
def b_law_great_1 : MS := (mSet (m2 fMulX (mVarQ 0) (m2 fPow (mC (.int 10)) (mC (.int 60)))) (gdName 0))
def m_law_great : MS := (mSeq (mSet (m2 fPow (mC (.int 10)) (mC (.int 60))) (gdName 0))
    (mSeq (mFor (mRng1 (mC (.int 15))) (gdName 1) b_law_great_1)
    (mRet (mVar 0))))
theorem mulx_bits : ∀ i : Nat, i < 15 → (Builtin.Int.intBits ((10 : Int) ^ (60 * (i + 1))) : Int) + (Builtin.Int.intBits ((10 : Int) ^ Int.toNat 60) : Int) ≤ 134217728 := by decide +kernel
theorem mulx_pow (i : Nat) : (10 : Int) ^ (60 * (i + 1)) * 10 ^ Int.toNat 60 = 10 ^ (60 * (i + 1 + 1)) := by
  rw [← Int.pow_add]
  congr 1
theorem pr_law_great (as n P R) (hl : as.length = 0) (h : g_law_great as n P R) : m_law_great (ends P R) (env0 as N_law_great.length) n := by
  obtain ⟨rfl, p⟩ := h
  show m_law_great (ends P R) (env0 [] 2) n
  unfold m_law_great mFor mRng1
  walk_at "ev"
  refine ⟨by decide, by decide, ?_⟩
  refine for_inv5 (fun i ρ n' => n' = n ∧ ∃ s, ρ = [.dat (.int (10 ^ (60 * (i + 1)))), s]) (rngD 0 (Int.toNat 15)) (fun i d ρ n' X hd h hX => ?_) ⟨rfl, _, rfl⟩ (fun ρ n' h => ?_)
  · obtain ⟨hn', s, e⟩ := h
    subst e hn'
    have hi : i < 15 := by
      have := (List.getElem?_eq_some_iff.mp hd).1
      simpa [rngD] using this
    refine ⟨_, rfl, ?_⟩
    unfold b_law_great_1
    walk_at "ev"
    refine ⟨by decide, mulx_bits i hi, hX _ _ ⟨rfl, .dat d, ?_⟩⟩
    rw [mulx_pow]
  · obtain ⟨e1, s, e2⟩ := h
    subst e1 e2
    exact ⟨_, rfl, p⟩
/-! ### words -/
def g_law_word : G := fun as n P _ => ∃ k : Nat, as = [.src, .dat (.int (k : Int))] ∧ k ≤ 8 ∧ 1 ≤ k ∧ k ≤ n ∧ ∀ s : Str, s.length = k → nameOk s = true → P (.str s) (n - k)
def N_law_word : List Str := ["source", "size", "k"]
def m_law_word : MS := (mRet (mJoin (mC (.str "")) (mL (mComp (mRng1 (mVar 1)) (gdName 2) [2] mYes (mIx (mC (.str "abcdefghijklmnopqrstuvwxyz")) (mCall g_law_draw 2 (mSrc 0 (mCons (mC (.int 26)) mNil))))))))
theorem alpha_at {k : Int} (h0 : 0 ≤ k) (h1 : k < 26) : ∃ c : Nat, letter c = true ∧ fIx (.str "abcdefghijklmnopqrstuvwxyz") (.int k) = some (.str ⟨#[c]⟩) := by
  have hl : ("abcdefghijklmnopqrstuvwxyz" : Str).length ≤ sizeLine := line_small (by decide)
  refine ⟨97 + k.toNat, ?_, ?_⟩
  · simp only [letter, Bool.and_eq_true, decide_eq_true_eq]; omega
  · have e0 : fIx (.str "abcdefghijklmnopqrstuvwxyz") (.int k) = if ("abcdefghijklmnopqrstuvwxyz" : Str).length ≤ sizeLine then (atI ("abcdefghijklmnopqrstuvwxyz" : Str).cps.toList k).map fun c => PyData.str ⟨#[c]⟩ else none := rfl
    rw [e0, if_pos hl, alpha_is]
    unfold atI ixN
    rw [if_pos h0, List.length_range', if_pos (by omega)]
    show ((List.range' 97 26)[k.toNat]?).map _ = _
    rw [List.getElem?_range' (by omega)]
    simp
theorem comp_word {P : List D → Nat → Prop} {ρ : Env} (hρ : ∃ s t, ρ = [.src, s, t]) : ∀ (ds : List D) (acc : List Nat) (n : Nat), ds.length ≤ n → acc.length + ds.length ≤ 100 → (∀ c ∈ acc, letter c = true) →
    (∀ l : List Nat, l.length = acc.length + ds.length → (∀ c ∈ l, letter c = true) → P (l.map fun c => .str ⟨#[c]⟩) (n - ds.length)) →
    compW (gdName 2) mYes (mIx (mC (.str "abcdefghijklmnopqrstuvwxyz")) (mCall g_law_draw 2 (mSrc 0 (mCons (mC (.int 26)) mNil)))) ρ P ds (acc.map fun c => .str ⟨#[c]⟩) n
  | [], acc, n, _, _, ha, p => by
    have := p acc (by simp) ha
    simpa [compW] using this
  | d :: ds, acc, n, h1, h2, ha, p => by
    obtain ⟨s, t, rfl⟩ := hρ
    rw [List.length_cons] at h1 h2
    refine ⟨_, rfl, ?_⟩
    simp only [mYes, if_true]
    walk_at "ev"
    refine draw_at (by decide) (by decide) (by show 0 < n; omega) fun k k0 k1 => ?_
    obtain ⟨c, hc, e⟩ := alpha_at k0 k1
    refine ⟨_, e, ?_, ?_⟩
    · rw [List.length_map]; exact Nat.lt_of_lt_of_le (by omega) (line_small (n := 1000) (by decide))
    · have go := comp_word (P := P) ⟨s, t, rfl⟩ ds (acc ++ [c]) (n - 1) (by omega) (by rw [List.length_append, List.length_singleton]; omega) (fun x hx => by
          rcases List.mem_append.mp hx with h | h
          · exact ha x h
          · rw [List.mem_singleton.mp h]; exact hc) (fun l hl hx => by
          have := p l (by rw [hl, List.length_append, List.length_singleton, List.length_cons]; omega) hx
          rw [List.length_cons] at this
          have e : n - (ds.length + 1) = n - 1 - ds.length := by omega
          rw [e] at this
          exact this)
      simpa [mIx] using go
theorem txts_signs : ∀ l : List Nat, txts (l.map fun c => PyData.str ⟨#[c]⟩) = some (l.map fun c => (⟨#[c]⟩ : Str))
  | [] => rfl
  | c :: l => by
    show (txts (l.map fun c => PyData.str ⟨#[c]⟩)).map _ = _
    rw [txts_signs l]; rfl
theorem joinL_signs : ∀ l : List Nat, TL.joinL [] (l.map fun c => [c]) = l
  | [] => rfl
  | [_] => rfl
  | a :: b :: r => by
    show [a] ++ ([] ++ TL.joinL [] ((b :: r).map fun c => [c])) = _
    rw [joinL_signs (b :: r)]; rfl
theorem join_signs (l : List Nat) : (Txt.join ("" : Str) (l.map fun c => (⟨#[c]⟩ : Str))).cps.toList = l := by
  have e := TL.tl_join ("" : Str) (l.map fun c => (⟨#[c]⟩ : Str))
  rw [← TL.join_eq, List.map_map] at e
  have e2 : (TL.tl ∘ fun c => (⟨#[c]⟩ : Str)) = fun c => [c] := rfl
  rw [e2] at e
  exact e.trans (joinL_signs l)
theorem sum_ones (l : List Nat) : ((l.map fun c => (⟨#[c]⟩ : Str)).map fun x => x.length).sum = l.length := by
  induction l with
  | nil => rfl
  | cons a r ih =>
    simp only [List.map_cons, List.sum_cons, List.length_cons, ih]
    have : (⟨#[a]⟩ : Str).length = 1 := rfl
    omega
theorem pr_law_word (as n P R) (hl : as.length = 2) (h : g_law_word as n P R) : m_law_word (ends P R) (env0 as N_law_word.length) n := by
  obtain ⟨k, rfl, h1, h2, h3, p⟩ := h
  show m_law_word (ends P R) (env0 [.src, .dat (.int (k : Int))] 3) n
  unfold m_law_word mJoin mComp mRng1
  walk_at "ev"
  have hr : (rngD 0 (Int.toNat (k : Int))).length = k := by simp [rngD]
  refine ⟨⟨by omega, by omega⟩, ?_⟩
  refine comp_word ⟨_, _, rfl⟩ _ [] n (by rw [hr]; exact h3) (by rw [hr, List.length_nil]; omega) (fun c z => nomatch z) fun l hl hx => ?_
  rw [hr, List.length_nil, Nat.zero_add] at hl
  have hc := join_signs l
  have hlen : (Txt.join ("" : Str) (l.map fun c => (⟨#[c]⟩ : Str))).length = k := by
    have e : (Txt.join ("" : Str) (l.map fun c => (⟨#[c]⟩ : Str))).length = (Txt.join ("" : Str) (l.map fun c => (⟨#[c]⟩ : Str))).cps.toList.length := Array.length_toList.symm
    rw [e, hc, hl]
  refine ⟨_, txts_signs l, ?_, ?_⟩
  · rw [sum_ones, List.length_map, hl]
    have : ("" : Str).length = 0 := rfl
    rw [this]; omega
  · rw [hr]
    refine p _ hlen ?_
    simp only [nameOk, Bool.and_eq_true, decide_eq_true_eq]
    rw [hlen, hc]
    exact ⟨⟨h2, h1⟩, List.all_eq_true.mpr hx⟩
end DS

/-! P7: law k01: its grants, what is changed in them, the law. -/
namespace DS
open PySem L2
local macro_rules | `(tactic| walk_at "ev") => `(tactic| simp only [mRaise, mLof, mTof, mBack, mCatT, mSlT, mSetI, mNoP, mPart, mCat, mSeq, mRet, mVar, mVarQ, slD, mC, m1, m2, mT, mNot, mAnd, mOr, mAndV, mOrV, mNotV, mIf, mChain, mNil, mCons, mSrc, mTup, mLst, mCall, mIx, mL, mIs, mIfS, mNext, mSet, mOwn, mRetO, mRetN, mExp, mPar, mNev, datAll, gdName, gdTup, setAll, fI, fIc, fNeg, fLen, fInt, fAbs, fIsN, env0, wipeR,
  is_int_NoneType, is_int_bool, is_int_int, is_int_str, is_int_list, is_int_tuple, is_bool_NoneType, is_bool_bool, is_bool_int, is_bool_str, is_bool_list, is_bool_tuple, is_str_NoneType, is_str_bool, is_str_int, is_str_str, is_str_list, is_str_tuple, is_tuple_NoneType, is_tuple_bool, is_tuple_int, is_tuple_str, is_tuple_list, is_tuple_tuple, is_list_NoneType, is_list_bool, is_list_int, is_list_str, is_list_list, is_list_tuple,
  List.map, List.length_cons, List.length_nil, List.getElem?_cons_zero, List.getElem?_cons_succ, List.set_cons_zero, List.set_cons_succ, List.replicate, List.append_assoc, List.cons_append, List.nil_append, Option.map_some, Option.some.injEq, Sl.dat.injEq, Sl.own.injEq, exists_eq_left', exists_eq_left, exists_and_left, exists_and_right, true_and, and_true, Bool.true_eq_false, if_true, if_false, reduceIte, Bool.false_eq_true, Bool.not_true, Bool.not_false, PyData.bool.injEq, PyData.int.injEq, PyData.str.injEq, PyData.tuple.injEq, PyData.list.injEq, Nat.reduceAdd, Nat.reduceSub, Option.map_none, decide_eq_true_eq, ex_if, eq_ints, eq_strs, eq_bools, ix0, ix1, ix2, ix3, ix4, lx0, lx1, lx2, lx3])
theorem six_names {es : List D} {u v : Str} (hu : u.length = 4) (hu' : nameOk u = true) (hv : v.length = 7) (hv' : nameOk v = true) (h : es.Perm [.str "a", .str "z", .str "eightsig", .str "bo", .str u, .str v]) :
    ∃ (a b : Str) (r : List D), es = .str a :: .str b :: r ∧ nameOk a = true ∧ nameOk b = true ∧ (a == b) = false := by
  have l1 : ("a" : Str).length = 1 := by decide +kernel
  have l2 : ("z" : Str).length = 1 := by decide +kernel
  have l3 : ("eightsig" : Str).length = 8 := by decide +kernel
  have l4 : ("bo" : Str).length = 2 := by decide +kernel
  have ne : ∀ {x y : Str}, x.length ≠ y.length → x ≠ y := fun q e => q (by rw [e])
  have az : ("a" : Str) ≠ "z" := by decide +kernel
  have hn : es.Nodup := (h.nodup_iff).mpr (by
    simp only [List.nodup_cons, List.mem_cons, List.not_mem_nil, PyData.str.injEq, or_false, not_or, not_false_eq_true, List.nodup_nil, and_true]
    exact ⟨⟨az, ne (by omega), ne (by omega), ne (by omega), ne (by omega)⟩, ⟨ne (by omega), ne (by omega), ne (by omega), ne (by omega)⟩, ⟨ne (by omega), ne (by omega), ne (by omega)⟩, ⟨ne (by omega), ne (by omega)⟩, ne (by omega)⟩)
  have hm : ∀ d ∈ es, ∃ s : Str, d = .str s ∧ nameOk s = true := fun d hd => by
    have := h.mem_iff.mp hd
    simp only [List.mem_cons, List.not_mem_nil, or_false] at this
    rcases this with rfl | rfl | rfl | rfl | rfl | rfl
    · exact ⟨_, rfl, by decide +kernel⟩
    · exact ⟨_, rfl, by decide +kernel⟩
    · exact ⟨_, rfl, by decide +kernel⟩
    · exact ⟨_, rfl, by decide +kernel⟩
    · exact ⟨_, rfl, hu'⟩
    · exact ⟨_, rfl, hv'⟩
  have hl := h.length_eq
  match es, hn, hm, hl with
  | x :: y :: r, hn, hm, _ =>
    obtain ⟨a, rfl, ha⟩ := hm x (by simp)
    obtain ⟨b, rfl, hb⟩ := hm y (by simp)
    refine ⟨a, b, r, rfl, ha, hb, ?_⟩
    rw [beq_eq_false_iff_ne]
    intro e
    subst e
    rw [List.nodup_cons] at hn
    exact hn.1 (by simp)
def g_law_grant : G := fun as n P _ => as = [.src] ∧ 21 ≤ n ∧ ∀ a : Gr, okGr a = true → P (enc a) (n - 21)
def N_law_grant : List Str := ["source", "words", "time"]
def m_law_grant : MS := (mSeq (mSet (mCall g_law_shuffle 2 (mSrc 0 (mCons (mL (mLst (mCons (mC (.str "a")) (mCons (mC (.str "z")) (mCons (mC (.str "eightsig")) (mCons (mC (.str "bo")) (mCons (mCall g_law_word 2 (mSrc 0 (mCons (mC (.int 4)) mNil))) (mCons (mCall g_law_word 2 (mSrc 0 (mCons (mC (.int 7)) mNil))) mNil)))))))) mNil))) (gdName 1))
    (mSeq (mSet (mCall g_law_pick 2 (mSrc 0 (mCons (mL (mLst (mCons (mC (.int 0)) (mCons (mC (.int 1)) (mCons (m2 fSub (mC (.int 0)) (mC (.int 1))) (mCons (m2 fPow (mC (.int 10)) (mC (.int 30))) (mCons (m2 fSub (mC (.int 0)) (m2 fPow (mC (.int 10)) (mC (.int 30)))) (mCons (m2 fSub (mCall g_law_draw 2 (mSrc 0 (mCons (m2 fPow (mC (.int 10)) (mC (.int 9))) mNil))) (m2 fMul (mC (.int 5)) (m2 fPow (mC (.int 10)) (mC (.int 8))))) mNil)))))))) mNil))) (gdName 2))
    (mRet (mTup (mCons (mVar 2) (mCons (mIx (mVarQ 1) (mC (.int 0))) (mCons (mIx (mVarQ 1) (mC (.int 1))) (mCons (m2 fAdd (mC (.int 1)) (mCall g_law_draw 2 (mSrc 0 (mCons (mC (.int 9)) mNil)))) (mCons (mCall g_law_draw 2 (mSrc 0 (mCons (mC (.int 21)) mNil))) mNil)))))))))
theorem word_at {k : Nat} {i : Int} {n : Nat} {P : PD} {R : PX} (hi : i = (k : Int)) (h1 : k ≤ 8) (h2 : 1 ≤ k) (h3 : k ≤ n) (h : ∀ s : Str, s.length = k → nameOk s = true → P (.str s) (n - k)) : g_law_word [.src, .dat (.int i)] n P R := ⟨k, by rw [hi], h1, h2, h3, h⟩
theorem pr_law_grant (as n P R) (hl : as.length = 1) (h : g_law_grant as n P R) : m_law_grant (ends P R) (env0 as N_law_grant.length) n := by
  obtain ⟨rfl, hn, p⟩ := h
  show m_law_grant (ends P R) (env0 [.src] 3) n
  unfold m_law_grant
  walk_at "ev"
  refine word_at (k := 4) rfl (by decide) (by decide) (by omega) fun u hu hu' => ?_
  refine word_at (k := 7) rfl (by decide) (by decide) (by omega) fun v hv hv' => ?_
  refine ⟨line_small (by decide), _, rfl, by show 6 < 10000; decide, by show 6 ≤ n - 4 - 7; omega, fun es hp => ?_⟩
  obtain ⟨x, y, r, rfl, hx, hy, hxy⟩ := six_names hu hu' hv hv' hp
  refine ⟨by decide, by decide, by decide, draw_at (by decide) (by decide) (by show 0 < n - 4 - 7 - 6; omega) fun k0 k0l k0h => ?_⟩
  refine ⟨by decide, by decide, _, rfl, line_small (by decide), _, rfl, by show 0 < 6; decide, line_small (by show 6 ≤ 1000; decide), by show 0 < n - 4 - 7 - 6 - 1; omega, fun t ht => ?_⟩
  have bg : (10 : Int) ^ Int.toNat 30 = big := big_eq
  have b9 : (10 : Int) ^ Int.toNat 9 = 1000000000 := by decide
  have b8 : (5 : Int) * 10 ^ Int.toNat 8 = 500000000 := by decide
  have b1 : (1000000000 : Int) ≤ big := by decide
  obtain ⟨ti, rfl, t1, t2⟩ : ∃ ti : Int, t = .int ti ∧ -big ≤ ti ∧ ti ≤ big := by
    rw [bg, b8] at ht
    rw [b9] at k0h
    simp only [List.mem_cons, List.not_mem_nil, or_false] at ht
    rcases ht with rfl | rfl | rfl | rfl | rfl | rfl <;> exact ⟨_, rfl, by omega, by omega⟩
  refine ⟨_, lx0 _ _, _, lx1 _ _ _, draw_at (by decide) (by decide) (by show 0 < n - 4 - 7 - 6 - 1 - 1; omega) fun l0 l0l l0h => ⟨_, rfl, ?_⟩⟩
  refine draw_at (by decide) (by decide) (by show 0 < n - 4 - 7 - 6 - 1 - 1 - 1; omega) fun p0 p0l p0h => ⟨line_small (by decide), ?_⟩
  have okA : okGr ⟨ti, x, y, 1 + l0, p0⟩ = true := by
    have q3 : 1 ≤ 1 + l0 := by omega
    have q4 : 1 + l0 ≤ 9 := by omega
    have q5 : p0 ≤ 20 := by omega
    simp [okGr, hx, hy, hxy, t1, t2, q3, q4, p0l, q5]
  have q := p _ okA
  rw [show n - 21 = n - 4 - 7 - 6 - 1 - 1 - 1 - 1 from by omega] at q
  exact q
/-! ### what is changed -/
def g_law_mutated : G := fun as n P _ => ∃ a : Gr, as = [.src, .dat (enc a)] ∧ okGr a = true ∧ 7 ≤ n ∧ ∀ (d : D) (n' : Nat), Val5 d → n ≤ n' + 7 → P d n'
def N_law_mutated : List Str := ["source", "grant", "great", "entries", "changed", "k", "others"]
def b_law_mutated_1 : MS := (mSetI 4 (mCall g_law_pick 2 (mSrc 0 (mCons (mVar 3) mNil))) (mCall g_law_draw 2 (mSrc 0 (mCons (mC (.int 5)) mNil))))
def m_law_mutated : MS := (mSeq (mSet (mCall g_law_great 0 mNil) (gdName 2))
    (mSeq (mSet (mL (mLst (mCons (mC .none) (mCons (mC (.bool true)) (mCons (mC (.bool false)) (mCons (mC (.int 0)) (mCons (mC (.int 10)) (mCons (mC (.int 21)) (mCons (m2 fSub (mC (.int 0)) (mC (.int 1))) (mCons (m2 fAdd (m2 fPow (mC (.int 10)) (mC (.int 30))) (mC (.int 1))) (mCons (m2 fSub (m2 fSub (mC (.int 0)) (m2 fPow (mC (.int 10)) (mC (.int 30)))) (mC (.int 1))) (mCons (mVar 2) (mCons (m2 fSub (mC (.int 0)) (mVarQ 2)) mNil))))))))))))) (gdName 3))
    (mSeq (mSet (mL (mCat (mVarQ 3) (mL (mLst (mCons (mC (.str "")) (mCons (mC (.str "ninesigns")) (mCons (mC (.str "A")) mNil))))))) (gdName 3))
    (mSeq (mSet (mL (mCat (mVarQ 3) (mL (mLst (mCons (mC (.str "a b")) (mCons (mC (.str "a1")) (mCons (mC (.str "`")) (mCons (mC (.str "{")) (mCons (mC (.str "a\n")) (mCons (mC (.str "1")) (mCons (mTup (mCons (mC (.int 1)) mNil)) (mCons (mL (mLst (mCons (mC (.int 1)) mNil))) (mCons (mIx (mVarQ 1) (mC (.int 2))) (mCons (mIx (mVarQ 1) (mC (.int 1))) (mCons (mC (.int 1)) (mCons (mC (.int 9)) (mCons (mC (.int 20)) mNil))))))))))))))))) (gdName 3))
    (mSeq (mOwn 4 (mLof (mVarQ 1)))
    (mSeq (mFor (mRng1 (m2 fAdd (mC (.int 1)) (mCall g_law_draw 2 (mSrc 0 (mCons (mC (.int 2)) mNil))))) (gdName 5) b_law_mutated_1)
    (mSeq (mSet (mL (mLst (mCons (mL (mLof (mVarQ 1))) (mCons (mSlT (mVarQ 1) mNoP (mPart (mC (.int 4)))) (mCons (mCatT (mVarQ 1) (mTup (mCons (mC (.int 0)) mNil))) (mCons (mTup mNil) (mCons (mC .none) (mCons (mC (.str "grant")) (mCons (mC (.int 7)) (mCons (mTup (mCons (mVar 1) mNil)) (mCons (mBack (mVarQ 1)) mNil))))))))))) (gdName 6))
    (mRet (mCall g_law_pick 2 (mSrc 0 (mCons (mL (mLst (mCons (mTof (mVarQ 4)) (mCons (mTof (mVarQ 4)) (mCons (mTof (mVarQ 4)) (mCons (mCall g_law_pick 2 (mSrc 0 (mCons (mVar 6) mNil))) mNil)))))) mNil)))))))))))
/-- five atoms, or what an entry may be -/
def Five (ds : List D) : Prop := ds.length = 5 ∧ ∀ d ∈ ds, Fit 2 20415 d
theorem five_set {ds : List D} {d : D} (h : Five ds) (hd : Fit 2 20415 d) (m : Nat) : Five (ds.set m d) := by
  refine ⟨by rw [List.length_set]; exact h.1, fun x hx => ?_⟩
  rcases List.mem_or_eq_of_mem_set hx with q | q
  · exact h.2 x q
  · rw [q]; exact hd
theorem five_val {ds : List D} (h : Five ds) : Val5 (.tuple ds) := (fit_tup (n := 5) h.2 (Nat.le_of_eq h.1)).le (by decide) (by decide)
theorem ixN_at {n : Nat} {j : Int} (h0 : 0 ≤ j) (h1 : j < n) : ixN n j = some j.toNat := by
  unfold ixN
  rw [if_pos h0, if_pos h1]
theorem t_law_mutated {De : DEnds} {g gr : D} {es ds : List D} {v6 k : Sl} {n : Nat} (hes : 0 < es.length) (hes2 : es.length ≤ 100) (he : ∀ d ∈ es, Fit 2 20415 d) (hf : Five ds) (hn : 2 ≤ n)
    (h : ∀ ds', Five ds' → De.nx [.src, .dat gr, .dat g, .dat (.list es), .own ds', k, v6] (n - 2)) : b_law_mutated_1 De [.src, .dat gr, .dat g, .dat (.list es), .own ds, k, v6] n := by
  unfold b_law_mutated_1
  walk_at "ev"
  refine ⟨es, rfl, hes, line_small (by omega), by omega, fun d hd => draw_at (by decide) (by decide) (by omega) fun j j0 j1 => ⟨j, rfl, j.toNat, ixN_at j0 (by rw [hf.1]; omega), ?_⟩⟩
  have q := h _ (five_set hf (he d hd) j.toNat)
  rw [show n - 2 = n - 1 - 1 from by omega] at q
  exact q
/-- the end of it -/
def m_mut_tail : MS := (mSeq (mSet (mL (mLst (mCons (mL (mLof (mVarQ 1))) (mCons (mSlT (mVarQ 1) mNoP (mPart (mC (.int 4)))) (mCons (mCatT (mVarQ 1) (mTup (mCons (mC (.int 0)) mNil))) (mCons (mTup mNil) (mCons (mC .none) (mCons (mC (.str "grant")) (mCons (mC (.int 7)) (mCons (mTup (mCons (mVar 1) mNil)) (mCons (mBack (mVarQ 1)) mNil))))))))))) (gdName 6))
    (mRet (mCall g_law_pick 2 (mSrc 0 (mCons (mL (mLst (mCons (mTof (mVarQ 4)) (mCons (mTof (mVarQ 4)) (mCons (mTof (mVarQ 4)) (mCons (mCall g_law_pick 2 (mSrc 0 (mCons (mVar 6) mNil))) mNil)))))) mNil)))))
theorem tail_law_mutated {P : PD} {R : PX} {a : Gr} (ha : okGr a = true) {ds : List D} (hf : Five ds) {v2 v3 v5 v6 : Sl} {n : Nat} (hn : 2 ≤ n) (p : ∀ (d : D) (n' : Nat), Val5 d → n ≤ n' + 2 → P d n') : m_mut_tail (ends P R) [.src, .dat (enc a), v2, v3, .own ds, v5, v6] n := by
  have at5 := enc_atoms ha
  have fa : Fit 2 20415 (enc a) := enc_fit ha
  unfold m_mut_tail enc
  walk_at "ev"
  have a1 : Atom (.int a.t) := at5 _ (by simp)
  have a2 : Atom (.str a.g) := at5 _ (by simp)
  have a3 : Atom (.str a.k) := at5 _ (by simp)
  have a4 : Atom (.int a.l) := at5 _ (by simp)
  have a5 : Atom (.int a.p) := at5 _ (by simp)
  have a6 : Atom (.int 0) := atom_small (by decide) (by decide)
  have a7 : Atom (.str "grant") := atom_str (by decide +kernel) (by decide +kernel)
  have a8 : Atom (.int 7) := atom_small (by decide) (by decide)
  refine ⟨_, .inr rfl, by decide, line1, by simp, by simp, line_small (by decide), Nat.zero_le _, line1, _, _, _, _, _, rfl, line_small (by decide), ?_⟩
  refine ⟨_, rfl, by show 0 < 9; decide, line_small (by show 9 ≤ 1000; decide), by omega, fun d hd => ?_⟩
  have vd : Val5 d := by
    simp only [List.mem_cons, List.not_mem_nil, or_false] at hd
    rcases hd with rfl | rfl | rfl | rfl | rfl | rfl | rfl | rfl | rfl
    · refine (fit_lst (n := 6) (k := 1) (z := 3400) (fun x hx => ?_) (by simp)).le (by decide) (by decide)
      simp only [List.mem_cons, List.not_mem_nil, or_false] at hx
      rcases hx with rfl | rfl | rfl | rfl | rfl <;> assumption
    · have e : cutA ([.int a.t, .str a.g, .str a.k, .int a.l, .int a.p] : List D) none (some 4) = [.int a.t, .str a.g, .str a.k, .int a.l] := rfl
      rw [e]
      refine (fit_tup (n := 6) (k := 1) (z := 3400) (fun x hx => ?_) (by simp)).le (by decide) (by decide)
      simp only [List.mem_cons, List.not_mem_nil, or_false] at hx
      rcases hx with rfl | rfl | rfl | rfl <;> assumption
    · refine (fit_tup (n := 6) (k := 1) (z := 3400) (fun x hx => ?_) (by simp)).le (by decide) (by decide)
      simp only [List.mem_cons, List.not_mem_nil, or_false] at hx
      rcases hx with rfl | rfl | rfl | rfl | rfl | rfl <;> assumption
    · exact (fit_tup (n := 6) (k := 1) (z := 3400) (fun x hx => by cases hx) (by simp)).le (by decide) (by decide)
    · exact atom_none.le (by decide) (by decide)
    · exact a7.le (by decide) (by decide)
    · exact a8.le (by decide) (by decide)
    · refine (fit_tup (n := 6) (k := 2) (z := 20415) (fun x hx => ?_) (by simp)).le (by decide) (by decide)
      rw [List.mem_singleton.mp hx]
      exact fa
    · refine (fit_tup (n := 6) (k := 1) (z := 3400) (fun x hx => ?_) (by simp)).le (by decide) (by decide)
      simp only [List.mem_cons, List.not_mem_nil, or_false] at hx
      rcases hx with rfl | rfl | rfl | rfl | rfl <;> assumption
  refine ⟨line_small (by decide), _, rfl, by show 0 < 4; decide, line_small (by show 4 ≤ 1000; decide), by omega, fun d2 hd2 => ?_⟩
  refine p d2 _ ?_ (by omega)
  simp only [List.mem_cons, List.not_mem_nil, or_false] at hd2
  rcases hd2 with rfl | rfl | rfl | rfl
  · exact five_val hf
  · exact five_val hf
  · exact five_val hf
  · exact vd
theorem pr_law_mutated (as n P R) (hl : as.length = 2) (h : g_law_mutated as n P R) : m_law_mutated (ends P R) (env0 as N_law_mutated.length) n := by
  obtain ⟨a, rfl, ha, hn, p⟩ := h
  have at5 := enc_atoms ha
  show m_law_mutated (ends P R) (env0 [.src, .dat (enc a)] 7) n
  unfold m_law_mutated
  generalize hend : (mSeq (mSet (mL (mLst (mCons (mL (mLof (mVarQ 1))) _))) (gdName 6)) _ : MS) = me
  unfold enc
  walk_at "ev"
  refine ⟨rfl, ?_⟩
  have bg : (10 : Int) ^ Int.toNat 30 = big := big_eq
  rw [bg]
  have hL : okB (.int great) = true ∧ okB (.int (0 - great)) = true := by
    constructor
    · decide +kernel
    · decide +kernel
  have ag : Atom (.int great) := ⟨hL.1, by simp [PyData.depth], by simp [szB]⟩
  have ag2 : Atom (.int (0 - great)) := ⟨hL.2, by simp [PyData.depth], by simp [szB]⟩
  refine ⟨by decide, by decide, _, rfl, line_small (by decide), line_small (by decide), line_small (by decide), line_small (by decide), line_small (by decide), line_small (by decide), line_small (by decide), _, .inr rfl, ?_⟩
  unfold mFor mRng1
  walk_at "ev"
  refine draw_at (by decide) (by decide) (by omega) fun k0 k0l k0h => ?_
  generalize hLL : (PyData.none :: PyData.bool true :: PyData.bool false :: _ : List D) = L
  have hlen : L.length = 27 := by subst hLL; rfl
  have bb : big < 2 ^ 127 := by decide
  have hall : ∀ d ∈ L, Fit 2 20415 d := by
    subst hLL
    have sm : ∀ i : Int, -(2 ^ 128) < i → i < 2 ^ 128 → Fit 2 20415 (.int i) := fun i h1 h2 => (atom_small h1 h2).le (by decide) (by decide)
    have st : ∀ s : Str, s.length ≤ 100 → s.cps.toList.all (fun c => decide (c < 16 ^ 8)) = true → Fit 2 20415 (.str s) := fun s h1 h2 => (atom_str h1 h2).le (by decide) (by decide)
    have o1 : ∀ d ∈ ([.int 1] : List D), Atom d := fun d hd => by rw [List.mem_singleton.mp hd]; exact atom_small (by decide) (by decide)
    have a2 : Fit 2 20415 (.str a.g) := (at5 _ (by simp)).le (by decide) (by decide)
    have a3 : Fit 2 20415 (.str a.k) := (at5 _ (by simp)).le (by decide) (by decide)
    have g1 : Fit 2 20415 (.int great) := ag.le (by decide) (by decide)
    have g2 : Fit 2 20415 (.int (0 - great)) := ag2.le (by decide) (by decide)
    intro d hd
    simp only [List.mem_cons, List.not_mem_nil, or_false] at hd
    rcases hd with rfl | rfl | rfl | rfl | rfl | rfl | rfl | rfl | rfl | rfl | rfl | rfl | rfl | rfl | rfl | rfl | rfl | rfl | rfl | rfl | rfl | rfl | rfl | rfl | rfl | rfl | rfl <;> first
      | assumption
      | exact atom_none.le (by decide) (by decide)
      | exact (atom_bool _).le (by decide) (by decide)
      | exact sm _ (by decide) (by decide)
      | exact sm _ (by omega) (by omega)
      | exact st _ (by decide +kernel) (by decide +kernel)
      | exact (fit_tup (n := 6) o1 (by simp)).le (by decide) (by decide)
      | exact (fit_lst (n := 6) o1 (by simp)).le (by decide) (by decide)
  clear hLL
  refine ⟨_, rfl, _, rfl, ⟨by omega, by omega⟩, ?_⟩
  have hlenR : (rngD 0 (1 + k0).toNat).length ≤ 2 := by simp [rngD]; omega
  refine for_inv5 (fun i ρ n' => n - 1 ≤ n' + 2 * i ∧ ∃ ds s, Five ds ∧ ρ = [.src, .dat (enc a), .dat (.int great), .dat (.list L), .own ds, s, .no]) (rngD 0 (1 + k0).toNat) (fun i d ρ n' X hd h hX => ?_) ⟨by omega, _, _, ⟨rfl, fun d hd => (at5 d hd).le (by decide) (by decide)⟩, rfl⟩ (fun ρ n' h => ?_)
  · obtain ⟨h1, ds, s, hf, e⟩ := h
    subst e
    have hi : i < 2 := Nat.lt_of_lt_of_le (List.getElem?_eq_some_iff.mp hd).1 hlenR
    refine ⟨_, rfl, ?_⟩
    exact t_law_mutated (by omega) (by omega) hall hf (by omega) fun ds' hf' => hX _ _ ⟨by omega, ds', _, hf', rfl⟩
  · obtain ⟨h1, ds, s, hf, e⟩ := h
    subst e hend
    exact tail_law_mutated ha hf (by omega) fun d n2 hv h2 => p d n2 hv (by omega)
end DS

/-! P8: law k01: a turn, the law. -/
namespace DS
open PySem L2
local macro_rules | `(tactic| walk_at "ev") => `(tactic| simp only [mRaise, mLof, mTof, mBack, mCatT, mSlT, mSetI, mNoP, mPart, mCat, mSeq, mRet, mVar, mVarQ, slD, mC, m1, m2, mT, mNot, mAnd, mOr, mAndV, mOrV, mNotV, mIf, mChain, mNil, mCons, mSrc, mTup, mLst, mCall, mIx, mL, mIs, mIfS, mNext, mSet, mOwn, mRetO, mRetN, mExp, mPar, mNev, datAll, gdName, gdTup, setAll, fI, fIc, fNeg, fLen, fInt, fAbs, fIsN, env0, wipeR,
  is_int_NoneType, is_int_bool, is_int_int, is_int_str, is_int_list, is_int_tuple, is_bool_NoneType, is_bool_bool, is_bool_int, is_bool_str, is_bool_list, is_bool_tuple, is_str_NoneType, is_str_bool, is_str_int, is_str_str, is_str_list, is_str_tuple, is_tuple_NoneType, is_tuple_bool, is_tuple_int, is_tuple_str, is_tuple_list, is_tuple_tuple, is_list_NoneType, is_list_bool, is_list_int, is_list_str, is_list_list, is_list_tuple,
  List.map, List.length_cons, List.length_nil, List.getElem?_cons_zero, List.getElem?_cons_succ, List.set_cons_zero, List.set_cons_succ, List.replicate, List.append_assoc, List.cons_append, List.nil_append, Option.map_some, Option.some.injEq, Sl.dat.injEq, Sl.own.injEq, exists_eq_left', exists_eq_left, exists_and_left, exists_and_right, true_and, and_true, Bool.true_eq_false, if_true, if_false, reduceIte, Bool.false_eq_true, Bool.not_true, Bool.not_false, PyData.bool.injEq, PyData.int.injEq, PyData.str.injEq, PyData.tuple.injEq, PyData.list.injEq, Nat.reduceAdd, Nat.reduceSub, Option.map_none, decide_eq_true_eq, ex_if, eq_ints, eq_strs, eq_bools, ix0, ix1, ix2, ix3, ix4, lx0, lx1, lx2, lx3])
/-- what supports raises, or None -/
def rz (x y : D) : D := match gerr x with
  | .none => gerr y
  | e => e
def g_law_raised : G := fun as n P _ => ∃ x y : D, as = [.dat x, .dat y] ∧ sane x = true ∧ sane y = true ∧ P (rz x y) n
def b_law_tail : MS := (mSeq (mSet (mCall g_law_expected 1 (mCons (mVar 4) mNil)) (gdName 5))
    (mSeq (mSet (m1 fReprB (mVarQ 4)) (gdName 6))
    (mSeq (mIfS (mT (m2 (fEq true) (mCall g_grant_error 1 (mCons (mVar 4) mNil)) (mVarQ 5))) (mRet (mC (.bool false))) mNext)
    (mSeq (mIfS (mT (m2 (fEq true) (mCall g_law_raised 2 (mCons (mVar 4) (mCons (mC .none) mNil))) (mIx (mL (mLst (mCons (mTup (mCons (mC (.str "grant")) mNil)) (mCons (mVar 5) mNil)))) (m1 fInt (m2 (fIsN true) (mVarQ 5) (mC .none)))))) (mRet (mC (.bool false))) mNext)
    (mIfS (mOr (mT (m2 (fEq true) (mCall g_law_raised 2 (mCons (mVar 2) (mCons (mVar 4) mNil))) (mVarQ 5))) (mT (m2 (fEq true) (m1 fReprB (mVarQ 4)) (mVarQ 6)))) (mRet (mC (.bool false))) mNext)))))
def b_law_1 : MS := (mSeq (mSet (mCall g_law_grant 1 (mSrc 1 mNil)) (gdName 4))
    (mSeq (mIfS (mT (m2 fGt (m2 fMod (m1 fInt (mVarQ 3)) (mC (.int 4))) (mC (.int 0)))) (mSet (mCall g_law_mutated 2 (mSrc 1 (mCons (mVar 4) mNil))) (gdName 4)) mNext)
    (mSeq (mSet (mCall g_law_expected 1 (mCons (mVar 4) mNil)) (gdName 5))
    (mSeq (mSet (m1 fReprB (mVarQ 4)) (gdName 6))
    (mSeq (mIfS (mT (m2 (fEq true) (mCall g_grant_error 1 (mCons (mVar 4) mNil)) (mVarQ 5))) (mRet (mC (.bool false))) mNext)
    (mSeq (mIfS (mT (m2 (fEq true) (mCall g_law_raised 2 (mCons (mVar 4) (mCons (mC .none) mNil))) (mIx (mL (mLst (mCons (mTup (mCons (mC (.str "grant")) mNil)) (mCons (mVar 5) mNil)))) (m1 fInt (m2 (fIsN true) (mVarQ 5) (mC .none)))))) (mRet (mC (.bool false))) mNext)
    (mIfS (mOr (mT (m2 (fEq true) (mCall g_law_raised 2 (mCons (mVar 2) (mCons (mVar 4) mNil))) (mVarQ 5))) (mT (m2 (fEq true) (m1 fReprB (mVarQ 4)) (mVarQ 6)))) (mRet (mC (.bool false))) mNext)))))))
theorem eq_same {d : D} (h : isR d) : fEq true d d = some (.bool false) := by
  show (if _ then _ else _) = _
  rw [if_pos ⟨h.okD, h.okD⟩, if_pos rfl, h.eqv]
  rfl
theorem t_law_tail {De : DEnds} {a : Gr} {d : D} {k v5 v6 : Sl} {n : Nat} (ha : okGr a = true) (hd : Val5 d) (h : ∀ v5 v6, De.nx [.no, .src, .dat (enc a), k, .dat d, v5, v6] n) : b_law_tail De [.no, .src, .dat (enc a), k, .dat d, v5, v6] n := by
  have sd := hd.sane
  have se := sane_enc ha
  have rp := hd.repr
  have ge := gerr_enc ha
  unfold b_law_tail
  walk_at "ev"
  refine gF_at (ds := [d]) (if_pos sd) ⟨_, rp, ?_⟩
  refine gF_at (ds := [d]) (if_pos sd) ⟨_, eq_same (gerr_r d), _, rfl, ?_⟩
  rw [if_neg Bool.false_ne_true]
  refine ⟨d, .none, rfl, sd, rfl, ?_⟩
  have rr : isR (rz d .none) ∧ fIx (.list [.tuple [.str "grant"], gerr d]) (.int (if (!match gerr d with | .none => true | x => false) = true then 1 else 0)) = some (rz d .none) := by
    rcases gerr_r d with e | ⟨s, e⟩
    · have : rz d .none = .tuple [.str "grant"] := by unfold rz; rw [e]; rfl
      rw [this, e]
      exact ⟨.inr ⟨_, rfl⟩, lx0 _ _⟩
    · have : rz d .none = .tuple [.str s] := by unfold rz; rw [e]
      rw [this, e]
      exact ⟨.inr ⟨_, rfl⟩, lx1 _ _ _⟩
  refine ⟨line1, line2, _, rr.2, _, eq_same rr.1, _, rfl, ?_⟩
  rw [if_neg Bool.false_ne_true]
  have rv : rz (enc a) d = gerr d := by unfold rz; rw [ge]
  refine ⟨enc a, d, rfl, se, sd, ?_⟩
  rw [rv]
  refine ⟨_, eq_same (gerr_r d), _, rfl, ?_⟩
  rw [if_neg Bool.false_ne_true]
  refine ⟨_, rp, _, eq_strs _ _ _, _, rfl, ?_⟩
  rw [if_neg (by simp)]
  exact h _ _
theorem t_law {De : DEnds} {a : Gr} {k : D} {v4 v5 v6 : Sl} {n : Nat} {i : Int} (hk : k = .int i) (ha : okGr a = true) (hn : 28 ≤ n) (h : ∀ v4 v5 v6 n', n ≤ n' + 28 → De.nx [.no, .src, .dat (enc a), .dat k, v4, v5, v6] n') : b_law_1 De [.no, .src, .dat (enc a), .dat k, v4, v5, v6] n := by
  subst hk
  unfold b_law_1
  generalize hend : (mSeq (mSet (mCall g_law_expected 1 (mCons (mVar 4) mNil)) (gdName 5)) _ : MS) = me
  walk_at "ev"
  refine ⟨rfl, by omega, fun b hb => ?_⟩
  refine ⟨by decide, if_cases (fun _ => ?_) fun _ => ?_⟩
  · refine ⟨b, rfl, hb, by omega, fun d n' vd hn' => ?_⟩
    subst hend
    exact t_law_tail ha vd fun v5 v6 => h _ _ _ _ (by omega)
  · subst hend
    exact t_law_tail ha ((enc_fit hb).le (by decide) (by decide)) fun v5 v6 => h _ _ _ _ (by omega)
def N_law : List Str := ["script", "source", "valid", "k", "value", "expected", "before"]
def m_law2 : MS := (mSeq (mSet (mCall g_law_grant 1 (mSrc 1 mNil)) (gdName 2))
    (mSeq (mFor (mRng1 (mC (.int 40))) (gdName 3) b_law_1)
    (mRet (mC (.bool true)))))

theorem pr_law2 {P : PD} {R : PX} {n : Nat} (hn : 2000 ≤ n) (h : ∀ n', P (.bool true) n') : m_law2 (ends P R) ([.no, .src] ++ List.replicate 5 .no) n := by
  unfold m_law2 mFor mRng1
  walk_at "ev"
  refine ⟨rfl, by omega, fun a ha => ?_⟩
  refine ⟨by decide, ?_⟩
  refine for_inv5 (fun i ρ n' => 1979 ≤ n' + 28 * i ∧ ∃ a3 a4 a5 a6, ρ = [.no, .src, .dat (enc a), a3, a4, a5, a6]) (rngD 0 (Int.toNat 40)) (fun i d ρ n' X hd q hX => ?_) ⟨by omega, _, _, _, _, rfl⟩ (fun ρ n' _ => h n')
  obtain ⟨hn', a3, a4, a5, a6, e⟩ := q
  subst e
  have hi : i < 40 := by
    have := (List.getElem?_eq_some_iff.mp hd).1
    simpa [rngD] using this
  obtain ⟨j, rfl⟩ : ∃ j, d = .int j := by
    unfold rngD at hd
    rw [List.getElem?_map] at hd
    obtain ⟨j, _, e⟩ := Option.map_eq_some_iff.mp hd
    exact ⟨_, e.symm⟩
  refine ⟨_, rfl, t_law rfl ha (by omega) fun a4 a5 a6 n2 h2 => hX _ _ ⟨by omega, _, a4, a5, a6, rfl⟩⟩
end DS

/-! Law k01_grant_errors: the defs' derivations and the end. -/
namespace DS
open PySem L2
def top (i : Nat) : Stmt := PySem.Challenge.pw_grantroll_k01_grant_errors.main.body.getD i (.Pass ⟨0, 0, 0, 0⟩)
abbrev s_is_whole : Stmt := top 6
abbrev s_is_within : Stmt := top 7
abbrev s_is_time : Stmt := top 8
abbrev s_is_name : Stmt := top 9
abbrev s_grant_error : Stmt := top 15
abbrev s_supports_x : Stmt := top 16
abbrev s_backs : Stmt := top 17
abbrev s_law_source : Stmt := top 19
abbrev s_law_draw : Stmt := top 20
abbrev s_law_pick : Stmt := top 21
abbrev s_law_shuffle : Stmt := top 22
abbrev s_law_is_word : Stmt := top 23
abbrev s_law_is_within : Stmt := top 24
abbrev s_law_expected : Stmt := top 25
abbrev s_law_great : Stmt := top 26
abbrev s_law_word : Stmt := top 27
abbrev s_law_grant : Stmt := top 28
abbrev s_law_mutated : Stmt := top 29
abbrev s_law_raised : Stmt := top 30
abbrev s_law : Stmt := top 31
theorem sc_is_whole : FnScope N_is_whole ["value"] (defScope s_is_whole) := ⟨rfl, rfl, rfl, by decide +kernel, rfl, by decide +kernel, by decide +kernel⟩
theorem sc_is_within : FnScope N_is_within ["value", "least", "most"] (defScope s_is_within) := ⟨rfl, rfl, rfl, by decide +kernel, rfl, by decide +kernel, by decide +kernel⟩
theorem sc_is_time : FnScope N_is_time ["value"] (defScope s_is_time) := ⟨rfl, rfl, rfl, by decide +kernel, rfl, by decide +kernel, by decide +kernel⟩
theorem sc_is_name : FnScope N_is_name ["value"] (defScope s_is_name) := ⟨rfl, rfl, rfl, by decide +kernel, rfl, by decide +kernel, by decide +kernel⟩
theorem sc_grant_error : FnScope N_grant_error ["value"] (defScope s_grant_error) := ⟨rfl, rfl, rfl, by decide +kernel, rfl, by decide +kernel, by decide +kernel⟩
theorem sc_supports_x : FnScope N_supports_x ["first", "second"] (defScope s_supports_x) := ⟨rfl, rfl, rfl, by decide +kernel, rfl, by decide +kernel, by decide +kernel⟩
theorem sc_backs : FnScope N_backs ["first", "second"] (defScope s_backs) := ⟨rfl, rfl, rfl, by decide +kernel, rfl, by decide +kernel, by decide +kernel⟩
def N_law_source : List Str := ["script", "cells", "k"]
theorem sc_law_source : FnScope N_law_source ["script"] (defScope s_law_source) := ⟨rfl, rfl, rfl, by decide +kernel, rfl, by decide +kernel, by decide +kernel⟩
def N_law_draw : List Str := ["source", "limit", "cells", "turn", "place", "cell", "number", "other"]
theorem sc_law_draw : FnScope N_law_draw ["source", "limit"] (defScope s_law_draw) := ⟨rfl, rfl, rfl, by decide +kernel, rfl, by decide +kernel, by decide +kernel⟩
theorem sc_law_pick : FnScope N_law_pick ["source", "values"] (defScope s_law_pick) := ⟨rfl, rfl, rfl, by decide +kernel, rfl, by decide +kernel, by decide +kernel⟩
theorem sc_law_shuffle : FnScope N_law_shuffle ["source", "values"] (defScope s_law_shuffle) := ⟨rfl, rfl, rfl, by decide +kernel, rfl, by decide +kernel, by decide +kernel⟩
theorem sc_law_is_word : FnScope N_law_is_word ["value"] (defScope s_law_is_word) := ⟨rfl, rfl, rfl, by decide +kernel, rfl, by decide +kernel, by decide +kernel⟩
theorem sc_law_is_within : FnScope N_law_is_within ["value", "least", "most"] (defScope s_law_is_within) := ⟨rfl, rfl, rfl, by decide +kernel, rfl, by decide +kernel, by decide +kernel⟩
theorem sc_law_expected : FnScope N_law_expected ["value"] (defScope s_law_expected) := ⟨rfl, rfl, rfl, by decide +kernel, rfl, by decide +kernel, by decide +kernel⟩
theorem sc_law_great : FnScope N_law_great [] (defScope s_law_great) := ⟨rfl, rfl, rfl, by decide +kernel, rfl, by decide +kernel, by decide +kernel⟩
theorem sc_law_word : FnScope N_law_word ["source", "size"] (defScope s_law_word) := ⟨rfl, rfl, rfl, by decide +kernel, rfl, by decide +kernel, by decide +kernel⟩
theorem sc_law_grant : FnScope N_law_grant ["source"] (defScope s_law_grant) := ⟨rfl, rfl, rfl, by decide +kernel, rfl, by decide +kernel, by decide +kernel⟩
theorem sc_law_mutated : FnScope N_law_mutated ["source", "grant"] (defScope s_law_mutated) := ⟨rfl, rfl, rfl, by decide +kernel, rfl, by decide +kernel, by decide +kernel⟩
def N_law_raised : List Str := ["first", "second", "caught", "e"]
theorem sc_law_raised : FnScope N_law_raised ["first", "second"] (defScope s_law_raised) := ⟨rfl, rfl, rfl, by decide +kernel, rfl, by decide +kernel, by decide +kernel⟩
theorem sc_law : FnScope N_law ["script"] (defScope s_law) := ⟨rfl, rfl, rfl, by decide +kernel, rfl, by decide +kernel, by decide +kernel⟩
/-- the one class of errors -/
def clOf (a : Addr) : Cl := ⟨fun n => if n = 0 then some a else none, fun n => if n = 0 then ["reason"] else []⟩
/-- what the top has left -/
structure Txt (P : Program) (K : Fg) (mg : Str → Option Value) where
  a_is_whole : Addr
  d_is_whole : FuncData
  f_is_whole : Fun K "is_whole" "is_whole" s_is_whole a_is_whole d_is_whole
  m_is_whole : mg "is_whole" = some (.ref a_is_whole)
  b_is_whole : Binds K d_is_whole ["value"] []
  a_is_within : Addr
  d_is_within : FuncData
  f_is_within : Fun K "is_within" "is_within" s_is_within a_is_within d_is_within
  m_is_within : mg "is_within" = some (.ref a_is_within)
  b_is_within : Binds K d_is_within ["value", "least", "most"] []
  a_is_time : Addr
  d_is_time : FuncData
  f_is_time : Fun K "is_time" "is_time" s_is_time a_is_time d_is_time
  m_is_time : mg "is_time" = some (.ref a_is_time)
  b_is_time : Binds K d_is_time ["value"] []
  a_is_name : Addr
  d_is_name : FuncData
  f_is_name : Fun K "is_name" "is_name" s_is_name a_is_name d_is_name
  m_is_name : mg "is_name" = some (.ref a_is_name)
  b_is_name : Binds K d_is_name ["value"] []
  a_grant_error : Addr
  d_grant_error : FuncData
  f_grant_error : Fun K "grant_error" "grant_error" s_grant_error a_grant_error d_grant_error
  m_grant_error : mg "grant_error" = some (.ref a_grant_error)
  b_grant_error : Binds K d_grant_error ["value"] []
  a_supports_x : Addr
  d_supports_x : FuncData
  f_supports_x : Fun K "supports" "supports" s_supports_x a_supports_x d_supports_x
  m_supports_x : mg "supports" = some (.ref a_supports_x)
  b_supports_x : Binds K d_supports_x ["first", "second"] []
  a_backs : Addr
  d_backs : FuncData
  f_backs : Fun K "backs" "backs" s_backs a_backs d_backs
  m_backs : mg "backs" = some (.ref a_backs)
  b_backs : Binds K d_backs ["first", "second"] []
  a_law_source : Addr
  d_law_source : FuncData
  f_law_source : Fun K "_law_source" "_law_source" s_law_source a_law_source d_law_source
  m_law_source : mg "_law_source" = some (.ref a_law_source)
  b_law_source : Binds K d_law_source ["script"] []
  a_law_draw : Addr
  d_law_draw : FuncData
  f_law_draw : Fun K "_law_draw" "_law_draw" s_law_draw a_law_draw d_law_draw
  m_law_draw : mg "_law_draw" = some (.ref a_law_draw)
  b_law_draw : Binds K d_law_draw ["source", "limit"] []
  a_law_pick : Addr
  d_law_pick : FuncData
  f_law_pick : Fun K "_law_pick" "_law_pick" s_law_pick a_law_pick d_law_pick
  m_law_pick : mg "_law_pick" = some (.ref a_law_pick)
  b_law_pick : Binds K d_law_pick ["source", "values"] []
  a_law_shuffle : Addr
  d_law_shuffle : FuncData
  f_law_shuffle : Fun K "_law_shuffle" "_law_shuffle" s_law_shuffle a_law_shuffle d_law_shuffle
  m_law_shuffle : mg "_law_shuffle" = some (.ref a_law_shuffle)
  b_law_shuffle : Binds K d_law_shuffle ["source", "values"] []
  a_law_is_word : Addr
  d_law_is_word : FuncData
  f_law_is_word : Fun K "_law_is_word" "_law_is_word" s_law_is_word a_law_is_word d_law_is_word
  m_law_is_word : mg "_law_is_word" = some (.ref a_law_is_word)
  b_law_is_word : Binds K d_law_is_word ["value"] []
  a_law_is_within : Addr
  d_law_is_within : FuncData
  f_law_is_within : Fun K "_law_is_within" "_law_is_within" s_law_is_within a_law_is_within d_law_is_within
  m_law_is_within : mg "_law_is_within" = some (.ref a_law_is_within)
  b_law_is_within : Binds K d_law_is_within ["value", "least", "most"] []
  a_law_expected : Addr
  d_law_expected : FuncData
  f_law_expected : Fun K "_law_expected" "_law_expected" s_law_expected a_law_expected d_law_expected
  m_law_expected : mg "_law_expected" = some (.ref a_law_expected)
  b_law_expected : Binds K d_law_expected ["value"] []
  a_law_great : Addr
  d_law_great : FuncData
  f_law_great : Fun K "_law_great" "_law_great" s_law_great a_law_great d_law_great
  m_law_great : mg "_law_great" = some (.ref a_law_great)
  b_law_great : Binds K d_law_great [] []
  a_law_word : Addr
  d_law_word : FuncData
  f_law_word : Fun K "_law_word" "_law_word" s_law_word a_law_word d_law_word
  m_law_word : mg "_law_word" = some (.ref a_law_word)
  b_law_word : Binds K d_law_word ["source", "size"] []
  a_law_grant : Addr
  d_law_grant : FuncData
  f_law_grant : Fun K "_law_grant" "_law_grant" s_law_grant a_law_grant d_law_grant
  m_law_grant : mg "_law_grant" = some (.ref a_law_grant)
  b_law_grant : Binds K d_law_grant ["source"] []
  a_law_mutated : Addr
  d_law_mutated : FuncData
  f_law_mutated : Fun K "_law_mutated" "_law_mutated" s_law_mutated a_law_mutated d_law_mutated
  m_law_mutated : mg "_law_mutated" = some (.ref a_law_mutated)
  b_law_mutated : Binds K d_law_mutated ["source", "grant"] []
  a_law_raised : Addr
  d_law_raised : FuncData
  f_law_raised : Fun K "_law_raised" "_law_raised" s_law_raised a_law_raised d_law_raised
  m_law_raised : mg "_law_raised" = some (.ref a_law_raised)
  b_law_raised : Binds K d_law_raised ["first", "second"] []
  a_law : Addr
  d_law : FuncData
  f_law : Fun K "law" "law" s_law a_law d_law
  m_law : mg "law" = some (.ref a_law)
  b_law : Binds K d_law ["script"] []
  t_ENTRIES : Tok
  c_ENTRIES : mg "ENTRIES" = some (.int (5) t_ENTRIES)
  t_LEAST_LEVEL : Tok
  c_LEAST_LEVEL : mg "LEAST_LEVEL" = some (.int (1) t_LEAST_LEVEL)
  t_MOST_LETTERS : Tok
  c_MOST_LETTERS : mg "MOST_LETTERS" = some (.int (8) t_MOST_LETTERS)
  t_MOST_LEVEL : Tok
  c_MOST_LEVEL : mg "MOST_LEVEL" = some (.int (9) t_MOST_LEVEL)
  t_MOST_PASSES : Tok
  c_MOST_PASSES : mg "MOST_PASSES" = some (.int (20) t_MOST_PASSES)
  t_MOST_TIME : Tok
  c_MOST_TIME : mg "MOST_TIME" = some (.int (1000000000000000000000000000000) t_MOST_TIME)
  n_ValueError : mg "ValueError" = none
  n_abs : mg "abs" = none
  n_all : mg "all" = none
  n_bool : mg "bool" = none
  n_int : mg "int" = none
  n_isinstance : mg "isinstance" = none
  n_len : mg "len" = none
  n_list : mg "list" = none
  n_range : mg "range" = none
  n_repr : mg "repr" = none
  n_str : mg "str" = none
  n_super : mg "super" = none
  n_tuple : mg "tuple" = none
  e_IG : Addr
  e_GE : Addr
  x_InvalidGrant : DX.SxC K P mg e_IG "InvalidGrant" "reason"
  m_GE : mg "GrantrollError" = some (.ref e_GE)
  q_exm : PySem.W.exmOne K (.ref e_IG) (.ref e_GE) = some true
  q_own : PySem.W.kitOne K (.ref e_IG) (.ref e_IG) = some true
  q_val : PySem.W.kitOne K (.ref e_IG) (.type "ValueError") = some true
  q_non : PySem.W.kitOne K (.type "NoneType") (.ref e_IG) = some false
  q_exc : L2.ExcC K e_IG
  q_xf : L2.XfC K e_IG
  q_no : PySem.W.findIn K (.ref e_IG) "reason" = some none
  z_dig : PySem.W.nsIn K cStatics "sys.int_max_str_digits" = some none
section
variable {P : Program} {w : World} {K : Fg} {cl : Cl} {mg : Str → Option Value} {base : Heap}
theorem ok_is_whole (T : Txt P K mg) : FnOk P w K mg base (L2.CX P w) 1 T.a_is_whole T.d_is_whole ["value"] (spW K cl 1 g_is_whole) := by
  refine def_ok (m := m_is_whole) T.f_is_whole sc_is_whole (fun cdv A outer s H B sc E hr => ?_) pr_is_whole
  have hx : Passes (L2.CX P w) (cxOf (L2.CX P w) P w K mg base N_is_whole "is_whole" (defScope s_is_whole) T.a_is_whole cdv A outer s H E) E := passes_call (takes_of rfl rfl rfl rfl) (fun _ _ _ _ h => h)
  exact (ds_one (ds_ret (de_and (de_is rfl rfl T.n_isinstance (qe_var 0) (pe_bltn (v := .ty "int") rfl T.n_int (by decide +kernel) rfl)) (de_one (de_not (de_is rfl rfl T.n_isinstance (qe_var 0) (pe_bltn (v := .ty "bool") rfl T.n_bool (by decide +kernel) rfl)))))))
theorem ok_is_name (T : Txt P K mg) : FnOk P w K mg base (L2.CX P w) 1 T.a_is_name T.d_is_name ["value"] (spW K cl 1 g_is_name) := by
  refine def_ok (m := m_is_name) T.f_is_name sc_is_name (fun cdv A outer s H B sc E hr => ?_) pr_is_name
  have hx : Passes (L2.CX P w) (cxOf (L2.CX P w) P w K mg base N_is_name "is_name" (defScope s_is_name) T.a_is_name cdv A outer s H E) E := passes_call (takes_of rfl rfl rfl rfl) (fun _ _ _ _ h => h)
  exact (ds_cons (ds_if (dt_bool (dw_or (dt_not (dt_val (de_is rfl rfl T.n_isinstance (qe_var 0) (pe_bltn (v := .ty "str") rfl T.n_str (by decide +kernel) rfl)))) (dw_or1 (dt_not (dt_chain op_le op_le f_le f_le (qe_of de_int) (qe_of (de_cb1 call_len f_len rfl T.n_len (by decide +kernel) (qe_var 0))) (qe_of (de_c (v := .int (8)) (pe_glob rfl T.c_MOST_LETTERS ⟨_, rfl⟩) fun _ => .int _))))))) (ds_one (ds_ret de_bl)) ds_nil)
    (ds_one (ds_ret (de_cb1 (cr_all rfl) f_all rfl T.n_all (by decide +kernel) (qe_ofL (le_comp (own := [("letter", 1)]) rfl sc_is_name.nd (iq_of (ie_str (de_var 0))) (blkOk_by (N := N_is_name) (sc := defScope s_is_name) (by decide +kernel)) (g_name 1) (gin_name (by decide)) (fun _ _ _ _ _ => (pg_name (i := 1) sc_is_name.nd rfl (Or.inl rfl))) (fun _ _ _ _ _ => dts_nil) (fun _ _ _ _ _ => (qe_chain op_le_str op_le_str f_leS f_leS (qe_of de_str) (qe_var 1) (qe_of de_str)))))))))
theorem ok_backs (T : Txt P K mg) : FnOk P w K mg base (L2.CX P w) 1 T.a_backs T.d_backs ["first", "second"] (spW K cl 2 g_backs) := by
  refine def_ok (m := m_backs) T.f_backs sc_backs (fun cdv A outer s H B sc E hr => ?_) pr_backs
  have hx : Passes (L2.CX P w) (cxOf (L2.CX P w) P w K mg base N_backs "backs" (defScope s_backs) T.a_backs cdv A outer s H E) E := passes_call (takes_of rfl rfl rfl rfl) (fun _ _ _ _ h => h)
  exact (ds_cons (ds_asg (g_tup [2, 3, 4, 5, 6]) (de_var 0) (pg_tup rfl (pgs_cons (pg_name (i := 2) sc_backs.nd rfl (Or.inl rfl)) (pgs_cons (pg_name (i := 3) sc_backs.nd rfl (Or.inl rfl)) (pgs_cons (pg_name (i := 4) sc_backs.nd rfl (Or.inl rfl)) (pgs_cons (pg_name (i := 5) sc_backs.nd rfl (Or.inl rfl)) (pgs_cons (pg_name (i := 6) sc_backs.nd rfl (Or.inl rfl)) pgs_nil)))))))
    (ds_cons (ds_asg (g_tup [7, 8, 3, 9, 10]) (de_var 1) (pg_tup rfl (pgs_cons (pg_name (i := 7) sc_backs.nd rfl (Or.inl rfl)) (pgs_cons (pg_name (i := 8) sc_backs.nd rfl (Or.inl rfl)) (pgs_cons (pg_name (i := 3) sc_backs.nd rfl (Or.inl rfl)) (pgs_cons (pg_name (i := 9) sc_backs.nd rfl (Or.inl rfl)) (pgs_cons (pg_name (i := 10) sc_backs.nd rfl (Or.inl rfl)) pgs_nil)))))))
    (ds_one (ds_ret (de_and (de_cmp (op_eqA (DS.hu64 hr)) (f_eq false) (qe_var 4) (qe_var 8) (nomark _)) (de_and (de_cmp op_lt f_lt (qe_var 2) (qe_var 7) (nomark _)) (de_and (de_cmp op_ge f_ge (qe_var 5) (qe_var 9) (nomark _)) (de_one (de_cmp op_gt f_gt (qe_var 6) (qe_var 10) (nomark _))))))))))
theorem ok_law_source (T : Txt P K mg) : FnOk P w K mg base (L2.CX P w) 1 T.a_law_source T.d_law_source ["script"] (spSource K) := by
  refine T.f_law_source.okX sc_law_source (fun vs H Q E ⟨a, ns, e, _⟩ => by rw [e]; rfl) fun cdv A outer s H vs Q E hr ⟨a, ns, e, hs, h63, q⟩ => ?_
  subst e
  refine ⟨_, pss_cons (ps_set (i := 1) sc_law_source.nd rfl (Or.inl rfl) (pe_slice sl_list (pv 0) po_none (po_some pe_int)))
    (pss_cons (ps_for (passes_of rfl) rfl (pi_range1 rfl T.n_range (pa_cons (pe_callB call_len rfl T.n_len (by decide +kernel) (pa_cons (pv 1) pa_nil)) pa_nil)) (pg_name (i := 2) sc_law_source.nd rfl (Or.inl rfl))
        (pss_one (ps_if (pt_cmpR op_ge (pe_callB call_abs rfl T.n_abs (by decide +kernel) (pa_cons (pe_ix ix_list (pv 1) (pv 2) (fun _ _ => rfl)) pa_nil)) (pe_op op_pow pe_int pe_int) (nomark _))
          (pss_one (ps_asg (pe_op op_mod (pe_callTy call_int1 rfl T.n_int (by decide +kernel) (pa_cons (pe_ix ix_list (pv 1) (pv 2) (fun _ _ => rfl)) pa_nil)) (pe_op op_powW (pe_op op_pow pe_int pe_int) pe_int)) (pg_sub (pv 1) (pv 2) set_list))) pss_nil)))
    (pss_cons (ps_if (pt_cmpR (op_eqA (DS.hu64 hr)) (pv 1) (pe_lst pa_nil) (nomark _)) (pss_one (ps_set (i := 1) sc_law_source.nd rfl (Or.inl rfl) (pe_lst (pa_cons pe_int pa_nil)))) pss_nil)
    (pss_one (ps_ret (pe_lst (pa_cons (pv 1) (pa_cons pe_int pa_nil))))))), ?_⟩
  refine ⟨.ref a, rfl, 63, rfl, a, ns.map V.int, rfl, hs, fun p hp => ?_⟩
  rw [cut63 h63]
  refine ⟨.ref p, rfl, .ref p, ns.length, rfl, Or.inl ⟨_, SqL.of upd_same, by simp⟩, ns.length, rfl, by omega, by omega, ?_⟩
  refine ⟨fun i m σ H' => m = ns.length - i ∧ i ≤ ns.length ∧ ∃ (v : Option V) (ms : List Int), σ = [some (.ref a), some (.ref p), v] ∧ H' p = some (.lst (ms.map V.int)) ∧ ms.length = ns.length ∧ okTo ms i,
    ⟨ns.length, by omega, by omega, none, ns, rfl, upd_same, rfl, fun j hj => by omega⟩, ?_⟩
  rintro i m σ H1 ⟨rfl, hi, v, ms, rfl, hp1, hl, hok⟩
  rcases Nat.lt_or_ge i ns.length with hlt | hge
  · refine Or.inr ⟨hlt, fun σ' H' => ∃ (v : Option V) (ms : List Int), σ' = [some (.ref a), some (.ref p), v] ∧ H' p = some (.lst (ms.map V.int)) ∧ ms.length = ns.length ∧ okTo ms (i + 1), fun σ' H' h => ⟨ns.length - (i + 1), by omega, rfl, by omega, h⟩, ?_⟩
    rintro x H2 ⟨rfl, rfl⟩
    obtain ⟨z, hz⟩ : ∃ z, ms[i]? = some z := ⟨ms[i], List.getElem?_eq_getElem (by omega)⟩
    refine ⟨.ref p, rfl, .int _, rfl, p, ms.map V.int, _, .int z, rfl, rfl, SqL.of hp1, atI_nat hz, z, rfl, 10, 18, rfl, rfl, ⟨by decide, by decide, by decide⟩, _, 10 ^ 18, rfl, rfl, _, rfl, ?_⟩
    refine if_cases (fun hb => ?_) fun hb => ?_
    · refine ⟨.ref p, rfl, .int _, rfl, p, ms.map V.int, _, .int z, rfl, rfl, SqL.of hp1, atI_nat hz, Or.inl ⟨z, rfl, 10, 60, rfl, rfl, ⟨by decide, by decide, by decide⟩, 10 ^ 60, 20, rfl, rfl, ⟨by decide, big_bits⟩, z, (10 ^ 60) ^ 20, rfl, rfl, (by decide +kernel : (0 : Int) < (10 ^ 60) ^ 20), ?_⟩⟩
      refine ⟨.ref p, rfl, .int _, rfl, p, ms.map V.int, _, i, rfl, rfl, hp1, ixN_nat (by rw [List.length_map]; omega), ?_⟩
      refine ⟨_, ms.set i (z % (10 ^ 60) ^ 20), rfl, by rw [upd_same, List.map_set], by simpa using hl, okTo_set hok ⟨?_, Int.emod_lt_of_pos _ (by decide +kernel)⟩⟩
      exact Int.lt_of_lt_of_le (by decide) (Int.emod_nonneg z (by decide +kernel))
    · refine ⟨_, ms, rfl, hp1, hl, okTo_next hok fun y hy => ?_⟩
      rw [hz] at hy
      cases hy
      have hb' : ¬ ((10 : Int) ^ 18 ≤ if z < 0 then -z else z) := fun q => hb (decide_eq_true q)
      have hbig : (10 : Int) ^ 18 < (10 ^ 60) ^ 20 := by decide +kernel
      split at hb' <;> exact ⟨by omega, Int.lt_trans (by omega) hbig⟩
  · refine Or.inl ⟨hge, ?_⟩
    have hall : ∀ z ∈ ms, cellOk z := fun z hz => by
      obtain ⟨j, hj, e⟩ := List.mem_iff_getElem.1 hz
      exact hok j (by omega) z (by rw [List.getElem?_eq_getElem hj, e])
    refine ⟨.ref p, rfl, by decide, fun p2 hp2 => ?_⟩
    have ne2 : p ≠ p2 := fun e => by rw [← e, hp1] at hp2; cases hp2
    refine ⟨.list (ms.map .int), .list [], .lst (SqL.of (by rw [upd_ne ne2]; exact hp1)) (dps_ints ms), .lst (SqL.of upd_same) .nil, okD_ints ms, by decide, _, rfl, ?_⟩
    rw [eqv_nil]
    refine if_cases (fun hb => ?_) fun hb => ?_
    · refine ⟨by decide, fun p3 hp3 => ?_⟩
      refine ⟨.ref p3, rfl, two_line, fun p4 hp4 => ?_⟩
      exact q p4 p3 _ fun n hn => src_end (ms := [0]) upd_same (by decide) (by decide) (fun z hz => by simp at hz; subst hz; exact ⟨by decide, by decide +kernel⟩) hp4 n hn
    · refine ⟨.ref p, rfl, two_line, fun p4 hp4 => ?_⟩
      exact q p4 p _ fun n hn => src_end (ms := ms) (by rw [upd_ne ne2]; exact hp1) (fun e => hb (by simp [e])) (by omega) hall hp4 n hn

theorem ok_law_draw (T : Txt P K mg) : FnOk P w K mg base (L2.CX P w) 1 T.a_law_draw T.d_law_draw ["source", "limit"] (spW K cl 2 g_law_draw) := by
  refine T.f_law_draw.okX sc_law_draw (fun vs H Q E ⟨sc, B, n, as, Pp, R, _, _, _, pr, hl, _⟩ => by rw [paired_len pr]; exact hl) fun cdv A outer s H vs Q E hr ⟨sc, B, n, as, Pp, R, sub, nos, src, pr, hl, hg, ox, q⟩ => ?_
  refine ⟨_, pss_cons (ps_asg (pv 0) (pg_unl rfl (pgs_cons (pg_name (i := 2) sc_law_draw.nd rfl (Or.inl rfl)) (pgs_cons (pg_name (i := 3) sc_law_draw.nd rfl (Or.inl rfl)) pgs_nil))))
    (pss_cons (ps_set (i := 4) sc_law_draw.nd rfl (Or.inl rfl) (pe_op op_mod (pe_callTy call_int1 rfl T.n_int (by decide +kernel) (pa_cons (pv 3) pa_nil)) (pe_callB call_len rfl T.n_len (by decide +kernel) (pa_cons (pv 2) pa_nil))))
    (pss_cons (ps_set (i := 5) sc_law_draw.nd rfl (Or.inl rfl) (pe_ix ix_list (pv 2) (pv 4) (fun _ _ => rfl)))
    (pss_cons (ps_asg (pe_op op_add (pv 3) pe_int) (pg_sub (pv 0) pe_int set_list))
    (pss_cons (ps_if (pt_cmpR op_ge (pv 5) (pe_op op_pow pe_int pe_int) (nomark _))
        (pss_cons (ps_asg (pe_op op_fdivW (pv 5) (pv 1)) (pg_sub (pv 2) (pv 4) set_list)) (pss_one (ps_ret (pe_op op_mod (pe_callTy call_int1 rfl T.n_int (by decide +kernel) (pa_cons (pv 5) pa_nil)) (pv 1))))) pss_nil)
    (pss_cons (ps_set (i := 6) sc_law_draw.nd rfl (Or.inl rfl) (pe_op op_mod (pe_callTy call_int1 rfl T.n_int (by decide +kernel) (pa_cons (pe_op op_add (pe_op op_add (pe_op op_mul (pe_op op_mod (pe_callTy call_int1 rfl T.n_int (by decide +kernel) (pa_cons (pv 5) pa_nil)) pe_int) pe_int) (pe_op op_mul (pe_op op_mul (pv 3) (pv 3)) pe_int)) pe_int) pa_nil)) pe_int))
    (pss_cons (ps_set (i := 6) sc_law_draw.nd rfl (Or.inl rfl) (pe_op op_mod (pe_callTy call_int1 rfl T.n_int (by decide +kernel) (pa_cons (pe_op op_mul (pv 6) (pv 6)) pa_nil)) pe_int))
    (pss_cons (ps_set (i := 6) sc_law_draw.nd rfl (Or.inl rfl) (pe_op op_mod (pe_callTy call_int1 rfl T.n_int (by decide +kernel) (pa_cons (pe_op op_mul (pv 6) (pv 6)) pa_nil)) pe_int))
    (pss_cons (ps_if (pt_cmpR op_gt (pv 1) (pe_op op_pow pe_int pe_int) (nomark _))
        (pss_cons (ps_set (i := 7) sc_law_draw.nd rfl (Or.inl rfl) (pe_op op_mod (pe_callTy call_int1 rfl T.n_int (by decide +kernel) (pa_cons (pe_op op_add (pe_op op_add (pe_op op_mul (pv 6) pe_int) (pe_op op_mul (pv 3) pe_int)) pe_int) pa_nil)) pe_int))
          (pss_one (ps_set (i := 6) sc_law_draw.nd rfl (Or.inl rfl) (pe_op op_mul (pv 6) (pe_op op_add (pe_op op_mul (pe_op op_mul (pv 7) (pv 7)) (pv 7)) pe_int))))) pss_nil)
    (pss_one (ps_ret (pe_op op_mod (pe_callTy call_int1 rfl T.n_int (by decide +kernel) (pa_cons (pv 6) pa_nil)) (pv 1)))))))))))), ?_⟩
  obtain ⟨lim, rfl, l1, l2, n0, hP⟩ := hg
  obtain ⟨ss, cc, rfl, rfl⟩ := draw_args pr
  obtain ⟨hne, ns, t, hs, hc, hn, hn63, hcell, ht⟩ := src
  obtain ⟨z, hzm, hz⟩ := atI_z (l := ns) (k := (t : Int) % (ns.length : Int)) (Int.emod_nonneg _ (by omega)) (Int.emod_lt_of_pos _ (by omega))
  have hz2 := hcell z hzm
  have sN : ∀ x, B x ≠ none → x ≠ ss := fun x e q => e (nos x (Or.inl q))
  have st1 : Stp (some (ss, cc)) B H B (upd H ss (.lst [.ref cc, .int ((t : Int) + 1)])) :=
    ⟨fun x u e => by rw [upd_ne (sN x (by rw [e]; exact fun z => by cases z))]; exact sub x u e, Same.refl _, fun _ _ => rfl, nos, fun a o n e => by rw [upd_ne (fun q => n (Or.inl q))]; exact e⟩
  have hc1 : (upd H ss (.lst [.ref cc, .int ((t : Int) + 1)])) cc = some (.lst (ns.map V.int)) := by rw [upd_ne (fun q => hne q.symm)]; exact hc
  have sr1 : SrcOk (some (ss, cc)) (upd H ss (.lst [.ref cc, .int ((t : Int) + 1)])) (n - 1) := ⟨hne, ns, t + 1, by rw [upd_same]; rfl, hc1, hn, hn63, hcell, by omega⟩
  have hret : ∀ x : Int, Q (.int (x % lim)) (upd H ss (.lst [.ref cc, .int ((t : Int) + 1)])) := fun x => q _ _ (hP _ (Int.emod_nonneg _ (by omega)) (Int.emod_lt_of_pos _ (by omega))) _ B _ st1 sr1 (.int _)
  refine ⟨.ref ss, rfl, ss, _, rfl, SqL.of hs, rfl, .ref cc, _, rfl, .int t, _, rfl, rfl, ?_⟩
  refine ⟨.int t, rfl, Or.inl ⟨t, rfl, .ref cc, rfl, .ref cc, ns.length, rfl, Or.inl ⟨_, SqL.of hc, by simp⟩, t, ns.length, rfl, rfl, by omega, ?_⟩⟩
  refine ⟨.ref cc, rfl, .int _, rfl, cc, ns.map V.int, _, .int z, rfl, rfl, SqL.of hc, hz, ?_⟩
  refine ⟨.int t, rfl, t, 1, rfl, rfl, .ref ss, rfl, ss, _, 1, 1, rfl, rfl, hs, rfl, ?_⟩
  refine ⟨.int z, rfl, 10, 18, rfl, rfl, ⟨by decide, by decide, by decide⟩, z, 10 ^ 18, rfl, rfl, _, rfl, ?_⟩
  refine if_cases (fun hb => ?_) fun _ => ?_
  · have hb' : (10 : Int) ^ 18 ≤ z := of_decide_eq_true hb
    have h0 : 0 ≤ (t : Int) % (ns.length : Int) := Int.emod_nonneg _ (by omega)
    have h1 : (t : Int) % (ns.length : Int) < ns.length := Int.emod_lt_of_pos _ (by omega)
    have hix : ixN (ns.map V.int).length ((t : Int) % (ns.length : Int)) = some ((t : Int) % (ns.length : Int)).toNat := by
      unfold ixN; rw [if_pos h0, List.length_map, if_pos h1]
    have hd0 : 0 ≤ z / lim := Int.ediv_nonneg (by omega) (by omega)
    have hd1 : z / lim ≤ z := Int.ediv_le_self _ (by omega)
    refine ⟨.int z, rfl, .int lim, rfl, z, lim, rfl, rfl, wide_div (b := 200) (by omega) (by omega) (by decide) (by decide), .ref cc, rfl, .int _, rfl, cc, ns.map V.int, _, _, rfl, rfl, hc1, hix, ?_⟩
    refine ⟨.int z, rfl, Or.inl ⟨z, rfl, .int lim, rfl, z, lim, rfl, rfl, by omega, ?_⟩⟩
    refine q _ _ (hP _ (Int.emod_nonneg _ (by omega)) (Int.emod_lt_of_pos _ (by omega))) _ B _ ?_ ?_ (.int _)
    · exact ⟨fun x u e => by rw [upd_ne (fun q => by have e2 := nos x (Or.inr q); rw [e] at e2; cases e2)]; exact st1.sub x u e, Same.refl _, fun _ _ => rfl, nos,
        fun a o n e => by rw [upd_ne (fun q => n (Or.inr q)), upd_ne (fun q => n (Or.inl q))]; exact e⟩
    · refine ⟨hne, ns.set ((t : Int) % (ns.length : Int)).toNat (z / lim), t + 1, by rw [upd_ne hne, upd_same]; rfl, by rw [upd_same, List.map_set], by simpa using hn, by simpa using hn63, ?_, by omega⟩
      intro y hy
      rcases List.mem_or_eq_of_mem_set hy with h | h
      · exact hcell y h
      · subst h; exact ⟨by omega, by have := hz2.2; omega⟩
  · have n1 := Int.emod_nonneg z (b := 2147483629) (by decide)
    have n2 := Int.emod_lt_of_pos z (b := 2147483629) (by decide)
    refine ⟨.int z, rfl, Or.inl ⟨z, rfl, z, 2147483629, rfl, rfl, (by decide : (0 : Int) < 2147483629), _, 48271, rfl, rfl, Or.inr (by decide), ?_⟩⟩
    refine ⟨.int t, rfl, .int t, rfl, t, t, rfl, rfl, Or.inl ⟨by omega, by omega⟩, _, 69621, rfl, rfl, Or.inr (by decide), ?_⟩
    refine ⟨_, _, rfl, rfl, _, 11, rfl, rfl, Or.inl ⟨_, rfl, _, 2147483647, rfl, rfl, (by decide : (0 : Int) < 2147483647), ?_⟩⟩
    dsimp only
    generalize hm1 : (z % 2147483629 * 48271 + (t : Int) * t * 69621 + 11) % 2147483647 = m1
    have a1 : 0 ≤ m1 ∧ m1 < 2147483647 := by subst hm1; exact ⟨Int.emod_nonneg _ (by decide), Int.emod_lt_of_pos _ (by decide)⟩
    refine ⟨.int m1, rfl, .int m1, rfl, m1, m1, rfl, rfl, Or.inl ⟨by omega, by omega⟩, Or.inl ⟨_, rfl, _, 2147483629, rfl, rfl, (by decide : (0 : Int) < 2147483629), ?_⟩⟩
    dsimp only
    generalize hm2 : m1 * m1 % 2147483629 = m2
    have a2 : 0 ≤ m2 ∧ m2 < 2147483629 := by subst hm2; exact ⟨Int.emod_nonneg _ (by decide), Int.emod_lt_of_pos _ (by decide)⟩
    refine ⟨.int m2, rfl, .int m2, rfl, m2, m2, rfl, rfl, Or.inl ⟨by omega, by omega⟩, Or.inl ⟨_, rfl, _, 2147483587, rfl, rfl, (by decide : (0 : Int) < 2147483587), ?_⟩⟩
    dsimp only
    generalize hm3 : m2 * m2 % 2147483587 = m3
    have a3 : 0 ≤ m3 ∧ m3 < 2147483587 := by subst hm3; exact ⟨Int.emod_nonneg _ (by decide), Int.emod_lt_of_pos _ (by decide)⟩
    refine ⟨.int lim, rfl, 10, 9, rfl, rfl, ⟨by decide, by decide, by decide⟩, lim, 10 ^ 9, rfl, rfl, _, rfl, ?_⟩
    refine if_cases (fun _ => ?_) fun _ => ?_
    · refine ⟨.int m3, rfl, m3, 39373, rfl, rfl, Or.inr (by decide), .int t, rfl, t, 7919, rfl, rfl, Or.inr (by decide), _, _, rfl, rfl, _, 500, rfl, rfl, Or.inl ⟨_, rfl, _, 2147483629, rfl, rfl, (by decide : (0 : Int) < 2147483629), ?_⟩⟩
      dsimp only
      generalize hm4 : (m3 * 39373 + (t : Int) * 7919 + 500) % 2147483629 = m4
      have a4 : 0 ≤ m4 ∧ m4 < 2147483629 := by subst hm4; exact ⟨Int.emod_nonneg _ (by decide), Int.emod_lt_of_pos _ (by decide)⟩
      refine ⟨.int m3, rfl, .int m4, rfl, .int m4, rfl, m4, m4, rfl, rfl, Or.inl ⟨by omega, by omega⟩, .int m4, rfl, _, m4, rfl, rfl, Or.inr ⟨by omega, by omega⟩, _, 1, rfl, rfl, m3, _, rfl, rfl, Or.inl ⟨by omega, by omega⟩, ?_⟩
      exact ⟨_, rfl, Or.inl ⟨_, rfl, .int lim, rfl, _, lim, rfl, rfl, by omega, hret _⟩⟩
    · exact ⟨_, rfl, Or.inl ⟨_, rfl, .int lim, rfl, _, lim, rfl, rfl, by omega, hret _⟩⟩

theorem ok_law_is_word (T : Txt P K mg) : FnOk P w K mg base (L2.CX P w) 1 T.a_law_is_word T.d_law_is_word ["value"] (spW K cl 1 g_law_is_word) := by
  refine def_ok (m := m_law_is_word) T.f_law_is_word sc_law_is_word (fun cdv A outer s H B sc E hr => ?_) pr_law_is_word
  have hx : Passes (L2.CX P w) (cxOf (L2.CX P w) P w K mg base N_law_is_word "_law_is_word" (defScope s_law_is_word) T.a_law_is_word cdv A outer s H E) E := passes_call (takes_of rfl rfl rfl rfl) (fun _ _ _ _ h => h)
  exact (ds_cons (ds_if (dt_bool (dw_or (dt_not (dt_val (de_is rfl rfl T.n_isinstance (qe_var 0) (pe_bltn (v := .ty "str") rfl T.n_str (by decide +kernel) rfl)))) (dw_or (dt_cmp op_lt f_lt (qe_of (de_cb1 call_len f_len rfl T.n_len (by decide +kernel) (qe_var 0))) (qe_of de_int) (nomark _)) (dw_or1 (dt_cmp op_gt f_gt (qe_of (de_cb1 call_len f_len rfl T.n_len (by decide +kernel) (qe_var 0))) (qe_of de_int) (nomark _)))))) (ds_one (ds_ret de_bl)) ds_nil)
    (ds_one (ds_ret (de_cmp (op_eqA (DS.hu64 hr)) (f_eq false) (qe_ofL (le_comp (own := [("letter", 1)]) rfl sc_law_is_word.nd (iq_of (ie_str (de_var 0))) (blkOk_by (N := N_law_is_word) (sc := defScope s_law_is_word) (by decide +kernel)) (g_name 1) (gin_name (by decide)) (fun _ _ _ _ _ => (pg_name (i := 1) sc_law_is_word.nd rfl (Or.inl rfl))) (fun _ _ _ _ _ => (dts_one (dt_cmp op_notIn_sign f_notSign (qe_var 1) (qe_of de_str) rfl))) (fun _ _ _ _ _ => (de_var 1)))) (qe_ofL (le_lst da_nil)) (nomark _)))))
theorem ok_law_is_within (T : Txt P K mg) : FnOk P w K mg base (L2.CX P w) 1 T.a_law_is_within T.d_law_is_within ["value", "least", "most"] (spW K cl 3 g_law_is_within) := by
  refine def_ok (m := m_law_is_within) T.f_law_is_within sc_law_is_within (fun cdv A outer s H B sc E hr => ?_) pr_law_is_within
  have hx : Passes (L2.CX P w) (cxOf (L2.CX P w) P w K mg base N_law_is_within "_law_is_within" (defScope s_law_is_within) T.a_law_is_within cdv A outer s H E) E := passes_call (takes_of rfl rfl rfl rfl) (fun _ _ _ _ h => h)
  exact (ds_one (ds_ret (de_and (de_is rfl rfl T.n_isinstance (qe_var 0) (pe_bltn (v := .ty "int") rfl T.n_int (by decide +kernel) rfl)) (de_and (de_not (de_is rfl rfl T.n_isinstance (qe_var 0) (pe_bltn (v := .ty "bool") rfl T.n_bool (by decide +kernel) rfl))) (de_and (de_cmp op_ge f_ge (qe_var 0) (qe_var 1) (nomark _)) (de_one (de_cmp op_le f_le (qe_var 0) (qe_var 2) (nomark _))))))))
theorem ok_law_great (T : Txt P K mg) : FnOk P w K mg base (L2.CX P w) 1 T.a_law_great T.d_law_great [] (spW K cl 0 g_law_great) := by
  refine def_ok (m := m_law_great) T.f_law_great sc_law_great (fun cdv A outer s H B sc E hr => ?_) pr_law_great
  have hx : Passes (L2.CX P w) (cxOf (L2.CX P w) P w K mg base N_law_great "_law_great" (defScope s_law_great) T.a_law_great cdv A outer s H E) E := passes_call (takes_of rfl rfl rfl rfl) (fun _ _ _ _ h => h)
  exact (ds_cons (ds_set (i := 0) sc_law_great.nd rfl (Or.inl rfl) (de_op op_pow f_pow (qe_of de_int) (qe_of de_int)))
    (ds_cons (ds_for (passes_of rfl) rfl (g_name 1) ((ie_rng1 rfl T.n_range de_int)) (pg_name (i := 1) sc_law_great.nd rfl (Or.inl rfl))
      (ds_one (ds_set (i := 0) sc_law_great.nd rfl (Or.inl rfl) (de_op op_mulX f_mulX (qe_var 0) (qe_of (de_op op_pow f_pow (qe_of de_int) (qe_of de_int)))))))
    (ds_one (ds_ret (de_var 0)))))
theorem ok_is_within (T : Txt P K mg) : FnOk P w K mg base (L2.CX P w) 2 T.a_is_within T.d_is_within ["value", "least", "most"] (spW K cl 3 g_is_within) := by
  refine def_ok (m := m_is_within) T.f_is_within sc_is_within (fun cdv A outer s H B sc E hr => ?_) pr_is_within
  have hx : Passes (L2.CX P w) (cxOf (L2.CX P w) P w K mg base N_is_within "is_within" (defScope s_is_within) T.a_is_within cdv A outer s H E) E := passes_call (takes_of rfl rfl rfl rfl) (fun _ _ _ _ h => h)
  exact (ds_one (ds_ret (de_and (de_call (ok_is_whole T) (hr.mono (by decide)) rfl T.m_is_whole T.f_is_whole.kp T.b_is_whole hx (da_cons (de_var 0) da_nil)) (de_one (qe_chain op_le op_le f_le f_le (qe_var 1) (qe_var 0) (qe_var 2))))))
theorem ok_law_pick (T : Txt P K mg) : FnOk P w K mg base (L2.CX P w) 2 T.a_law_pick T.d_law_pick ["source", "values"] (spW K cl 2 g_law_pick) := by
  refine def_ok (m := m_law_pick) T.f_law_pick sc_law_pick (fun cdv A outer s H B sc E hr => ?_) pr_law_pick
  have hx : Passes (L2.CX P w) (cxOf (L2.CX P w) P w K mg base N_law_pick "_law_pick" (defScope s_law_pick) T.a_law_pick cdv A outer s H E) E := passes_call (takes_of rfl rfl rfl rfl) (fun _ _ _ _ h => h)
  exact (ds_one (ds_ret (de_ix rfl (qe_var 1) (qe_of (de_call (ok_law_draw T) (hr.mono (by decide)) rfl T.m_law_draw T.f_law_draw.kp T.b_law_draw hx (da_src 0 (da_cons (de_cb1 call_len f_len rfl T.n_len (by decide +kernel) (qe_var 1)) da_nil)))) (fun _ _ => rfl))))
theorem ok_law_shuffle (T : Txt P K mg) : FnOk P w K mg base (L2.CX P w) 2 T.a_law_shuffle T.d_law_shuffle ["source", "values"] (spW K cl 2 g_law_shuffle) := by
  refine def_ok (m := m_law_shuffle) T.f_law_shuffle sc_law_shuffle (fun cdv A outer s H B sc E hr => ?_) pr_law_shuffle
  have hx : Passes (L2.CX P w) (cxOf (L2.CX P w) P w K mg base N_law_shuffle "_law_shuffle" (defScope s_law_shuffle) T.a_law_shuffle cdv A outer s H E) E := passes_call (takes_of rfl rfl rfl rfl) (fun _ _ _ _ h => h)
  exact (ds_cons (ds_own (i := 2) sc_law_shuffle.nd rfl (Or.inl rfl) (le_lst da_nil))
    (ds_cons (ds_for (passes_of rfl) rfl (g_name 3) (ie_list rfl (de_var 1)) (pg_name (i := 3) sc_law_shuffle.nd rfl (Or.inl rfl))
      (ds_one (ds_ins (i := 2) (de_call (ok_law_draw T) (hr.mono (by decide)) rfl T.m_law_draw T.f_law_draw.kp T.b_law_draw hx (da_src 0 (da_cons (de_op op_add f_add (qe_of (de_cb1 call_len f_len rfl T.n_len (by decide +kernel) (qe_var 2))) (qe_of de_int)) da_nil))) (de_var 3))))
    (ds_one (ds_retO 2))))
theorem ok_law_expected (T : Txt P K mg) : FnOk P w K mg base (L2.CX P w) 2 T.a_law_expected T.d_law_expected ["value"] (spW K cl 1 g_law_expected) := by
  refine def_ok (m := m_law_expected) T.f_law_expected sc_law_expected (fun cdv A outer s H B sc E hr => ?_) pr_law_expected
  have hx : Passes (L2.CX P w) (cxOf (L2.CX P w) P w K mg base N_law_expected "_law_expected" (defScope s_law_expected) T.a_law_expected cdv A outer s H E) E := passes_call (takes_of rfl rfl rfl rfl) (fun _ _ _ _ h => h)
  exact (ds_cons (ds_if (dt_bool (dw_or (dt_not (dt_val (de_is rfl rfl T.n_isinstance (qe_var 0) (pe_bltn (v := .ty "tuple") rfl T.n_tuple (by decide +kernel) rfl)))) (dw_or1 (dt_cmp (op_neA (DS.hu64 hr)) (f_eq true) (qe_of (de_cb1 call_len f_len rfl T.n_len (by decide +kernel) (qe_var 0))) (qe_of de_int) (nomark _))))) (ds_one (ds_ret (de_tup (da_cons de_str da_nil)))) ds_nil)
    (ds_cons (ds_if (dt_not (dt_val (de_call (ok_law_is_within T) (hr.mono (by decide)) rfl T.m_law_is_within T.f_law_is_within.kp T.b_law_is_within hx (da_cons (de_ix rfl (qe_var 0) (qe_of de_int) (fun _ _ => rfl)) (da_cons (de_op op_sub f_sub (qe_of de_int) (qe_of (de_op op_pow f_pow (qe_of de_int) (qe_of de_int)))) (da_cons (de_op op_pow f_pow (qe_of de_int) (qe_of de_int)) da_nil)))))) (ds_one (ds_ret (de_tup (da_cons de_str da_nil)))) ds_nil)
    (ds_cons (ds_if (dt_not (dt_val (de_call (ok_law_is_word T) (hr.mono (by decide)) rfl T.m_law_is_word T.f_law_is_word.kp T.b_law_is_word hx (da_cons (de_ix rfl (qe_var 0) (qe_of de_int) (fun _ _ => rfl)) da_nil)))) (ds_one (ds_ret (de_tup (da_cons de_str da_nil)))) ds_nil)
    (ds_cons (ds_if (dt_not (dt_val (de_call (ok_law_is_word T) (hr.mono (by decide)) rfl T.m_law_is_word T.f_law_is_word.kp T.b_law_is_word hx (da_cons (de_ix rfl (qe_var 0) (qe_of de_int) (fun _ _ => rfl)) da_nil)))) (ds_one (ds_ret (de_tup (da_cons de_str da_nil)))) ds_nil)
    (ds_cons (ds_if (dt_cmp (op_eqA (DS.hu64 hr)) (f_eq false) (qe_of (de_ix rfl (qe_var 0) (qe_of de_int) (fun _ _ => rfl))) (qe_of (de_ix rfl (qe_var 0) (qe_of de_int) (fun _ _ => rfl))) (nomark _)) (ds_one (ds_ret (de_tup (da_cons de_str da_nil)))) ds_nil)
    (ds_cons (ds_if (dt_not (dt_val (de_call (ok_law_is_within T) (hr.mono (by decide)) rfl T.m_law_is_within T.f_law_is_within.kp T.b_law_is_within hx (da_cons (de_ix rfl (qe_var 0) (qe_of de_int) (fun _ _ => rfl)) (da_cons de_int (da_cons de_int da_nil)))))) (ds_one (ds_ret (de_tup (da_cons de_str da_nil)))) ds_nil)
    (ds_one (ds_ret (de_ix rfl (qe_ofL (le_lst (da_cons (de_tup (da_cons de_str da_nil)) (da_cons de_non da_nil)))) (qe_of (de_ct1 call_int1 f_int rfl T.n_int (by decide +kernel) (qe_of (de_call (ok_law_is_within T) (hr.mono (by decide)) rfl T.m_law_is_within T.f_law_is_within.kp T.b_law_is_within hx (da_cons (de_ix rfl (qe_var 0) (qe_of de_int) (fun _ _ => rfl)) (da_cons de_int (da_cons de_int da_nil))))))) (fun _ _ => rfl))))))))))
theorem ok_law_word (T : Txt P K mg) : FnOk P w K mg base (L2.CX P w) 2 T.a_law_word T.d_law_word ["source", "size"] (spW K cl 2 g_law_word) := by
  refine def_ok (m := m_law_word) T.f_law_word sc_law_word (fun cdv A outer s H B sc E hr => ?_) pr_law_word
  have hx : Passes (L2.CX P w) (cxOf (L2.CX P w) P w K mg base N_law_word "_law_word" (defScope s_law_word) T.a_law_word cdv A outer s H E) E := passes_call (takes_of rfl rfl rfl rfl) (fun _ _ _ _ h => h)
  exact (ds_one (ds_ret (de_join rfl de_str (qe_ofL (le_comp (own := [("k", 2)]) rfl sc_law_word.nd (iq_of (ie_rng1 rfl T.n_range (de_var 1))) (blkOk_by (N := N_law_word) (sc := defScope s_law_word) (by decide +kernel)) (g_name 2) (gin_name (by decide)) (fun _ _ _ _ _ => (pg_name (i := 2) sc_law_word.nd rfl (Or.inl rfl))) (fun _ _ _ _ _ => dts_nil) (fun _ _ _ _ _ => (de_ix rfl (qe_of de_str) (qe_of (de_call (ok_law_draw T) (hr.mono (by decide)) rfl T.m_law_draw T.f_law_draw.kp T.b_law_draw passL (da_src 0 (da_cons de_int da_nil)))) (fun _ _ => rfl))))))))
theorem ok_is_time (T : Txt P K mg) : FnOk P w K mg base (L2.CX P w) 3 T.a_is_time T.d_is_time ["value"] (spW K cl 1 g_is_time) := by
  refine def_ok (m := m_is_time) T.f_is_time sc_is_time (fun cdv A outer s H B sc E hr => ?_) pr_is_time
  have hx : Passes (L2.CX P w) (cxOf (L2.CX P w) P w K mg base N_is_time "is_time" (defScope s_is_time) T.a_is_time cdv A outer s H E) E := passes_call (takes_of rfl rfl rfl rfl) (fun _ _ _ _ h => h)
  exact (ds_one (ds_ret (de_call (ok_is_within T) (hr.mono (by decide)) rfl T.m_is_within T.f_is_within.kp T.b_is_within hx (da_cons (de_var 0) (da_cons (de_neg (qe_of (de_c (v := .int (1000000000000000000000000000000)) (pe_glob rfl T.c_MOST_TIME ⟨_, rfl⟩) fun _ => .int _))) (da_cons (de_c (v := .int (1000000000000000000000000000000)) (pe_glob rfl T.c_MOST_TIME ⟨_, rfl⟩) fun _ => .int _) da_nil))))))
theorem ok_law_grant (T : Txt P K mg) : FnOk P w K mg base (L2.CX P w) 3 T.a_law_grant T.d_law_grant ["source"] (spW K cl 1 g_law_grant) := by
  refine def_ok (m := m_law_grant) T.f_law_grant sc_law_grant (fun cdv A outer s H B sc E hr => ?_) pr_law_grant
  have hx : Passes (L2.CX P w) (cxOf (L2.CX P w) P w K mg base N_law_grant "_law_grant" (defScope s_law_grant) T.a_law_grant cdv A outer s H E) E := passes_call (takes_of rfl rfl rfl rfl) (fun _ _ _ _ h => h)
  exact (ds_cons (ds_set (i := 1) sc_law_grant.nd rfl (Or.inl rfl) (de_call (ok_law_shuffle T) (hr.mono (by decide)) rfl T.m_law_shuffle T.f_law_shuffle.kp T.b_law_shuffle hx (da_src 0 (da_cons (de_ofL (le_lst (da_cons de_str (da_cons de_str (da_cons de_str (da_cons de_str (da_cons (de_call (ok_law_word T) (hr.mono (by decide)) rfl T.m_law_word T.f_law_word.kp T.b_law_word hx (da_src 0 (da_cons de_int da_nil))) (da_cons (de_call (ok_law_word T) (hr.mono (by decide)) rfl T.m_law_word T.f_law_word.kp T.b_law_word hx (da_src 0 (da_cons de_int da_nil))) da_nil)))))))) da_nil))))
    (ds_cons (ds_set (i := 2) sc_law_grant.nd rfl (Or.inl rfl) (de_call (ok_law_pick T) (hr.mono (by decide)) rfl T.m_law_pick T.f_law_pick.kp T.b_law_pick hx (da_src 0 (da_cons (de_ofL (le_lst (da_cons de_int (da_cons de_int (da_cons (de_op op_sub f_sub (qe_of de_int) (qe_of de_int)) (da_cons (de_op op_pow f_pow (qe_of de_int) (qe_of de_int)) (da_cons (de_op op_sub f_sub (qe_of de_int) (qe_of (de_op op_pow f_pow (qe_of de_int) (qe_of de_int)))) (da_cons (de_op op_sub f_sub (qe_of (de_call (ok_law_draw T) (hr.mono (by decide)) rfl T.m_law_draw T.f_law_draw.kp T.b_law_draw hx (da_src 0 (da_cons (de_op op_pow f_pow (qe_of de_int) (qe_of de_int)) da_nil)))) (qe_of (de_op op_mul f_mul (qe_of de_int) (qe_of (de_op op_pow f_pow (qe_of de_int) (qe_of de_int)))))) da_nil)))))))) da_nil))))
    (ds_one (ds_ret (de_tup (da_cons (de_var 2) (da_cons (de_ix rfl (qe_var 1) (qe_of de_int) (fun _ _ => rfl)) (da_cons (de_ix rfl (qe_var 1) (qe_of de_int) (fun _ _ => rfl)) (da_cons (de_op op_add f_add (qe_of de_int) (qe_of (de_call (ok_law_draw T) (hr.mono (by decide)) rfl T.m_law_draw T.f_law_draw.kp T.b_law_draw hx (da_src 0 (da_cons de_int da_nil))))) (da_cons (de_call (ok_law_draw T) (hr.mono (by decide)) rfl T.m_law_draw T.f_law_draw.kp T.b_law_draw hx (da_src 0 (da_cons de_int da_nil))) da_nil))))))))))
theorem ok_law_mutated (T : Txt P K mg) : FnOk P w K mg base (L2.CX P w) 3 T.a_law_mutated T.d_law_mutated ["source", "grant"] (spW K cl 2 g_law_mutated) := by
  refine def_ok (m := m_law_mutated) T.f_law_mutated sc_law_mutated (fun cdv A outer s H B sc E hr => ?_) pr_law_mutated
  have hx : Passes (L2.CX P w) (cxOf (L2.CX P w) P w K mg base N_law_mutated "_law_mutated" (defScope s_law_mutated) T.a_law_mutated cdv A outer s H E) E := passes_call (takes_of rfl rfl rfl rfl) (fun _ _ _ _ h => h)
  exact (ds_cons (ds_set (i := 2) sc_law_mutated.nd rfl (Or.inl rfl) (de_call0 (ok_law_great T) (hr.mono (by decide)) rfl T.m_law_great T.f_law_great.kp T.b_law_great hx ))
    (ds_cons (ds_set (i := 3) sc_law_mutated.nd rfl (Or.inl rfl) (de_ofL (le_lst (da_cons de_non (da_cons de_bl (da_cons de_bl (da_cons de_int (da_cons de_int (da_cons de_int (da_cons (de_op op_sub f_sub (qe_of de_int) (qe_of de_int)) (da_cons (de_op op_add f_add (qe_of (de_op op_pow f_pow (qe_of de_int) (qe_of de_int))) (qe_of de_int)) (da_cons (de_op op_sub f_sub (qe_of (de_op op_sub f_sub (qe_of de_int) (qe_of (de_op op_pow f_pow (qe_of de_int) (qe_of de_int))))) (qe_of de_int)) (da_cons (de_var 2) (da_cons (de_op op_sub f_sub (qe_of de_int) (qe_var 2)) da_nil))))))))))))))
    (ds_cons (ds_set (i := 3) sc_law_mutated.nd rfl (Or.inl rfl) (de_ofL (le_cat (qe_var 3) (qe_ofL (le_lst (da_cons de_str (da_cons de_str (da_cons de_str da_nil))))))))
    (ds_cons (ds_set (i := 3) sc_law_mutated.nd rfl (Or.inl rfl) (de_ofL (le_cat (qe_var 3) (qe_ofL (le_lst (da_cons de_str (da_cons de_str (da_cons de_str (da_cons de_str (da_cons de_str (da_cons de_str (da_cons (de_tup (da_cons de_int da_nil)) (da_cons (de_ofL (le_lst (da_cons de_int da_nil))) (da_cons (de_ix rfl (qe_var 1) (qe_of de_int) (fun _ _ => rfl)) (da_cons (de_ix rfl (qe_var 1) (qe_of de_int) (fun _ _ => rfl)) (da_cons de_int (da_cons de_int (da_cons de_int da_nil))))))))))))))))))
    (ds_cons (ds_own (i := 4) sc_law_mutated.nd rfl (Or.inl rfl) (le_listOf rfl T.n_list (by decide +kernel) (qe_var 1)))
    (ds_cons (ds_for (passes_of rfl) rfl (g_name 5) ((ie_rng1 rfl T.n_range (de_op op_add f_add (qe_of de_int) (qe_of (de_call (ok_law_draw T) (hr.mono (by decide)) rfl T.m_law_draw T.f_law_draw.kp T.b_law_draw hx (da_src 0 (da_cons de_int da_nil))))))) (pg_name (i := 5) sc_law_mutated.nd rfl (Or.inl rfl))
      (ds_one (ds_setI (i := 4) (de_call (ok_law_pick T) (hr.mono (by decide)) rfl T.m_law_pick T.f_law_pick.kp T.b_law_pick hx (da_src 0 (da_cons (de_var 3) da_nil))) (de_call (ok_law_draw T) (hr.mono (by decide)) rfl T.m_law_draw T.f_law_draw.kp T.b_law_draw hx (da_src 0 (da_cons de_int da_nil))))))
    (ds_cons (ds_set (i := 6) sc_law_mutated.nd rfl (Or.inl rfl) (de_ofL (le_lst (da_cons (de_ofL (le_listOf rfl T.n_list (by decide +kernel) (qe_var 1))) (da_cons (de_sliceT rfl (qe_var 1) dp_none (dp_some de_int)) (da_cons (de_catT rfl (qe_var 1) (qe_of (de_tup (da_cons de_int da_nil)))) (da_cons (de_tup da_nil) (da_cons de_non (da_cons de_str (da_cons de_int (da_cons (de_tup (da_cons (de_var 1) da_nil)) (da_cons (de_back rfl (qe_var 1)) da_nil))))))))))))
    (ds_one (ds_ret (de_call (ok_law_pick T) (hr.mono (by decide)) rfl T.m_law_pick T.f_law_pick.kp T.b_law_pick hx (da_src 0 (da_cons (de_ofL (le_lst (da_cons (de_tupleOf rfl T.n_tuple (by decide +kernel) (qe_var 4)) (da_cons (de_tupleOf rfl T.n_tuple (by decide +kernel) (qe_var 4)) (da_cons (de_tupleOf rfl T.n_tuple (by decide +kernel) (qe_var 4)) (da_cons (de_call (ok_law_pick T) (hr.mono (by decide)) rfl T.m_law_pick T.f_law_pick.kp T.b_law_pick hx (da_src 0 (da_cons (de_var 6) da_nil))) da_nil)))))) da_nil))))))))))))
theorem ok_grant_error (T : Txt P K mg) : FnOk P w K mg base (L2.CX P w) 4 T.a_grant_error T.d_grant_error ["value"] (spW K cl 1 g_grant_error) := by
  refine def_ok (m := m_grant_error) T.f_grant_error sc_grant_error (fun cdv A outer s H B sc E hr => ?_) pr_grant_error
  have hx : Passes (L2.CX P w) (cxOf (L2.CX P w) P w K mg base N_grant_error "grant_error" (defScope s_grant_error) T.a_grant_error cdv A outer s H E) E := passes_call (takes_of rfl rfl rfl rfl) (fun _ _ _ _ h => h)
  exact (ds_cons (ds_if (dt_bool (dw_or (dt_not (dt_val (de_is rfl rfl T.n_isinstance (qe_var 0) (pe_bltn (v := .ty "tuple") rfl T.n_tuple (by decide +kernel) rfl)))) (dw_or1 (dt_cmp (op_neA (DS.hu64 hr)) (f_eq true) (qe_of (de_cb1 call_len f_len rfl T.n_len (by decide +kernel) (qe_var 0))) (qe_of (de_c (v := .int (5)) (pe_glob rfl T.c_ENTRIES ⟨_, rfl⟩) fun _ => .int _)) (nomark _))))) (ds_one (ds_ret (de_tup (da_cons de_str da_nil)))) ds_nil)
    (ds_cons (ds_asg (g_tup [1, 2, 3, 4, 5]) (de_var 0) (pg_tup rfl (pgs_cons (pg_name (i := 1) sc_grant_error.nd rfl (Or.inl rfl)) (pgs_cons (pg_name (i := 2) sc_grant_error.nd rfl (Or.inl rfl)) (pgs_cons (pg_name (i := 3) sc_grant_error.nd rfl (Or.inl rfl)) (pgs_cons (pg_name (i := 4) sc_grant_error.nd rfl (Or.inl rfl)) (pgs_cons (pg_name (i := 5) sc_grant_error.nd rfl (Or.inl rfl)) pgs_nil)))))))
    (ds_cons (ds_if (dt_not (dt_val (de_call (ok_is_time T) (hr.mono (by decide)) rfl T.m_is_time T.f_is_time.kp T.b_is_time hx (da_cons (de_var 1) da_nil)))) (ds_one (ds_ret (de_tup (da_cons de_str da_nil)))) ds_nil)
    (ds_cons (ds_if (dt_not (dt_val (de_call (ok_is_name T) (hr.mono (by decide)) rfl T.m_is_name T.f_is_name.kp T.b_is_name hx (da_cons (de_var 2) da_nil)))) (ds_one (ds_ret (de_tup (da_cons de_str da_nil)))) ds_nil)
    (ds_cons (ds_if (dt_not (dt_val (de_call (ok_is_name T) (hr.mono (by decide)) rfl T.m_is_name T.f_is_name.kp T.b_is_name hx (da_cons (de_var 3) da_nil)))) (ds_one (ds_ret (de_tup (da_cons de_str da_nil)))) ds_nil)
    (ds_cons (ds_if (dt_cmp (op_eqA (DS.hu64 hr)) (f_eq false) (qe_var 2) (qe_var 3) (nomark _)) (ds_one (ds_ret (de_tup (da_cons de_str da_nil)))) ds_nil)
    (ds_cons (ds_if (dt_not (dt_val (de_call (ok_is_within T) (hr.mono (by decide)) rfl T.m_is_within T.f_is_within.kp T.b_is_within hx (da_cons (de_var 4) (da_cons (de_c (v := .int (1)) (pe_glob rfl T.c_LEAST_LEVEL ⟨_, rfl⟩) fun _ => .int _) (da_cons (de_c (v := .int (9)) (pe_glob rfl T.c_MOST_LEVEL ⟨_, rfl⟩) fun _ => .int _) da_nil)))))) (ds_one (ds_ret (de_tup (da_cons de_str da_nil)))) ds_nil)
    (ds_cons (ds_if (dt_not (dt_val (de_call (ok_is_within T) (hr.mono (by decide)) rfl T.m_is_within T.f_is_within.kp T.b_is_within hx (da_cons (de_var 5) (da_cons de_int (da_cons (de_c (v := .int (20)) (pe_glob rfl T.c_MOST_PASSES ⟨_, rfl⟩) fun _ => .int _) da_nil)))))) (ds_one (ds_ret (de_tup (da_cons de_str da_nil)))) ds_nil)
    (ds_one (ds_ret de_non))))))))))
theorem ok_supports_x (T : Txt P K mg) : FnOk P w K mg base (L2.CX P w) 5 T.a_supports_x T.d_supports_x ["first", "second"] (spW K (clOf T.e_IG) 2 g_supports_x) := by
  refine def_ok (m := m_supports_x) T.f_supports_x sc_supports_x (fun cdv A outer s H B sc E hr => ?_) pr_supports_x
  have hx : Passes (L2.CX P w) (cxOf (L2.CX P w) P w K mg base N_supports_x "supports" (defScope s_supports_x) T.a_supports_x cdv A outer s H E) E := passes_call (takes_of rfl rfl rfl rfl) (fun _ _ _ _ h => h)
  exact (ds_cons (ds_for (passes_of rfl) rfl (g_name 2) ((ie_tup rfl (de_tup (da_cons (de_var 0) (da_cons (de_var 1) da_nil))))) (pg_name (i := 2) sc_supports_x.nd rfl (Or.inl rfl))
      (ds_cons (ds_set (i := 3) sc_supports_x.nd rfl (Or.inl rfl) (de_call (ok_grant_error T) (hr.mono (by decide)) rfl T.m_grant_error T.f_grant_error.kp T.b_grant_error hx (da_cons (de_var 2) da_nil)))
    (ds_one (ds_if (dt_cmp op_notN f_notN (qe_var 3) (qe_of de_non) (nomark _)) (ds_one (ds_raise (c := 0) rfl T.x_InvalidGrant rfl rfl hr (by decide) (takes_of rfl rfl rfl rfl) (de_var 3) rfl)) ds_nil))))
    (ds_one (ds_ret (de_call (ok_backs T) (hr.mono (by decide)) rfl T.m_backs T.f_backs.kp T.b_backs hx (da_cons (de_var 0) (da_cons (de_var 1) da_nil))))))
theorem raised_args {K : Fg} {cl : Cl} {sc : Sc} {B : Hp} {vs : List V} {x y : D} (pr : Paired (AgR K cl sc B) vs [.dat x, .dat y]) : ∃ v1 v2, vs = [v1, v2] := by
  cases pr with
  | cons h t =>
    cases t with
    | cons h2 t2 => cases t2; exact ⟨_, _, rfl⟩
theorem ok_law_raised (T : Txt P K mg) : FnOk P w K mg base (L2.CX P w) 7 T.a_law_raised T.d_law_raised ["first", "second"] (spW K (clOf T.e_IG) 2 g_law_raised) := by
  refine T.f_law_raised.okX sc_law_raised (fun vs H Q E ⟨sc, B, n, as, Pp, R, _, _, _, pr, hl, _⟩ => by rw [paired_len pr]; exact hl) fun cdv A outer s H vs Q E hr ⟨sc, B, n, as, Pp, R, sub, nos, src, pr, hl, hg, ox, q⟩ => ?_
  refine ⟨_, pss_cons (ps_set (i := 2) sc_law_raised.nd rfl (Or.inl rfl) pe_non)
    (pss_cons (DX.ps_try_keep (i := 3) (j := 2) (c := .ref T.e_GE) (Wout := fun _ _ _ _ => False) (tb := fun W => tDrop (tCallS (spW K (clOf T.e_IG) 2 g_supports_x) (WE W) (tCons (tVar 0) (tCons (tVar 1) tNil)))) rfl rfl rfl sc_law_raised.nd rfl rfl rfl rfl ⟨rfl, by decide, Or.inl T.m_GE⟩ (fun u s' ⟨_, _, _, _, _, _, _, _, _, _, _, _, _, _, _, _, z⟩ => z.elim)
        (fun W pn xe tk _ => pss_one (ps_expr (pe_callS (ok_supports_x T) (hr.mono (by decide)) rfl T.m_supports_x T.f_supports_x.kp T.b_supports_x (fun σ => passAt tk σ) (pa_cons (pv 0) (pa_cons (pv 1) pa_nil))))))
    (pss_cons (ps_if (PW.pt (pw_and (pt_val (pe_callB (DX.call_or DX.call_isH call_isi) rfl T.n_isinstance (by decide +kernel) (pa_cons (pv 2) (pa_cons (pe_glob (v := .ref T.e_IG) rfl T.x_InvalidGrant.gC rfl) pa_nil))))
        (pw_and1 (pt_val (pe_callB (DX.call_or DX.call_isH call_isi) rfl T.n_isinstance (by decide +kernel) (pa_cons (pv 2) (pa_cons (pe_bltn (v := .ty "ValueError") rfl T.n_ValueError (by decide +kernel) rfl) pa_nil))))))) (pss_one (ps_ret (DX.pe_hd (pv 2)))) pss_nil)
    (pss_one (ps_ret (pv 2))))), ?_⟩
  obtain ⟨x, y, rfl, sx, sy, hP⟩ := hg
  obtain ⟨v1, v2, rfl⟩ := raised_args pr
  refine ⟨v1, rfl, v2, rfl, sc, B, n, [.dat x, .dat y], fun _ n' => n' = n ∧ gerr x = .none ∧ gerr y = .none, fun er n' => n' = n ∧ er = ⟨0, [rz x y]⟩ ∧ rz x y ≠ .none, sub, nos, src, pr, rfl, ⟨x, y, rfl, sx, sy, fun e => ?_, fun e1 e2 => ?_, fun e1 e2 b => ⟨rfl, e1, e2⟩⟩, ?_, ?_⟩
  · have z : rz x y = gerr x := by
      unfold rz
      split
      · rename_i h; exact absurd h e
      · rfl
    exact ⟨rfl, by rw [z], by rw [z]; exact e⟩
  · have z : rz x y = gerr y := by unfold rz; rw [e1]
    exact ⟨rfl, by rw [z], by rw [z]; exact e2⟩
  · rintro er n' ⟨rfl, rfl, hne⟩ cls d B' H' st sr ⟨Ad, h1, rfl, h2⟩
    have hA : Ad = T.e_IG := by
      have : some T.e_IG = some Ad := h1
      exact (Option.some.inj this).symm
    subst hA
    rcases h2 with ⟨z, _⟩ | ⟨r, a, v, f, hr2, rfl, hf, ha, hv⟩
    · cases z
    · cases hr2
      have ef : f = "reason" := by
        have : (["reason"] : List Str) = [f] := hf
        exact (List.cons.inj this).1.symm
      subst ef
      refine ⟨true, T.q_exm, fun _ e he => ?_, fun z => Bool.noConfusion z⟩
      have nea : a ≠ e := fun z => by rw [z, he] at ha; cases ha
      have ea : (upd H' e (DX.held e (.ref T.e_IG) (some a))) a = some (.xd [("reason", v)]) := by rw [upd_ne nea]; exact ha
      refine ⟨.ref e, rfl, Or.inl ⟨e, T.e_IG, some a, _, .ref T.e_IG, true, rfl, upd_same, .inr ⟨a, _, rfl, ea⟩, T.q_exc, fun u h => h, T.q_own, _, rfl, ?_⟩⟩
      refine if_cases (fun _ => ?_) fun z => absurd rfl z
      refine ⟨.ref e, rfl, Or.inl ⟨e, T.e_IG, some a, _, .type "ValueError", true, rfl, upd_same, .inr ⟨a, _, rfl, ea⟩, T.q_exc, fun u h => h, T.q_val, _, rfl, ?_⟩⟩
      refine if_cases (fun _ => ?_) fun z => absurd rfl z
      exact ⟨.ref e, rfl, e, T.e_IG, a, _, v, rfl, upd_same, T.q_xf, T.q_no, ea, by simp [List.lookup], q _ _ hP v B' _ (st.lay he) (src_lay sr he) hv⟩
  · rintro d n' ⟨rfl, e1, e2⟩ v B' H' st sr hv
    refine ⟨.non, rfl, Or.inr ⟨.non, .ref T.e_IG, .type "NoneType", .ref T.e_IG, false, rfl, .own _, ?_, T.q_non, _, rfl, ?_⟩⟩
    · exact .base .non
    · refine if_cases (fun z => Bool.noConfusion z) fun _ => ?_
      have z : rz x y = .none := by unfold rz; rw [e1]; exact e2
      rw [z] at hP
      exact ⟨.non, rfl, q _ _ hP .non B' H' st sr .non⟩

theorem ok_law (T : Txt P K mg) : FnG P w K mg base 8 T.a_law T.d_law ["script"] (spLaw K) := by
  refine fng_of T.f_law sc_law (fun vs H Q E ⟨a, ns, e, _⟩ => by rw [e]; rfl) fun cdv A outer s H vs Q E hgd hr ⟨a, ns, e, hs, hl, q⟩ => ?_
  subst e
  have hx : Passes (L2.CX P w) (cxOf (L2.CX P w) P w K mg base N_law "law" (defScope s_law) T.a_law cdv A outer s H E) E := passes_call (takes_of rfl rfl rfl rfl) (fun _ _ _ _ h => h)
  refine ⟨_, pss_cons (ps_set (i := 1) sc_law.nd rfl (Or.inl rfl) (pe_call (ok_law_source T) (hr.mono (by decide)) rfl T.m_law_source T.f_law_source.kp T.b_law_source .nil hx (pa_cons (pv 0) pa_nil)))
    (pss_ex (K := K) (cl := (clOf T.e_IG)) (E := E) (m := m_law2) fun sc H0 B0 => ?body), ?_⟩
  case body =>
      exact (ds_cons (ds_set (i := 2) sc_law.nd rfl (Or.inl rfl) (de_call (ok_law_grant T) (hr.mono (by decide)) rfl T.m_law_grant T.f_law_grant.kp T.b_law_grant hx (da_src 1 da_nil)))
    (ds_cons (ds_for (passes_of rfl) rfl (g_name 3) ((ie_rng1 rfl T.n_range de_int)) (pg_name (i := 3) sc_law.nd rfl (Or.inl rfl))
      (ds_cons (ds_set (i := 4) sc_law.nd rfl (Or.inl rfl) (de_call (ok_law_grant T) (hr.mono (by decide)) rfl T.m_law_grant T.f_law_grant.kp T.b_law_grant hx (da_src 1 da_nil)))
    (ds_cons (ds_if (dt_cmp op_gt f_gt (qe_of (de_op op_mod f_mod (qe_of (de_ct1 call_int1 f_int rfl T.n_int (by decide +kernel) (qe_var 3))) (qe_of de_int))) (qe_of de_int) (nomark _)) (ds_one (ds_set (i := 4) sc_law.nd rfl (Or.inl rfl) (de_call (ok_law_mutated T) (hr.mono (by decide)) rfl T.m_law_mutated T.f_law_mutated.kp T.b_law_mutated hx (da_src 1 (da_cons (de_var 4) da_nil))))) ds_nil)
    (ds_cons (ds_set (i := 5) sc_law.nd rfl (Or.inl rfl) (de_call (ok_law_expected T) (hr.mono (by decide)) rfl T.m_law_expected T.f_law_expected.kp T.b_law_expected hx (da_cons (de_var 4) da_nil)))
    (ds_cons (ds_set (i := 6) sc_law.nd rfl (Or.inl rfl) (de_cb1 (cr_reprB hgd (DS.hu70 hr) T.z_dig) f_reprB rfl T.n_repr (by decide +kernel) (qe_var 4)))
    (ds_cons (ds_if (dt_cmp (op_neA (DS.hu64 hr)) (f_eq true) (qe_of (de_call (ok_grant_error T) (hr.mono (by decide)) rfl T.m_grant_error T.f_grant_error.kp T.b_grant_error hx (da_cons (de_var 4) da_nil))) (qe_var 5) (nomark _)) (ds_one (ds_ret de_bl)) ds_nil)
    (ds_cons (ds_if (dt_cmp (op_neA (DS.hu64 hr)) (f_eq true) (qe_of (de_call (ok_law_raised T) (hr.mono (by decide)) rfl T.m_law_raised T.f_law_raised.kp T.b_law_raised hx (da_cons (de_var 4) (da_cons de_non da_nil)))) (qe_of (de_ix rfl (qe_ofL (le_lst (da_cons (de_tup (da_cons de_str da_nil)) (da_cons (de_var 5) da_nil)))) (qe_of (de_ct1 call_int1 f_int rfl T.n_int (by decide +kernel) (qe_of (de_cmp op_notN f_notN (qe_var 5) (qe_of de_non) (nomark _))))) (fun _ _ => rfl))) (nomark _)) (ds_one (ds_ret de_bl)) ds_nil)
    (ds_one (ds_if (dt_bool (dw_or (dt_cmp (op_neA (DS.hu64 hr)) (f_eq true) (qe_of (de_call (ok_law_raised T) (hr.mono (by decide)) rfl T.m_law_raised T.f_law_raised.kp T.b_law_raised hx (da_cons (de_var 2) (da_cons (de_var 4) da_nil)))) (qe_var 5) (nomark _)) (dw_or1 (dt_cmp (op_neA (DS.hu64 hr)) (f_eq true) (qe_of (de_cb1 (cr_reprB hgd (DS.hu70 hr) T.z_dig) f_reprB rfl T.n_repr (by decide +kernel) (qe_var 4))) (qe_var 6) (nomark _))))) (ds_one (ds_ret de_bl)) ds_nil)))))))))
    (ds_one (ds_ret de_bl))))
  refine ⟨_, rfl, a, ns, rfl, hs, hl, fun s1 c1 H1 hsrc => ?_⟩
  refine ⟨some (s1, c1), H1, fun _ => none, fun _ => none, [.no, .src] ++ List.replicate 5 .no, 2000, ends (fun d _ => d = .bool true) (fun _ _ => False), law_frame (hsrc _ (by decide)), pr_law2 (by decide) (fun _ => rfl), ?_, ?_, ?_, ?_, ?_⟩
  · intro ρ' n' z; cases z
  · intro d n' z v B' H' _ _ r
    have e : d = .bool true := z
    subst e
    cases r
    exact q H'
  · intro er n' z; exact z.elim
  · intro ρ' n' z; exact z.elim
  · intro ρ' n' z; exact z.elim
end

theorem all_mk {l : PySem.W.OpenLaw} {w : World} {K : Fg} {h : Heap} {mg : Str → Option Value} {fa : Addr} (X : K.In h) (G : h.Ns mainGlobals mg) (hfa : mg "law" = some (.ref fa))
    {f0 : Addr} {od0 an0 : Option Addr} {sl0 : Array (Option Value)} {oc0 kV0 dc0 pm0 cd0 ct0 : Value}
    (a0 : PySem.W.nsIn K mainGlobals "is_whole" = some (some (.ref f0))) (l0 : K.lookup f0 = some ⟨oc0, od0, .func (PySem.W.fnOf "is_whole" "is_whole" (defArgs s_is_whole) (defBody s_is_whole) (defScope s_is_whole) .none kV0 dc0 pm0 an0 cd0 ct0), sl0⟩) (c0 : PySem.W.codeIn K cd0 "is_whole" = true) (k0 : PySem.W.keepIn K (.ref f0) = true)
    {f1 : Addr} {od1 an1 : Option Addr} {sl1 : Array (Option Value)} {oc1 kV1 dc1 pm1 cd1 ct1 : Value}
    (a1 : PySem.W.nsIn K mainGlobals "is_within" = some (some (.ref f1))) (l1 : K.lookup f1 = some ⟨oc1, od1, .func (PySem.W.fnOf "is_within" "is_within" (defArgs s_is_within) (defBody s_is_within) (defScope s_is_within) .none kV1 dc1 pm1 an1 cd1 ct1), sl1⟩) (c1 : PySem.W.codeIn K cd1 "is_within" = true) (k1 : PySem.W.keepIn K (.ref f1) = true)
    {f2 : Addr} {od2 an2 : Option Addr} {sl2 : Array (Option Value)} {oc2 kV2 dc2 pm2 cd2 ct2 : Value}
    (a2 : PySem.W.nsIn K mainGlobals "is_time" = some (some (.ref f2))) (l2 : K.lookup f2 = some ⟨oc2, od2, .func (PySem.W.fnOf "is_time" "is_time" (defArgs s_is_time) (defBody s_is_time) (defScope s_is_time) .none kV2 dc2 pm2 an2 cd2 ct2), sl2⟩) (c2 : PySem.W.codeIn K cd2 "is_time" = true) (k2 : PySem.W.keepIn K (.ref f2) = true)
    {f3 : Addr} {od3 an3 : Option Addr} {sl3 : Array (Option Value)} {oc3 kV3 dc3 pm3 cd3 ct3 : Value}
    (a3 : PySem.W.nsIn K mainGlobals "is_name" = some (some (.ref f3))) (l3 : K.lookup f3 = some ⟨oc3, od3, .func (PySem.W.fnOf "is_name" "is_name" (defArgs s_is_name) (defBody s_is_name) (defScope s_is_name) .none kV3 dc3 pm3 an3 cd3 ct3), sl3⟩) (c3 : PySem.W.codeIn K cd3 "is_name" = true) (k3 : PySem.W.keepIn K (.ref f3) = true)
    {f4 : Addr} {od4 an4 : Option Addr} {sl4 : Array (Option Value)} {oc4 kV4 dc4 pm4 cd4 ct4 : Value}
    (a4 : PySem.W.nsIn K mainGlobals "grant_error" = some (some (.ref f4))) (l4 : K.lookup f4 = some ⟨oc4, od4, .func (PySem.W.fnOf "grant_error" "grant_error" (defArgs s_grant_error) (defBody s_grant_error) (defScope s_grant_error) .none kV4 dc4 pm4 an4 cd4 ct4), sl4⟩) (c4 : PySem.W.codeIn K cd4 "grant_error" = true) (k4 : PySem.W.keepIn K (.ref f4) = true)
    {f5 : Addr} {od5 an5 : Option Addr} {sl5 : Array (Option Value)} {oc5 kV5 dc5 pm5 cd5 ct5 : Value}
    (a5 : PySem.W.nsIn K mainGlobals "supports" = some (some (.ref f5))) (l5 : K.lookup f5 = some ⟨oc5, od5, .func (PySem.W.fnOf "supports" "supports" (defArgs s_supports_x) (defBody s_supports_x) (defScope s_supports_x) .none kV5 dc5 pm5 an5 cd5 ct5), sl5⟩) (c5 : PySem.W.codeIn K cd5 "supports" = true) (k5 : PySem.W.keepIn K (.ref f5) = true)
    {f6 : Addr} {od6 an6 : Option Addr} {sl6 : Array (Option Value)} {oc6 kV6 dc6 pm6 cd6 ct6 : Value}
    (a6 : PySem.W.nsIn K mainGlobals "backs" = some (some (.ref f6))) (l6 : K.lookup f6 = some ⟨oc6, od6, .func (PySem.W.fnOf "backs" "backs" (defArgs s_backs) (defBody s_backs) (defScope s_backs) .none kV6 dc6 pm6 an6 cd6 ct6), sl6⟩) (c6 : PySem.W.codeIn K cd6 "backs" = true) (k6 : PySem.W.keepIn K (.ref f6) = true)
    {f7 : Addr} {od7 an7 : Option Addr} {sl7 : Array (Option Value)} {oc7 kV7 dc7 pm7 cd7 ct7 : Value}
    (a7 : PySem.W.nsIn K mainGlobals "_law_source" = some (some (.ref f7))) (l7 : K.lookup f7 = some ⟨oc7, od7, .func (PySem.W.fnOf "_law_source" "_law_source" (defArgs s_law_source) (defBody s_law_source) (defScope s_law_source) .none kV7 dc7 pm7 an7 cd7 ct7), sl7⟩) (c7 : PySem.W.codeIn K cd7 "_law_source" = true) (k7 : PySem.W.keepIn K (.ref f7) = true)
    {f8 : Addr} {od8 an8 : Option Addr} {sl8 : Array (Option Value)} {oc8 kV8 dc8 pm8 cd8 ct8 : Value}
    (a8 : PySem.W.nsIn K mainGlobals "_law_draw" = some (some (.ref f8))) (l8 : K.lookup f8 = some ⟨oc8, od8, .func (PySem.W.fnOf "_law_draw" "_law_draw" (defArgs s_law_draw) (defBody s_law_draw) (defScope s_law_draw) .none kV8 dc8 pm8 an8 cd8 ct8), sl8⟩) (c8 : PySem.W.codeIn K cd8 "_law_draw" = true) (k8 : PySem.W.keepIn K (.ref f8) = true)
    {f9 : Addr} {od9 an9 : Option Addr} {sl9 : Array (Option Value)} {oc9 kV9 dc9 pm9 cd9 ct9 : Value}
    (a9 : PySem.W.nsIn K mainGlobals "_law_pick" = some (some (.ref f9))) (l9 : K.lookup f9 = some ⟨oc9, od9, .func (PySem.W.fnOf "_law_pick" "_law_pick" (defArgs s_law_pick) (defBody s_law_pick) (defScope s_law_pick) .none kV9 dc9 pm9 an9 cd9 ct9), sl9⟩) (c9 : PySem.W.codeIn K cd9 "_law_pick" = true) (k9 : PySem.W.keepIn K (.ref f9) = true)
    {f10 : Addr} {od10 an10 : Option Addr} {sl10 : Array (Option Value)} {oc10 kV10 dc10 pm10 cd10 ct10 : Value}
    (a10 : PySem.W.nsIn K mainGlobals "_law_shuffle" = some (some (.ref f10))) (l10 : K.lookup f10 = some ⟨oc10, od10, .func (PySem.W.fnOf "_law_shuffle" "_law_shuffle" (defArgs s_law_shuffle) (defBody s_law_shuffle) (defScope s_law_shuffle) .none kV10 dc10 pm10 an10 cd10 ct10), sl10⟩) (c10 : PySem.W.codeIn K cd10 "_law_shuffle" = true) (k10 : PySem.W.keepIn K (.ref f10) = true)
    {f11 : Addr} {od11 an11 : Option Addr} {sl11 : Array (Option Value)} {oc11 kV11 dc11 pm11 cd11 ct11 : Value}
    (a11 : PySem.W.nsIn K mainGlobals "_law_is_word" = some (some (.ref f11))) (l11 : K.lookup f11 = some ⟨oc11, od11, .func (PySem.W.fnOf "_law_is_word" "_law_is_word" (defArgs s_law_is_word) (defBody s_law_is_word) (defScope s_law_is_word) .none kV11 dc11 pm11 an11 cd11 ct11), sl11⟩) (c11 : PySem.W.codeIn K cd11 "_law_is_word" = true) (k11 : PySem.W.keepIn K (.ref f11) = true)
    {f12 : Addr} {od12 an12 : Option Addr} {sl12 : Array (Option Value)} {oc12 kV12 dc12 pm12 cd12 ct12 : Value}
    (a12 : PySem.W.nsIn K mainGlobals "_law_is_within" = some (some (.ref f12))) (l12 : K.lookup f12 = some ⟨oc12, od12, .func (PySem.W.fnOf "_law_is_within" "_law_is_within" (defArgs s_law_is_within) (defBody s_law_is_within) (defScope s_law_is_within) .none kV12 dc12 pm12 an12 cd12 ct12), sl12⟩) (c12 : PySem.W.codeIn K cd12 "_law_is_within" = true) (k12 : PySem.W.keepIn K (.ref f12) = true)
    {f13 : Addr} {od13 an13 : Option Addr} {sl13 : Array (Option Value)} {oc13 kV13 dc13 pm13 cd13 ct13 : Value}
    (a13 : PySem.W.nsIn K mainGlobals "_law_expected" = some (some (.ref f13))) (l13 : K.lookup f13 = some ⟨oc13, od13, .func (PySem.W.fnOf "_law_expected" "_law_expected" (defArgs s_law_expected) (defBody s_law_expected) (defScope s_law_expected) .none kV13 dc13 pm13 an13 cd13 ct13), sl13⟩) (c13 : PySem.W.codeIn K cd13 "_law_expected" = true) (k13 : PySem.W.keepIn K (.ref f13) = true)
    {f14 : Addr} {od14 an14 : Option Addr} {sl14 : Array (Option Value)} {oc14 kV14 dc14 pm14 cd14 ct14 : Value}
    (a14 : PySem.W.nsIn K mainGlobals "_law_great" = some (some (.ref f14))) (l14 : K.lookup f14 = some ⟨oc14, od14, .func (PySem.W.fnOf "_law_great" "_law_great" (defArgs s_law_great) (defBody s_law_great) (defScope s_law_great) .none kV14 dc14 pm14 an14 cd14 ct14), sl14⟩) (c14 : PySem.W.codeIn K cd14 "_law_great" = true) (k14 : PySem.W.keepIn K (.ref f14) = true)
    {f15 : Addr} {od15 an15 : Option Addr} {sl15 : Array (Option Value)} {oc15 kV15 dc15 pm15 cd15 ct15 : Value}
    (a15 : PySem.W.nsIn K mainGlobals "_law_word" = some (some (.ref f15))) (l15 : K.lookup f15 = some ⟨oc15, od15, .func (PySem.W.fnOf "_law_word" "_law_word" (defArgs s_law_word) (defBody s_law_word) (defScope s_law_word) .none kV15 dc15 pm15 an15 cd15 ct15), sl15⟩) (c15 : PySem.W.codeIn K cd15 "_law_word" = true) (k15 : PySem.W.keepIn K (.ref f15) = true)
    {f16 : Addr} {od16 an16 : Option Addr} {sl16 : Array (Option Value)} {oc16 kV16 dc16 pm16 cd16 ct16 : Value}
    (a16 : PySem.W.nsIn K mainGlobals "_law_grant" = some (some (.ref f16))) (l16 : K.lookup f16 = some ⟨oc16, od16, .func (PySem.W.fnOf "_law_grant" "_law_grant" (defArgs s_law_grant) (defBody s_law_grant) (defScope s_law_grant) .none kV16 dc16 pm16 an16 cd16 ct16), sl16⟩) (c16 : PySem.W.codeIn K cd16 "_law_grant" = true) (k16 : PySem.W.keepIn K (.ref f16) = true)
    {f17 : Addr} {od17 an17 : Option Addr} {sl17 : Array (Option Value)} {oc17 kV17 dc17 pm17 cd17 ct17 : Value}
    (a17 : PySem.W.nsIn K mainGlobals "_law_mutated" = some (some (.ref f17))) (l17 : K.lookup f17 = some ⟨oc17, od17, .func (PySem.W.fnOf "_law_mutated" "_law_mutated" (defArgs s_law_mutated) (defBody s_law_mutated) (defScope s_law_mutated) .none kV17 dc17 pm17 an17 cd17 ct17), sl17⟩) (c17 : PySem.W.codeIn K cd17 "_law_mutated" = true) (k17 : PySem.W.keepIn K (.ref f17) = true)
    {f18 : Addr} {od18 an18 : Option Addr} {sl18 : Array (Option Value)} {oc18 kV18 dc18 pm18 cd18 ct18 : Value}
    (a18 : PySem.W.nsIn K mainGlobals "_law_raised" = some (some (.ref f18))) (l18 : K.lookup f18 = some ⟨oc18, od18, .func (PySem.W.fnOf "_law_raised" "_law_raised" (defArgs s_law_raised) (defBody s_law_raised) (defScope s_law_raised) .none kV18 dc18 pm18 an18 cd18 ct18), sl18⟩) (c18 : PySem.W.codeIn K cd18 "_law_raised" = true) (k18 : PySem.W.keepIn K (.ref f18) = true)
    {f19 : Addr} {od19 an19 : Option Addr} {sl19 : Array (Option Value)} {oc19 kV19 dc19 pm19 cd19 ct19 : Value}
    (a19 : PySem.W.nsIn K mainGlobals "law" = some (some (.ref f19))) (l19 : K.lookup f19 = some ⟨oc19, od19, .func (PySem.W.fnOf "law" "law" (defArgs s_law) (defBody s_law) (defScope s_law) .none kV19 dc19 pm19 an19 cd19 ct19), sl19⟩) (c19 : PySem.W.codeIn K cd19 "law" = true) (k19 : PySem.W.keepIn K (.ref f19) = true)
    {tk_ENTRIES : Tok} (z_ENTRIES : PySem.W.nsIn K mainGlobals "ENTRIES" = some (some (.int (5) tk_ENTRIES)))
    {tk_LEAST_LEVEL : Tok} (z_LEAST_LEVEL : PySem.W.nsIn K mainGlobals "LEAST_LEVEL" = some (some (.int (1) tk_LEAST_LEVEL)))
    {tk_MOST_LETTERS : Tok} (z_MOST_LETTERS : PySem.W.nsIn K mainGlobals "MOST_LETTERS" = some (some (.int (8) tk_MOST_LETTERS)))
    {tk_MOST_LEVEL : Tok} (z_MOST_LEVEL : PySem.W.nsIn K mainGlobals "MOST_LEVEL" = some (some (.int (9) tk_MOST_LEVEL)))
    {tk_MOST_PASSES : Tok} (z_MOST_PASSES : PySem.W.nsIn K mainGlobals "MOST_PASSES" = some (some (.int (20) tk_MOST_PASSES)))
    {tk_MOST_TIME : Tok} (z_MOST_TIME : PySem.W.nsIn K mainGlobals "MOST_TIME" = some (some (.int (1000000000000000000000000000000) tk_MOST_TIME)))
    (y_ValueError : PySem.W.nsIn K mainGlobals "ValueError" = some none)
    (y_abs : PySem.W.nsIn K mainGlobals "abs" = some none)
    (y_all : PySem.W.nsIn K mainGlobals "all" = some none)
    (y_bool : PySem.W.nsIn K mainGlobals "bool" = some none)
    (y_int : PySem.W.nsIn K mainGlobals "int" = some none)
    (y_isinstance : PySem.W.nsIn K mainGlobals "isinstance" = some none)
    (y_len : PySem.W.nsIn K mainGlobals "len" = some none)
    (y_list : PySem.W.nsIn K mainGlobals "list" = some none)
    (y_range : PySem.W.nsIn K mainGlobals "range" = some none)
    (y_repr : PySem.W.nsIn K mainGlobals "repr" = some none)
    (y_str : PySem.W.nsIn K mainGlobals "str" = some none)
    (y_super : PySem.W.nsIn K mainGlobals "super" = some none)
    (y_tuple : PySem.W.nsIn K mainGlobals "tuple" = some none)
    {nmG qG : Str} {NG : Addr} {bsG : List Value} {snG2 : List Str} {subG : List Value} {abG : Bool} {colG : Option Bool} {ddG : Option Addr} {n0 n1 n2 n3 n5 : Option Value} {E1 G1 fI cda cc : Addr} {nmE qE : Str} {NE : Addr} {bsE : List Value} {snE : List Str} {subE : List Value} {abE : Bool} {colE : Option Bool} {ddE : Option Addr} {m0 m1 m2 m3 m5 : Option Value} {ocI docI pmI ctI : Value} {odI anI : Option Addr} {slI : Array (Option Value)} {cclC clC : Value} {cddC cldC : Option Addr} {vsC : Array Value} {csC cslC : Array (Option Value)} {fileC : Str} {tfC : Tok}
    (aE : PySem.W.nsIn K mainGlobals "InvalidGrant" = some (some (.ref E1)))
    (aG : PySem.W.nsIn K mainGlobals "GrantrollError" = some (some (.ref G1)))
    (xE : K.lookup E1 = some (excClassObj nmE qE E1 NE bsE [.ref G1, .type "ValueError", .type "Exception", .type "BaseException", .type "object"] true snE subE abE colE ddE m0 m1 m2 m3 m5 "ValueError.__new__"))
    (xG : K.lookup G1 = some (excClassObj nmG qG G1 NG bsG [.type "ValueError", .type "Exception", .type "BaseException", .type "object"] true snG2 subG abG colG ddG n0 n1 n2 n3 n5 "ValueError.__new__"))
    (iG : PySem.W.findIn K (.ref G1) "__init__" = some (some (.builtin "ValueError.__init__")))
    (vE : PySem.W.subIn K (.ref E1) (.type "ValueError") = some true)
    (tA : PySem.W.nsIn K cStatics "thirdparty.any" = some none)
    (rE : PySem.W.mroIn K E1 (.ref E1) = some true)
    (oE : PySem.W.findIn K (.ref E1) "__setattr__" = some (some (.builtin "object.__setattr__")))
    (fE : PySem.W.findIn K (.ref E1) "reason" = some none)
    (jE : PySem.W.findIn K (.ref E1) "__init__" = some (some (.ref fI)))
    (lI : K.lookup fI = some ⟨ocI, odI, .func (PySem.W.ksFn "__init__" "InvalidGrant.__init__" { posonlyargs := [], args := [{ arg := "self", annotation := none, pos := ⟨6, 17, 6, 21⟩ }, { arg := "reason", annotation := none, pos := ⟨6, 23, 6, 29⟩ }], vararg := none, kwonlyargs := [], kw_defaults := [], kwarg := none, defaults := [] } [.Expr (.Call (.Attribute (.Call (.Name "super" ⟨7, 8, 7, 13⟩) [] [] ⟨7, 8, 7, 15⟩) "__init__" ⟨7, 8, 7, 24⟩) [.Constant (.str "not a grant") 0 ⟨7, 25, 7, 38⟩] [] ⟨7, 8, 7, 39⟩) ⟨7, 8, 7, 39⟩, .Assign [.Attribute (.Name "self" ⟨8, 8, 8, 12⟩) "reason" ⟨8, 8, 8, 19⟩] (.Name "reason" ⟨8, 22, 8, 28⟩) ⟨8, 8, 8, 28⟩] (DX.sxS "reason") .none .none docI pmI anI (.ref cda) ctI cc), slI⟩)
    (cI : PySem.W.codeIn K (.ref cda) "InvalidGrant.__init__" = true)
    (lC : K.lookup cda = some ⟨cclC, cddC, .fields vsC, csC⟩)
    (vC : vsC[2]? = some (.str fileC tfC))
    (gC : (l.prog.main.file == fileC) = true)
    (lcC : K.lookup cc = some ⟨clC, cldC, .cell (some (.ref E1)), cslC⟩)
    (tI : PySem.W.typeIn K (.ref fI) = some (.type "function"))
    (kE : PySem.W.keepIn K (.ref E1) = true)
    (bE : PySem.W.subIn K (.ref E1) (.type "BaseException") = some true)
    (tE : PySem.W.typeIn K (.ref E1) = some (.type "type"))
    (gaE : PySem.W.findIn K (.ref E1) "__getattribute__" = some (some (.builtin "BaseException.__getattribute__")))
    (hdE : PySem.W.hasDictIn K E1 = true)
    (gtE : PySem.W.findIn K (.ref E1) "__getattr__" = some none)
    (caE : PySem.W.findIn K (.ref E1) "__class__" = some (some (.builtin "object.__class__")))
    (snG : PySem.W.specialIn K (.builtin "object.__class__") "__get__" = some (some (.builtin "getset_descriptor.__get__")))
    (tkG : PySem.W.takesIn K (.builtin "object.__class__") = some true)
    (moE : PySem.W.mroIn K E1 (.type "object") = some true)
    (bG : PySem.W.subIn K (.ref G1) (.type "BaseException") = some true)
    (hdG : PySem.W.hasDictIn K G1 = true)
    (tG : PySem.W.typeIn K (.ref G1) = some (.type "type"))
    (sEG : PySem.W.subIn K (.ref E1) (.ref G1) = some true)
    (kV : PySem.W.kitOne K (.ref E1) (.type "ValueError") = some true)
    (kN : PySem.W.kitOne K (.type "NoneType") (.ref E1) = some false)
    (zd : PySem.W.nsIn K cStatics "sys.int_max_str_digits" = some none)
    (topS : (l.prog.main.scope.names.lookup ("super" : Str)).isSome = false)
    : ∃ fd : FuncData, (∀ (s : Shared) (v : Value), BindsTo s fd ⟨[v], []⟩ [("script", v)]) ∧ ∀ base : Heap, K.In base → base.Ns mainGlobals mg → FnG l.prog w K mg base 8 fa fd ["script"] (spLaw K) := by
  have e := hfa.symm.trans (PySem.W.mg_of X G a19)
  cases e
  have iE : PySem.W.excInitIn K E1 [.type "ValueError", .type "Exception", .type "BaseException", .type "object"] "ValueError.__new__" = true := by
    unfold PySem.W.excInitIn
    rw [xE]
    simp [excClassObj, PySem.W.excTail]
  have sE : PySem.W.ks_superIn K E1 E1 "__init__" = some (some (.builtin "ValueError.__init__")) := by
    have e : PySem.W.findIn K (.ref G1) "__init__" = PySem.W.alongIn K "__init__" (.ref G1 :: [.type "ValueError", .type "Exception", .type "BaseException", .type "object"]) := by
      unfold PySem.W.findIn
      dsimp only
      rw [xG]
    unfold PySem.W.ks_superIn PySem.W.clsIn
    rw [xE]
    show PySem.W.alongIn K "__init__" (((Value.ref E1 :: Value.ref G1 :: [.type "ValueError", .type "Exception", .type "BaseException", .type "object"]).dropWhile (· != .ref E1)).drop 1) = _
    rw [show (((Value.ref E1 :: Value.ref G1 :: [.type "ValueError", .type "Exception", .type "BaseException", .type "object"]).dropWhile (· != .ref E1)).drop 1) = Value.ref G1 :: [.type "ValueError", .type "Exception", .type "BaseException", .type "object"] from by simp [List.dropWhile_cons], ← e]
    exact iG
  have sx : DX.SxT K l.prog E1 fI cda cc "reason" "not a grant" := {
    cls := ⟨_, _, _, _, _, _, _, _, _, _, _, _, _, _, _, xE, by rfl⟩, ini := ⟨_, PySem.F.excBase_ValueError, iE⟩, sup := sE, isV := vE, any := tA, mro := rE, sa := oE, noN := fE, cod := ⟨_, _, _, _, _, _, lC, vC, gC⟩, cel := ⟨_, _, _, lcC⟩,
    fn := ⟨_, _, _, _, _, _, _, _, _, _, _, _, _, _, _, _, _, _, _, _, _, _, _, lI, cI, rfl, fun s x v => .of_eq (by first | rfl | with_unfolding_all rfl), fun env => ⟨_, by rfl⟩, rfl⟩,
    fne := by decide +kernel, fns := by decide +kernel, fnc := by decide +kernel, nfd := by decide +kernel, fnd := by decide +kernel, top := topS }
  have xc : DX.SxC K l.prog mg E1 "InvalidGrant" "reason" := { txt := ⟨fI, cda, cc, _, sx, jE, tI⟩, gC := PySem.W.mg_of X G aE, gs := PySem.W.mg_none_of X G y_super, ndb := by decide +kernel, kC := kE, exC := bE, tyC := tE, ga := gaE, hdC := hdE }
  let T : Txt l.prog K mg := {
    a_is_whole := f0, d_is_whole := _, f_is_whole := fun_mk (st := s_is_whole) l0 c0 k0, m_is_whole := PySem.W.mg_of X G a0, b_is_whole := (fun_mk (st := s_is_whole) l0 c0 k0).binds fun _ _ _ _ _ _ us hl => match us, hl with | [_], _ => rfl,
    a_is_within := f1, d_is_within := _, f_is_within := fun_mk (st := s_is_within) l1 c1 k1, m_is_within := PySem.W.mg_of X G a1, b_is_within := (fun_mk (st := s_is_within) l1 c1 k1).binds fun _ _ _ _ _ _ us hl => match us, hl with | [_, _, _], _ => rfl,
    a_is_time := f2, d_is_time := _, f_is_time := fun_mk (st := s_is_time) l2 c2 k2, m_is_time := PySem.W.mg_of X G a2, b_is_time := (fun_mk (st := s_is_time) l2 c2 k2).binds fun _ _ _ _ _ _ us hl => match us, hl with | [_], _ => rfl,
    a_is_name := f3, d_is_name := _, f_is_name := fun_mk (st := s_is_name) l3 c3 k3, m_is_name := PySem.W.mg_of X G a3, b_is_name := (fun_mk (st := s_is_name) l3 c3 k3).binds fun _ _ _ _ _ _ us hl => match us, hl with | [_], _ => rfl,
    a_grant_error := f4, d_grant_error := _, f_grant_error := fun_mk (st := s_grant_error) l4 c4 k4, m_grant_error := PySem.W.mg_of X G a4, b_grant_error := (fun_mk (st := s_grant_error) l4 c4 k4).binds fun _ _ _ _ _ _ us hl => match us, hl with | [_], _ => rfl,
    a_supports_x := f5, d_supports_x := _, f_supports_x := fun_mk (st := s_supports_x) l5 c5 k5, m_supports_x := PySem.W.mg_of X G a5, b_supports_x := (fun_mk (st := s_supports_x) l5 c5 k5).binds fun _ _ _ _ _ _ us hl => match us, hl with | [_, _], _ => rfl,
    a_backs := f6, d_backs := _, f_backs := fun_mk (st := s_backs) l6 c6 k6, m_backs := PySem.W.mg_of X G a6, b_backs := (fun_mk (st := s_backs) l6 c6 k6).binds fun _ _ _ _ _ _ us hl => match us, hl with | [_, _], _ => rfl,
    a_law_source := f7, d_law_source := _, f_law_source := fun_mk (st := s_law_source) l7 c7 k7, m_law_source := PySem.W.mg_of X G a7, b_law_source := (fun_mk (st := s_law_source) l7 c7 k7).binds fun _ _ _ _ _ _ us hl => match us, hl with | [_], _ => rfl,
    a_law_draw := f8, d_law_draw := _, f_law_draw := fun_mk (st := s_law_draw) l8 c8 k8, m_law_draw := PySem.W.mg_of X G a8, b_law_draw := (fun_mk (st := s_law_draw) l8 c8 k8).binds fun _ _ _ _ _ _ us hl => match us, hl with | [_, _], _ => rfl,
    a_law_pick := f9, d_law_pick := _, f_law_pick := fun_mk (st := s_law_pick) l9 c9 k9, m_law_pick := PySem.W.mg_of X G a9, b_law_pick := (fun_mk (st := s_law_pick) l9 c9 k9).binds fun _ _ _ _ _ _ us hl => match us, hl with | [_, _], _ => rfl,
    a_law_shuffle := f10, d_law_shuffle := _, f_law_shuffle := fun_mk (st := s_law_shuffle) l10 c10 k10, m_law_shuffle := PySem.W.mg_of X G a10, b_law_shuffle := (fun_mk (st := s_law_shuffle) l10 c10 k10).binds fun _ _ _ _ _ _ us hl => match us, hl with | [_, _], _ => rfl,
    a_law_is_word := f11, d_law_is_word := _, f_law_is_word := fun_mk (st := s_law_is_word) l11 c11 k11, m_law_is_word := PySem.W.mg_of X G a11, b_law_is_word := (fun_mk (st := s_law_is_word) l11 c11 k11).binds fun _ _ _ _ _ _ us hl => match us, hl with | [_], _ => rfl,
    a_law_is_within := f12, d_law_is_within := _, f_law_is_within := fun_mk (st := s_law_is_within) l12 c12 k12, m_law_is_within := PySem.W.mg_of X G a12, b_law_is_within := (fun_mk (st := s_law_is_within) l12 c12 k12).binds fun _ _ _ _ _ _ us hl => match us, hl with | [_, _, _], _ => rfl,
    a_law_expected := f13, d_law_expected := _, f_law_expected := fun_mk (st := s_law_expected) l13 c13 k13, m_law_expected := PySem.W.mg_of X G a13, b_law_expected := (fun_mk (st := s_law_expected) l13 c13 k13).binds fun _ _ _ _ _ _ us hl => match us, hl with | [_], _ => rfl,
    a_law_great := f14, d_law_great := _, f_law_great := fun_mk (st := s_law_great) l14 c14 k14, m_law_great := PySem.W.mg_of X G a14, b_law_great := (fun_mk (st := s_law_great) l14 c14 k14).binds fun _ _ _ _ _ _ us hl => match us, hl with | [], _ => rfl,
    a_law_word := f15, d_law_word := _, f_law_word := fun_mk (st := s_law_word) l15 c15 k15, m_law_word := PySem.W.mg_of X G a15, b_law_word := (fun_mk (st := s_law_word) l15 c15 k15).binds fun _ _ _ _ _ _ us hl => match us, hl with | [_, _], _ => rfl,
    a_law_grant := f16, d_law_grant := _, f_law_grant := fun_mk (st := s_law_grant) l16 c16 k16, m_law_grant := PySem.W.mg_of X G a16, b_law_grant := (fun_mk (st := s_law_grant) l16 c16 k16).binds fun _ _ _ _ _ _ us hl => match us, hl with | [_], _ => rfl,
    a_law_mutated := f17, d_law_mutated := _, f_law_mutated := fun_mk (st := s_law_mutated) l17 c17 k17, m_law_mutated := PySem.W.mg_of X G a17, b_law_mutated := (fun_mk (st := s_law_mutated) l17 c17 k17).binds fun _ _ _ _ _ _ us hl => match us, hl with | [_, _], _ => rfl,
    a_law_raised := f18, d_law_raised := _, f_law_raised := fun_mk (st := s_law_raised) l18 c18 k18, m_law_raised := PySem.W.mg_of X G a18, b_law_raised := (fun_mk (st := s_law_raised) l18 c18 k18).binds fun _ _ _ _ _ _ us hl => match us, hl with | [_, _], _ => rfl,
    a_law := fa, d_law := _, f_law := fun_mk (st := s_law) l19 c19 k19, m_law := PySem.W.mg_of X G a19, b_law := (fun_mk (st := s_law) l19 c19 k19).binds fun _ _ _ _ _ _ us hl => match us, hl with | [_], _ => rfl,
    t_ENTRIES := tk_ENTRIES, c_ENTRIES := PySem.W.mg_of X G z_ENTRIES,
    t_LEAST_LEVEL := tk_LEAST_LEVEL, c_LEAST_LEVEL := PySem.W.mg_of X G z_LEAST_LEVEL,
    t_MOST_LETTERS := tk_MOST_LETTERS, c_MOST_LETTERS := PySem.W.mg_of X G z_MOST_LETTERS,
    t_MOST_LEVEL := tk_MOST_LEVEL, c_MOST_LEVEL := PySem.W.mg_of X G z_MOST_LEVEL,
    t_MOST_PASSES := tk_MOST_PASSES, c_MOST_PASSES := PySem.W.mg_of X G z_MOST_PASSES,
    t_MOST_TIME := tk_MOST_TIME, c_MOST_TIME := PySem.W.mg_of X G z_MOST_TIME,
    n_ValueError := PySem.W.mg_none_of X G y_ValueError,
    n_abs := PySem.W.mg_none_of X G y_abs,
    n_all := PySem.W.mg_none_of X G y_all,
    n_bool := PySem.W.mg_none_of X G y_bool,
    n_int := PySem.W.mg_none_of X G y_int,
    n_isinstance := PySem.W.mg_none_of X G y_isinstance,
    n_len := PySem.W.mg_none_of X G y_len,
    n_list := PySem.W.mg_none_of X G y_list,
    n_range := PySem.W.mg_none_of X G y_range,
    n_repr := PySem.W.mg_none_of X G y_repr,
    n_str := PySem.W.mg_none_of X G y_str,
    n_super := PySem.W.mg_none_of X G y_super,
    n_tuple := PySem.W.mg_none_of X G y_tuple,
    e_IG := E1, e_GE := G1, x_InvalidGrant := xc, m_GE := PySem.W.mg_of X G aG, q_exm := PySem.W.exm_ref bG hdG tG sEG, q_own := by unfold PySem.W.kitOne; simp, q_val := kV, q_non := kN, q_exc := ⟨gaE, gtE, bE, hdE, caE, snG, tkG, moE⟩, q_xf := ⟨gaE, gtE, bE, hdE⟩, q_no := fE, z_dig := zd }
  refine ⟨PySem.W.fnOf "law" "law" (defArgs s_law) (defBody s_law) (defScope s_law) .none kV19 dc19 pm19 an19 cd19 ct19, fun s v => .of_eq rfl, fun base _ _ => ?_⟩
  exact ok_law T
end DS
open PySem PySem.W PyProof.Rows
set_option maxRecDepth 100000 in
set_option maxHeartbeats 0 in
theorem PySem.Challenge.cw_grantroll_k01_grant_errors_holds : PySem.Challenge.rw_grantroll_k01_grant_errors.Holds := by
  w_on; o_law; k_head; (case hw => w_witness2)
  k_fill
  refine DS.walk_G (l := PySem.Challenge.rw_grantroll_k01_grant_errors) (n := 63) (k := 8) (x := "script") (sp := DS.spLaw) rfl (by decide) rfl ⟨rfl, by decide, by decide⟩ (fun w h Y => PySem.W.kIn_of Y) ?F DS.law_end
  case F =>
    intro w mg fa h KX G hmg
    refine' DS.all_mk KX G hmg ?a0 ?l0 ?c0 ?k0 ?a1 ?l1 ?c1 ?k1 ?a2 ?l2 ?c2 ?k2 ?a3 ?l3 ?c3 ?k3 ?a4 ?l4 ?c4 ?k4 ?a5 ?l5 ?c5 ?k5 ?a6 ?l6 ?c6 ?k6 ?a7 ?l7 ?c7 ?k7 ?a8 ?l8 ?c8 ?k8 ?a9 ?l9 ?c9 ?k9 ?a10 ?l10 ?c10 ?k10 ?a11 ?l11 ?c11 ?k11 ?a12 ?l12 ?c12 ?k12 ?a13 ?l13 ?c13 ?k13 ?a14 ?l14 ?c14 ?k14 ?a15 ?l15 ?c15 ?k15 ?a16 ?l16 ?c16 ?k16 ?a17 ?l17 ?c17 ?k17 ?a18 ?l18 ?c18 ?k18 ?a19 ?l19 ?c19 ?k19 ?z_ENTRIES ?z_LEAST_LEVEL ?z_MOST_LETTERS ?z_MOST_LEVEL ?z_MOST_PASSES ?z_MOST_TIME ?y_ValueError ?y_abs ?y_all ?y_bool ?y_int ?y_isinstance ?y_len ?y_list ?y_range ?y_repr ?y_str ?y_super ?y_tuple ?aE ?aG ?xE ?xG ?iG ?vE ?tA ?rE ?oE ?fE ?jE ?lI ?cI ?lC ?vC ?gC ?lcC ?tI ?kE ?bE ?tE ?gaE ?hdE ?gtE ?caE ?snG ?tkG ?moE ?bG ?hdG ?tG ?sEG ?kV ?kN ?zd ?topS
    (case a0 => k_is)
    (case l0 => k_is)
    (case c0 => k_is)
    (case k0 => k_is)
    (case a1 => k_is)
    (case l1 => k_is)
    (case c1 => k_is)
    (case k1 => k_is)
    (case a2 => k_is)
    (case l2 => k_is)
    (case c2 => k_is)
    (case k2 => k_is)
    (case a3 => k_is)
    (case l3 => k_is)
    (case c3 => k_is)
    (case k3 => k_is)
    (case a4 => k_is)
    (case l4 => k_is)
    (case c4 => k_is)
    (case k4 => k_is)
    (case a5 => k_is)
    (case l5 => k_is)
    (case c5 => k_is)
    (case k5 => k_is)
    (case a6 => k_is)
    (case l6 => k_is)
    (case c6 => k_is)
    (case k6 => k_is)
    (case a7 => k_is)
    (case l7 => k_is)
    (case c7 => k_is)
    (case k7 => k_is)
    (case a8 => k_is)
    (case l8 => k_is)
    (case c8 => k_is)
    (case k8 => k_is)
    (case a9 => k_is)
    (case l9 => k_is)
    (case c9 => k_is)
    (case k9 => k_is)
    (case a10 => k_is)
    (case l10 => k_is)
    (case c10 => k_is)
    (case k10 => k_is)
    (case a11 => k_is)
    (case l11 => k_is)
    (case c11 => k_is)
    (case k11 => k_is)
    (case a12 => k_is)
    (case l12 => k_is)
    (case c12 => k_is)
    (case k12 => k_is)
    (case a13 => k_is)
    (case l13 => k_is)
    (case c13 => k_is)
    (case k13 => k_is)
    (case a14 => k_is)
    (case l14 => k_is)
    (case c14 => k_is)
    (case k14 => k_is)
    (case a15 => k_is)
    (case l15 => k_is)
    (case c15 => k_is)
    (case k15 => k_is)
    (case a16 => k_is)
    (case l16 => k_is)
    (case c16 => k_is)
    (case k16 => k_is)
    (case a17 => k_is)
    (case l17 => k_is)
    (case c17 => k_is)
    (case k17 => k_is)
    (case a18 => k_is)
    (case l18 => k_is)
    (case c18 => k_is)
    (case k18 => k_is)
    (case a19 => k_is)
    (case l19 => k_is)
    (case c19 => k_is)
    (case k19 => k_is)
    (case z_ENTRIES => k_is)
    (case z_LEAST_LEVEL => k_is)
    (case z_MOST_LETTERS => k_is)
    (case z_MOST_LEVEL => k_is)
    (case z_MOST_PASSES => k_is)
    (case z_MOST_TIME => k_is)
    (case y_ValueError => k_is)
    (case y_abs => k_is)
    (case y_all => k_is)
    (case y_bool => k_is)
    (case y_int => k_is)
    (case y_isinstance => k_is)
    (case y_len => k_is)
    (case y_list => k_is)
    (case y_range => k_is)
    (case y_repr => k_is)
    (case y_str => k_is)
    (case y_super => k_is)
    (case y_tuple => k_is)
    (case aE => k_is)
    (case aG => k_is)
    (case xE => k_is)
    (case xG => k_is)
    (case iG => k_is)
    (case vE => k_is)
    (case tA => k_is)
    (case rE => k_is)
    (case oE => k_is)
    (case fE => k_is)
    (case jE => k_is)
    (case lI => k_is)
    (case cI => k_is)
    (case lC => k_is)
    (case vC => first | rfl | k_is)
    (case gC => first | rfl | decide +kernel | k_is)
    (case lcC => k_is)
    (case tI => k_is)
    (case kE => k_is)
    (case bE => k_is)
    (case tE => k_is)
    (case gaE => k_is)
    (case hdE => k_is)
    (case gtE => k_is)
    (case caE => k_is)
    (case snG => k_is)
    (case tkG => k_is)
    (case moE => k_is)
    (case bG => k_is)
    (case hdG => k_is)
    (case tG => k_is)
    (case sEG => first | k_is | rfl)
    (case kV => first | k_is | rfl)
    (case kN => first | k_is | rfl)
    (case zd => k_is)
    (case topS => first | rfl | decide +kernel)
#print axioms PySem.Challenge.cw_grantroll_k01_grant_errors_holds
