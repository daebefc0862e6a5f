import PyProof.Rows.All
import Wide.All
import OpenK.AllK
import Wide.FinOn
import Lean
import PyProof.EqAt
import PyProof.EqKinds
import PyProof.TupleCall
import PyProof.ListRange
import PyProof.Rows.Range3
import PyProof.NeKinds
import PyProof.EnumMake
import PyProof.EnumFor
import PyProof.StrWalks
import PyProof.ConsumeWalk
import PyProof.Rows.SetFrom
import PyProof.SetRoads
import PyProof.StrBlock2
import KE.KRevIter
import PyProof.EnumStmt
import PyProof.CollectIter
import PyProof.InstEq
import PyProof.ExcBaseAll.ValueError
import PyProof.ExcAttrAll.ValueError
import KE.KIsAll
import PyProof.StrLawsChain
import PyProof.Rows.StrLawsPart
import KE.IntText
import PySem.Challenge.RW_riffles_k09_written
set_option Elab.async false
set_option linter.all false
set_option maxRecDepth 100000
/-! THE HAND LAYER, for ints, bools, texts, own classes, LISTS and tuples (index, slices, in, append, pop ..), calls, loops. Paste it whole ahead of your own text; what your proof does not reach may be deleted. -/
namespace L2
open PySem PySem.Spec PyProof.Rows

/-- a key: an int or a str -/
abbrev Key := Sum Int Str
def keyIs : Key → Value → Bool
  | .inl k, v => Value.isInt k v
  | .inr x, v => Value.isStrOf x v
def keyH (w : World) : Key → Int
  | .inl k => hashInt k
  | .inr x => hashStr w x
theorem keyIs_shape : ∀ {k : Key} {v : Value}, keyIs k v = true → (∃ i t, k = Sum.inl i ∧ v = Value.int i t) ∨ (∃ x t, k = Sum.inr x ∧ v = Value.str x t)
  | .inl i, v, h => by
    obtain ⟨t, e⟩ := Value.isInt_shape (k := i) (v := v) h
    exact .inl ⟨i, t, rfl, e⟩
  | .inr x, v, h => by
    obtain ⟨t, e⟩ := Value.isStrOf_shape (x := x) (v := v) h
    exact .inr ⟨x, t, rfl, e⟩
theorem key_ll (a b : Int) : decide ((Sum.inl a : Key) = Sum.inl b) = (a == b) := by
  by_cases e : a = b
  · subst e; simp
  · have h : ¬ (Sum.inl a : Key) = Sum.inl b := fun q => e (Sum.inl.inj q)
    rw [decide_eq_false h]
    exact (beq_eq_false_iff_ne.mpr e).symm
theorem key_rr (a b : Str) : decide ((Sum.inr a : Key) = Sum.inr b) = decide (a = b) := by
  by_cases e : a = b
  · subst e; simp
  · have h : ¬ (Sum.inr a : Key) = Sum.inr b := fun q => e (Sum.inr.inj q)
    rw [decide_eq_false h, decide_eq_false e]
theorem key_lr (a : Int) (b : Str) : decide ((Sum.inl a : Key) = Sum.inr b) = false := decide_eq_false (fun q => nomatch q)
theorem key_rl (a : Str) (b : Int) : decide ((Sum.inr a : Key) = Sum.inl b) = false := decide_eq_false (fun q => nomatch q)

def mixKind (prog : Program) (w : World) : PySem.KeyKind prog w Key where
  is := keyIs
  hash := keyH w
  inj := fun v a b ha hb => by
    rcases keyIs_shape ha with ⟨i, t, rfl, rfl⟩ | ⟨x, t, rfl, rfl⟩
    · rcases keyIs_shape hb with ⟨j, u, rfl, e⟩ | ⟨y, u, rfl, e⟩
      · injection e with e1 _; rw [e1]
      · exact nomatch e
    · rcases keyIs_shape hb with ⟨j, u, rfl, e⟩ | ⟨y, u, rfl, e⟩
      · exact nomatch e
      · injection e with e1 _; rw [e1]
  byValue := fun k v h => by
    rcases keyIs_shape h with ⟨i, t, rfl, rfl⟩ | ⟨x, t, rfl, rfl⟩ <;> rfl
  pyHash := fun hv h => by
    rcases keyIs_shape hv with ⟨i, t, rfl, rfl⟩ | ⟨x, t, rfl, rfl⟩
    · exact wpAny_pyHash_int h
    · exact wpAny_pyHash_str h
  eqBool := fun hu hv h => by
    rcases keyIs_shape hu with ⟨i, t, rfl, rfl⟩ | ⟨x, t, rfl, rfl⟩
    · rcases keyIs_shape hv with ⟨j, u, rfl, rfl⟩ | ⟨y, u, rfl, rfl⟩
      · rw [key_ll] at h; exact wpAny_eqBool_int h
      · rw [key_lr] at h; exact SeqAt.EqAt.int_str i t y u _ _ _ _ h
    · rcases keyIs_shape hv with ⟨j, u, rfl, rfl⟩ | ⟨y, u, rfl, rfl⟩
      · rw [key_rl] at h; exact SeqAt.EqAt.str_int x t j u _ _ _ _ h
      · rw [key_rr] at h; exact wpAny_eqBool_str h
  «strs» := fun k x t v h => by
    rcases keyIs_shape h with ⟨i, u, rfl, e⟩ | ⟨y, u, rfl, e⟩
    · exact nomatch e
    · injection e with e1 _
      subst e1
      cases v <;> rfl

end L2

namespace L2
open PySem PySem.Spec PyProof.Rows

/-- a value, without the heap -/
inductive V where
  | non | bl (b : Bool) | int (i : Int) | str (x : Str) | byt (b : Array UInt8) | flt (b : UInt64) | ref (a : Addr) | ty (n : String)
  deriving DecidableEq

def RelV : V → Value → Prop
  | .non, u => u = Value.none
  | .bl b, u => u = Value.bool b
  | .int i, u => ∃ t, u = Value.int i t
  | .str x, u => ∃ t, u = Value.str x t
  | .byt b, u => ∃ t, u = Value.bytes b t
  | .flt b, u => ∃ t, u = Value.float b t
  | .ref a, u => u = Value.ref a
  | .ty n, u => u = Value.type n

abbrev Vals : List V → List Value → Prop := Paired RelV
theorem Vals.length {xs : List V} {us : List Value} (r : Vals xs us) : xs.length = us.length := Paired.length r
theorem Vals.get : ∀ {xs : List V} {us : List Value} {i : Nat} {x : V}, Vals xs us → xs[i]? = some x → ∃ u, us[i]? = some u ∧ RelV x u
  | _, _, _, _, .nil, e => by simp at e
  | _, _, 0, _, .cons r _, e => by simp at e; subst e; exact ⟨_, rfl, r⟩
  | _, _, i + 1, x, .cons _ t, e => by
    obtain ⟨u, h1, h2⟩ := Vals.get (i := i) (x := x) t (by simpa using e)
    exact ⟨u, by simpa using h1, h2⟩
theorem Vals.set {x : V} {u : Value} (r : RelV x u) : ∀ {xs : List V} {us : List Value} (i : Nat), Vals xs us → Vals (xs.set i x) (us.set i u)
  | _, _, _, .nil => .nil
  | _, _, 0, .cons _ t => .cons r t
  | _, _, i + 1, .cons q t => .cons q (Vals.set r i t)
theorem Vals.append : ∀ {xs ys : List V} {us ws : List Value}, Vals xs us → Vals ys ws → Vals (xs ++ ys) (us ++ ws)
  | _, _, _, _, .nil, s => s
  | _, _, _, _, .cons r t, s => .cons r (Vals.append t s)
theorem Vals.take : ∀ {xs : List V} {us : List Value} (n : Nat), Vals xs us → Vals (xs.take n) (us.take n)
  | _, _, 0, _ => .nil
  | _, _, _ + 1, .nil => .nil
  | _, _, n + 1, .cons r t => .cons r (Vals.take n t)
theorem Vals.drop : ∀ {xs : List V} {us : List Value} (n : Nat), Vals xs us → Vals (xs.drop n) (us.drop n)
  | _, _, 0, r => r
  | _, _, _ + 1, .nil => .nil
  | _, _, n + 1, .cons _ t => Vals.drop n t

def RelO : Option V → Option Value → Prop
  | some v, some u => RelV v u
  | none, none => True
  | _, _ => False
def KV {κ : Type} : List (κ × V) → List (κ × Value) → Prop := Paired fun (p : κ × V) (q : κ × Value) => p.1 = q.1 ∧ RelV p.2 q.2

/-- a key of a dict (00_mix): an int or a text -/
def kV : Key → V
  | .inl i => .int i
  | .inr x => .str x

/-- what stands at a tracked address -/
inductive HO where
  /-- a list -/
  | lst (xs : List V)
  /-- a tuple (never changes) -/
  | tup (xs : List V)
  /-- a dict whose keys are ints and texts; one whose keys are tuples of ints and texts (the empty one is both) -/
  | dK (kvs : List (Key × V))
  /-- a set of ints: its members, its size -/
  | set (S : Int → Bool) (n : Nat)
  /-- an instance of the class at C, its dict at dx, its attributes -/
  | ins (C dx : Addr) (fs : List (Str × V))
  /-- the dict of the instance at x -/
  | own (x : Addr)
  /-- the dict of an exception -/
  | xd (fs : List (Str × V))
  /-- a bound method, f of x -/
  | met (f x : Addr)
  /-- a range object lo, lo + 1, .. below hi -/
  | rng (lo hi : Int)
  /-- a thing that is known to the object (the script; a dict while a loop walks it): read, never written while it is so -/
  | frz (o : Obj) (u : HO)
  /-- a code object's table -/
  | tbl (ps : Array Value)
  /-- any other thing, by what is true of its one object (a def of one's own: SetO a S n := HO.ext fun h => ..) -/
  | ext (φ : Heap → Prop)

abbrev Hp := Addr → Option HO
def upd (H : Hp) (a : Addr) (o : HO) : Hp := fun b => if b = a then some o else H b
theorem upd_same {H : Hp} {a : Addr} {o : HO} : upd H a o a = some o := by unfold upd; rw [if_pos rfl]
theorem upd_ne {H : Hp} {a b : Addr} {o : HO} (h : b ≠ a) : upd H a o b = H b := by unfold upd; rw [if_neg h]
theorem upd_upd {H : Hp} {a : Addr} {o u : HO} : upd (upd H a o) a u = upd H a u := by
  funext b; unfold upd; split <;> rfl
/-- two objects of different content stand apart -/
theorem ne_of {H : Hp} {a b : Addr} {o u : HO} (h : H a = some o) (h' : H b = some u) (d : o ≠ u) : a ≠ b := by
  intro e; subst e; rw [h] at h'; exact d (Option.some.inj h')
theorem ne_of_none {H : Hp} {a b : Addr} {o : HO} (h : H a = some o) (h' : H b = none) : a ≠ b := by
  intro e; subst e; rw [h] at h'; cases h'

section
variable (P : Program) (w : World)
def ObjOk (H : Hp) (h : Heap) (a : Addr) : HO → Prop
  | .lst xs => xs.length ≤ sizeLine ∧ ∃ (its : List Value) (n : Nat), Vals xs its ∧ h.get? a = some { cls := .type "list", data := .seq its.toArray n }
  | .tup xs => xs.length ≤ sizeLine ∧ ∃ its : List Value, Vals xs its ∧ IsTup h a its.toArray
  | .dK kvs => kvs.length ≤ sizeLine ∧ (a == sysModules) = false ∧ ∃ vs, KV kvs vs ∧ h.DictOf (mixKind P w) a vs
  | .set S n => h.SetOf (intKind P w) a S n
  | .ins C dx fs => H dx = some (.own a) ∧ fs.length ≤ 1000 ∧ dx ≠ a ∧ h.get? a = some (PySem.W.instObj C dx) ∧
      ∃ mA, h.Ns1 dx mA ∧ (∀ f, RelO (fs.lookup f) (mA f)) ∧ PySem.Within mA (fs.map (·.1))
  | .own _ => ∃ o, h.get? a = some o
  | .xd fs => ∃ mA, h.Ns1 a mA ∧ ∀ f, RelO (fs.lookup f) (mA f)
  | .rng lo hi => ∃ t u v, h.get? a = some { cls := .type "range", data := .fields #[.int lo t, .int hi u, .int 1 v] }
  | .frz o u => h.get? a = some o ∧ ObjOk H h a u
  | .tbl _ => False
  | .met f x => h.get? a = some (PySem.W.methodObj (.ref f) (.ref x))
  | .ext φ => φ h ∧ (∃ o, h.get? a = some o) ∧ ∀ h1 h2 : Heap, φ h1 → (∀ o, h1.get? a = some o → h2.get? a = some o) → φ h2
/-- the abstract heap is held -/
def HOk (H : Hp) (h : Heap) : Prop := ∀ a o, H a = some o → ObjOk P w H h a o
end

section
variable {P : Program} {w : World} {H H' : Hp} {h h' : Heap} {a : Addr} {o : HO}
theorem ObjOk.lt (x : ObjOk P w H h a o) : a < h.objs.size := by
  cases o with
  | lst xs => obtain ⟨_, _, _, _, e⟩ := x; exact Heap.lt_size e
  | tup xs => obtain ⟨_, _, _, p⟩ := x; exact p.lt
  | dK kvs => obtain ⟨_, _, _, _, o, _, _, e, _⟩ := x; exact Heap.lt_size e
  | set S n => obtain ⟨o, _, _, _, e, _⟩ := x; exact Heap.lt_size e
  | ins C dx fs => obtain ⟨_, _, _, e, _⟩ := x; exact Heap.lt_size e
  | own y => obtain ⟨_, e⟩ := x; exact Heap.lt_size e
  | xd fs => obtain ⟨_, ⟨_, _, _, e, _⟩, _⟩ := x; exact Heap.lt_size e
  | rng lo hi => obtain ⟨_, _, _, e⟩ := x; exact Heap.lt_size e
  | frz ob u => obtain ⟨e, _⟩ := x; exact Heap.lt_size e
  | tbl ps => exact False.elim x
  | met f y => exact Heap.lt_size (show h.get? a = some _ from x)
  | ext φ => obtain ⟨_, ⟨_, e⟩, _⟩ := x; exact Heap.lt_size e
/-- what an object's description leans on: its own object, its own dict, the tuples -/
theorem ObjOk.stay (x : ObjOk P w H h a o) (k : ∀ b u, (b = a ∨ H b = some (.own a)) → h.get? b = some u → h'.get? b = some u)
    (ho : ∀ b, H b = some (.own a) → H' b = some (.own a)) (ht : ∀ b xs, H b = some (.tup xs) → H' b = some (.tup xs)) : ObjOk P w H' h' a o := by
  induction o with
  | lst xs => obtain ⟨z, its, n, r, e⟩ := x; exact ⟨z, its, n, r, k _ _ (.inl rfl) e⟩
  | tup xs => obtain ⟨z, its, r, ob, e, c⟩ := x; exact ⟨z, its, r, ob, k _ _ (.inl rfl) e, c⟩
  | dK kvs => obtain ⟨z, y, vs, r, ob, es, ep, e, c⟩ := x; exact ⟨z, y, vs, r, ob, es, ep, k _ _ (.inl rfl) e, c⟩
  | set S n => obtain ⟨ob, es, ep, t, e, c⟩ := x; exact ⟨ob, es, ep, t, k _ _ (.inl rfl) e, c⟩
  | ins C dx fs =>
    obtain ⟨d, z, ne, e, mA, ⟨od, es, ep, e2, c⟩, r⟩ := x
    exact ⟨ho _ d, z, ne, k _ _ (.inl rfl) e, mA, ⟨od, es, ep, k _ _ (.inr d) e2, c⟩, r⟩
  | own y => obtain ⟨ob, e⟩ := x; exact ⟨ob, k _ _ (.inl rfl) e⟩
  | xd fs => obtain ⟨mA, ⟨od, es, ep, e, c⟩, r⟩ := x; exact ⟨mA, ⟨od, es, ep, k _ _ (.inl rfl) e, c⟩, r⟩
  | rng lo hi => obtain ⟨t, u, v, e⟩ := x; exact ⟨t, u, v, k _ _ (.inl rfl) e⟩
  | frz ob u ih => obtain ⟨e, q⟩ := x; exact ⟨k _ _ (.inl rfl) e, ih q⟩
  | tbl ps => exact False.elim x
  | met f y =>
    have e : h.get? a = some (PySem.W.methodObj (.ref f) (.ref y)) := x
    show h'.get? a = some (PySem.W.methodObj (.ref f) (.ref y))
    exact k a _ (.inl rfl) e
  | ext φ => obtain ⟨p, ⟨o, e⟩, st⟩ := x; exact ⟨st _ _ p fun o q => k _ _ (.inl rfl) q, ⟨o, k _ _ (.inl rfl) e⟩, st⟩
theorem HOk.lt (x : HOk P w H h) (e : H a = some o) : a < h.objs.size := (x a o e).lt
theorem HOk.fresh (x : HOk P w H h) (e : h.objs.size ≤ a) : H a = none := by
  cases q : H a with
  | none => rfl
  | some u => exact absurd (Nat.lt_of_lt_of_le (x.lt q) e) (Nat.lt_irrefl _)
/-- every object of the heap is kept -/
theorem HOk.kept (x : HOk P w H h) (k : ∀ b u, h.get? b = some u → h'.get? b = some u) : HOk P w H h' := fun a o e =>
  (x a o e).stay (fun b u _ q => k b u q) (fun _ q => q) fun _ _ q => q
/-- a new object is laid and tracked -/
theorem HOk.laid (x : HOk P w H h) (k : ∀ b u, h.get? b = some u → h'.get? b = some u) (hp : h.objs.size ≤ a) (new : ObjOk P w (upd H a o) h' a o) : HOk P w (upd H a o) h' := fun b u e => by
  have hn := x.fresh hp
  by_cases hb : b = a
  · subst hb; rw [upd_same] at e; cases e; exact new
  · rw [upd_ne hb] at e
    exact (x b u e).stay (fun c v _ q => k c v q) (fun c q => by rw [upd_ne (ne_of_none q hn)]; exact q) fun c xs q => by rw [upd_ne (ne_of_none q hn)]; exact q
end

/-- what may be read as u: it is u, or a known u -/
def Rd (H : Hp) (a : Addr) (u : HO) : Prop := H a = some u ∨ ∃ o, H a = some (.frz o u)
theorem Rd.ok {P : Program} {w : World} {H : Hp} {h : Heap} {a : Addr} {u : HO} (r : Rd H a u) (x : HOk P w H h) : ObjOk P w H h a u := by
  rcases r with r | ⟨o, r⟩
  · exact x a u r
  · obtain ⟨_, q⟩ := x a _ r
    exact q
/-- what may be written -/
def Mut : Option HO → Prop
  | some (.lst _) => True
  | some (.dK _) => True
  | some (.set _ _) => True
  | some (.ins _ _ _) => True
  | some (.ext _) => True
  | _ => False
section
variable {P : Program} {w : World} {H : Hp} {h h' : Heap} {x e : Addr} {o' : HO}
/-- the object at e is changed: x itself, or the dict of the instance x -/
theorem HOk.write (ok : HOk P w H h) (mu : Mut (H x)) (he : e = x ∨ H e = some (.own x)) (k : ∀ b u, b ≠ e → h.get? b = some u → h'.get? b = some u) (heo : ∃ u, h'.get? e = some u)
    (new : ObjOk P w (upd H x o') h' x o') : HOk P w (upd H x o') h' := fun b u q => by
  have nown : ∀ c y, H c = some (.own y) → c ≠ x := fun c y r z => by subst z; rw [r] at mu; exact mu
  have ntup : ∀ c xs, H c = some (.tup xs) → c ≠ x := fun c xs r z => by subst z; rw [r] at mu; exact mu
  by_cases hb : b = x
  · subst hb; rw [upd_same] at q; cases q; exact new
  · rw [upd_ne hb] at q
    by_cases hbe : b = e
    · have q' : H b = some (.own x) := by
        rcases he with z | z
        · exact absurd (hbe.trans z) hb
        · rw [hbe]; exact z
      rw [q] at q'; cases q'
      obtain ⟨v, hv⟩ := heo
      exact ⟨v, by rw [hbe]; exact hv⟩
    · refine (ok b u q).stay (fun c v hc r => k c v ?_ r) (fun c r => by rw [upd_ne (nown c b r)]; exact r) fun c xs r => by rw [upd_ne (ntup c xs r)]; exact r
      rcases hc with rfl | hc
      · exact hbe
      · rintro rfl
        rcases he with z | z
        · exact nown c b hc z
        · rw [hc] at z; cases z; exact hb rfl
end

/-! ### kept unless tracked; of the frames at fs (the callers') the slots may change (an exception that passes writes there); of the records at ex (iterators) nothing is said -/
structure Un (fs ex : List Addr) (H H' : Hp) (h h' : Heap) : Prop where
  keep : ∀ b o, h.get? b = some o → H b = none → b ∉ fs → b ∉ ex → h'.get? b = some o
  slot : ∀ b o, h.get? b = some o → H b = none → b ∈ fs → b ∉ ex → ∃ sl, h'.get? b = some { o with slots := sl }
  free : ∀ b o, h.get? b = some o → H b = none → b ∉ ex → H' b = none
  there : ∀ b o, h.get? b = some o → b ∉ ex → ∃ o', h'.get? b = some o'
  tups : ∀ b xs, H b = some (.tup xs) → H' b = some (.tup xs)
  frzs : ∀ b o u, H b = some (.frz o u) → H' b = some (.frz o u)
  tbls : ∀ b ps, H b = some (.tbl ps) → ∃ more, H' b = some (.tbl (ps ++ more))
section
variable {fs fs' ex ex' : List Addr} {H H1 H2 : Hp} {h h1 h2 h' : Heap} {a x e : Addr} {o : HO}
theorem Un.any (u : Un fs ex H H1 h h1) {b : Addr} {ob : Obj} (q : h.get? b = some ob) (n : H b = none) (hx : b ∉ ex) : ∃ sl, h1.get? b = some { ob with slots := sl } := by
  by_cases hb : b ∈ fs
  · exact u.slot b ob q n hb hx
  · exact ⟨ob.slots, u.keep b ob q n hb hx⟩
theorem Un.kept (k : ∀ b u, h.get? b = some u → h'.get? b = some u) : Un fs ex H H h h' :=
  ⟨fun b ob q _ _ _ => k b ob q, fun b ob q _ _ _ => ⟨ob.slots, k b ob q⟩, fun _ _ _ n _ => n, fun b ob q _ => ⟨ob, k b ob q⟩, fun _ _ q => q, fun _ _ _ q => q, fun _ ps q => ⟨#[], by rw [q]; simp⟩⟩
theorem Un.refl : Un fs ex H H h h := Un.kept fun _ _ q => q
theorem Un.laid (k : ∀ b u, h.get? b = some u → h'.get? b = some u) (hp : h.objs.size ≤ a) (hn : H a = none) : Un fs ex H (upd H a o) h h' where
  keep := fun b u q _ _ _ => k b u q
  slot := fun b u q _ _ _ => ⟨u.slots, k b u q⟩
  free := fun b u q n _ => by rw [upd_ne (Nat.ne_of_lt (Nat.lt_of_lt_of_le (Heap.lt_size q) hp))]; exact n
  there := fun b u q _ => ⟨u, k b u q⟩
  tups := fun b xs q => by rw [upd_ne (ne_of_none q hn)]; exact q
  frzs := fun b u xs q => by rw [upd_ne (ne_of_none q hn)]; exact q
  tbls := fun b ps q => ⟨#[], by rw [upd_ne (ne_of_none q hn), q]; simp⟩
theorem Un.write (mu : Mut (H x)) (he : e = x ∨ H e = some (.own x)) (k : ∀ b u, b ≠ e → h.get? b = some u → h'.get? b = some u) (heo : ∃ u, h'.get? e = some u) : Un fs ex H (upd H x o) h h' := by
  have hx : ∀ b, H b = none → b ≠ x := fun b n z => by subst z; rw [n] at mu; exact mu
  have hb : ∀ b, H b = none → b ≠ e := fun b n z => by
    subst z
    rcases he with r | r
    · exact hx b n r
    · rw [n] at r; cases r
  have hm : ∀ b u, H b = some u → ¬ Mut (some u) → b ≠ x := fun b u q nm z => by subst z; rw [q] at mu; exact nm mu
  refine ⟨fun b u q n _ _ => k b u (hb b n) q, fun b u q n _ _ => ⟨u.slots, k b u (hb b n) q⟩, fun b u q n _ => by rw [upd_ne (hx b n)]; exact n, fun b u q _ => ?_,
    fun b xs q => by rw [upd_ne (hm b _ q fun z => z)]; exact q, fun b u xs q => by rw [upd_ne (hm b _ q fun z => z)]; exact q, fun b ps q => ⟨#[], by rw [upd_ne (hm b _ q fun z => z), q]; simp⟩⟩
  by_cases hbe : b = e
  · subst hbe; exact heo
  · exact ⟨u, k b u hbe q⟩
end

/-! ### the heap without what is tracked -/
def trk (h : Heap) (H : Hp) : List Addr := (List.range h.objs.size).filter fun a => (H a).isSome
def hidT (h : Heap) (H : Hp) : Heap := PySem.W.hideAll h (trk h H)
theorem hidT_size (h : Heap) (H : Hp) : (hidT h H).objs.size = h.objs.size := PySem.W.hideAll_size _ _
theorem hidT_get {h : Heap} {H : Hp} {b : Addr} {o : Obj} (e : h.get? b = some o) (n : H b = none) : (hidT h H).get? b = some o :=
  PySem.W.hideAll_get _ e fun hm => by
    have q : (H b).isSome = true := (List.mem_filter.mp hm).2
    rw [n] at q; simp at q
theorem of_hidT {h : Heap} {H : Hp} {b : Addr} {o : Obj} (e : (hidT h H).get? b = some o) : h.get? b = some o ∧ H b = none := by
  have e' : h.get? b = some o := PySem.W.of_hideAll (trk h H) e
  refine ⟨e', ?_⟩
  cases q : H b with
  | none => rfl
  | some x =>
    have hm : b ∈ trk h H := List.mem_filter.mpr ⟨List.mem_range.mpr (Heap.lt_size e'), by simp [q]⟩
    have z : (hidT h H).get? b = none := PySem.W.hideAll_none (trk h H) hm
    rw [z] at e; cases e

/-! ### OpenK's ledger, filled with every new object but one -/
def allNews (g h : Heap) (L : Addr) : List (Addr × Obj) := (List.range h.objs.size).filterMap fun a => if a = L ∨ (g.get? a).isSome = true then none else (h.get? a).map fun o => (a, o)
def rest (g h : Heap) (L d : Addr) : List (Addr × Obj) := (allNews g h L).filter fun p => decide (p.1 ≠ d)
end L2

namespace L2
open PySem PySem.Spec PyProof.Rows

/-- the module's facts, over the base: the heap at the law's entry without what is tracked there -/
structure Mod (K : PySem.W.Frag) (mg : Str → Option Value) (base : Heap) : Prop where
  kin : K.In base
  glob : base.Ns mainGlobals mg
  blt : ∃ mb, base.Ns builtinsNs mb ∧ ∀ x : Str, x ≠ "__name__" → mb x = bootBuiltins x
  nolimit : base.NoLimit

/-- the context: a def's body (or a comprehension's block) running. base: fixed through the whole law; s₀, H₀: the entry; outer: the frames whose slots others may change (a def's callers); stack: all frames that run;
   ex: iterators that were made ahead of the entry and are walked here (a comprehension's); fn: the names whose cells were made at the entry (a def: all; a comprehension's block: its own); calm: not within an except suite; pn: pins that every state bears; xe: what is wanted of an exception that leaves the code -/
structure Cx where
  prog : Program
  w : World
  K : PySem.W.Frag
  mg : Str → Option Value
  base : Heap
  A : Around
  N : List Str
  s₀ : Shared
  H₀ : Hp
  env : Env
  outer : List Env
  stack : List Env
  ex : List Addr
  fn : Str → Bool
  calm : Bool
  pn : List (Addr × Obj)
  xe : Value → Shared → Prop
/-- the callers' frames -/
def frs (l : List Env) : List Addr := l.filterMap (·.frame)
abbrev Cx.fs (X : Cx) : List Addr := frs X.outer

def Vis (sc : Scope) (x : Str) : Prop := sc.names.lookup x = some .local ∨ sc.names.lookup x = some .cell ∨ sc.names.lookup x = some .free
def Loc (sc : Scope) (x : Str) : Prop := sc.names.lookup x = some .local ∨ sc.names.lookup x = some .cell
def Look (env : Env) (h : Heap) (m : Str → Option Value) (x : Str) (u : Value) : Prop :=
  (env.kindOf x = some .local ∧ m x = some u) ∨ ((env.kindOf x = some .cell ∨ env.kindOf x = some .free) ∧ ∃ c, env.cells.lookup x = some c ∧ h.IsCell c (some u))

structure Cx.Ok (X : Cx) : Prop where
  mod : Mod X.K X.mg X.base
  kind : X.env.scope.kind = .function
  glob : X.env.globals = mainGlobals
  blt : X.env.builtins = builtinsNs
  above : X.s₀.heap.objs.size ≤ X.env.locals
  inj : ∀ x y c, X.env.cells.lookup x = some c → X.env.cells.lookup y = some c → x = y
  has : ∀ x, (X.env.kindOf x = some .cell ∨ X.env.kindOf x = some .free) → ∃ c, X.env.cells.lookup x = some c
  cab : ∀ x c, X.fn x = true → X.env.cells.lookup x = some c → X.s₀.heap.objs.size ≤ c
  hd : X.calm = true → X.A.handled = none
  frames : X.A.frames = some X.stack
  stk : X.stack = X.outer ∨ (X.stack = X.env :: X.outer ∧ X.env.frame = some X.env.locals)
  exf : ∀ b ∈ X.ex, b ≠ X.env.locals ∧ ∀ x c, X.env.cells.lookup x = some c → c ≠ b
  bs : ∀ b o, X.base.get? b = some o → X.s₀.heap.get? b = some o ∧ X.H₀ b = none
  bsz : X.base.objs.size ≤ X.s₀.heap.objs.size
  noex : ∀ b o, X.base.get? b = some o → b ∉ X.ex
  exfs : ∀ b ∈ X.ex, b ∉ X.fs
  funs : X.s₀.heap.FunFrames X.base X.outer
  frf : ∀ b ∈ X.fs, X.H₀ b = none

structure Inv (X : Cx) (pins : List (Addr × Obj)) (σ : List (Option V)) (H : Hp) (s : Shared) : Prop where
  ok : X.Ok
  os : s.os = X.s₀.os
  bare : AllBare s.gens
  base : Un X.fs X.ex X.H₀ H X.s₀.heap s.heap
  loc : ∃ m, s.heap.Ns X.env.locals m ∧ ∀ (i : Nat) (x : Str) (v : V), X.N[i]? = some x → σ[i]? = some (some v) → Vis X.env.scope x → ∃ u, RelV v u ∧ Look X.env s.heap m x u
  cell : ∀ x c, X.env.cells.lookup x = some c → ∃ v, s.heap.IsCell c v
  free : H X.env.locals = none
  freeC : ∀ x c, X.env.cells.lookup x = some c → H c = none
  pin : ∀ p ∈ X.pn ++ pins, s.heap.get? p.1 = some p.2 ∧ H p.1 = none ∧ p.1 ≠ X.env.locals ∧ p.1 ∉ X.fs ∧ ∀ v, p.2.data ≠ .cell v
  hok : HOk X.prog X.w H s.heap
  len : σ.length = X.N.length

section
variable {X : Cx} {pins : List (Addr × Obj)} {σ : List (Option V)} {H H' : Hp} {s : Shared} {h' : Heap}

theorem Cx.Ok.nofr (ok : X.Ok) {b : Addr} {o : Obj} (e : X.base.get? b = some o) : b ∉ X.fs := fun hb => by
  have := (ok.funs.mem hb).1
  rw [e] at this; cases this
theorem Inv.bs (I : Inv X pins σ H s) : ∀ b o, X.base.get? b = some o → s.heap.get? b = some o ∧ H b = none := fun b o e =>
  ⟨I.base.keep b o (I.ok.bs b o e).1 (I.ok.bs b o e).2 (I.ok.nofr e) (I.ok.noex b o e), I.base.free b o (I.ok.bs b o e).1 (I.ok.bs b o e).2 (I.ok.noex b o e)⟩
theorem Inv.bk (I : Inv X pins σ H s) : ∀ b o, X.base.get? b = some o → s.heap.get? b = some o := fun b o e => (I.bs b o e).1
theorem Inv.mod (I : Inv X pins σ H s) : Mod X.K X.mg X.base := I.ok.mod
theorem Inv.kIn (I : Inv X pins σ H s) : X.K.In s.heap := I.ok.mod.kin.keeps I.bk
theorem Inv.lt (I : Inv X pins σ H s) : X.env.locals < s.heap.objs.size := let ⟨_, hn, _⟩ := I.loc; hn.lt
theorem Inv.sz (I : Inv X pins σ H s) : X.s₀.heap.objs.size ≤ s.heap.objs.size := Nat.le_trans I.ok.above (Nat.le_of_lt I.lt)
theorem Inv.nofs (I : Inv X pins σ H s) {a : Addr} (h : s.heap.objs.size ≤ a) : a ∉ X.fs := fun hb => by
  obtain ⟨_, o, ho, _⟩ := I.ok.funs.mem hb
  exact absurd (Nat.lt_of_lt_of_le (Heap.lt_size ho) (Nat.le_trans I.sz h)) (Nat.lt_irrefl _)
theorem Inv.cne (I : Inv X pins σ H s) : ∀ x c, X.env.cells.lookup x = some c → c ≠ X.env.locals := fun x c e z => by
  obtain ⟨v, o, ho, hd⟩ := I.cell x c e
  obtain ⟨m, ⟨o', es, ep, ho', hd', _⟩, _⟩ := I.loc
  rw [z, ho'] at ho; cases ho; rw [hd'] at hd; cases hd
theorem Inv.funs (I : Inv X pins σ H s) : s.heap.FunFrames X.base X.outer := by
  have all : ∀ (l : List Env), (∀ b ∈ frs l, b ∈ X.fs) → X.s₀.heap.FunFrames X.base l → s.heap.FunFrames X.base l := by
    intro l
    induction l with
    | nil => intro _ _; trivial
    | cons env r ih =>
      intro hs hl
      obtain ⟨hk, ⟨L, o, hf, hn, ho, hd⟩, hr⟩ := hl
      have hL : L ∈ X.fs := hs L (by unfold frs; rw [List.filterMap_cons, hf]; exact List.mem_cons_self)
      obtain ⟨sl, e⟩ := I.base.slot L o ho (I.ok.frf L hL) hL fun z => I.ok.exfs L z hL
      exact ⟨hk, ⟨L, _, hf, hn, e, hd⟩, ih (fun b hb => hs b (by unfold frs; rw [List.filterMap_cons, hf]; exact List.mem_cons_of_mem _ hb)) hr⟩
  exact all X.outer (fun _ hb => hb) I.ok.funs

/-- the frames that run, for a call -/
theorem Inv.stack (I : Inv X pins σ H s) : s.heap.FunFrames X.base X.stack := by
  rcases I.ok.stk with e | ⟨e, hf⟩
  · rw [e]; exact I.funs
  · rw [e]
    obtain ⟨m, hn, _⟩ := I.loc
    refine .cons (by rw [I.ok.kind]; decide) hf hn ?_ I.funs
    exact Heap.get?_none_of_le (Nat.le_trans I.ok.bsz I.ok.above)
theorem Inv.stkSub (I : Inv X pins σ H s) : ∀ b ∈ frs X.stack, b ∈ X.env.locals :: X.fs := fun b hb => by
  rcases I.ok.stk with e | ⟨e, hf⟩
  · rw [e] at hb; exact List.mem_cons_of_mem _ hb
  · rw [e] at hb
    unfold frs at hb
    rw [List.filterMap_cons, hf] at hb
    exact hb
theorem Inv.stkFree (I : Inv X pins σ H s) : ∀ b ∈ frs X.stack, H b = none := fun b hb => by
  rcases List.mem_cons.mp (I.stkSub b hb) with e | hb
  · rw [e]; exact I.free
  · obtain ⟨_, o, ho, _⟩ := I.ok.funs.mem hb
    exact I.base.free b o ho (I.ok.frf b hb) fun z => I.ok.exfs b z hb

/-- THE STEP: the untracked objects but the frame and the records at ch are kept (the callers' frames up to slots), the frame's map is kept, the new abstract heap is held -/
theorem Inv.step {g' : Array GenState} {t' : Nat} {d' : Drawn} {ch : List Addr} (I : Inv X pins σ H s)
    (hch : ∀ b ∈ ch, (b ∈ X.ex ∨ X.s₀.heap.objs.size ≤ b) ∧ b ≠ X.env.locals ∧ (∀ x c, X.env.cells.lookup x = some c → c ≠ b) ∧ ∀ p ∈ X.pn ++ pins, p.1 ≠ b)
    (keep : ∀ b o, b ≠ X.env.locals → b ∉ X.fs → b ∉ ch → s.heap.get? b = some o → H b = none → h'.get? b = some o)
    (slot : ∀ b o, b ≠ X.env.locals → b ∈ X.fs → b ∉ ch → s.heap.get? b = some o → H b = none → ∃ sl, h'.get? b = some { o with slots := sl }) (free : ∀ b o, b ∉ ch → s.heap.get? b = some o → H b = none → H' b = none)
    (there : ∀ b o, b ∉ ch → s.heap.get? b = some o → ∃ o', h'.get? b = some o')
    (tups : ∀ b xs, H b = some (.tup xs) → H' b = some (.tup xs)) (frzs : ∀ b o u, H b = some (.frz o u) → H' b = some (.frz o u)) (tbls : ∀ b ps, H b = some (.tbl ps) → ∃ more, H' b = some (.tbl (ps ++ more)))
    (ns : ∀ m, s.heap.Ns X.env.locals m → h'.Ns X.env.locals m) (hok : HOk X.prog X.w H' h') (hg : AllBare g') :
    Inv X pins σ H' { s with heap := h', gens := g', drawn := d', toks := t' } := by
  have neL : ∀ b o, X.s₀.heap.get? b = some o → b ≠ X.env.locals := fun b o e => Nat.ne_of_lt (Nat.lt_of_lt_of_le (Heap.lt_size e) I.ok.above)
  have neC : ∀ b o, X.s₀.heap.get? b = some o → b ∉ X.ex → b ∉ ch := fun b o e hx hb => by
    rcases (hch b hb).1 with z | z
    · exact hx z
    · exact absurd (Nat.lt_of_lt_of_le (Heap.lt_size e) z) (Nat.lt_irrefl _)
  have cellK : ∀ x c, X.env.cells.lookup x = some c → ∀ v, s.heap.IsCell c v → h'.IsCell c v := fun x c e v ⟨o, ho, hd⟩ => by
    have nch : c ∉ ch := fun z => (hch c z).2.2.1 x c e rfl
    by_cases hc : c ∈ X.fs
    · obtain ⟨sl, q⟩ := slot c o (I.cne x c e) hc nch ho (I.freeC x c e)
      exact ⟨_, q, hd⟩
    · exact ⟨o, keep c o (I.cne x c e) hc nch ho (I.freeC x c e), hd⟩
  refine ⟨I.ok, I.os, hg, ⟨fun b o e n hb hx => ?_, fun b o e n hb hx => ?_, fun b o e n hx => ?_, fun b o e hx => ?_, fun b xs e => tups b xs (I.base.tups b xs e), fun b o xs e => frzs b o xs (I.base.frzs b o xs e), fun b ps e => ?_⟩, ?_, fun x c e => ?_, ?_, fun x c e => ?_, fun p hp => ?_, hok, I.len⟩
  · exact keep b o (neL b o e) hb (neC b o e hx) (I.base.keep b o e n hb hx) (I.base.free b o e n hx)
  · obtain ⟨sl, e1⟩ := I.base.slot b o e n hb hx
    obtain ⟨sl', e2⟩ := slot b _ (neL b o e) hb (neC b o e hx) e1 (I.base.free b o e n hx)
    exact ⟨sl', e2⟩
  · obtain ⟨o', e1⟩ := I.base.there b o e hx
    exact free b o' (neC b o e hx) e1 (I.base.free b o e n hx)
  · obtain ⟨o', e1⟩ := I.base.there b o e hx
    exact there b o' (neC b o e hx) e1
  · obtain ⟨m1, e1⟩ := I.base.tbls b ps e
    obtain ⟨m2, e2⟩ := tbls b _ e1
    exact ⟨m1 ++ m2, by rw [e2, Array.append_assoc]⟩
  · obtain ⟨m, hn, hl⟩ := I.loc
    refine ⟨m, ns m hn, fun i x v e1 e2 e3 => ?_⟩
    obtain ⟨u, r, l⟩ := hl i x v e1 e2 e3
    refine ⟨u, r, ?_⟩
    rcases l with l | ⟨k, c, e, z⟩
    · exact .inl l
    · exact .inr ⟨k, c, e, cellK x c e _ z⟩
  · obtain ⟨v, z⟩ := I.cell x c e
    exact ⟨v, cellK x c e v z⟩
  · obtain ⟨m, ⟨o, _, _, ho, _⟩, _⟩ := I.loc
    exact free _ o (fun z => (hch _ z).2.1 rfl) ho I.free
  · obtain ⟨v, o, ho, hd⟩ := I.cell x c e
    exact free c o (fun z => (hch c z).2.2.1 x c e rfl) ho (I.freeC x c e)
  · obtain ⟨e, n, ne, nf, d⟩ := I.pin p hp
    have nch : p.1 ∉ ch := fun z => (hch p.1 z).2.2.2 p hp rfl
    exact ⟨keep p.1 p.2 ne nf nch e n, free p.1 p.2 nch e n, ne, nf, d⟩
/-- .. where the frame's own object is kept too -/
theorem Inv.un {t' : Nat} (I : Inv X pins σ H s) (u : Un X.fs [] H H' s.heap h') (hok : HOk X.prog X.w H' h') : Inv X pins σ H' { s with heap := h', toks := t' } := by
  obtain ⟨m, ⟨o, es, ep, ho, r⟩, _⟩ := id I.loc
  obtain ⟨sl, hL⟩ := u.any ho I.free (by simp)
  exact I.step (g' := s.gens) (d' := s.drawn) (ch := []) (fun _ z => nomatch z) (fun b o _ hb _ e n => u.keep b o e n hb (by simp)) (fun b o _ hb _ e n => u.slot b o e n hb (by simp)) (fun b o _ e n => u.free b o e n (by simp)) (fun b o _ e => u.there b o e (by simp)) u.tups u.frzs u.tbls (fun m' hm => by
    obtain ⟨o', es', ep', ho', r'⟩ := hm
    rw [ho] at ho'; cases ho'
    exact ⟨_, es', ep', hL, r'⟩) hok I.bare
/-- behind a call (or a comprehension's block): the slots of this frame may have changed too, the records at ch may have turned -/
theorem Inv.call {g' : Array GenState} {t' : Nat} {d' : Drawn} {ch : List Addr} (I : Inv X pins σ H s) (u : Un (frs X.stack) ch H H' s.heap h') (hok : HOk X.prog X.w H' h') (hg : AllBare g')
    (hch : ∀ b ∈ ch, (b ∈ X.ex ∨ X.s₀.heap.objs.size ≤ b) ∧ b ≠ X.env.locals ∧ (∀ x c, X.env.cells.lookup x = some c → c ≠ b) ∧ ∀ p ∈ X.pn ++ pins, p.1 ≠ b) :
    Inv X pins σ H' { s with heap := h', gens := g', drawn := d', toks := t' } := by
  obtain ⟨m, ⟨o, es, ep, ho, r⟩, _⟩ := id I.loc
  obtain ⟨sl, hL⟩ := u.any ho I.free fun z => (hch _ z).2.1 rfl
  exact I.step (ch := ch) hch (fun b o hL hb hc e n => u.keep b o e n (fun z => (List.mem_cons.mp (I.stkSub b z)).elim hL hb) hc) (fun b o _ _ hc e n => u.any e n hc) (fun b o hc e n => u.free b o e n hc) (fun b o hc e => u.there b o e hc) u.tups u.frzs u.tbls (fun m' hm => by
    obtain ⟨o', es', ep', ho', r'⟩ := hm
    rw [ho] at ho'; cases ho'
    exact ⟨_, es', ep', hL, r'⟩) hok hg
/-- an untracked record of ours (an iterator) has turned -/
theorem Inv.turned {t' : Nat} {it : Addr} (I : Inv X pins σ H s) (k : ∀ b o, b ≠ it → s.heap.get? b = some o → h'.get? b = some o) (hn : H it = none) (hL : it ≠ X.env.locals)
    (h1 : it ∈ X.ex ∨ X.s₀.heap.objs.size ≤ it) (h2 : ∀ x c, X.env.cells.lookup x = some c → c ≠ it) (h3 : ∀ p ∈ X.pn ++ pins, p.1 ≠ it) : Inv X pins σ H { s with heap := h', toks := t' } := by
  have nit : ∀ b u, H b = some u → b ≠ it := fun b u e z => by rw [z, hn] at e; cases e
  refine I.step (g' := s.gens) (d' := s.drawn) (ch := [it]) (fun b hb => ?_) (fun b o _ _ hc e _ => k b o (fun z => hc (by simp [z])) e) (fun b o _ _ hc e _ => ⟨o.slots, k b o (fun z => hc (by simp [z])) e⟩) (fun _ _ _ _ n => n)
    (fun b o hc e => ⟨o, k b o (fun z => hc (by simp [z])) e⟩) (fun _ _ e => e) (fun _ _ _ e => e) (fun b ps e => ⟨#[], by rw [e]; simp⟩) (fun m hm => ?_) (fun b u e => ?_) I.bare
  · have e : b = it := by simpa using hb
    subst e
    exact ⟨h1, hL, h2, h3⟩
  · obtain ⟨o, es, ep, ho, r⟩ := hm
    exact ⟨o, es, ep, k _ o (Ne.symm hL) ho, r⟩
  · refine (I.hok b u e).stay (fun c v hc q => k c v ?_ q) (fun _ q => q) fun _ _ q => q
    rcases hc with z | z
    · rw [z]; exact nit b u e
    · exact nit c _ z
theorem Inv.tok (I : Inv X pins σ H s) (t : Nat) : Inv X pins σ H { s with toks := t } := I.un (h' := s.heap) (t' := t) Un.refl I.hok
/-- all objects kept -/
theorem Inv.kept {t' : Nat} (I : Inv X pins σ H s) (k : ∀ b u, s.heap.get? b = some u → h'.get? b = some u) : Inv X pins σ H { s with heap := h', toks := t' } := I.un (Un.kept k) (I.hok.kept k)
/-- a new object laid and tracked -/
theorem Inv.laid {a : Addr} {o : HO} {t' : Nat} (I : Inv X pins σ H s) (k : ∀ b u, s.heap.get? b = some u → h'.get? b = some u) (hp : s.heap.objs.size ≤ a) (new : ObjOk X.prog X.w (upd H a o) h' a o) :
    Inv X pins σ (upd H a o) { s with heap := h', toks := t' } := I.un (Un.laid k hp (I.hok.fresh hp)) (I.hok.laid k hp new)
/-- an object written -/
theorem Inv.write {x e : Addr} {o : HO} {t' : Nat} (I : Inv X pins σ H s) (mu : Mut (H x)) (he : e = x ∨ H e = some (.own x)) (k : ∀ b u, b ≠ e → s.heap.get? b = some u → h'.get? b = some u) (heo : ∃ u, h'.get? e = some u)
    (new : ObjOk X.prog X.w (upd H x o) h' x o) : Inv X pins σ (upd H x o) { s with heap := h', toks := t' } := I.un (Un.write mu he k heo) (I.hok.write mu he k heo new)
/-- forgetting slots, pins -/
theorem Inv.weak {σ' : List (Option V)} (I : Inv X pins σ H s) (hl : σ'.length = σ.length) (w : ∀ (i : Nat) v, σ'[i]? = some (some v) → σ[i]? = some (some v)) : Inv X pins σ' H s :=
  ⟨I.ok, I.os, I.bare, I.base, let ⟨m, hn, hl'⟩ := I.loc; ⟨m, hn, fun i x v e1 e2 e3 => hl' i x v e1 (w i v e2) e3⟩, I.cell, I.free, I.freeC, I.pin, I.hok, hl.trans I.len⟩
theorem Inv.pins_of {pins' : List (Addr × Obj)} (I : Inv X pins σ H s) (h : ∀ p ∈ pins', s.heap.get? p.1 = some p.2 ∧ H p.1 = none ∧ p.1 ≠ X.env.locals ∧ p.1 ∉ X.fs ∧ ∀ v, p.2.data ≠ .cell v) : Inv X pins' σ H s :=
  ⟨I.ok, I.os, I.bare, I.base, I.loc, I.cell, I.free, I.freeC, fun p hp => (List.mem_append.mp hp).elim (fun z => I.pin p (List.mem_append_left _ z)) (h p), I.hok, I.len⟩

theorem nodup_ix {N : List Str} (hN : N.Nodup) {i j : Nat} {x : Str} (a : N[i]? = some x) (b : N[j]? = some x) : i = j := by
  obtain ⟨h1, e1⟩ := List.getElem?_eq_some_iff.mp a
  obtain ⟨h2, e2⟩ := List.getElem?_eq_some_iff.mp b
  exact (List.getElem_inj hN).mp (e1.trans e2.symm)

/-- a name is stored; what changed -/
theorem store_ok2 {M : Model} {A : Around} {E : Value → Shared → Prop} {i : Nat} {x : Str} {v : V} {u : Value} {Q : Unit → Shared → Prop} (I : Inv X pins σ H s) (hN : X.N.Nodup) (hi : X.N[i]? = some x) (hx : Loc X.env.scope x) (r : RelV v u)
    (h : ∀ s', Inv X pins (σ.set i (some v)) H s' → (∃ a, Heap.SameBut a s.heap s'.heap ∧ (a = X.env.locals ∨ X.env.cells.lookup x = some a)) → Q () s') (hf : X.fn x = true ∨ X.env.scope.names.lookup x = some .local := by first | exact .inl rfl | exact .inr rfl | assumption) : wpAny M A (storeName X.env x u) Q E s := by
  obtain ⟨m, hn, hl⟩ := id I.loc
  have hcls : (X.env.scope.kind == .class || (X.env.scope.kind == .module && X.env.locals != X.env.globals)) = false := by rw [I.ok.kind]; rfl
  have hiσ : i < σ.length := by rw [I.len]; exact (List.getElem?_eq_some_iff.mp hi).1
  have cne := I.cne
  have tracked : ∀ {a : Addr} {h' : Heap}, (∃ o, s.heap.get? a = some o ∧ H a = none) → Heap.SameBut a s.heap h' → HOk X.prog X.w H h' := fun {a h'} ha hs b ob e => by
    obtain ⟨_, _, hfree⟩ := ha
    refine (I.hok b ob e).stay (fun c w' hc q => (hs.2 c ?_).trans q) (fun _ q => q) fun _ _ q => q
    rintro rfl
    rcases hc with rfl | hc
    · rw [hfree] at e; cases e
    · rw [hfree] at hc; cases hc
  rcases hx with hk | hk
  · refine wpAny_storeName_local hk hn (fun h' hn' hs => ?_) hcls
    obtain ⟨oL, _, _, hoL, _⟩ := id hn
    refine h _ ⟨I.ok, I.os, I.bare, ⟨fun b o e n hb hx => ?_, fun b o e n hb hx => ?_, I.base.free, fun b o e hx => ?_, I.base.tups, I.base.frzs, I.base.tbls⟩, ⟨_, hn', fun j y v' e1 e2 e3 => ?_⟩, fun y c e => ?_, I.free, I.freeC, fun p hp => ?_, tracked ⟨oL, hoL, I.free⟩ hs, by simpa using I.len⟩ ⟨_, hs, .inl rfl⟩
    · exact (hs.2 b (Nat.ne_of_lt (Nat.lt_of_lt_of_le (Heap.lt_size e) I.ok.above))).trans (I.base.keep b o e n hb hx)
    · obtain ⟨sl, e1⟩ := I.base.slot b o e n hb hx
      exact ⟨sl, (hs.2 b (Nat.ne_of_lt (Nat.lt_of_lt_of_le (Heap.lt_size e) I.ok.above))).trans e1⟩
    · obtain ⟨o', e1⟩ := I.base.there b o e hx
      exact ⟨o', (hs.2 b (Nat.ne_of_lt (Nat.lt_of_lt_of_le (Heap.lt_size e) I.ok.above))).trans e1⟩
    · by_cases hj : j = i
      · subst hj
        rw [hi] at e1; cases e1
        rw [List.getElem?_set_self hiσ] at e2
        cases e2
        exact ⟨u, r, .inl ⟨hk, by simp⟩⟩
      · rw [List.getElem?_set_ne (Ne.symm hj)] at e2
        obtain ⟨u', r', q⟩ := hl j y v' e1 e2 e3
        refine ⟨u', r', ?_⟩
        rcases q with ⟨k, e⟩ | ⟨k, c, e, z⟩
        · refine .inl ⟨k, ?_⟩
          have : y ≠ x := fun e => hj (nodup_ix hN e1 (e ▸ hi))
          simp [this, e]
        · exact .inr ⟨k, c, e, z.sameBut hs (cne y c e)⟩
    · obtain ⟨w', z⟩ := I.cell y c e
      exact ⟨w', z.sameBut hs (cne y c e)⟩
    · obtain ⟨e, n, ne, nf, d⟩ := I.pin p hp
      exact ⟨(hs.2 p.1 ne).trans e, n, ne, nf, d⟩
  · have hfn : X.fn x = true := by
      rcases hf with z | z
      · exact z
      · rw [z] at hk; cases hk
    obtain ⟨c, hc⟩ := I.ok.has x (.inl hk)
    obtain ⟨w', z⟩ := I.cell x c hc
    refine wpAny_storeName_cell I.ok.kind hk hc z (fun h' hc' hs => ?_)
    obtain ⟨oc, hoc, hocd⟩ := id z
    refine h { s with heap := h' } ⟨I.ok, I.os, I.bare, ⟨fun b o e n hb hx => ?_, fun b o e n hb hx => ?_, I.base.free, fun b o e hx => ?_, I.base.tups, I.base.frzs, I.base.tbls⟩, ⟨m, hn.sameBut hs (Ne.symm (cne x c hc)), fun j y v' e1 e2 e3 => ?_⟩, fun y c' e => ?_, I.free, I.freeC, fun p hp => ?_, tracked ⟨oc, hoc, I.freeC x c hc⟩ hs, by simpa using I.len⟩ ⟨c, hs, .inr hc⟩
    · exact (hs.2 b (Nat.ne_of_lt (Nat.lt_of_lt_of_le (Heap.lt_size e) (I.ok.cab x c hfn hc)))).trans (I.base.keep b o e n hb hx)
    · obtain ⟨sl, e1⟩ := I.base.slot b o e n hb hx
      exact ⟨sl, (hs.2 b (Nat.ne_of_lt (Nat.lt_of_lt_of_le (Heap.lt_size e) (I.ok.cab x c hfn hc)))).trans e1⟩
    · obtain ⟨o', e1⟩ := I.base.there b o e hx
      exact ⟨o', (hs.2 b (Nat.ne_of_lt (Nat.lt_of_lt_of_le (Heap.lt_size e) (I.ok.cab x c hfn hc)))).trans e1⟩
    · by_cases hj : j = i
      · subst hj
        rw [hi] at e1; cases e1
        rw [List.getElem?_set_self hiσ] at e2
        cases e2
        exact ⟨u, r, .inr ⟨.inl hk, c, hc, hc'⟩⟩
      · rw [List.getElem?_set_ne (Ne.symm hj)] at e2
        obtain ⟨u', r', q⟩ := hl j y v' e1 e2 e3
        refine ⟨u', r', ?_⟩
        rcases q with q | ⟨k, c', e, z'⟩
        · exact .inl q
        · refine .inr ⟨k, c', e, z'.sameBut hs ?_⟩
          rintro rfl
          exact hj (nodup_ix hN e1 (I.ok.inj _ _ _ e hc ▸ hi))
    · by_cases hcc : c' = c
      · subst hcc; exact ⟨_, hc'⟩
      · obtain ⟨w2, z2⟩ := I.cell y c' e
        exact ⟨w2, z2.sameBut hs hcc⟩
    · obtain ⟨e, n, ne, nf, d⟩ := I.pin p hp
      refine ⟨(hs.2 p.1 ?_).trans e, n, ne, nf, d⟩
      intro q
      rw [q, hoc] at e
      have q' : oc = p.2 := Option.some.inj e
      exact d w' (by rw [← q']; exact hocd)
theorem store_ok {M : Model} {A : Around} {E : Value → Shared → Prop} {i : Nat} {x : Str} {v : V} {u : Value} {Q : Unit → Shared → Prop} (I : Inv X pins σ H s) (hN : X.N.Nodup) (hi : X.N[i]? = some x) (hx : Loc X.env.scope x) (r : RelV v u)
    (h : ∀ s', Inv X pins (σ.set i (some v)) H s' → Q () s') (hf : X.fn x = true ∨ X.env.scope.names.lookup x = some .local := by first | exact .inl rfl | exact .inr rfl | assumption) : wpAny M A (storeName X.env x u) Q E s :=
  store_ok2 I hN hi hx r (fun s' I' _ => h s' I') hf
/-- behind a call or a block, the state as it is -/
theorem Inv.call' {s' : Shared} {ch : List Addr} (I : Inv X pins σ H s) (ho : s'.os = s.os) (u : Un (frs X.stack) ch H H' s.heap s'.heap) (hok : HOk X.prog X.w H' s'.heap) (hg : AllBare s'.gens)
    (hch : ∀ b ∈ ch, (b ∈ X.ex ∨ X.s₀.heap.objs.size ≤ b) ∧ b ≠ X.env.locals ∧ (∀ x c, X.env.cells.lookup x = some c → c ≠ b) ∧ ∀ p ∈ X.pn ++ pins, p.1 ≠ b) : Inv X pins σ H' s' := by
  obtain ⟨h', g', d', t', o'⟩ := s'
  have e : o' = s.os := ho
  subst e
  exact I.call (g' := g') (t' := t') (d' := d') u hok hg hch
end

/-! ### the judgements -/
/-- an exception: its class, its own dict's address (where it has one), the abstract heap behind it -/
abbrev XK := Value → Option Addr → Hp → Prop
abbrev St := List (Option V)
abbrev VK := V → Hp → Prop
/-- an expression's reading; a test's; an argument list's -/
abbrev TE := St → Hp → VK → Prop
abbrev TT := St → Hp → (Bool → Hp → Prop) → Prop
abbrev TA := St → Hp → (List V → Hp → Prop) → Prop
/-- what is wanted behind a statement -/
structure Ends where
  nx : St → Hp → Prop
  rt : VK
  bk : St → Hp → Prop := fun _ _ => False
  ct : St → Hp → Prop := fun _ _ => False
abbrev TS := Ends → St → Hp → Prop

def EP (X : Cx) (pins : List (Addr × Obj)) (σ : St) (Q : VK) (u : Value) (s' : Shared) : Prop := ∃ v H', Inv X pins σ H' s' ∧ RelV v u ∧ Q v H'
def TP (X : Cx) (pins : List (Addr × Obj)) (σ : St) (Q : Bool → Hp → Prop) (b : Bool) (s' : Shared) : Prop := ∃ H', Inv X pins σ H' s' ∧ Q b H'
def AP (X : Cx) (pins : List (Addr × Obj)) (σ : St) (Q : List V → Hp → Prop) (us : List Value) (s' : Shared) : Prop := ∃ vs H', Inv X pins σ H' s' ∧ Vals vs us ∧ Q vs H'
def SP (X : Cx) (pins : List (Addr × Obj)) (D : Ends) (f : Flow) (s' : Shared) : Prop :=
  match f with
  | .next => ∃ σ' H', Inv X pins σ' H' s' ∧ D.nx σ' H'
  | .brk => ∃ σ' H', Inv X pins σ' H' s' ∧ D.bk σ' H'
  | .cont => ∃ σ' H', Inv X pins σ' H' s' ∧ D.ct σ' H'
  | .ret u => ∃ v σ' H', Inv X pins σ' H' s' ∧ RelV v u ∧ D.rt v H'

def PE (X : Cx) (e : Expr) (t : TE) : Prop :=
  ∀ (pins : List (Addr × Obj)) (s : Shared) (σ : St) (H : Hp) (Q : VK), Inv X pins σ H s → t σ H Q → wpAny (model X.prog X.w) X.A (eval e X.env) (EP X pins σ Q) X.xe s
def PT (X : Cx) (e : Expr) (t : TT) : Prop :=
  ∀ (pins : List (Addr × Obj)) (s : Shared) (σ : St) (H : Hp) (Q : Bool → Hp → Prop), Inv X pins σ H s → t σ H Q → wpAny (model X.prog X.w) X.A (isTrue e X.env (eval e X.env)) (TP X pins σ Q) X.xe s
/-- a test whatever its 'whole' is (and, or) -/
def PW (X : Cx) (e : Expr) (t : TT) : Prop :=
  ∀ (whole : Sem Value) (pins : List (Addr × Obj)) (s : Shared) (σ : St) (H : Hp) (Q : Bool → Hp → Prop), Inv X pins σ H s → t σ H Q → wpAny (model X.prog X.w) X.A (isTrue e X.env whole) (TP X pins σ Q) X.xe s
theorem PW.pt {X : Cx} {e : Expr} {t : TT} (h : PW X e t) : PT X e t := h _
/-- an argument list (no star), from the left -/
def PA (X : Cx) (es : List Expr) (t : TA) : Prop :=
  ∀ (pos : Pos) (pins : List (Addr × Obj)) (s : Shared) (σ : St) (H : Hp) (Q : List V → Hp → Prop), Inv X pins σ H s → t σ H Q → wpAny (model X.prog X.w) X.A (spliced (backTo pos (starEach es X.env))) (AP X pins σ Q) X.xe s
def PS (X : Cx) (st : Stmt) (t : TS) : Prop :=
  ∀ (pins : List (Addr × Obj)) (s : Shared) (σ : St) (H : Hp) (D : Ends), Inv X pins σ H s → t D σ H → wpAny (model X.prog X.w) X.A (exec st X.env) (SP X pins D) X.xe s
def PSs (X : Cx) (st : List Stmt) (t : TS) : Prop :=
  ∀ (pins : List (Addr × Obj)) (s : Shared) (σ : St) (H : Hp) (D : Ends), Inv X pins σ H s → t D σ H → wpAny (model X.prog X.w) X.A (execs st X.env) (SP X pins D) X.xe s
/-- weaken the end -/
theorem thn {α : Type} {t : Sem α} {Q Q' : α → Shared → Prop} {M : Model} {A : Around} {E : Value → Shared → Prop} {s : Shared} (h : wpAny M A t Q E s) (hQ : ∀ a s, Q a s → Q' a s) : wpAny M A t Q' E s := wpAny_mono h hQ fun _ _ x => x
end L2

namespace L2
open PySem PySem.Spec PyProof.Rows
section
variable {X : Cx}


/-! ### names and constants -/
def tVar (i : Nat) : TE := fun σ H Q => ∃ v, σ[i]? = some (some v) ∧ Q v H
def tC (v : V) : TE := fun _ H Q => Q v H
theorem pe_var {i : Nat} {x : Str} {pos : Pos} (hN : X.N[i]? = some x) (hv : Vis X.env.scope x) (hd : (x == ("__debug__" : Str)) = false := by decide) (hcd : (x == ("__classdict__" : Str)) = false := by decide) : PE X (.Name x pos) (tVar i) := by
  intro pins s σ H Q I h
  obtain ⟨v, e, h⟩ := h
  obtain ⟨m, hn, hl⟩ := I.loc
  obtain ⟨u, r, l⟩ := hl i x v hN e hv
  have fin : EP X pins σ Q u s := ⟨v, H, I, r, h⟩
  rcases l with ⟨hk, hm⟩ | ⟨hk, c, hc, hcell⟩
  · exact wpAny_Name (wpAny_loadName_local I.ok.kind hk hn hm fin) hd
  · rcases hk with hk | hk
    · exact wpAny_Name (wpAny_loadName_cell I.ok.kind hk hc hcell fin) hd
    · exact wpAny_Name (wpAny_loadName_free I.ok.kind hk hc hcell fin hcd) hd
theorem pe_int {i j pos} : PE X (.Constant (.int i) j pos) (tC (.int i)) := fun _ _ _ H _ I h => wpAny_Constant_int ⟨.int i, H, I.tok _, ⟨_, rfl⟩, h⟩
theorem pe_bl {b j pos} : PE X (.Constant (.bool b) j pos) (tC (.bl b)) := fun _ _ _ H _ I h => Constant_bool ⟨.bl b, H, I, rfl, h⟩
theorem pe_non {j pos} : PE X (.Constant .none j pos) (tC .non) := fun _ _ _ H _ I h => Constant_none ⟨.non, H, I, rfl, h⟩
theorem pe_str {x j pos} : PE X (.Constant (.str x) j pos) (tC (.str x)) := fun _ _ _ H _ I h => Calls.Constant_str ⟨.str x, H, I.tok _, ⟨_, rfl⟩, h⟩

/-- a global name of the def -/
def Gl (X : Cx) (x : Str) : Prop := X.env.kindOf x = some .globalImplicit
theorem ld_glob {E : Value → Shared → Prop} {pins : List (Addr × Obj)} {s : Shared} {σ : St} {H : Hp} {x : Str} {u : Value} {pos : Pos} {Q : Value → Shared → Prop} (I : Inv X pins σ H s) (hg : Gl X x) (hm : X.mg x = some u) (h : Q u s)
    (hd : (x == ("__debug__" : Str)) = false := by decide) : wpAny (model X.prog X.w) X.A (eval (.Name x pos) X.env) Q E s :=
  Calls.Name_function_global I.ok.kind hg (Calls.loadGlobal_global (by rw [I.ok.glob]; exact I.mod.glob.keeps I.bk) hm h) hd
theorem ld_blt {E : Value → Shared → Prop} {pins : List (Addr × Obj)} {s : Shared} {σ : St} {H : Hp} {x : Str} {u : Value} {pos : Pos} {Q : Value → Shared → Prop} (I : Inv X pins σ H s) (hg : Gl X x) (hm : X.mg x = none) (hv : bootBuiltins x = some u) (h : Q u s)
    (hn : x ≠ "__name__" := by decide) (hd : (x == ("__debug__" : Str)) = false := by decide) : wpAny (model X.prog X.w) X.A (eval (.Name x pos) X.env) Q E s := by
  obtain ⟨mb, h1, h2⟩ := I.mod.blt
  exact Calls.Name_function_global I.ok.kind hg (Calls.loadGlobal_builtin (by rw [I.ok.glob]; exact I.mod.glob.keeps I.bk) hm (by rw [I.ok.blt]; exact h1.keeps I.bk) ((h2 x hn).trans hv) h) hd
/-- a module's constant, a class, a function, as a value -/
theorem pe_glob {x : Str} {v : V} {u : Value} {pos : Pos} (hg : Gl X x) (hm : X.mg x = some u) (r : RelV v u) (hd : (x == ("__debug__" : Str)) = false := by decide) : PE X (.Name x pos) (tC v) :=
  fun _ _ _ H _ I h => ld_glob I hg hm ⟨v, H, I, r, h⟩ hd
theorem pe_bltn {x : Str} {v : V} {u : Value} {pos : Pos} (hg : Gl X x) (hm : X.mg x = none) (hv : bootBuiltins x = some u) (r : RelV v u) (hn : x ≠ "__name__" := by decide) (hd : (x == ("__debug__" : Str)) = false := by decide) : PE X (.Name x pos) (tC v) :=
  fun _ _ _ H _ I h => ld_blt I hg hm hv ⟨v, H, I, r, h⟩ hn hd

/-! ### arithmetic -/
/-- two ints -/
def t2I (ta tb : TE) (k : Int → Int → Hp → Prop) : St → Hp → Prop := fun σ H => ta σ H fun x H1 => tb σ H1 fun y H2 => ∃ i j, x = .int i ∧ y = .int j ∧ k i j H2
def tAdd (ta tb : TE) : TE := fun σ H Q => t2I ta tb (fun i j H2 => Q (.int (i + j)) H2) σ H
def tSub (ta tb : TE) : TE := fun σ H Q => t2I ta tb (fun i j H2 => Q (.int (i - j)) H2) σ H
/-- the left factor below 2^64 -/
def tMul (ta tb : TE) : TE := fun σ H Q => t2I ta tb (fun i j H2 => (-(2 ^ 64) < i ∧ i < 2 ^ 64) ∧ Q (.int (i * j)) H2) σ H
variable {a b : Expr} {ta tb : TE} {pos : Pos}

/-! ### comparisons -/
def PC (X : Cx) (op : CmpOp) (a b : Expr) (t : TE) : Prop :=
  ∀ (pins : List (Addr × Obj)) (s : Shared) (σ : St) (H : Hp) (Q : VK), Inv X pins σ H s → t σ H Q →
    wpAny (model X.prog X.w) X.A (eval a X.env) (fun v s₁ => wpAny (model X.prog X.w) X.A (eval b X.env) (fun u s₂ => wpAny (model X.prog X.w) X.A (compareOp op v u) (EP X pins σ Q) X.xe s₂) X.xe s₁) X.xe s
def tCmp (p : Int → Int → Bool) (ta tb : TE) : TE := fun σ H Q => t2I ta tb (fun i j H2 => Q (.bl (p i j)) H2) σ H
abbrev tLt : TE → TE → TE := tCmp fun i j => decide (i < j)
abbrev tLe : TE → TE → TE := tCmp fun i j => decide (i ≤ j)
abbrev tGt : TE → TE → TE := tCmp fun i j => decide (j < i)
abbrev tGe : TE → TE → TE := tCmp fun i j => decide (j ≤ i)
abbrev tEqI : TE → TE → TE := tCmp fun i j => decide (i = j)
abbrev tNeI : TE → TE → TE := tCmp fun i j => !decide (i = j)
/-- is None -/
def tIsN (ta : TE) : TE := fun σ H Q => ta σ H fun x H1 => Q (.bl (decide (x = .non))) H1
def tNotN (ta : TE) : TE := fun σ H Q => ta σ H fun x H1 => Q (.bl (!decide (x = .non))) H1
/-- a comparison as a value, as a test -/
def tB (t : TE) : TT := fun σ H Q => t σ H fun x H1 => ∃ c, x = .bl c ∧ Q c H1
/-- an expression whose value is a bool, as a test -/
theorem pt_val {e : Expr} {t : TE} (h : PE X e t) (he : ∀ whole, isTrue e X.env whole = (do let v ← whole; standAt e.pos; holding [v] (truthy v)) := by intro _; rfl) : PT X e (tB t) := by
  intro pins s σ H Q I hw
  refine isTrue_plain (thn (h pins s σ H _ I hw) fun v s1 ⟨x, H1, I1, r1, q1⟩ => ?_) (he _)
  obtain ⟨d, rfl, q⟩ := q1
  cases r1
  exact wpAny_truthy_bool ⟨H1, I1, q⟩

/-! ### and, or, not -/
variable {tA tB' : TT} {rest : List Expr}
def tAnd (t u : TT) : TT := fun σ H Q => t σ H fun c H1 => if c = true then u σ H1 Q else Q false H1
def tOr (t u : TT) : TT := fun σ H Q => t σ H fun c H1 => if c = true then Q true H1 else u σ H1 Q
def tNot (t : TT) : TT := fun σ H Q => t σ H fun c H1 => Q (!c) H1
theorem pw_and1 (ha : PT X a tA) : PW X (.BoolOp .And [a] pos) tA := by
  intro wh pins s σ H Q I h
  refine isTrue_and (thn (ha pins s σ H Q I h) fun c s1 e => ?_)
  cases c with
  | true => exact isTrue_and_nil e
  | false => exact e
theorem pw_or1 (ha : PT X a tA) : PW X (.BoolOp .Or [a] pos) tA := by
  intro wh pins s σ H Q I h
  refine isTrue_or (thn (ha pins s σ H Q I h) fun c s1 e => ?_)
  cases c with
  | false => exact isTrue_or_nil e
  | true => exact e
theorem pw_and (ha : PT X a tA) (hb : PW X (.BoolOp .And (b :: rest) pos) tB') : PW X (.BoolOp .And (a :: b :: rest) pos) (tAnd tA tB') := by
  intro wh pins s σ H Q I h
  refine isTrue_and (thn (ha pins s σ H _ I h) fun c s1 ⟨H1, I1, q1⟩ => ?_)
  cases c with
  | true => exact hb wh pins s1 σ H1 Q I1 q1
  | false => exact ⟨H1, I1, q1⟩
theorem pw_or (ha : PT X a tA) (hb : PW X (.BoolOp .Or (b :: rest) pos) tB') : PW X (.BoolOp .Or (a :: b :: rest) pos) (tOr tA tB') := by
  intro wh pins s σ H Q I h
  refine isTrue_or (thn (ha pins s σ H _ I h) fun c s1 ⟨H1, I1, q1⟩ => ?_)
  cases c with
  | true => exact ⟨H1, I1, q1⟩
  | false => exact hb wh pins s1 σ H1 Q I1 q1
theorem pt_not (ha : PT X a tA) : PT X (.UnaryOp .Not a pos) (tNot tA) := by
  intro pins s σ H Q I h
  exact isTrue_not (ha pins s σ H (fun c H1 => Q (!c) H1) I h)
/-- .. as values (bools) -/
def tAndV (ta tb : TE) : TE := fun σ H Q => ta σ H fun x H1 => ∃ c, x = .bl c ∧ if c = true then tb σ H1 Q else Q (.bl false) H1
def tOrV (ta tb : TE) : TE := fun σ H Q => ta σ H fun x H1 => ∃ c, x = .bl c ∧ if c = true then Q (.bl true) H1 else tb σ H1 Q
def tNotV (ta : TE) : TE := fun σ H Q => ta σ H fun x H1 => ∃ c, x = .bl c ∧ Q (.bl (!c)) H1
theorem pe_one {op} {t : TE} (h : PE X a t) : PE X (.BoolOp op [a] pos) t := fun pins s σ H Q I hw => BoolOp_one (h pins s σ H Q I hw)
theorem pe_and (ha : PE X a ta) (hb : PE X (.BoolOp .And (b :: rest) pos) tb) : PE X (.BoolOp .And (a :: b :: rest) pos) (tAndV ta tb) := by
  intro pins s σ H Q I h
  refine BoolOp_and (thn (ha pins s σ H _ I h) fun v s1 ⟨x, H1, I1, r1, q1⟩ => ?_)
  obtain ⟨c, rfl, q1⟩ := q1
  cases r1
  refine wpAny_truthy_bool ?_
  cases c with
  | true => exact hb pins s1 σ H1 Q I1 q1
  | false => exact ⟨.bl false, H1, I1, rfl, q1⟩
theorem pe_or (ha : PE X a ta) (hb : PE X (.BoolOp .Or (b :: rest) pos) tb) : PE X (.BoolOp .Or (a :: b :: rest) pos) (tOrV ta tb) := by
  intro pins s σ H Q I h
  refine BoolOp_or (thn (ha pins s σ H _ I h) fun v s1 ⟨x, H1, I1, r1, q1⟩ => ?_)
  obtain ⟨c, rfl, q1⟩ := q1
  cases r1
  refine wpAny_truthy_bool ?_
  cases c with
  | false => exact hb pins s1 σ H1 Q I1 q1
  | true => exact ⟨.bl true, H1, I1, rfl, q1⟩
theorem pe_not (ha : PE X a ta) : PE X (.UnaryOp .Not a pos) (tNotV ta) := by
  intro pins s σ H Q I h
  refine UnaryOp_ (thn (ha pins s σ H _ I h) fun v s1 ⟨x, H1, I1, r1, q1⟩ => ?_)
  obtain ⟨c, rfl, q1⟩ := q1
  cases r1
  exact not_of (wpAny_truthy_bool ⟨.bl (!c), H1, I1, rfl, q1⟩)
/-- a if t else b -/
def tIf (t : TT) (ta tb : TE) : TE := fun σ H Q => t σ H fun c H1 => if c = true then ta σ H1 Q else tb σ H1 Q
theorem pe_ifExp {c : Expr} (hc : PT X c tA) (ha : PE X a ta) (hb : PE X b tb) : PE X (.IfExp c a b pos) (tIf tA ta tb) := by
  intro pins s σ H Q I h
  refine wpAny_IfExp (thn (hc pins s σ H _ I h) fun d s1 ⟨H1, I1, q1⟩ => ?_)
  cases d with
  | true => exact ha pins s1 σ H1 Q I1 q1
  | false => exact hb pins s1 σ H1 Q I1 q1
end
end L2

namespace L2
open PySem PySem.Spec PyProof.Rows

/-! ### a list, a tuple that is read: tracked, frozen, or an object of the module -/
def SqL (K : PySem.W.Frag) (H : Hp) (a : Addr) (xs : List V) : Prop :=
  Rd H a (.lst xs) ∨
    ∃ (o : Obj) (its : Array Value) (n : Nat), K.lookup a = some o ∧ o.cls = .type "list" ∧ o.dict = none ∧ o.data = .seq its n ∧ its.size ≤ sizeLine ∧ Vals xs its.toList
def SqT (K : PySem.W.Frag) (H : Hp) (a : Addr) (xs : List V) : Prop :=
  Rd H a (.tup xs) ∨
    ∃ (o : Obj) (its : Array Value) (n : Nat), K.lookup a = some o ∧ o.cls = .type "tuple" ∧ o.data = .seq its n ∧ its.size ≤ sizeLine ∧ Vals xs its.toList
def absV : Value → Option V
  | .none => some .non
  | .bool b => some (.bl b)
  | .int i _ => some (.int i)
  | .str x _ => some (.str x)
  | .bytes b _ => some (.byt b)
  | .float b _ => some (.flt b)
  | .ref a => some (.ref a)
  | .type n => some (.ty n)
  | _ => none
theorem RelV.abs {x : V} {u : Value} (r : RelV x u) : absV u = some x := by
  cases x with
  | non => cases r; rfl
  | bl _ => cases r; rfl
  | int _ => obtain ⟨t, rfl⟩ := r; rfl
  | str _ => obtain ⟨t, rfl⟩ := r; rfl
  | byt _ => obtain ⟨t, rfl⟩ := r; rfl
  | flt _ => obtain ⟨t, rfl⟩ := r; rfl
  | ref _ => cases r; rfl
  | ty _ => cases r; rfl
theorem RelV.inj {x y : V} {u : Value} (r : RelV x u) (q : RelV y u) : x = y := Option.some.inj (r.abs.symm.trans q.abs)
theorem Vals.inj : ∀ {xs ys : List V} {us : List Value}, Vals xs us → Vals ys us → xs = ys
  | _, _, _, .nil, .nil => rfl
  | _, _, _, .cons r t, .cons r' t' => by rw [r.inj r', Vals.inj t t']
section
variable {X : Cx} {pins : List (Addr × Obj)} {σ : St} {H : Hp} {s : Shared} {a : Addr} {xs ys : List V}
theorem SqL.of {K : PySem.W.Frag} (h : H a = some (.lst xs)) : SqL K H a xs := .inl (.inl h)
theorem SqT.of {K : PySem.W.Frag} (h : H a = some (.tup xs)) : SqT K H a xs := .inl (.inl h)
theorem Inv.list (I : Inv X pins σ H s) (h : SqL X.K H a xs) : ∃ its : List Value, Vals xs its ∧ PlainL s.heap a its.toArray ∧ xs.length ≤ sizeLine := by
  rcases h with h | ⟨o, its, n, hk, hc, hd, hs, hz, r⟩
  · obtain ⟨z, its, n, r, e⟩ := h.ok I.hok
    exact ⟨its, r, ⟨_, n, e, rfl, rfl, rfl⟩, z⟩
  · refine ⟨its.toList, r, ⟨o, n, I.kIn a o hk, hc, hd, by simpa using hs⟩, ?_⟩
    have e := r.length
    simp only [Array.length_toList] at e
    omega
theorem Inv.tuple (I : Inv X pins σ H s) (h : SqT X.K H a xs) : ∃ its : List Value, Vals xs its ∧ IsTup s.heap a its.toArray ∧ xs.length ≤ sizeLine := by
  rcases h with h | ⟨o, its, n, hk, hc, hs, hz, r⟩
  · obtain ⟨z, its, r, p⟩ := h.ok I.hok
    exact ⟨its, r, p, z⟩
  · refine ⟨its.toList, r, ⟨o, I.kIn a o hk, hc, n, by simpa using hs⟩, ?_⟩
    have e := r.length
    simp only [Array.length_toList] at e
    omega
theorem Inv.list_inj (I : Inv X pins σ H s) (h : SqL X.K H a xs) (h' : SqL X.K H a ys) : xs = ys := by
  obtain ⟨its, r, ⟨o, n, e, _, _, d⟩, _⟩ := I.list h
  obtain ⟨its', r', ⟨o', n', e', _, _, d'⟩, _⟩ := I.list h'
  rw [e] at e'; cases e'
  rw [d] at d'
  injection d' with d1 _
  have : its = its' := by simpa using congrArg Array.toList d1
  subst this
  exact r.inj r'
end

/-! ### another wish about exceptions -/
abbrev Cx.wish (X : Cx) (E : Value → Shared → Prop) : Cx := { X with xe := E }
/-- no exception leaves -/
abbrev Cx.nox (X : Cx) : Cx := X.wish fun _ _ => False
theorem Cx.Ok.wish {X : Cx} (ok : X.Ok) (E : Value → Shared → Prop) : (X.wish E).Ok :=
  ⟨ok.mod, ok.kind, ok.glob, ok.blt, ok.above, ok.inj, ok.has, ok.cab, ok.hd, ok.frames, ok.stk, ok.exf, ok.bs, ok.bsz, ok.noex, ok.exfs, ok.funs, ok.frf⟩
theorem Cx.Ok.unwish {X : Cx} {E : Value → Shared → Prop} (ok : (X.wish E).Ok) : X.Ok :=
  ⟨ok.mod, ok.kind, ok.glob, ok.blt, ok.above, ok.inj, ok.has, ok.cab, ok.hd, ok.frames, ok.stk, ok.exf, ok.bs, ok.bsz, ok.noex, ok.exfs, ok.funs, ok.frf⟩
section
variable {X : Cx} {pins : List (Addr × Obj)} {σ : St} {H : Hp} {s : Shared} {E : Value → Shared → Prop}
theorem Inv.wish (I : Inv X pins σ H s) (E : Value → Shared → Prop) : Inv (X.wish E) pins σ H s := ⟨I.ok.wish E, I.os, I.bare, I.base, I.loc, I.cell, I.free, I.freeC, I.pin, I.hok, I.len⟩
theorem Inv.unwish (I : Inv (X.wish E) pins σ H s) : Inv X pins σ H s := ⟨I.ok.unwish, I.os, I.bare, I.base, I.loc, I.cell, I.free, I.freeC, I.pin, I.hok, I.len⟩
theorem SP.unwish {D : Ends} {f : Flow} {s' : Shared} (h : SP (X.wish E) pins D f s') : SP X pins D f s' := by
  cases f with
  | next => obtain ⟨σ', H', I, q⟩ := h; exact ⟨σ', H', I.unwish, q⟩
  | brk => obtain ⟨σ', H', I, q⟩ := h; exact ⟨σ', H', I.unwish, q⟩
  | cont => obtain ⟨σ', H', I, q⟩ := h; exact ⟨σ', H', I.unwish, q⟩
  | ret u => obtain ⟨v, σ', H', I, r, q⟩ := h; exact ⟨v, σ', H', I.unwish, r, q⟩
theorem PSs.nox {st : List Stmt} {t : TS} (h : PSs X.nox st t) : PSs X st t := fun pins s σ H D I hw =>
  wpAny_mono (h pins s σ H D (I.wish _) hw) (fun _ _ q => q.unwish) fun _ _ z => False.elim z
end

/-! ### blocks and small statements -/
section
variable {X : Cx} {st : Stmt} {rest : List Stmt} {t u : TS} {e : Expr} {te : TE} {pos : Pos}
def tNext : TS := fun D σ H => D.nx σ H
def tSeq (t u : TS) : TS := fun D σ H => t { D with nx := u D } σ H
theorem pss_nil : PSs X [] tNext := fun _ _ σ H _ I h => wpAny_execs_nil ⟨σ, H, I, h⟩
theorem pss_cons (h1 : PS X st t) (h2 : PSs X rest u) : PSs X (st :: rest) (tSeq t u) := by
  intro pins s σ H D I h
  refine wpAny_execs_cons (thn (h1 pins s σ H { D with nx := u D } I h) fun f s1 q => ?_)
  cases f with
  | next =>
    obtain ⟨σ', H', I', q⟩ := q
    exact h2 pins s1 σ' H' D I' q
  | ret v => exact q
  | brk => exact q
  | cont => exact q
theorem pss_one (h1 : PS X st t) : PSs X [st] t := by
  intro pins s σ H D I h
  refine wpAny_execs_cons (thn (h1 pins s σ H D I h) fun f s1 q => ?_)
  cases f with
  | next => exact wpAny_execs_nil q
  | ret v => exact q
  | brk => exact q
  | cont => exact q
def tBreak : TS := fun D σ H => D.bk σ H
def tCont : TS := fun D σ H => D.ct σ H
theorem ps_pass : PS X (.Pass pos) tNext := fun _ _ σ H _ I h => wpAny_Pass ⟨σ, H, I, h⟩
/-- in a def's body nothing is shown -/
theorem Inv.quiet {pins : List (Addr × Obj)} {σ : St} {H : Hp} {s : Shared} (I : Inv X pins σ H s) : interactive X.env = false := by simp [interactive, I.ok.kind]
/-- an expression whose value is dropped -/
def tDrop (te : TE) : TS := fun D σ H => te σ H fun _ H1 => D.nx σ H1
theorem ps_expr (he : PE X e te) (hs : swapsWith e none pos.line X.env = pure false := by rfl) : PS X (.Expr e pos) (tDrop te) := by
  intro pins s σ H D I h
  exact wpAny_Expr_any (thn (he pins s σ H _ I h) fun v s1 ⟨x, H1, I1, r1, q1⟩ => ⟨σ, H1, I1, q1⟩) I.quiet hs
def tRet (te : TE) : TS := fun D σ H => te σ H D.rt
theorem ps_ret (he : PE X e te) : PS X (.Return (some e) pos) (tRet te) := by
  intro pins s σ H D I h
  exact wpAny_Return_some (thn (he pins s σ H _ I h) fun v s1 ⟨x, H1, I1, r1, q1⟩ => ⟨x, σ, H1, I1, r1, q1⟩)
def tRetN : TS := fun D _ H => D.rt .non H
def tIfS (c : TT) (t u : TS) : TS := fun D σ H => c σ H fun b H1 => if b = true then t D σ H1 else u D σ H1
theorem ps_if {c : Expr} {a b : List Stmt} {tc : TT} (hc : PT X c tc) (ha : PSs X a t) (hb : PSs X b u) : PS X (.If c a b pos) (tIfS tc t u) := by
  intro pins s σ H D I h
  refine wpAny_If (thn (hc pins s σ H _ I h) fun d s1 ⟨H1, I1, q1⟩ => ?_)
  cases d with
  | true => exact ha pins s1 σ H1 D I1 q1
  | false => exact hb pins s1 σ H1 D I1 q1
/-- code that the proof never comes to -/
def tNever : TS := fun _ _ _ => False
theorem ps_never : PS X st tNever := fun _ _ _ _ _ _ h => h.elim
theorem pss_never {sts : List Stmt} : PSs X sts tNever := fun _ _ _ _ _ _ h => h.elim
end

/-! ### targets -/
abbrev TG := V → St → Hp → (St → Hp → Prop) → Prop
abbrev TGs := List V → St → Hp → (St → Hp → Prop) → Prop
def PG (X : Cx) (target : Expr) (t : TG) : Prop :=
  ∀ (pins : List (Addr × Obj)) (s : Shared) (σ : St) (H : Hp) (v : V) (u : Value) (Q : St → Hp → Prop), Inv X pins σ H s → RelV v u → t v σ H Q →
    wpAny (model X.prog X.w) X.A (assign target X.env u) (fun _ s' => ∃ σ' H', Inv X pins σ' H' s' ∧ Q σ' H') X.xe s
/-- several targets, one after another -/
def PGs (X : Cx) (ts : List Expr) (t : TGs) : Prop :=
  ∀ (pins : List (Addr × Obj)) (s : Shared) (σ : St) (H : Hp) (vs : List V) (us : List Value) (Q : St → Hp → Prop), Inv X pins σ H s → Vals vs us → t vs σ H Q →
    wpAny (model X.prog X.w) X.A (assignInOrder ((assignEach ts X.env).map (·.2)) us) (fun _ s' => ∃ σ' H', Inv X pins σ' H' s' ∧ Q σ' H') X.xe s
/-- o[i] = v, by values -/
abbrev TSet := V → V → V → Hp → (Hp → Prop) → Prop
def PSet (X : Cx) (t : TSet) : Prop :=
  ∀ (pins : List (Addr × Obj)) (s : Shared) (σ : St) (H : Hp) (o i v : V) (ov iv u : Value) (Q : Hp → Prop), Inv X pins σ H s → RelV o ov → RelV i iv → RelV v u → t o i v H Q →
    wpAny (model X.prog X.w) X.A (setItem ov iv u) (fun _ s' => ∃ H', Inv X pins σ H' s' ∧ Q H') X.xe s
/-- a op= b, by values -/
abbrev TIp := V → V → Hp → VK → Prop
def PIp (X : Cx) (op : Operator) (t : TIp) : Prop :=
  ∀ (pins : List (Addr × Obj)) (s : Shared) (σ : St) (H : Hp) (x y : V) (v u : Value) (Q : VK), Inv X pins σ H s → RelV x v → RelV y u → t x y H Q →
    wpAny (model X.prog X.w) X.A (inplaceOp op v u) (EP X pins σ Q) X.xe s
section
variable {X : Cx} {pos : Pos}
def gName (i : Nat) : TG := fun v σ H Q => Q (σ.set i (some v)) H
theorem pg_name {i : Nat} {x : Str} (hN : X.N.Nodup) (hi : X.N[i]? = some x) (hx : Loc X.env.scope x) (hf : X.fn x = true ∨ X.env.scope.names.lookup x = some .local := by first | exact .inl rfl | exact .inr rfl | assumption) : PG X (.Name x pos) (gName i) := by
  intro pins s σ H v u Q I r h
  exact wpAny_assign_Name (store_ok I hN hi hx r (fun s' I' => ⟨_, H, I', h⟩) hf)
def gNil : TGs := fun vs σ H Q => vs = [] ∧ Q σ H
def gCons (t : TG) (u : TGs) : TGs := fun vs σ H Q => ∃ v r, vs = v :: r ∧ t v σ H fun σ' H' => u r σ' H' Q
theorem pgs_nil : PGs X [] gNil := by
  intro pins s σ H vs us Q I r h
  obtain ⟨e, h⟩ := h
  subst e
  cases r
  exact assignInOrder_nil ⟨σ, H, I, h⟩
theorem pgs_cons {e : Expr} {es : List Expr} {t : TG} {u : TGs} (h1 : PG X e t) (h2 : PGs X es u)
    (hs : (assignEach (e :: es) X.env).map (·.2) = assign e X.env :: (assignEach es X.env).map (·.2) := by rfl) : PGs X (e :: es) (gCons t u) := by
  intro pins s σ H vs us Q I r h
  obtain ⟨v, vr, e1, h⟩ := h
  subst e1
  cases r with
  | cons r rr =>
    rw [hs]
    refine assignInOrder_cons (thn (h1 pins s σ H _ _ _ I r h) fun _ s1 ⟨σ1, H1, I1, q1⟩ => ?_)
    exact h2 pins s1 σ1 H1 _ _ Q I1 rr q1
/-- (a, b, ..) = a tuple of that length -/
def gTup (K : PySem.W.Frag) (n : Nat) (t : TGs) : TG := fun v σ H Q => ∃ a xs, v = .ref a ∧ SqT K H a xs ∧ xs.length = n ∧ t xs σ H Q
theorem pg_tup {es : List Expr} {k : Nat} {t : TGs} {n : Nat} (hc : X.calm = true) (h : PGs X es t)
    (hn : (assignEach es X.env).length = n := by rfl) (hst : (assignEach es X.env).findIdx? (·.1) = none := by rfl) : PG X (.Tuple es k pos) (gTup X.K n t) := by
  intro pins s σ H v u Q I r hw
  obtain ⟨a, xs, e1, hq, hl, hw⟩ := hw
  subst e1
  cases r
  obtain ⟨its, rv, ht, hz⟩ := I.tuple hq
  refine assign_Tuple_tuple (I.ok.hd hc) ht (by simp [hn, ← hl, rv.length]) hst fun h' hx => ?_
  have I1 : Inv X pins σ H { s with heap := h' } := I.kept (t' := s.toks) fun b o e => hx b o (Nat.ne_of_lt (Heap.lt_size e)) e
  exact h pins _ σ H xs _ Q I1 (by simpa using rv) hw
/-- o[i] = .. -/
def gSub (to ti : TE) (t : TSet) : TG := fun v σ H Q => to σ H fun o H1 => ti σ H1 fun i H2 => t o i v H2 fun H3 => Q σ H3
theorem pg_sub {o i : Expr} {to ti : TE} {t : TSet} (ho : PE X o to) (hi : PE X i ti) (hs : PSet X t)
    (ha : ∀ v, assign (.Subscript o i pos) X.env v = (do
      let ov ← holding [v] (eval o X.env)
      let iv ← holding [v, ov] (eval i X.env)
      standAt pos
      holding [v, ov, iv] (setItem ov iv v)
      release [v, ov, iv] []) := by intro _; rfl) : PG X (.Subscript o i pos) (gSub to ti t) := by
  intro pins s σ H v u Q I r h
  rw [ha]
  refine wpAny_bind (wpAny_holding (thn (ho pins s σ H _ I h) fun ov s1 ⟨x, H1, I1, r1, q1⟩ => ?_))
  refine wpAny_bind (wpAny_holding (thn (hi pins s1 σ H1 _ I1 q1) fun iv s2 ⟨y, H2, I2, r2, q2⟩ => ?_))
  refine wpAny_bind (wpAny_standAt (wpAny_bind (wpAny_holding (thn (hs pins s2 σ H2 x y v ov iv u _ I2 r1 r2 r q2) fun _ s3 ⟨H3, I3, q3⟩ => ?_))))
  exact wpAny_release ⟨σ, H3, I3, q3⟩
/-- target = value -/
def tAsg (te : TE) (g : TG) : TS := fun D σ H => te σ H fun x H1 => g x σ H1 D.nx
theorem ps_asg {tg e : Expr} {te : TE} {g : TG} (he : PE X e te) (hg : PG X tg g) (hs : swapsWithSole [tg] e pos.line X.env = pure false := by rfl) (hw : swappedStores [tg] e X.env = pure none := by rfl)
    (h1 : (assignEach [tg] X.env).map (·.2) = [assign tg X.env] := by rfl) : PS X (.Assign [tg] e pos) (tAsg te g) := by
  intro pins s σ H D I h
  refine wpAny_Assign_stores (thn (he pins s σ H _ I h) fun v s1 ⟨x, H1, I1, r1, q1⟩ => ?_) hs hw
  rw [h1]
  exact thn (hg pins s1 σ H1 x v _ I1 r1 q1) fun _ s2 q => q
/-- name = value -/
theorem ps_set {i : Nat} {x : Str} {e : Expr} {te : TE} {pos' : Pos} (hN : X.N.Nodup) (hi : X.N[i]? = some x) (hx : Loc X.env.scope x) (he : PE X e te) (hs : swapsWith e (some (.Name x pos')) pos.line X.env = pure false := by rfl) (hf : X.fn x = true ∨ X.env.scope.names.lookup x = some .local := by first | exact .inl rfl | exact .inr rfl | assumption) :
    PS X (.Assign [.Name x pos'] e pos) (tAsg te (gName i)) := by
  intro pins s σ H D I h
  refine wpAny_Assign_Name (thn (he pins s σ H _ I h) fun v s1 ⟨y, H1, I1, r1, q1⟩ => ?_) hs
  exact store_ok I1 hN hi hx r1 (fun s2 I2 => ⟨_, H1, I2, q1⟩) hf
/-- a, b = x, y with plain local names: stored from the right; the pair itself is not tracked (the opening rows as in PyProof/Rows/TupAssign.lean:23) -/
def tPar (i j : Nat) (ta : TA) : TS := fun D σ H => ta σ H fun vs H1 => ∃ v w, vs = [v, w] ∧ D.nx ((σ.set i (some v)).set j (some w)) H1
theorem ps_par {i j : Nat} {x y : Str} {a b : Expr} {ta : TA} {px py pt : Pos} {kt k2 pt2} (hc : X.calm = true) (hN : X.N.Nodup) (hi : X.N[i]? = some x) (hj : X.N[j]? = some y) (hij : i ≠ j)
    (hx : X.env.scope.names.lookup x = some .local) (hy : X.env.scope.names.lookup y = some .local) (ha : PA X [a, b] ta)
    (hw : swappedStores [.Tuple [.Name x px, .Name y py] kt pt] (.Tuple [a, b] k2 pt2) X.env = pure (some [x, y]))
    (hs : swapsWithSole [.Tuple [.Name x px, .Name y py] kt pt] (.Tuple [a, b] k2 pt2) pos.line X.env = pure false := by rfl) :
    PS X (.Assign [.Tuple [.Name x px, .Name y py] kt pt] (.Tuple [a, b] k2 pt2) pos) (tPar i j ta) := by
  intro pins s σ H D I h
  rw [exec_Assign_arm]
  refine wpAny_bind (wpAny_standAt ?_)
  rw [hs]
  refine wpAny_bind (wpAny_pure ?_)
  rw [if_neg (by decide)]
  refine wpAny_bind (Tuple_ (thn (ha _ pins s σ H _ I h) fun us s1 ⟨vs, H1, I1, r1, q1⟩ => ?_))
  obtain ⟨v, w, e1, q1⟩ := q1
  subst e1
  obtain ⟨u1, u2, rfl, rv, rw'⟩ : ∃ u1 u2, us = [u1, u2] ∧ RelV v u1 ∧ RelV w u2 := by
    cases r1 with
    | cons p q =>
      cases q with
      | cons p' q' =>
        cases q'
        exact ⟨_, _, rfl, p, p'⟩
  refine wpAny_newObj_type ?_ (by show 2 ≤ sizeLine; decide)
  have I2 : Inv X pins σ H1 { s1 with heap := s1.heap.push { cls := .type "tuple", data := .seq [u1, u2].toArray } } := I1.kept (t' := s1.toks) fun b o e => Heap.get?_push_of_some _ e
  rw [hw]
  refine wpAny_bind (wpAny_pure ?_)
  show wpAny (model X.prog X.w) X.A (do rule "assign.swapped-stores"; let items ← unpackItems (.ref s1.heap.objs.size) 2 none; assignInOrder [fun v => bindName X.env y v, fun v => bindName X.env x v] items.reverse; pure Flow.next) _ _ _
  refine wpAny_bind (wpAny_rule (wpAny_bind (unpackItems_tuple (items := #[u1, u2]) (I.ok.hd hc) (IsTup.new s1.heap _) fun h' hx' => ?_)))
  have I3 := I2.kept (h' := h') (t' := s1.toks) fun b o e => hx' b o (Nat.ne_of_lt (Heap.lt_size e)) e
  show wpAny _ _ (assignInOrder [fun v => bindName X.env y v, fun v => bindName X.env x v] [u2, u1] >>= fun _ => pure Flow.next) _ _ _
  refine wpAny_bind (assignInOrder_cons (wpAny_bindName (store_ok I3 hN hj (.inl hy) rw' (fun s2 I4 => ?_) (.inr hy))))
  refine assignInOrder_cons (wpAny_bindName (store_ok I4 hN hi (.inl hx) rv (fun s3 I5 => assignInOrder_nil (wpAny_pure ?_)) (.inr hx)))
  rw [List.set_comm _ _ (Ne.symm hij)] at I5
  exact ⟨_, H1, I5, q1⟩
/-- name op= e -/
def tAug (i : Nat) (te : TE) (ti : TIp) : TS := fun D σ H => ∃ x, σ[i]? = some (some x) ∧ te σ H fun y H1 => ti x y H1 fun z H2 => D.nx (σ.set i (some z)) H2
theorem ps_aug {i : Nat} {x : Str} {e : Expr} {te : TE} {op : Operator} {ti : TIp} {pos' : Pos} (hN : X.N.Nodup) (hi : X.N[i]? = some x) (hx : Loc X.env.scope x) (he : PE X e te) (ho : PIp X op ti) (hf : X.fn x = true ∨ X.env.scope.names.lookup x = some .local := by first | exact .inl rfl | exact .inr rfl | assumption) :
    PS X (.AugAssign (.Name x pos') op e pos) (tAug i te ti) := by
  intro pins s σ H D I h
  obtain ⟨v, e1, h⟩ := h
  obtain ⟨m, hn, hl⟩ := I.loc
  have vis : Vis X.env.scope x := by rcases hx with k | k; exact .inl k; exact .inr (.inl k)
  obtain ⟨u, r, l⟩ := hl i x v hi e1 vis
  refine wpAny_AugAssign_Name ?_
  have go : wpAny (model X.prog X.w) X.A (eval e X.env) (fun w s₂ => wpAny (model X.prog X.w) X.A (inplaceOp op u w) (fun r s₃ => wpAny (model X.prog X.w) X.A (storeName X.env x r) (fun _ => SP X pins D .next) X.xe s₃) X.xe s₂) X.xe s := by
    refine thn (he pins s σ H _ I h) fun w s1 ⟨y, H1, I1, r1, q1⟩ => ?_
    refine thn (ho pins s1 σ H1 v y u w _ I1 r r1 q1) fun z s2 ⟨zv, H2, I2, r2, q2⟩ => ?_
    exact store_ok I2 hN hi hx r2 (fun s3 I3 => ⟨_, H2, I3, q2⟩) hf
  rcases l with ⟨hk, hm⟩ | ⟨hk, c, hc, hcell⟩
  · exact wpAny_loadName_local I.ok.kind hk hn hm go
  · rcases hk with hk | hk
    · exact wpAny_loadName_cell I.ok.kind hk hc hcell go
    · rcases hx with k | k
      · have : X.env.scope.names.lookup x = some .free := hk
        rw [k] at this; cases this
      · have : X.env.scope.names.lookup x = some .free := hk
        rw [k] at this; cases this
/-- o[i] op= e -/
def tAugS (to ti te : TE) (tget : V → V → Hp → VK → Prop) (tip : TIp) (tset : TSet) : TS := fun D σ H => to σ H fun o H1 => ti σ H1 fun i H2 => tget o i H2 fun x H3 => te σ H3 fun y H4 => tip x y H4 fun z H5 => tset o i z H5 fun H6 => D.nx σ H6
/-- o[i], by values -/
def PGet (X : Cx) (t : V → V → Hp → VK → Prop) : Prop :=
  ∀ (pins : List (Addr × Obj)) (s : Shared) (σ : St) (H : Hp) (o i : V) (ov iv : Value) (Q : VK), Inv X pins σ H s → RelV o ov → RelV i iv → t o i H Q →
    wpAny (model X.prog X.w) X.A (getItem ov iv) (EP X pins σ Q) X.xe s
/-- ints -/
def ipI (f : Int → Int → Int) : TIp := fun x y H Q => ∃ i j, x = .int i ∧ y = .int j ∧ Q (.int (f i j)) H
end

/-! ### while -/
section
variable {X : Cx} {pos : Pos}
/-- the invariant W with its measure -/
def tWhile (c : TT) (tb : TS) : TS := fun D σ H => ∃ W : Nat → St → Hp → Prop, (∃ m, W m σ H) ∧ ∀ m σ H, W m σ H →
  c σ H fun b H1 => if b = true then ∃ N : St → Hp → Prop, (∀ σ' H', N σ' H' → ∃ m', m' < m ∧ W m' σ' H') ∧ tb { D with nx := N, ct := N, bk := D.nx } σ H1 else D.nx σ H1
theorem ps_while {c : Expr} {body : List Stmt} {tc : TT} {tb : TS} (hp : PassesOwn (model X.prog X.w) X.A X.env X.xe) (hc : PT X c tc) (hb : PSs X body tb) : PS X (.While c body [] pos) (tWhile tc tb) := by
  intro pins s σ H D I h
  obtain ⟨W, ⟨m0, w0⟩, turn⟩ := h
  refine wpAny_While (codeAny_whileLoop (fun n s' => ∃ σ' H', Inv X pins σ' H' s' ∧ W n σ' H') ?_ m0 ⟨σ, H, I, w0⟩)
  rintro n s1 ⟨σ1, H1, I1, w1⟩
  refine wpAny_passesOwn hp (thn (hc pins s1 σ1 H1 _ I1 (turn n σ1 H1 w1)) fun b s2 ⟨H2, I2, q2⟩ => ?_)
  cases b with
  | true =>
    obtain ⟨N, hN, q2⟩ := q2
    rw [if_pos rfl]
    refine wpAny_passesOwn hp (thn (hb pins s2 σ1 H2 _ I2 q2) fun f s3 q3 => ?_)
    cases f with
    | next =>
      obtain ⟨σ3, H3, I3, n3⟩ := q3
      obtain ⟨m', hm, w3⟩ := hN σ3 H3 n3
      exact ⟨m', hm, σ3, H3, I3, w3⟩
    | cont =>
      obtain ⟨σ3, H3, I3, n3⟩ := q3
      obtain ⟨m', hm, w3⟩ := hN σ3 H3 n3
      exact ⟨m', hm, σ3, H3, I3, w3⟩
    | brk => exact q3
    | ret v => exact q3
  | false =>
    rw [if_neg Bool.false_ne_true]
    exact wpAny_execs_nil ⟨σ1, H2, I2, q2⟩
end

/-! ### what a loop or a comprehension walks -/
/-- at turn i: it yields x (the heap may grow), or it stops -/
structure It where
  go : Nat → Hp → Prop
  yld : Nat → Hp → V → Hp → Prop
  stop : Nat → Hp → Prop
/-- the iterator's own objects may turn: they are not the frame's, not pinned, younger than the entry (or a comprehension's own) -/
def FpOk (X : Cx) (pins : List (Addr × Obj)) (H : Hp) (b : Addr) : Prop :=
  H b = none ∧ b ≠ X.env.locals ∧ b ∉ X.fs ∧ (b ∈ X.ex ∨ X.s₀.heap.objs.size ≤ b) ∧ (∀ x c, X.env.cells.lookup x = some c → c ≠ b) ∧ ∀ p ∈ X.pn ++ pins, p.1 ≠ b
theorem Inv.fpOk {X : Cx} {pins : List (Addr × Obj)} {σ : St} {H H' : Hp} {s : Shared} {b : Addr} (I : Inv X pins σ H s) (hb : s.heap.objs.size ≤ b) (hn : H' b = none) : FpOk X pins H' b := by
  refine ⟨hn, Nat.ne_of_gt (Nat.lt_of_lt_of_le I.lt hb), I.nofs hb, .inr (Nat.le_trans I.sz hb), fun x c e z => ?_, fun p hp z => ?_⟩
  · obtain ⟨v, q⟩ := I.cell x c e
    exact absurd (Nat.lt_of_lt_of_le q.lt (by rw [z]; exact hb)) (Nat.lt_irrefl _)
  · exact absurd (Nat.lt_of_lt_of_le (Heap.lt_size (I.pin p hp).1) (by rw [z]; exact hb)) (Nat.lt_irrefl _)
structure Turn (P : Program) (w : World) (K : PySem.W.Frag) (tg : Expr) (J : It) (fp : List Addr) (it : Addr) (tn : Nat → Heap → Prop) : Prop where
  mem : it ∈ fp
  obj : ∀ i h, tn i h → ∀ b ∈ fp, ∃ o, h.get? b = some o ∧ ∀ v, o.data ≠ .cell v
  keep : ∀ i h h', tn i h → (∀ b ∈ fp, ∀ o, h.get? b = some o → h'.get? b = some o) → tn i h'
  item : ∀ (X : Cx), X.prog = P → X.w = w → X.K = K → X.calm = true → ∀ (i : Nat) (pins : List (Addr × Obj)) (s : Shared) (σ : St) (H : Hp) (E : Value → Shared → Prop), Inv X pins σ H s → (∀ b ∈ fp, FpOk X pins H b) → tn i s.heap → J.go i H →
    wpAny (model P w) X.A (pyNext (.ref it)) (fun r s1 => ∃ u, r = some u ∧
      wpAny (model P w) X.A (letOwnedTupleGo tg (.ref it) u) (fun _ s2 => ∃ x H', Inv X pins σ H' s2 ∧ RelV x u ∧ J.yld i H x H' ∧ tn (i + 1) s2.heap ∧ ∀ b ∈ fp, H' b = none) E s1) E s
  done : ∀ (X : Cx), X.prog = P → X.w = w → X.K = K → X.calm = true → ∀ (i : Nat) (pins : List (Addr × Obj)) (s : Shared) (σ : St) (H : Hp) (E : Value → Shared → Prop), Inv X pins σ H s → (∀ b ∈ fp, FpOk X pins H b) → tn i s.heap → J.stop i H →
    wpAny (model P w) X.A (pyNext (.ref it)) (fun r s1 => r = none ∧ Inv X pins σ H s1) E s
  self : ∀ (A : Around) (i : Nat) (s : Shared) (Q : Value → Shared → Prop) (E : Value → Shared → Prop), tn i s.heap → Q (.ref it) s → wpAny (model P w) A (pyIter (.ref it)) Q E s
abbrev TI := St → Hp → (It → Hp → Prop) → Prop
/-- an iterator has come -/
def PIE (X : Cx) (pins : List (Addr × Obj)) (σ : St) (tg : Expr) (R : It → Hp → Prop) (itv : Value) (s2 : Shared) : Prop :=
  ∃ (it : Addr) (fp : List Addr) (tn : Nat → Heap → Prop) (J : It) (H' : Hp), itv = .ref it ∧ Inv X pins σ H' s2 ∧ Turn X.prog X.w X.K tg J fp it tn ∧ tn 0 s2.heap ∧ (∀ b ∈ fp, FpOk X pins H' b) ∧ R J H'
def PI (X : Cx) (tg iter : Expr) (wi : TI) : Prop :=
  ∀ (pins : List (Addr × Obj)) (s : Shared) (σ : St) (H : Hp) (R : It → Hp → Prop), Inv X pins σ H s → wi σ H R →
    wpAny (model X.prog X.w) X.A (eval iter X.env) (fun v s1 => wpAny (model X.prog X.w) X.A (pyIter v) (PIE X pins σ tg R) X.xe s1) X.xe s

/-- the step ahead of the store is nothing for an iterator that keeps no tuple -/
theorem go_of {M : Model} {A : Around} {E : Value → Shared → Prop} {s : Shared} {tg : Expr} {it : Addr} {u : Value} {o : Obj} {n : String} {vs : Array Value} {Q : Unit → Shared → Prop} (ho : s.heap.get? it = some o) (hc : o.cls = .type n) (hd : o.data = .fields vs)
    (hn : ["enumerate", "zip", "dict_itemiterator", "dict_reverseitemiterator", "odict_iterator", "itertools.zip_longest", "itertools.pairwise"].contains n = false) (hQ : Q () s) : wpAny M A (letOwnedTupleGo tg (.ref it) u) Q E s := by
  unfold letOwnedTupleGo
  cases tg <;> first
    | exact wpAny_pure hQ
    | (cases u <;> first
        | exact wpAny_pure hQ
        | (refine wpAny_bind (wpAny_load ho ?_)
           rw [hc, hd]
           show wpAny M A (if (["enumerate", "zip", "dict_itemiterator", "dict_reverseitemiterator", "odict_iterator", "itertools.zip_longest", "itertools.pairwise"].contains n && vs[0]? == some (rawInt _)) = true then _ else _) Q E s
           rw [if_neg (by intro h; rw [hn, Bool.false_and] at h; cases h)]
           exact wpAny_pure hQ))

/-- the list at a, as it stands at each turn (a loop may append to it) -/
def Itl (K : PySem.W.Frag) (a : Addr) : It :=
  ⟨fun i H => ∃ xs x, SqL K H a xs ∧ xs[i]? = some x, fun i H x H' => H' = H ∧ ∀ xs, SqL K H a xs → xs[i]? = some x, fun i H => ∃ xs, SqL K H a xs ∧ xs.length ≤ i⟩
def Itt (K : PySem.W.Frag) (a : Addr) : It :=
  ⟨fun i H => ∃ xs x, SqT K H a xs ∧ xs[i]? = some x, fun i H x H' => H' = H ∧ ∀ xs, SqT K H a xs → xs[i]? = some x, fun i H => ∃ xs, SqT K H a xs ∧ xs.length ≤ i⟩
/-- lo, lo + 1, .. (n of them) -/
def Itr (lo : Int) (n : Nat) : It := ⟨fun i _ => i < n, fun i H x H' => H' = H ∧ x = .int (lo + i), fun i _ => n ≤ i⟩
theorem turn_list {P : Program} {w : World} {K : PySem.W.Frag} {tg : Expr} (a it : Addr) : Turn P w K tg (Itl K a) [it] it (fun i h => h.IsListIter it a i) where
  mem := by simp
  obj := fun i h st b hb => by
    have e : b = it := by simpa using hb
    subst e
    obtain ⟨o, e, c, d⟩ := st
    exact ⟨o, e, fun v z => by rw [d] at z; cases z⟩
  keep := fun i h h' st k => st.at fun o e => k it (by simp) o e
  item := by
    intro X hP hw hK hc i pins s σ H E I hf st hg
    subst hP hw hK
    obtain ⟨xs, x, hq, hx⟩ := hg
    obtain ⟨its, rv, p, hz⟩ := I.list hq
    obtain ⟨u, hu, ru⟩ := rv.get hx
    obtain ⟨f0, f1, f2, f3, f4, f5⟩ := hf it (by simp)
    refine wpAny_pyNext_list_item st p.isList (x := u) (by simpa using hu) fun h' st' sb => ?_
    have I1 : Inv X pins σ H { s with heap := h' } := I.turned (t' := s.toks) (fun b o hb e => (sb.2 b hb).trans e) f0 f1 f3 f4 f5
    obtain ⟨o, e, c, d⟩ := id st'
    exact ⟨u, rfl, go_of (s := { s with heap := h' }) e c d (by decide) ⟨x, H, I1, ru, ⟨rfl, fun ys hy => by rw [I.list_inj hy hq]; exact hx⟩, st', fun b hb => (hf b hb).1⟩⟩
  done := by
    intro X hP hw hK hc i pins s σ H E I hf st hg
    subst hP hw hK
    obtain ⟨xs, hq, hx⟩ := hg
    obtain ⟨its, rv, p, hz⟩ := I.list hq
    obtain ⟨f0, f1, f2, f3, f4, f5⟩ := hf it (by simp)
    have hl := rv.length
    exact wpAny_pyNext_list_end (I.ok.hd hc) st p.isList (by simp; omega) fun h' eb => ⟨rfl, I.turned (t' := s.toks) (fun b o hb e => eb b o hb e) f0 f1 f3 f4 f5⟩
  self := fun _ _ _ _ _ st h => wpAny_pyIter_listiter st h
end L2

namespace L2
open PySem PySem.Spec PyProof.Rows
section
variable {X : Cx} {tg : Expr}
def iList (K : PySem.W.Frag) (tl : TE) : TI := fun σ H R => tl σ H fun x H1 => ∃ a, x = .ref a ∧ (∃ xs, SqL K H1 a xs) ∧ R (Itl K a) H1
def iTup (K : PySem.W.Frag) (tl : TE) : TI := fun σ H R => tl σ H fun x H1 => ∃ a, x = .ref a ∧ (∃ xs, SqT K H1 a xs) ∧ R (Itt K a) H1
theorem pi_list {l : Expr} {tl : TE} (hl : PE X l tl) : PI X tg l (iList X.K tl) := by
  intro pins s σ H R I h
  refine thn (hl pins s σ H _ I h) fun v s1 ⟨x, H1, I1, r1, q1⟩ => ?_
  obtain ⟨a, e, ⟨xs, hq⟩, q⟩ := q1
  subst e
  cases r1
  obtain ⟨its, rv, p, hz⟩ := I1.list hq
  refine wpAny_pyIter_list p.isList ?_
  refine ⟨s1.heap.objs.size, [s1.heap.objs.size], _, _, H1, rfl, I1.kept (t' := s1.toks) fun b o e => Heap.get?_push_of_some _ e, turn_list a _, ⟨_, Heap.get?_push_size _ rfl, rfl, rfl⟩, fun b hb => ?_, q⟩
  have e : b = s1.heap.objs.size := by simpa using hb
  subst e
  exact I1.fpOk (Nat.le_refl _) (I1.hok.fresh (Nat.le_refl _))
def iRng1 (ta : TA) : TI := fun σ H R => ta σ H fun vs H1 => ∃ j : Int, vs = [.int j] ∧ -(2 ^ 62) ≤ j ∧ j < 2 ^ 62 ∧ R (Itr 0 j.toNat) H1
def iRng2 (ta : TA) : TI := fun σ H R => ta σ H fun vs H1 => ∃ i j : Int, vs = [.int i, .int j] ∧ (-(2 ^ 62) ≤ i ∧ i < 2 ^ 62 ∧ -(2 ^ 62) ≤ j ∧ j < 2 ^ 62) ∧ R (Itr i (j - i).toNat) H1

/-! ### for -/
/-- W: the invariant by the turn and a measure; N: what the body is to reach -/
def tFor (wi : TI) (g : TG) (tb : TS) : TS := fun D σ H => wi σ H fun J H1 => ∃ W : Nat → Nat → St → Hp → Prop, (∃ m, W 0 m σ H1) ∧ ∀ i m σ H, W i m σ H →
  (J.stop i H ∧ D.nx σ H) ∨ (J.go i H ∧ ∃ N : St → Hp → Prop, (∀ σ' H', N σ' H' → ∃ m', m' < m ∧ W (i + 1) m' σ' H') ∧ ∀ x H', J.yld i H x H' → g x σ H' fun σ2 H2 => tb { D with nx := N, ct := N, bk := D.nx } σ2 H2)
/-- the records at fp as they stand -/
def pinsAt (fp : List Addr) (h : Heap) : List (Addr × Obj) := fp.filterMap fun b => (h.get? b).map fun o => (b, o)
theorem mem_pinsAt {fp : List Addr} {h : Heap} {b : Addr} {o : Obj} (hb : b ∈ fp) (e : h.get? b = some o) : (b, o) ∈ pinsAt fp h := List.mem_filterMap.mpr ⟨b, hb, by rw [e]; rfl⟩
theorem of_pinsAt {fp : List Addr} {h : Heap} {p : Addr × Obj} (hp : p ∈ pinsAt fp h) : p.1 ∈ fp ∧ h.get? p.1 = some p.2 := by
  obtain ⟨b, hb, e⟩ := List.mem_filterMap.mp hp
  cases q : h.get? b with
  | none => rw [q] at e; cases e
  | some o =>
    rw [q] at e
    have e' : (b, o) = p := Option.some.inj e
    subst e'
    exact ⟨hb, q⟩
theorem Inv.pinned {pins : List (Addr × Obj)} {σ : St} {H : Hp} {s : Shared} {fp : List Addr} (I : Inv X pins σ H s) (hf : ∀ b ∈ fp, FpOk X pins H b) (ho : ∀ b ∈ fp, ∃ o, s.heap.get? b = some o ∧ ∀ v, o.data ≠ .cell v) : Inv X (pins ++ pinsAt fp s.heap) σ H s :=
  I.pins_of fun p hp => (List.mem_append.mp hp).elim (fun z => I.pin p (List.mem_append_right _ z)) fun z => by
    obtain ⟨hb, e⟩ := of_pinsAt z
    obtain ⟨f0, f1, f2, _⟩ := hf p.1 hb
    obtain ⟨o, e', d⟩ := ho p.1 hb
    rw [e] at e'; cases e'
    exact ⟨e, f0, f1, f2, d⟩
theorem Inv.unpinned {pins pl : List (Addr × Obj)} {σ : St} {H : Hp} {s : Shared} (I : Inv X (pins ++ pl) σ H s) : Inv X pins σ H s := I.pins_of fun p hp => I.pin p (List.mem_append_right _ (List.mem_append_left _ hp))
theorem ps_for {iter : Expr} {body : List Stmt} {wi : TI} {g : TG} {tb : TS} {pos : Pos} (hp : PassesOwn (model X.prog X.w) X.A X.env X.xe) (hc : X.calm = true) (hi : PI X tg iter wi) (hg : PG X tg g) (hb : PSs X body tb)
    (hs : ∀ x, foldedSetIterable iter X.env x = pure x := by intro _; rfl) : PS X (.For tg iter body [] pos) (tFor wi g tb) := by
  intro pins s σ H D I h
  refine wpAny_For (thn (hi pins s σ H _ I h) fun v s1 h1 => thn h1 fun itv s2 h2 => ?_) hs
  obtain ⟨it, fp, tn, J, H2, e, I2, T, st2, f2, W, ⟨m0, w0⟩, turn⟩ := h2
  subst e
  -- what stays true of the iterator's objects through the loop
  have stat : ∀ {H' : Hp}, (∀ b ∈ fp, H' b = none) → ∀ b ∈ fp, FpOk X pins H' b := fun hn b hb => ⟨hn b hb, (f2 b hb).2⟩
  refine codeAny_forLoop_any (fun n s' => ∃ i σ' H', Inv X pins σ' H' s' ∧ tn i s'.heap ∧ (∀ b ∈ fp, H' b = none) ∧ W i n σ' H') ?_ m0 ⟨0, σ, H2, I2, st2, fun b hb => (f2 b hb).1, w0⟩
  rintro n s3 ⟨i, σ3, H3, I3, st3, fr3, w3⟩
  rcases turn i n σ3 H3 w3 with ⟨stop, qn⟩ | ⟨go, N, hN, step⟩
  · refine wpAny_passesOwn hp (thn (T.done X rfl rfl rfl hc i pins s3 σ3 H3 X.xe I3 (stat fr3) st3 stop) fun r s4 ⟨hr, I4⟩ => ?_)
    subst hr
    exact wpAny_execs_nil ⟨σ3, H3, I4, qn⟩
  · refine wpAny_passesOwn hp (thn (T.item X rfl rfl rfl hc i pins s3 σ3 H3 X.xe I3 (stat fr3) st3 go) fun r s4 ⟨u, hr, h4⟩ => ?_)
    subst hr
    refine wpAny_passesOwn hp (thn h4 fun _ s5 ⟨x, H5, I5, r5, y5, st5, fr5⟩ => ?_)
    have I5' := I5.pinned (stat fr5) (T.obj _ _ st5)
    refine wpAny_passesOwn hp (thn (hg _ s5 σ3 H5 x u _ I5' r5 (step x H5 y5)) fun _ s6 ⟨σ6, H6, I6, q6⟩ => ?_)
    refine wpAny_passesOwn hp (thn (hb _ s6 σ6 H6 _ I6 q6) fun f s7 q7 => ?_)
    have again : ∀ {σ7 : St} {H7 : Hp}, Inv X (pins ++ pinsAt fp s5.heap) σ7 H7 s7 → N σ7 H7 → ∃ m, m < n ∧ ∃ i σ' H', Inv X pins σ' H' s7 ∧ tn i s7.heap ∧ (∀ b ∈ fp, H' b = none) ∧ W i m σ' H' := fun {σ7 H7} I7 n7 => by
      obtain ⟨m', hm, w7⟩ := hN σ7 H7 n7
      refine ⟨m', hm, i + 1, σ7, H7, I7.unpinned, T.keep _ _ _ st5 fun b hb o e => (I7.pin (b, o) (List.mem_append_right _ (List.mem_append_right _ (mem_pinsAt hb e)))).1, fun b hb => ?_, w7⟩
      obtain ⟨o, e, d⟩ := T.obj _ _ st5 b hb
      exact (I7.pin (b, o) (List.mem_append_right _ (List.mem_append_right _ (mem_pinsAt hb e)))).2.1
    cases f with
    | next => obtain ⟨σ7, H7, I7, n7⟩ := q7; exact again I7 n7
    | cont => obtain ⟨σ7, H7, I7, n7⟩ := q7; exact again I7 n7
    | brk => obtain ⟨σ7, H7, I7, q7⟩ := q7; exact ⟨σ7, H7, I7.unpinned, q7⟩
    | ret v => obtain ⟨x7, σ7, H7, I7, r7, q7⟩ := q7; exact ⟨x7, σ7, H7, I7.unpinned, r7, q7⟩
end

/-! ### the forms one uses -/
/-- over a list that the body leaves as it is -/
theorem for_list {K : PySem.W.Frag} {a : Addr} {xs : List V} {g : TG} {tb : TS} {D : Ends} {σ : St} {H : Hp} (Pv : Nat → St → Hp → Prop) (h0 : Pv 0 σ H) (hl : ∀ i σ H, i ≤ xs.length → Pv i σ H → SqL K H a xs)
    (hs : ∀ i x σ H, xs[i]? = some x → Pv i σ H → g x σ H fun σ2 H2 => tb { D with nx := Pv (i + 1), ct := Pv (i + 1), bk := D.nx } σ2 H2) (hd : ∀ σ H, Pv xs.length σ H → D.nx σ H) :
    ∃ W : Nat → Nat → St → Hp → Prop, (∃ m, W 0 m σ H) ∧ ∀ i m σ H, W i m σ H →
      ((Itl K a).stop i H ∧ D.nx σ H) ∨ ((Itl K a).go i H ∧ ∃ N : St → Hp → Prop, (∀ σ' H', N σ' H' → ∃ m', m' < m ∧ W (i + 1) m' σ' H') ∧ ∀ x H', (Itl K a).yld i H x H' → g x σ H' fun σ2 H2 => tb { D with nx := N, ct := N, bk := D.nx } σ2 H2) := by
  refine ⟨fun i m σ H => m = xs.length - i ∧ i ≤ xs.length ∧ Pv i σ H, ⟨xs.length, by simp, Nat.zero_le _, h0⟩, ?_⟩
  rintro i m σ H ⟨rfl, hi, p⟩
  have q := hl i σ H hi p
  by_cases hlt : i < xs.length
  · refine .inr ⟨⟨xs, xs[i], q, by simp [hlt]⟩, Pv (i + 1), fun σ' H' p' => ⟨xs.length - (i + 1), by omega, rfl, hlt, p'⟩, fun x H' y => ?_⟩
    obtain ⟨e, y⟩ := y
    subst e
    exact hs i x σ _ (y xs q) p
  · have e : i = xs.length := by omega
    subst e
    exact .inl ⟨⟨xs, q, Nat.le_refl _⟩, hd σ H p⟩
end L2

namespace L2
open PySem PySem.Spec PyProof.Rows

abbrev R2 := V → V → Hp → VK → Prop
/-- a two-place operation on values: f is binaryOp op, inplaceOp op or compareOp op -/
def OpR (X : Cx) (f : Value → Value → Sem Value) (r : R2) : Prop :=
  ∀ (pins : List (Addr × Obj)) (s : Shared) (σ : St) (H : Hp) (x y : V) (v u : Value) (Q : VK), Inv X pins σ H s → RelV x v → RelV y u → r x y H Q →
    wpAny (model X.prog X.w) X.A (f v u) (EP X pins σ Q) X.xe s
/-- a one-place operation -/
def UnR (X : Cx) (f : Value → Sem Value) (r : V → Hp → VK → Prop) : Prop :=
  ∀ (pins : List (Addr × Obj)) (s : Shared) (σ : St) (H : Hp) (x : V) (v : Value) (Q : VK), Inv X pins σ H s → RelV x v → r x H Q →
    wpAny (model X.prog X.w) X.A (f v) (EP X pins σ Q) X.xe s
/-- a call of a value that is known (a builtin, a type) with values -/
def CallR (X : Cx) (f : Value) (r : List V → Hp → VK → Prop) : Prop :=
  ∀ (pins : List (Addr × Obj)) (s : Shared) (σ : St) (H : Hp) (xs : List V) (us : List Value) (Q : VK), Inv X pins σ H s → Vals xs us → r xs H Q →
    wpAny (model X.prog X.w) X.A (call f us) (EP X pins σ Q) X.xe s
/-- a value's truth -/
def TruR (X : Cx) (r : V → Hp → (Bool → Hp → Prop) → Prop) : Prop :=
  ∀ (pins : List (Addr × Obj)) (s : Shared) (σ : St) (H : Hp) (x : V) (v : Value) (Q : Bool → Hp → Prop), Inv X pins σ H s → RelV x v → r x H Q →
    wpAny (model X.prog X.w) X.A (truthy v) (TP X pins σ Q) X.xe s

def tOp (r : R2) (ta tb : TE) : TE := fun σ H Q => ta σ H fun x H1 => tb σ H1 fun y H2 => r x y H2 Q
def tUn (r : V → Hp → VK → Prop) (ta : TE) : TE := fun σ H Q => ta σ H fun x H1 => r x H1 Q
/-- ints in, under C, and a value out -/
def rI (C : Int → Int → Prop) (g : Int → Int → V) : R2 := fun x y H Q => ∃ i j, x = .int i ∧ y = .int j ∧ C i j ∧ Q (g i j) H
def rI0 (g : Int → Int → V) : R2 := fun x y H Q => ∃ i j, x = .int i ∧ y = .int j ∧ Q (g i j) H
def rU (g : Int → V) : V → Hp → VK → Prop := fun x H Q => ∃ i, x = .int i ∧ Q (g i) H

section
variable {X : Cx} {a b c : Expr} {ta tb tc : TE} {pos : Pos}

theorem binT (ha : PE X a ta) (hb : PE X b tb) {pins : List (Addr × Obj)} {s : Shared} {σ : St} {H : Hp} {R : V → V → Hp → Prop} (I : Inv X pins σ H s)
    (h : ta σ H fun x H1 => tb σ H1 fun y H2 => R x y H2) {Q : Value → Shared → Prop} {f : Value → Value → Sem Value}
    (hf : ∀ v u s2 x y H2, Inv X pins σ H2 s2 → RelV x v → RelV y u → R x y H2 → wpAny (model X.prog X.w) X.A (f v u) Q X.xe s2) :
    wpAny (model X.prog X.w) X.A (eval a X.env) (fun v s₁ => wpAny (model X.prog X.w) X.A (eval b X.env) (fun u s₂ => wpAny (model X.prog X.w) X.A (f v u) Q X.xe s₂) X.xe s₁) X.xe s := by
  refine thn (ha pins s σ H _ I h) fun v s1 ⟨x, H1, I1, r1, q1⟩ => ?_
  refine thn (hb pins s1 σ H1 _ I1 q1) fun u s2 ⟨y, H2, I2, r2, q2⟩ => ?_
  exact hf v u s2 x y H2 I2 r1 r2 q2

theorem pe_op {op : Operator} {r : R2} (ho : OpR X (binaryOp op) r) (ha : PE X a ta) (hb : PE X b tb) : PE X (.BinOp a op b pos) (tOp r ta tb) := by
  intro pins s σ H Q I h
  exact wpAny_BinOp (binT ha hb I h fun v u s2 x y H2 I2 rx ry q => ho pins s2 σ H2 x y v u Q I2 rx ry q)
theorem pe_un {op : UnaryOp} {r : V → Hp → VK → Prop} (ho : UnR X (unaryOp op) r) (ha : PE X a ta) : PE X (.UnaryOp op a pos) (tUn r ta) := by
  intro pins s σ H Q I h
  exact UnaryOp_ (thn (ha pins s σ H _ I h) fun v s1 ⟨x, H1, I1, r1, q1⟩ => ho pins s1 σ H1 x v Q I1 r1 q1)

/-! ### ints -/
theorem opI {f : Value → Value → Sem Value} {C : Int → Int → Prop} {g : Int → Int → Int}
    (rule : ∀ (i j : Int) (t u : Tok) (s : Shared) (Q : Value → Shared → Prop) (E : Value → Shared → Prop), C i j → Q (.int (g i j) s.toks) { s with toks := s.toks + 1 } → wpAny (model X.prog X.w) X.A (f (.int i t) (.int j u)) Q E s) :
    OpR X f (rI C fun i j => .int (g i j)) := by
  intro pins s σ H x y v u Q I rx ry h
  obtain ⟨i, j, rfl, rfl, hc, q⟩ := h
  obtain ⟨t, rfl⟩ := rx
  obtain ⟨t', rfl⟩ := ry
  exact rule i j t t' s _ _ hc ⟨.int (g i j), H, I.tok _, ⟨_, rfl⟩, q⟩
theorem opI0 {f : Value → Value → Sem Value} {g : Int → Int → Int}
    (rule : ∀ (i j : Int) (t u : Tok) (s : Shared) (Q : Value → Shared → Prop) (E : Value → Shared → Prop), Q (.int (g i j) s.toks) { s with toks := s.toks + 1 } → wpAny (model X.prog X.w) X.A (f (.int i t) (.int j u)) Q E s) :
    OpR X f (rI0 fun i j => .int (g i j)) := by
  intro pins s σ H x y v u Q I rx ry h
  obtain ⟨i, j, rfl, rfl, q⟩ := h
  obtain ⟨t, rfl⟩ := rx
  obtain ⟨t', rfl⟩ := ry
  exact rule i j t t' s _ _ ⟨.int (g i j), H, I.tok _, ⟨_, rfl⟩, q⟩
theorem opB0 {f : Value → Value → Sem Value} {g : Int → Int → Bool}
    (rule : ∀ (i j : Int) (t u : Tok) (s : Shared) (Q : Value → Shared → Prop) (E : Value → Shared → Prop), Q (.bool (g i j)) s → wpAny (model X.prog X.w) X.A (f (.int i t) (.int j u)) Q E s) :
    OpR X f (rI0 fun i j => .bl (g i j)) := by
  intro pins s σ H x y v u Q I rx ry h
  obtain ⟨i, j, rfl, rfl, q⟩ := h
  obtain ⟨t, rfl⟩ := rx
  obtain ⟨t', rfl⟩ := ry
  exact rule i j t t' s _ _ ⟨.bl (g i j), H, I, rfl, q⟩

def CDiv (i j : Int) : Prop := 0 < j ∧ j < 1073741824
def CDivN (i j : Int) : Prop := j ≠ 0 ∧ j.natAbs < 1073741824
def CPow (i j : Int) : Prop := 0 ≤ j ∧ j ≤ 1000000 ∧ i.natAbs < 2 ^ 64
def CMul (i j : Int) : Prop := (-(2 ^ 64) < i ∧ i < 2 ^ 64) ∨ (-(2 ^ 64) < j ∧ j < 2 ^ 64)
theorem CMul.ok {i j : Int} (h : CMul i j) : IntMulOk i j := by
  rcases h with ⟨h1, h2⟩ | ⟨h1, h2⟩
  · exact .of_left (intBits_le_64 h1 h2)
  · exact .of_right (intBits_le_64 h1 h2)

theorem op_add : OpR X (binaryOp .Add) (rI0 fun i j => .int (i + j)) := opI0 fun _ _ _ _ _ _ _ q => add_int q
theorem op_sub : OpR X (binaryOp .Sub) (rI0 fun i j => .int (i - j)) := opI0 fun _ _ _ _ _ _ _ q => sub_int q
theorem op_mul : OpR X (binaryOp .Mult) (rI CMul fun i j => .int (i * j)) := opI fun _ _ _ _ _ _ _ hc q => mul_int q hc.ok
/-- // by a positive divisor -/
theorem op_fdiv : OpR X (binaryOp .FloorDiv) (rI CDiv fun i j => .int (i / j)) := opI fun i j _ _ _ _ _ hc q => by
  have h1 : (0 : Int) < j := hc.1
  have h2 : j < 1073741824 := hc.2
  exact floordiv_int (by omega) (by rw [Int.fdiv_eq_ediv_of_nonneg i (by omega)]; exact q) (.inl (PyProof.noPylong_small (by omega)))
/-- % by a positive divisor of any size -/
theorem op_mod : OpR X (binaryOp .Mod) (rI (fun _ j => 0 < j) fun i j => .int (i % j)) := opI fun i j _ _ _ _ _ hc q => by
  have h1 : (0 : Int) < j := hc
  exact mod_int' (by omega) (by rw [Int.fmod_eq_emod_of_nonneg i (by omega)]; exact q)


theorem unI {f : Value → Sem Value} {g : Int → Int}
    (rule : ∀ (i : Int) (t : Tok) (s : Shared) (Q : Value → Shared → Prop) (E : Value → Shared → Prop), Q (.int (g i) s.toks) { s with toks := s.toks + 1 } → wpAny (model X.prog X.w) X.A (f (.int i t)) Q E s) :
    UnR X f (rU fun i => .int (g i)) := by
  intro pins s σ H x v Q I rx h
  obtain ⟨i, rfl, q⟩ := h
  obtain ⟨t, rfl⟩ := rx
  exact rule i t s _ _ ⟨.int (g i), H, I.tok _, ⟨_, rfl⟩, q⟩
theorem un_neg : UnR X (unaryOp .USub) (rU fun i => .int (-i)) := unI fun _ _ _ _ _ q => neg_int q

/-! ### bools among ints: n += (a < b) -/
end

/-! ### comparisons -/
/-- the scalars that == tells apart as data does -/
def scal : V → V → Bool
  | .non, .non => true | .non, .int _ => true | .int _, .non => true | .non, .bl _ => true | .bl _, .non => true | .non, .str _ => true | .str _, .non => true
  | .int _, .int _ => true | .bl _, .bl _ => true | .str _, .str _ => true | .byt _, .byt _ => true
  | .int _, .str _ => true | .str _, .int _ => true | .bl _, .str _ => true | .str _, .bl _ => true
  | _, _ => false
def rEq : R2 := fun x y H Q => scal x y = true ∧ Q (.bl (decide (x = y))) H
def rNe : R2 := fun x y H Q => scal x y = true ∧ Q (.bl (!decide (x = y))) H

theorem dec_int {i j : Int} : decide (V.int i = V.int j) = (i == j) := by
  rw [Bool.eq_iff_iff]
  simp
theorem dec_bl {i j : Bool} : decide (V.bl i = V.bl j) = (i == j) := by
  rw [Bool.eq_iff_iff]
  simp
theorem dec_str {i j : Str} : decide (V.str i = V.str j) = (i == j) := by
  rw [Bool.eq_iff_iff]
  simp
theorem dec_byt {i j : Array UInt8} : decide (V.byt i = V.byt j) = (i.toList == j.toList) := by
  rw [Bool.eq_iff_iff]
  cases i
  cases j
  simp

section
variable {X : Cx} {a b c : Expr} {ta tb tc : TE} {pos : Pos}
theorem fin_bl {pins : List (Addr × Obj)} {σ : St} {H : Hp} {s : Shared} {Q : VK} {k k' : Bool} (I : Inv X pins σ H s) (q : Q (.bl k) H) (e : k = k') : EP X pins σ Q (.bool k') s := by
  subst e
  exact ⟨.bl k, H, I, rfl, q⟩
theorem op_eq : OpR X (compareOp .Eq) rEq := by
  intro pins s σ H x y v u Q I rx ry h
  obtain ⟨hs, q⟩ := h
  cases x with
  | non =>
    cases rx
    cases y with
    | non => cases ry; exact PySem.EqNone.eq_none_none (fin_bl I q (by simp))
    | bl j => cases ry; exact PySem.EqNone.eq_none_bool (fin_bl I q (by simp))
    | int j => obtain ⟨t', rfl⟩ := ry; exact PySem.EqNone.eq_none_int (fin_bl I q (by simp))
    | str j => obtain ⟨t', rfl⟩ := ry; exact PySem.EqNone.eq_none_str (fin_bl I q (by simp))
    | _ => exact absurd (show false = true from hs) Bool.false_ne_true
  | bl i =>
    cases rx
    cases y with
    | non => cases ry; exact PySem.EqNone.eq_bool_none (fin_bl I q (by simp))
    | bl j => cases ry; exact eq_bool (fin_bl I q dec_bl)
    | str j => obtain ⟨t', rfl⟩ := ry; exact PySem.EqMixed.eq_bool_str (fin_bl I q (by simp))
    | _ => exact absurd (show false = true from hs) Bool.false_ne_true
  | int i =>
    obtain ⟨t, rfl⟩ := rx
    cases y with
    | non => cases ry; exact PySem.EqNone.eq_int_none (fin_bl I q (by simp))
    | int j => obtain ⟨t', rfl⟩ := ry; exact eq_int (fin_bl I q dec_int)
    | str j => obtain ⟨t', rfl⟩ := ry; exact PySem.EqMixed.eq_int_str (fin_bl I q (by simp))
    | _ => exact absurd (show false = true from hs) Bool.false_ne_true
  | str i =>
    obtain ⟨t, rfl⟩ := rx
    cases y with
    | non => cases ry; exact PySem.EqNone.eq_str_none (fin_bl I q (by simp))
    | bl j => cases ry; exact PySem.EqMixed.eq_str_bool (fin_bl I q (by simp))
    | int j => obtain ⟨t', rfl⟩ := ry; exact PySem.EqMixed.eq_str_int (fin_bl I q (by simp))
    | str j => obtain ⟨t', rfl⟩ := ry; exact eq_str (fin_bl I q dec_str)
    | _ => exact absurd (show false = true from hs) Bool.false_ne_true
  | byt i =>
    obtain ⟨t, rfl⟩ := rx
    cases y with
    | byt j => obtain ⟨t', rfl⟩ := ry; exact PySem.W.eq_bytes (fin_bl I q dec_byt)
    | _ => exact absurd (show false = true from hs) Bool.false_ne_true
  | _ => cases y <;> exact absurd (show false = true from hs) Bool.false_ne_true
theorem op_ne : OpR X (compareOp .NotEq) rNe := by
  intro pins s σ H x y v u Q I rx ry h
  obtain ⟨hs, q⟩ := h
  cases x with
  | non =>
    cases rx
    cases y with
    | non => cases ry; exact PySem.EqNone.ne_none_none (fin_bl I q (by simp))
    | bl j => cases ry; exact PySem.EqNone.ne_none_bool (fin_bl I q (by simp))
    | int j => obtain ⟨t', rfl⟩ := ry; exact PySem.EqNone.ne_none_int (fin_bl I q (by simp))
    | str j => obtain ⟨t', rfl⟩ := ry; exact PySem.EqNone.ne_none_str (fin_bl I q (by simp))
    | _ => exact absurd (show false = true from hs) Bool.false_ne_true
  | bl i =>
    cases rx
    cases y with
    | non => cases ry; exact PySem.EqNone.ne_bool_none (fin_bl I q (by simp))
    | bl j => cases ry; exact ne_bool (fin_bl I q (congrArg not dec_bl))
    | str j => obtain ⟨t', rfl⟩ := ry; exact PySem.EqMixed.ne_bool_str (fin_bl I q (by simp))
    | _ => exact absurd (show false = true from hs) Bool.false_ne_true
  | int i =>
    obtain ⟨t, rfl⟩ := rx
    cases y with
    | non => cases ry; exact PySem.EqNone.ne_int_none (fin_bl I q (by simp))
    | int j => obtain ⟨t', rfl⟩ := ry; exact ne_int (fin_bl I q (congrArg not dec_int))
    | str j => obtain ⟨t', rfl⟩ := ry; exact PySem.EqMixed.ne_int_str (fin_bl I q (by simp))
    | _ => exact absurd (show false = true from hs) Bool.false_ne_true
  | str i =>
    obtain ⟨t, rfl⟩ := rx
    cases y with
    | non => cases ry; exact PySem.EqNone.ne_str_none (fin_bl I q (by simp))
    | bl j => cases ry; exact PySem.EqMixed.ne_str_bool (fin_bl I q (by simp))
    | int j => obtain ⟨t', rfl⟩ := ry; exact PySem.EqMixed.ne_str_int (fin_bl I q (by simp))
    | str j => obtain ⟨t', rfl⟩ := ry; exact ne_str (fin_bl I q (congrArg not dec_str))
    | _ => exact absurd (show false = true from hs) Bool.false_ne_true
  | byt i =>
    obtain ⟨t, rfl⟩ := rx
    cases y with
    | byt j => obtain ⟨t', rfl⟩ := ry; exact PySem.W.ne_bytes (fin_bl I q (congrArg not dec_byt))
    | _ => exact absurd (show false = true from hs) Bool.false_ne_true
  | _ => cases y <;> exact absurd (show false = true from hs) Bool.false_ne_true

theorem op_lt : OpR X (compareOp .Lt) (rI0 fun i j => .bl (decide (i < j))) := opB0 fun _ _ _ _ _ _ _ q => lt_int q
theorem op_le : OpR X (compareOp .LtE) (rI0 fun i j => .bl (decide (i ≤ j))) := opB0 fun _ _ _ _ _ _ _ q => le_int q
theorem op_gt : OpR X (compareOp .Gt) (rI0 fun i j => .bl (decide (j < i))) := opB0 fun _ _ _ _ _ _ _ q => gt_int q
theorem op_ge : OpR X (compareOp .GtE) (rI0 fun i j => .bl (decide (j ≤ i))) := opB0 fun _ _ _ _ _ _ _ q => ge_int q


/-- is, is not of two objects that are tracked lists or instances -/
def isObj : HO → Bool
  | .lst _ => true
  | .ins _ _ _ => true
  | _ => false


theorem nomark (b : Expr) {op : CmpOp} (h : op ≠ .In := by decide) (h2 : op ≠ .NotIn := by decide) : behindInMarks op b = false := by
  have e1 : (op == CmpOp.In) = false := by cases op <;> first | rfl | exact absurd rfl h
  have e2 : (op == CmpOp.NotIn) = false := by cases op <;> first | rfl | exact absurd rfl h2
  cases b <;> simp [behindInMarks, e1, e2]
/-- a comparison as a value; hm: nomark b, or (for in, not in) by with_unfolding_all rfl -/
theorem pe_cmpR {op : CmpOp} {r : R2} (ho : OpR X (compareOp op) r) (ha : PE X a ta) (hb : PE X b tb) (hm : behindInMarks op b = false) : PE X (.Compare a [op] [b] pos) (tOp r ta tb) := by
  intro pins s σ H Q I h
  exact wpAny_Compare1 (binT ha hb I h fun v u s2 x y H2 I2 rx ry q => ho pins s2 σ H2 x y v u Q I2 rx ry q) hm
/-- a reading of a value as a test -/
def tTest (t : TE) : TT := fun σ H Q => t σ H fun x H' => ∃ k, x = .bl k ∧ Q k H'
theorem pt_cmpR {op : CmpOp} {r : R2} (ho : OpR X (compareOp op) r) (ha : PE X a ta) (hb : PE X b tb) (hm : behindInMarks op b = false) : PT X (.Compare a [op] [b] pos) (tTest (tOp r ta tb)) := by
  intro pins s σ H Q I h
  refine wpAny_isTrue_Compare1 (thn (ha pins s σ H _ I h) fun v s1 ⟨x, H1, I1, r1, q1⟩ => thn (hb pins s1 σ H1 _ I1 q1) fun u s2 ⟨y, H2, I2, r2, q2⟩ =>
    thn (ho pins s2 σ H2 x y v u _ I2 r1 r2 q2) fun c s3 ⟨z, H3, I3, r3, k, e, q3⟩ => ?_) hm
  subst e
  cases r3
  exact wpAny_truthy_bool ⟨H3, I3, q3⟩
/-- a op1 b op2 c -/
def tChain (r r' : R2) (ta tb tc : TE) : TE := fun σ H Q => ta σ H fun x H1 => tb σ H1 fun y H2 => r x y H2 fun z H3 => ∃ k, z = .bl k ∧
  (if k = true then tc σ H3 fun w' H4 => r' y w' H4 Q else Q (.bl false) H3)
theorem pe_chain {op op' : CmpOp} {r r' : R2} (ho : OpR X (compareOp op) r) (ho' : OpR X (compareOp op') r') (ha : PE X a ta) (hb : PE X b tb) (hc : PE X c tc)
    (hm : lastMarks [op, op'] [b, c] = false := by with_unfolding_all rfl) : PE X (.Compare a [op, op'] [b, c] pos) (tChain r r' ta tb tc) := by
  intro pins s σ H Q I h
  refine Compare_chain (thn (ha pins s σ H _ I h) fun v s1 ⟨x, H1, I1, r1, q1⟩ => chain_link (thn (hb pins s1 σ H1 _ I1 q1) fun u s2 ⟨y, H2, I2, r2, q2⟩ =>
    thn (ho pins s2 σ H2 x y v u _ I2 r1 r2 q2) fun d s3 ⟨z, H3, I3, r3, k, e, q3⟩ => ?_)) hm
  subst e
  cases r3
  refine wpAny_truthy_bool ?_
  cases k with
  | false => exact ite_ff ⟨.bl false, H3, I3, rfl, q3⟩
  | true => exact ite_tt (chain_last (thn (hc pins s3 σ H3 _ I3 q3) fun w' s4 ⟨z', H4, I4, r4, q4⟩ => ho' pins s4 σ H4 y z' u w' Q I4 r2 r4 q4))

/-! ### truth -/
/-- a value's truth by the abstract heap -/
def TruV (K : PySem.W.Frag) (x : V) (H : Hp) (k : Bool) : Prop :=
  match x with
  | .non => k = false
  | .bl b => k = b
  | .int i => k = (i != 0)
  | .str y => y.length ≤ sizeLine ∧ k = ((y.length : Int) != 0)
  | .byt y => y.size ≤ sizeLine ∧ k = ((y.size : Int) != 0)
  | .ref p => (∃ xs, SqL K H p xs ∧ k = !xs.isEmpty) ∨ (∃ xs, SqT K H p xs ∧ k = !xs.isEmpty) ∨ ∃ kvs, H p = some (.dK kvs) ∧ k = !kvs.isEmpty
  | _ => False
theorem line63 : (sizeLine : Nat) < 2 ^ 63 := by rw [sizeLine_eq]; decide

/-! ### strs and bytes -/
theorem op_add_str : OpR X (binaryOp .Add) (fun x y H Q => ∃ i j, x = .str i ∧ y = .str j ∧ i.length + j.length ≤ sizeLine ∧ Q (.str (i ++ j)) H) := by
  intro pins s σ H x y v u Q I rx ry h
  obtain ⟨i, j, rfl, rfl, hz, q⟩ := h
  obtain ⟨t, rfl⟩ := rx
  obtain ⟨t', rfl⟩ := ry
  exact add_str (fun t' tk => ⟨.str (i ++ j), H, I.tok _, ⟨_, rfl⟩, q⟩) hz
theorem iop_add_str : OpR X (inplaceOp .Add) (fun x y H Q => ∃ i j, x = .str i ∧ y = .str j ∧ i.length + j.length ≤ sizeLine ∧ Q (.str (i ++ j)) H) := by
  intro pins s σ H x y v u Q I rx ry h
  obtain ⟨i, j, rfl, rfl, hz, q⟩ := h
  obtain ⟨t, rfl⟩ := rx
  obtain ⟨t', rfl⟩ := ry
  exact iadd_str (fun t' tk => ⟨.str (i ++ j), H, I.tok _, ⟨_, rfl⟩, q⟩) hz

def PlainIxT (b : Expr) : Prop := ∀ o i, subscripted b false o i = operate [o, i] (getItem o i)

/-! ### scalar builtins, by CallR -/
theorem vals1 {x : V} {us : List Value} (r : Vals [x] us) : ∃ u, us = [u] ∧ RelV x u := by
  cases r with
  | cons r1 r2 => cases r2; exact ⟨_, rfl, r1⟩
theorem vals2 {x y : V} {us : List Value} (r : Vals [x, y] us) : ∃ u w', us = [u, w'] ∧ RelV x u ∧ RelV y w' := by
  cases r with
  | cons r1 r2 =>
    cases r2 with
    | cons r3 r4 => cases r4; exact ⟨_, _, rfl, r1, r3⟩
theorem call_str_int : CallR X (.type "str") (fun xs H Q => ∃ i, xs = [.int i] ∧ i.natAbs.log2 < 1920 ∧ Q (.str (toString i)) H) := by
  intro pins s σ H xs us Q I r h
  obtain ⟨i, rfl, hz, q⟩ := h
  obtain ⟨u, rfl, t, rfl⟩ := vals1 r
  exact PySem.P.str_of_int hz ⟨.str _, H, I.tok _, ⟨_, rfl⟩, q⟩
/-- len of a str, a bytes, a list, a tuple -/
def LenV (K : PySem.W.Frag) (x : V) (H : Hp) (n : Nat) : Prop :=
  match x with
  | .str y => y.length ≤ sizeLine ∧ n = y.length
  | .byt y => y.size ≤ sizeLine ∧ n = y.size
  | .ref p => (∃ xs, SqL K H p xs ∧ n = xs.length) ∨ ∃ xs, SqT K H p xs ∧ n = xs.length
  | _ => False
end
end L2

namespace L2
open PySem PySem.Spec PyProof.Rows

/-! ### an instance, its attributes a map -/
structure ObjM (h : Heap) (x dx C : Addr) (mA : Str → Option Value) : Prop where
  obj : h.get? x = some (PySem.W.instObj C dx)
  ns : h.Ns1 dx mA
  ne : dx ≠ x

theorem lookIn_ns {h : Heap} {dx : Addr} {mA : Str → Option Value} (n : h.Ns1 dx mA) : ∃ od, h.get? dx = some od ∧ ∀ name, PySem.W.lookIn name od = some (mA name) := by
  obtain ⟨o, es, ep, ho, hd, hk, _, hm⟩ := n
  refine ⟨o, ho, fun name => ?_⟩
  have e := hm name
  unfold nsFind findBy at e
  rw [← Array.find?_toList] at e
  unfold PySem.W.lookIn
  rw [hd]
  dsimp only
  split
  · rename_i y q
    rw [q] at e
    exact congrArg some e
  · rename_i q
    rw [q] at e
    have a : es.toList.any (·.refKey) = false := by
      rw [List.any_eq_false]
      intro y hy
      obtain ⟨z, t, hkey⟩ := hk y (Array.mem_toList_iff.mp hy)
      simp [DictEntry.refKey, hkey]
    have a' : ¬ es.toList.any (·.refKey) = true := by rw [a]; exact Bool.false_ne_true
    rw [if_neg a']
    exact congrArg some e

theorem ObjM.look {h : Heap} {x dx C : Addr} {mA : Str → Option Value} (I : ObjM h x dx C mA) : ∃ od, PySem.W.InstAt h x (PySem.W.instObj C dx) C (some od) ∧ ∀ name, PySem.W.lookIn name od = some (mA name) :=
  let ⟨od, ho, hl⟩ := lookIn_ns I.ns
  ⟨od, ⟨I.obj, rfl, rfl, ho⟩, hl⟩

section
variable {prog : Program} {w : World} {A : Around} {E : Value → Shared → Prop} {s : Shared} {K : PySem.W.Frag} {x dx C f : Addr} {mA : Str → Option Value} {name : Str} {v : Value}

theorem get_map {expr : Bool} {Q : Value → Shared → Prop} (X : K.In s.heap) (I : ObjM s.heap x dx C mA) (hg : PySem.W.plainGet K C name = true) (hh : PySem.W.hasDictIn K C = true)
    (ha : PySem.W.findIn K (.ref C) name = some none) (hv : mA name = some v) (hv' : PySem.W.handedIn v = true) (h : Q v { s with toks := s.toks + 1 }) :
    wpAny (model prog w) A (getAttr (.ref x) name expr) Q E s := by
  obtain ⟨od, J, hl⟩ := I.look
  exact PySem.W.get_value X J (PySem.W.plainGet_of hg).1 (PySem.W.findObj_own hh ha rfl (by rw [hl, hv])) hv' h


theorem get_meth {pl : Sem Bool} {Q : Value × List Value → Shared → Prop} (X : K.In s.heap) (I : ObjM s.heap x dx C mA) (hg : PySem.W.plainGet K C name = true)
    (hf : PySem.W.findIn K (.ref C) name = some (some (.ref f))) (ht : PySem.W.isFn K (.ref f) = true) (hv : mA name = none) (h : Q (.ref f, [.ref x]) s) :
    wpAny (model prog w) A (getMethod (.ref x) name pl) Q E s := by
  obtain ⟨od, J, hl⟩ := I.look
  exact PySem.W.method_fn X J (PySem.W.plainGet_of hg).1 (PySem.W.plainGet_of hg).2 hf (beq_iff_eq.mp ht) (by show (PySem.W.lookIn name od).map (·.isSome) = some false; rw [hl, hv]; rfl) h

theorem set_map {ns : List Str} {Q : Unit → Shared → Prop} (X : K.In s.heap) (I : ObjM s.heap x dx C mA)
    (hs : PySem.W.findIn K (.ref C) "__setattr__" = some (some (.builtin "object.__setattr__"))) (hp : PySem.W.plainOver K C = true) (ht : PySem.W.takerIn K C name = some none) (hh : PySem.W.hasDictIn K C = true)
    (hw : PySem.Within mA ns) (hsz : ns.length ≤ sizeLine)
    (h : ∀ h', ObjM h' x dx C (fun y => if y = name then some v else mA y) → Heap.SameBut dx s.heap h' → Q () { s with heap := h', toks := s.toks + 2 }) :
    wpAny (model prog w) A (setAttr (.ref x) name v) Q E s := by
  obtain ⟨od, J, hl⟩ := I.look
  refine PySem.W.set_plain X J hs (PySem.W.osa_open (s := { s with toks := s.toks + 1 }) (r := none) X J hp ht fun b => ?_)
  obtain ⟨cd, hc, hd'⟩ := PySem.W.any_some hh
  have hx : s.heap.get? x = some ⟨.ref C, some dx, .plain, #[]⟩ := I.obj
  refine wpAny_bind (wpAny_pure (wpAny_bind (wpAny_bind (wpAny_loadPart hx (wpAny_bind (PySem.W.Looks.here (s := { s with toks := s.toks + 1 }) (PySem.W.looks_clsIn X hc) ?_))))))
  rw [hd']
  refine wpAny_pure (a := some dx) (wpAny_bind (wpAny_pure (wpAny_bind ?_)))
  refine wpAny_nsSet1 (s := { s with toks := s.toks + 1 }) I.ns fun h' hn2 hs2 => ?_
  obtain ⟨oD, esD, epD, hoD, hdD, hcD⟩ := hn2.count (PySem.Within.cons name v hw)
  refine wpAny_bind (wpAny_lookBehind hoD (by rw [hdD]; exact pastItsLine_dict (Nat.le_trans hcD (by rw [List.length_cons]; omega))) ?_)
  exact wpAny_pure (h _ ⟨(hs2.2 _ (Ne.symm I.ne)).trans I.obj, hn2, I.ne⟩ hs2)

/-- C(..): the dict at the heap's end, the instance behind it; then its __init__ -/
theorem make_map {R : Result → Shared → Prop} {vs : List Value} {kw : List (Str × Value)} (X : K.In s.heap) (hm : PySem.W.makesIn K C = true)
    (hi : PySem.W.findIn K (.ref C) "__init__" = some (some (.ref f))) (hf : PySem.W.typeIn K (.ref f) = some (.type "function"))
    (h : codeAny (model prog w) (A.under (.builtin "type.__call__" ⟨.ref C :: vs, kw⟩)) (.call (.ref f) ⟨.ref (s.heap.objs.size + 1) :: vs, kw⟩) (PySem.W.InitBack (s.heap.objs.size + 1) R)
      { s with heap := (s.heap.push PySem.W.emptyDict).push (PySem.W.instObj C s.heap.objs.size) }) :
    codeAny (model prog w) A (.call (.ref C) ⟨vs, kw⟩) R s := by
  obtain ⟨hh, g, d, t, os⟩ := s
  exact PySem.W.make_core (PySem.W.makes_of X hm) (PySem.W.looks_findIn X hi) (fun self => PySem.W.bind_fn X self hf) (.inl rfl) h
end

/-! ### the attributes as a list of pairs -/
def putF (f : Str) (v : V) : List (Str × V) → List (Str × V)
  | [] => [(f, v)]
  | (g, x) :: r => if g = f then (g, v) :: r else (g, x) :: putF f v r
theorem lookup_putF (f g : Str) (v : V) : ∀ fs : List (Str × V), (putF f v fs).lookup g = if g = f then some v else fs.lookup g
  | [] => by
    show List.lookup g [(f, v)] = _
    by_cases h : g = f
    · have hb : (g == f) = true := beq_iff_eq.mpr h
      simp only [List.lookup, hb, if_pos h]
    · have hb : (g == f) = false := beq_eq_false_iff_ne.mpr h
      simp only [List.lookup, hb, if_neg h]
  | (k, x) :: r => by
    have ih := lookup_putF f g v r
    rw [show putF f v ((k, x) :: r) = (if k = f then (k, v) :: r else (k, x) :: putF f v r) from rfl]
    by_cases hk : k = f
    · rw [if_pos hk]
      by_cases h : g = k
      · have hb : (g == k) = true := beq_iff_eq.mpr h
        simp only [List.lookup, hb, if_pos (h.trans hk)]
      · have hb : (g == k) = false := beq_eq_false_iff_ne.mpr h
        simp only [List.lookup, hb, if_neg (fun e : g = f => h (e.trans hk.symm))]
    · rw [if_neg hk]
      by_cases h : g = k
      · have hb : (g == k) = true := beq_iff_eq.mpr h
        simp only [List.lookup, hb, if_neg (fun e : g = f => hk (h.symm.trans e))]
      · have hb : (g == k) = false := beq_eq_false_iff_ne.mpr h
        simp only [List.lookup, hb]
        exact ih
theorem keys_putF (f : Str) (v : V) : ∀ fs : List (Str × V), f ∈ (putF f v fs).map (·.1) ∧ ∀ g, g ∈ fs.map (·.1) → g ∈ (putF f v fs).map (·.1)
  | [] => ⟨by simp [putF], fun g h => by simp at h⟩
  | (k, x) :: r => by
    obtain ⟨i1, i2⟩ := keys_putF f v r
    rw [show putF f v ((k, x) :: r) = (if k = f then (k, v) :: r else (k, x) :: putF f v r) from rfl]
    by_cases hk : k = f
    · rw [if_pos hk]
      subst hk
      exact ⟨by simp, fun g h => by simpa using h⟩
    · rw [if_neg hk]
      refine ⟨?_, fun g h => ?_⟩
      · rw [List.map_cons]
        exact List.mem_cons_of_mem _ i1
      · rw [List.map_cons] at h ⊢
        rcases List.mem_cons.mp h with e | e
        · exact List.mem_cons.mpr (.inl e)
        · exact List.mem_cons_of_mem _ (i2 g e)
theorem length_putF (f : Str) (v : V) : ∀ fs : List (Str × V), (putF f v fs).length ≤ fs.length + 1
  | [] => by simp [putF]
  | (k, x) :: r => by
    have ih := length_putF f v r
    rw [show putF f v ((k, x) :: r) = (if k = f then (k, v) :: r else (k, x) :: putF f v r) from rfl]
    by_cases hk : k = f
    · rw [if_pos hk, List.length_cons, List.length_cons]; omega
    · rw [if_neg hk, List.length_cons, List.length_cons]; omega

theorem RelO.some_of {v : V} {o : Option Value} (r : RelO (some v) o) : ∃ u, o = some u ∧ RelV v u := by
  cases o with
  | none => exact (show False from r).elim
  | some u => exact ⟨u, rfl, r⟩
theorem RelO.none_of {o : Option Value} (r : RelO none o) : o = none := by
  cases o with
  | none => rfl
  | some u => exact (show False from r).elim
theorem handed_of {v : V} {u : Value} (r : RelV v u) : PySem.W.handedIn u = true := by
  cases v with
  | non => cases (show u = Value.none from r); rfl
  | bl b => cases (show u = Value.bool b from r); rfl
  | int i => obtain ⟨t, e⟩ := (show ∃ t, u = Value.int i t from r); cases e; rfl
  | str x => obtain ⟨t, e⟩ := (show ∃ t, u = Value.str x t from r); cases e; rfl
  | byt b => obtain ⟨t, e⟩ := (show ∃ t, u = Value.bytes b t from r); cases e; rfl
  | flt b => obtain ⟨t, e⟩ := (show ∃ t, u = Value.float b t from r); cases e; rfl
  | ref a => cases (show u = Value.ref a from r); rfl
  | ty n => cases (show u = Value.type n from r); rfl

section
variable {P : Program} {w : World} {H H' : Hp} {h h' : Heap} {a C dx : Addr} {fs fs' : List (Str × V)}
theorem ins_get (hok : HOk P w H h) (e : H a = some (.ins C dx fs)) : ∃ mA, ObjM h a dx C mA ∧ (∀ f, RelO (fs.lookup f) (mA f)) ∧ PySem.Within mA (fs.map (·.1)) ∧ fs.length ≤ 1000 ∧ H dx = some (.own a) := by
  obtain ⟨d, z, ne, ob, mA, n, r, q⟩ := (show ObjOk P w H h a (.ins C dx fs) from hok a _ e)
  exact ⟨mA, ⟨ob, n, ne⟩, r, q, z, d⟩
end

/-! ### what of the text a class must have -/
structure Cls (K : PySem.W.Frag) (C : Addr) : Prop where
  pg : PySem.W.plainGet K C Str.empty = true
  hd : PySem.W.hasDictIn K C = true
  po : PySem.W.plainOver K C = true
  sa : PySem.W.findIn K (.ref C) "__setattr__" = some (some (.builtin "object.__setattr__"))
theorem Cls.get {K : PySem.W.Frag} {C : Addr} (c : Cls K C) (f : Str) : PySem.W.plainGet K C f = true := c.pg
/-- no class of it has the name -/
def NoAttr (K : PySem.W.Frag) (C : Addr) (f : Str) : Prop := PySem.W.findIn K (.ref C) f = some none
theorem NoAttr.taker {K : PySem.W.Frag} {C : Addr} {f : Str} (n : NoAttr K C f) : PySem.W.takerIn K C f = some none := by
  unfold PySem.W.takerIn
  rw [show PySem.W.findIn K (.ref C) f = some none from n]
  rfl
/-- a constant of the class -/
structure Con (K : PySem.W.Frag) (C : Addr) (f : Str) (v : V) (u : Value) : Prop where
  at_ : PySem.W.findIn K (.ref C) f = some (some u)
  rel : RelV v u
  get : PySem.W.specialIn K u "__get__" = some none
  cp : PySem.W.copiedNames.contains f = false
/-- a method: a plain def of the class or of one above it -/
structure Meth (K : PySem.W.Frag) (C : Addr) (m : Str) (f : Addr) : Prop where
  at_ : PySem.W.findIn K (.ref C) m = some (some (.ref f))
  fn : PySem.W.isFn K (.ref f) = true
  kp : PySem.W.keepIn K (.ref f) = true

section
variable {X : Cx} {pins : List (Addr × Obj)} {σ : St} {H : Hp} {s : Shared} {a C dx : Addr} {fs : List (Str × V)} {f : Str} {v : V} {A : Around} {E : Value → Shared → Prop}

theorem getattr_ok {b : Bool} {Q : Value → Shared → Prop} (I : Inv X pins σ H s) (e : H a = some (.ins C dx fs)) (c : Cls X.K C) (n : NoAttr X.K C f) (l : fs.lookup f = some v)
    (h : ∀ u s', Inv X pins σ H s' → RelV v u → Q u s') : wpAny (model X.prog X.w) A (getAttr (.ref a) f b) Q E s := by
  obtain ⟨mA, O, r, _, _, _⟩ := ins_get I.hok e
  obtain ⟨u, hu, ru⟩ := RelO.some_of (v := v) (o := mA f) (by rw [← l]; exact r f)
  exact get_map I.kIn O (c.get f) c.hd n hu (handed_of ru) (h u _ (I.tok _) ru)


theorem getmeth_ok {m : Str} {g : Addr} {pl : Sem Bool} {Q : Value × List Value → Shared → Prop} (I : Inv X pins σ H s) (e : H a = some (.ins C dx fs)) (c : Cls X.K C) (k : Meth X.K C m g) (l : fs.lookup m = none)
    (h : Q (.ref g, [.ref a]) s) : wpAny (model X.prog X.w) A (getMethod (.ref a) m pl) Q E s := by
  obtain ⟨mA, O, r, _, _, _⟩ := ins_get I.hok e
  have hn : mA m = none := RelO.none_of (by rw [← l]; exact r m)
  exact get_meth I.kIn O (c.get m) k.at_ k.fn hn h

theorem setattr_ok {y : V} {u : Value} {Q : Unit → Shared → Prop} (I : Inv X pins σ H s) (e : H a = some (.ins C dx fs)) (c : Cls X.K C) (n : NoAttr X.K C f) (hl : fs.length < 1000) (ry : RelV y u)
    (h : ∀ s', Inv X pins σ (upd H a (.ins C dx (putF f y fs))) s' → Q () s') : wpAny (model X.prog X.w) A (setAttr (.ref a) f u) Q E s := by
  obtain ⟨mA, O, r, wi, _, ho⟩ := ins_get I.hok e
  have hz : (fs.map (·.1)).length ≤ sizeLine := by rw [List.length_map, sizeLine_eq]; omega
  refine set_map I.kIn O c.sa c.po n.taker c.hd wi hz fun h' O' sb => h _ ?_
  have hd : ∃ o, h'.get? dx = some o := let ⟨o, _, _, e', _⟩ := O'.ns; ⟨o, e'⟩
  refine I.write (x := a) (e := dx) (by rw [e]; exact True.intro) (.inr ho) (fun b q hb z => (sb.2 b hb).trans z) hd ?_
  refine ⟨by rw [upd_ne O.ne]; exact ho, ?_, O.ne, O'.obj, _, O'.ns, fun g => ?_, fun g hg => ?_⟩
  · have := length_putF f y fs; omega
  · show RelO ((putF f y fs).lookup g) (if g = f then some u else mA g)
    rw [lookup_putF]
    by_cases q : g = f
    · rw [if_pos q, if_pos q]; exact ry
    · rw [if_neg q, if_neg q]; exact r g
  · by_cases q : g = f
    · rw [q]; exact (keys_putF f y fs).1
    · refine (keys_putF f y fs).2 g (wi g fun z => hg ?_)
      show (if g = f then some u else mA g) = none
      rw [if_neg q]; exact z

/-- a new instance, tracked, without attributes -/
theorem Inv.made (I : Inv X pins σ H s) : Inv X pins σ (upd (upd H s.heap.objs.size (.own (s.heap.objs.size + 1))) (s.heap.objs.size + 1) (.ins C s.heap.objs.size []))
    { s with heap := (s.heap.push PySem.W.emptyDict).push (PySem.W.instObj C s.heap.objs.size) } := by
  have e1 : (s.heap.push PySem.W.emptyDict).get? s.heap.objs.size = some PySem.W.emptyDict := Heap.get?_push_size s.heap rfl
  have e2 : ((s.heap.push PySem.W.emptyDict).push (PySem.W.instObj C s.heap.objs.size)).get? (s.heap.objs.size + 1) = some (PySem.W.instObj C s.heap.objs.size) := by
    have := Heap.get?_push_size (s.heap.push PySem.W.emptyDict) (o := PySem.W.instObj C s.heap.objs.size) rfl
    rwa [Heap.size_push] at this
  have e3 : (s.heap.push PySem.W.emptyDict).Ns s.heap.objs.size (fun _ => none) := ⟨PySem.W.emptyDict, #[], _, e1, rfl, (fun e he => absurd he (by simp)), fun _ => rfl⟩
  have I1 := I.laid (a := s.heap.objs.size) (o := .own (s.heap.objs.size + 1)) (h' := s.heap.push PySem.W.emptyDict) (t' := s.toks) (fun b u q => Heap.get?_push_of_some _ q) (Nat.le_refl _) ⟨_, e1⟩
  refine I1.laid (a := s.heap.objs.size + 1) (o := .ins C s.heap.objs.size []) (t' := s.toks) (fun b u q => Heap.get?_push_of_some _ q) (Nat.le_of_eq (Heap.size_push _ _)) ?_
  have ne : s.heap.objs.size ≠ s.heap.objs.size + 1 := Nat.ne_of_lt (Nat.lt_succ_self _)
  refine ⟨by rw [upd_ne ne, upd_same], Nat.zero_le _, ne, e2, fun _ => none, (Heap.Ns1.of_empty e3).at fun o q => Heap.get?_push_of_some _ q, fun _ => True.intro, fun y hy => absurd rfl hy⟩

/-- e.f where nothing but the object is asked: through attributeBase (super) and the last hold -/
theorem attr_of {prog : Program} {w : World} {env : Env} {e : Expr} {f : Str} {pos : Pos} {s : Shared} {Q : Value → Shared → Prop} (hb : attributeBase e f env (eval e env) = eval e env)
    (h : wpAny (model prog w) A (eval e env) (fun o s₁ => wpAny (model prog w) A (getAttr o f true) Q E s₁) E s) : wpAny (model prog w) A (eval (.Attribute e f pos) env) Q E s :=
  Attribute_any_ h (by rw [arm_eval_Attribute, hb])
end

/-! ### readings and rules -/
/-- e.f, an attribute of the instance -/
def tFld (K : PySem.W.Frag) (ta : TE) (f : Str) : TE := fun σ H Q => ta σ H fun x H1 => ∃ a C dx fs v, x = .ref a ∧ H1 a = some (.ins C dx fs) ∧ Cls K C ∧ NoAttr K C f ∧ fs.lookup f = some v ∧ Q v H1
/-- e.f, a constant of the class -/
def tCon (K : PySem.W.Frag) (ta : TE) (f : Str) : TE := fun σ H Q => ta σ H fun x H1 => ∃ a C dx fs v u, x = .ref a ∧ H1 a = some (.ins C dx fs) ∧ Cls K C ∧ Con K C f v u ∧ fs.lookup f = none ∧ Q v H1
/-- e.f = value -/
def sFld (K : PySem.W.Frag) (ta tv : TE) (f : Str) : TS := fun D σ H => tv σ H fun y H1 => ta σ H1 fun x H2 => ∃ a C dx fs, x = .ref a ∧ H2 a = some (.ins C dx fs) ∧ Cls K C ∧ NoAttr K C f ∧ fs.length < 1000 ∧
  D.nx σ (upd H2 a (.ins C dx (putF f y fs)))
/-- an augmented operator on two values -/
def InOp (X : Cx) (op : Operator) (rd : V → V → Hp → VK → Prop) : Prop :=
  ∀ (pins : List (Addr × Obj)) (s : Shared) (σ : St) (H : Hp) (x y : V) (u v : Value) (Q : VK), Inv X pins σ H s → RelV x u → RelV y v → rd x y H Q → wpAny (model X.prog X.w) X.A (inplaceOp op u v) (EP X pins σ Q) X.xe s
/-- e.f op= value -/
def sFldAug (K : PySem.W.Frag) (ta tv : TE) (rd : V → V → Hp → VK → Prop) (f : Str) : TS := fun D σ H => ta σ H fun x H1 => ∃ a C dx fs v, x = .ref a ∧ H1 a = some (.ins C dx fs) ∧ Cls K C ∧ NoAttr K C f ∧ fs.lookup f = some v ∧
  tv σ H1 fun y H2 => rd v y H2 fun z H3 => ∃ dx' fs', H3 a = some (.ins C dx' fs') ∧ fs'.length < 1000 ∧ D.nx σ (upd H3 a (.ins C dx' (putF f z fs')))

section
variable {X : Cx} {o e value : Expr} {f : Str} {pos pos' tpos : Pos} {ta tv : TE}
theorem pe_fld (he : PE X e ta) (hb : attributeBase e f X.env (eval e X.env) = eval e X.env) : PE X (.Attribute e f pos) (tFld X.K ta f) := by
  intro pins s σ H Q I h
  refine attr_of hb (thn (he pins s σ H _ I h) fun u s1 ⟨x, H1, I1, rx, a, C, dx, fs, v, ex, ea, c, n, l, q⟩ => ?_)
  subst ex
  obtain rfl : u = Value.ref a := rx
  exact getattr_ok I1 ea c n l fun u' s2 I2 ru => ⟨v, H1, I2, ru, q⟩
theorem ps_fld (ha : PE X o ta) (hv : PE X value tv) (hs : swapsWith value (some (.Attribute o f pos')) pos.line X.env = pure false) : PS X (.Assign [.Attribute o f pos'] value pos) (sFld X.K ta tv f) := by
  intro pins s σ H D I h
  refine plainObj_wpAny_Assign_Attribute (thn (hv pins s σ H _ I h) fun u s1 ⟨y, H1, I1, ry, q⟩ => thn (ha pins s1 σ H1 _ I1 q) fun ov s2 ⟨x, H2, I2, rx, a, C, dx, fs, ex, ea, c, n, l, q2⟩ => ?_) hs
  subst ex
  obtain rfl : ov = Value.ref a := rx
  exact setattr_ok I2 ea c n l ry fun s3 I3 => ⟨σ, _, I3, q2⟩
def rAdd : V → V → Hp → VK → Prop := fun x y H Q => ∃ i j, x = .int i ∧ y = .int j ∧ Q (.int (i + j)) H
def rSub : V → V → Hp → VK → Prop := fun x y H Q => ∃ i j, x = .int i ∧ y = .int j ∧ Q (.int (i - j)) H

end

/-! ### isinstance -/
section
variable {X : Cx} {pins : List (Addr × Obj)} {σ : St} {H : Hp} {s : Shared} {A : Around} {E : Value → Shared → Prop} {Q : Value → Shared → Prop} {c : Value} {b : Bool}
/-- the type of a value, as the fragment's deciders take it; for an instance its class -/
inductive TyOf (K : PySem.W.Frag) (H : Hp) : V → Value → Prop where
  | non : TyOf K H .non (.type "NoneType")
  | bl (x : Bool) : TyOf K H (.bl x) (.type "bool")
  | int (i : Int) : TyOf K H (.int i) (.type "int")
  | str (x : Str) : TyOf K H (.str x) (.type "str")
  | flt (x : UInt64) : TyOf K H (.flt x) (.type "float")
  | lst {a : Addr} {xs : List V} (e : H a = some (.lst xs)) : TyOf K H (.ref a) (.type "list")
  | frz {a : Addr} {o : Obj} {xs : List V} (e : H a = some (.frz o (.lst xs))) : TyOf K H (.ref a) (.type "list")
  | tup {a : Addr} {xs : List V} (e : H a = some (.tup xs)) : TyOf K H (.ref a) (.type "tuple")
  | dK {a : Addr} {kvs : List (Key × V)} (e : H a = some (.dK kvs)) : TyOf K H (.ref a) (.type "dict")
  | ins {a C dx : Addr} {fs : List (Str × V)} (e : H a = some (.ins C dx fs)) (cl : Cls K C) (ha : PySem.W.findIn K (.ref C) "__class__" = some (some (.builtin "object.__class__")))
      (hn : PySem.W.specialIn K (.builtin "object.__class__") "__get__" = some (some (.builtin "getset_descriptor.__get__"))) (htk : PySem.W.takesIn K (.builtin "object.__class__") = some true)
      (hm : PySem.W.mroIn K C (.type "object") = some true) : TyOf K H (.ref a) (.ref C)
/-- isinstance(x, c) for one class c, a built-in or an own one: kitOne's answer -/
theorem isinst_ok {x : V} {u t : Value} (I : Inv X pins σ H s) (rx : RelV x u) (ty : TyOf X.K H x t) (e : PySem.W.kitOne X.K t c = some b) (h : ∀ tk, Q (.bool b) { s with toks := tk }) :
    wpAny (model X.prog X.w) A (call (.builtin "isinstance") [u, c]) Q E s := by
  cases ty with
  | non => cases (show u = Value.none from rx); exact PySem.W.kia_one PySem.W.kitx_none I.kIn True.intro e (fun z => nomatch z) h
  | bl y => cases (show u = Value.bool y from rx); exact PySem.W.kia_one PySem.W.kitx_bool I.kIn True.intro e (fun z => nomatch z) h
  | int i => obtain ⟨t, q⟩ := (show ∃ t, u = Value.int i t from rx); cases q; exact PySem.W.kia_one PySem.W.kitx_int I.kIn True.intro e (fun z => nomatch z) h
  | str y => obtain ⟨t, q⟩ := (show ∃ t, u = Value.str y t from rx); cases q; exact PySem.W.kia_one PySem.W.kitx_str I.kIn True.intro e (fun z => nomatch z) h
  | flt y => obtain ⟨t, q⟩ := (show ∃ t, u = Value.float y t from rx); cases q; exact PySem.W.kia_one PySem.W.kitx_float I.kIn True.intro e (fun z => nomatch z) h
  | @lst a xs ea =>
    cases (show u = Value.ref a from rx)
    obtain ⟨_, _, n, _, h1⟩ := (show ObjOk X.prog X.w H s.heap a (.lst xs) from I.hok a _ ea)
    exact PySem.W.kia_one PySem.W.kitx_list I.kIn ⟨_, h1, rfl⟩ e (fun z => nomatch z) h
  | @frz a ob xs ea =>
    cases (show u = Value.ref a from rx)
    obtain ⟨_, _, _, n, _, h1⟩ := (show ObjOk X.prog X.w H s.heap a (.frz ob (.lst xs)) from I.hok a _ ea)
    exact PySem.W.kia_one PySem.W.kitx_list I.kIn ⟨_, h1, rfl⟩ e (fun z => nomatch z) h
  | @tup a xs ea =>
    cases (show u = Value.ref a from rx)
    obtain ⟨_, _, _, p⟩ := (show ObjOk X.prog X.w H s.heap a (.tup xs) from I.hok a _ ea)
    obtain ⟨o, h1, h2, _⟩ := p
    exact PySem.W.kia_one PySem.W.kitx_tuple I.kIn ⟨o, h1, h2⟩ e (fun z => nomatch z) h
  | @dK a kvs ea =>
    cases (show u = Value.ref a from rx)
    obtain ⟨_, _, vs, _, p⟩ := (show ObjOk X.prog X.w H s.heap a (.dK kvs) from I.hok a _ ea)
    obtain ⟨o, es, ep, h1, h2, _⟩ := p
    exact PySem.W.kia_one PySem.W.kitx_dict I.kIn ⟨o, h1, h2.1⟩ e (fun z => nomatch z) h
  | @ins a C dx fs ea cl ha hn htk hm =>
    cases (show u = Value.ref a from rx)
    obtain ⟨mA, O, _⟩ := ins_get I.hok ea
    obtain ⟨od, J, _⟩ := O.look
    exact PySem.W.kia_one (PySem.W.kitx_own (cl.get _) cl.hd ha hn htk hm) I.kIn J e (fun z => nomatch z) h
end
end L2

namespace L2
open PySem PySem.Spec PyProof.Rows

/-! ### room -/
structure Room (k : Nat) (A : Around) : Prop where
  hd : A.handled = none
  dp : A.depth + 3 * k + 5 < recursionLimit
  un : A.units + 16 * k + 200 < cLine
theorem Room.mono {j k : Nat} {A : Around} (r : Room k A) (h : j ≤ k) : Room j A := ⟨r.hd, by have := r.dp; omega, by have := r.un; omega⟩
theorem Room.deeper {k : Nat} {A : Around} (r : Room (k + 1) A) (env : Env) : Room k (A.deeper env) :=
  ⟨r.hd, by have := r.dp; show A.depth + 1 + 3 * k + 5 < _; omega, by have := r.un; show A.units + 3 + 16 * k + 200 < _; omega⟩
theorem make_depth {A : Around} {C : Addr} {us : List Value} {kw : List (Str × Value)} : (A.under (.builtin "type.__call__" ⟨.ref C :: us, kw⟩)).depth = A.depth + 1 := by
  first | rfl | simp [Around.under, Code.weight, Code.isCreation, Code.isGuard, Code.isCaller, Code.frames, Code.isFrame, guardIds]
theorem make_units {A : Around} {C : Addr} {us : List Value} {kw : List (Str × Value)} : (A.under (.builtin "type.__call__" ⟨.ref C :: us, kw⟩)).units = A.units + 1 := by
  first | rfl | simp [Around.under, Code.cUnits, Code.frames, Code.isFrame]
theorem Room.make {k : Nat} {A : Around} (r : Room (k + 1) A) (C : Addr) (us : List Value) (kw : List (Str × Value)) : Room k (A.under (.builtin "type.__call__" ⟨.ref C :: us, kw⟩)) :=
  ⟨r.hd, by have := r.dp; rw [make_depth]; omega, by have := r.un; rw [make_units]; omega⟩
theorem Room.depth {k : Nat} {A : Around} (r : Room k A) : A.depth < recursionLimit := by have := r.dp; omega
theorem Room.units0 {k : Nat} {A : Around} (r : Room k A) : A.units < cLine := by have := r.un; omega

/-! ### argument lists and displays -/
def tNil : TA := fun _ H Q => Q [] H
def tCons (ta : TE) (tr : TA) : TA := fun σ H Q => ta σ H fun x H1 => tr σ H1 fun xs H2 => Q (x :: xs) H2
section
variable {X : Cx} {e : Expr} {es : List Expr} {te : TE} {t : TA} {pos : Pos}
theorem pa_nil : PA X [] tNil := fun _ _ _ _ H Q I h => Calls.spliced_nil ⟨[], H, I, .nil, h⟩
theorem pa_cons (ha : PE X e te) (hr : PA X es t) (hs : starEach (e :: es) X.env = (false, eval e X.env) :: starEach es X.env := by rfl) : PA X (e :: es) (tCons te t) := by
  intro pos pins s σ H Q I h
  rw [hs]
  show wpAny _ _ (spliced ((false, eval e X.env) :: backTo pos (starEach es X.env))) _ _ s
  refine Calls.spliced_cons (thn (ha pins s σ H _ I h) fun u s1 ⟨x, H1, I1, r1, q1⟩ => ?_)
  exact thn (hr pos pins s1 σ H1 _ I1 q1) fun us s2 ⟨xs, H2, I2, r2, q2⟩ => ⟨x :: xs, H2, I2, .cons r1 r2, q2⟩

/-- a tuple, a list of written items -/
def tTup (t : TA) : TE := fun σ H Q => t σ H fun xs H1 => xs.length ≤ sizeLine ∧ ∀ p, H1 p = none → Q (.ref p) (upd H1 p (.tup xs))
def tLst (t : TA) : TE := fun σ H Q => t σ H fun xs H1 => xs.length ≤ sizeLine ∧ ∀ p, H1 p = none → Q (.ref p) (upd H1 p (.lst xs))
theorem pe_tup {x1} (h : PA X es t) : PE X (.Tuple es x1 pos) (tTup t) := by
  intro pins s σ H Q I hq
  refine wpAny_Tuple_spliced (thn (h pos pins s σ H _ I hq) fun us s1 ⟨xs, H1, I1, r, z, q⟩ => ⟨by rw [← r.length]; exact z, ?_⟩)
  have hf : H1 s1.heap.objs.size = none := I1.hok.fresh (Nat.le_refl _)
  refine ⟨.ref s1.heap.objs.size, upd H1 s1.heap.objs.size (.tup xs), I1.laid (t' := s1.toks) (fun b u e => Heap.get?_push_of_some _ e) (Nat.le_refl _) ?_, rfl, q _ hf⟩
  exact ⟨z, us, r, ⟨_, Heap.get?_push_size _ rfl, rfl, _, rfl⟩⟩
theorem pe_lst (h : PA X es t) : PE X (.List es pos) (tLst t) := by
  intro pins s σ H Q I hq
  refine wpAny_List_spliced (thn (h pos pins s σ H _ I hq) fun us s1 ⟨xs, H1, I1, r, z, q⟩ => ⟨by rw [← r.length]; exact z, ?_⟩)
  have hf : H1 s1.heap.objs.size = none := I1.hok.fresh (Nat.le_refl _)
  refine ⟨.ref s1.heap.objs.size, upd H1 s1.heap.objs.size (.lst xs), I1.laid (t' := s1.toks) (fun b u e => Heap.get?_push_of_some _ e) (Nat.le_refl _) ?_, rfl, q _ hf⟩
  exact ⟨z, us, 0, r, Heap.get?_push_size _ rfl⟩
end

/-! ### what a def promises -/
/-- a def's promise: the bound arguments in the parameters' order, the heap, the wanted end, the wanted exception -/
abbrev Sp := List V → Hp → VK → XK → Prop
/-- how an exception lies behind a call (file 08 gives it): the callers' frames, abstract heap and state ahead of the call, the wish, the exception, the state -/
abbrev CXT := List Env → Hp → Shared → XK → Value → Shared → Prop

/-- the state at a call -/
structure Env0 (P : Program) (w : World) (K : PySem.W.Frag) (mg : Str → Option Value) (base : Heap) (A : Around) (outer : List Env) (s : Shared) (H : Hp) : Prop where
  frames : A.frames = some outer
  mod : Mod K mg base
  bs : ∀ b o, base.get? b = some o → s.heap.get? b = some o ∧ H b = none
  bsz : base.objs.size ≤ s.heap.objs.size
  funs : s.heap.FunFrames base outer
  frf : ∀ b ∈ frs outer, H b = none
  hok : HOk P w H s.heap
  bare : AllBare s.gens
/-- a call's end -/
def CE (outer : List Env) (P : Program) (w : World) (H : Hp) (s : Shared) (Q : VK) (u : Value) (s' : Shared) : Prop :=
  ∃ v H', s'.os = s.os ∧ AllBare s'.gens ∧ Un (frs outer) [] H H' s.heap s'.heap ∧ HOk P w H' s'.heap ∧ RelV v u ∧ Q v H'
def CR (CX : CXT) (outer : List Env) (P : Program) (w : World) (H : Hp) (s : Shared) (Q : VK) (E : XK) (r : Result) (s' : Shared) : Prop :=
  match r with
  | .ok (.ret u) => CE outer P w H s Q u s'
  | .ok _ => False
  | .error e => CX outer H s E e s'
structure FnOk (P : Program) (w : World) (K : PySem.W.Frag) (mg : Str → Option Value) (base : Heap) (CX : CXT) (k : Nat) (f : Addr) (fd : FuncData) (ps : List Str) (sp : Sp) : Prop where
  len : ∀ vs H Q E, sp vs H Q E → vs.length = ps.length
  run : ∀ (A : Around) (outer : List Env) (s : Shared) (H : Hp) (args : Args) (us : List Value) (vs : List V) (Q : VK) (E : XK), Room k A → Env0 P w K mg base A outer s H → BindsTo s fd args (ps.zip us) → Vals vs us → sp vs H Q E →
    codeAny (model P w) A (.call (.ref f) args) (CR CX outer P w H s Q E) s
theorem FnOk.mono {P : Program} {w : World} {K : PySem.W.Frag} {mg : Str → Option Value} {base : Heap} {CX : CXT} {j k : Nat} {f : Addr} {fd : FuncData} {ps : List Str} {sp : Sp} (F : FnOk P w K mg base CX j f fd ps sp) (h : j ≤ k) :
    FnOk P w K mg base CX k f fd ps sp := ⟨F.len, fun A outer s H args us vs Q E hr => F.run A outer s H args us vs Q E (hr.mono h)⟩

theorem Env0.make {P : Program} {w : World} {K : PySem.W.Frag} {mg : Str → Option Value} {base : Heap} {A : Around} {outer : List Env} {s : Shared} {H : Hp} (e : Env0 P w K mg base A outer s H) (C : Addr) (us : List Value) (kw : List (Str × Value)) :
    Env0 P w K mg base (A.under (.builtin "type.__call__" ⟨.ref C :: us, kw⟩)) outer s H := ⟨by first | exact e.frames | (simpa [Around.under, Code.envs, Code.isFrame, pushEnvs] using e.frames), e.mod, e.bs, e.bsz, e.funs, e.frf, e.hok, e.bare⟩

section
variable {X : Cx} {pins : List (Addr × Obj)} {σ : St} {H : Hp} {s s' : Shared}
/-- from a body: what a callee wants -/
theorem Inv.env0 (I : Inv X pins σ H s) : Env0 X.prog X.w X.K X.mg X.base X.A X.stack s H :=
  ⟨I.ok.frames, I.ok.mod, I.bs, Nat.le_trans I.ok.bsz I.sz, I.stack, I.stkFree, I.hok, I.bare⟩
/-- behind a call -/
theorem Inv.after {Q : VK} {u : Value} (I : Inv X pins σ H s) (h : CE X.stack X.prog X.w H s Q u s') : EP X pins σ Q u s' := by
  obtain ⟨v, H', os, bare, un, hok, r, q⟩ := h
  obtain ⟨hh, g, d, t, os'⟩ := s'
  obtain rfl : os' = s.os := os
  exact ⟨v, H', I.call (h' := hh) (g' := g) (d' := d) (t' := t) (ch := []) un hok bare (fun b z => absurd z (by simp)), r, q⟩
end

/-! ### calls -/
/-- f(..): the written arguments, then the defaults dvs; E: what is wanted of an exception -/
def tCall (sp : Sp) (dvs : List V) (E : XK) (t : TA) : TE := fun σ H Q => t σ H fun vs H1 => sp (vs ++ dvs) H1 Q E
/-- o.m(..) of an instance of the class at C -/
def tMeth (C : Addr) (m : Str) (sp : Sp) (dvs : List V) (E : XK) (ta : TE) (t : TA) : TE := fun σ H Q => ta σ H fun x H1 => ∃ a dx fs, x = .ref a ∧ H1 a = some (.ins C dx fs) ∧ fs.lookup m = none ∧
  t σ H1 fun vs H2 => sp (x :: (vs ++ dvs)) H2 Q E
/-- C(..): a new instance and its dict, then __init__ -/
def tMake (C : Addr) (sp : Sp) (dvs : List V) (E : XK) (t : TA) : TE := fun σ H Q => t σ H fun vs H1 => ∀ x dx, H1 x = none → H1 dx = none → dx ≠ x →
  sp (.ref x :: (vs ++ dvs)) (upd (upd H1 dx (.own x)) x (.ins C dx [])) (fun v H2 => v = .non ∧ Q (.ref x) H2) E

/-- how the parameters are bound: us the positional arguments, kw the keywords' values by name, ds the defaults that fill up -/
def Binds (K : PySem.W.Frag) (fd : FuncData) (ps : List Str) (ds : List Value) : Prop :=
  ∀ (s : Shared) (us : List Value), K.In s.heap → (us ++ ds).length = ps.length → BindsTo s fd ⟨us, []⟩ (ps.zip (us ++ ds))
/-- every parameter is given -/
theorem Binds.all {K : PySem.W.Frag} {fd : FuncData} {ps : List Str} (h : ∀ us : List Value, us.length = ps.length → bindArgs fd ⟨us, []⟩ = pure (ps.zip us)) : Binds K fd ps [] := fun s us _ hl => by
  rw [List.append_nil] at hl ⊢
  exact .of_eq (h us hl)

/-- an exception of a callee reaches what this body wants of exceptions -/
def Passes (CX : CXT) (X : Cx) (E : XK) : Prop := ∀ (pins : List (Addr × Obj)) (σ : St) (H : Hp) (s : Shared) (e : Value) (s' : Shared), Inv X pins σ H s → CX X.stack H s E e s' → X.xe e s'

section
variable {X : Cx} {CX : CXT} {k : Nat} {f C : Addr} {fd : FuncData} {ps : List Str} {sp : Sp} {dvs : List V} {ds : List Value} {E : XK} {x m : Str} {p pos apos : Pos} {e o : Expr} {es : List Expr} {ta : TE} {t : TA}

/-- the callee runs -/
theorem run_fn {pins : List (Addr × Obj)} {σ : St} {H : Hp} {s : Shared} {Q : VK} {us : List Value} {vs : List V} (F : FnOk X.prog X.w X.K X.mg X.base CX k f fd ps sp) (hr : Room k X.A) (hb : Binds X.K fd ps ds) (hd : Vals dvs ds) (hx : Passes CX X E)
    (I : Inv X pins σ H s) (r : Vals vs us) (h : sp (vs ++ dvs) H Q E) : wpAny (model X.prog X.w) X.A (call (.ref f) us) (EP X pins σ Q) X.xe s := by
  have r2 : Vals (vs ++ dvs) (us ++ ds) := r.append hd
  have hl : (us ++ ds).length = ps.length := by rw [← r2.length]; exact F.len _ _ _ _ h
  refine wpAny_call (codeAny_mono (F.run X.A X.stack s H ⟨us, []⟩ (us ++ ds) (vs ++ dvs) Q E hr I.env0 (hb s us I.kIn hl) r2 h) fun r s' hq => ?_)
  cases r with
  | error e => exact hx pins σ H s e s' I hq
  | ok fl =>
    cases fl with
    | ret u => exact I.after hq
    | next => exact False.elim hq
    | brk => exact False.elim hq
    | cont => exact False.elim hq

theorem pe_call (F : FnOk X.prog X.w X.K X.mg X.base CX k f fd ps sp) (hr : Room k X.A) (hg : Gl X x) (hm : X.mg x = some (.ref f)) (hk : PySem.W.keepIn X.K (.ref f) = true) (hb : Binds X.K fd ps ds) (hd : Vals dvs ds) (hx : Passes CX X E)
    (ha : PA X (e :: es) t) (hdb : (x == ("__debug__" : Str)) = false := by decide) (he : starEach (e :: es) X.env = (false, eval e X.env) :: starEach es X.env := by rfl) (hpl : (backTo pos (starEach es X.env)).any (·.1) = false := by rfl) :
    PE X (.Call (.Name x p) (e :: es) [] pos) (tCall sp dvs E t) := by
  intro pins s σ H Q I h
  refine wpAny_Call_Name_kw (ld_glob I hg hm ?_ hdb)
  refine PySem.W.callWith_K (h₀ := X.base) I.ok.mod.kin hk (thn (ha pos pins s σ H _ I h) fun us s1 ⟨vs, H1, I1, r, q⟩ => ⟨I1.kIn, ?_⟩) he hpl
  exact run_fn F hr hb hd hx I1 r q
theorem pe_call0 (F : FnOk X.prog X.w X.K X.mg X.base CX k f fd ps sp) (hr : Room k X.A) (hg : Gl X x) (hm : X.mg x = some (.ref f)) (hk : PySem.W.keepIn X.K (.ref f) = true) (hb : Binds X.K fd ps ds) (hd : Vals dvs ds) (hx : Passes CX X E)
    (hdb : (x == ("__debug__" : Str)) = false := by decide) : PE X (.Call (.Name x p) [] [] pos) (tCall sp dvs E tNil) := by
  intro pins s σ H Q I h
  refine wpAny_Call_Name_kw (ld_glob I hg hm ?_ hdb)
  exact PySem.W.callWith_K0 I.kIn hk (run_fn (us := []) F hr hb hd hx I .nil h)


/-- what a class must have to be made -/
structure Mk (K : PySem.W.Frag) (C f : Addr) : Prop where
  makes : PySem.W.makesIn K C = true
  init : PySem.W.findIn K (.ref C) "__init__" = some (some (.ref f))
  fn : PySem.W.isFn K (.ref f) = true
  kp : PySem.W.keepIn K (.ref C) = true

theorem run_make {pins : List (Addr × Obj)} {σ : St} {H : Hp} {s : Shared} {Q : VK} {us : List Value} {vs : List V} (M : Mk X.K C f) (F : FnOk X.prog X.w X.K X.mg X.base CX k f fd ps sp) (hr : Room (k + 1) X.A) (hb : Binds X.K fd ps ds) (hd : Vals dvs ds)
    (hx : Passes CX X E) (I : Inv X pins σ H s) (r : Vals vs us)
    (h : ∀ x dx, H x = none → H dx = none → dx ≠ x → sp (.ref x :: (vs ++ dvs)) (upd (upd H dx (.own x)) x (.ins C dx [])) (fun v H2 => v = .non ∧ Q (.ref x) H2) E) :
    wpAny (model X.prog X.w) X.A (call (.ref C) us) (EP X pins σ Q) X.xe s := by
  have hq := h (s.heap.objs.size + 1) s.heap.objs.size (I.hok.fresh (Nat.le_succ _)) (I.hok.fresh (Nat.le_refl _)) (Nat.ne_of_lt (Nat.lt_succ_self _))
  have I2 := Inv.made (C := C) I
  have r2 : Vals (V.ref (s.heap.objs.size + 1) :: (vs ++ dvs)) (Value.ref (s.heap.objs.size + 1) :: (us ++ ds)) := .cons rfl (r.append hd)
  have hl : (Value.ref (s.heap.objs.size + 1) :: us ++ ds).length = ps.length := by
    have e := r2.length
    rw [F.len _ _ _ _ hq] at e
    exact e.symm
  refine wpAny_call (make_map (f := f) I.kIn M.makes M.init (beq_iff_eq.mp M.fn) (codeAny_mono (F.run _ X.stack _ _ ⟨Value.ref (s.heap.objs.size + 1) :: us, []⟩ (Value.ref (s.heap.objs.size + 1) :: (us ++ ds)) _ _ E (hr.make C us [])
    (I2.env0.make C us []) (hb _ (Value.ref (s.heap.objs.size + 1) :: us) I2.kIn hl) r2 hq) fun r s' hq' => ?_))
  cases r with
  | error e => exact hx pins σ _ _ e s' I2 hq'
  | ok fl =>
    cases fl with
    | ret u =>
      obtain ⟨v, H', I3, rv, ev, q3⟩ := I2.after hq'
      subst ev
      exact ⟨rv, ⟨V.ref (s.heap.objs.size + 1), H', I3, rfl, q3⟩⟩
    | next => exact False.elim hq'
    | brk => exact False.elim hq'
    | cont => exact False.elim hq'
theorem pe_make (M : Mk X.K C f) (F : FnOk X.prog X.w X.K X.mg X.base CX k f fd ps sp) (hr : Room (k + 1) X.A) (hg : Gl X x) (hm : X.mg x = some (.ref C)) (hb : Binds X.K fd ps ds) (hd : Vals dvs ds) (hx : Passes CX X E)
    (ha : PA X (e :: es) t) (hdb : (x == ("__debug__" : Str)) = false := by decide) (he : starEach (e :: es) X.env = (false, eval e X.env) :: starEach es X.env := by rfl) (hpl : (backTo pos (starEach es X.env)).any (·.1) = false := by rfl) :
    PE X (.Call (.Name x p) (e :: es) [] pos) (tMake C sp dvs E t) := by
  intro pins s σ H Q I h
  refine wpAny_Call_Name_kw (ld_glob I hg hm ?_ hdb)
  refine PySem.W.callWith_K (h₀ := X.base) I.ok.mod.kin M.kp (thn (ha pos pins s σ H _ I h) fun us s1 ⟨vs, H1, I1, r, q⟩ => ⟨I1.kIn, ?_⟩) he hpl
  exact run_make M F hr hb hd hx I1 r q
theorem pe_make0 (M : Mk X.K C f) (F : FnOk X.prog X.w X.K X.mg X.base CX k f fd ps sp) (hr : Room (k + 1) X.A) (hg : Gl X x) (hm : X.mg x = some (.ref C)) (hb : Binds X.K fd ps ds) (hd : Vals dvs ds) (hx : Passes CX X E)
    (hdb : (x == ("__debug__" : Str)) = false := by decide) : PE X (.Call (.Name x p) [] [] pos) (tMake C sp dvs E tNil) := by
  intro pins s σ H Q I h
  refine wpAny_Call_Name_kw (ld_glob I hg hm ?_ hdb)
  exact PySem.W.callWith_K0 I.kIn M.kp (run_make (us := []) M F hr hb hd hx I .nil h)
end

/-! ### keywords -/
/-- the values of the keywords, from the left -/
def PK (X : Cx) (kws : List Keyword) (t : TA) : Prop :=
  ∀ (pos : Pos) (pins : List (Addr × Obj)) (s : Shared) (σ : St) (H : Hp) (Q : List V → Hp → Prop), Inv X pins σ H s → t σ H Q → wpAny (model X.prog X.w) X.A (evalAll ((backToKw pos (keywordEach kws X.env)).map (·.2))) (AP X pins σ Q) X.xe s
section
variable {X : Cx} {CX : CXT} {k : Nat} {f C : Addr} {fd : FuncData} {ps ks : List Str} {sp : Sp} {E : XK} {x m : Str} {p pos apos kpos : Pos} {e o : Expr} {es : List Expr} {kws : List Keyword} {te ta : TE} {t tk : TA} {nm : Option Str}

/-- how a call with keywords binds: g puts the positional values us and the keywords' values ws (names ks) in the parameters' order, defaults among them -/
structure KBinds (K : PySem.W.Frag) (fd : FuncData) (ps ks : List Str) (g : List Value → List Value → List Value) (gV : List V → List V → List V) : Prop where
  to : ∀ (s : Shared) (us ws : List Value), K.In s.heap → (g us ws).length = ps.length → BindsTo s fd ⟨us, ks.zip ws⟩ (ps.zip (g us ws))
  rel : ∀ {vs : List V} {us : List Value} {zs : List V} {ws : List Value}, Vals vs us → Vals zs ws → Vals (gV vs zs) (g us ws)
def tCallK (sp : Sp) (gV : List V → List V → List V) (E : XK) (t tk : TA) : TE := fun σ H Q => t σ H fun vs H1 => tk σ H1 fun zs H2 => sp (gV vs zs) H2 Q E
variable {g : List Value → List Value → List Value} {gV : List V → List V → List V}
end

/-! ### a def's body keeps its promise -/
/-- names: the parameters first -/
structure FnScope (N P : List Str) (sc : Scope) : Prop where
  kind : sc.kind = .function
  co : sc.isCoroutine = false
  gen : sc.isGenerator = false
  nd : N.Nodup
  pre : N.take P.length = P
  par : ∀ x ∈ P, sc.names.lookup x = some .local ∨ sc.names.lookup x = some .cell
  nofree : ∀ y ∈ sc.names, y.2 ≠ .free

theorem bindL_out {kindOf : Str → Option NameKind} {x : Str} : ∀ {binds : List (Str × Value)} {m : Str → Option Value}, (∀ v, (x, v) ∉ binds) → bindL kindOf binds m x = m x
  | [], _, _ => rfl
  | (n, v) :: r, m, h => by
    unfold bindL
    rw [bindL_out fun w hw => h w (List.mem_cons_of_mem _ hw)]
    split
    · have : x ≠ n := by rintro rfl; exact h v List.mem_cons_self
      simp [this]
    · rfl
theorem bindC_out {kindOf : Str → Option NameKind} {x : Str} : ∀ {binds : List (Str × Value)} {m : Str → Option Value}, (∀ v, (x, v) ∉ binds) → bindC kindOf binds m x = m x
  | [], _, _ => rfl
  | (n, v) :: r, m, h => by
    unfold bindC
    rw [bindC_out fun w hw => h w (List.mem_cons_of_mem _ hw)]
    split
    · rfl
    · have : x ≠ n := by rintro rfl; exact h v List.mem_cons_self
      simp [this]
theorem bindL_get {kindOf : Str → Option NameKind} {x : Str} {v : Value} : ∀ {P : List Str} {vs : List Value} {i : Nat} {m : Str → Option Value}, P.Nodup → P[i]? = some x → vs[i]? = some v → kindOf x = some .local →
    bindL kindOf (P.zip vs) m x = some v
  | [], _, _, _, _, h, _, _ => by simp at h
  | _ :: _, [], _, _, _, _, h, _ => by simp at h
  | p :: P, w :: vs, 0, m, nd, h1, h2, hk => by
    simp at h1 h2; subst h1; subst h2
    show bindL kindOf ((p, w) :: P.zip vs) m p = _
    unfold bindL
    rw [bindL_out fun v hv => (List.nodup_cons.mp nd).1 (List.of_mem_zip hv).1, if_pos hk]
    simp
  | p :: P, w :: vs, i + 1, m, nd, h1, h2, hk => by
    show bindL kindOf ((p, w) :: P.zip vs) m x = _
    unfold bindL
    exact bindL_get (i := i) (List.nodup_cons.mp nd).2 (by simpa using h1) (by simpa using h2) hk
theorem bindC_get {kindOf : Str → Option NameKind} {x : Str} {v : Value} : ∀ {P : List Str} {vs : List Value} {i : Nat} {m : Str → Option Value}, P.Nodup → P[i]? = some x → vs[i]? = some v → kindOf x ≠ some .local →
    bindC kindOf (P.zip vs) m x = some v
  | [], _, _, _, _, h, _, _ => by simp at h
  | _ :: _, [], _, _, _, _, h, _ => by simp at h
  | p :: P, w :: vs, 0, m, nd, h1, h2, hk => by
    simp at h1 h2; subst h1; subst h2
    show bindC kindOf ((p, w) :: P.zip vs) m p = _
    unfold bindC
    rw [bindC_out fun v hv => (List.nodup_cons.mp nd).1 (List.of_mem_zip hv).1, if_neg hk]
    simp
  | p :: P, w :: vs, i + 1, m, nd, h1, h2, hk => by
    show bindC kindOf ((p, w) :: P.zip vs) m x = _
    unfold bindC
    exact bindC_get (i := i) (List.nodup_cons.mp nd).2 (by simpa using h1) (by simpa using h2) hk

/-- the names' values at the entry -/
def start (N : List Str) (vs : List V) : St := vs.map some ++ List.replicate (N.length - vs.length) none

/-- the context of a def's body, at its entry; an exception leaves the frame, then lies as CX says -/
def cxOf (CX : CXT) (P : Program) (w : World) (K : PySem.W.Frag) (mg : Str → Option Value) (base : Heap) (N : List Str) (qual : Str) (scope : Scope) (f : Addr) (cd : Value) (A : Around) (outer : List Env) (s : Shared) (H : Hp) (E : XK) : Cx where
  prog := P
  w := w
  K := K
  mg := mg
  base := base
  A := A.deeper (envOfC qual scope s.heap.objs.size f cd)
  N := N
  s₀ := s
  H₀ := H
  env := envOfC qual scope s.heap.objs.size f cd
  outer := outer
  stack := envOfC qual scope s.heap.objs.size f cd :: outer
  ex := []
  calm := true
  fn := fun _ => true
  pn := []
  xe := fun e s' => wpAny (model P w) (A.deeper (envOfC qual scope s.heap.objs.size f cd)) (leaving (envOfC qual scope s.heap.objs.size f cd) e) (fun _ s'' => CX outer H s E e s'') (fun e' s'' => CX outer H s E e' s'') s'

theorem cell_has {sc : Scope} {n : Nat} {x : Str} (h : sc.names.lookup x = some .cell) : ∃ c, (cellsFrom n sc.names []).lookup x = some c := by
  have q := PySem.W.cellsFrom_some sc.names n [] (.inl h)
  exact Option.isSome_iff_exists.mp q

theorem inv_start {CX : CXT} {P : Program} {w : World} {K : PySem.W.Frag} {mg : Str → Option Value} {base : Heap} {N ps : List Str} {qual : Str} {scope : Scope} {f : Addr} {cd : Value} {A : Around} {outer : List Env} {s s1 : Shared} {H : Hp} {E : XK} {us : List Value} {vs : List V}
    (S : FnScope N ps scope) (hd : A.handled = none) (e0 : Env0 P w K mg base A outer s H) (hl : vs.length = ps.length) (r : Vals vs us)
    (x : InCallC s s.heap.objs.size (bindL (envOfC qual scope s.heap.objs.size f cd).kindOf (ps.zip us) fun _ => none) (cellsFrom (s.heap.objs.size + 1) scope.names []) (bindC (envOfC qual scope s.heap.objs.size f cd).kindOf (ps.zip us) fun _ => none) s1) :
    Inv (cxOf CX P w K mg base N qual scope f cd A outer s H E) [] (start N vs) H s1 := by
  have hpl : ps.length ≤ N.length := by have := congrArg List.length S.pre; rw [List.length_take] at this; omega
  obtain ⟨h1, tk, rfl, hk⟩ := x.done
  have noA : ∀ b : Addr, b ∉ (cxOf CX P w K mg base N qual scope f cd A outer s H E).ex := fun b z => absurd (show b ∈ ([] : List Addr) from z) (by simp)
  refine ⟨⟨e0.mod, S.kind, rfl, rfl, Nat.le_refl _, fun y z c h1 h2 => ?_, fun y hy => ?_, fun y c _ h => ?_, fun _ => hd, Around.frames_deeper e0.frames, .inr ⟨rfl, rfl⟩, fun b z => absurd z (noA b), e0.bs, e0.bsz, fun b _ _ => noA b, fun b z => absurd z (noA b), e0.funs, e0.frf⟩,
    rfl, e0.bare, Un.kept hk, ⟨_, x.toInCall.ns, fun i y v h1 h2 h3 => ?_⟩, fun y c h => ⟨_, x.cell y c h⟩, e0.hok.fresh (Nat.le_refl _), fun y c h => ?_, fun p hp => absurd (show p ∈ ([] : List (Addr × Obj)) from hp) (by simp), e0.hok.kept hk, ?_⟩
  · exact name_of_addr x.apart (PySem.mem_of_lookup h1) (PySem.mem_of_lookup h2)
  · have hy : scope.names.lookup y = some .cell ∨ scope.names.lookup y = some .free := hy
    rcases hy with hy | hy
    · exact cell_has hy
    · exact absurd rfl (S.nofree _ (PySem.mem_of_lookup hy))
  · exact Nat.le_of_lt (x.above y c (PySem.mem_of_lookup h))
  · have hi : i < vs.length := by
      unfold start at h2
      by_cases hi : i < vs.length
      · exact hi
      · rw [List.getElem?_append_right (by simpa using hi)] at h2
        rw [List.getElem?_replicate] at h2
        split at h2 <;> cases h2
    have ha : vs[i]? = some v := by
      unfold start at h2
      rw [List.getElem?_append_left (by simpa using hi), List.getElem?_map] at h2
      cases e : vs[i]? with
      | none => rw [e] at h2; cases h2
      | some a => rw [e] at h2; cases h2; rfl
    obtain ⟨u, hu, rv⟩ := r.get ha
    have hp : ps[i]? = some y := by
      rw [← S.pre, List.getElem?_take_of_lt (by omega)]; exact h1
    have ndP : ps.Nodup := by rw [← S.pre]; exact S.nd.sublist (List.take_sublist _ _)
    refine ⟨u, rv, ?_⟩
    rcases S.par y (List.mem_of_getElem? hp) with k | k
    · exact .inl ⟨k, bindL_get ndP hp hu k⟩
    · obtain ⟨c, e⟩ := cell_has (n := s.heap.objs.size + 1) k
      refine .inr ⟨.inl k, c, e, ?_⟩
      have q := x.cell y c e
      rw [bindC_get ndP hp hu (by show scope.names.lookup y ≠ _; rw [k]; decide)] at q
      exact q
  · exact e0.hok.fresh (Nat.le_of_lt (x.above y c (PySem.mem_of_lookup h)))
  · unfold start
    show _ = N.length
    rw [List.length_append, List.length_map, List.length_replicate]
    omega

/-- THE RULE: a def (or a method) of the text, by its body. The body's reading t is chosen for each entry; it is run at the parameters' values -/
theorem fn_of {CX : CXT} {P : Program} {w : World} {K : PySem.W.Frag} {mg : Str → Option Value} {base : Heap} {k : Nat} {f : Addr} {name qual : Str} {params : Arguments} {body : List Stmt} {scope : Scope} {dV kV doc pm cdv ct oc : Value} {an od : Option Addr}
    {osl : Array (Option Value)} {N ps : List Str} {sp : Sp} (lk : K.lookup f = some ⟨oc, od, .func (PySem.W.fnOf name qual params body scope dV kV doc pm an cdv ct), osl⟩) (hcd : PySem.W.codeIn K cdv qual = true) (S : FnScope N ps scope)
    (len : ∀ vs H Q E, sp vs H Q E → vs.length = ps.length)
    (hbody : ∀ (A : Around) (outer : List Env) (s : Shared) (H : Hp) (vs : List V) (Q : VK) (E : XK), Room k (A.deeper (envOfC qual scope s.heap.objs.size f cdv)) → sp vs H Q E →
      ∃ t, PSs (cxOf CX P w K mg base N qual scope f cdv A outer s H E) body t ∧ t { nx := fun _ H' => Q .non H', rt := Q } (start N vs) H) :
    FnOk P w K mg base CX (k + 1) f (PySem.W.fnOf name qual params body scope dV kV doc pm an cdv ct) ps sp := by
  refine ⟨len, fun A outer s H args us vs Q E hr e0 hb r hsp => ?_⟩
  have hl := len _ _ _ _ hsp
  have KX : K.In s.heap := e0.mod.kin.keeps fun b o e => (e0.bs b o e).1
  have lim : s.heap.NoLimit := e0.mod.nolimit.keeps fun b o e => (e0.bs b o e).1
  have hkind : ∀ y ∈ ps.zip us, scope.names.lookup y.1 = some .local ∨ (scope.names.lookup y.1 = some .cell ∧ ((cellsFrom (s.heap.objs.size + 1) scope.names []).lookup y.1).isSome = true) := fun ⟨n, v⟩ hy => by
    rcases S.par n (List.of_mem_zip hy).1 with q | q
    · exact .inl q
    · exact .inr ⟨q, PySem.W.cellsFrom_some _ _ _ (.inl q)⟩
  refine codeAny_call_function hr.depth (KX _ _ lk) rfl S.co S.gen rfl (PySem.W.codeRec_of KX hcd) (hb _ _ _ _ ?_)
  refine wpAny_newFunctionEnv_cells S.kind hkind fun env he s1 x => ?_
  subst he
  refine ⟨lim.keeps x.toInCall.keep, codeAny_func ?_⟩
  obtain ⟨t, ht, hq⟩ := hbody A outer s H vs Q E (hr.deeper _) hsp
  have I : Inv (cxOf CX P w K mg base N qual scope f cdv A outer s H E) [] (start N vs) H s1 := inv_start S hr.hd e0 hl r x
  refine wpAny_mono (ht [] s1 (start N vs) H _ I hq) (fun fl s' hs => ?_) fun e s' hs => hs
  have fin : ∀ {σ' : St} {H' : Hp} {v : V} {u : Value}, Inv (cxOf CX P w K mg base N qual scope f cdv A outer s H E) [] σ' H' s' → RelV v u → Q v H' → CE outer P w H s Q u s' :=
    fun {σ' H' v u} J rv q => ⟨v, H', J.os, J.bare, J.base, J.hok, rv, q⟩
  cases fl with
  | ret u =>
    obtain ⟨v, σ', H', J, rv, q⟩ := hs
    exact fin J rv q
  | next =>
    obtain ⟨σ', H', J, q⟩ := hs
    exact fin (v := V.non) (u := Value.none) J rfl q
  | brk =>
    obtain ⟨_, _, _, q⟩ := hs
    exact False.elim q
  | cont =>
    obtain ⟨_, _, _, q⟩ := hs
    exact False.elim q
end L2

namespace L2
open PySem PySem.Spec PyProof.Rows
section
variable {X : Cx} {x : Str} {p pos : Pos} {e : Expr} {es : List Expr} {t : TA} {id T : String} {r : List V → Hp → VK → Prop}

def tCB (r : List V → Hp → VK → Prop) (t : TA) : TE := fun σ H Q => t σ H fun vs H1 => r vs H1 Q
/-- f(e, ..), f a built-in function -/
theorem pe_callB (hc : CallR X (.builtin id) r) (hg : Gl X x) (hm : X.mg x = none) (hv : bootBuiltins x = some (.builtin id)) (ha : PA X (e :: es) t) (hn : x ≠ "__name__" := by decide) (hdb : (x == ("__debug__" : Str)) = false := by decide)
    (he : starEach (e :: es) X.env = (false, eval e X.env) :: starEach es X.env := by rfl) (hpl : (backTo pos (starEach es X.env)).any (·.1) = false := by rfl) : PE X (.Call (.Name x p) (e :: es) [] pos) (tCB r t) := by
  intro pins s σ H Q I h
  refine wpAny_Call_Name_kw (ld_blt I hg hm hv ?_ hn hdb)
  exact PyProof.Rows.callWith_builtin1 (thn (ha pos pins s σ H _ I h) fun us s1 ⟨vs, H1, I1, r1, q1⟩ => hc pins s1 σ H1 vs us Q I1 r1 q1) he hpl
/-- T(e, ..), T a built-in type -/
theorem pe_callTy (hc : CallR X (.type T) r) (hg : Gl X x) (hm : X.mg x = none) (hv : bootBuiltins x = some (.type T)) (ha : PA X (e :: es) t) (hn : x ≠ "__name__" := by decide) (hdb : (x == ("__debug__" : Str)) = false := by decide)
    (he : starEach (e :: es) X.env = (false, eval e X.env) :: starEach es X.env := by rfl) (hpl : (backTo pos (starEach es X.env)).any (·.1) = false := by rfl) : PE X (.Call (.Name x p) (e :: es) [] pos) (tCB r t) := by
  intro pins s σ H Q I h
  refine wpAny_Call_Name_kw (ld_blt I hg hm hv ?_ hn hdb)
  exact PyProof.Rows.callWith_type1 (thn (ha pos pins s σ H _ I h) fun us s1 ⟨vs, H1, I1, r1, q1⟩ => hc pins s1 σ H1 vs us Q I1 r1 q1) he hpl
end
end L2

namespace HT
open PySem PyProof.Rows

/-- t < u of tuples of ints -/
def lexLt : List Int → List Int → Bool
  | [], [] => false
  | [], _ :: _ => true
  | _ :: _, [] => false
  | x :: xs, y :: ys => if x = y then lexLt xs ys else decide (x < y)


section
open PySem.SeqAt
open PySem.AutoSeq1 (wpAny_loadPart')
open PySem.MeetsSeq PySem.MeetsSeq2 PySem.MeetsSeq3

end

section
variable {prog : Program} {w : World} {A : Around} {E : Value → Shared → Prop} {s : Shared}



/-! ### t[a:b], not the whole -/
/-- a slice's bound as a place among n (d where it is left out) -/
def sIx (n d : Nat) : Option Int → Nat
  | none => d
  | some v => if v < 0 then (v + (n : Int)).toNat else min v.toNat n
theorem sIx_none (n d : Nat) : sIx n d none = d := rfl
theorem sIx_nat (n d k : Nat) : sIx n d (some (k : Int)) = min k n := by
  show (if (k : Int) < 0 then ((k : Int) + (n : Int)).toNat else min (k : Int).toNat n) = min k n
  rw [if_neg (by omega), Int.toNat_natCast]

end
end HT

namespace L2
open PySem PySem.Spec PyProof.Rows

/-! ### the parts of a slice -/
abbrev TO := St → Hp → (Option Int → Hp → Prop) → Prop
/-- a slice's part (left out, or an int) -/
def PO (X : Cx) (e : Option Expr) (t : TO) : Prop :=
  ∀ (pins : List (Addr × Obj)) (s : Shared) (σ : St) (H : Hp) (Q : Option Int → Hp → Prop), Inv X pins σ H s → t σ H Q →
    wpAny (model X.prog X.w) X.A (evalPart e X.env) (fun u s' => ∃ o H', Inv X pins σ H' s' ∧ IsPart u o ∧ Q o H') X.xe s
def tNoPart : TO := fun _ H Q => Q none H
def tPart (t : TE) : TO := fun σ H Q => t σ H fun x H1 => ∃ i, x = .int i ∧ Q (some i) H1


section
variable {X : Cx} {e : Expr} {te : TE} {lo hi : Option Expr} {tl th : TO} {pos p2 : Pos}

theorem po_none : PO X none tNoPart := by
  intro pins s σ H Q I h
  rw [evalPart_none]
  exact wpAny_pure ⟨none, H, I, .none, h⟩
theorem po_some (h : PE X e te) : PO X (some e) (tPart te) := by
  intro pins s σ H Q I hw
  rw [evalPart_some]
  refine thn (h pins s σ H _ I hw) fun u s1 ⟨x, H1, I1, r1, q1⟩ => ?_
  obtain ⟨i, rfl, q⟩ := q1
  obtain ⟨t, rfl⟩ := r1
  exact ⟨some i, H1, I1, .int i t, q⟩

/-- what a slice of a value is, by values: the slice object stands at sl -/
def SlR (X : Cx) (r : V → Option Int → Option Int → Hp → VK → Prop) : Prop :=
  ∀ (pins : List (Addr × Obj)) (s : Shared) (σ : St) (H : Hp) (x : V) (v vl vu : Value) (lo hi : Option Int) (sl : Addr) (Q : VK), Inv X pins σ H s → RelV x v → s.heap.IsSliceOf sl vl vu .none → IsPart vl lo → IsPart vu hi → r x lo hi H Q →
    ∃ T id, typeLookup (.type T) "__getitem__" = pure (some (.builtin id)) ∧ s.TypeIs v T ∧ wpAny (model X.prog X.w) X.A (getItem v (.ref sl)) (EP X pins σ Q) X.xe s
def tSl (r : V → Option Int → Option Int → Hp → VK → Prop) (te : TE) (tl th : TO) : TE := fun σ H Q => te σ H fun x H1 => tl σ H1 fun l H2 => th σ H2 fun u H3 => r x l u H3 Q
/-- a[lo:hi], any a -/
theorem pe_slice {r : V → Option Int → Option Int → Hp → VK → Prop} (hr : SlR X r) (he : PE X e te) (hl : PO X lo tl) (hu : PO X hi th) : PE X (.Subscript e (.Slice lo hi none p2) pos) (tSl r te tl th) := by
  intro pins s σ H Q I h
  refine Subscript_ (thn (he pins s σ H _ I h) fun v s1 ⟨x, H1, I1, r1, q1⟩ => ?_)
  refine wpAny_Slice (thn (hl pins s1 σ H1 _ I1 q1) fun vl s2 ⟨l, H2, I2, pl, q2⟩ => thn (hu pins s2 σ H2 _ I2 q2) fun vu s3 ⟨u, H3, I3, pu, q3⟩ => ?_)
  rw [evalPart_none]
  refine wpAny_pure ?_
  have I4 : Inv X pins σ H3 { s3 with heap := s3.heap.push { cls := .type "slice", data := .fields #[vl, vu, .none] } } := I3.kept (t' := s3.toks) fun b ob q => Heap.get?_push_of_some _ q
  obtain ⟨T, id, hT, ht, hg⟩ := hr pins { s3 with heap := s3.heap.push { cls := .type "slice", data := .fields #[vl, vu, .none] } } σ H3 x v vl vu l u s3.heap.objs.size Q I4 r1 (Heap.IsSliceOf.new ..) pl pu q3
  show wpAny (model X.prog X.w) X.A (subscriptTail e (.Slice lo hi none p2) v (.ref s3.heap.objs.size)) (EP X pins σ Q) X.xe { s3 with heap := s3.heap.push { cls := .type "slice", data := .fields #[vl, vu, .none] } }
  exact tail_any (ops := [.ref s3.heap.objs.size, v]) ht hT hg (by with_unfolding_all rfl)

/-- the items of xs[lo:hi] -/
def cutV (xs : List V) (lo hi : Option Int) : List V := (xs.drop (HT.sIx xs.length 0 lo)).take (HT.sIx xs.length xs.length hi - HT.sIx xs.length 0 lo)
theorem cutV_length (xs : List V) (lo hi : Option Int) : (cutV xs lo hi).length ≤ xs.length := by
  unfold cutV
  rw [List.length_take, List.length_drop]
  omega
/-- t[lo:hi], not the whole of it (the whole would be t itself) -/
def rSlT (K : PySem.W.Frag) : V → Option Int → Option Int → Hp → VK → Prop := fun x lo hi H Q => ∃ a xs, x = .ref a ∧ SqT K H a xs ∧
  ¬ (HT.sIx xs.length 0 lo = 0 ∧ HT.sIx xs.length xs.length hi = xs.length) ∧ ∀ p, H p = none → Q (.ref p) (upd H p (.tup (cutV xs lo hi)))

/-! ### t < u, t + u -/
def rLtT (K : PySem.W.Frag) : R2 := fun x y H Q => ∃ a b ns ms, x = .ref a ∧ y = .ref b ∧ SqT K H a (ns.map V.int) ∧ SqT K H b (ms.map V.int) ∧ Q (.bl (HT.lexLt ns ms)) H
/-- t + u, t not empty: u empty gives t itself -/
def rCatT (K : PySem.W.Frag) : R2 := fun x y H Q => ∃ a b xs ys, x = .ref a ∧ y = .ref b ∧ SqT K H a xs ∧ SqT K H b ys ∧ xs ≠ [] ∧ xs.length + ys.length ≤ sizeLine ∧
  (ys = [] → Q (.ref a) H) ∧ (ys ≠ [] → ∀ p, H p = none → Q (.ref p) (upd H p (.tup (xs ++ ys))))
end
end L2

namespace L2
open PySem PySem.Spec PyProof.Rows

/-! ### places -/
/-- the place that an index of any sign means -/
def ixN (n : Nat) (i : Int) : Option Nat := if 0 ≤ i then (if i < n then some i.toNat else none) else if -(n : Int) ≤ i then some (i + n).toNat else none
def atI {α : Type} (xs : List α) (i : Int) : Option α := (ixN xs.length i).bind fun j => xs[j]?
theorem ixN_seq {n : Nat} {i : Int} {j : Nat} (h : ixN n i = some j) : seqIndex? i n = some j ∧ j < n ∧ -(n : Int) ≤ i ∧ i < n := by
  unfold ixN at h
  by_cases h0 : 0 ≤ i
  · rw [if_pos h0] at h
    by_cases h1 : i < n
    · rw [if_pos h1] at h
      have e : i.toNat = j := Option.some.inj h
      exact ⟨by rw [seqIndex_of h0 h1, e], by omega, by omega, h1⟩
    · rw [if_neg h1] at h; cases h
  · rw [if_neg h0] at h
    by_cases h1 : -(n : Int) ≤ i
    · rw [if_pos h1] at h
      have e : (i + n).toNat = j := Option.some.inj h
      exact ⟨by rw [seqIndex_neg (by omega) h1, e], by omega, h1, by omega⟩
    · rw [if_neg h1] at h; cases h
theorem atI_get {α : Type} {xs : List α} {i : Int} {v : α} (h : atI xs i = some v) : ∃ j, seqIndex? i xs.length = some j ∧ xs[j]? = some v ∧ j < xs.length ∧ -(xs.length : Int) ≤ i ∧ i < xs.length := by
  unfold atI at h
  cases e : ixN xs.length i with
  | none => rw [e] at h; cases h
  | some j =>
    rw [e] at h
    obtain ⟨h1, h2, h3, h4⟩ := ixN_seq e
    exact ⟨j, h1, h, h2, h3, h4⟩
theorem atI_nat {α : Type} {xs : List α} {j : Nat} {v : α} (h : xs[j]? = some v) : atI xs (j : Int) = some v := by
  have hj : j < xs.length := (List.getElem?_eq_some_iff.mp h).1
  have e : ixN xs.length (j : Int) = some j := by
    unfold ixN
    rw [if_pos (by omega), if_pos (by omega)]; simp
  unfold atI; rw [e]; exact h

/-! ### what may be subscripted -/
/-- what stands as an index of a plain subscript -/
def PlainIx (b : Expr) : Prop := ∀ o i, subscripted b false o i = operate [o, i] (getItem o i)
/-- a subscript by values -/
def IxR (X : Cx) (r : R2) : Prop :=
  ∀ (value slice : Expr) (pins : List (Addr × Obj)) (s : Shared) (σ : St) (H : Hp) (x y : V) (v u : Value) (Q : VK), Inv X pins σ H s → RelV x v → RelV y u → r x y H Q →
    subscripted slice false v u = operate [v, u] (getItem v u) → wpAny (model X.prog X.w) X.A (subscriptTail value slice v u) (EP X pins σ Q) X.xe s
/-- a call of a builtin's method by values: the receiver, the arguments -/
def MtR (X : Cx) (id : String) (r : V → List V → Hp → VK → Prop) : Prop :=
  ∀ (pins : List (Addr × Obj)) (s : Shared) (σ : St) (H : Hp) (x : V) (xs : List V) (v : Value) (us : List Value) (Q : VK), Inv X pins σ H s → RelV x v → Vals xs us → r x xs H Q →
    wpAny (model X.prog X.w) X.A (call (.builtin id) (v :: us)) (EP X pins σ Q) X.xe s
section
variable {X : Cx} {a b : Expr} {ta tb : TE} {pos : Pos}
/-- a[b] -/
theorem pe_ix {r : R2} (hr : IxR X r) (ha : PE X a ta) (hb : PE X b tb) (hs : PlainIx b) : PE X (.Subscript a b pos) (tOp r ta tb) := by
  intro pins s σ H Q I h
  exact Subscript_ (binT ha hb I h fun v u s2 x y H2 I2 rx ry q => hr a b pins s2 σ H2 x y v u Q I2 rx ry q (hs _ _))

def rIxL (K : PySem.W.Frag) : R2 := fun x y H Q => ∃ p xs i v, x = .ref p ∧ y = .int i ∧ SqL K H p xs ∧ atI xs i = some v ∧ Q v H
def rIxT (K : PySem.W.Frag) : R2 := fun x y H Q => ∃ p xs i v, x = .ref p ∧ y = .int i ∧ SqT K H p xs ∧ atI xs i = some v ∧ Q v H
def rIxS : R2 := fun x y H Q => ∃ z i c, x = .str z ∧ y = .int i ∧ z.length ≤ sizeLine ∧ atI z.cps.toList i = some c ∧ Q (.str ⟨#[c]⟩) H
theorem ix_list : IxR X (rIxL X.K) := by
  intro value slice pins s σ H x y v u Q I rx ry h hs
  obtain ⟨p, xs, i, z, rfl, rfl, hq, he, q⟩ := h
  cases rx
  obtain ⟨t, rfl⟩ := ry
  obtain ⟨its, r, pl, hz⟩ := I.list hq
  obtain ⟨j, h1, h2, h3, h4, h5⟩ := atI_get he
  obtain ⟨w, ew, rw'⟩ := r.get h2
  have hl := r.length
  have hn := line63
  have fin : EP X pins σ Q w s := ⟨z, H, I, rw', q⟩
  by_cases h0 : 0 ≤ i
  · have hj : i.toNat = j := by
      rw [seqIndex_of h0 h5] at h1
      exact Option.some.inj h1
    exact item_listR pl.isList h0 (by omega) (by rw [hj]; simpa using ew) fin hs
  · have hj : (i + (its.toArray.size : Int)).toNat = j := by
      rw [seqIndex_neg (by omega) h4] at h1
      rw [List.size_toArray, ← hl]
      exact Option.some.inj h1
    exact subscriptTail_builtinR (x := w) pl.isList.typeIs slot_list_getitem.lookup
      (wpAny_getItem_list_neg (Q := fun r s' => r = w ∧ EP X pins σ Q r s') pl.isList (by omega) (by rw [List.size_toArray] <;> omega) (by omega) (by rw [hj]; simpa using ew) ⟨rfl, fin⟩) hs
theorem ix_tup : IxR X (rIxT X.K) := by
  intro value slice pins s σ H x y v u Q I rx ry h hs
  obtain ⟨p, xs, i, z, rfl, rfl, hq, he, q⟩ := h
  cases rx
  obtain ⟨t, rfl⟩ := ry
  obtain ⟨its, r, pl, hz⟩ := I.tuple hq
  obtain ⟨j, h1, h2, h3, h4, h5⟩ := atI_get he
  obtain ⟨w, ew, rw'⟩ := r.get h2
  have hl := r.length
  have hn := line63
  have fin : EP X pins σ Q w s := ⟨z, H, I, rw', q⟩
  exact subscriptTail_builtinR (x := w) pl.typeIs slot_tuple_getitem.lookup
    (getItem_tuple (j := j) (Q := fun r s' => r = w ∧ EP X pins σ Q r s') pl (by omega) (by omega) (by rw [List.size_toArray, ← hl]; exact h1) (by simpa using ew) ⟨rfl, fin⟩) hs
theorem ix_str : IxR X rIxS := by
  intro value slice pins s σ H x y v u Q I rx ry h hs
  obtain ⟨z, i, c, rfl, rfl, hz, he, q⟩ := h
  obtain ⟨t, rfl⟩ := rx
  obtain ⟨t', rfl⟩ := ry
  obtain ⟨j, h1, h2, h3, h4, h5⟩ := atI_get he
  have hl : z.cps.toList.length = z.length := by simp [Str.length]
  rw [hl] at h1 h4 h5
  have hn := line63
  exact tail_any (typeIs_str s z t) slot_str_getitem.lookup (getItem_str (c := c) (by
    have e1 : decide (i < -(2 ^ 63 : Int)) = false := decide_eq_false (by omega)
    have e2 : decide (i ≥ 2 ^ 63) = false := decide_eq_false (by omega)
    rw [e1, e2, Bool.or_false]) (by rw [h1]; simpa using h2) ⟨.str ⟨#[c]⟩, H, I.tok _, ⟨_, rfl⟩, q⟩) hs
/-- list, tuple or str -/
def rIx (K : PySem.W.Frag) : R2 := fun x y H Q => rIxL K x y H Q ∨ rIxT K x y H Q ∨ rIxS x y H Q

/-! ### xs[i] = v, any sign -/
/-- the list's object behind a store -/
theorem mapSeq_set (its : List Value) (n j : Nat) (u : Value) : Obj.mapSeq (·.setIfInBounds j u) { cls := .type "list", data := .seq its.toArray n } = { cls := .type "list", data := .seq (its.set j u).toArray n } := by
  simp [Obj.mapSeq]
theorem Inv.lst {pins : List (Addr × Obj)} {σ : St} {H : Hp} {s : Shared} {p : Addr} {xs : List V} (I : Inv X pins σ H s) (h : H p = some (.lst xs)) :
    ∃ (its : List Value) (n : Nat), Vals xs its ∧ s.heap.get? p = some { cls := .type "list", data := .seq its.toArray n } ∧ xs.length ≤ sizeLine := by
  obtain ⟨z, its, n, r, e⟩ := I.hok p _ h
  exact ⟨its, n, r, e, z⟩
/-- the list at p is written by an update of its object -/
theorem Inv.lstUpd {pins : List (Addr × Obj)} {σ : St} {H : Hp} {s : Shared} {p : Addr} {xs ys : List V} {its its' : List Value} {n n' : Nat} {f : Obj → Obj} (I : Inv X pins σ H s) (h : H p = some (.lst xs))
    (ho : s.heap.get? p = some { cls := .type "list", data := .seq its.toArray n }) (hf : f { cls := .type "list", data := .seq its.toArray n } = { cls := .type "list", data := .seq its'.toArray n' }) (r : Vals ys its') (hz : ys.length ≤ sizeLine) (t : Nat) :
    Inv X pins σ (upd H p (.lst ys)) { s with heap := s.heap.update p f, toks := t } := by
  have e : (s.heap.update p f).get? p = some { cls := .type "list", data := .seq its'.toArray n' } := by
    rw [Heap.get?_update_self f ho (by rw [hf] <;> rfl), hf]
  refine I.write (x := p) (e := p) (by rw [h]; trivial) (.inl rfl) (fun b u hb q => (Heap.get?_update_other _ _ (Ne.symm hb)).trans q) ⟨_, e⟩ ?_
  exact ⟨hz, its', n', r, e⟩
def rSetL : V → V → V → Hp → (Hp → Prop) → Prop := fun o i v H Q => ∃ p xs k j, o = .ref p ∧ i = .int k ∧ H p = some (.lst xs) ∧ ixN xs.length k = some j ∧ Q (upd H p (.lst (xs.set j v)))
theorem set_list : PSet X rSetL := by
  intro pins s σ H o i v ov iv u Q I ro ri rv h
  obtain ⟨p, xs, k, j, rfl, rfl, hp, hj, q⟩ := h
  cases ro
  obtain ⟨t, rfl⟩ := ri
  obtain ⟨its, n, r, ho, hz⟩ := I.lst hp
  obtain ⟨h1, h2, h3, h4⟩ := ixN_seq hj
  have hl := r.length
  have hn := line63
  have I' : Inv X pins σ (upd H p (.lst (xs.set j v))) { s with heap := s.heap.update p (Obj.mapSeq (·.setIfInBounds j u)) } :=
    I.lstUpd hp ho (mapSeq_set its n j u) (r.set rv j) (by rw [List.length_set]; exact hz) s.toks
  by_cases h0 : 0 ≤ k
  · have hk : k.toNat = j := by
      rw [seqIndex_of h0 h4] at h1
      exact Option.some.inj h1
    exact PySem.W.ki_setAt ho h0 (by omega) (by rw [List.size_toArray, ← hl]; exact h4) (by rw [hk]; exact ⟨_, I', q⟩)
  · have hk : (k + (its.toArray.size : Int)).toNat = j := by
      rw [seqIndex_neg (by omega) h3] at h1
      rw [List.size_toArray, ← hl]
      exact Option.some.inj h1
    exact PySem.W.ki_setBack ho (by omega) (by rw [List.size_toArray, ← hl]; exact h3) (by omega) (by rw [hk]; exact ⟨_, I', q⟩)

/-! ### slices -/
theorem slice_bounds (lo hi : Option Int) (n : Nat) : (sliceBounds lo hi none n).1 = ((HT.sIx n 0 lo : Nat) : Int) ∧ (sliceBounds lo hi none n).2.1 = ((HT.sIx n n hi : Nat) : Int) ∧ (sliceBounds lo hi none n).2.2 = 1 := by
  refine ⟨?_, ?_, rfl⟩
  · cases lo with
    | none => simp [sliceBounds, HT.sIx]
    | some i =>
      simp only [sliceBounds, HT.sIx, Option.getD_none, show (1 : Int) > 0 by decide, if_true]
      by_cases h : i < 0
      · simp only [h, if_true] <;> omega
      · simp only [h, if_false] <;> omega
  · cases hi with
    | none => simp [sliceBounds, HT.sIx]
    | some i =>
      simp only [sliceBounds, HT.sIx, Option.getD_none, show (1 : Int) > 0 by decide, if_true]
      by_cases h : i < 0
      · simp only [h, if_true] <;> omega
      · simp only [h, if_false] <;> omega
theorem slicePick_cut (its : List Value) (lo hi : Option Int) : slicePick its.toArray lo hi none = ((its.drop (HT.sIx its.length 0 lo)).take (HT.sIx its.length its.length hi - HT.sIx its.length 0 lo)).toArray := by
  obtain ⟨h1, h2, h3⟩ := slice_bounds lo hi its.toArray.size
  unfold slicePick
  rw [h1, h2, h3]
  simp only [sliceRange_one, pick_run, List.size_toArray] <;> rfl
/-- xs[lo:hi] of a list: a new list -/
def rSlL (K : PySem.W.Frag) : V → Option Int → Option Int → Hp → VK → Prop := fun x lo hi H Q => ∃ a xs, x = .ref a ∧ SqL K H a xs ∧ ∀ p, H p = none → Q (.ref p) (upd H p (.lst (cutV xs lo hi)))
theorem sl_list : SlR X (rSlL X.K) := by
  intro pins s σ H x v vl vu lo hi sl Q I rx hs pl pu h
  obtain ⟨a, xs, rfl, hx, q⟩ := h
  cases rx
  obtain ⟨its, r, ht, hz⟩ := I.list hx
  have hlen := r.length
  refine ⟨"list", _, slot_list_getitem.lookup, ht.isList.typeIs, ?_⟩
  refine wpAny_getItem_list_slice ht.isList hs pl pu .none (by simp) ?_ (by rw [List.size_toArray] <;> omega)
  rw [slicePick_cut, ← hlen]
  refine ⟨.ref s.heap.objs.size, _, I.laid (t' := s.toks) (o := .lst (cutV xs lo hi)) (fun b ob q => Heap.get?_push_of_some _ q) (Nat.le_refl _) ?_, rfl, q _ (I.hok.fresh (Nat.le_refl _))⟩
  exact ⟨Nat.le_trans (cutV_length xs lo hi) hz, _, 0, (r.drop (HT.sIx xs.length 0 lo)).take (HT.sIx xs.length xs.length hi - HT.sIx xs.length 0 lo), Heap.get?_push_size _ rfl⟩

/-! ### in, not in: flat items -/
def flatV : V → Bool
  | .non => true
  | .bl _ => true
  | .int _ => true
  | .str _ => true
  | _ => false
/-- == of flat values -/
def eqV : V → V → Bool
  | .non, .non => true
  | .bl a, .bl b => a == b
  | .bl a, .int b => (if a then 1 else 0) == b
  | .int a, .bl b => a == (if b then 1 else 0)
  | .int a, .int b => a == b
  | .str a, .str b => a == b
  | _, _ => false
theorem eqAt_V {A : Around} {s : Shared} {y x : V} {u v : Value} (ry : RelV y u) (rx : RelV x v) (fy : flatV y = true) (fx : flatV x = true) : SeqAt.EqAt A s u v (eqV y x) := by
  cases y with
  | non =>
    cases ry
    cases x with
    | non => cases rx; exact SeqAt.EqAt.same _
    | bl b => cases rx; exact SeqAt.EqAt.none_bool b
    | int b => obtain ⟨t, rfl⟩ := rx; exact SeqAt.EqAt.none_int b t
    | str b => obtain ⟨t, rfl⟩ := rx; exact SeqAt.EqAt.none_str b t
    | _ => exact absurd (show false = true from fx) Bool.false_ne_true
  | bl a =>
    cases ry
    cases x with
    | non => cases rx; exact SeqAt.EqAt.bool_none a
    | bl b => cases rx; exact SeqAt.EqAt.bool_bool a b
    | int b => obtain ⟨t, rfl⟩ := rx; exact SeqAt.EqAt.bool_int a b t
    | str b => obtain ⟨t, rfl⟩ := rx; exact SeqAt.EqAt.bool_str a b t
    | _ => exact absurd (show false = true from fx) Bool.false_ne_true
  | int a =>
    obtain ⟨t', rfl⟩ := ry
    cases x with
    | non => cases rx; exact SeqAt.EqAt.int_none a t'
    | bl b => cases rx; exact SeqAt.EqAt.int_bool a t' b
    | int b => obtain ⟨t, rfl⟩ := rx; exact SeqAt.EqAt.int_int a t' b t
    | str b => obtain ⟨t, rfl⟩ := rx; exact SeqAt.EqAt.int_str a t' b t
    | _ => exact absurd (show false = true from fx) Bool.false_ne_true
  | str a =>
    obtain ⟨t', rfl⟩ := ry
    cases x with
    | non => cases rx; exact SeqAt.EqAt.str_none a t'
    | bl b => cases rx; exact SeqAt.EqAt.str_bool a t' b
    | int b => obtain ⟨t, rfl⟩ := rx; exact SeqAt.EqAt.str_int a t' b t
    | str b => obtain ⟨t, rfl⟩ := rx; exact SeqAt.EqAt.str_str a t' b t
    | _ => exact absurd (show false = true from fx) Bool.false_ne_true
  | _ => exact absurd (show false = true from fy) Bool.false_ne_true
/-- the items' answers, read off the values (a value's own answer does not lean on its token) -/
def eqU (x : V) (u : Value) : Bool := match u with
  | .none => eqV .non x
  | .bool b => eqV (.bl b) x
  | .int i _ => eqV (.int i) x
  | .str z _ => eqV (.str z) x
  | _ => false
theorem eqU_of {x y : V} {u : Value} (r : RelV y u) (f : flatV y = true) : eqU x u = eqV y x := by
  cases y with
  | non => cases r; rfl
  | bl b => cases r; rfl
  | int i => obtain ⟨t, rfl⟩ := r; rfl
  | str z => obtain ⟨t, rfl⟩ := r; rfl
  | _ => exact absurd (show false = true from f) Bool.false_ne_true
theorem any_eqU {x : V} : ∀ {xs : List V} {us : List Value}, Vals xs us → xs.all flatV = true → us.any (eqU x) = xs.any fun y => eqV y x
  | _, _, .nil, _ => rfl
  | y :: xs, u :: us, .cons r t, f => by
    rw [List.all_cons, Bool.and_eq_true] at f
    rw [List.any_cons, List.any_cons, eqU_of r f.1, any_eqU t f.2]
theorem mem_eqAt {A : Around} {s : Shared} {x : V} {v : Value} (rx : RelV x v) (fx : flatV x = true) : ∀ {xs : List V} {us : List Value}, Vals xs us → xs.all flatV = true → ∀ u ∈ us, SeqAt.EqAt A s u v (eqU x u)
  | _, _, .nil, _ => fun u hu => by cases hu
  | y :: xs, u :: us, .cons r t, f => fun u' hu => by
    rw [List.all_cons, Bool.and_eq_true] at f
    rcases List.mem_cons.mp hu with rfl | hu
    · rw [eqU_of r f.1]; exact eqAt_V r rx f.1 fx
    · exact mem_eqAt rx fx t f.2 u' hu
def inV (x : V) (xs : List V) : Bool := xs.any fun y => eqV y x
/-- x in a list or tuple of flat items -/
def rIn (K : PySem.W.Frag) (neg : Bool) : R2 := fun x y H Q => ∃ p xs, y = .ref p ∧ (SqL K H p xs ∨ SqT K H p xs) ∧ flatV x = true ∧ xs.all flatV = true ∧ Q (.bl (if neg then !inV x xs else inV x xs)) H
theorem op_in_seq : OpR X (compareOp .In) (rIn X.K false) := by
  intro pins s σ H x y v u Q I rx ry h
  obtain ⟨p, xs, rfl, hq, fx, fs, q⟩ := h
  cases ry
  rcases hq with hq | hq
  · obtain ⟨its, r, pl, hz⟩ := I.list hq
    refine SeqAt.in_listAt (eqU x) pl.isList (fun w hw => mem_eqAt rx fx r fs w (by simpa using hw)) ⟨.bl _, H, I, rfl, ?_⟩
    rw [show its.toArray.any (eqU x) = its.any (eqU x) by simp, any_eqU r fs]
    exact q
  · obtain ⟨its, r, pl, hz⟩ := I.tuple hq
    refine SeqAt.in_tupleAt (eqU x) pl (fun w hw => mem_eqAt rx fx r fs w (by simpa using hw)) ⟨.bl _, H, I, rfl, ?_⟩
    rw [show its.toArray.any (eqU x) = its.any (eqU x) by simp, any_eqU r fs]
    exact q

/-! ### len, list(x), tuple(x) of any list or tuple that is read -/
theorem call_len_seq : CallR X (.builtin "len") (fun xs H Q => ∃ p ys, xs = [.ref p] ∧ (SqL X.K H p ys ∨ SqT X.K H p ys) ∧ Q (.int ys.length) H) := by
  intro pins s σ H xs us Q I r h
  obtain ⟨p, ys, rfl, hq, q⟩ := h
  obtain ⟨u, rfl, rx⟩ := vals1 r
  cases rx
  have hn := line63
  rcases hq with hq | hq
  · obtain ⟨its, r', pl, hz⟩ := I.list hq
    have hlen := r'.length
    exact Calls.call_len_list pl.isList (by simp only [List.size_toArray] <;> omega) ⟨.int ys.length, H, I.tok _, ⟨s.toks + 1, by rw [List.size_toArray, hlen]⟩, q⟩
  · obtain ⟨its, r', pl, hz⟩ := I.tuple hq
    have hlen := r'.length
    exact len_tuple pl (by simp only [List.size_toArray] <;> omega) ⟨.int ys.length, H, I.tok _, ⟨s.toks + 1, by rw [List.size_toArray, hlen]⟩, q⟩
theorem call_len_str : CallR X (.builtin "len") (fun xs H Q => ∃ z, xs = [.str z] ∧ z.length ≤ sizeLine ∧ Q (.int z.length) H) := by
  intro pins s σ H xs us Q I r h
  obtain ⟨z, rfl, hz, q⟩ := h
  obtain ⟨u, rfl, t, rfl⟩ := vals1 r
  have hn := line63
  exact len_str (by omega) ⟨.int z.length, H, I.tok _, ⟨_, rfl⟩, q⟩
theorem call_list_of : CallR X (.type "list") (fun xs H Q => ∃ p ys, xs = [.ref p] ∧ (SqL X.K H p ys ∨ SqT X.K H p ys) ∧ ∀ l, H l = none → Q (.ref l) (upd H l (.lst ys))) := by
  intro pins s σ H xs us Q I r h
  obtain ⟨p, ys, rfl, hq, q⟩ := h
  obtain ⟨u, rfl, rx⟩ := vals1 r
  cases rx
  have fin : ∀ (its : List Value), Vals ys its → ys.length ≤ sizeLine → ∀ (h' : Heap) (c' : Nat), (∀ b o', s.heap.get? b = some o' → h'.get? b = some o') →
      h'.get? s.heap.objs.size = some { cls := .type "list", dict := none, data := .seq its.toArray c', slots := #[] } → EP X pins σ Q (.ref s.heap.objs.size) { s with heap := h' } := fun its r' hz h' c' kp e =>
    ⟨.ref s.heap.objs.size, _, I.laid (t' := s.toks) kp (Nat.le_refl _) (show ObjOk X.prog X.w _ h' _ (.lst ys) from ⟨hz, its, c', r', e⟩), rfl, q _ (I.hok.fresh (Nat.le_refl _))⟩
  rcases hq with hq | hq
  · obtain ⟨its, r', pl, hz⟩ := I.list hq
    have hlen := r'.length
    obtain ⟨o, ho, hc, n, hd⟩ := pl.isList
    exact call_list_seq p (.inl rfl) ho hc hd (fun h' c' kp e => fin its r' hz h' c' kp e) (by simp only [List.size_toArray] <;> omega)
  · obtain ⟨its, r', pl, hz⟩ := I.tuple hq
    have hlen := r'.length
    obtain ⟨o, ho, hc, n, hd⟩ := pl
    exact call_list_seq p (.inr rfl) ho hc hd (fun h' c' kp e => fin its r' hz h' c' kp e) (by simp only [List.size_toArray] <;> omega)

/-! ### the call of a builtin's method: o.m(..) -/
/-- the value is of that builtin type -/
def tyV (K : PySem.W.Frag) (T : String) (x : V) (H : Hp) : Prop := match x with
  | .str _ => T = "str"
  | .int _ => T = "int"
  | .ref p => (T = "list" ∧ ∃ xs, SqL K H p xs) ∨ (T = "tuple" ∧ ∃ o, K.lookup p = some o ∧ o.cls = .type "tuple" ∧ o.dict = none) ∨
      (T = "dict" ∧ (∃ kvs, H p = some (.dK kvs))) ∨ (T = "set" ∧ ∃ S n, H p = some (.set S n))
  | _ => False
theorem tyV_is {pins : List (Addr × Obj)} {σ : St} {H : Hp} {s : Shared} {T : String} {x : V} {v : Value} (I : Inv X pins σ H s) (r : RelV x v) (ty : tyV X.K T x H) :
    s.TypeIs v T ∧ ∀ a, v = .ref a → ∃ ob, s.heap.get? a = some ob ∧ ob.dict = none := by
  cases x with
  | str z =>
    obtain ⟨t, rfl⟩ := r
    cases (show T = "str" from ty)
    exact ⟨typeIs_str s z t, fun _ e => nomatch e⟩
  | int i =>
    obtain ⟨t, rfl⟩ := r
    cases (show T = "int" from ty)
    exact ⟨typeIs_int s i t, fun _ e => nomatch e⟩
  | ref p =>
    cases r
    rcases ty with ⟨rfl, xs, hq⟩ | ⟨rfl, o, hk, hc, hd⟩ | ⟨rfl, hk⟩ | ⟨rfl, S, n, hk⟩
    · obtain ⟨its, _, pl, _⟩ := I.list hq
      refine ⟨pl.isList.typeIs, fun a e => ?_⟩
      cases e
      obtain ⟨o, n, e, c, hd, _⟩ := pl
      exact ⟨o, e, hd⟩
    · refine ⟨⟨o, I.kIn p o hk, hc⟩, fun a e => ?_⟩
      cases e
      exact ⟨o, I.kIn _ o hk, hd⟩
    · have z : ∃ o, s.heap.get? p = some o ∧ o.ExactDict := by
        obtain ⟨kvs, hk⟩ := hk
        obtain ⟨_, _, _, _, o, _, _, e, ex, _⟩ := I.hok p _ hk
        exact ⟨o, e, ex⟩
      obtain ⟨o, e, ex⟩ := z
      refine ⟨⟨o, e, ex.1⟩, fun a e2 => ?_⟩
      cases e2
      exact ⟨o, e, ex.2.1⟩
    · obtain ⟨o, _, _, _, e, ex, _⟩ := I.hok p _ hk
      refine ⟨⟨o, e, ex.1⟩, fun a e2 => ?_⟩
      cases e2
      exact ⟨o, e, ex.2.1⟩
  | _ => exact False.elim ty
def tBM0 (K : PySem.W.Frag) (T : String) (r : V → List V → Hp → VK → Prop) (to : TE) : TE := fun σ H Q => to σ H fun x H1 => tyV K T x H1 ∧ r x [] H1 Q
def tBM (K : PySem.W.Frag) (T : String) (r : V → List V → Hp → VK → Prop) (to : TE) (t : TA) : TE := fun σ H Q => to σ H fun x H1 => tyV K T x H1 ∧ t σ H1 fun xs H2 => r x xs H2 Q
variable {o e : Expr} {es : List Expr} {to : TE} {t : TA} {name : Str} {apos cpos : Pos} {T id : String} {r : V → List V → Hp → VK → Prop}
theorem pe_bm (pa : PlainAttrs T) (slot : Slot T name id) (hty : typeOf (.builtin id) = pure (.type "method_descriptor")) (hm : MtR X id r) (ho : PE X o to) (ha : PA X (e :: es) t)
    (hbase : attributeBase o name X.env (eval o X.env) = eval o X.env := by rfl)
    (hfew : ((backTo cpos (starEach (e :: es) X.env)).all (fun x => !x.1) && (backToKw cpos (keywordEach [] X.env)).all (fun x => x.1.isSome)
      && decide ((e :: es).length + ([] : List Keyword).length + (if ([] : List Keyword).isEmpty then 0 else 1) < 30)) = true := by rfl)
    (hline : (apos.endLine == cpos.line) = true := by rfl) (hs : starEach (e :: es) X.env = (false, eval e X.env) :: starEach es X.env := by rfl) (hplain : (backTo cpos (starEach es X.env)).any (·.1) = false := by rfl) :
    PE X (.Call (.Attribute o name apos) (e :: es) [] cpos) (tBM X.K T r to t) := by
  intro pins s σ H Q I h
  refine wpAny_Call_method_late hbase hfew hline rfl (thn (ho pins s σ H _ I h) fun v s1 ⟨x, H1, I1, r1, ty, q1⟩ => ?_)
  obtain ⟨h1, h2⟩ := tyV_is I1 r1 ty
  refine ⟨T, id, pa, slot, hty, h1, h2, ?_⟩
  have hA := ha cpos pins s1 σ H1 _ I1 q1
  rw [hs] at hA ⊢
  refine Calls.callWith_builtin (by show (false || (backTo cpos (starEach es X.env)).any (·.1)) = false; rw [hplain] <;> rfl) (Calls.evalArgs_plain ?_)
  exact thn hA fun us s2 ⟨vs, H2, I2, r2, q2⟩ => hm pins s2 σ H2 x vs v us Q I2 r1 r2 q2
/- xs.append(e), list.index on a module's tuple .. are MtR facts of 06m -/
end
end L2

namespace L2
open PySem PySem.Spec PyProof.Rows

def MtM (X : Cx) (id : String) (r : V → List V → Hp → VK → Prop) : Prop :=
  ∀ (pins : List (Addr × Obj)) (s : Shared) (σ : St) (H : Hp) (x : V) (xs : List V) (v : Value) (us : List Value) (Q : VK), Inv X pins σ H s → RelV x v → Vals xs us → r x xs H Q →
    wpAny (model X.prog X.w) X.A (call (.builtin id) (v :: us)) (EP X pins σ Q) X.xe s

/-! ### lists of values -/
theorem Vals.one : ∀ {x : V} {us : List Value}, Vals [x] us → ∃ u, us = [u] ∧ RelV x u
  | _, _, .cons r .nil => ⟨_, rfl, r⟩
theorem Vals.eraseIdx : ∀ {xs : List V} {us : List Value} (i : Nat), Vals xs us → Vals (xs.eraseIdx i) (us.eraseIdx i)
  | _, _, _, .nil => .nil
  | _, _, 0, .cons _ t => t
  | _, _, i + 1, .cons r t => .cons r (Vals.eraseIdx i t)
theorem Vals.reverse {xs : List V} {us : List Value} (h : Vals xs us) : Vals xs.reverse us.reverse := by
  induction h with
  | nil => exact .nil
  | cons r t ih => rw [List.reverse_cons, List.reverse_cons]; exact Vals.append ih (.cons r .nil)
theorem len_erase {α : Type} : ∀ (l : List α) (i : Nat), (l.eraseIdx i).length ≤ l.length
  | [], _ => Nat.le_refl _
  | _ :: _, 0 => Nat.le_succ _
  | _ :: r, i + 1 => Nat.succ_le_succ (len_erase r i)

section
variable {X : Cx} {pins : List (Addr × Obj)} {σ : St} {H : Hp} {s : Shared} {l b : Addr} {xs ys zs : List V}

/-! ### the two steps: a tracked list is rewritten, a new list is laid -/
theorem Inv.lset {its its' : List Value} {n : Nat} {f : Array Value → Array Value} {t' : Nat} (I : Inv X pins σ H s) (hH : H l = some (.lst xs))
    (e : s.heap.get? l = some { cls := .type "list", data := .seq its.toArray n }) (hf : f its.toArray = its'.toArray) (hv : Vals ys its') (hz : ys.length ≤ sizeLine) :
    Inv X pins σ (upd H l (.lst ys)) { s with heap := s.heap.update l (Obj.mapSeq f), toks := t' } := by
  have q := PySem.IsL.update e f
  rw [hf] at q
  refine I.write (x := l) (e := l) (by rw [hH]; exact trivial) (.inl rfl) (fun b' u hb hu => (Heap.get?_update_other s.heap (Obj.mapSeq f) (Ne.symm hb)).trans hu) ⟨_, q⟩ ?_
  exact ⟨hz, its', _, hv, q⟩
theorem Inv.lnew {its : List Value} {t' : Nat} (I : Inv X pins σ H s) (hv : Vals ys its) (hz : ys.length ≤ sizeLine) :
    Inv X pins σ (upd H s.heap.objs.size (.lst ys)) { s with heap := s.heap.push { cls := .type "list", data := .seq its.toArray }, toks := t' } :=
  I.laid (fun _ _ q => Heap.get?_push_of_some _ q) (Nat.le_refl _) ⟨hz, its, 0, hv, Heap.get?_push_size _ rfl⟩
theorem Inv.fresh (I : Inv X pins σ H s) : H s.heap.objs.size = none := I.hok.fresh (Nat.le_refl _)
theorem Inv.lstM (I : Inv X pins σ H s) (hH : H l = some (.lst xs)) : xs.length ≤ sizeLine ∧ ∃ (its : List Value) (n : Nat), Vals xs its ∧ xs.length = its.length ∧ s.heap.get? l = some { cls := .type "list", data := .seq its.toArray n } := by
  obtain ⟨z, its, n, r, e⟩ := I.hok l _ hH
  exact ⟨z, its, n, r, r.length, e⟩

theorem notLongL {n : Nat} (h : n ≤ sizeLine) : Builtin.List.listTooLong n = false := by
  unfold Builtin.List.listTooLong
  exact decide_eq_false (by omega)
end

section
variable {X : Cx}

/-! ### methods -/
def rAppend : V → List V → Hp → VK → Prop := fun x vs H Q => ∃ l xs y, x = .ref l ∧ vs = [y] ∧ H l = some (.lst xs) ∧ xs.length < sizeLine ∧ Q .non (upd H l (.lst (xs ++ [y])))
theorem mt_append : MtM X "list.append" rAppend := by
  intro pins s σ H x vs v us Q I rx rv h
  obtain ⟨l, xs, y, rfl, rfl, hH, hz, q⟩ := h
  cases rx
  obtain ⟨u, rfl, ru⟩ := rv.one
  obtain ⟨z, its, n, r, hl, e⟩ := I.lstM hH
  refine call_meets F.slot_list_append ⟨_, e, rfl⟩ F.entry_list_append (F.args_list_append_2 _ _) (PySem.list_append l its.toArray n u (by rw [List.size_toArray]; omega)) ⟨e, ?_⟩
  refine ⟨.non, _, I.lset (its' := its ++ [u]) hH e (by simp) (r.append (.cons ru .nil)) ?_, rfl, q⟩
  rw [List.length_append, List.length_singleton]
  omega

def rExtend : V → List V → Hp → VK → Prop := fun x vs H Q => ∃ l b xs zs, x = .ref l ∧ vs = [.ref b] ∧ H l = some (.lst xs) ∧ H b = some (.lst zs) ∧ xs.length + zs.length ≤ sizeLine ∧ Q .non (upd H l (.lst (xs ++ zs)))
theorem mt_extend : MtM X "list.extend" rExtend := by
  intro pins s σ H x vs v us Q I rx rv h
  obtain ⟨l, b, xs, zs, rfl, rfl, hH, hB, hz, q⟩ := h
  cases rx
  obtain ⟨u, rfl, ru⟩ := rv.one
  cases ru
  obtain ⟨z, its, n, r, hl, e⟩ := I.lstM hH
  obtain ⟨z2, its2, n2, r2, hl2, e2⟩ := I.lstM hB
  have hsz : its.toArray.size + its2.toArray.size ≤ sizeLine := by rw [List.size_toArray, List.size_toArray]; omega
  have hlong : ¬ (!its.toArray.isEmpty && Builtin.List.listTooLong (its.toArray.size + its2.toArray.size)) = true := by
    rw [notLongL hsz, Bool.and_false]
    exact Bool.false_ne_true
  refine call_meets F.slot_list_extend ⟨_, e, rfl⟩ F.entry_list_extend (F.args_list_extend_2 _ _)
    (AutoSeq1.list_extend_list_list_0 l its.toArray n b its2.toArray n2 hlong (by rw [List.size_toArray]; omega) (by omega)) ⟨e, e2, ?_⟩
  refine ⟨.non, _, I.lset (its' := its ++ its2) hH e (by simp) (r.append r2) ?_, rfl, q⟩
  rw [List.length_append]
  omega

def rPop : V → List V → Hp → VK → Prop := fun x vs H Q => ∃ l xs y, x = .ref l ∧ vs = [] ∧ H l = some (.lst xs) ∧ xs[xs.length - 1]? = some y ∧ Q y (upd H l (.lst xs.dropLast))

def rPopAt : V → List V → Hp → VK → Prop := fun x vs H Q => ∃ l xs i k y, x = .ref l ∧ vs = [.int i] ∧ H l = some (.lst xs) ∧ -(2 ^ 63) ≤ i ∧ i < 2 ^ 63 ∧ seqIndex? i xs.length = some k ∧ xs[k]? = some y ∧ Q y (upd H l (.lst (xs.eraseIdx k)))
theorem mt_popAt : MtM X "list.pop" rPopAt := by
  intro pins s σ H x vs v us Q I rx rv h
  obtain ⟨l, xs, i, k, y, rfl, rfl, hH, h1, h2, hk, hy, q⟩ := h
  cases rx
  obtain ⟨u, rfl, ru⟩ := rv.one
  obtain ⟨t, rfl⟩ := ru
  obtain ⟨z, its, n, r, hl, e⟩ := I.lstM hH
  obtain ⟨w, hw, rw'⟩ := r.get hy
  refine call_meets F.slot_list_pop ⟨_, e, rfl⟩ F.entry_list_pop (F.args_list_pop_2 _ _)
    (MeetsSeq.list_pop_at l its.toArray n i t k w (fitsIndex_both h1 h2) (by rw [List.size_toArray, ← hl]; exact hk) (by rw [← Array.getElem?_toList]; exact hw) (by rw [List.size_toArray]; omega)) ⟨e, ?_⟩
  refine ⟨y, _, I.lset (its' := its.eraseIdx k) hH e ?_ (r.eraseIdx k) ?_, rw', q⟩
  · show its.toArray.eraseIdxIfInBounds k = (its.eraseIdx k).toArray
    rw [List.eraseIdxIfInBounds_toArray]
  · have := len_erase xs k
    omega

def rReverse : V → List V → Hp → VK → Prop := fun x vs H Q => ∃ l xs, x = .ref l ∧ vs = [] ∧ H l = some (.lst xs) ∧ Q .non (upd H l (.lst xs.reverse))

def rClear : V → List V → Hp → VK → Prop := fun x vs H Q => ∃ l xs, x = .ref l ∧ vs = [] ∧ H l = some (.lst xs) ∧ Q .non (upd H l (.lst []))

/-! ### list + list, list += list, list * int -/
def rCat : R2 := fun x y H Q => ∃ l b xs zs, x = .ref l ∧ y = .ref b ∧ H l = some (.lst xs) ∧ H b = some (.lst zs) ∧ xs.length + zs.length ≤ sizeLine ∧ ∀ p, H p = none → Q (.ref p) (upd H p (.lst (xs ++ zs)))
theorem op_cat : OpR X (binaryOp .Add) rCat := by
  intro pins s σ H x y v u Q I rx ry h
  obtain ⟨l, b, xs, zs, rfl, rfl, hH, hB, hz, q⟩ := h
  cases rx
  cases ry
  obtain ⟨z, its, n, r, hl, e⟩ := I.lstM hH
  obtain ⟨z2, its2, n2, r2, hl2, e2⟩ := I.lstM hB
  refine PySem.P.add_list e e2 ?_ (by rw [List.size_toArray, List.size_toArray]; omega)
  have ea : its.toArray ++ its2.toArray = (its ++ its2).toArray := by simp
  rw [ea]
  exact ⟨.ref _, _, I.lnew (t' := s.toks) (r.append r2) (by rw [List.length_append]; omega), rfl, q _ I.fresh⟩
/-- a list times an int (a negative one is nothing) -/
def rRep : R2 := fun x y H Q => ∃ l k xs, x = .ref l ∧ y = .int k ∧ H l = some (.lst xs) ∧ -(2 ^ 63) ≤ k ∧ k < 2 ^ 63 ∧ xs.length * k.toNat ≤ sizeLine ∧
  ∀ p, H p = none → Q (.ref p) (upd H p (.lst (List.replicate k.toNat xs).flatten))

/-! ### del xs[i] -/
end

/-! ### xs[a:b] = ys -/
section
variable {prog : Program} {w : World} {A : Around} {E : Value → Shared → Prop} {s : Shared}
set_option maxRecDepth 100000 in
end

section
variable {X : Cx}
end
end L2

namespace Att
open PySem PySem.W PySem.Calls PyProof.Rows

/-! ### the script -/
theorem ints_of_wellAll {P : Params} {h : Heap} : ∀ (ns : List Int) (vs : List Value), WellAll P h vs (ns.map WData.int) → IntsAre vs ns := by
  intro ns
  induction ns with
  | nil =>
    intro vs w
    rw [List.map_nil] at w
    cases w
    exact .nil
  | cons n ns ih =>
    intro vs w
    rw [List.map_cons] at w
    cases w with
    | cons a b =>
      cases a
      exact .cons _ _ (ih _ b)

theorem script_of {l : OpenLaw} {n : Nat} (hn : l.most = some n) {P : Params} {h : Heap} {args : List WData} {vals : List Value}
    (hpre : l.row.toRowW.claim.pre args = true) (hwl : WellAll P h vals args) :
    ∃ a vs ns, vals = [Value.ref a] ∧ args = [WData.list (ns.map WData.int)] ∧ h.get? a = some { cls := .type "list", data := .seq vs.toArray } ∧ IntsAre vs ns ∧ ns.length ≤ n := by
  have hsh : WShape.hasAll [] args [.list .int] = true := (pre_splitW hpre).1
  have hc : l.pre.holds [] { args := args } = true := (pre_splitW hpre).2
  obtain ⟨d, r, rfl, h1, h2⟩ := hasAllW_cons hsh
  obtain rfl := hasAllW_nil h2
  obtain ⟨xs, rfl, h3⟩ := hasW_list h1
  obtain ⟨ns, rfl⟩ := items_int h3
  have hlen : ns.length ≤ n := by
    unfold OpenLaw.pre at hc
    have h4 : (WTm.not (.lt (.lit (.int (n : Int))) (.len (.arg 0)))).holds [] { args := [.list (ns.map .int)] } = true := by
      have h4 := (holds_andW hc).1
      rw [hn] at h4
      exact h4
    have h5 := condW_of h4 (w_not (w_lt w_lit (w_len_list (w_arg rfl))))
    rw [List.length_map] at h5
    refine Nat.le_of_not_lt fun q => ?_
    have q' : (n : Int) < ((ns.length : Nat) : Int) := by omega
    first
      | (rw [decide_eq_true q'] at h5; exact absurd h5 (by decide))
      | (simp at h5; omega)
  cases hwl with
  | cons w1 w2 =>
    cases w2
    cases w1 with
    | list ho hall => exact ⟨_, _, ns, rfl, rfl, ho, ints_of_wellAll ns _ hall, hlen⟩

theorem post_true (l : OpenLaw) (args : List WData) : l.row.toRowW.claim.post args (.bool true) args = true :=
  postW_of (r := l.row.toRowW) (X := (true == true))
    (show WShape.has [] (.bool true) .bool = true by first | rfl | decide | simp [WShape.has, WShape.arms, WShape.armsAll])
    (show (WTm.eq .res (.lit (.bool true))).value [] { args := args, res := some (.bool true), after := args } = some (.bool (true == true)) from w_eq_bool (w_res rfl) w_lit) rfl

/-! ### the attachment: holds_open's last premise (the goal 'hc' behind k_head) from a wpAny of the law's body -/

/-- the same from a codeAny of the CALL (for a layer whose function contracts speak of calls) -/
theorem attach_call {l : OpenLaw} {n : Nat} {q : Program} {loose : List Str} {XP : (Str → Option Value) → Heap → Prop} {YP : World → Heap → Prop} {d : DefRec}
    (hn : l.most = some n) (hdf : d.params.defaults = [])
    (call : ∀ (w : World) (s₀ s₁ : Shared) (mg mb : Str → Option Value) (fa : Addr) (o : Obj) (pm cd doc : Value) (a : Addr) (vs : List Value) (ns : List Int),
      Ground q loose [] XP w s₀ mg mb s₁.heap → YP w s₁.heap →
      s₁.heap.get? fa = some o → o.data = .func (docDef d.name d.params d.body d.scope pm cd doc) → s₁.heap.CodeRec cd d.name → mg d.name = some (.ref fa) →
      s₁.heap.get? a = some { cls := .type "list", data := .seq vs.toArray } → IntsAre vs ns → ns.length ≤ n → s₁.gens = #[] →
      codeAny (model l.prog w) callerA (.call (.ref fa) ⟨[.ref a], []⟩) (fun r s' => r = .ok (.ret (.bool true)) ∧ OldK s₁.heap s'.heap ∧ s'.os = s₁.os ∧ AllBare s'.gens) s₁) :
    WalkO q loose XP YP l.row.toRowW d [] (fun f vs => PySem.call f vs) := by
  intro w s₀ s₁ mg mb G Y fa o pm cd doc dV kV ho hd hcd hD hmg hg args vals as hpre hlay hrd hwl hlo
  obtain rfl : dV = .none := Dflts.none hD hdf
  obtain rfl : kV = .none := Dflts.noKw hD
  obtain ⟨a, vs, ns, rfl, rfl, hobj, hints, hlen⟩ := script_of hn hpre hwl
  refine enter_call (codeAny_mono (call w s₀ s₁ mg mb fa o pm cd doc a vs ns G Y ho (fd_plain hd) hcd hmg hobj hints hlen hg) fun r s' hq => ?_)
  obtain ⟨rfl, h2, h3, h4⟩ := hq
  exact ⟨.inl ⟨.bool true, .bool true, [], rfl, fun _ => rfl, .bool true, post_true l _, fun _ => ⟨List.Pairwise.nil, fun _ hm => (nomatch hm)⟩⟩, h2, h3, h4⟩


/-! ### rules over ANY heap (no ledger) from facts about the written part K: the library's own take a ledger (News) for what they write -/
section
variable {prog : Program} {w : World} {A : Around} {E : Value → Shared → Prop} {s : Shared} {K : Frag}





/-! the whole heap as the ledger: makes every rule that writes through a ledger a rule over any heap -/
def noObjs (h : Heap) : Heap := { h with objs := #[] }
def ledger (h : Heap) (L d : Addr) : List (Addr × Obj) := (List.range h.objs.size).filterMap fun a => if a = L ∨ a = d then none else (h.get? a).map fun o => (a, o)

end
end Att

namespace L2
open PySem PySem.Spec PyProof.Rows

theorem vals_ints : ∀ {vs : List Value} {ns : List Int}, IntsAre vs ns → Vals (ns.map V.int) vs
  | _, _, .nil => .nil
  | _, _, .cons n t h => .cons ⟨t, rfl⟩ (vals_ints h)

/-- nothing is tracked but the script, known to the object (or it is an object of the module) -/
def Only (H : Hp) : Prop := ∀ b, H b = none ∨ ∃ o xs, H b = some (.frz o (.lst xs))

/-- THE HEAD: the law's promise, at the heap behind the top. F, the promise of the law's def, may use that base is part of the heap (so K.In base, base.Ns mainGlobals mg stand in Mod) -/
theorem law_call {P : Program} {w : World} {K : PySem.W.Frag} {mg mb : Str → Option Value} {CX : CXT} {k : Nat} {fa a : Addr} {fd : FuncData} {x : Str} {sp : Sp} {s₁ : Shared} {vs : List Value} {ns : List Int}
    (KX : K.In s₁.heap) (hns : s₁.heap.Ns mainGlobals mg) (hb : s₁.heap.Ns builtinsNs mb) (hbb : ∀ x : Str, x ≠ "__name__" → mb x = bootBuiltins x) (hlim : s₁.heap.NoLimit) (hg : s₁.gens = #[])
    (ha : s₁.heap.get? a = some { cls := .type "list", data := .seq vs.toArray }) (hi : IntsAre vs ns) (hl : ns.length ≤ sizeLine) (hr : Room k callerA)
    (F : ∀ base : Heap, K.In base → base.Ns mainGlobals mg → FnOk P w K mg base CX k fa fd [x] sp) (hbind : ∀ (s : Shared) (u : Value), BindsTo s fd ⟨[u], []⟩ [(x, u)])
    (hsp : ∀ H : Hp, Only H → SqL K H a (ns.map V.int) → sp [.ref a] H (fun v _ => v = .bl true) fun _ _ _ => False)
    (hCX : ∀ H e s', CX [] H s₁ (fun _ _ _ => False) e s' → False) :
    codeAny (model P w) callerA (.call (.ref fa) ⟨[.ref a], []⟩) (fun r s' => r = .ok (.ret (.bool true)) ∧ OldK s₁.heap s'.heap ∧ s'.os = s₁.os ∧ AllBare s'.gens) s₁ := by
  have rv := vals_ints hi
  have lenV := hi.length
  -- from an abstract heap in which nothing but the script may be tracked
  have core : ∀ H : Hp, Only H → SqL K H a (ns.map V.int) → HOk P w H s₁.heap → (∀ b, H b ≠ none → b = a) → (H a ≠ none → K.lookup a = none) →
      codeAny (model P w) callerA (.call (.ref fa) ⟨[.ref a], []⟩) (fun r s' => r = .ok (.ret (.bool true)) ∧ OldK s₁.heap s'.heap ∧ s'.os = s₁.os ∧ AllBare s'.gens) s₁ := by
    intro H hO hS hok hA hK
    have base_of : ∀ {b : Addr} {o : Obj}, s₁.heap.get? b = some o → H b = none → (hidT s₁.heap H).get? b = some o := fun e n => hidT_get e n
    have noA : ∀ {b : Addr} {o : Obj} {es : Array DictEntry} {ep : Nat}, s₁.heap.get? b = some o → o.data = .dict es ep → H b = none := fun {b o es ep} e d => by
      cases q : H b with
      | none => rfl
      | some u =>
        have e' : b = a := hA b (by rw [q]; simp)
        subst e'
        rw [ha] at e; cases e
        have d' : Data.seq vs.toArray _ = Data.dict es ep := d
        cases d'
    have nsK : ∀ {b : Addr} {m : Str → Option Value}, s₁.heap.Ns b m → (hidT s₁.heap H).Ns b m := fun {b m} ⟨o, es, ep, e, d, r⟩ => ⟨o, es, ep, base_of e (noA e d), d, r⟩
    have hKb : K.In (hidT s₁.heap H) := fun b o e => base_of (KX b o e) (by
      cases q : H b with
      | none => rfl
      | some u =>
        have e' : b = a := hA b (by rw [q]; simp)
        subst e'
        rw [hK (by rw [q]; simp)] at e; cases e)
    have hM : Mod K mg (hidT s₁.heap H) := ⟨hKb, nsK hns, ⟨mb, nsK hb, hbb⟩, let ⟨mc, h1, h2⟩ := hlim; ⟨mc, nsK h1, h2⟩⟩
    have e0 : Env0 P w K mg (hidT s₁.heap H) callerA [] s₁ H := ⟨rfl, hM, fun b o e => of_hidT e, Nat.le_of_eq (hidT_size _ _), trivial, fun b hb => absurd (show b ∈ ([] : List Addr) from hb) (by simp), hok, .of_eq hg⟩
    refine codeAny_mono ((F _ hKb (nsK hns)).run callerA [] s₁ H ⟨[.ref a], []⟩ [.ref a] [.ref a] _ _ hr e0 (hbind s₁ (.ref a)) (.cons rfl .nil) (hsp H hO hS)) fun r s' h => ?_
    cases r with
    | error e => exact (hCX H e s' h).elim
    | ok fl =>
      cases fl with
      | next => exact False.elim h
      | brk => exact False.elim h
      | cont => exact False.elim h
      | ret u =>
        obtain ⟨v, H', os, bare, un, hok', r', q⟩ := h
        have q' : v = .bl true := q
        subst q'
        obtain rfl : u = Value.bool true := r'
        refine ⟨rfl, OldK.of_keep fun b o e => ?_, os, bare⟩
        cases q : H b with
        | none => exact un.keep b o e q (by intro z; exact absurd (show b ∈ ([] : List Addr) from z) (by simp)) (by simp)
        | some u =>
          rcases hO b with z | ⟨ob, xs, z⟩
          · rw [q] at z; cases z
          · have z2 := un.frzs b ob _ z
            obtain ⟨e1, _⟩ := hok b _ z
            obtain ⟨e2, _⟩ := hok' b _ z2
            rw [e] at e1; cases e1
            exact e2
  cases hk : K.lookup a with
  | some o =>
    -- the script is one of the module's own objects
    have e := KX a o hk
    rw [ha] at e
    cases e
    refine core (fun _ => none) (fun _ => .inl rfl) (.inr ⟨_, vs.toArray, _, hk, rfl, rfl, rfl, by rw [List.size_toArray, lenV]; exact hl, by simpa using rv⟩) (fun b u z => by have z' : (none : Option HO) = some u := z; cases z') (fun b z => absurd rfl z) fun z => absurd rfl z
  | none =>
    refine core (fun b => if b = a then some (.frz { cls := .type "list", data := .seq vs.toArray } (.lst (ns.map V.int))) else none) (fun b => ?_) (.inl (.inr ⟨{ cls := .type "list", data := .seq vs.toArray }, if_pos rfl⟩)) (fun b u z => ?_) (fun b z => ?_) fun _ => hk
    · by_cases hb : b = a
      · exact .inr ⟨_, _, if_pos hb⟩
      · exact .inl (if_neg hb)
    · by_cases hb : b = a
      · have z' := (if_pos hb).symm.trans z
        cases z'
        subst hb
        exact ⟨ha, by rw [List.length_map]; exact hl, vs, _, rv, ha⟩
      · have z' := (if_neg hb).symm.trans z
        cases z'
    · by_cases hb : b = a
      · exact hb
      · exact absurd (if_neg hb) z
end L2

namespace L2
open PySem PySem.Spec PyProof.Rows

abbrev KOf {K : PySem.W.Frag} {h : Heap} (_ : K.In h) : PySem.W.Frag := K

/-- the goal that k_head leaves (case hc), from the law's promise. F gives the function object fd (K's own) once, then the promise over every base -/
theorem walk_of {l : PySem.W.OpenLaw} {n k : Nat} {q : Program} {loose : List Str} {XP : (Str → Option Value) → Heap → Prop} {YP : World → Heap → Prop} {d : DefRec} {K : Params → PySem.W.Frag} {CX : World → CXT} {sp : World → Sp} {x : Str}
    (hn : l.most = some n) (hn2 : n ≤ sizeLine) (hdf : d.params.defaults = []) (hr : Room k callerA)
    (hY : ∀ (w : World) (h : Heap), YP w h → (K w.params).In h)
    (F : ∀ (w : World) (mg : Str → Option Value) (fa : Addr) (h : Heap), (K w.params).In h → h.Ns mainGlobals mg → mg d.name = some (.ref fa) →
      ∃ fd : FuncData, (∀ (s : Shared) (u : Value), BindsTo s fd ⟨[u], []⟩ [(x, u)]) ∧
        ∀ base : Heap, (K w.params).In base → base.Ns mainGlobals mg → FnOk l.prog w (K w.params) mg base (CX w) k fa fd [x] (sp w))
    (hsp : ∀ (w : World) (H : Hp) (a : Addr) (ns : List Int), ns.length ≤ n → Only H → SqL (K w.params) H a (ns.map V.int) → sp w [.ref a] H (fun v _ => v = .bl true) fun _ _ _ => False)
    (hCX : ∀ (w : World) (H : Hp) (s : Shared) (e : Value) (s' : Shared), CX w [] H s (fun _ _ _ => False) e s' → False) :
    PySem.W.WalkO q loose XP YP l.row.toRowW d [] (fun f vs => PySem.call f vs) := by
  refine Att.attach_call hn hdf fun w s₀ s₁ mg mb fa o pm cd doc a vs ns G Y ho hd hcd hmg hobj hints hlen hg => ?_
  have KX := hY w _ Y
  obtain ⟨fd, hb, hF⟩ := F w mg fa _ KX G.T.g hmg
  exact law_call KX G.T.g G.T.b G.T.builtins G.T.nolimit hg hobj hints (Nat.le_trans hlen hn2) hr hF hb (fun H hO hS => hsp w H a ns hlen hO hS) fun H e s' => hCX w H s₁ e s'
end L2

/- THE LAST THEOREM (shape; LID, My.* are yours):
   My.Adr: a structure of the addresses that your layer names (classes, functions); My.Txt K t: a structure (Prop) of the equations over K;
   My.txt_mk : {K} {implicit addresses ..} (e1 : nsIn K mainGlobals "law" = some (some (.ref f))) (e2 : K.lookup f = some ⟨oc, od, .func (fnOf "law" "law" params body scope dV kV doc pm an cdv ct), sl⟩) (e3 : codeIn K cdv "law" = true) .. : ∃ t, My.Txt K t

set_option maxRecDepth 100000 in
set_option maxHeartbeats 0 in
theorem PySem.Challenge.cw_LID_holds : PySem.Challenge.rw_LID.Holds := by
  w_on; o_law; k_head; (case hw => w_witness2)
  k_fill
  refine L2.walk_of (l := PySem.Challenge.rw_LID) (n := 63) (k := 40) (x := "script") (CX := fun w => ..) (sp := fun _ => My.sp_law) rfl (by decide) rfl ⟨rfl, by decide, by decide⟩ (fun w h Y => PySem.W.kIn_of Y) ?F ?S ?C
  case F =>
    intro w mg fa h KX G hmg
    have T : ∃ t, My.Txt (L2.KOf KX) t := by
      dsimp only [L2.KOf]                          -- K must stand as «<heap const> w.params» for k_is
      refine' My.txt_mk ?e1 ?e2 ?e3 ..
      (case e1 => PySem.W.k_is)                    -- in the order: a name -> its address -> its object -> its parts
      (case e2 => PySem.W.k_is)
      ..
    obtain ⟨t, T⟩ := T
    have e0 := hmg.symm.trans (PySem.W.mg_of KX G T.law)
    cases e0                                       -- fa is the law's own address
    exact ⟨_, fun s u => .of_eq rfl, fun base kb nb => My.law_fn T kb nb⟩     -- if «.of_eq rfl» comes too early: refine' ⟨_, ?b, fun base kb nb => My.law_fn T kb nb⟩; exact fun s u => .of_eq rfl
  case S => exact fun w H a ns hl hO hS => ..
  case C => exact ..
(the tactic k_is has no namespace: write k_is) -/

/-! SHORT WORDS over the layer: a def of the text, its body, what a loop and a test want. -/
namespace L2
open PySem PySem.Spec PyProof.Rows

/-! ### the text by places -/
/-- the j-th statement of a class's body -/
def inClass (s : Stmt) (j : Nat) : Stmt := match s with
  | .ClassDef _ _ _ body _ _ _ _ _ _ _ => body.getD j (.Pass ⟨0, 0, 0, 0⟩)
  | _ => .Pass ⟨0, 0, 0, 0⟩
def defArgs (s : Stmt) : Arguments := match s with
  | .FunctionDef _ a _ _ _ _ _ _ _ _ => a
  | _ => { posonlyargs := [], args := [], vararg := none, kwonlyargs := [], kw_defaults := [], kwarg := none, defaults := [] }
def defBody (s : Stmt) : List Stmt := match s with
  | .FunctionDef _ _ b _ _ _ _ _ _ _ => b
  | _ => []
def defScope (s : Stmt) : Scope := match s with
  | .FunctionDef _ _ _ _ _ _ sc _ _ _ => sc
  | _ => { kind := .function, names := [], isGenerator := false, isCoroutine := false }

/-! ### no exception leaves a def -/
abbrev CX0 : CXT := fun _ _ _ _ _ _ => False
abbrev E0 : XK := fun _ _ _ => False
theorem pass0 {X : Cx} : Passes CX0 X E0 := fun _ _ _ _ _ _ _ h => h.elim

/-! ### a def (or method) of the text as it stands behind the top -/
structure Fun (K : PySem.W.Frag) (x qual : Str) (st : Stmt) (f : Addr) (fd : FuncData) : Prop where
  ex : ∃ (oc : Value) (od : Option Addr) (kV doc pm : Value) (an : Option Addr) (cdv ct : Value) (osl : Array (Option Value)),
    fd = PySem.W.fnOf x qual (defArgs st) (defBody st) (defScope st) .none kV doc pm an cdv ct ∧ K.lookup f = some ⟨oc, od, .func fd, osl⟩ ∧ PySem.W.codeIn K cdv qual = true
  kp : PySem.W.keepIn K (.ref f) = true
section
variable {P : Program} {w : World} {K : PySem.W.Frag} {mg : Str → Option Value} {base : Heap}
/-- THE RULE for a def: its body as a term of rules, and the reading of that term -/
theorem Fun.ok {x qual : Str} {st : Stmt} {f : Addr} {fd : FuncData} {N ps : List Str} {k : Nat} {sp : Sp} (F : Fun K x qual st f fd) (S : FnScope N ps (defScope st)) (len : ∀ vs H Q E, sp vs H Q E → vs.length = ps.length)
    (hbody : ∀ (cdv : Value) (A : Around) (outer : List Env) (s : Shared) (H : Hp) (vs : List V) (Q : VK) (E : XK), Room k (A.deeper (envOfC qual (defScope st) s.heap.objs.size f cdv)) → sp vs H Q E →
      ∃ t, PSs (cxOf CX0 P w K mg base N qual (defScope st) f cdv A outer s H E).nox (defBody st) t ∧ t { nx := fun _ H' => Q .non H', rt := Q } (start N vs) H) : FnOk P w K mg base CX0 (k + 1) f fd ps sp := by
  obtain ⟨oc, od, kV, doc, pm, an, cdv, ct, osl, rfl, lk, hcd⟩ := F.ex
  refine fn_of lk hcd S len fun A outer s H vs Q E hr hsp => ?_
  obtain ⟨t, h, q⟩ := hbody cdv A outer s H vs Q E hr hsp
  exact ⟨t, h.nox, q⟩
/-- how its arguments bind (no defaults): h is «fun _ _ _ _ _ _ us hl => match us, hl with | [_, _], _ => rfl», one _ a parameter -/
theorem Fun.binds {x qual : Str} {st : Stmt} {f : Addr} {fd : FuncData} {ps : List Str} (F : Fun K x qual st f fd)
    (h : ∀ (kV doc pm : Value) (an : Option Addr) (cdv ct : Value) (us : List Value), us.length = ps.length → bindArgs (PySem.W.fnOf x qual (defArgs st) (defBody st) (defScope st) .none kV doc pm an cdv ct) ⟨us, []⟩ = pure (ps.zip us)) : Binds K fd ps [] := by
  obtain ⟨oc, od, kV, doc, pm, an, cdv, ct, osl, rfl, lk, hcd⟩ := F.ex
  exact .all (h kV doc pm an cdv ct)
theorem fun_mk {x qual : Str} {st : Stmt} {f : Addr} {oc : Value} {od an : Option Addr} {osl : Array (Option Value)} {kV doc pm cdv ct : Value} (l : K.lookup f = some ⟨oc, od, .func (PySem.W.fnOf x qual (defArgs st) (defBody st) (defScope st) .none kV doc pm an cdv ct), osl⟩)
    (c : PySem.W.codeIn K cdv qual = true) (k : PySem.W.keepIn K (.ref f) = true) : Fun K x qual st f (PySem.W.fnOf x qual (defArgs st) (defBody st) (defScope st) .none kV doc pm an cdv ct) := ⟨⟨oc, od, kV, doc, pm, an, cdv, ct, osl, rfl, l, c⟩, k⟩
end

/-! ### expressions in short: the name that stands in the i-th slot -/
section
variable {X : Cx}
theorem pv (i : Nat) {x : Str} {pos : Pos} (hN : X.N[i]? = some x := by rfl) (hv : Vis X.env.scope x := by first | exact Or.inl rfl | exact Or.inr (Or.inl rfl) | exact Or.inr (Or.inr rfl)) (hd : (x == ("__debug__" : Str)) = false := by decide)
    (hcd : (x == ("__classdict__" : Str)) = false := by decide) : PE X (.Name x pos) (tVar i) := pe_var hN hv hd hcd
end

/-! ### tests -/
theorem iteF {A B : Prop} (h : B) : if false = true then A else B := by
  rw [if_neg Bool.false_ne_true]
  exact h
theorem iteT {A B : Prop} (h : A) : if true = true then A else B := by
  rw [if_pos rfl]
  exact h
theorem ite2 {c A B : Prop} [Decidable c] (h1 : c → A) (h2 : ¬ c → B) : if c then A else B := by
  by_cases h : c
  · rw [if_pos h]
    exact h1 h
  · rw [if_neg h]
    exact h2 h

/-! ### heaps -/
/-- all that was tracked is as it was -/
def Same (H H' : Hp) : Prop := ∀ b o, H b = some o → H' b = some o
theorem Same.refl (H : Hp) : Same H H := fun _ _ h => h
theorem Same.trans {H H1 H2 : Hp} (a : Same H H1) (b : Same H1 H2) : Same H H2 := fun c o h => b c o (a c o h)
theorem Same.free {H H' : Hp} (e : Same H H') {l : Addr} (h : H' l = Option.none) : H l = Option.none := by
  cases q : H l with
  | none => rfl
  | some o =>
    rw [e l o q] at h
    cases h
theorem Same.seq {K : PySem.W.Frag} {H H' : Hp} {a : Addr} {xs : List V} (e : Same H H') (h : SqL K H a xs) : SqL K H' a xs := by
  rcases h with (h | ⟨o, h⟩) | h
  · exact .inl (.inl (e _ _ h))
  · exact .inl (.inr ⟨o, e _ _ h⟩)
  · exact .inr h

end L2

set_option Elab.async false
set_option linter.all false
set_option maxRecDepth 100000
/-! ### what is tracked may be forgotten -/
namespace L2
open PySem PySem.Spec PyProof.Rows

/-- an instance's dict stands with it -/
def ClAt (H : Hp) (a : Addr) : HO → Prop
  | .ins _ dx _ => H dx = some (.own a)
  | .frz _ u => ClAt H a u
  | _ => True
def Cl (H : Hp) : Prop := ∀ a o, H a = some o → ClAt H a o
def Imm : HO → Prop
  | .tup _ => True
  | .frz _ _ => True
  | _ => False
/-- from the entry's H₀ the heap has come to H; H' is left of it -/
structure Gc (H₀ H H' : Hp) : Prop where
  sub : ∀ b o, H' b = some o → H b = some o
  cl : Cl H'
  imm : ∀ b o, Imm o → H₀ b = some o → H b = some o → H' b = some o

section
variable {P : Program} {w : World} {H H' H₀ : Hp} {h : Heap} {a l : Addr} {o : HO} {xs : List V}
theorem ObjOk.clAt (x : ObjOk P w H h a o) : ClAt H a o := by
  induction o with
  | ins C dx fs => exact x.1
  | frz ob u ih => exact ih x.2
  | _ => trivial
theorem HOk.cl (x : HOk P w H h) : Cl H := fun a o e => (x a o e).clAt
theorem ObjOk.less (x : ObjOk P w H h a o) (c : ClAt H' a o) : ObjOk P w H' h a o := by
  induction o with
  | ins C dx fs => exact ⟨c, x.2⟩
  | frz ob u ih => exact ⟨x.1, ih x.2 c⟩
  | _ => exact x
theorem HOk.less (x : HOk P w H h) (sub : ∀ b o, H' b = some o → H b = some o) (cl : Cl H') : HOk P w H' h := fun a o e => (x a o (sub a o e)).less (cl a o e)
theorem ClAt.upd (c : ClAt H a o) (n : H l = none) : ∀ u, ClAt (upd H l u) a o := by
  intro u
  induction o with
  | ins C dx fs =>
    have c' : H dx = some (.own a) := c
    show L2.upd H l u dx = _
    rw [upd_ne (ne_of_none c' n)]
    exact c'
  | frz ob v ih => exact ih c
  | _ => trivial
theorem Cl.upd {u : HO} (c : Cl H) (n : H l = none) (hu : ClAt (upd H l u) l u) : Cl (upd H l u) := fun a o e => by
  by_cases ha : a = l
  · subst ha
    rw [upd_same] at e
    cases e
    exact hu
  · rw [upd_ne ha] at e
    exact (c a o e).upd n u
theorem free_of_sub (sub : ∀ b o, H' b = some o → H b = some o) {b : Addr} (n : H b = none) : H' b = none := by
  cases q : H' b with
  | none => rfl
  | some u => rw [sub b u q] at n; cases n
/-- all that came is forgotten -/
theorem Gc.back (c : Cl H₀) (e : Same H₀ H) : Gc H₀ H H₀ := ⟨e, c, fun _ _ _ h _ => h⟩
/-- all that came but a list -/
theorem Gc.one {u : HO} (c : Cl H₀) (e : Same H₀ H) (n : H₀ l = none) (h : H l = some u) (hu : ClAt (upd H₀ l u) l u) : Gc H₀ H (upd H₀ l u) := by
  refine ⟨fun b o q => ?_, c.upd n hu, fun b o _ h0 _ => ?_⟩
  · by_cases hb : b = l
    · subst hb; rw [upd_same] at q; cases q; exact h
    · rw [upd_ne hb] at q; exact e b o q
  · rw [upd_ne (ne_of_none h0 n)]; exact h0
theorem Gc.refl (c : Cl H) : Gc H₀ H H := ⟨fun _ _ h => h, c, fun _ _ _ _ h => h⟩
end

section
variable {X : Cx} {pins : List (Addr × Obj)} {σ : St} {H H' : Hp} {s : Shared}
end
end L2

set_option Elab.async false
set_option linter.all false
set_option maxRecDepth 100000
/-! ### list comprehensions: [elt for x in iter] -/
namespace L2
open PySem PySem.Spec PyProof.Rows

/-- a comprehension's free names with their cells -/
def freesOf (names : List (Str × NameKind)) (cells : List (Str × Addr)) (acc : List (Str × Addr)) : List (Str × Addr) :=
  match names with
  | [] => acc
  | (n, k) :: r => freesOf r cells (if k == .free then (n, (cells.lookup n).getD 0) :: acc else acc)
theorem clos_go {env : Env} : ∀ (names : List (Str × NameKind)) (acc : List (Str × Addr)), names.all (fun y => y.2 != .free || (env.cells.lookup y.1).isSome) = true →
    (forIn names acc fun (x : Str × NameKind) cs => (do
      if x.2 == .free then do
        let c ← cellOf env x.1
        pure (ForInStep.yield ((x.1, c) :: cs))
      else pure (ForInStep.yield cs) : Sem (ForInStep (List (Str × Addr))))) = pure (freesOf names env.cells acc)
  | [], acc, _ => rfl
  | (n, k) :: r, acc, h => by
    have h1 : (k != .free || (env.cells.lookup n).isSome) = true := by
      have := List.all_eq_true.mp h (n, k) List.mem_cons_self
      exact this
    have h2 : r.all (fun y => y.2 != .free || (env.cells.lookup y.1).isSome) = true := List.all_eq_true.mpr fun y hy => List.all_eq_true.mp h y (List.mem_cons_of_mem _ hy)
    rw [List.forIn_cons]
    by_cases hk : k = .free
    · subst hk
      obtain ⟨c, hc⟩ := Option.isSome_iff_exists.mp (show (env.cells.lookup n).isSome = true from h1)
      have e : cellOf env n = pure c := by unfold cellOf; rw [hc]
      simp only [beq_self_eq_true, if_true, e, pure_bind]
      rw [clos_go r _ h2]
      simp only [freesOf, beq_self_eq_true, if_true, hc, Option.getD_some]
    · have hb : (k == NameKind.free) = false := by simpa using hk
      simp only [hb, Bool.false_eq_true, if_false, pure_bind]
      rw [clos_go r _ h2]
      simp only [freesOf, hb, Bool.false_eq_true, if_false]
theorem clos_eq {env : Env} {scope : Scope} (h : scope.names.all (fun y => y.2 != .free || (env.cells.lookup y.1).isSome) = true) : closureFor scope env = pure (freesOf scope.names env.cells []) := by
  unfold closureFor
  have := clos_go (env := env) scope.names [] h
  first
    | exact this
    | (simp only [bind_pure]; exact this)
    | (rw [this]; rfl)
theorem frees_sub {cells : List (Str × Addr)} : ∀ (names : List (Str × NameKind)) (acc : List (Str × Addr)), names.all (fun y => y.2 != .free || (cells.lookup y.1).isSome) = true → (∀ y c, acc.lookup y = some c → cells.lookup y = some c) →
    ∀ y c, (freesOf names cells acc).lookup y = some c → cells.lookup y = some c
  | [], acc, _, ha => ha
  | (n, k) :: r, acc, h, ha => by
    have h1 : (k != .free || (cells.lookup n).isSome) = true := List.all_eq_true.mp h (n, k) List.mem_cons_self
    have h2 : r.all (fun y => y.2 != .free || (cells.lookup y.1).isSome) = true := List.all_eq_true.mpr fun y hy => List.all_eq_true.mp h y (List.mem_cons_of_mem _ hy)
    unfold freesOf
    refine frees_sub r _ h2 ?_
    by_cases hk : k = .free
    · subst hk
      obtain ⟨c, hc⟩ := Option.isSome_iff_exists.mp (show (cells.lookup n).isSome = true from h1)
      rw [if_pos (by rfl)]
      intro y d hd
      rw [List.lookup_cons] at hd
      cases hyn : y == n with
      | true =>
        rw [hyn] at hd
        have : y = n := by simpa using hyn
        subst this
        rw [hc] at hd ⊢
        simpa using hd
      | false => rw [hyn] at hd; exact ha y d hd
    · rw [if_neg (by simpa using hk)]
      exact ha
theorem frees_has {cells : List (Str × Addr)} : ∀ (names : List (Str × NameKind)) (acc : List (Str × Addr)) (y : Str), ((y, NameKind.free) ∈ names ∨ ∃ c, acc.lookup y = some c) → ∃ c, (freesOf names cells acc).lookup y = some c
  | [], acc, y, h => by
    rcases h with h | h
    · simp at h
    · exact h
  | (n, k) :: r, acc, y, h => by
    unfold freesOf
    refine frees_has r _ y ?_
    rcases h with h | ⟨c, h⟩
    · rcases List.mem_cons.mp h with e | h
      · cases e
        refine .inr ⟨(cells.lookup n).getD 0, ?_⟩
        rw [if_pos (by rfl), List.lookup_cons, beq_self_eq_true]
      · exact .inl h
    · refine .inr ?_
      split
      · rw [List.lookup_cons]
        cases y == n with
        | true => exact ⟨_, rfl⟩
        | false => exact ⟨c, h⟩
      · exact ⟨c, h⟩
theorem lookup_relabel_free {env : Env} : ∀ {names : List (Str × NameKind)} {x : Str}, names.lookup x = some .free →
    (names.map fun (n, k) => if (k == NameKind.free && env.scope.kind == .function && env.kindOf n == some .cell) then (n, NameKind.cell) else (n, k)).lookup x = some .cell ∨
    (names.map fun (n, k) => if (k == NameKind.free && env.scope.kind == .function && env.kindOf n == some .cell) then (n, NameKind.cell) else (n, k)).lookup x = some .free
  | [], _, h => by simp at h
  | (n, k) :: r, x, h => by
    have ih := @lookup_relabel_free env r x
    simp only [List.map_cons]
    cases hx : x == n with
    | true =>
      simp only [List.lookup_cons, hx] at h
      cases h
      split <;> simp [List.lookup_cons, hx]
    | false =>
      simp only [List.lookup_cons, hx] at h
      split
      · simp only [List.lookup_cons, hx]; exact ih h
      · simp only [List.lookup_cons, hx]; exact ih h
theorem relabel_of_cell {env : Env} : ∀ {names : List (Str × NameKind)} {x : Str}, (∀ y ∈ names, y.2 ≠ .cell) →
    ((names.map fun (n, k) => if (k == NameKind.free && env.scope.kind == .function && env.kindOf n == some .cell) then (n, NameKind.cell) else (n, k)).lookup x = some .cell ∨
    (names.map fun (n, k) => if (k == NameKind.free && env.scope.kind == .function && env.kindOf n == some .cell) then (n, NameKind.cell) else (n, k)).lookup x = some .free) → (x, NameKind.free) ∈ names
  | [], _, _, h => by simp at h
  | (n, k) :: r, x, hc, h => by
    have ih := @relabel_of_cell env r x fun y hy => hc y (List.mem_cons_of_mem _ hy)
    have hk := hc (n, k) List.mem_cons_self
    simp only [List.map_cons] at h
    cases hx : x == n with
    | true =>
      have e : x = n := by simpa using hx
      subst e
      by_cases c : (k == NameKind.free && env.scope.kind == .function && env.kindOf x == some .cell) = true
      · have : k = .free := by
          simp only [Bool.and_eq_true] at c
          simpa using c.1.1
        subst this
        exact List.mem_cons_self
      · rw [if_neg c] at h
        simp only [List.lookup_cons, hx] at h
        rcases h with h | h
        · cases h; exact absurd rfl hk
        · cases h; exact List.mem_cons_self
    | false =>
      refine List.mem_cons_of_mem _ (ih ?_)
      split at h
      · simp only [List.lookup_cons, hx] at h; exact h
      · simp only [List.lookup_cons, hx] at h; exact h

/-- the outer names that the element reads: their slots -/
def lcNames (N : List Str) (sc scope : Scope) : List Nat → List Str → Bool
  | [], [] => true
  | j :: js, y :: ys => (N[j]? == some y) && (sc.names.lookup y == some .cell) && (scope.names.lookup y == some .free) && lcNames N sc scope js ys
  | _, _ => false
theorem lcNames.at {N : List Str} {sc scope : Scope} : ∀ {js : List Nat} {ys : List Str} {k : Nat} {y : Str}, lcNames N sc scope js ys = true → ys[k]? = some y →
    ∃ j, js[k]? = some j ∧ N[j]? = some y ∧ sc.names.lookup y = some .cell ∧ scope.names.lookup y = some .free
  | [], [], k, y, _, e => by simp at e
  | j :: js, y' :: ys, 0, y, h, e => by
    simp only [lcNames, Bool.and_eq_true, beq_iff_eq] at h
    simp at e; subst e
    exact ⟨j, rfl, h.1.1.1, h.1.1.2, h.1.2⟩
  | j :: js, y' :: ys, k + 1, y, h, e => by
    simp only [lcNames, Bool.and_eq_true] at h
    obtain ⟨i, h1, h2⟩ := lcNames.at (k := k) h.2 (by simpa using e)
    exact ⟨i, by simpa using h1, h2⟩
  | [], y' :: ys, k, y, h, e => by simp [lcNames] at h
  | j :: js, [], k, y, h, e => by simp at e
theorem lcNames.len {N : List Str} {sc scope : Scope} : ∀ {js : List Nat} {ys : List Str}, lcNames N sc scope js ys = true → js.length = ys.length
  | [], [], _ => rfl
  | j :: js, y :: ys, h => by
    simp only [lcNames, Bool.and_eq_true] at h
    simp [lcNames.len h.2]
  | [], y' :: ys, h => by simp [lcNames] at h
  | j :: js, [], h => by simp [lcNames] at h

/-- the comprehension's context -/
def lcCx (X : Cx) (scope : Scope) (N : List Str) (C : Addr) (s₂ : Shared) (H₁ : Hp) (fp : List Addr) : Cx where
  prog := X.prog
  w := X.w
  K := X.K
  mg := X.mg
  base := X.base
  A := X.A
  N := N
  s₀ := s₂
  H₀ := H₁
  env := compEnvC scope (freesOf scope.names X.env.cells []) C X.env
  outer := X.stack
  stack := X.stack
  ex := fp
  fn := fun _ => false
  calm := X.calm
  pn := []
  xe := fun _ _ => False

def tLC (wi : TI) (js : List Nat) (te : TE) : TE := fun σ H Q => wi σ H fun J H1 => ∃ W : Nat → Nat → List V → Hp → Prop, (∃ m, W 0 m [] H1) ∧ ∀ i m acc H, W i m acc H →
  (J.stop i H ∧ ∀ D, H D = none → Q (.ref D) (upd H D (.lst acc))) ∨
  (J.go i H ∧ acc.length < sizeLine ∧ ∀ x H', J.yld i H x H' → te (some x :: js.map fun j => σ.getD j none) H' fun y H'' => ∃ m', m' < m ∧ W (i + 1) m' (acc ++ [y]) H'')

section
variable {prog : Program} {w : World} {A : Around} {R : Result → Shared → Prop} {s : Shared}
theorem compLoop_any {elt target iter : Expr} {scope : Scope} {pos : Pos} {it acc : Value} {env : Env} (I : Nat → Shared → Prop)
    (turn : ∀ n s, I n s → wpAny (model prog w) A (pyNext it) (fun r s₁ => match r with
      | none => R (.ok .next) s₁
      | some v => wpAny (model prog w) A (letOwnedTupleGo target it v) (fun _ s₁' => wpAny (model prog w) A (assign target env v) (fun _ s₂ => wpAny (model prog w) A (eval elt env) (fun x s₃ =>
          wpAny (model prog w) A (call (.builtin "list.append") [acc, x]) (fun _ s₄ => ∃ m, m < n ∧ I m s₄) (fun _ _ => False) s₃)
          (fun _ _ => False) s₂) (fun _ _ => False) s₁') (fun _ _ => False) s₁) (fun _ _ => False) s)
    (n : Nat) (h : I n s) :
    codeAny (model prog w) A (.compLoop (.ListComp elt [⟨target, iter, [], 0⟩] scope pos) 0 it acc env) R s := by
  refine codeAny_loop rfl I (fun n s hI => ?_) n h
  show wpAny _ _ ((compTurn (.ListComp elt [⟨target, iter, [], 0⟩] scope pos) 0 it acc env).onRaise (fun x => do noteFrame x env; theTreesLotGoes x)) _ _ s
  refine wpAny_noted ?_
  rw [compTurn_list1]
  refine wpAny_bind (wpAny_standAt (wpAny_bind (wpAny_mono (turn n s hI) (fun r s₁ h₁ => ?_) fun _ _ h' => h'.elim)))
  cases r with
  | none => exact wpAny_pure h₁
  | some v =>
    refine wpAny_bind (wpAny_mono h₁ (fun _ s₁' h₁' => ?_) fun _ _ h' => h'.elim)
    exact wpAny_bind (wpAny_mono h₁' (fun _ s₂ h₂ => wpAny_bind (wpAny_bind (wpAny_mono h₂ (fun x s₃ h₃ => wpAny_bind (wpAny_mono h₃
      (fun _ s₄ h₄ => wpAny_pure (wpAny_pure ⟨rfl, h₄⟩)) fun _ _ h' => h'.elim)) fun _ _ h' => h'.elim))) fun _ _ h' => h'.elim)
end

section
variable {X : Cx}

/-- what is known of a comprehension's frame C when its list D is done -/
structure LcEnd (X : Cx) (pins : List (Addr × Obj)) (σ : St) (Q : VK) (D C : Addr) (s4 : Shared) : Prop where
  run : ∃ (H4 : Hp) (acc : List V) (oC : Obj), Inv X pins σ (upd H4 D (.lst acc)) s4 ∧ Q (.ref D) (upd H4 D (.lst acc)) ∧ upd H4 D (.lst acc) C = none ∧ s4.heap.get? C = some oC ∧ ∀ v, oC.data ≠ .cell v
  ns : ∃ m, s4.heap.Ns C m
  loc : C ≠ X.env.locals
  fs : C ∉ X.fs
  new : X.s₀.heap.objs.size ≤ C
  cell : ∀ x c, X.env.cells.lookup x = some c → c ≠ C
  pin : ∀ p ∈ X.pn ++ pins, p.1 ≠ C
theorem lc_core {elt iter : Expr} {x : Str} {px pos : Pos} {scope : Scope} {ys : List Str} {js : List Nat} {wi : TI} {te : TE} (use : Option (Value → Sem Unit)) {pins : List (Addr × Obj)} {s : Shared} {σ : St} {H : Hp} {Q : VK} {Qv : Value → Shared → Prop}
    (hc : X.calm = true) (hi : PI X (.Name x px) iter wi)
    (hkind : scope.kind = .function) (hcell : ∀ y ∈ scope.names, y.2 ≠ .cell) (hloc : ∀ y ∈ scope.names, y.2 = .local → scope.names.lookup y.1 = some .local) (hx : scope.names.lookup x = some .local)
    (hfree : scope.names.all (fun y => y.2 != .free || (X.env.cells.lookup y.1).isSome) = true) (hys : lcNames X.N X.env.scope scope js ys = true) (hnd : (x :: ys).Nodup)
    (he : ∀ (C : Addr) (s₂ : Shared) (H₁ : Hp) (fp : List Addr), PE (lcCx X scope (x :: ys) C s₂ H₁ fp) elt te)
    (hs : ∀ v, foldedSetIterable iter X.env v = pure v) (I : Inv X pins σ H s) (h : tLC wi js te σ H Q)
    (hfin : ∀ D C s4, LcEnd X pins σ Q D C s4 → compPost (model X.prog X.w) X.A X.xe use Qv (.ref D) C (.ok .next) s4) :
    wpAny (model X.prog X.w) X.A (comprehension (.ListComp elt [⟨.Name x px, iter, [], 0⟩] scope pos) scope X.env (firstIterPos [⟨.Name x px, iter, [], 0⟩] pos) (newList []) (firstAsync [⟨.Name x px, iter, [], 0⟩]) (firstIter [⟨.Name x px, iter, [], 0⟩] X.env) use) Qv X.xe s := by
  refine wpAny_comprehension_free (use := use) rfl hs (clos_eq hfree) hkind hloc ?_
  refine thn (hi pins s σ H _ I h) fun v s1 h1 => thn h1 fun itv s2 h2 => ?_
  obtain ⟨it, fp, tn, J, H1, e, I2, T, st2, f2, W, ⟨m0, w0⟩, turn⟩ := h2
  subst e
  refine wpAny_newObj_type (wpAny_newFunctionEnv hcell (by intro y hy; simp at hy) (fun h₁ hns₁ hsb₁ => ?_) hkind)
  dsimp only at hns₁ hsb₁ ⊢
  generalize hD : s2.heap.objs.size = D at hns₁ hsb₁ ⊢
  generalize hH2 : s2.heap.push { cls := .type "list", dict := none, data := .seq ([] : List Value).toArray } = H2 at hns₁ hsb₁ ⊢
  generalize hCC : H2.objs.size = C at hns₁ hsb₁ ⊢
  have hC : C = D + 1 := by rw [← hCC, ← hH2, Heap.size_push, hD]
  have hDlt : D < C := by rw [hC]; exact Nat.lt_succ_self _
  have hDC : D ≠ C := Nat.ne_of_lt hDlt
  have below : ∀ b o, s2.heap.get? b = some o → b < D := fun b o q => by rw [← hD]; exact Heap.lt_size q
  have old : ∀ b o, s2.heap.get? b = some o → h₁.get? b = some o := fun b o q => hsb₁.extBut b o (Nat.ne_of_lt (Nat.lt_trans (below b o q) hDlt)) (Heap.get?_push_of_some _ (hH2 ▸ Heap.get?_push_of_some _ q))
  have hDobj : h₁.get? D = some { cls := .type "list", data := .seq ([] : List Value).toArray } := by
    refine hsb₁.extBut _ _ hDC (Heap.get?_push_of_some _ ?_)
    rw [← hH2, ← hD]
    exact Heap.get?_push_size _ rfl
  have fpD : ∀ b ∈ fp, b < D := fun b hb => by
    obtain ⟨o, q, _⟩ := T.obj 0 _ st2 b hb
    exact below b o q
  have hsub := frees_sub (cells := X.env.cells) scope.names [] hfree (by intro y c z; simp at z)
  have cellLt : ∀ y c, X.env.cells.lookup y = some c → c < D := fun y c q => by
    obtain ⟨v, o, ho, _⟩ := I2.cell y c q
    exact below c o ho
  generalize hY : lcCx X scope (x :: ys) C s2 H1 fp = Y
  have yok : Y.Ok := by
    subst hY
    refine ⟨I2.ok.mod, by simp [lcCx, compEnvC, relabel, hkind], I2.ok.glob, I2.ok.blt, ?_, fun a b c q1 q2 => I2.ok.inj a b c (hsub _ _ q1) (hsub _ _ q2), fun y hy => ?_, fun _ _ q => (Bool.false_ne_true q).elim, I2.ok.hd, I2.ok.frames, .inl rfl, fun b hb => ⟨?_, fun y c q => ?_⟩,
      I2.bs, Nat.le_trans I2.ok.bsz I2.sz, fun b o q hb => ?_, fun b hb hz => ?_, I2.stack, I2.stkFree⟩
    · show s2.heap.objs.size ≤ C
      omega
    · exact frees_has scope.names [] y (.inl (relabel_of_cell hcell hy))
    · exact Nat.ne_of_lt (Nat.lt_trans (fpD b hb) hDlt)
    · exact (f2 b hb).2.2.2.2.1 y c (hsub _ _ q)
    · rcases (f2 b hb).2.2.2.1 with z | z
      · exact I2.ok.noex b o q z
      · exact absurd (Nat.lt_of_lt_of_le (Heap.lt_size q) (Nat.le_trans I2.ok.bsz z)) (Nat.lt_irrefl _)
    · rcases List.mem_cons.mp (I2.stkSub b hz) with z | z
      · exact (f2 b hb).2.1 z
      · exact (f2 b hb).2.2.1 z
  have hnoneD : ∀ {b : Addr}, D ≤ b → H1 b = none := fun {b} hb => I2.hok.fresh (by rw [hD]; exact hb)
  have tlLen := lcNames.len hys
  generalize htl : (js.map fun j => σ.getD j none) = tl
  have start : Inv Y [(D, { cls := .type "list", data := .seq ([] : List Value).toArray })] (none :: tl) H1 { s2 with heap := h₁, toks := s2.toks + ([] : List (Str × Value)).length } := by
    subst hY
    refine ⟨yok, rfl, I2.bare, Un.kept old, ⟨_, hns₁, fun i y v q1 q2 q3 => ?_⟩, fun y c q => ?_, hnoneD (by show D ≤ C; omega), fun y c q => I2.freeC y c (hsub _ _ q), fun p hp => ?_, I2.hok.kept old, ?_⟩
    · cases i with
      | zero => simp at q2
      | succ k =>
        have q1' : ys[k]? = some y := by simpa [lcCx] using q1
        have q2' : tl[k]? = some (some v) := by simpa using q2
        obtain ⟨j, j1, j2, j3, j4⟩ := lcNames.at hys q1'
        have hv : σ[j]? = some (some v) := by
          rw [← htl, List.getElem?_map, j1] at q2'
          simp only [Option.map_some, Option.some.injEq] at q2'
          rw [List.getD_eq_getElem?_getD] at q2'
          cases e : σ[j]? with
          | none => rw [e] at q2'; simp at q2'
          | some z => rw [e] at q2'; simp at q2'; rw [q2']
        obtain ⟨m, hm, hl⟩ := I2.loc
        obtain ⟨u, ru, l⟩ := hl j y v j2 hv (.inr (.inl j3))
        refine ⟨u, ru, .inr ⟨lookup_relabel_free j4, ?_⟩⟩
        rcases l with ⟨l, _⟩ | ⟨_, c, lc, ic⟩
        · have l' : X.env.scope.names.lookup y = some .local := l
          rw [j3] at l'; cases l'
        · obtain ⟨c', hc'⟩ := frees_has (cells := X.env.cells) scope.names [] y (.inl (PySem.mem_of_lookup j4))
          have e := hsub _ _ hc'
          rw [lc] at e; cases e
          obtain ⟨o, io, id⟩ := ic
          exact ⟨c, hc', o, old c o io, id⟩
    · obtain ⟨v, o, io, id⟩ := I2.cell y c (hsub _ _ q)
      exact ⟨v, o, old c o io, id⟩
    · have e : p = (D, { cls := .type "list", data := .seq ([] : List Value).toArray }) := by simpa [lcCx] using hp
      subst e
      refine ⟨hDobj, hnoneD (Nat.le_refl _), hDC, fun z => ?_, fun v z => by cases z⟩
      obtain ⟨_, o, ho, _⟩ := I2.stack.mem z
      exact absurd (below D o ho) (Nat.lt_irrefl _)
    · show (none :: tl).length = (x :: ys).length
      rw [List.length_cons, List.length_cons, ← htl, List.length_map, tlLen]
  have stat : ∀ {pl : List (Addr × Obj)} {H' : Hp}, (∀ p ∈ pl, p.1 = D) → (∀ b ∈ fp, H' b = none) → ∀ b ∈ fp, FpOk Y pl H' b := fun {pl H'} hp hn b hb => by
    subst hY
    refine ⟨hn b hb, (yok.exf b hb).1, yok.exfs b hb, .inl hb, (yok.exf b hb).2, fun p q z => ?_⟩
    have q' : p ∈ pl := by simpa [lcCx] using q
    have e1 := hp p q'
    have e2 := fpD b hb
    rw [← z, e1] at e2
    exact Nat.lt_irrefl _ e2
  have loop : ∀ s₃ : Shared, s₃ = { s2 with heap := h₁, toks := s2.toks + ([] : List (Str × Value)).length } →
      codeAny (model X.prog X.w) X.A (.compLoop (.ListComp elt [⟨.Name x px, iter, [], 0⟩] scope pos) 0 (.ref it) (.ref D) (compEnvC scope (freesOf scope.names X.env.cells []) C X.env))
        (compPost (model X.prog X.w) X.A X.xe use Qv (.ref D) C) s₃ := by
    intro s₃ e3
    subst e3
    have hYp : Y.prog = X.prog := by subst hY; rfl
    have hYw : Y.w = X.w := by subst hY; rfl
    have hYK : Y.K = X.K := by subst hY; rfl
    have hYc : Y.calm = true := by subst hY; exact hc
    have hYA : Y.A = X.A := by subst hY; rfl
    have hYe : Y.env = compEnvC scope (freesOf scope.names X.env.cells []) C X.env := by subst hY; rfl
    have hYx : Y.xe = fun _ _ => False := by subst hY; rfl
    refine compLoop_any (fun n s' => ∃ (i k : Nat) (acc : List V) (its : List Value) (b : Option V) (H' : Hp), Inv Y [(D, { cls := .type "list", data := .seq its.toArray k })] (b :: tl) H' s' ∧ tn i s'.heap ∧ (∀ c ∈ fp, H' c = none) ∧ Vals acc its ∧ acc.length ≤ sizeLine ∧ W i n acc H') ?_ m0
      ⟨0, 0, [], [], none, H1, start, T.keep 0 _ _ st2 fun b hb o q => old b o q, fun b hb => (f2 b hb).1, .nil, Nat.zero_le _, w0⟩
    rintro n s3 ⟨i, k, acc, its, b, H3, I3, st3, fr3, va, la, w3⟩
    have pD : ∀ p ∈ [((D, { cls := .type "list", data := .seq its.toArray k }) : Addr × Obj)], p.1 = D := fun p hp => by
      have e : p = (D, { cls := .type "list", data := .seq its.toArray k }) := by simpa using hp
      rw [e]
    have pinD := I3.pin (D, { cls := .type "list", data := .seq its.toArray k }) (by simp)
    rcases turn i n acc H3 w3 with ⟨stop, qn⟩ | ⟨go, lt, step⟩
    · have t := T.done Y hYp hYw hYK hYc i _ s3 _ H3 (fun _ _ => False) I3 (stat pD fr3) st3 stop
      rw [hYA] at t
      refine thn t fun r s4 ⟨hr, I4⟩ => ?_
      subst hr
      obtain ⟨m, hm, _⟩ := I4.loc
      rw [hYe] at hm
      have p4 := I4.pin (D, { cls := .type "list", data := .seq its.toArray k }) (by simp)
      have hfs : Y.fs = frs X.stack := by subst hY; rfl
      have hex : Y.ex = fp := by subst hY; rfl
      have hH0 : Y.H₀ = H1 := by subst hY; rfl
      have hs0 : Y.s₀ = s2 := by subst hY; rfl
      have u4 := I4.base
      rw [hfs, hex, hH0, hs0] at u4
      have neD : ∀ c o, s2.heap.get? c = some o → c ≠ D := fun c o q => Nat.ne_of_lt (below c o q)
      have freeC : H3 C = none := by
        have := I4.free
        rw [hYe] at this
        exact this
      have hokD : HOk X.prog X.w (upd H3 D (.lst acc)) s4.heap := by
        have hk4 := I4.hok
        rw [hYp, hYw] at hk4
        intro a o q
        by_cases ha : a = D
        · subst ha
          rw [upd_same] at q
          cases q
          exact ⟨la, its, k, va, p4.1⟩
        · rw [upd_ne ha] at q
          exact (hk4 a o q).stay (fun c v hcv z => z) (fun c z => by rw [upd_ne (ne_of_none z p4.2.1)]; exact z) (fun c xs z => by rw [upd_ne (ne_of_none z p4.2.1)]; exact z)
      have I9 : Inv X pins σ (upd H3 D (.lst acc)) s4 := by
        refine I2.call' (s' := s4) (ch := fp) ?_ ⟨fun c o q nn hb hx => u4.keep c o q nn hb hx, fun c o q nn hb hx => u4.slot c o q nn hb hx, fun c o q nn hx => ?_, fun c o q hx => u4.there c o q hx, fun c xs q => ?_, fun c o u q => ?_, fun c ps q => ?_⟩ hokD I4.bare (fun c hb => ⟨(f2 c hb).2.2.2.1, (f2 c hb).2.1, (f2 c hb).2.2.2.2.1, (f2 c hb).2.2.2.2.2⟩)
        · have := I4.os
          rw [hs0] at this
          exact this
        · rw [upd_ne (neD c o q)]
          exact u4.free c o q nn hx
        · have z := u4.tups c xs q
          rw [upd_ne (ne_of_none z p4.2.1)]; exact z
        · have z := u4.frzs c o u q
          rw [upd_ne (ne_of_none z p4.2.1)]; exact z
        · obtain ⟨more, z⟩ := u4.tbls c ps q
          exact ⟨more, by rw [upd_ne (ne_of_none z p4.2.1)]; exact z⟩
      have atC : ∀ b o, s2.heap.get? b = some o → b ≠ C := fun b o q => Nat.ne_of_lt (Nat.lt_trans (below b o q) hDlt)
      refine hfin D C s4 ⟨?_, ⟨m, hm⟩, ?_, fun z => ?_, ?_, fun y c q => ?_, fun p hp => ?_⟩
      · obtain ⟨oC, es, ep, h1', h2', _⟩ := hm
        exact ⟨H3, acc, oC, I9, qn D p4.2.1, by rw [upd_ne (Ne.symm hDC)]; exact freeC, h1', fun v z => by rw [h2'] at z; cases z⟩
      · have := I2.lt
        rw [hD] at this
        exact Nat.ne_of_gt (Nat.lt_trans this hDlt)
      · obtain ⟨_, o, ho, _⟩ := I2.funs.mem z
        exact atC _ o ho rfl
      · have := I2.sz
        rw [hD] at this
        omega
      · exact Nat.ne_of_lt (Nat.lt_trans (cellLt y c q) hDlt)
      · exact atC _ _ (I2.pin p hp).1
    · have t := T.item Y hYp hYw hYK hYc i _ s3 _ H3 (fun _ _ => False) I3 (stat pD fr3) st3 go
      rw [hYA] at t
      refine thn t fun r s4 ⟨u, hr, h4⟩ => ?_
      subst hr
      refine thn h4 fun _ s5 ⟨xv, H5, I5, r5, y5, st5, fr5⟩ => ?_
      have I5' := I5.pinned (stat pD fr5) (T.obj _ _ st5)
      have hN : Y.N = x :: ys := by subst hY; rfl
      have stx : wpAny (model X.prog X.w) X.A (storeName (compEnvC scope (freesOf scope.names X.env.cells []) C X.env) x u) (fun _ s' => Inv Y ([(D, { cls := .type "list", data := .seq its.toArray k })] ++ pinsAt fp s5.heap) (some xv :: tl) H5 s') (fun _ _ => False) s5 := by
        rw [← hYe]
        refine store_ok (i := 0) I5' (by rw [hN]; exact hnd) (by rw [hN]; rfl) ?_ r5 (fun s' I' => I') ?_
        · rw [hYe]; exact .inl (lookup_relabel_local hx)
        · rw [hYe]; exact .inr (lookup_relabel_local hx)
      refine wpAny_assign_Name (thn stx fun _ s6 I6 => ?_)
      have el := he C s2 H1 fp
      rw [hY] at el
      have q6 := step xv H5 y5
      rw [htl] at q6
      have ev := el _ s6 _ H5 _ I6 q6
      rw [hYp, hYw, hYA, hYe, hYx] at ev
      refine thn ev fun yv s7 ⟨y, H7, I7, r7, m', hm, w7⟩ => ?_
      have p7 := I7.pin (D, { cls := .type "list", data := .seq its.toArray k }) (by simp)
      refine wpAny_list_append_plain ⟨k, p7.1⟩ (fun h8 pl8 sb8 => ?_) (by rw [List.size_toArray, ← va.length]; exact la)
      obtain ⟨k8, e8⟩ := pl8
      refine ⟨m', hm, i + 1, k8, acc ++ [y], its ++ [yv], some xv, H7, ?_, ?_, fun c hb => ?_, va.append (.cons r7 .nil), ?_, w7⟩
      · have J7 : Inv Y [] (some xv :: tl) H7 s7 := I7.pins_of (pins' := []) fun p hp => absurd hp (by simp)
        have hDs : Y.s₀.heap.objs.size ≤ D := by subst hY; show s2.heap.objs.size ≤ D; omega
        have J8 : Inv Y [] (some xv :: tl) H7 { s7 with heap := h8, toks := s7.toks } := J7.turned (it := D) (fun c o hcD q => sb8.extBut c o hcD q) p7.2.1 p7.2.2.1 (.inr hDs) (fun z c q => by
          have := hsub z c (by rw [hYe] at q; exact q)
          exact Nat.ne_of_lt (cellLt _ _ this)) (fun p hp => by
            subst hY
            have hp' : p ∈ ([] : List (Addr × Obj)) := hp
            simp at hp')
        refine J8.pins_of fun p hp => ?_
        have e : p = (D, { cls := .type "list", data := .seq (its ++ [yv]).toArray k8 }) := by simpa using hp
        subst e
        refine ⟨?_, p7.2.1, p7.2.2.1, p7.2.2.2.1, fun v z => by cases z⟩
        show h8.get? D = _
        rw [e8]
        simp
      · refine T.keep _ _ _ st5 fun c hb o q => ?_
        have z := (I7.pin (c, o) (List.mem_append_right _ (List.mem_append_right _ (mem_pinsAt hb q)))).1
        exact sb8.extBut c o (Nat.ne_of_lt (fpD c hb)) z
      · obtain ⟨o, q, d⟩ := T.obj _ _ st5 c hb
        exact (I7.pin (c, o) (List.mem_append_right _ (List.mem_append_right _ (mem_pinsAt hb q)))).2.1
      · rw [List.length_append, List.length_singleton]; omega
  exact codeAny_compStart_list (loop _ rfl) (T.self _ 0 _ _ _ (T.keep 0 _ _ st2 fun b hb o q => old b o q) (loop _ rfl))

theorem pe_lc {elt iter : Expr} {x : Str} {px pos : Pos} {scope : Scope} {ys : List Str} {js : List Nat} {wi : TI} {te : TE} (hc : X.calm = true) (hi : PI X (.Name x px) iter wi)
    (hkind : scope.kind = .function) (hcell : ∀ y ∈ scope.names, y.2 ≠ .cell) (hloc : ∀ y ∈ scope.names, y.2 = .local → scope.names.lookup y.1 = some .local) (hx : scope.names.lookup x = some .local)
    (hfree : scope.names.all (fun y => y.2 != .free || (X.env.cells.lookup y.1).isSome) = true) (hys : lcNames X.N X.env.scope scope js ys = true) (hnd : (x :: ys).Nodup)
    (he : ∀ (C : Addr) (s₂ : Shared) (H₁ : Hp) (fp : List Addr), PE (lcCx X scope (x :: ys) C s₂ H₁ fp) elt te)
    (hs : ∀ v, foldedSetIterable iter X.env v = pure v := by intro _; rfl) : PE X (.ListComp elt [⟨.Name x px, iter, [], 0⟩] scope pos) (tLC wi js te) := by
  intro pins s σ H Q I h
  rw [eval_ListComp]
  refine lc_core none hc hi hkind hcell hloc hx hfree hys hnd he hs I h fun D C s4 L => ?_
  obtain ⟨H4, acc, oC, I4, q, fc, gC, _⟩ := L.run
  obtain ⟨m, hm⟩ := L.ns
  refine ⟨m, hm, fun h' sb => ⟨.ref D, _, I4.turned (t' := s4.toks) (it := C) (fun b o hb e => sb.extBut b o hb e) fc L.loc (.inr L.new) L.cell L.pin, rfl, q⟩⟩
/-- name = [elt for x in iter] -/
theorem ps_lcset {elt iter : Expr} {x y : Str} {i : Nat} {px pos py spos : Pos} {scope : Scope} {ys : List Str} {js : List Nat} {wi : TI} {te : TE} (hN : X.N.Nodup) (hyi : X.N[i]? = some y) (hyl : X.env.scope.names.lookup y = some .local) (hc : X.calm = true) (hi : PI X (.Name x px) iter wi)
    (hkind : scope.kind = .function) (hcell : ∀ y ∈ scope.names, y.2 ≠ .cell) (hloc : ∀ y ∈ scope.names, y.2 = .local → scope.names.lookup y.1 = some .local) (hx : scope.names.lookup x = some .local)
    (hfree : scope.names.all (fun y => y.2 != .free || (X.env.cells.lookup y.1).isSome) = true) (hys : lcNames X.N X.env.scope scope js ys = true) (hnd : (x :: ys).Nodup)
    (he : ∀ (C : Addr) (s₂ : Shared) (H₁ : Hp) (fp : List Addr), PE (lcCx X scope (x :: ys) C s₂ H₁ fp) elt te)
    (hsw : swapsWith (.ListComp elt [⟨.Name x px, iter, [], 0⟩] scope pos) (some (.Name y py)) spos.line X.env = pure true := by rfl)
    (hs : ∀ v, foldedSetIterable iter X.env v = pure v := by intro _; rfl) : PS X (.Assign [.Name y py] (.ListComp elt [⟨.Name x px, iter, [], 0⟩] scope pos) spos) (tAsg (tLC wi js te) (gName i)) := by
  intro pins s σ H D0 I h
  rw [exec_Assign_Name_used _ _ _ _ hsw]
  refine wpAny_bind (wpAny_standAt (wpAny_bind ?_))
  show wpAny _ X.A (do let _ ← comprehension (.ListComp elt [⟨.Name x px, iter, [], 0⟩] scope pos) scope X.env _ (newList []) false (eval iter X.env) (some (assign (.Name y py) X.env))) _ _ s
  refine wpAny_bind (wpAny_mono (lc_core (Qv := fun _ s' => SP X pins D0 .next s') (some (assign (.Name y py) X.env)) hc hi hkind hcell hloc hx hfree hys hnd he hs I h fun D C s4 L => ?_) (fun _ s' hq => wpAny_pure (wpAny_pure hq)) fun _ _ e => e)
  obtain ⟨H4, acc, oC, I4, q, fc, gC, nc⟩ := L.run
  obtain ⟨m, hm⟩ := L.ns
  have I5 : Inv X (pins ++ [(C, oC)]) σ (upd H4 D (.lst acc)) s4 := I4.pins_of fun p hp => (List.mem_append.mp hp).elim (fun z => I4.pin p (List.mem_append_right _ z)) fun z => by
    have e : p = (C, oC) := by simpa using z
    subst e
    exact ⟨gC, fc, L.loc, L.fs, nc⟩
  show wpAny _ X.A (assign (.Name y py) X.env (.ref D)) _ _ s4
  refine wpAny_assign_Name (store_ok I5 hN hyi (.inl hyl) (v := .ref D) rfl (fun s5 I6 => ?_) (.inr hyl))
  have pc := I6.pin (C, oC) (by simp)
  have hm5 : s5.heap.Ns C m := by
    obtain ⟨o, es, ep, h1, h2⟩ := hm
    rw [gC] at h1
    cases h1
    exact ⟨oC, es, ep, pc.1, h2⟩
  refine ⟨m, hm5, fun h' sb => ?_⟩
  exact ⟨_, _, I6.unpinned.turned (t' := s5.toks) (it := C) (fun b o hb e => sb.extBut b o hb e) fc L.loc (.inr L.new) L.cell L.pin, q⟩
end
end L2

set_option Elab.async false
set_option linter.all false
set_option maxRecDepth 100000
namespace L2
open PySem PySem.Spec PyProof.Rows
section
variable {X : Cx}

/-! ### ranges as values -/
def rngO (p : Addr) (i j k : Int) : HO := .ext fun h => ∃ t u v, IsRange h p i j k t u v
theorem rngO_ok {P : Program} {w : World} {H : Hp} {h : Heap} {p : Addr} {i j k : Int} {t u v : Tok} (hr : IsRange h p i j k t u v) : ObjOk P w H h p (rngO p i j k) :=
  ⟨⟨t, u, v, hr⟩, ⟨_, hr⟩, fun _ _ ⟨t, u, v, e⟩ hk => ⟨t, u, v, hk _ e⟩⟩
theorem call_rng1 : CallR X (.type "range") (fun xs H Q => ∃ j : Int, xs = [.int j] ∧ ∀ p, H p = none → Q (.ref p) (upd H p (rngO p 0 j 1))) := by
  intro pins s σ H xs us Q I r h
  obtain ⟨j, rfl, q⟩ := h
  obtain ⟨u, rfl, t, rfl⟩ := vals1 r
  refine call_range_1 ⟨.ref s.heap.objs.size, _, I.laid (fun b o e => Heap.get?_push_of_some _ e) (Nat.le_refl _) (rngO_ok (Heap.get?_push_size _ rfl)), rfl, q _ I.fresh⟩
theorem call_rng2 : CallR X (.type "range") (fun xs H Q => ∃ i j : Int, xs = [.int i, .int j] ∧ ∀ p, H p = none → Q (.ref p) (upd H p (rngO p i j 1))) := by
  intro pins s σ H xs us Q I r h
  obtain ⟨i, j, rfl, q⟩ := h
  obtain ⟨u, v, rfl, ⟨t, rfl⟩, t', rfl⟩ := vals2 r
  refine call_range_2 ⟨.ref s.heap.objs.size, _, I.laid (fun b o e => Heap.get?_push_of_some _ e) (Nat.le_refl _) (rngO_ok (Heap.get?_push_size _ rfl)), rfl, q _ I.fresh⟩
theorem vals3 {x y z : V} {us : List Value} (r : Vals [x, y, z] us) : ∃ u v w, us = [u, v, w] ∧ RelV x u ∧ RelV y v ∧ RelV z w := by
  cases r with
  | cons r1 r => cases r with
    | cons r2 r => cases r with
      | cons r3 r => cases r; exact ⟨_, _, _, rfl, r1, r2, r3⟩
theorem call_rng3 : CallR X (.type "range") (fun xs H Q => ∃ i j k : Int, xs = [.int i, .int j, .int k] ∧ k ≠ 0 ∧ k.natAbs < 1073741824 ∧ ∀ p, H p = none → Q (.ref p) (upd H p (rngO p i j k))) := by
  intro pins s σ H xs us Q I r h
  obtain ⟨i, j, k, rfl, hk, hk2, q⟩ := h
  obtain ⟨u, v, w, rfl, ⟨t, rfl⟩, ⟨t', rfl⟩, t'', rfl⟩ := vals3 r
  refine call_range_3 hk ⟨.ref s.heap.objs.size, _, I.laid (t' := s.toks) (fun b o e => Heap.get?_push_of_some _ e) (Nat.le_refl _) (rngO_ok (Heap.get?_push_size _ rfl)), rfl, q _ I.fresh⟩ (Or.inl (PyProof.noPylong_small hk2))
/-- the ints of a range -/
def rngV (i k : Int) (n : Nat) : List V := (List.range n).map fun (m : Nat) => V.int (i + (m : Int) * k)
theorem rngV_length (i k : Int) (n : Nat) : (rngV i k n).length = n := by simp [rngV]
theorem vals_of {xs : List V} {us : List Value} (hl : xs.length = us.length) (h : ∀ (i : Nat) (x : V) (u : Value), xs[i]? = some x → us[i]? = some u → RelV x u) : Vals xs us := by
  induction xs generalizing us with
  | nil => cases us with
    | nil => exact .nil
    | cons _ _ => simp at hl
  | cons x xs ih => cases us with
    | nil => simp at hl
    | cons u us =>
      refine .cons (h 0 x u rfl rfl) (ih (by simpa using hl) fun i y v h1 h2 => h (i + 1) y v (by simpa using h1) (by simpa using h2))
theorem rngV_vals {i k : Int} {n : Nat} {acc : Array Value} (h : ItemsOf (fun m v => ∃ t, v = .int (i + m * k) t) acc n) : Vals (rngV i k n) acc.toList := by
  refine vals_of (by rw [rngV_length]; simpa using h.1.symm) fun m x u h1 h2 => ?_
  obtain ⟨t, rfl⟩ := h.2 m u (by simpa using h2)
  have hm : m < n := by
    have := (List.getElem?_eq_some_iff.mp h1).1
    rwa [rngV_length] at this
  simp [rngV, hm] at h1
  subst h1
  exact ⟨t, rfl⟩
theorem call_list_rng (hc : X.calm = true) : CallR X (.type "list") (fun xs H Q => ∃ p i j k n, xs = [.ref p] ∧ H p = some (rngO p i j k) ∧ Builtin.Range.small i j k = true ∧ Builtin.Range.rangeSize i j k = (n : Nat) ∧ n ≤ 2 ^ 20 ∧
    ∀ l, H l = none → Q (.ref l) (upd H l (.lst (rngV i k n)))) := by
  intro pins s σ H xs us Q I r h
  obtain ⟨p, i, j, k, n, rfl, hp, hs, hn, hb, q⟩ := h
  obtain ⟨u, rfl, rx⟩ := vals1 r
  cases rx
  obtain ⟨⟨t, u, v, hr⟩, _⟩ := I.hok p _ hp
  refine call_list_range (I.ok.hd hc) hr hs hn (Nat.le_trans hb (by decide)) fun h' tk acc' c' hk hl ha => ?_
  refine ⟨.ref s.heap.objs.size, _, I.laid (t' := tk) (o := .lst (rngV i k n)) hk (Nat.le_refl _) ⟨?_, acc'.toList, c', rngV_vals ha, by simpa using hl⟩, rfl, q _ I.fresh⟩
  rw [rngV_length]
  exact Nat.le_trans hb (by decide)
/-- lo, lo + st, .. (n of them) -/
def Itr3 (lo st : Int) (n : Nat) : It := ⟨fun i _ => i < n, fun i H x H' => H' = H ∧ x = .int (lo + i * st), fun i _ => n ≤ i⟩
theorem turn_range3 {P : Program} {w : World} {K : PySem.W.Frag} {tg : Expr} (it : Addr) (lo st : Int) (n : Nat) : Turn P w K tg (Itr3 lo st n) [it] it (fun i h => IsRangeIter h it (lo + (i : Nat) * st) ((n : Int) - (i : Nat)) st) where
  mem := by simp
  obj := fun i h st b hb => by
    have e : b = it := by simpa using hb
    subst e
    exact ⟨_, st, fun v z => by
      have z' : Data.fields _ = Data.cell v := z
      cases z'⟩
  keep := fun i h h' st k => k it (by simp) _ st
  item := by
    intro X hP hw hK hc i pins s σ H E I hf sti hg
    subst hP hw hK
    obtain ⟨f0, f1, f2, f3, f4, f5⟩ := hf it (by simp)
    have W := Walks.range (prog := X.prog) (w := X.w) (I.ok.hd hc) it lo st n
    refine W.item i s _ _ hg sti fun v h' tk hv st' kk => ?_
    obtain ⟨t, rfl⟩ := hv
    have I1 : Inv X pins σ H { s with heap := h', toks := tk } := I.turned (fun b o hb e => kk b o (by simpa using hb) e) f0 f1 f3 f4 f5
    exact ⟨_, rfl, go_of (s := { s with heap := h', toks := tk }) (n := "range_iterator") st' rfl rfl (by decide) ⟨.int (lo + i * st), H, I1, ⟨t, rfl⟩, ⟨rfl, rfl⟩, st', fun b hb => (hf b hb).1⟩⟩
  done := by
    intro X hP hw hK hc i pins s σ H E I hf st hg
    subst hP hw hK
    obtain ⟨f0, f1, f2, f3, f4, f5⟩ := hf it (by simp)
    exact wpAny_pyNext_range_end (I.ok.hd hc) st (by have : n ≤ i := hg; omega) fun h' eb => ⟨rfl, I.turned (t' := s.toks) (fun b o hb e => eb b o hb e) f0 f1 f3 f4 f5⟩
  self := fun _ _ _ _ _ st h => wpAny_pyIter_rangeiter st h
def iRngV (tl : TE) : TI := fun σ H R => tl σ H fun x H1 => ∃ p i j k n, x = .ref p ∧ H1 p = some (rngO p i j k) ∧ Builtin.Range.small i j k = true ∧ Builtin.Range.rangeSize i j k = (n : Nat) ∧ R (Itr3 i k n) H1
theorem pi_rng {tg l : Expr} {tl : TE} (hl : PE X l tl) : PI X tg l (iRngV tl) := by
  intro pins s σ H R I h
  refine thn (hl pins s σ H _ I h) fun v s1 ⟨x, H1, I1, r1, q1⟩ => ?_
  obtain ⟨p, i, j, k, n, e, hp, hs, hn, q⟩ := q1
  subst e
  cases r1
  obtain ⟨⟨t, u, v, hr⟩, _⟩ := I1.hok p _ hp
  refine wpAny_pyIter_range hr hs ?_
  refine ⟨s1.heap.objs.size, [s1.heap.objs.size], _, _, H1, rfl, I1.kept (t' := s1.toks) fun b o e => Heap.get?_push_of_some _ e, turn_range3 _ i k n, ?_, fun b hb => ?_, q⟩
  · show IsRangeIter _ _ (i + ((0 : Nat) : Int) * k) ((n : Int) - ((0 : Nat) : Int)) k
    rw [hn]
    simpa using Heap.get?_push_size _ rfl
  · have e : b = s1.heap.objs.size := by simpa using hb
    subst e
    exact I1.fpOk (Nat.le_refl _) (I1.hok.fresh (Nat.le_refl _))
theorem for_range3 {lo st : Int} {n : Nat} {g : TG} {tb : TS} {D : Ends} {σ : St} {H : Hp} (Pv : Nat → St → Hp → Prop) (h0 : Pv 0 σ H)
    (hs : ∀ i σ H, i < n → Pv i σ H → g (.int (lo + i * st)) σ H fun σ2 H2 => tb { D with nx := Pv (i + 1), ct := Pv (i + 1), bk := D.nx } σ2 H2) (hd : ∀ σ H, Pv n σ H → D.nx σ H) :
    ∃ W : Nat → Nat → St → Hp → Prop, (∃ m, W 0 m σ H) ∧ ∀ i m σ H, W i m σ H →
      ((Itr3 lo st n).stop i H ∧ D.nx σ H) ∨ ((Itr3 lo st n).go i H ∧ ∃ N : St → Hp → Prop, (∀ σ' H', N σ' H' → ∃ m', m' < m ∧ W (i + 1) m' σ' H') ∧ ∀ x H', (Itr3 lo st n).yld i H x H' → g x σ H' fun σ2 H2 => tb { D with nx := N, ct := N, bk := D.nx } σ2 H2) := by
  refine ⟨fun i m σ H => m = n - i ∧ i ≤ n ∧ Pv i σ H, ⟨n, by simp, Nat.zero_le _, h0⟩, ?_⟩
  rintro i m σ H ⟨rfl, hi, p⟩
  by_cases hlt : i < n
  · refine .inr ⟨hlt, Pv (i + 1), fun σ' H' p' => ⟨n - (i + 1), by omega, rfl, hlt, p'⟩, fun x H' y => ?_⟩
    obtain ⟨e, y⟩ := y
    subst e y
    exact hs i σ _ hlt p
  · have e : i = n := by omega
    subst e
    exact .inl ⟨Nat.le_refl _, hd σ H p⟩
/-- numbers of the size that packs have -/
theorem rng_small {i j k : Int} (hi : -1000000 ≤ i ∧ i ≤ 1000000) (hj : -1000000 ≤ j ∧ j ≤ 1000000) (hk : k ≠ 0) (hk2 : -1000000 ≤ k ∧ k ≤ 1000000) : Builtin.Range.small i j k = true := by
  have hf : ∀ z : Int, -4000000 ≤ z → z ≤ 4000000 → Builtin.Range.rangeFitsLong z = true := fun z h1 h2 => by
    unfold Builtin.Range.rangeFitsLong
    simp only [Bool.and_eq_true, decide_eq_true_eq]
    omega
  have hsz : 0 ≤ Builtin.Range.rangeSize i j k ∧ Builtin.Range.rangeSize i j k ≤ 3000000 := by
    unfold Builtin.Range.rangeSize
    have dv : ∀ a c : Int, 0 ≤ a → 0 < c → 0 ≤ a / c ∧ a / c ≤ a := fun a c ha hc => ⟨Int.ediv_nonneg ha (by omega), Int.ediv_le_self _ ha⟩
    split
    · split
      · have := dv (j - i - 1) k (by omega) (by omega); omega
      · omega
    · split
      · have := dv (i - j - 1) (-k) (by omega) (by omega); omega
      · omega
  unfold Builtin.Range.small
  rw [hf i (by omega) (by omega), hf j (by omega) (by omega), hf k (by omega) (by omega), hf _ (by omega) (by omega)]
  simp only [Bool.true_and, Bool.or_eq_true]
  refine .inr ?_
  split
  · exact hf _ (by omega) (by omega)
  · exact hf _ (by omega) (by omega)
theorem rng_up {i j : Int} : Builtin.Range.rangeSize i j 1 = ((j - i).toNat : Nat) := by
  unfold Builtin.Range.rangeSize
  simp only [show (1 : Int) > 0 by omega, if_true, Int.ediv_one]
  split <;> omega
theorem rng_down {n : Nat} : Builtin.Range.rangeSize ((n : Int) - 1) (-1) (-1) = (n : Nat) := by
  unfold Builtin.Range.rangeSize
  simp only [show ¬ ((-1 : Int) > 0) by omega, if_false, Int.neg_neg, Int.ediv_one]
  split <;> omega
theorem rng_step {j n p : Nat} (hp : 0 < p) : Builtin.Range.rangeSize (j : Int) (n : Int) (p : Int) = (((n - j + p - 1) / p : Nat) : Int) := by
  unfold Builtin.Range.rangeSize
  rw [if_pos (by omega)]
  split
  · rename_i h
    have e : (n : Int) - j - 1 = ((n - j - 1 : Nat) : Int) := by omega
    have e2 : n - j + p - 1 = (n - j - 1) + p := by omega
    rw [e, e2, Nat.add_div_right _ hp]
    rfl
  · have e2 : (n - j + p - 1) / p = 0 := Nat.div_eq_of_lt (by omega)
    rw [e2]; rfl
end
end L2

set_option Elab.async false
set_option linter.all false
set_option maxRecDepth 100000
namespace L2
open PySem PySem.Spec PyProof.Rows
section
variable {X : Cx}

/-! ### for i, x in enumerate(xs) -/
def Ite (K : PySem.W.Frag) (a : Addr) : It :=
  ⟨fun i H => ∃ xs x, SqL K H a xs ∧ xs[i]? = some x, fun i H x H' => ∃ p v, x = .ref p ∧ H p = none ∧ H' = upd H p (.tup [.int i, v]) ∧ ∀ xs, SqL K H a xs → xs[i]? = some v, fun i H => ∃ xs, SqL K H a xs ∧ xs.length ≤ i⟩
def iEnum (K : PySem.W.Frag) (ta : TA) : TI := fun σ H R => ta σ H fun vs H1 => ∃ a, vs = [.ref a] ∧ (∃ xs, SqL K H1 a xs) ∧ R (Ite K a) H1

/-! ### for c in a text -/
def Its (z : Str) : It := ⟨fun i _ => i < z.cps.size, fun i H x H' => H' = H ∧ ∃ c, z.cps[i]? = some c ∧ x = .str ⟨#[c]⟩, fun i _ => z.cps.size ≤ i⟩
theorem turn_str {P : Program} {w : World} {K : PySem.W.Frag} {tg : Expr} {ty : String} {t : Tok} (it : Addr) (z : Str) (hty : ty = "str_ascii_iterator" ∨ ty = "str_iterator") : Turn P w K tg (Its z) [it] it (fun i h => i ≤ z.cps.size ∧ h.IsStrIter it ty z t i) where
  mem := by simp
  obj := fun i h st b hb => by
    have e : b = it := by simpa using hb
    subst e
    obtain ⟨_, o, e, c, d⟩ := st
    exact ⟨o, e, fun v z => by rw [d] at z; cases z⟩
  keep := fun i h h' st k => ⟨st.1, let ⟨o, ho, r⟩ := st.2; ⟨o, k it (by simp) o ho, r⟩⟩
  item := by
    intro X hP hw hK hc i pins s σ H E I hf st hg
    subst hP hw hK
    obtain ⟨f0, f1, f2, f3, f4, f5⟩ := hf it (by simp)
    have hlt : i < z.cps.size := hg
    have fin : ∀ (h' : Heap) (tk : Nat) (c : Nat) (u : Tok), z.cps[i]? = some c → h'.IsStrIter it ty z t (i + 1) → (∀ b o, b ∉ [it] → s.heap.get? b = some o → h'.get? b = some o) →
        (∃ uu, some (Value.str ⟨#[c]⟩ u) = some uu ∧ wpAny (model X.prog X.w) X.A (letOwnedTupleGo tg (.ref it) uu) (fun _ s2 => ∃ x H', Inv X pins σ H' s2 ∧ RelV x uu ∧ (Its z).yld i H x H' ∧ (i + 1 ≤ z.cps.size ∧ s2.heap.IsStrIter it ty z t (i + 1)) ∧ ∀ b ∈ [it], H' b = none) E { s with heap := h', toks := tk }) := by
      intro h' tk c u hcx st' kk
      have I1 : Inv X pins σ H { s with heap := h', toks := tk } := I.turned (fun b o hb e => kk b o (by simpa using hb) e) f0 f1 f3 f4 f5
      obtain ⟨o, e, cc, d⟩ := id st'
      exact ⟨_, rfl, go_of (s := { s with heap := h', toks := tk }) (n := ty) e cc d (by rcases hty with q | q <;> (rw [q]; decide)) ⟨.str ⟨#[c]⟩, H, I1, ⟨u, rfl⟩, ⟨rfl, c, hcx, rfl⟩, ⟨hlt, st'⟩, fun b hb => (hf b hb).1⟩⟩
    rcases hty with q | q
    · subst q
      refine (Walks.strAscii (prog := X.prog) (w := X.w) (I.ok.hd hc) it z t).item i s _ _ hlt st.2 fun v h' tk hv st' kk => ?_
      obtain ⟨c, u, hcx, rfl⟩ := hv
      exact fin h' tk c u hcx st' kk
    · subst q
      refine (Walks.strWide (prog := X.prog) (w := X.w) (I.ok.hd hc) it z t).item i s _ _ hlt st.2 fun v h' tk hv st' kk => ?_
      obtain ⟨c, u, hcx, rfl⟩ := hv
      exact fin h' tk c u hcx st' kk
  done := by
    intro X hP hw hK hc i pins s σ H E I hf st hg
    subst hP hw hK
    obtain ⟨f0, f1, f2, f3, f4, f5⟩ := hf it (by simp)
    have hi : i = z.cps.size := Nat.le_antisymm st.1 hg
    have st2 := st.2
    rw [hi] at st2
    rcases hty with q | q
    · subst q
      exact (Walks.strAscii (prog := X.prog) (w := X.w) (I.ok.hd hc) it z t).done s _ _ st2 fun h' tk kk => ⟨rfl, I.turned (fun b o hb e => kk b o (by simpa using hb) e) f0 f1 f3 f4 f5⟩
    · subst q
      exact (Walks.strWide (prog := X.prog) (w := X.w) (I.ok.hd hc) it z t).done s _ _ st2 fun h' tk kk => ⟨rfl, I.turned (fun b o hb e => kk b o (by simpa using hb) e) f0 f1 f3 f4 f5⟩
  self := fun A i s Q E st h => by
    rcases hty with q | q
    · subst q
      exact wpAny_pyIter_striter_ascii st.2 h
    · subst q
      exact wpAny_pyIter_striter_wide st.2 h
def iStr (tl : TE) : TI := fun σ H R => tl σ H fun x H1 => ∃ z, x = .str z ∧ R (Its z) H1
theorem pi_str {tg l : Expr} {tl : TE} (hl : PE X l tl) : PI X tg l (iStr tl) := by
  intro pins s σ H R I h
  refine thn (hl pins s σ H _ I h) fun v s1 ⟨x, H1, I1, r1, q1⟩ => ?_
  obtain ⟨z, e, q⟩ := q1
  subst e
  obtain ⟨t, rfl⟩ := r1
  refine wpAny_pyIter_strU ?_
  refine ⟨s1.heap.objs.size, [s1.heap.objs.size], _, _, H1, rfl, I1.kept (t' := s1.toks) fun b o e => Heap.get?_push_of_some _ e, turn_str (ty := strIterType z) (t := t) _ z (by unfold strIterType; split <;> simp), ⟨Nat.zero_le _, ⟨_, Heap.get?_push_size _ rfl, rfl, rfl⟩⟩, fun b hb => ?_, q⟩
  have e : b = s1.heap.objs.size := by simpa using hb
  subst e
  exact I1.fpOk (Nat.le_refl _) (I1.hok.fresh (Nat.le_refl _))
theorem for_str {z : Str} {g : TG} {tb : TS} {D : Ends} {σ : St} {H : Hp} (Pv : Nat → St → Hp → Prop) (h0 : Pv 0 σ H)
    (hs : ∀ i c σ H, z.cps[i]? = some c → Pv i σ H → g (.str ⟨#[c]⟩) σ H fun σ2 H2 => tb { D with nx := Pv (i + 1), ct := Pv (i + 1), bk := D.nx } σ2 H2) (hd : ∀ σ H, Pv z.cps.size σ H → D.nx σ H) :
    ∃ W : Nat → Nat → St → Hp → Prop, (∃ m, W 0 m σ H) ∧ ∀ i m σ H, W i m σ H →
      ((Its z).stop i H ∧ D.nx σ H) ∨ ((Its z).go i H ∧ ∃ N : St → Hp → Prop, (∀ σ' H', N σ' H' → ∃ m', m' < m ∧ W (i + 1) m' σ' H') ∧ ∀ x H', (Its z).yld i H x H' → g x σ H' fun σ2 H2 => tb { D with nx := N, ct := N, bk := D.nx } σ2 H2) := by
  refine ⟨fun i m σ H => m = z.cps.size - i ∧ i ≤ z.cps.size ∧ Pv i σ H, ⟨z.cps.size, by simp, Nat.zero_le _, h0⟩, ?_⟩
  rintro i m σ H ⟨rfl, hi, p⟩
  by_cases hlt : i < z.cps.size
  · refine .inr ⟨hlt, Pv (i + 1), fun σ' H' p' => ⟨z.cps.size - (i + 1), by omega, rfl, hlt, p'⟩, fun x H' y => ?_⟩
    obtain ⟨e, c, hc, rfl⟩ := y
    subst e
    exact hs i c σ _ hc p
  · have e : i = z.cps.size := by omega
    subst e
    exact .inl ⟨Nat.le_refl _, hd σ H p⟩

/-! ### all, any of a list of bools -/
theorem range_all_map (bs : List Bool) : (List.range bs.length).all (fun i => bs.getD i false) = bs.all id := by
  rw [Bool.eq_iff_iff, List.all_eq_true, List.all_eq_true]
  constructor
  · intro h x hx
    obtain ⟨i, hi, e⟩ := List.getElem_of_mem hx
    have := h i (List.mem_range.mpr hi)
    simp [List.getD_eq_getElem?_getD, hi, e] at this
    exact this
  · intro h i hi
    have hi' := List.mem_range.mp hi
    simp [List.getD_eq_getElem?_getD, hi']
    exact h _ (List.getElem_mem hi')
theorem vals_bls {bs : List Bool} {its : List Value} (r : Vals (bs.map V.bl) its) : its = bs.map Value.bool := by
  induction bs generalizing its with
  | nil => cases r; rfl
  | cons b bs ih => cases r with
    | cons r1 r2 => cases r1; rw [ih r2]; rfl
theorem call_all (hc : X.calm = true) : CallR X (.builtin "all") (fun xs H Q => ∃ (p : Addr) (bs : List Bool), xs = [.ref p] ∧ SqL X.K H p (bs.map V.bl) ∧ Q (.bl (bs.all id)) H) := by
  intro pins s σ H xs us Q I r h
  obtain ⟨p, bs, rfl, hq, q⟩ := h
  obtain ⟨u, rfl, rx⟩ := vals1 r
  cases rx
  obtain ⟨its, rv, pl, hz⟩ := I.list hq
  have e := vals_bls rv
  have hd : X.A.in1.handled = none := I.ok.hd hc
  refine call_all_walk (wpAny_pyIter_list pl.isList ?_)
  have hpne : p ≠ s.heap.objs.size := let ⟨o, _, q, _⟩ := pl; Nat.ne_of_lt (Heap.lt_size q)
  refine ⟨s.heap.objs.size, _, _, _, _, _, fun i => bs.getD i false, rfl, Walks.list hd s.heap.objs.size p hpne its.toArray, ⟨⟨_, Heap.get?_push_size _ rfl, rfl, rfl⟩, ?_⟩, ?_, fun h' tk hk => ?_⟩
  · exact pl.isList.at fun o q => Heap.get?_push_of_some _ q
  · intro i v s' Q' E' hv hq'
    have hv' : its[i]? = some v := by simpa using hv
    rw [e, List.getElem?_map] at hv'
    cases hb : bs[i]? with
    | none => rw [hb] at hv'; simp at hv'
    | some b =>
      rw [hb] at hv'
      simp at hv'
      subst hv'
      have : bs.getD i false = b := by simp [List.getD_eq_getElem?_getD, hb]
      dsimp only at hq'
      rw [this] at hq'
      exact wpAny_truthy_bool hq'
  · have hlen : its.toArray.size = bs.length := by rw [e]; simp
    rw [hlen, range_all_map]
    refine ⟨.bl _, H, ?_, rfl, q⟩
    exact I.kept fun b o z => hk b o (by simp; exact Nat.ne_of_lt (Heap.lt_size z)) (Heap.get?_push_of_some _ z)
end
end L2

set_option Elab.async false
set_option linter.all false
set_option maxRecDepth 100000
namespace L2
open PySem PySem.Spec PyProof.Rows
section
variable {X : Cx}

/-! ### sets of ints -/
theorem ints_vals {ns : List Int} {its : List Value} (r : Vals (ns.map V.int) its) : IntsAre its ns := by
  induction ns generalizing its with
  | nil => cases r; exact .nil
  | cons n ns ih => cases r with
    | cons r1 r2 =>
      obtain ⟨t, rfl⟩ := r1
      exact .cons n t (ih r2)
/-- how many different ones -/
def setN (ns : List Int) : Nat := (firstMet (fun i => ns.getD i 0) ns.length).length
def setS (ns : List Int) (k : Int) : Bool := (firstMet (fun i => ns.getD i 0) ns.length).any (· == k)
theorem call_set_ints (hc : X.calm = true) : CallR X (.type "set") (fun xs H Q => ∃ p ns, xs = [.ref p] ∧ SqL X.K H p (ns.map V.int) ∧ ns.length ≤ 1000 ∧ ∀ l, H l = none → Q (.ref l) (upd H l (.set (setS ns) (setN ns)))) := by
  intro pins s σ H xs us Q I r h
  obtain ⟨p, ns, rfl, hq, hz, q⟩ := h
  obtain ⟨u, rfl, rx⟩ := vals1 r
  cases rx
  obtain ⟨its, rv, pl, _⟩ := I.list hq
  have hl := rv.length
  rw [List.length_map] at hl
  refine call_set_list (I.ok.hd hc) pl.isList (ns := ns) (by simpa using ints_vals rv) (by rw [List.size_toArray, ← hl]; have : scanBound = 4096 := rfl; omega) fun h' tk hs hk => ?_
  have e : its.toArray.size = ns.length := by rw [List.size_toArray, ← hl]
  rw [e] at hs
  refine ⟨.ref s.heap.objs.size, _, I.laid (t' := tk) (fun b o e => hk b o (Heap.lt_size e) e) (Nat.le_refl _) ?_, rfl, q _ I.fresh⟩
  exact hs
theorem call_len_setO : CallR X (.builtin "len") (fun xs H Q => ∃ p S n, xs = [.ref p] ∧ H p = some (.set S n) ∧ Q (.int n) H) := by
  intro pins s σ H xs us Q I r h
  obtain ⟨p, S, n, rfl, hp, q⟩ := h
  obtain ⟨u, rfl, rx⟩ := vals1 r
  cases rx
  obtain ⟨o, es, ep, t, ho, hex, hd, _, _, hb, hf, hn⟩ := I.hok p _ hp
  have : scanBound = 4096 := rfl
  refine call_len_set ho hex hd hf (by omega) ⟨.int n, H, I.tok _, ⟨_, by rw [hn]⟩, q⟩
theorem firstMet_nodup (val : Nat → Int) : ∀ n, (∀ i j, i < n → j < n → val i = val j → i = j) → firstMet val n = (List.range n).map val
  | 0, _ => rfl
  | n + 1, h => by
    have ih := firstMet_nodup val n fun i j hi hj => h i j (by omega) (by omega)
    rw [firstMet_succ, ih, List.range_succ, List.map_append, step_dedup, if_neg]
    · rfl
    · intro hx
      rw [List.any_eq_true] at hx
      obtain ⟨y, hy, e⟩ := hx
      obtain ⟨i, hi, rfl⟩ := List.mem_map.mp hy
      have := h i n (by have := List.mem_range.mp hi; omega) (by omega) (by simpa using e)
      have := List.mem_range.mp hi
      omega
theorem setN_nodup {ns : List Int} (h : ns.Nodup) : setN ns = ns.length := by
  unfold setN
  rw [firstMet_nodup, List.length_map, List.length_range]
  intro i j hi hj e
  simp only [List.getD_eq_getElem?_getD, List.getElem?_eq_getElem hi, List.getElem?_eq_getElem hj, Option.getD_some] at e
  exact (List.getElem_inj h).mp e

/-! ### == and != of flat lists -/
def eqVs (xs ys : List V) : Bool := xs.length == ys.length && (List.range xs.length).all fun i => eqV (xs.getD i .non) (ys.getD i .non)
def rEqL (K : PySem.W.Frag) (neg : Bool) : R2 := fun x y H Q => ∃ p q xs ys, x = .ref p ∧ y = .ref q ∧ SqL K H p xs ∧ SqL K H q ys ∧ xs.all flatV = true ∧ ys.all flatV = true ∧ Q (.bl (if neg then !eqVs xs ys else eqVs xs ys)) H
theorem eqVs_at {A : Around} {s : Shared} {xs ys : List V} {us ws : List Value} (rx : Vals xs us) (ry : Vals ys ws) (fx : xs.all flatV = true) (fy : ys.all flatV = true) :
    ∀ j (h1 : j < us.toArray.size) (h2 : j < ws.toArray.size), SeqAt.EqAt A s us.toArray[j] ws.toArray[j] (eqV (xs.getD j .non) (ys.getD j .non)) := by
  intro j h1 h2
  have l1 := rx.length
  have l2 := ry.length
  have h1' : j < us.length := by simpa using h1
  have h2' : j < ws.length := by simpa using h2
  have e1 : xs[j]? = some (xs[j]'(by omega)) := List.getElem?_eq_getElem _
  have e2 : ys[j]? = some (ys[j]'(by omega)) := List.getElem?_eq_getElem _
  obtain ⟨u, hu, ru⟩ := rx.get e1
  obtain ⟨w, hw, rw'⟩ := ry.get e2
  have eu : us.toArray[j] = u := by
    have : us[j]? = some us[j] := List.getElem?_eq_getElem h1'
    rw [this] at hu
    simpa using hu
  have ew : ws.toArray[j] = w := by
    have : ws[j]? = some ws[j] := List.getElem?_eq_getElem h2'
    rw [this] at hw
    simpa using hw
  rw [eu, ew]
  have g1 : xs.getD j .non = xs[j]'(by omega) := by rw [List.getD_eq_getElem?_getD, e1]; rfl
  have g2 : ys.getD j .non = ys[j]'(by omega) := by rw [List.getD_eq_getElem?_getD, e2]; rfl
  rw [g1, g2]
  exact eqAt_V ru rw' (List.all_eq_true.mp fx _ (List.getElem_mem _)) (List.all_eq_true.mp fy _ (List.getElem_mem _))
theorem op_neL (hu : X.A.units < cLine) : OpR X (compareOp .NotEq) (rEqL X.K true) := by
  intro pins s σ H x y v u Q I rx ry h
  obtain ⟨p, q, xs, ys, rfl, rfl, hp, hq, fx, fy, k⟩ := h
  cases rx
  cases ry
  obtain ⟨its, r, pl, hz⟩ := I.list hp
  obtain ⟨its2, r2, pl2, hz2⟩ := I.list hq
  have l1 := r.length
  have l2 := r2.length
  by_cases hl : xs.length = ys.length
  · refine SeqAt.RcNeAt.lists pl.isList pl2.isList (by simp; omega) hu (eqVs_at r r2 fx fy) X.prog X.w X.xe (EP X pins σ Q) ⟨.bl _, H, I, rfl, ?_⟩
    have : eqVs xs ys = (List.range its.toArray.size).all fun i => eqV (xs.getD i .non) (ys.getD i .non) := by
      unfold eqVs
      rw [hl, beq_self_eq_true, Bool.true_and, List.size_toArray, ← l1, hl]
    rw [← this]
    exact k
  · refine SeqAt.RcNeAt.lists_lengths pl.isList pl2.isList (by simp; omega) hu X.prog X.w X.xe (EP X pins σ Q) ⟨.bl _, H, I, rfl, ?_⟩
    have : eqVs xs ys = false := by
      unfold eqVs
      rw [beq_eq_false_iff_ne.mpr hl, Bool.false_and]
    have k' := k
    rw [this] at k'
    exact k'

/-! ### isinstance -/
def valOf : V → Value
  | .ty n => .type n
  | .ref a => .ref a
  | _ => .none
theorem call_isi : CallR X (.builtin "isinstance") (fun xs H Q => ∃ x c t b, xs = [x, c] ∧ TyOf X.K H x t ∧ ((∃ n, c = .ty n) ∨ ∃ a, c = .ref a) ∧ PySem.W.kitOne X.K t (valOf c) = some b ∧ Q (.bl b) H) := by
  intro pins s σ H xs us Q I r h
  obtain ⟨x, c, t, b, rfl, ty, hc, hk, q⟩ := h
  obtain ⟨u, v, rfl, rx, rc⟩ := vals2 r
  have e : v = valOf c := by
    rcases hc with ⟨n, rfl⟩ | ⟨a, rfl⟩
    · exact rc
    · exact rc
  subst e
  exact isinst_ok I rx ty hk fun tk => ⟨.bl b, H, I.tok tk, rfl, q⟩

/-! ### the end of a def: what it made may be forgotten -/
variable {P : Program} {w : World} {K : PySem.W.Frag} {mg : Str → Option Value} {base : Heap}
theorem FnOk.gc {CX : CXT} {k : Nat} {f : Addr} {fd : FuncData} {ps : List Str} {sp sp' : Sp} (F : FnOk P w K mg base CX k f fd ps sp) (len : ∀ vs H Q E, sp' vs H Q E → vs.length = ps.length)
    (h : ∀ vs H Q E, sp' vs H Q E → sp vs H (fun v H' => ∃ H'', (Cl H → Cl H' → Gc H H' H'') ∧ Q v H'') E) : FnOk P w K mg base CX k f fd ps sp' := by
  refine ⟨len, fun A outer s H args us vs Q E hr e0 hb rv hs => ?_⟩
  refine codeAny_mono (F.run A outer s H args us vs _ E hr e0 hb rv (h vs H Q E hs)) fun r s' hq => ?_
  cases r with
  | error e => exact hq
  | ok fl =>
    cases fl with
    | next => exact hq
    | brk => exact hq
    | cont => exact hq
    | ret u =>
      obtain ⟨v, H', os, bare, un, hok, r, H'', g, q⟩ := hq
      have g' := g e0.hok.cl hok.cl
      refine ⟨v, H'', os, bare, ?_, hok.less g'.sub g'.cl, r, q⟩
      exact ⟨un.keep, un.slot, fun b o e n hx => free_of_sub g'.sub (un.free b o e n hx), un.there, fun b xs e => g'.imm b _ trivial e (un.tups b xs e), fun b o v e => g'.imm b _ trivial e (un.frzs b o v e), fun b ps e => by
        obtain ⟨more, q⟩ := un.tbls b ps e
        exact (show False from hok b _ q).elim⟩
/-- a def by its body, what it made forgotten -/
theorem Fun.okG {x qual : Str} {st : Stmt} {f : Addr} {fd : FuncData} {N ps : List Str} {k : Nat} {sp : Sp} (F : Fun K x qual st f fd) (S : FnScope N ps (defScope st)) (len : ∀ vs H Q E, sp vs H Q E → vs.length = ps.length)
    (hbody : ∀ (cdv : Value) (A : Around) (outer : List Env) (s : Shared) (H : Hp) (vs : List V) (Q : VK) (E : XK), Room k (A.deeper (envOfC qual (defScope st) s.heap.objs.size f cdv)) → sp vs H Q E →
      ∃ t, PSs (cxOf CX0 P w K mg base N qual (defScope st) f cdv A outer s H E).nox (defBody st) t ∧
        t { nx := fun _ H' => ∃ H'', (Cl H → Cl H' → Gc H H' H'') ∧ Q .non H'', rt := fun v H' => ∃ H'', (Cl H → Cl H' → Gc H H' H'') ∧ Q v H'' } (start N vs) H) : FnOk P w K mg base CX0 (k + 1) f fd ps sp := by
  have G : FnOk P w K mg base CX0 (k + 1) f fd ps (fun vs H Q' E => ∃ Q, sp vs H Q E ∧ Q' = fun v H' => ∃ H'', (Cl H → Cl H' → Gc H H' H'') ∧ Q v H'') := by
    refine F.ok S (fun vs H Q E ⟨Q0, h, _⟩ => len vs H Q0 E h) fun cdv A outer s H vs Q' E hr ⟨Q0, h, e⟩ => ?_
    subst e
    exact hbody cdv A outer s H vs Q0 E hr h
  exact G.gc len fun vs H Q E h => ⟨Q, h, rfl⟩
/-- the two usual ends -/
theorem end_same {H H' : Hp} {v : V} {Q : VK} (e : Same H H') (q : Q v H) : ∃ H'', (Cl H → Cl H' → Gc H H' H'') ∧ Q v H'' := ⟨H, fun c _ => Gc.back c e, q⟩
theorem end_lst {H H' : Hp} {l : Addr} {xs : List V} {Q : VK} (e : Same H H') (n : H l = none) (h : H' l = some (.lst xs)) (q : ∀ p, H p = none → Q (.ref p) (upd H p (.lst xs))) : ∃ H'', (Cl H → Cl H' → Gc H H' H'') ∧ Q (.ref l) H'' :=
  ⟨upd H l (.lst xs), fun c _ => Gc.one c e n h trivial, q l n⟩
theorem end_tup {H H' : Hp} {l : Addr} {xs : List V} {Q : VK} (e : Same H H') (n : H l = none) (h : H' l = some (.tup xs)) (q : ∀ p, H p = none → Q (.ref p) (upd H p (.tup xs))) : ∃ H'', (Cl H → Cl H' → Gc H H' H'') ∧ Q (.ref l) H'' :=
  ⟨upd H l (.tup xs), fun c _ => Gc.one c e n h trivial, q l n⟩
theorem Same.upd {H H' : Hp} {p : Addr} {o : HO} (e : Same H H') (n : H p = none) : Same H (upd H' p o) := fun b u h => by
  rw [upd_ne (ne_of_none h n)]
  exact e b u h
theorem Same.new {H H' : Hp} {p : Addr} {o : HO} (e : Same H H') (n : H' p = none) : Same H (L2.upd H' p o) := e.upd (e.free n)
end
end L2

set_option Elab.async false
set_option linter.all false
set_option maxRecDepth 100000
namespace L2
open PySem PySem.Spec PyProof.Rows
theorem nolen_lri : typeLookup (.type "list_reverseiterator") "__len__" = pure none := by rw [typeLookup_type, builtinLookup_eq_fast]; kernel_rfl
theorem hint_lri : typeLookup (.type "list_reverseiterator") "__length_hint__" = pure (some (.builtin "list_reverseiterator.__length_hint__")) := by rw [typeLookup_type, builtinLookup_eq_fast]; kernel_rfl
section
variable {prog : Program} {w : World} {A : Around} {s : Shared} {R : Result → Shared → Prop}
variable {I : Addr} {fp wr : List Addr} {G : Array GenState → Array GenState → Prop} {n : Nat} {P : Nat → Value → Prop} {St : Nat → Shared → Prop}
theorem extend_rev (W : WalksS prog w A.in1 I fp wr G n P St) (hT : ∀ i s, St i s → s.TypeIs (.ref I) "list_reverseiterator") (S : Addr) (res : Value) (c₀ : Nat) (hst : St 0 s) (hSf : S ∉ fp) (hI : I ∈ fp)
    (hS : s.heap.get? S = some { cls := .type "list", data := .seq #[] c₀ })
    (hR : ∀ s' acc' c', Moved (S :: wr) G s s' → s'.heap.get? S = some { cls := .type "list", dict := none, data := .seq acc' c', slots := #[] } → ItemsOf P acc' n → R (.ok (.ret res)) s') (hn : n ≤ sizeLine) :
    wpAny (model prog w) A.in1 (Builtin.List.listExtendWith (.ref S) (.ref I) res)
      (fun fin s' => match fin with | .done f => R (.ok f) s' | .again c' => c'.quiet = true ∧ codeAny (model prog w) A c' R s') (fun e s' => R (.error e) s') s := by
  have hSI : S ≠ I := fun e => hSf (e ▸ hI)
  unfold Builtin.List.listExtendWith
  refine wpAny_bind (wpAny_typeOf (hT 0 _ hst) ?_)
  have h1 : Builtin.List.listSameRef (.ref S) (.ref I) = false := by simp [Builtin.List.listSameRef, hSI]
  rw [if_neg (by rw [h1]; decide)]
  refine wpAny_bind (W.self 0 _ _ _ hst ?_)
  refine wpAny_bind (wpAny_holding ?_)
  unfold Builtin.List.listLengthHint
  refine wpAny_bind (wpAny_specialOf (hT 0 _ hst) nolen_lri ?_)
  show wpAny _ A.in1 (specialOf (Value.ref I) (Str.ofString "__length_hint__") >>= _) _ _ _
  refine wpAny_bind (wpAny_specialOf (hT 0 _ hst) hint_lri ?_)
  (generalize hid : ("list_reverseiterator.__length_hint__" : String) = id0; (fail_if_success (clear hid id0)); wp_delta; rw [show splitId id0 = some ("list_reverseiterator", "__length_hint__") from by subst hid; decide +kernel]; subst hid)
  refine wpAny_bind (wpAny_isInstance (b := true) (hT 0 _ hst) (by rw [isSubtype_type]; kernel_rfl) ?_)
  refine wpAny_pure ?_
  rw [if_neg (by decide)]
  exact wpAny_pure ⟨plainId_quiet F.plain_extend_loop _, codeAny_extend_loopS W hn _ hSf _ n 0 _ _ _ rfl (Nat.zero_le _) hst hS (ItemsOf.nil P) hR⟩
theorem list_init_rev (W : WalksS prog w A.in1 I fp wr G n P St) (hT : ∀ i s, St i s → s.TypeIs (.ref I) "list_reverseiterator") (S : Addr) (hst : St 0 s) (hSf : S ∉ fp) (hI : I ∈ fp)
    (hS : s.heap.get? S = some { cls := .type "list", data := .seq #[] })
    (hR : ∀ s' acc' c', Moved (S :: wr) G s s' → s'.heap.get? S = some { cls := .type "list", dict := none, data := .seq acc' c', slots := #[] } → ItemsOf P acc' n → R (.ok (.ret .none)) s') (hn : n ≤ sizeLine) :
    wpAny (model prog w) A.in1 (Builtin.«list.__init__» ⟨[.ref S, .ref I], []⟩)
      (fun fin s' => match fin with | .done f => R (.ok f) s' | .again c' => c'.quiet = true ∧ codeAny (model prog w) A c' R s') (fun e s' => R (.error e) s') s := by
  show wpAny _ A.in1 (do let old ← Builtin.List.listItems (.ref S); Builtin.List.listUpdate (.ref S) (fun _ => #[]); letGo old.toList.reverse; Builtin.List.listExtendWith (.ref S) (.ref I) .none) _ _ s
  refine wpAny_bind ?_
  unfold Builtin.List.listItems
  refine wpAny_bind (wpAny_seqItems hS rfl (wpAny_pure ?_))
  show wpAny _ A.in1 (updateSeq S (fun _ => #[]) >>= fun _ => letGo (#[] : Array Value).toList.reverse >>= fun _ => Builtin.List.listExtendWith (.ref S) (.ref I) .none) _ _ s
  refine wpAny_bind (wpAny_updateSeq hS rfl ?_)
  have hS₂ := Heap.get?_update_self (Obj.mapSeq (fun _ => (#[] : Array Value))) hS rfl
  have oth : ∀ b o, b ≠ S → s.heap.get? b = some o → (s.heap.update S (Obj.mapSeq (fun _ => (#[] : Array Value)))).get? b = some o :=
    fun b o hb e => (Heap.get?_update_other _ _ (Ne.symm hb)).trans e
  refine wpAny_bind (wpAny_letGo ?_)
  refine extend_rev W hT S .none _ (W.frame 0 s _ s.toks hst (Nat.le_refl _) fun b hb o e => oth b o (fun h => hSf (h ▸ hb)) e) hSf hI hS₂ (fun s' acc' c' hm hS' hacc => ?_) hn
  exact hR s' acc' c' (Moved.trans W.gtrans ((Moved.refl W.grefl).then_heap (Nat.le_refl _) fun b o hb e => oth b o (fun h => hb (h ▸ List.mem_cons_self)) e) hm) hS' hacc
end
section
variable {prog : Program} {w : World} {A : Around} {E : Value → Shared → Prop} {s : Shared}
variable {I : Addr} {fp wr : List Addr} {G : Array GenState → Array GenState → Prop} {n : Nat} {P : Nat → Value → Prop} {St : Nat → Shared → Prop}
theorem list_of_rev {Q : Value → Shared → Prop} (W : WalksS prog w A.in1.in1 I fp wr G n P St) (hT : ∀ i s, St i s → s.TypeIs (.ref I) "list_reverseiterator") (hst : St 0 s) (hfp : ∀ b ∈ fp, b < s.heap.objs.size) (hI : I ∈ fp)
    (hQ : ∀ s' acc' c', Moved (s.heap.objs.size :: wr) G { s with heap := s.heap.push { cls := .type "list", data := .seq #[] } } s' →
      s'.heap.get? s.heap.objs.size = some { cls := .type "list", dict := none, data := .seq acc' c', slots := #[] } → ItemsOf P acc' n → Q (.ref s.heap.objs.size) s') (hn : n ≤ sizeLine) :
    wpAny (model prog w) A (call (.type "list") [.ref I]) Q E s := by
  have hSf : s.heap.objs.size ∉ fp := fun hm => Nat.lt_irrefl _ (hfp _ hm)
  refine callType_codes (Q₁ := fun obj s₁ => obj = .ref s.heap.objs.size ∧ s₁ = { s with heap := s.heap.push { cls := .type "list", data := .seq #[] } }) F.called_list (F.typeCall_list_1 _) F.entry_list_init
    (code_list_new _ ⟨rfl, rfl⟩) fun obj s₁ h₁ => ?_
  obtain ⟨rfl, rfl⟩ := h₁
  have hS : (s.heap.push { cls := .type "list", data := .seq #[] }).get? s.heap.objs.size = some { cls := .type "list", data := .seq #[] } := Heap.get?_push_size _ rfl
  refine ⟨⟨_, hS, rfl⟩, F.args_list_init_2 _ _, list_init_rev W hT _ (W.frame 0 s _ s.toks hst (Nat.le_refl _) fun b _ o e => Heap.get?_push_of_some _ e) hSf hI hS (fun s' acc' c' hm hS' hacc => ?_) hn⟩
  exact ⟨rfl, hQ s' acc' c' hm hS' hacc⟩
end

section
variable {X : Cx}
/-! ### list(reversed(xs)) -/
def tLRev (K : PySem.W.Frag) (ta : TA) : TE := fun σ H Q => ta σ H fun vs H1 => ∃ a ys, vs = [.ref a] ∧ SqL K H1 a ys ∧ ∀ l, H1 l = none → Q (.ref l) (upd H1 l (.lst ys.reverse))
theorem pe_lrev {a : Expr} {ta : TA} {p pos p' pos' : Pos} (hc : X.calm = true) (hg : Gl X "list") (hm : X.mg "list" = none) (hg' : Gl X "reversed") (hm' : X.mg "reversed" = none) (ha : PA X [a] ta) (hs : starEach [a] X.env = [(false, eval a X.env)] := by rfl)
    (hs' : starEach [.Call (.Name "reversed" p') [a] [] pos'] X.env = [(false, eval (.Call (.Name "reversed" p') [a] [] pos') X.env)] := by rfl) : PE X (.Call (.Name "list" p) [.Call (.Name "reversed" p') [a] [] pos'] [] pos) (tLRev X.K ta) := by
  intro pins s σ H Q I h
  refine Call_ (ld_blt I hg hm (show bootBuiltins "list" = some (.type "list") by decide +kernel) (PyProof.Rows.callWith_type1 ?_ hs' rfl))
  rw [hs']
  show wpAny _ _ (spliced ((false, eval (.Call (.Name "reversed" p') [a] [] pos') X.env) :: backTo pos [])) _ _ s
  refine Calls.spliced_cons (Call_ (ld_blt I hg' hm' (show bootBuiltins "reversed" = some (.type "reversed") by decide +kernel) (PyProof.Rows.callWith_type1 (thn (ha pos' pins s σ H _ I h) fun us s1 ⟨vs, H1, I1, r1, q1⟩ => ?_) hs rfl)))
  obtain ⟨b, ys, rfl, hq, q⟩ := q1
  obtain ⟨u, rfl, rx⟩ := vals1 r1
  cases rx
  obtain ⟨its, rv, pl, hz⟩ := I1.list hq
  have hl := rv.length
  refine call_reversed_list pl.isList ?_
  refine Calls.spliced_nil ?_
  generalize hpp : s1.heap.objs.size = pp
  have I2 : Inv X pins σ H1 { s1 with heap := s1.heap.push (revObj b ((its.toArray.size : Int) - 1)) } := I1.kept (t' := s1.toks) fun c o e => Heap.get?_push_of_some _ e
  have hrev : (s1.heap.push (revObj b ((its.toArray.size : Int) - 1))).IsRevIter pp b ((its.toArray.size : Int) - 1) := by rw [← hpp]; exact ⟨_, Heap.get?_push_size _ rfl, rfl, rfl⟩
  have hd : X.A.in1.in1.handled = none := I.ok.hd hc
  have hblt : b < s1.heap.objs.size := let ⟨o, n, e, _⟩ := pl; Heap.lt_size e
  have hbp : b ≠ pp := by rw [← hpp]; exact Nat.ne_of_lt hblt
  have pl2 : (s1.heap.push (revObj b ((its.toArray.size : Int) - 1))).IsList b its.toArray := pl.isList.at fun o e => Heap.get?_push_of_some _ e
  have W := (Walks.listRev (prog := X.prog) (w := X.w) hd pp b hbp its.toArray).toS
  have hsz : (s1.heap.push (revObj b ((its.toArray.size : Int) - 1))).objs.size = pp + 1 := by rw [Heap.size_push, hpp]
  refine list_of_rev W (fun i s st => st.2.1.typeIs) ⟨Nat.zero_le _, ?_, pl2⟩ (fun c hb => ?_) (by simp) (fun s' acc' c' hmv hS' hacc => ?_) (by rw [List.size_toArray, ← hl]; exact hz)
  · have e : ((its.toArray.size : Nat) : Int) - 1 - ((0 : Nat) : Int) = (its.toArray.size : Int) - 1 := by omega
    rw [e]
    exact hrev
  · show c < (s1.heap.push (revObj b ((its.toArray.size : Int) - 1))).objs.size
    rw [hsz]
    rcases List.mem_cons.mp hb with z | z
    · rw [z]; exact Nat.lt_succ_self _
    · have z' : c = b := by simpa using z
      rw [z', ← hpp]; exact Nat.lt_succ_of_lt hblt
  · have hk : ∀ c o, c ≠ pp → (s1.heap.push (revObj b ((its.toArray.size : Int) - 1))).get? c = some o → s'.heap.get? c = some o := fun c o hb e => by
      refine hmv.heap c o (fun z => ?_) (Heap.get?_push_of_some _ e)
      rcases List.mem_cons.mp z with z | z
      · exact absurd (Heap.lt_size e) (by rw [z]; exact Nat.lt_irrefl _)
      · exact hb (by simpa using z)
    have fr : H1 pp = none := by rw [← hpp]; exact I1.fresh
    have ppl : ∀ c o, s1.heap.get? c = some o → c ≠ pp := fun c o e => by rw [← hpp]; exact Nat.ne_of_lt (Heap.lt_size e)
    have I3 : Inv X pins σ H1 { s1 with heap := s'.heap, toks := s'.toks } := Inv.turned (s := { s1 with heap := s1.heap.push (revObj b ((its.toArray.size : Int) - 1)) }) (h' := s'.heap) (t' := s'.toks) (it := pp) I2 hk fr (by rw [← hpp]; exact Nat.ne_of_gt I1.lt) (.inr (by rw [← hpp]; exact I1.sz)) (fun x c e => by
      obtain ⟨v, o, ho, _⟩ := I1.cell x c e
      exact ppl c o ho) (fun pn hp => ppl _ _ (I1.pin pn hp).1)
    have es : s' = { s1 with heap := s'.heap, toks := s'.toks } := by
      obtain ⟨h', g', d', tk', os'⟩ := s'
      have e1 : g' = s1.gens := hmv.gens
      have e2 : d' = s1.drawn := hmv.drawn
      have e3 : os' = s1.os := hmv.os
      subst e1 e2 e3
      rfl
    rw [es]
    have fD : H1 (s1.heap.push (revObj b ((its.toArray.size : Int) - 1))).objs.size = none := I2.fresh
    have ha' : Vals ys.reverse acc'.toList := by
      have rr := rv.reverse
      have e : acc'.toList = its.reverse := by
        apply List.ext_getElem?
        intro i
        by_cases hi : i < its.length
        · have hi' : i < acc'.size := by rw [hacc.1, List.size_toArray]; exact hi
          have e1 : acc'[i]? = some acc'[i] := Array.getElem?_eq_getElem hi'
          have e2 := hacc.2 i _ e1
          rw [Array.getElem?_toList, e1, List.getElem?_reverse hi, ← e2]
          simp
        · have hi' : acc'.size ≤ i := by rw [hacc.1, List.size_toArray]; omega
          rw [List.getElem?_eq_none (by simpa using hi'), List.getElem?_eq_none (by simpa using hi)]
      rw [e]
      exact rr
    have okD : HOk X.prog X.w (upd H1 (s1.heap.push (revObj b ((its.toArray.size : Int) - 1))).objs.size (.lst ys.reverse)) s'.heap := by
      intro c o e
      by_cases hcD : c = (s1.heap.push (revObj b ((its.toArray.size : Int) - 1))).objs.size
      · subst hcD
        rw [upd_same] at e
        cases e
        exact ⟨by rw [List.length_reverse]; exact hz, acc'.toList, c', ha', by simpa using hS'⟩
      · rw [upd_ne hcD] at e
        exact (I3.hok c o e).stay (fun d v _ z => z) (fun d z => by rw [upd_ne (ne_of_none z fD)]; exact z) fun d zs z => by rw [upd_ne (ne_of_none z fD)]; exact z
    have ltD : ∀ c o, s1.heap.get? c = some o → c ≠ (s1.heap.push (revObj b ((its.toArray.size : Int) - 1))).objs.size := fun c o e => Nat.ne_of_lt (Heap.lt_size (Heap.get?_push_of_some _ e))
    refine ⟨.ref _, _, I1.call' (s' := { s1 with heap := s'.heap, toks := s'.toks }) (ch := []) rfl ⟨fun c o e n hb hx => hk c o (ppl c o e) (Heap.get?_push_of_some _ e), fun c o e n hb hx => ⟨o.slots, hk c o (ppl c o e) (Heap.get?_push_of_some _ e)⟩, fun c o e n hx => by rw [upd_ne (ltD c o e)]; exact n,
      fun c o e hx => ⟨o, hk c o (ppl c o e) (Heap.get?_push_of_some _ e)⟩, fun c xs e => by rw [upd_ne (ne_of_none e fD)]; exact e, fun c o u e => by rw [upd_ne (ne_of_none e fD)]; exact e, fun c ps e => ⟨#[], by rw [upd_ne (ne_of_none e fD), e]; simp⟩⟩ okD I1.bare (fun c z => absurd z (by simp)), rfl, q _ fD⟩

/-! ### xs[::-1] -/
theorem slicePick_rev (its : List Value) : slicePick its.toArray none none (some (-1)) = its.reverse.toArray := by
  unfold slicePick sliceBounds sliceRange
  simp only [Option.getD_some, show ¬ ((-1 : Int) > 0) by omega, if_false, List.size_toArray]
  have e : ((if (its.length : Int) - 1 > -1 then ((its.length : Int) - 1 - -1 - -1 - 1) / (- -1) else 0)).toNat = its.length := by
    split <;> (try simp) <;> omega
  rw [e]
  congr 1
  apply List.ext_getElem?
  intro i
  have key : ∀ (n : Nat), n ≤ its.length → (List.filterMap (fun x => its.toArray[x]?) (List.map (fun k : Nat => ((its.length : Int) - 1 + -1 * (k : Int)).toNat) (List.range n))) = (its.reverse).take n := by
    intro n
    induction n with
    | zero => intro _; simp
    | succ n ih =>
      intro hn
      rw [List.range_succ, List.map_append, List.filterMap_append, ih (by omega), List.take_add_one]
      congr 1
      have e1 : ((its.length : Int) - 1 + -1 * (n : Int)).toNat = its.length - 1 - n := by omega
      have hlt : its.length - 1 - n < its.length := by omega
      simp only [List.map_cons, List.map_nil, e1, List.filterMap_cons, List.filterMap_nil]
      rw [List.getElem?_reverse (by omega)]
      simp [hlt]
  rw [key its.length (Nat.le_refl _), List.take_of_length_le (by simp)]
def tRev (K : PySem.W.Frag) (te : TE) : TE := fun σ H Q => te σ H fun x H1 => ∃ a xs, x = .ref a ∧ SqL K H1 a xs ∧ ∀ p, H1 p = none → Q (.ref p) (upd H1 p (.lst xs.reverse))
theorem pe_rev {e st : Expr} {te : TE} {p2 pos : Pos} (he : PE X e te) (hst : PE X st (tC (.int (-1)))) : PE X (.Subscript e (.Slice none none (some st) p2) pos) (tRev X.K te) := by
  intro pins s σ H Q I h
  refine Subscript_ (thn (he pins s σ H _ I h) fun v s1 ⟨x, H1, I1, r1, q1⟩ => ?_)
  obtain ⟨a, xs, rfl, hq, q⟩ := q1
  cases r1
  refine wpAny_Slice ?_
  rw [evalPart_none]
  refine wpAny_pure (wpAny_pure ?_)
  show wpAny _ _ (evalPart (some st) X.env) _ _ s1
  refine thn (hst pins s1 σ H1 (fun v H2 => v = .int (-1) ∧ H2 = H1) I1 ⟨rfl, rfl⟩) fun vs s2 ⟨y, H2, I2, r2, e2, e3⟩ => ?_
  subst e2 e3
  obtain ⟨t, rfl⟩ := r2
  obtain ⟨its, rv, pl, hz⟩ := I2.list hq
  have hl := rv.length
  have I3 : Inv X pins σ H2 { s2 with heap := s2.heap.push { cls := .type "slice", data := .fields #[.none, .none, .int (-1) t] } } := I2.kept (t' := s2.toks) fun b ob q => Heap.get?_push_of_some _ q
  obtain ⟨its', rv', pl', _⟩ := I3.list hq
  have hl' := rv'.length
  show wpAny (model X.prog X.w) X.A (subscriptTail e (.Slice none none (some st) p2) (.ref a) (.ref s2.heap.objs.size)) (EP X pins σ Q) X.xe { s2 with heap := s2.heap.push { cls := .type "slice", data := .fields #[.none, .none, .int (-1) t] } }
  refine tail_any (ops := [.ref a, .ref s2.heap.objs.size]) pl'.isList.typeIs slot_list_getitem.lookup ?_ (by with_unfolding_all rfl)
  refine wpAny_getItem_list_slice pl'.isList (Heap.IsSliceOf.new ..) .none .none (.int (-1) t) (by simp) ?_ (by rw [List.size_toArray]; omega)
  rw [slicePick_rev]
  refine ⟨.ref _, _, I3.laid (t' := s2.toks) (o := .lst xs.reverse) (fun b ob q => Heap.get?_push_of_some _ q) (Nat.le_refl _) ⟨by rw [List.length_reverse]; exact hz, _, 0, rv'.reverse, Heap.get?_push_size _ rfl⟩, rfl, q _ I3.fresh⟩
end
end L2

set_option Elab.async false
set_option linter.all false
set_option maxRecDepth 100000
namespace L2
open PySem PySem.Spec PyProof.Rows
/-! ### a sign counted in a text; a text repeated -/
def occStep (z : Str) (c : Nat) (i : Nat) (r : Array Nat × Nat) : Id (ForInStep (Array Nat × Nat)) :=
  if ((r.fst.size < z.length + 1 ∧ r.snd ≤ i) ∧ i + (Str.mk #[c]).length ≤ z.length) ∧ Builtin.Str.subAt z ⟨#[c]⟩ i = true then pure (ForInStep.yield (r.fst.push i, i + (Str.mk #[c]).length)) else pure (ForInStep.yield (r.fst, r.snd))
theorem subAt_one (z : Str) (c i d : Nat) (hi : z.cps.toList[i]? = some d) : Builtin.Str.subAt z ⟨#[c]⟩ i = (d == c) := by
  unfold Builtin.Str.subAt
  have hlt : i < z.cps.size := by simpa using (List.getElem?_eq_some_iff.mp hi).1
  have e : z.cps.extract i (i + (Str.mk #[c]).length) = #[d] := by
    apply Array.ext
    · simp [Str.length]; omega
    · intro j h1 h2
      have : j = 0 := by simp at h2; omega
      subst this
      have := (List.getElem?_eq_some_iff.mp hi).2
      simpa using this
  rw [e, Bool.eq_iff_iff]
  simp
theorem occ_go (z : Str) (c : Nat) : ∀ (k i : Nat) (found : Array Nat) (free : Nat), i + k = z.length + 1 → free ≤ i → found.size ≤ i →
    (forIn (List.range' i k) (found, free) (occStep z c) : Id _).run.fst.size = found.size + (z.cps.toList.drop i).count c
  | 0, i, found, free, h, _, _ => by
    have : z.cps.toList.drop i = [] := List.drop_of_length_le (by simp [Str.length] at h ⊢; omega)
    rw [this]
    rfl
  | k + 1, i, found, free, h, hf, hs => by
    rw [List.range'_succ, List.forIn_cons]
    cases hi : z.cps.toList[i]? with
    | some d =>
      have hlt : i < z.cps.size := by simpa using (List.getElem?_eq_some_iff.mp hi).1
      have hd : z.cps.toList.drop i = d :: z.cps.toList.drop (i + 1) := by
        rw [List.drop_eq_getElem_cons (by simpa using hlt)]
        congr 1
        exact (List.getElem?_eq_some_iff.mp hi).2
      have h1 : found.size < z.length + 1 := by show found.size < z.cps.size + 1; omega
      have h2 : i + (Str.mk #[c]).length ≤ z.length := by show i + 1 ≤ z.cps.size; omega
      unfold occStep
      by_cases hc : d = c
      · rw [if_pos ⟨⟨⟨h1, hf⟩, h2⟩, by rw [subAt_one z c i d hi]; simpa using hc⟩]
        have ih := occ_go z c k (i + 1) (found.push i) (i + (Str.mk #[c]).length) (by omega) (by show i + 1 ≤ i + 1; omega) (by rw [Array.size_push]; omega)
        simp only [pure_bind]
        refine ih.trans ?_
        rw [hd, hc, List.count_cons_self, Array.size_push]
        omega
      · rw [if_neg (by rintro ⟨_, h⟩; rw [subAt_one z c i d hi] at h; exact hc (by simpa using h))]
        have ih := occ_go z c k (i + 1) found free (by omega) (by omega) (by omega)
        simp only [pure_bind]
        refine ih.trans ?_
        rw [hd, List.count_cons_of_ne hc]
    | none =>
      have hge : z.cps.size ≤ i := by simpa using hi
      have e1 : z.cps.toList.drop i = [] := List.drop_of_length_le (by simp; omega)
      have e2 : z.cps.toList.drop (i + 1) = [] := List.drop_of_length_le (by simp; omega)
      unfold occStep
      rw [if_neg (by rintro ⟨⟨_, h⟩, _⟩; have h' : i + 1 ≤ z.cps.size := h; omega)]
      have ih := occ_go z c k (i + 1) found free (by omega) (by omega) (by omega)
      simp only [pure_bind]
      refine ih.trans ?_
      rw [e1, e2]
theorem occ_one (z : Str) (c : Nat) : (Builtin.Str.occurrences z ⟨#[c]⟩ 0 z.length (z.length + 1)).length = z.cps.toList.count c := by
  have h := occ_go z c (z.length + 1) 0 #[] 0 (by omega) (by omega) (by simp)
  rw [List.drop_zero] at h
  simp only [Array.size_empty, Nat.zero_add] at h
  rw [← h]
  unfold Builtin.Str.occurrences
  simp
  rfl
/-- a text k times -/
def repS (z : Str) (k : Nat) : Str := ⟨(List.replicate k z.cps.toList).flatten.toArray⟩
theorem rep_fold (z : Str) : ∀ (k : Nat) (acc : List Nat), (List.replicate k z.cps).foldl (· ++ ·) acc.toArray = (acc ++ (List.replicate k z.cps.toList).flatten).toArray
  | 0, acc => by simp
  | k + 1, acc => by
    have e : acc.toArray ++ z.cps = (acc ++ z.cps.toList).toArray := by simp
    rw [List.replicate_succ, List.foldl_cons, e, rep_fold z k, List.replicate_succ, List.flatten_cons, List.append_assoc]
theorem mul_repS (z : Str) (k : Nat) : Txt.mul z (k : Int) = repS z k := by
  unfold Txt.mul repS
  split
  · have : k = 0 := by omega
    subst this
    rfl
  · split
    · rename_i h1 h2
      simp only [Bool.or_eq_true, beq_iff_eq] at h2
      rcases h2 with h2 | h2
      · have : k = 1 := by omega
        subst this
        simp
      · have hz : z.cps = #[] := Array.eq_empty_of_size_eq_zero h2
        have : z = ⟨#[]⟩ := by cases z; simp at hz; rw [hz]
        subst this
        simp
    · have := rep_fold z k []
      simp only [List.nil_append, Int.toNat_natCast] at this ⊢
      rw [← this]
section
variable {X : Cx}
theorem mt_count : MtM X "str.count" (fun x xs H Q => ∃ z c, x = .str z ∧ xs = [.str ⟨#[c]⟩] ∧ Q (.int (z.cps.toList.count c : Nat)) H) := by
  intro pins s σ H x xs v us Q I rx rv h
  obtain ⟨z, c, rfl, rfl, q⟩ := h
  obtain ⟨t, rfl⟩ := rx
  obtain ⟨u, rfl, t', rfl⟩ := rv.one
  refine call_gives F.slot_str_count (typeIs_str _ _ _) F.entry_str_count (F.args_str_count_2 _ _) (gives_str_count z ⟨#[c]⟩ t t') ?_
  exact ⟨.int _, H, I.tok _, ⟨_, by rw [occ_one]⟩, q⟩
theorem op_mulS : OpR X (binaryOp .Mult) (fun x y H Q => ∃ (z : Str) (k : Nat), x = .str z ∧ y = .int k ∧ z.length ≤ 1000 ∧ k ≤ 1000 ∧ Q (.str (repS z k)) H) := by
  intro pins s σ H x y v u Q I rx ry h
  obtain ⟨z, k, rfl, rfl, hz, hk, q⟩ := h
  obtain ⟨t, rfl⟩ := rx
  obtain ⟨t', rfl⟩ := ry
  refine SB.mul ⟨?_, ?_, ?_⟩ fun t'' k' => ⟨.str _, H, I.tok _, ⟨t'', by rw [mul_repS]⟩, q⟩
  · simp only [Bool.or_eq_false_iff, decide_eq_false_iff_not]; omega
  · intro h1 _ h2
    have : (2 ^ 63 - 1 : Int) / (k : Int) ≥ 1000000 := by
      have hk' : (0 : Int) < k := by omega
      exact Int.le_ediv_of_mul_le hk' (by omega)
    omega
  · intro h1 _
    have : z.length * (k : Int).toNat ≤ 1000 * 1000 := Nat.mul_le_mul hz (by omega)
    unfold Builtin.Str.tooLong
    simp only [decide_eq_false_iff_not]
    have h3 : sizeLine ≥ 1000000 := by decide
    omega
end
end L2

set_option Elab.async false
set_option linter.all false
set_option maxRecDepth 100000
namespace L2
open PySem PySem.Spec PyProof.Rows
section
variable (P : Program) (w : World) (K : PySem.W.Frag) (mg : Str → Option Value) (base : Heap)
/-- a def of the text under its name, with its promise -/
structure Fn1 (k : Nat) (x : Str) (sp : Sp) : Prop where
  ex : ∃ (f : Addr) (fd : FuncData) (ps : List Str), FnOk P w K mg base CX0 k f fd ps sp ∧ mg x = some (.ref f) ∧ PySem.W.keepIn K (.ref f) = true ∧ Binds K fd ps []
/-- a method of a class, with its promise -/
structure Mth (k : Nat) (C : Addr) (m : Str) (sp : Sp) : Prop where
  cls : Cls K C
  ex : ∃ (f : Addr) (fd : FuncData) (ps : List Str), Meth K C m f ∧ FnOk P w K mg base CX0 k f fd ps sp ∧ Binds K fd ps []
/-- a class that is made under its name, with the promise of its __init__ -/
structure Mk1 (k : Nat) (x : Str) (C : Addr) (sp : Sp) : Prop where
  ex : ∃ (f : Addr) (fd : FuncData) (ps : List Str), Mk K C f ∧ FnOk P w K mg base CX0 k f fd ps sp ∧ Binds K fd ps [] ∧ mg x = some (.ref C)
end
section
variable {X : Cx} {k j : Nat} {x m : Str} {sp : Sp} {C : Addr} {p pos apos : Pos} {e o : Expr} {es : List Expr} {ta : TE} {t : TA}
theorem pe_fn (F : Fn1 X.prog X.w X.K X.mg X.base k x sp) (hr : Room j X.A) (hg : Gl X x) (ha : PA X (e :: es) t) (hk : k ≤ j := by decide) (hdb : (x == ("__debug__" : Str)) = false := by decide) (he : starEach (e :: es) X.env = (false, eval e X.env) :: starEach es X.env := by rfl)
    (hpl : (backTo pos (starEach es X.env)).any (·.1) = false := by rfl) : PE X (.Call (.Name x p) (e :: es) [] pos) (tCall sp [] E0 t) := by
  obtain ⟨f, fd, ps, G, hm, kp, b⟩ := F.ex
  exact pe_call G (hr.mono hk) hg hm kp b .nil pass0 ha hdb he hpl
theorem pe_mk (F : Mk1 X.prog X.w X.K X.mg X.base k x C sp) (hr : Room j X.A) (hg : Gl X x) (ha : PA X (e :: es) t) (hk : k + 1 ≤ j := by decide) (hdb : (x == ("__debug__" : Str)) = false := by decide) (he : starEach (e :: es) X.env = (false, eval e X.env) :: starEach es X.env := by rfl)
    (hpl : (backTo pos (starEach es X.env)).any (·.1) = false := by rfl) : PE X (.Call (.Name x p) (e :: es) [] pos) (tMake C sp [] E0 t) := by
  obtain ⟨f, fd, ps, M, G, b, hm⟩ := F.ex
  exact pe_make M G (hr.mono hk) hg hm b .nil pass0 ha hdb he hpl
theorem pe_mk0 (F : Mk1 X.prog X.w X.K X.mg X.base k x C sp) (hr : Room j X.A) (hg : Gl X x) (hk : k + 1 ≤ j := by decide) (hdb : (x == ("__debug__" : Str)) = false := by decide) : PE X (.Call (.Name x p) [] [] pos) (tMake C sp [] E0 tNil) := by
  obtain ⟨f, fd, ps, M, G, b, hm⟩ := F.ex
  exact pe_make0 M G (hr.mono hk) hg hm b .nil pass0 hdb
/-- o.m(e, ..): the class is told in the reading -/
def tMethD (P : Program) (w : World) (K : PySem.W.Frag) (mg : Str → Option Value) (base : Heap) (k : Nat) (m : Str) (ta : TE) (t : TA) : TE := fun σ H Q => ta σ H fun x H1 => ∃ a C dx fs sp, x = .ref a ∧ H1 a = some (.ins C dx fs) ∧ fs.lookup m = none ∧ Mth P w K mg base k C m sp ∧
  t σ H1 fun vs H2 => sp (x :: vs) H2 Q E0
theorem pe_mtD {pl : Sem Bool} (k : Nat) (hr : Room j X.A) (he : PE X o ta) (ha : PA X (e :: es) t) (hk : k ≤ j := by decide)
    (hst : starEach (e :: es) X.env = (false, eval e X.env) :: starEach es X.env := by rfl) (hpl : (backTo pos (starEach es X.env)).any (·.1) = false := by rfl)
    (ht : eval (.Call (.Attribute o m apos) (e :: es) [] pos) X.env = (do
      let ov ← eval o X.env
      standAt apos.atName
      let (f, first) ← holding [ov] (getMethod ov m pl)
      callWith pos f first (backTo pos (starEach (e :: es) X.env)) (backToKw pos (keywordEach [] X.env))) := by rfl) :
    PE X (.Call (.Attribute o m apos) (e :: es) [] pos) (tMethD X.prog X.w X.K X.mg X.base k m ta t) := by
  intro pins s σ H Q I h
  refine PySem.W.methodCall_KW (pl := pl) (thn (he pins s σ H _ I h) fun u s1 ⟨x, H1, I1, rx, a, C, dx, fs, sp, ex, ea, l, M, q⟩ => ?_) ht
  subst ex
  obtain rfl : u = Value.ref a := rx
  obtain ⟨f, fd, ps, hm, F, hb⟩ := M.ex
  refine getmeth_ok I1 ea M.cls hm l ?_
  refine PySem.W.callWith_K (first := [.ref a]) (h₀ := X.base) I.ok.mod.kin hm.kp (thn (ha pos pins s1 σ H1 _ I1 q) fun us s2 ⟨vs, H2, I2, r, q2⟩ => ⟨I2.kIn, ?_⟩) hst hpl
  exact run_fn (us := .ref a :: us) (vs := .ref a :: vs) (dvs := []) F (hr.mono hk) hb .nil pass0 I2 (.cons rfl r) (by rw [List.append_nil]; exact q2)
theorem pe_globI {i : Int} (hg : Gl X x) (hm : ∃ t, X.mg x = some (.int i t)) (hd : (x == ("__debug__" : Str)) = false := by decide) : PE X (.Name x pos) (tC (.int i)) := by
  obtain ⟨t, hm⟩ := hm
  exact pe_glob hg hm ⟨t, rfl⟩ hd
theorem pe_neg {i : Int} {c p1 p2} : PE X (.UnaryOp .USub (.Constant (.int i) c p1) p2) (tC (.int (-i))) := by
  intro pins s σ H Q I h
  exact pe_un un_neg pe_int pins s σ H Q I ⟨i, rfl, h⟩
end
end L2
namespace L2
open PySem PySem.Spec PyProof.Rows
section
variable {X : Cx} {K : PySem.W.Frag}
/-! ### inside a comprehension: the written part is told -/
theorem call_len_seqK (h : X.K = K) : CallR X (.builtin "len") (fun xs H Q => ∃ p ys, xs = [.ref p] ∧ (SqL K H p ys ∨ SqT K H p ys) ∧ Q (.int ys.length) H) := by subst h; exact call_len_seq
theorem ix_listK (h : X.K = K) : IxR X (rIxL K) := by subst h; exact ix_list
end
end L2
namespace L2
open PySem PySem.Spec PyProof.Rows
/-! ### a tuple of written ints -/
def isInts : List Expr → Option (List Int)
  | [] => some []
  | .Constant (.int i) _ _ :: r => match isInts r with
    | some is => some (i :: is)
    | none => none
  | _ :: _ => none
def tK (vs : List V) : TA := fun _ H Q => Q vs H
theorem pa_ints {X : Cx} : ∀ {es : List Expr} {is : List Int}, isInts es = some is → PA X es (tK (is.map V.int))
  | [], is, h => by
    have e : is = [] := by simpa [isInts] using h.symm
    subst e
    exact pa_nil
  | .Constant (.int i) c p :: r, is, h => by
    cases hr : isInts r with
    | none => simp [isInts, hr] at h
    | some js =>
      have e : is = i :: js := by simpa [isInts, hr] using h.symm
      subst e
      intro pos pins s σ H Q I q
      exact pa_cons (X := X) pe_int (pa_ints hr) rfl pos pins s σ H Q I q
theorem pe_tupI {X : Cx} {es : List Expr} {is : List Int} {x1} {pos : Pos} (h : isInts es = some is) : PE X (.Tuple es x1 pos) (tTup (tK (is.map V.int))) := pe_tup (pa_ints h)
end L2

set_option Elab.async false
set_option linter.all false
set_option maxRecDepth 100000
namespace L2
open PySem PySem.Spec PyProof.Rows
/-! ### lists of pairs as tables -/
section
variable {κ : Type} [DecidableEq κ]
def valV (kvs : List (κ × V)) (k : κ) : Option V := (kvs.find? fun kv => decide (kv.1 = k)).map (·.2)
/-- in its place, or at the end -/
def putK (kvs : List (κ × V)) (k : κ) (v : V) : List (κ × V) :=
  if (kvs.any fun kv => decide (kv.1 = k)) = true then kvs.map (fun kv => if kv.1 = k then (kv.1, v) else kv) else kvs ++ [(k, v)]


end


/-! ### a tracked dict, its keys ints and texts or tuples of these -/

section
variable {X : Cx} {pins : List (Addr × Obj)} {σ : St} {H : Hp} {s : Shared} {a : Addr}


end
end L2

set_option Elab.async false
set_option linter.all false
set_option maxRecDepth 100000
namespace L2
open PySem PySem.Spec PyProof.Rows
section
variable {X : Cx}
/-! ### a dict of int keys: {}, not in, d[k] = v -/
def tDNew : TE := fun _ H Q => ∀ p, H p = none → Q (.ref p) (upd H p (.dK []))
def rNotInD : R2 := fun x y H Q => ∃ (i : Int) (d : Addr) (kvs : List (Key × V)), x = .int i ∧ y = .ref d ∧ H d = some (.dK kvs) ∧ Q (.bl (!(valV kvs (.inl i)).isSome)) H
def rSetD : V → V → V → Hp → (Hp → Prop) → Prop := fun o i v H Q => ∃ d k kvs, o = .ref d ∧ i = .int k ∧ H d = some (.dK kvs) ∧ kvs.length < sizeLine ∧ Q (upd H d (.dK (putK kvs (.inl k) v)))
/-! ### // by any divisor below 2 ** 64 -/
/-! ### list.index of ints -/
def rIndex (K : PySem.W.Frag) : V → List V → Hp → VK → Prop := fun x vs H Q => ∃ l xs y j, x = .ref l ∧ vs = [y] ∧ SqL K H l xs ∧ flatV y = true ∧ xs.all flatV = true ∧ j < xs.length ∧ eqV (xs.getD j .non) y = true ∧ (∀ m, m < j → eqV (xs.getD m .non) y = false) ∧ Q (.int (j : Nat)) H
/-! ### != of lists of lists: the same numbers in each -/
def rNeLL (K : PySem.W.Frag) : R2 := fun x y H Q => ∃ (p q : Addr) (rs ss : List Addr), x = .ref p ∧ y = .ref q ∧ SqL K H p (rs.map V.ref) ∧ SqL K H q (ss.map V.ref) ∧ rs.length = ss.length ∧
  (∀ (i : Nat) (a b : Addr), rs[i]? = some a → ss[i]? = some b → a ≠ b ∧ ∃ xs, SqL K H a xs ∧ SqL K H b xs ∧ xs.all flatV = true ∧ eqVs xs xs = true) ∧ Q (.bl false) H
end
section
variable {X : Cx} {K : PySem.W.Frag}
end
end L2

set_option Elab.async false
set_option linter.all false
set_option maxRecDepth 100000
namespace L2
open PySem PySem.Spec PyProof.Rows
theorem seq_gen {t u : TS} {D : Ends} {σ : St} {H : Hp} (I : St → Hp → Prop) (h : ∀ N : St → Hp → Prop, (∀ σ' H', I σ' H' → N σ' H') → t { D with nx := N } σ H) (hu : ∀ σ' H', I σ' H' → u D σ' H') : tSeq t u D σ H := h _ hu
/-! ### comprehensions whose elements may lay things -/
theorem lc_gen {K : PySem.W.Frag} {js : List Nat} {te : TE} {σ : St} {H : Hp} {S : Addr → Hp → List V → Prop} {a : Addr} {xs : List V} (I : Nat → List V → Hp → Prop) (h0 : I 0 [] H) (hz : xs.length ≤ 100000) (hl : ∀ i acc H', I i acc H' → SqL K H' a xs)
    (he : ∀ i x acc H' R, xs[i]? = some x → I i acc H' → (∀ y H'', I (i + 1) (acc ++ [y]) H'' → R y H'') → te (some x :: js.map fun j => σ.getD j none) H' R) (q : ∀ acc H', I xs.length acc H' → ∀ D, H' D = none → S D H' acc) :
    ∃ W : Nat → Nat → List V → Hp → Prop, (∃ m, W 0 m [] H) ∧ ∀ i m acc H, W i m acc H → ((Itl K a).stop i H ∧ ∀ D, H D = none → S D H acc) ∨
      ((Itl K a).go i H ∧ acc.length < sizeLine ∧ ∀ x H', (Itl K a).yld i H x H' → te (some x :: js.map fun j => σ.getD j none) H' fun y H'' => ∃ m', m' < m ∧ W (i + 1) m' (acc ++ [y]) H'') := by
  refine ⟨fun i m acc H' => I i acc H' ∧ m = xs.length - i ∧ i ≤ xs.length ∧ acc.length = i, ⟨xs.length, h0, rfl, Nat.zero_le _, rfl⟩, ?_⟩
  rintro i m acc H' ⟨hI, rfl, hi, hacc⟩
  have hx := hl i acc H' hI
  by_cases hlt : i < xs.length
  · refine .inr ⟨⟨xs, xs[i], hx, by simp [hlt]⟩, ?_, fun x H'' y => ?_⟩
    · have : (100000 : Nat) < sizeLine := by decide
      omega
    · obtain ⟨e, y⟩ := y
      subst e
      have hxi := y xs hx
      exact he i x acc _ _ hxi hI fun y H'' hI' => ⟨xs.length - (i + 1), by omega, hI', rfl, hlt, by rw [List.length_append, hacc]; rfl⟩
  · have e : i = xs.length := by omega
    subst e
    exact .inl ⟨⟨xs, hx, Nat.le_refl _⟩, q acc H' hI⟩
section
variable {X : Cx}
/-! ### list.insert(0, y) -/
def rIns0 : V → List V → Hp → VK → Prop := fun x vs H Q => ∃ l xs y, x = .ref l ∧ vs = [.int 0, y] ∧ H l = some (.lst xs) ∧ xs.length < sizeLine ∧ Q .non (upd H l (.lst (y :: xs)))
/-! ### text.join(list of texts) -/
theorem vals_strs : ∀ {ys : List Str} {its : List Value}, Vals (ys.map V.str) its → StrsAre its ys
  | [], _, .nil => .nil
  | y :: ys, _, .cons ⟨t, e⟩ r => by subst e; exact .cons y t (vals_strs r)
def rJoin (K : PySem.W.Frag) : V → List V → Hp → VK → Prop := fun x vs H Q => ∃ z l ys, x = .str z ∧ vs = [.ref l] ∧ SqL K H l (ys.map V.str) ∧ (ys.map (·.length)).sum + ys.length * z.length ≤ 16777216 ∧ Q (.str (Str.join z ys)) H
theorem mt_join : MtM X "str.join" (rJoin X.K) := by
  intro pins s σ H x vs v us Q I rx rv h
  obtain ⟨z, l, ys, rfl, rfl, hq, hok, q⟩ := h
  obtain ⟨t, rfl⟩ := rx
  obtain ⟨u, rfl, ru⟩ := rv.one
  cases ru
  obtain ⟨its, r, pl, hz⟩ := I.list hq
  refine join_list pl.isList (vals_strs r) hok fun t' k => ?_
  refine ⟨.str _, H, I.tok _, ⟨t', ?_⟩, q⟩
  show Value.str (Builtin.Str.glued z ys) t' = _
  rw [StrLaws.glued_eq_join]
/-! ### max, min, sum of a list of ints -/
def rMax (K : PySem.W.Frag) : List V → Hp → VK → Prop := fun xs H Q => ∃ p ns, xs = [.ref p] ∧ SqL K H p (ns.map V.int) ∧ ns ≠ [] ∧ ∀ M, M ∈ ns → (∀ a ∈ ns, a ≤ M) → Q (.int M) H
def rMin (K : PySem.W.Frag) : List V → Hp → VK → Prop := fun xs H Q => ∃ p ns, xs = [.ref p] ∧ SqL K H p (ns.map V.int) ∧ ns ≠ [] ∧ ∀ M, M ∈ ns → (∀ a ∈ ns, M ≤ a) → Q (.int M) H
def rSum (K : PySem.W.Frag) : List V → Hp → VK → Prop := fun xs H Q => ∃ (p : Addr) (ns : List Int), xs = [.ref p] ∧ SqL K H p (ns.map V.int) ∧ Q (.int ns.sum) H
/-! ### list.count -/
def rCount (K : PySem.W.Frag) : V → List V → Hp → VK → Prop := fun x vs H Q => ∃ l xs y, x = .ref l ∧ vs = [y] ∧ SqL K H l xs ∧ flatV y = true ∧ xs.all flatV = true ∧ Q (.int (xs.countP (fun z => eqV z y) : Nat)) H
/-! ### text.strip(signs): nothing is left where all signs are of these -/
end
end L2

set_option Elab.async false
set_option linter.all false
set_option maxRecDepth 100000
namespace L2
open PySem PySem.Spec PyProof.Rows
section
variable {A : Around} {E : Value → Shared → Prop} {s : Shared} {K : PySem.W.Frag} {p C dx : Addr} {i : Int} {t : Tok} {prog : Program} {w : World}
end
section
variable {X : Cx}
/-- an int among objects of a plain class: not there -/
def rInObj (K : PySem.W.Frag) : R2 := fun x y H Q => ∃ (l : Addr) (i : Int) (ms : List Addr), x = .int i ∧ y = .ref l ∧ H l = some (.lst (ms.map V.ref)) ∧
  (∀ p ∈ ms, ∃ C dx fs, H p = some (.ins C dx fs) ∧ PySem.W.findIn K (.ref C) "__eq__" = some (some (.builtin "object.__eq__")) ∧ PySem.W.mroIn K C (.type "object") = some true ∧ PySem.W.mroIn K C (.type "int") = some false) ∧ Q (.bl false) H
/-! ### int(a text of a figure) -/
theorem call_int_str : CallR X (.type "int") (fun xs H Q => ∃ (z : Str) (n : Int), xs = [.str z] ∧ PySem.intText? z = some n ∧ z.length ≤ 640 ∧ Q (.int n) H) := by
  intro pins s σ H xs us Q I r h
  obtain ⟨z, n, rfl, hn, hl, q⟩ := h
  obtain ⟨u, rfl, t, rfl⟩ := vals1 r
  exact PySem.W.KIN.call_text hn hl ⟨.int n, H, I.tok _, ⟨_, rfl⟩, q⟩
end
end L2

set_option Elab.async false
set_option linter.all false
set_option maxRecDepth 100000
/-! ### exceptions of own classes: raised, passed on, caught -/
namespace L2
open PySem PySem.Spec PyProof.Rows
/-- the exception at e: its class, its context d, an entry in its trace whose mark is fl -/
def Tr (B : Heap) (e : Addr) (cls : Value) (d : Option Addr) (fl : Value) (h : Heap) : Prop :=
  ∃ (ob : Obj) (ws : Array Value) (T : Addr) (ot : Obj) (us : Array Value), h.get? e = some ob ∧ ob.cls = cls ∧ ob.dict = none ∧ ob.data = .fields ws ∧ ws[1]? = some (.ref T) ∧ ws[2]? = some (d.elim .none .ref) ∧ B.get? T = none ∧ T ≠ e ∧
    h.get? T = some ot ∧ ot.data = .fields us ∧ us[3]? = some fl
/-- it flies over the frames l; B is what stays -/
structure Fl (B : Heap) (l : List Env) (e : Addr) (cls : Value) (d : Option Addr) (fl : Value) (h : Heap) : Prop where
  st : B.StaysIn h
  no : B.get? e = none
  fr : h.FunFrames B l
  tr : Tr B e cls d fl h
theorem mapFields_dict (o : Obj) (f : Array Value → Array Value) : (o.mapFields f).dict = o.dict := by
  obtain ⟨c, d, dt, sl⟩ := o
  cases dt <;> rfl
section
variable {M : Model} {A : Around} {E : Value → Shared → Prop} {s : Shared} {B : Heap} {env : Env} {outer l : List Env} {L e : Addr} {cls fl : Value} {d : Option Addr} {Q : Unit → Shared → Prop}
theorem entry_go {ob : Obj} {ws : Array Value} {hd : Value} {more : Bool} (hA : A.frames = some (env :: outer)) (ff : s.heap.FunFrames B (env :: outer)) (hf : env.frame = some L) (he : s.heap.get? e = some ob) (sb : B.StaysIn s.heap) (no : B.get? e = none) (hdt : ob.data = .fields ws)
    (h1 : 1 < ws.size) (h2 : ws[2]? = some (d.elim .none .ref)) (hdi : ob.dict = none) (k : ∀ h', Fl B (env :: outer) e ob.cls d (rawInt L) h' → s.heap.UpToSlots h' → Q () { s with heap := h' }) :
    wpAny M A (do setField (.ref e) 1 (← EntryCells.newEntry hd (← frameOf env) .none (rawInt L) .none (← entryPlaceOf L more))) Q E s := by
  have ne' : e ∉ (env :: outer).filterMap (·.frame) := fun z => by
    obtain ⟨_, o, q, nf⟩ := ff.mem z
    rw [he] at q
    cases q
    exact nf ws hdt
  refine wpAny_bind (wpAny_frameOf_fun hA ff hf fun g1 so => wpAny_bind (wpAny_entryPlaceOf fun pl hpl => ?_))
  unfold EntryCells.newEntry newFields
  refine wpAny_bind (wpAny_newObj_type ?_ (hpl.sizeOk5 _ _ _ _ _))
  have q1 : g1.get? e = some ob := (so.2.1 e ne').trans he
  have s1 : B.StaysIn g1 := fun b o q => (so.2.1 b fun z => by rw [(ff.mem z).1] at q; cases q).trans (sb b o q)
  have nT : B.get? g1.objs.size = none := s1.fresh
  have Te : g1.objs.size ≠ e := Nat.ne_of_gt (Heap.lt_size q1)
  refine wpAny_setField (Heap.get?_push_of_some _ q1) hdt h1 (k _ ?_ ?_)
  · have kp : ∀ b o, b ≠ e → g1.get? b = some o → ∀ nw, ((g1.push nw).update e (Obj.mapFields (·.setIfInBounds 1 (Value.ref g1.objs.size)))).get? b = some o := fun b o nb q nw => by
      rw [Heap.get?_update_other _ _ (Ne.symm nb)]
      exact Heap.get?_push_of_some _ q
    refine ⟨fun b o q => kp b o (fun z => by rw [z, no] at q; cases q) (s1 b o q) _, no, ff.of_keeps fun b o q nf => ?_, ?_⟩
    · obtain ⟨sl, z⟩ := so.2.2 b o q
      refine ⟨_, kp b _ (fun y => ?_) z _, rfl⟩
      rw [y, he] at q
      cases q
      exact nf ws hdt
    · have dd := Obj.data_mapFields hdt (·.setIfInBounds 1 (Value.ref g1.objs.size))
      refine ⟨_, _, g1.objs.size, _, _, Heap.get?_update_self _ (Heap.get?_push_of_some _ q1) (Obj.isFreed_of_fields dd), Obj.cls_mapFields _ _, by rw [mapFields_dict]; exact hdi, dd, by simp [h1], by rw [Array.getElem?_setIfInBounds_ne (by decide)]; exact h2, nT, Te,
        (Heap.get?_update_other _ _ (Ne.symm Te)).trans (Heap.get?_push_size g1 rfl), rfl, ?_⟩
      first
        | (simp; done)
        | (rcases hpl with rfl | ⟨_, _, _, _, _, _, _, rfl⟩ <;> simp)
  · intro b o q nf
    obtain ⟨sl, z⟩ := so.2.2 b o q
    refine ⟨sl, ?_⟩
    rw [Heap.get?_update_other _ _ fun y => ?_]
    · exact Heap.get?_push_of_some _ z
    · rw [← y, he] at q
      cases q
      exact nf ws hdt
/-- the frame is noted -/
theorem note_go (hA : A.frames = some (env :: outer)) (hf : env.frame = some L) (F : Fl B (env :: outer) e cls d fl s.heap) (k : ∀ h', Fl B (env :: outer) e cls d (rawInt L) h' → s.heap.UpToSlots h' → Q () { s with heap := h' }) :
    wpAny M A (noteFrame (.ref e) env) Q E s := by
  obtain ⟨ob, ws, T, ot, us, he, rfl, hdi, hdt, h1, h2, nT, Te, hT, dT, h3⟩ := F.tr
  unfold noteFrame
  simp only [hf]
  refine wpAny_bind (wpAny_field he hdt h1 ?_)
  rw [if_pos (by simp : (Value.ref T != Value.none) = true)]
  refine wpAny_bind (wpAny_field hT dT h3 ?_)
  by_cases hm : (fl == rawInt L) = true
  · rw [if_pos hm]
    have e' : fl = rawInt L := eq_of_beq hm
    exact wpAny_pure (k s.heap ⟨F.st, F.no, F.fr, ob, ws, T, ot, us, he, rfl, hdi, hdt, h1, h2, nT, Te, hT, dT, by rw [← e']; exact h3⟩ (Heap.UpToSlots.refl _))
  · rw [if_neg hm]
    refine wpAny_bind (wpAny_setField hT dT (Array.getElem?_eq_some_iff.mp h3).1 ?_)
    have ot' : ∀ b, b ≠ T → (s.heap.update T (Obj.mapFields (·.setIfInBounds 3 Value.none))).get? b = s.heap.get? b := fun b nb => Heap.get?_update_other _ _ (Ne.symm nb)
    have nr : ∀ b o, s.heap.get? b = some o → (∀ vs, o.data ≠ .fields vs) → b ≠ T := fun b o q nf z => by
      rw [z, hT] at q
      cases q
      exact nf us dT
    refine entry_go hA (F.fr.of_keeps fun b o q nf => ⟨o, (ot' b (nr b o q nf)).trans q, rfl⟩) hf ((ot' e (Ne.symm Te)).trans he) (fun b o q => (ot' b fun z => by rw [z, nT] at q; cases q).trans (F.st b o q)) F.no hdt (Array.getElem?_eq_some_iff.mp h1).1 h2 hdi
      fun h' F' up => k h' F' fun b o q nf => up b o ((ot' b (nr b o q nf)).trans q) nf
theorem land_go {fr : Option Addr} (F : Fl B l e cls d fl s.heap) (k : ∀ h', Fl B l e cls d (fr.elim .none fun f => rawInt f) h' → s.heap.UpToSlots h' → Q () { s with heap := h' }) : wpAny M A (setFlight (.ref e) fr) Q E s := by
  obtain ⟨ob, ws, T, ot, us, he, hc, hdi, hdt, h1, h2, nT, Te, hT, dT, h3⟩ := F.tr
  have sz : 3 < us.size := (Array.getElem?_eq_some_iff.mp h3).1
  unfold setFlight
  refine wpAny_bind (wpAny_field he hdt h1 ?_)
  rw [if_pos (by simp : (Value.ref T != Value.none) = true)]
  have ot' : ∀ b, b ≠ T → (s.heap.update T (Obj.mapFields (·.setIfInBounds 3 (fr.elim .none fun f => rawInt f)))).get? b = s.heap.get? b := fun b nb => Heap.get?_update_other _ _ (Ne.symm nb)
  have nr : ∀ b o, s.heap.get? b = some o → (∀ vs, o.data ≠ .fields vs) → b ≠ T := fun b o q nf z => by
    rw [z, hT] at q
    cases q
    exact nf us dT
  refine wpAny_setField hT dT sz (k _ ⟨fun b o q => (ot' b fun z => by rw [z, nT] at q; cases q).trans (F.st b o q), F.no, F.fr.of_keeps fun b o q nf => ⟨o, (ot' b (nr b o q nf)).trans q, rfl⟩, ?_⟩ fun b o q nf => ⟨o.slots, (ot' b (nr b o q nf)).trans q⟩)
  exact ⟨ob, ws, T, _, _, (ot' e (Ne.symm Te)).trans he, hc, hdi, hdt, h1, h2, nT, Te, Heap.get?_update_self _ hT (Obj.isFreed_of_fields (Obj.data_mapFields dT _)), Obj.data_mapFields dT _, by simp [sz]⟩
theorem Fl.tail (F : Fl B (env :: outer) e cls d fl s.heap) : Fl B outer e cls d fl s.heap := ⟨F.st, F.no, by obtain ⟨_, _, r⟩ := F.fr; exact r, F.tr⟩
theorem leave_go (hA : A.frames = some (env :: outer)) (hf : env.frame = some L) (F : Fl B (env :: outer) e cls d fl s.heap) (k : ∀ h', Fl B outer e cls d .none h' → s.heap.UpToSlots h' → Q () { s with heap := h' }) :
    wpAny M A (leaving env (.ref e)) Q E s := by
  unfold leaving
  refine wpAny_bind (note_go hA hf F fun g F' up => ?_)
  refine land_go (s := { s with heap := g }) F' fun h' F'' up' => k h' (Fl.tail (s := { s with heap := h' }) F'') (up.trans up')
/-- a new exception leaves the frame it was raised in -/
theorem made_go {h : Heap} {ob : Obj} {ws : Array Value} (hA : A.frames = some (env :: outer)) (hf : env.frame = some L) (sb : B.StaysIn s.heap) (ff : s.heap.FunFrames B (env :: outer)) (no : B.get? e = none) (he : s.heap.get? e = some ob) (hc : ob.cls = cls) (hdi : ob.dict = none)
    (hdt : ob.data = .fields ws) (h1 : ws[1]? = some .none) (h2 : ws[2]? = some (d.elim .none .ref)) (k : ∀ h', Fl B outer e cls d .none h' → s.heap.UpToSlots h' → Q () { s with heap := h' }) : wpAny M A (leaving env (.ref e)) Q E s := by
  subst hc
  unfold leaving noteFrame
  simp only [hf]
  refine wpAny_bind (wpAny_bind (wpAny_field he hdt h1 ?_))
  rw [if_neg (by decide)]
  refine entry_go hA ff hf he sb no hdt (Array.getElem?_eq_some_iff.mp h1).1 h2 hdi fun g F up => ?_
  exact land_go (s := { s with heap := g }) F fun h' F'' up' => k h' (Fl.tail (s := { s with heap := h' }) F'') (up.trans up')
end
/-- how an exception lies behind a call: it flies over the callers' frames, and what was known of the heap is held -/
def CXe (P : Program) (w : World) : CXT := fun outer H s E e s' => ∃ (x : Addr) (cls : Value) (d : Option Addr) (B : Heap) (H' : Hp), e = .ref x ∧ s'.os = s.os ∧ AllBare s'.gens ∧ Un (frs outer) [] H H' s.heap s'.heap ∧ HOk P w H' s'.heap ∧
  Fl B outer x cls d .none s'.heap ∧ (∀ b o, s'.heap.get? b = some o → b ∉ frs outer → ((∃ o₀, s.heap.get? b = some o₀) ∨ H' b ≠ none) → B.get? b = some o) ∧ H' x = none ∧ E cls d H'
theorem ObjOk.there {P : Program} {w : World} {H : Hp} {h : Heap} {a : Addr} {o : HO} (x : ObjOk P w H h a o) : ∃ u, h.get? a = some u := by
  cases o with
  | lst xs => obtain ⟨_, _, _, _, e⟩ := x; exact ⟨_, e⟩
  | tup xs => obtain ⟨_, _, _, ob, e, _⟩ := x; exact ⟨_, e⟩
  | dK kvs => obtain ⟨_, _, _, _, o, _, _, e, _⟩ := x; exact ⟨_, e⟩
  | set S n => obtain ⟨o, _, _, _, e, _⟩ := x; exact ⟨_, e⟩
  | ins C dx fs => obtain ⟨_, _, _, e, _⟩ := x; exact ⟨_, e⟩
  | own y => obtain ⟨_, e⟩ := x; exact ⟨_, e⟩
  | xd fs => obtain ⟨_, ⟨_, _, _, e, _⟩, _⟩ := x; exact ⟨_, e⟩
  | rng lo hi => obtain ⟨_, _, _, e⟩ := x; exact ⟨_, e⟩
  | frz ob u => obtain ⟨e, _⟩ := x; exact ⟨_, e⟩
  | tbl ps => exact False.elim x
  | met f y => exact ⟨_, (show h.get? a = some _ from x)⟩
  | ext φ => obtain ⟨_, ⟨_, e⟩, _⟩ := x; exact ⟨_, e⟩
section
variable {X : Cx} {pins : List (Addr × Obj)} {σ : St} {H : Hp} {s : Shared} {h' : Heap}
theorem Cx.Ok.inStack (ok : X.Ok) {b : Addr} (hb : b ∈ frs X.stack) : b ∈ X.fs ∨ b = X.env.locals := by
  rcases ok.stk with e | ⟨e, f⟩
  · rw [e] at hb; exact .inl hb
  · rw [e] at hb
    unfold frs at hb
    rw [List.filterMap_cons, f] at hb
    rcases List.mem_cons.mp hb with z | z
    · exact .inr z
    · exact .inl z
/-- the frames' slots and what nobody knows may change -/
theorem slots_step (I : Inv X pins σ H s) (hex : X.ex = []) (up : s.heap.UpToSlots h') (kb : ∀ b o, s.heap.get? b = some o → b ∉ frs X.stack → ((∃ o₀, X.s₀.heap.get? b = some o₀) ∨ H b ≠ none) → h'.get? b = some o) :
    Un X.fs X.ex X.H₀ H X.s₀.heap h' ∧ HOk X.prog X.w H h' := by
  have nst : ∀ b o, X.s₀.heap.get? b = some o → b ∉ X.fs → b ∉ frs X.stack := fun b o q nb hb => by
    rcases I.ok.inStack hb with z | z
    · exact nb z
    · have h1 := Heap.lt_size q
      have h2 := I.ok.above
      rw [z] at h1
      exact absurd (Nat.lt_of_lt_of_le h1 h2) (Nat.lt_irrefl _)
  have fr : ∀ b, b ∈ X.fs → ∃ o, X.s₀.heap.get? b = some o ∧ ∀ vs, o.data ≠ .fields vs := fun b hb => (I.ok.funs.mem hb).2
  refine ⟨⟨fun b o q n nf nx => kb b o (I.base.keep b o q n nf nx) (nst b o q nf) (.inl ⟨_, q⟩), fun b o q n hf nx => ?_, I.base.free, fun b o q nx => ?_, I.base.tups, I.base.frzs, I.base.tbls⟩, fun a o e => ?_⟩
  · obtain ⟨sl, e1⟩ := I.base.slot b o q n hf nx
    obtain ⟨o', q', nf⟩ := fr b hf
    rw [q] at q'
    cases q'
    obtain ⟨sl2, e2⟩ := up b _ e1 nf
    exact ⟨sl2, e2⟩
  · by_cases hf : b ∈ X.fs
    · obtain ⟨sl, e1⟩ := I.base.slot b o q (I.ok.frf b hf) hf nx
      obtain ⟨o', q', nf⟩ := fr b hf
      rw [q] at q'
      cases q'
      obtain ⟨sl2, e2⟩ := up b _ e1 nf
      exact ⟨_, e2⟩
    · obtain ⟨o', e1⟩ := I.base.there b o q nx
      exact ⟨o', kb b o' e1 (nst b o q hf) (.inl ⟨_, q⟩)⟩
  · refine (I.hok a o e).stay (fun b u hb q => kb b u q (fun hm => ?_) (.inr ?_)) (fun _ z => z) fun _ _ z => z
    · have hn := I.stkFree b hm
      rcases hb with z | z
      · rw [z, e] at hn; cases hn
      · rw [z] at hn; cases hn
    · rcases hb with z | z
      · rw [z, e]; exact fun z => by cases z
      · rw [z]; exact fun z => by cases z
/-- a body whose exceptions leave the frame and lie as CXe says -/
structure Leaves (X : Cx) (E : XK) : Prop where
  xe : X.xe = fun e s' => wpAny (model X.prog X.w) X.A (leaving X.env e) (fun _ s'' => CXe X.prog X.w X.outer X.H₀ X.s₀ E e s'') (fun e' s'' => CXe X.prog X.w X.outer X.H₀ X.s₀ E e' s'') s'
  st : X.stack = X.env :: X.outer
  fr : X.env.frame = some X.env.locals
  ex : X.ex = []
/-- of the heap behind the flight: what B holds -/
def InB (X : Cx) (B : Heap) (H : Hp) (h : Heap) : Prop := ∀ b o, h.get? b = some o → b ∉ frs X.stack → ((∃ o₀, X.s₀.heap.get? b = some o₀) ∨ H b ≠ none) → B.get? b = some o
theorem Inv.old (I : Inv X pins σ H s) (hex : X.ex = []) {b : Addr} (c : (∃ o₀, X.s₀.heap.get? b = some o₀) ∨ H b ≠ none) : ∃ o, s.heap.get? b = some o := by
  rcases c with ⟨o₀, q₀⟩ | c
  · exact I.base.there b o₀ q₀ (by rw [hex]; simp)
  · cases e : H b with
    | none => exact absurd e c
    | some u => exact (I.hok b u e).there
theorem Inv.nst (I : Inv X pins σ H s) {b : Addr} (nb : b ∉ X.fs) (c : (∃ o₀, X.s₀.heap.get? b = some o₀) ∨ H b ≠ none) : b ∉ frs X.stack := fun hm => by
  rcases I.ok.inStack hm with z | z
  · exact nb z
  · rcases c with ⟨o₀, q₀⟩ | c
    · have h1 := Heap.lt_size q₀
      rw [z] at h1
      exact absurd (Nat.lt_of_lt_of_le h1 I.ok.above) (Nat.lt_irrefl _)
    · rw [z] at c
      exact c I.free
/-- the end of a flight out of a body -/
theorem leave_end {E : XK} {x : Addr} {cls : Value} {d : Option Addr} {B : Heap} (hex : X.ex = []) (I : Inv X pins σ H s) (inB : InB X B H s.heap) (nx : H x = none) (hE : E cls d H) (fl : Fl B X.outer x cls d .none h') (up : s.heap.UpToSlots h') :
    CXe X.prog X.w X.outer X.H₀ X.s₀ E (.ref x) { s with heap := h' } := by
  obtain ⟨un', hok'⟩ := slots_step I hex up (fun b o q nb c => fl.st b o (inB b o q nb c))
  rw [hex] at un'
  refine ⟨x, cls, d, B, H, rfl, I.os, I.bare, un', hok', fl, fun b o q nb c => ?_, nx, hE⟩
  obtain ⟨o', q'⟩ := I.old hex c
  have hB := inB b o' q' (I.nst nb c) c
  have := fl.st b o' hB
  have q2 : h'.get? b = some o := q
  rw [q2] at this
  cases this
  exact hB
theorem leave_on {E : XK} {x : Addr} {cls fl : Value} {d : Option Addr} {B : Heap} (L : Leaves X E) (I : Inv X pins σ H s) (F : Fl B X.stack x cls d fl s.heap) (inB : InB X B H s.heap) (nx : H x = none) (hE : E cls d H) : X.xe (.ref x) s := by
  rw [L.xe]
  rw [L.st] at F
  have hfr := I.ok.frames
  rw [L.st] at hfr
  exact leave_go hfr L.fr F fun h' F' up => leave_end L.ex I inB nx hE F' up
theorem Leaves.pass {E E' : XK} (L : Leaves X E') (mono : ∀ c d H, E c d H → E' c d H) : Passes (CXe X.prog X.w) X E := by
  intro pins σ H s e s' I h
  obtain ⟨x, cls, d, B, H', rfl, os, bare, un, hok, fl, inB, nx, hE⟩ := h
  have I' : Inv X pins σ H' s' := I.call' (ch := []) os un hok bare (fun b hb => by simp at hb)
  refine leave_on L I' fl (fun b o q nb c => inB b o q nb ?_) nx (mono _ _ _ hE)
  rcases c with ⟨o₀, q₀⟩ | c
  · obtain ⟨o1, q1⟩ := I.base.there b o₀ q₀ (by rw [L.ex]; simp)
    exact .inl ⟨o1, q1⟩
  · exact .inr c
/-- the class's facts -/
def bmV : List Value := [.type "ValueError", .type "Exception", .type "BaseException", .type "object"]
theorem exc_obj {K : PySem.W.Frag} {h : Heap} {C : Addr} {bmB : List Value} {newId : String} (X : K.In h) (q : PySem.W.excIn K C bmB newId = true) :
    ∃ bm N nm qn bs hdct sn sub ab col dd k0 k1 k2 k3 k5 mN, h.get? C = some (excClassObj nm qn C N bs bm hdct sn sub ab col dd k0 k1 k2 k3 k5 newId) ∧ h.Ns N mN ∧ mN "__init__" = none ∧ OwnTail h bmB bm := by
  unfold PySem.W.excIn at q
  cases hl : K.lookup C with
  | none => rw [hl] at q; simp at q
  | some ob =>
    rw [hl] at q
    obtain ⟨oc, od, oda, osl⟩ := ob
    split at q
    · rename_i dd cd sl he
      cases he
      split at q
      · rename_i C' bm k0 k1 k2 k3 n k5 hm hs
        simp only [Bool.and_eq_true, beq_iff_eq, Bool.not_eq_true'] at q
        obtain ⟨⟨⟨⟨⟨e1, e2⟩, hdel⟩, ht⟩, hok⟩, hni⟩ := q
        subst e1 e2
        obtain ⟨nm, bs, mro, ns, qn, hd, sn, sub, ab, col, del⟩ := cd
        simp only at hm hdel hok hni
        subst hm hdel
        obtain ⟨l⟩ := osl
        simp only at hs
        subst hs
        exact ⟨bm, ns, nm, qn, bs, hd, sn, sub, ab, col, od, k0, k1, k2, k3, k5, _, X _ _ hl, .of_isNs (PySem.W.isNs_of_in X hok), PySem.W.nsMap_none_of_in X hok hni, PySem.W.tail_of_in X ht⟩
      · cases q
    · cases q
theorem leave_made {E : XK} {e : Addr} {cls : Value} {ob : Obj} {ws : Array Value} {d : Option Addr} (L : Leaves X E) (I : Inv X pins σ H s) (kp : ∀ b o, s.heap.get? b = some o → h'.get? b = some o) (new : s.heap.get? e = none) (he : h'.get? e = some ob) (hc : ob.cls = cls) (hdi : ob.dict = none)
    (hdt : ob.data = .fields ws) (h1 : ws[1]? = some .none) (h2 : ws[2]? = some (d.elim .none .ref)) (hE : E cls d H) : X.xe (.ref e) { s with heap := h' } := by
  rw [L.xe]
  have hfr := I.ok.frames
  rw [L.st] at hfr
  have hstk := I.stack
  rw [L.st] at hstk
  have I' : Inv X pins σ H { s with heap := h', toks := s.toks } := I.kept kp
  have hid : s.heap.FunFrames (PySem.W.hideAll s.heap (frs (X.env :: X.outer))) (X.env :: X.outer) := PySem.W.funFrames_hide hstk fun env he b hb => List.mem_filterMap.mpr ⟨env, he, hb⟩
  have inHide : InB X (PySem.W.hideAll s.heap (frs (X.env :: X.outer))) H h' := fun b o q nb c => by
    obtain ⟨o1, q1⟩ := I.old L.ex c
    have := kp b o1 q1
    rw [q] at this
    cases this
    rw [L.st] at nb
    exact PySem.W.hideAll_get _ q1 nb
  have nx : H e = none := by
    cases z : H e with
    | none => rfl
    | some u =>
      obtain ⟨o, q⟩ := (I.hok e u z).there
      rw [new] at q
      cases q
  refine made_go (h := s.heap) (s := { s with heap := h' }) hfr L.fr (fun b o q => kp b o (PySem.W.of_hideAll _ q)) (hid.of_keeps fun b o q _ => ⟨o, kp b o q, rfl⟩) ?_ he hc hdi hdt h1 h2 fun g F up => leave_end (s := { s with heap := h', toks := s.toks }) L.ex I' inHide nx hE F up
  cases z : (PySem.W.hideAll s.heap (frs (X.env :: X.outer))).get? e with
  | none => rfl
  | some o =>
    have := PySem.W.of_hideAll _ z
    rw [new] at this
    cases this
/-! ### raise C(..) -/
def tRaise (ta : TA) (C : Addr) (E : XK) : TS := fun _ σ H => ta σ H fun vs H1 => vs.length ≤ sizeLine ∧ E (.ref C) none H1
theorem ps_raise {E : XK} {x : Str} {C : Addr} {e : Expr} {es : List Expr} {ta : TA} {np cpos pos : Pos} (L : Leaves X E) (hc : X.calm = true) (hg : Gl X x) (hm : X.mg x = some (.ref C)) (hx : PySem.W.excIn X.K C bmV "ValueError.__new__" = true)
    (ha : PA X (e :: es) ta) (hdb : (x == ("__debug__" : Str)) = false := by decide) (he : starEach (e :: es) X.env = (false, eval e X.env) :: starEach es X.env := by rfl) (hpl : (backTo cpos (starEach es X.env)).any (·.1) = false := by rfl) :
    PS X (.Raise (some (.Call (.Name x np) (e :: es) [] cpos)) none pos) (tRaise ta C E) := by
  intro pins s σ H D I h
  obtain ⟨bm, N, nm, qn, bs, hdct, sn, sub, ab, col, dd, k0, k1, k2, k3, k5, mN, hC, hN, hni, T⟩ := exc_obj I.ok.mod.kin hx
  refine wpAny_Raise_call_subT (nm := nm) (q := qn) (N := N) (bs := bs) (bm := bm) (hdct := hdct) (sn := sn) (sub := sub) (ab := ab) (col := col) (dd := dd) (k0 := k0) (k1 := k1) (k2 := k2) (k3 := k3) (k5 := k5) (mN := mN) F.excBase_ValueError (T.hasType F.excBase_ValueError.hasBase) (I.ok.hd hc) (by rw [he]; exact hpl) hni (ld_glob I hg hm ⟨rfl, ?_⟩ hdb)
  have key := ha cpos pins s σ H _ I h
  rw [he] at key ⊢
  refine Calls.evalArgs_plain (thn key fun us s1 z => ?_)
  obtain ⟨vs, H1, I1, r, len, hE⟩ := z
  refine ⟨rfl, ?_, I1.bk _ _ hC, hN.keeps I1.bk, T.keeps I1.bk, fun h' e' hmade => ?_⟩
  · rw [← r.length]
    exact len
  · obtain ⟨t0, q0, _, _⟩ := hmade.there
    exact leave_made L I1 hmade.keeps hmade.new q0 rfl rfl rfl rfl rfl hE
end
section
open PySem.W
variable {K : Frag} {prog : Program} {w : World} {A : Around} {E : Value → Shared → Prop} {s : Shared} {x D : Addr} {ox : Obj}
/-- what the fragment must tell of an own exception class, for isinstance -/
structure ExcCl (K : Frag) (D : Addr) : Prop where
  ex : excIn K D bmV "ValueError.__new__" = true
  cls : (clsIn K D).isSome = true
  ga : findIn K (.ref D) "__getattribute__" = some (some (.builtin "BaseException.__getattribute__"))
  gt : findIn K (.ref D) "__getattr__" = some none
  fo : findObj K D none "__class__" = some (.bind (.builtin "getset_descriptor.__get__") (.builtin "object.__class__"))
  mB : mroIn K D (.type "BaseException") = some true
  mo : mroIn K D (.type "object") = some true
  ty : typeIn K (.ref D) = some (.type "type")
theorem exc_class {Q : Option Value → Shared → Prop} (C : ExcCl K D) (X : K.In s.heap) (I : InstAt s.heap x ox D none) (h : Q (some (.ref D)) { s with toks := s.toks + 1 }) : wpAny (model prog w) A (getAttr? (.ref x) "__class__") Q E s := by
  obtain ⟨hh, g, d, t, os⟩ := s
  have L0 := I.type (M := model prog w)
  have L1 := looks_findIn (M := model prog w) X C.ga
  have L2 := looks_findIn (M := model prog w) X C.gt
  have L3 := looks_find (M := model prog w) X I C.fo
  have LB := looks_mroIn (M := model prog w) X C.mB
  have f3 := F.attr_ValueError.ga.bind (.ref x)
  unfold getAttr? getAttrBy? getAttrBy
  refine wpAny_bind (wpAny_mkText (wpAny_bind (wpAny_attempt (wpAny_holding (wpAny_bind (L0.at (wpAny_bind (L1.at ?_))))))))
  show wpAny _ _ (getAttrByItsOwn _ _ _ _ _ _) _ _ _
  unfold getAttrByItsOwn hookBefore
  have cB : ∀ {Q : Unit → Shared → Prop} {E : Value → Shared → Prop} {A : Around} {n : Value} {k : Nat}, Q () ⟨hh, g, d, k, os⟩ → wpAny (model prog w) A (checkBuiltinCall "BaseException.__getattribute__" ⟨[.ref x, n], []⟩) Q E ⟨hh, g, d, k, os⟩ := by
    intro Q E A n k hq
    have ha := F.args_bexc_ga (.ref x) n
    simp only [checkBuiltinCall, show builtinKind "BaseException.__getattribute__" = some .slot by decide +kernel, show splitId "BaseException.__getattribute__" = some ("BaseException", "__getattribute__") by decide +kernel]
    unfold isInstance
    repeat (first | with_reducible exact hq | lk | wp_step)
  have go : ∀ {R : Result → Shared → Prop} {A : Around} {tk : Tok} {k : Nat}, R (.ok (.ret (.ref D))) ⟨hh, g, d, k, os⟩ → codeAny (model prog w) A (.call (.builtin "BaseException.__getattribute__") ⟨[.ref x, .str "__class__" tk], []⟩) R ⟨hh, g, d, k, os⟩ := by
    intro R A tk k hq
    refine codeAny_call_builtin F.attr_ValueError.ga.plain F.entry_bexc_ga (cB ?_)
    unfold Builtin.«object.__getattribute__»
    repeat (first | with_reducible refine wpAny_call ?_ | lk)
    refine class_get (s := ⟨hh, g, d, k, os⟩) (ox := ox) (od := none) X I C.mo ?_
    repeat lk
    exact hq
  unfold callGetattribute boundAndCalled
  simp only [Bool.false_and, Bool.false_eq_true, if_false, f3]
  repeat (first | with_reducible refine wpAny_call ?_ | with_reducible refine wpAny_attempt ?_ | lk)
  refine go ?_
  repeat lk
  exact h
theorem kitx_exc (C : ExcCl K D) : KitX K (.ref x) (.ref D) (fun h => ∃ ox : Obj, InstAt h x ox D none) where
  ty := fun _ _ _ ⟨_, I⟩ => I.type
  it := fun _ _ X _ => by
    obtain ⟨cd, hc⟩ := Option.isSome_iff_exists.mp C.cls
    unfold clsIn at hc
    split at hc
    · rename_i ho
      intro A' Q' E' s' k q
      unfold isType loadHead
      exact wpAny_bind (wpAny_loadPart (k _ _ (X _ _ ho)) (wpAny_pure q))
    · cases hc
  ne := fun h tp dd its n sl X htp => by
    obtain ⟨cd, hc⟩ := Option.isSome_iff_exists.mp C.cls
    refine Bool.eq_false_iff.mpr fun q => ?_
    have e : D = tp := Value.ref.inj (beq_iff_eq.mp q)
    subst e
    unfold clsIn at hc
    split at hc
    · rename_i ho
      have z := (X _ _ ho).symm.trans htp
      cases z
    · cases hc
  ca := fun X ⟨_, I⟩ k => exc_class C X I k
theorem exc_matches {C : Addr} {b : Bool} {Q : Bool → Shared → Prop} (kin : K.In s.heap) (he : s.heap.get? x = some ox) (hcls : ox.cls = .ref D) (hB : mroIn K C (.type "BaseException") = some true) (ht : typeIn K (.ref C) = some (.type "type")) (hc : (clsIn K C).isSome = true) (hs : mroIn K D (.ref C) = some b)
    (hq : Q b s) : wpAny (model prog w) A (excMatches (.ref x) (.ref C)) Q E s := by
  obtain ⟨hh, g, d, t, os⟩ := s
  have L0 := looks_typeIn (M := model prog w) kin ht
  have L1 := looks_mroIn (M := model prog w) kin hB
  have L2 := looks_mroIn (M := model prog w) kin hs
  have L3 : Looks (model prog w) hh (typeOf (.ref x)) (.ref D) := (Looks.ld he).andThen (by rw [hcls]; exact .now)
  have LI : Looks (model prog w) hh (isInstance (.ref C) (.type "tuple")) false := L0.andThen (Looks.of_pure tc_notTuple)
  have LT : Looks (model prog w) hh (isType (.ref C)) true := by
    obtain ⟨cd, hc⟩ := Option.isSome_iff_exists.mp hc
    unfold clsIn at hc
    split at hc
    · rename_i ho
      intro A' Q' E' s' k q
      unfold isType loadHead
      exact wpAny_bind (wpAny_loadPart (k _ _ (kin _ _ ho)) (wpAny_pure q))
    · cases hc
  have LE : Looks (model prog w) hh (isExcClass (.ref C)) true := LT.andThen L1
  unfold excMatches
  repeat lk
  cases b <;> (repeat lk) <;> exact hq
end
end L2

set_option Elab.async false
set_option linter.all false
set_option maxRecDepth 100000
/-! ### defs that may raise; try .. except .. as -/
namespace L2
open PySem PySem.Spec PyProof.Rows
section
variable {P : Program} {w : World} {K : PySem.W.Frag} {mg : Str → Option Value} {base : Heap}
theorem leaves_of {N : List Str} {qual : Str} {sc : Scope} {f : Addr} {cdv : Value} {A : Around} {outer : List Env} {s : Shared} {H : Hp} {E : XK} : Leaves (cxOf (CXe P w) P w K mg base N qual sc f cdv A outer s H E) E := ⟨rfl, rfl, rfl, rfl⟩
/-- a def by its body, which may raise -/
theorem Fun.okX {x qual : Str} {st : Stmt} {f : Addr} {fd : FuncData} {N ps : List Str} {k : Nat} {sp : Sp} (F : Fun K x qual st f fd) (S : FnScope N ps (defScope st)) (len : ∀ vs H Q E, sp vs H Q E → vs.length = ps.length)
    (hbody : ∀ (cdv : Value) (A : Around) (outer : List Env) (s : Shared) (H : Hp) (vs : List V) (Q : VK) (E : XK), Room k (A.deeper (envOfC qual (defScope st) s.heap.objs.size f cdv)) → sp vs H Q E →
      Leaves (cxOf (CXe P w) P w K mg base N qual (defScope st) f cdv A outer s H E) E →
      ∃ t, PSs (cxOf (CXe P w) P w K mg base N qual (defScope st) f cdv A outer s H E) (defBody st) t ∧
        t { nx := fun _ H' => ∃ H'', (Cl H → Cl H' → Gc H H' H'') ∧ Q .non H'', rt := fun v H' => ∃ H'', (Cl H → Cl H' → Gc H H' H'') ∧ Q v H'' } (start N vs) H) : FnOk P w K mg base (CXe P w) (k + 1) f fd ps sp := by
  have G : FnOk P w K mg base (CXe P w) (k + 1) f fd ps (fun vs H Q' E => ∃ Q, sp vs H Q E ∧ Q' = fun v H' => ∃ H'', (Cl H → Cl H' → Gc H H' H'') ∧ Q v H'') := by
    obtain ⟨oc, od, kV, doc, pm, an, cdv, ct, osl, rfl, lk, hcd⟩ := F.ex
    refine fn_of lk hcd S (fun vs H Q E ⟨Q0, h, _⟩ => len vs H Q0 E h) fun A outer s H vs Q' E hr ⟨Q0, h, e⟩ => ?_
    subst e
    exact hbody cdv A outer s H vs Q0 E hr h leaves_of
  exact G.gc len fun vs H Q E h => ⟨Q, h, rfl⟩
end
section
variable (P : Program) (w : World) (K : PySem.W.Frag) (mg : Str → Option Value) (base : Heap)
structure FnX (k : Nat) (x : Str) (sp : Sp) : Prop where
  ex : ∃ (f : Addr) (fd : FuncData) (ps : List Str), FnOk P w K mg base (CXe P w) k f fd ps sp ∧ mg x = some (.ref f) ∧ PySem.W.keepIn K (.ref f) = true ∧ Binds K fd ps []
structure MkX (k : Nat) (x : Str) (C : Addr) (sp : Sp) : Prop where
  ex : ∃ (f : Addr) (fd : FuncData) (ps : List Str), Mk K C f ∧ FnOk P w K mg base (CXe P w) k f fd ps sp ∧ Binds K fd ps [] ∧ mg x = some (.ref C)
end
section
variable {X : Cx} {k j : Nat} {x m : Str} {sp : Sp} {C : Addr} {p pos apos : Pos} {e o : Expr} {es : List Expr} {ta : TE} {t : TA} {E : XK}
theorem pe_fnx (hx : Passes (CXe X.prog X.w) X E) (F : FnX X.prog X.w X.K X.mg X.base k x sp) (hr : Room j X.A) (hg : Gl X x) (ha : PA X (e :: es) t) (hk : k ≤ j := by decide) (hdb : (x == ("__debug__" : Str)) = false := by decide)
    (he : starEach (e :: es) X.env = (false, eval e X.env) :: starEach es X.env := by rfl) (hpl : (backTo pos (starEach es X.env)).any (·.1) = false := by rfl) : PE X (.Call (.Name x p) (e :: es) [] pos) (tCall sp [] E t) := by
  obtain ⟨f, fd, ps, G, hm, kp, b⟩ := F.ex
  exact pe_call G (hr.mono hk) hg hm kp b .nil hx ha hdb he hpl
theorem pe_mkx (hx : Passes (CXe X.prog X.w) X E) (F : MkX X.prog X.w X.K X.mg X.base k x C sp) (hr : Room j X.A) (hg : Gl X x) (ha : PA X (e :: es) t) (hk : k + 1 ≤ j := by decide) (hdb : (x == ("__debug__" : Str)) = false := by decide)
    (he : starEach (e :: es) X.env = (false, eval e X.env) :: starEach es X.env := by rfl) (hpl : (backTo pos (starEach es X.env)).any (·.1) = false := by rfl) : PE X (.Call (.Name x p) (e :: es) [] pos) (tMake C sp [] E t) := by
  obtain ⟨f, fd, ps, M, G, b, hm⟩ := F.ex
  exact pe_make M G (hr.mono hk) hg hm b .nil hx ha hdb he hpl
end
/-! ### contexts of a try and of an except suite -/
abbrev Cx.tr (X : Cx) (pn : List (Addr × Obj)) (xe : Value → Shared → Prop) : Cx := { X with pn := pn, xe := xe }
abbrev Cx.hnd (X : Cx) (e : Addr) : Cx := { X with A := X.A.mark (some (.ref e)), calm := false, xe := fun _ _ => False }
section
variable {X : Cx} {pins : List (Addr × Obj)} {σ : St} {H : Hp} {s : Shared} {h' : Heap}
theorem Inv.toTr (I : Inv X pins σ H s) (xe : Value → Shared → Prop) : Inv (X.tr (X.pn ++ pins) xe) [] σ H s :=
  let ok := I.ok
  ⟨⟨ok.mod, ok.kind, ok.glob, ok.blt, ok.above, ok.inj, ok.has, ok.cab, ok.hd, ok.frames, ok.stk, ok.exf, ok.bs, ok.bsz, ok.noex, ok.exfs, ok.funs, ok.frf⟩, I.os, I.bare, I.base, I.loc, I.cell, I.free, I.freeC, fun p hp => I.pin p (by simpa using hp), I.hok, I.len⟩
theorem Inv.ofTr {pins2 : List (Addr × Obj)} {xe : Value → Shared → Prop} (I : Inv (X.tr (X.pn ++ pins) xe) pins2 σ H s) : Inv X pins σ H s :=
  let ok := I.ok
  ⟨⟨ok.mod, ok.kind, ok.glob, ok.blt, ok.above, ok.inj, ok.has, ok.cab, ok.hd, ok.frames, ok.stk, ok.exf, ok.bs, ok.bsz, ok.noex, ok.exfs, ok.funs, ok.frf⟩, I.os, I.bare, I.base, I.loc, I.cell, I.free, I.freeC, fun p hp => I.pin p (List.mem_append_left _ hp), I.hok, I.len⟩
theorem Inv.toHnd (I : Inv X pins σ H s) (e : Addr) : Inv (X.hnd e) pins σ H s :=
  let ok := I.ok
  ⟨⟨ok.mod, ok.kind, ok.glob, ok.blt, ok.above, ok.inj, ok.has, ok.cab, (fun z => by cases z), ok.frames, ok.stk, ok.exf, ok.bs, ok.bsz, ok.noex, ok.exfs, ok.funs, ok.frf⟩, I.os, I.bare, I.base, I.loc, I.cell, I.free, I.freeC, I.pin, I.hok, I.len⟩
theorem Inv.ofHnd {e : Addr} (I : Inv (X.hnd e) pins σ H s) (hd : X.calm = true → X.A.handled = none) : Inv X pins σ H s :=
  let ok := I.ok
  ⟨⟨ok.mod, ok.kind, ok.glob, ok.blt, ok.above, ok.inj, ok.has, ok.cab, hd, ok.frames, ok.stk, ok.exf, ok.bs, ok.bsz, ok.noex, ok.exfs, ok.funs, ok.frf⟩, I.os, I.bare, I.base, I.loc, I.cell, I.free, I.freeC, I.pin, I.hok, I.len⟩
theorem SP.ofTr {xe : Value → Shared → Prop} {D : Ends} {f : Flow} {s' : Shared} (h : SP (X.tr (X.pn ++ pins) xe) [] D f s') : SP X pins D f s' := by
  cases f with
  | next => obtain ⟨σ', H', I, q⟩ := h; exact ⟨σ', H', I.ofTr, q⟩
  | brk => obtain ⟨σ', H', I, q⟩ := h; exact ⟨σ', H', I.ofTr, q⟩
  | cont => obtain ⟨σ', H', I, q⟩ := h; exact ⟨σ', H', I.ofTr, q⟩
  | ret u => obtain ⟨v, σ', H', I, r, q⟩ := h; exact ⟨v, σ', H', I.ofTr, r, q⟩
/-- slots of the frames change, and what nobody knows -/
theorem Inv.slots (I : Inv X pins σ H s) (hex : X.ex = []) (up : s.heap.UpToSlots h') (kb : ∀ b o, s.heap.get? b = some o → b ∉ frs X.stack → ((∃ o₀, X.s₀.heap.get? b = some o₀) ∨ H b ≠ none) → h'.get? b = some o) (kp : ∀ p ∈ X.pn ++ pins, h'.get? p.1 = some p.2) :
    Inv X pins σ H { s with heap := h' } := by
  obtain ⟨un', hok'⟩ := slots_step I hex up kb
  have cl : ∀ c v, s.heap.IsCell c v → h'.IsCell c v := fun c v ⟨o, q, dd⟩ => by
    obtain ⟨sl, z⟩ := up c o q fun vs y => by rw [dd] at y; cases y
    exact ⟨_, z, dd⟩
  refine ⟨I.ok, I.os, I.bare, un', ?_, fun x c q => ?_, I.free, I.freeC, fun p hp => ?_, hok', I.len⟩
  · obtain ⟨m, hn, hl⟩ := I.loc
    refine ⟨m, up.ns hn, fun i x v e1 e2 e3 => ?_⟩
    obtain ⟨u, r, l⟩ := hl i x v e1 e2 e3
    refine ⟨u, r, ?_⟩
    rcases l with l | ⟨k, c, lc, ic⟩
    · exact .inl l
    · exact .inr ⟨k, c, lc, cl _ _ ic⟩
  · obtain ⟨v, z⟩ := I.cell x c q
    exact ⟨v, cl _ _ z⟩
  · obtain ⟨_, q⟩ := I.pin p hp
    exact ⟨kp p hp, q⟩
/-- an exception flies over the frames of a body, whose state is held -/
def Fly (X : Cx) (pins : List (Addr × Obj)) (E : XK) (e : Value) (s' : Shared) : Prop := ∃ (x : Addr) (cls : Value) (d : Option Addr) (B : Heap) (σ : St) (H : Hp), e = .ref x ∧ Inv X pins σ H s' ∧ Fl B X.stack x cls d .none s'.heap ∧ InB X B H s'.heap ∧
  (∀ p ∈ X.pn ++ pins, B.get? p.1 = some p.2) ∧ H x = none ∧ E cls d H
theorem Fly.pass {E : XK} (hex : X.ex = []) : Passes (CXe X.prog X.w) (X.tr (X.pn ++ pins) (Fly X pins E)) E := by
  intro pins2 σ H s e s' I h
  obtain ⟨x, cls, d, B, H', rfl, os, bare, un, hok, fl, inB, nx, hE⟩ := h
  have I' : Inv (X.tr (X.pn ++ pins) (Fly X pins E)) pins2 σ H' s' := I.call' (ch := []) os un hok bare (fun b hb => by simp at hb)
  have nst : ∀ p ∈ X.pn ++ pins, p.1 ∉ frs X.stack := fun p hp z => by
    obtain ⟨_, _, n1, n2, _⟩ := I.pin p (List.mem_append_left _ hp)
    rcases List.mem_cons.mp (I.stkSub p.1 z) with y | y
    · exact n1 y
    · exact n2 y
  refine ⟨x, cls, d, B, σ, H', rfl, I'.ofTr, fl, fun b o q nb c => inB b o q nb ?_, fun p hp => ?_, nx, hE⟩
  · rcases c with ⟨o₀, q₀⟩ | c
    · obtain ⟨o1, q1⟩ := I.base.there b o₀ q₀ (by show b ∉ X.ex; rw [hex]; simp)
      exact .inl ⟨o1, q1⟩
    · exact .inr c
  · exact inB p.1 p.2 (I'.pin p (List.mem_append_left _ hp)).1 (nst p hp) (.inl ⟨p.2, (I.pin p (List.mem_append_left _ hp)).1⟩)
/-- the name goes behind the suite -/
theorem Inv.unname {t' : Nat} {m' : Str → Option Value} (I : Inv X pins σ H s) (hex : X.ex = []) (hn : h'.Ns X.env.locals m') (sb : Heap.SameBut X.env.locals s.heap h') : Inv X pins (List.replicate X.N.length none) H { s with heap := h', toks := t' } := by
  have kb : ∀ b o, b ≠ X.env.locals → s.heap.get? b = some o → h'.get? b = some o := fun b o nb q => sb.extBut b o nb q
  have below : ∀ b o, X.s₀.heap.get? b = some o → b ≠ X.env.locals := fun b o q z => by
    have h1 := Heap.lt_size q
    rw [z] at h1
    exact absurd (Nat.lt_of_lt_of_le h1 I.ok.above) (Nat.lt_irrefl _)
  refine ⟨I.ok, I.os, I.bare, ⟨fun b o q n nf nx => kb b o (below b o q) (I.base.keep b o q n nf nx), fun b o q n hf nx => ?_, I.base.free, fun b o q nx => ?_, I.base.tups, I.base.frzs, I.base.tbls⟩, ⟨m', hn, fun i x v _ e2 _ => ?_⟩, fun x c q => ?_, I.free, I.freeC, fun p hp => ?_, fun a o e => ?_, by simp⟩
  · obtain ⟨sl, z⟩ := I.base.slot b o q n hf nx
    exact ⟨sl, kb b _ (below b o q) z⟩
  · obtain ⟨o', z⟩ := I.base.there b o q nx
    exact ⟨o', kb b _ (below b o q) z⟩
  · rw [List.getElem?_replicate] at e2
    split at e2 <;> cases e2
  · obtain ⟨v, o, z, dd⟩ := I.cell x c q
    exact ⟨v, o, kb c o (I.cne x c q) z, dd⟩
  · obtain ⟨q, r⟩ := I.pin p hp
    exact ⟨kb _ _ r.2.1 q, r⟩
  · refine (I.hok a o e).stay (fun b u hb q => kb b u (fun z => ?_) q) (fun _ z => z) fun _ _ z => z
    have hn := I.free
    rcases hb with y | y
    · rw [← z, y, e] at hn; cases hn
    · rw [← z, y] at hn; cases hn
/-- an exception, tracked in an except suite -/
def excO (e : Addr) (cls : Value) : HO := .ext fun h => ∃ o : Obj, h.get? e = some o ∧ o.cls = cls ∧ o.dict = none ∧ ∃ ws, o.data = .fields ws
theorem Inv.caught {B : Heap} {l : List Env} {x : Addr} {cls fl : Value} {d : Option Addr} (I : Inv X pins σ H s) (F : Fl B l x cls d fl s.heap) (nx : H x = none) (ns : ∀ o, X.s₀.heap.get? x ≠ some o) (np : ∀ p ∈ X.pn ++ pins, p.1 ≠ x) : Inv X pins σ (upd H x (excO x cls)) s := by
  obtain ⟨ob, ws, T, ot, us, he, hc, hdi, hdt, r⟩ := F.tr
  have un : Un X.fs X.ex X.H₀ (upd H x (excO x cls)) X.s₀.heap s.heap := by
    refine ⟨I.base.keep, I.base.slot, fun b o q n nx' => ?_, I.base.there, fun b xs q => ?_, fun b o v q => ?_, fun b ps q => ?_⟩
    · rw [upd_ne (fun z => ns o (by rw [← z]; exact q))]
      exact I.base.free b o q n nx'
    · have z := I.base.tups b xs q
      rw [upd_ne (ne_of_none z nx)]
      exact z
    · have z := I.base.frzs b o v q
      rw [upd_ne (ne_of_none z nx)]
      exact z
    · obtain ⟨more, z⟩ := I.base.tbls b ps q
      exact ⟨more, by rw [upd_ne (ne_of_none z nx)]; exact z⟩
  have hL : x ≠ X.env.locals := fun z => by
    obtain ⟨m, ⟨o', es, ep, q, dd, _⟩, _⟩ := I.loc
    rw [← z, he] at q
    cases q
    rw [hdt] at dd
    cases dd
  refine ⟨I.ok, I.os, I.bare, un, I.loc, I.cell, by rw [upd_ne (Ne.symm hL)]; exact I.free, fun y c q => ?_, fun p hp => ?_, fun a o e => ?_, I.len⟩
  · have : c ≠ x := fun z => by
      obtain ⟨v, o, q', dd⟩ := I.cell y c q
      rw [z, he] at q'
      cases q'
      rw [hdt] at dd
      cases dd
    rw [upd_ne this]
    exact I.freeC y c q
  · obtain ⟨q, n, r⟩ := I.pin p hp
    exact ⟨q, by rw [upd_ne (np p hp)]; exact n, r⟩
  · by_cases ha : a = x
    · subst ha
      rw [upd_same] at e
      cases e
      refine ⟨⟨ob, he, hc, hdi, ws, hdt⟩, ⟨ob, he⟩, ?_⟩
      rintro h1 h2 ⟨o, q, z⟩ k
      exact ⟨o, k o q, z⟩
    · rw [upd_ne ha] at e
      exact (I.hok a o e).stay (fun b u hb q => q) (fun b z => by rw [upd_ne (ne_of_none z nx)]; exact z) (fun b xs z => by rw [upd_ne (ne_of_none z nx)]; exact z)
def tTryAs (i k : Nat) (Eh : XK) (tb ts : TS) : TS := fun D σ H => tb D σ H ∧ ∀ (e : Addr) (cls : Value) (d : Option Addr) (H' : Hp), Eh cls d H' → H' e = none → ts { nx := fun _ _ => False, rt := D.rt } ((List.replicate k none).set i (some (.ref e))) (upd H' e (excO e cls))
theorem ps_tryAs {Eh : XK} {body : List Stmt} {b₀ : Stmt} {suite : List Stmt} {tb ts : TS} {c n : Str} {C : Addr} {i k : Nat} {np hpos pos : Pos}
    (hst : X.stack = X.env :: X.outer) (hfr : X.env.frame = some X.env.locals) (hex : X.ex = []) (hN : X.N.Nodup) (hi : X.N[i]? = some n) (hl : X.env.scope.names.lookup n = some .local) (hk : X.N.length = k)
    (hg : Gl X c) (hm : X.mg c = some (.ref C)) (hC : ExcCl X.K C) (hE : ∀ cls d H, Eh cls d H → ∃ D, cls = .ref D ∧ PySem.W.mroIn X.K D (.ref C) = some true)
    (hb : ∀ pn xe, Passes (CXe X.prog X.w) (X.tr pn xe) Eh → PSs (X.tr pn xe) body tb) (hs : ∀ e, PSs (X.hnd e) (b₀ :: suite) ts) (hdb : (c == ("__debug__" : Str)) = false := by decide) :
    PS X (.Try body [.ExceptHandler (some (.Name c np)) (some n) (b₀ :: suite) hpos] [] [] pos) (tTryAs i k Eh tb ts) := by
  intro pins s σ H D I h
  obtain ⟨h1, h2⟩ := h
  refine wpAny_Try_except (wpAny_mono (hb (X.pn ++ pins) (Fly X pins Eh) (Fly.pass hex) [] s σ H D (I.toTr _) h1) (fun f s1 q => ?_) fun e s1 q => ?_)
  · have q' := SP.ofTr q
    cases f with
    | next =>
      obtain ⟨σ', H', I', r⟩ := q'
      exact pss_nil pins s1 σ' H' D I' r
    | brk => exact q'
    | cont => exact q'
    | ret u => exact q'
  · obtain ⟨x, cls, d, B, σ1, H1, rfl, I1, fl, inB, inP, nx, hE1⟩ := q
    have hA := I.ok.frames
    rw [hst] at hA
    rw [hst] at fl
    refine note_go hA hfr fl fun g F1 up1 => ?_
    refine land_go (fr := none) (s := { s1 with heap := g }) F1 fun g2 F2 up2 => ?_
    have I2 : Inv X pins σ1 H1 { s1 with heap := g2 } := I1.slots hex (up1.trans up2) (fun b o q nb c => F2.st b o (inB b o q nb c)) fun p hp => F2.st _ _ (inP p hp)
    refine wpAny_handleBy_cons (codeAny_handlers_test ?_) (by intro q; cases q)
    refine ld_glob (I2.toHnd x) hg hm ?_ hdb
    obtain ⟨D', rfl, hsub⟩ := hE cls d H1 hE1
    obtain ⟨ob, _, _, _, _, he, hcls, _⟩ := id F2.tr
    refine exc_matches (K := X.K) (s := { s1 with heap := g2 }) I2.kIn he hcls hC.mB hC.ty hC.cls hsub ?_
    refine codeAny_handlers_suite_as ?_
    refine land_go (fr := none) (s := { s1 with heap := g2 }) F2 fun g3 F3 up3 => ?_
    have I3 : Inv X pins σ1 H1 { s1 with heap := g3 } := I1.slots hex ((up1.trans up2).trans up3) (fun b o q nb c => F3.st b o (inB b o q nb c)) fun p hp => F3.st _ _ (inP p hp)
    have I4 := I3.caught F3 nx (fun o q => ?_) (fun p hp z => ?_)
    · refine store_ok (X := X.hnd x) (i := i) (I4.toHnd x) hN hi (.inl hl) (show RelV (.ref x) (.ref x) from rfl) (fun s5 I5 => ?_) (.inr hl)
      have lt : i < X.N.length := (List.getElem?_eq_some_iff.mp hi).1
      have I6 : Inv (X.hnd x) pins ((List.replicate k none).set i (some (.ref x))) (upd H1 x (excO x (.ref D'))) s5 := I5.weak (by rw [List.length_set, List.length_set, List.length_replicate, ← hk]; exact I1.len.symm) fun j v e => by
        by_cases hj : j = i
        · subst hj
          rw [List.getElem?_set_self (by rw [List.length_replicate, ← hk]; exact lt)] at e
          rw [List.getElem?_set_self (by rw [I1.len]; exact lt)]
          exact e
        · rw [List.getElem?_set_ne (Ne.symm hj), List.getElem?_replicate] at e
          split at e <;> cases e
      refine wpAny_mono (hs x pins s5 _ _ _ I6 (h2 x _ d H1 hE1 nx)) (fun f s6 q6 => ?_) fun _ _ z => z.elim
      cases f with
      | next => obtain ⟨_, _, _, z⟩ := q6; exact z.elim
      | brk => obtain ⟨_, _, _, z⟩ := q6; exact z.elim
      | cont => obtain ⟨_, _, _, z⟩ := q6; exact z.elim
      | ret u =>
        obtain ⟨v, σ7, H7, I7, r7, q7⟩ := q6
        have I8 := I7.ofHnd I.ok.hd
        obtain ⟨m, hm8, _⟩ := I8.loc
        refine wpAny_nameGoes hl hm8 (by rw [I.ok.kind]; rfl) fun h' m' hn' sb => ?_
        exact ⟨v, _, H7, I8.unname hex hn' sb, r7, q7⟩
    · have z1 := I1.base.there x o q (by rw [hex]; simp)
      obtain ⟨o1, q1⟩ := z1
      by_cases hx : x ∈ frs X.stack
      · obtain ⟨_, o', q', nf⟩ := I3.stack.mem hx
        obtain ⟨ob3, ws3, _, _, _, he3, _, _, hdt3, _⟩ := F3.tr
        have q'' : g3.get? x = some o' := q'
        rw [he3] at q''
        cases q''
        exact nf _ hdt3
      · have := inB x o1 q1 hx (.inl ⟨o, q⟩)
        rw [F3.no] at this
        cases this
    · have := inP p hp
      rw [z, F3.no] at this
      cases this
end
end L2

set_option Elab.async false
set_option linter.all false
set_option maxRecDepth 100000
/-! ### isinstance of an exception that is handled; raise .. from None; exceptions out of a comprehension -/
namespace L2
open PySem PySem.Spec PyProof.Rows
section
variable {X : Cx}
theorem call_isiX : CallR X (.builtin "isinstance") (fun xs H Q => ∃ e D c b, xs = [.ref e, c] ∧ H e = some (excO e (.ref D)) ∧ ExcCl X.K D ∧ ((∃ n, c = .ty n) ∨ ∃ a, c = .ref a) ∧ PySem.W.kitOne X.K (.ref D) (valOf c) = some b ∧ Q (.bl b) H) := by
  intro pins s σ H xs us Q I r h
  obtain ⟨e, D, c, b, rfl, he, C, hc, hk, q⟩ := h
  obtain ⟨u, v, rfl, rx, rc⟩ := vals2 r
  have ev : v = valOf c := by
    rcases hc with ⟨n, rfl⟩ | ⟨a, rfl⟩
    · exact rc
    · exact rc
  subst ev
  cases (show u = Value.ref e from rx)
  obtain ⟨⟨o, h1, h2, h3, ws, h4⟩, _⟩ := (show ObjOk X.prog X.w H s.heap e (excO e (.ref D)) from I.hok e _ he)
  have J : PySem.W.InstAt s.heap e o D none := ⟨h1, h2, by obtain ⟨oc, od, dt, sl⟩ := o; cases h4; rfl, by rw [h3]; trivial⟩
  exact PySem.W.kia_one (kitx_exc C) I.kIn ⟨o, J⟩ hk (fun z => nomatch z) fun tk => ⟨.bl b, H, I.tok tk, rfl, q⟩
end
section
variable {M : Model} {A : Around} {E : Value → Shared → Prop} {s : Shared} {B : Heap} {env : Env} {l : List Env} {e x : Addr} {cls fl : Value} {d : Option Addr}
theorem pass_go {α : Type} {what : String} {Q : α → Shared → Prop} (F : Fl B l e cls d fl s.heap) (k : ∀ h', Fl B l e cls d (env.frame.elim .none fun f => rawInt f) h' → s.heap.UpToSlots h' → E (.ref e) { s with heap := h' }) : wpAny M A (PySem.passOn what (.ref e) env : Sem α) Q E s := by
  obtain ⟨ob, ws, T, ot, us, he, hc, hdi, hdt, h1, r⟩ := id F.tr
  unfold PySem.passOn
  refine wpAny_bind (wpAny_field he hdt h1 ?_)
  rw [if_neg (by simp)]
  exact wpAny_bind (land_go F fun h' F' up => wpAny_throw (k h' F' up))
/-- raise C(..) from None, while x is handled -/
theorem raise_from {C t : Addr} {nm q : Str} {N : Addr} {bs bm : List Value} {hdct : Bool} {sn : List Str} {sub : List Value} {ab : Bool} {col : Option Bool} {dd : Option Addr} {k0 k1 k2 k3 k5 : Option Value} {newId : String} {xs cs : Sem Value} {Q : Flow → Shared → Prop} {prog : Program} {w : World}
    (hh : A.handled = some (.ref x)) (hb : bm.contains (.type "BaseException") = true) (hcs : ∀ s Q, Q Value.none s → wpAny (model prog w) A cs Q E s)
    (h : wpAny (model prog w) A xs (fun v s1 => ∃ (e t : Addr) (ox : Obj) (wx : Array Value), v = .ref e ∧ s1.heap.get? C = some (excClassObj nm q C N bs bm hdct sn sub ab col dd k0 k1 k2 k3 k5 newId) ∧ s1.heap.get? e = some { cls := .ref C, data := .fields #[.ref t, .none, .none, .none, .bool false, .none] } ∧
      s1.heap.get? x = some ox ∧ ox.data = .fields wx ∧ wx[2]? = some .none ∧ x ≠ e ∧ ∀ h', (∀ b o, b ≠ e → s1.heap.get? b = some o → h'.get? b = some o) → h'.get? e = some { cls := .ref C, data := .fields #[.ref t, .none, .ref x, .none, .bool true, .none] } → E (.ref e) { s1 with heap := h' }) E s) :
    wpAny (model prog w) A (raiseStmt env (some xs) (some cs)) Q E s := by
  have hcB : (Value.ref C :: bm).contains (.type "BaseException") = true := by rw [List.contains_cons, hb, Bool.or_true]
  unfold raiseStmt
  refine wpAny_bind (thn h fun v s1 z => ?_)
  obtain ⟨e, t, ox, wx, rfl, hC, he, hx, hdx, h2, nx, k⟩ := z
  refine wpAny_bind (wpAny_holding (hcs s1 _ (wpAny_bind (wpAny_pure ?_))))
  obtain ⟨hp, g, dr, tk, os⟩ := s1
  have hC : hp.get? C = some (excClassObj nm q C N bs bm hdct sn sub ab col dd k0 k1 k2 k3 k5 newId) := hC
  have he : hp.get? e = some { cls := .ref C, data := .fields #[.ref t, .none, .none, .none, .bool false, .none] } := he
  have hx : hp.get? x = some ox := hx
  have nC : C ≠ e := fun z => by
    rw [z, he] at hC
    cases hC
  generalize h1e : hp.update e (Obj.mapFields (·.setIfInBounds 3 Value.none)) = hp1
  generalize h2e : hp1.update e (Obj.mapFields (·.setIfInBounds 4 (Value.bool true))) = hp2
  generalize h3e : hp2.update e (Obj.mapFields (·.setIfInBounds 2 (Value.ref x))) = hp3
  have e1 : hp1.get? e = some { cls := .ref C, data := .fields #[.ref t, .none, .none, .none, .bool false, .none] } := by
    rw [← h1e]
    exact Heap.get?_update_self _ he rfl
  have e2 : hp2.get? e = some { cls := .ref C, data := .fields #[.ref t, .none, .none, .none, .bool true, .none] } := by
    rw [← h2e]
    exact Heap.get?_update_self _ e1 rfl
  have e3 : hp3.get? e = some { cls := .ref C, data := .fields #[.ref t, .none, .ref x, .none, .bool true, .none] } := by
    rw [← h3e]
    exact Heap.get?_update_self _ e2 rfl
  have o1 : ∀ b, b ≠ e → hp1.get? b = hp.get? b := fun b nb => by rw [← h1e]; exact Heap.get?_update_other _ _ (Ne.symm nb)
  have o2 : ∀ b, b ≠ e → hp2.get? b = hp1.get? b := fun b nb => by rw [← h2e]; exact Heap.get?_update_other _ _ (Ne.symm nb)
  have o3 : ∀ b, b ≠ e → hp3.get? b = hp2.get? b := fun b nb => by rw [← h3e]; exact Heap.get?_update_other _ _ (Ne.symm nb)
  have C2 : hp2.get? C = some (excClassObj nm q C N bs bm hdct sn sub ab col dd k0 k1 k2 k3 k5 newId) := (o2 C nC).trans ((o1 C nC).trans hC)
  unfold excFromValue isExcClass isType loadHead isInstance
  repeat (first | (with_reducible refine wpAny_loadPart_at he ?_) | (with_reducible refine wpAny_isSubtype_exc hC ?_; rw [hcB]) | wp_step)
  rw [h1e, h2e]
  unfold raiseNew
  refine wpAny_bind (wpAny_handled ?_)
  rw [hh]
  show wpAny _ _ (if (Value.ref x != Value.ref e) = true then _ else _) _ _ _
  rw [if_pos (by simpa using nx)]
  have ent : entryFor table "proto.unchain" = some Builtin.«proto.unchain» := entryFor_of_tree (by kernel_rfl)
  refine wpAny_bind (wpAny_holding (wpAny_runValue (codeAny_builtin ent ?_)))
  unfold Builtin.«proto.unchain»
  refine wpAny_bind (wpAny_field ((o2 x nx).trans ((o1 x nx).trans hx)) hdx h2 ?_)
  rw [if_pos (by rfl)]
  refine wpAny_bind (wpAny_pure ?_)
  refine wpAny_pure ?_
  refine wpAny_bind ?_
  show wpAny _ _ (setField (.ref e) 2 (.ref x)) _ _ _
  refine wpAny_setField e2 rfl (by show 2 < 6; decide) (wpAny_throw ?_)
  rw [h3e]
  exact k hp3 (fun b o nb qb => (o3 b nb).trans ((o2 b nb).trans ((o1 b nb).trans qb))) e3
end
section
variable {X : Cx}
def tTryFrom (K : PySem.W.Frag) (C C2 : Addr) (Eh E : XK) (tb : TS) : TS := fun D σ H => tb D σ H ∧ ∀ (cls : Value) (d : Option Addr) (H' : Hp), Eh cls d H' → ∃ D', cls = .ref D' ∧
  ((PySem.W.mroIn K D' (.ref C) = some true ∧ d = none ∧ ∀ x, E (.ref C2) (some x) H') ∨ (PySem.W.mroIn K D' (.ref C) = some false ∧ E cls d H'))
/-- try: .. except C: raise C2(text) from None -/
theorem ps_tryFrom {Eh E : XK} {body : List Stmt} {tb : TS} {c c2 : Str} {C C2 : Addr} {msg : Str} {n1 n2 : Nat} {np np2 p1 p2 cpos rpos hpos pos : Pos} (L : Leaves X E)
    (hg : Gl X c) (hm : X.mg c = some (.ref C)) (hC : ExcCl X.K C) (hg2 : Gl X c2) (hm2 : X.mg c2 = some (.ref C2)) (hC2 : ExcCl X.K C2)
    (hb : ∀ pn xe, Passes (CXe X.prog X.w) (X.tr pn xe) Eh → PSs (X.tr pn xe) body tb)
    (hdb : (c == ("__debug__" : Str)) = false := by decide) (hdb2 : (c2 == ("__debug__" : Str)) = false := by decide) :
    PS X (.Try body [.ExceptHandler (some (.Name c np)) none [.Raise (some (.Call (.Name c2 np2) [.Constant (.str msg) n1 p1] [] cpos)) (some (.Constant .none n2 p2)) rpos] hpos] [] [] pos) (tTryFrom X.K C C2 Eh E tb) := by
  intro pins s σ H D I h
  obtain ⟨h1, h2⟩ := h
  refine wpAny_Try_except (wpAny_mono (hb (X.pn ++ pins) (Fly X pins Eh) (Fly.pass L.ex) [] s σ H D (I.toTr _) h1) (fun f s1 q => ?_) fun e s1 q => ?_)
  · have q' := SP.ofTr q
    cases f with
    | next =>
      obtain ⟨σ', H', I', r⟩ := q'
      exact pss_nil pins s1 σ' H' D I' r
    | brk => exact q'
    | cont => exact q'
    | ret u => exact q'
  · obtain ⟨x, cls, d, B, σ1, H1, rfl, I1, fl, inB, inP, nx, hE1⟩ := q
    have hA := I.ok.frames
    rw [L.st] at hA
    rw [L.st] at fl
    refine note_go hA L.fr fl fun g F1 up1 => ?_
    refine land_go (fr := none) (s := { s1 with heap := g }) F1 fun g2 F2 up2 => ?_
    have inB2 : ∀ {g' : Heap} {fl'} (F' : Fl B (X.env :: X.outer) x cls d fl' g'), InB X B H1 g' := fun {g' fl'} F' b o q nb c => by
      obtain ⟨o1, q1⟩ := I1.old L.ex c
      have z := inB b o1 q1 nb c
      have := F'.st b o1 z
      rw [q] at this
      cases this
      exact z
    have stp : ∀ {g' : Heap} {fl'} (F' : Fl B (X.env :: X.outer) x cls d fl' g'), s1.heap.UpToSlots g' → Inv X pins σ1 H1 { s1 with heap := g' } := fun F' up => I1.slots L.ex up (fun b o q nb c => F'.st b o (inB b o q nb c)) fun p hp => F'.st _ _ (inP p hp)
    have I2 := stp F2 (up1.trans up2)
    refine wpAny_handleBy_cons (codeAny_handlers_test ?_) (by intro q; cases q)
    refine ld_glob (I2.toHnd x) hg hm ?_ hdb
    obtain ⟨D', rfl, alt⟩ := h2 cls d H1 hE1
    obtain ⟨ob, _, _, _, _, he, hcls, _⟩ := id F2.tr
    rcases alt with ⟨hsub, rfl, hEE⟩ | ⟨hsub, hEE⟩
    · refine exc_matches (K := X.K) (s := { s1 with heap := g2 }) I2.kIn he hcls hC.mB hC.ty hC.cls hsub ?_
      refine codeAny_handlers_suite ?_
      refine land_go (fr := none) (s := { s1 with heap := g2 }) F2 fun g3 F3 up3 => ?_
      have I3 := stp F3 ((up1.trans up2).trans up3)
      have own : PassesOwnAt (model X.prog X.w) (X.A.mark (some (.ref x))) X.A X.env X.xe := by
        rw [L.xe]
        exact PassesOwnAt.leaving
      refine wpAny_passesOwnAt own ?_
      refine wpAny_execs_cons ?_
      rw [arm_exec_Raise]
      refine wpAny_bind (wpAny_standAt ?_)
      obtain ⟨ob3, ws3, T3, ot3, us3, he3, hc3, hdi3, hdt3, h13, h23, _⟩ := id F3.tr
      obtain ⟨bm, N, nm, qn, bs, hdct, sn, sub, ab, col, dd, k0, k1, k2, k3, k5, mN, hCo, hN, hni, T⟩ := exc_obj I3.ok.mod.kin hC2.ex
      have hb2 := T.hasType F.excBase_ValueError.hasBase
      have hnx : x ≠ X.env.locals := fun z => by
        obtain ⟨m, ⟨o', es, ep, q, dd', _⟩, _⟩ := I3.loc
        have q' : g3.get? X.env.locals = some o' := q
        rw [← z, he3] at q'
        cases q'
        rw [hdt3] at dd'
        cases dd'
      have hnf : x ∉ X.fs := fun z => by
        obtain ⟨_, o', q, nf⟩ := I3.funs.mem z
        have q' : g3.get? x = some o' := q
        rw [he3] at q'
        cases q'
        exact nf _ hdt3
      have I4 : Inv X (pins ++ [(x, ob3)]) σ1 H1 { s1 with heap := g3 } := I3.pins_of fun p hp => by
        rcases List.mem_append.mp hp with z | z
        · exact I3.pin p (List.mem_append_right _ z)
        · have e : p = (x, ob3) := by simpa using z
          subst e
          exact ⟨he3, nx, hnx, hnf, fun v y => by rw [hdt3] at y; cases y⟩
      refine raise_from (C := C2) (x := x) (t := x) (nm := nm) (q := qn) (N := N) (bs := bs) (bm := bm) (hdct := hdct) (sn := sn) (sub := sub) (ab := ab) (col := col) (dd := dd) (k0 := k0) (k1 := k1) (k2 := k2) (k3 := k3) (k5 := k5) (newId := "ValueError.__new__") rfl hb2
        (fun s Q q => wpAny_bind (wpAny_Constant_none (wpAny_bind (wpAny_standAt (wpAny_pure q))))) ?_
      refine wpAny_bind (wpAny_mono (wpAny_Call_ofName (ld_glob (I4.toHnd x) hg2 hm2 ?_ hdb2)) (fun v s3 h3 => wpAny_bind (wpAny_standAt (wpAny_pure h3))) fun _ _ z => z)
      unfold callWith
      have key := (pa_cons pe_str pa_nil : PA (X.hnd x) [.Constant (.str msg) n1 p1] (tCons (tC (.str msg)) tNil)) cpos _ _ σ1 H1 (fun vs H' => vs = [.str msg] ∧ H' = H1) (I4.toHnd x) ⟨rfl, rfl⟩
      refine wpAny_bind (wpAny_holding ?_)
      refine Calls.evalArgs_plain (wpAny_mono key (fun us s4 z => wpAny_bind (wpAny_standAt ?_)) fun _ _ z => z.elim)
      obtain ⟨vs, H4, J, r, ev, eH⟩ := z
      subst ev eH
      have J4 := J.ofHnd I.ok.hd
      have px := J4.pin (x, ob3) (List.mem_append_right _ (List.mem_append_right _ (by simp)))
      have len : us.length ≤ sizeLine := by
        rw [← r.length]
        exact (by decide : 1 ≤ sizeLine)
      have fin : ∀ (h' : Heap) (e' : Addr), Heap.MadeExcOf s4.heap h' e' (.ref C2) us → ∃ (e t : Addr) (ox : Obj) (wx : Array Value), Value.ref e' = .ref e ∧ h'.get? C2 = some (excClassObj nm qn C2 N bs bm hdct sn sub ab col dd k0 k1 k2 k3 k5 "ValueError.__new__") ∧
          h'.get? e = some { cls := .ref C2, data := .fields #[.ref t, .none, .none, .none, .bool false, .none] } ∧ h'.get? x = some ox ∧ ox.data = .fields wx ∧ wx[2]? = some .none ∧ x ≠ e ∧
          ∀ g', (∀ b o, b ≠ e → h'.get? b = some o → g'.get? b = some o) → g'.get? e = some { cls := .ref C2, data := .fields #[.ref t, .none, .ref x, .none, .bool true, .none] } → X.xe (.ref e) { s4 with heap := g' } := by
        intro h' e' hm
        obtain ⟨t0, q0, _, _⟩ := hm.there
        refine ⟨e', t0, ob3, ws3, rfl, hm.keeps _ _ (J4.bk _ _ hCo), q0, hm.keeps _ _ px.1, hdt3, h23, fun z => ?_, fun g' kp q1 => ?_⟩
        · have := px.1
          rw [show (x, ob3).1 = e' from z, hm.new] at this
          cases this
        · refine leave_made L J4 (fun b o q => kp b o (fun z => ?_) (hm.keeps b o q)) hm.new q1 rfl rfl rfl rfl rfl (hEE x)
          rw [z, hm.new] at q
          cases q
      obtain ⟨hp, gg, dr, tk, os⟩ := s4
      have hpl : ((backTo cpos (starEach [.Constant (.str msg) n1 p1] X.env)).any (·.1)) = false := rfl
      simp only [hpl]
      refine wpAny_bind (wpAny_keeperOf_exc (J4.bk _ _ hCo) ?_)
      refine wpAny_bind (wpAny_call_exc_subT (hrest := len) F.excBase_ValueError (T.keeps J4.bk) (J4.bk _ _ hCo) (hN.keeps J4.bk) hni fun h' e' hm => wpAny_bind (wpAny_holding (wpAny_point (wpAny_pure ?_))))
      exact fin h' e' hm
    · refine exc_matches (K := X.K) (s := { s1 with heap := g2 }) I2.kIn he hcls hC.mB hC.ty hC.cls hsub ?_
      refine wpAny_handleBy_nil ?_
      refine pass_go (s := { s1 with heap := g2 }) F2 fun g3 F3 up3 => ?_
      have F3' := F3
      rw [← L.st] at F3'
      exact leave_on L (stp F3 ((up1.trans up2).trans up3)) F3' (inB2 F3) nx hEE
end
end L2

set_option Elab.async false
set_option linter.all false
set_option maxRecDepth 100000
/-! ### exceptions out of a comprehension's element -/
namespace L2
open PySem PySem.Spec PyProof.Rows
def FlyC (X : Cx) (scope : Scope) (N : List Str) (C : Addr) (s₂ : Shared) (H₁ : Hp) (fp : List Addr) (E : XK) (e : Value) (s' : Shared) : Prop := ∃ (x : Addr) (cls : Value) (d : Option Addr) (B : Heap) (σ : St) (H : Hp) (pl : List (Addr × Obj)), e = .ref x ∧
  Inv (lcCx X scope N C s₂ H₁ fp) pl σ H s' ∧ Fl B X.stack x cls d .none s'.heap ∧ (∀ b o, s'.heap.get? b = some o → b ∉ frs X.stack → ((∃ o₀, s₂.heap.get? b = some o₀ ∧ b ∉ fp) ∨ H b ≠ none) → B.get? b = some o) ∧ H x = none ∧ E cls d H
theorem FlyC.pass {X : Cx} {scope : Scope} {N : List Str} {C : Addr} {s₂ : Shared} {H₁ : Hp} {fp : List Addr} {E : XK} : Passes (CXe X.prog X.w) ((lcCx X scope N C s₂ H₁ fp).wish (FlyC X scope N C s₂ H₁ fp E)) E := by
  intro pins2 σ H s e s' I h
  obtain ⟨x, cls, d, B, H', rfl, os, bare, un, hok, fl, inB, nx, hE⟩ := h
  have I' : Inv ((lcCx X scope N C s₂ H₁ fp).wish (FlyC X scope N C s₂ H₁ fp E)) pins2 σ H' s' := I.call' (ch := []) os un hok bare (fun b hb => by simp at hb)
  refine ⟨x, cls, d, B, σ, H', pins2, rfl, I'.unwish, fl, fun b o q nb c => inB b o q nb ?_, nx, hE⟩
  rcases c with ⟨o₀, q₀, nf⟩ | c
  · obtain ⟨o1, q1⟩ := I.base.there b o₀ q₀ nf
    exact .inl ⟨o1, q1⟩
  · exact .inr c
theorem lc_err {X : Cx} {scope : Scope} {N : List Str} {C D : Addr} {s₂ : Shared} {H₁ : Hp} {fp : List Addr} {E E' : XK} {pins : List (Addr × Obj)} {σ : St} {use : Option (Value → Sem Unit)} {Qv : Value → Shared → Prop} {e : Value} {s' : Shared} (Lv : Leaves X E') (mono : ∀ c d H, E c d H → E' c d H)
    (I2 : Inv X pins σ H₁ s₂) (f2 : ∀ b ∈ fp, FpOk X pins H₁ b) (hC : s₂.heap.objs.size ≤ C) (h : FlyC X scope N C s₂ H₁ fp E e s') :
    notedBy (model X.prog X.w) X.A (compEnvC scope (freesOf scope.names X.env.cells []) C X.env) (fun x s'' => compPost (model X.prog X.w) X.A X.xe use Qv (.ref D) C (.error x) s'') e s' := by
  obtain ⟨x, cls, d, B, σ', H', pl, rfl, J, fl, inB, nx, hE⟩ := h
  have I3 : Inv X pins σ H' s' := I2.call' (s' := s') (ch := fp) J.os J.base J.hok J.bare (fun c hb => ⟨(f2 c hb).2.2.2.1, (f2 c hb).2.1, (f2 c hb).2.2.2.2.1, (f2 c hb).2.2.2.2.2⟩)
  have hA := I2.ok.frames
  rw [Lv.st] at hA
  rw [Lv.st] at fl
  have ltC : ∀ b o, s₂.heap.get? b = some o → b ≠ C := fun b o q => Nat.ne_of_lt (Nat.lt_of_lt_of_le (Heap.lt_size q) hC)
  have i2 : ∀ b, ((∃ o₀, X.s₀.heap.get? b = some o₀) ∨ H' b ≠ none) → ((∃ o₀, s₂.heap.get? b = some o₀ ∧ b ∉ fp) ∨ H' b ≠ none) := fun b c => by
    rcases c with ⟨o₀, q₀⟩ | c
    · obtain ⟨o1, q1⟩ := I2.base.there b o₀ q₀ (by rw [Lv.ex]; simp)
      refine .inl ⟨o1, q1, fun z => ?_⟩
      rcases (f2 b z).2.2.2.1 with y | y
      · rw [Lv.ex] at y
        simp at y
      · exact absurd (Nat.lt_of_lt_of_le (Heap.lt_size q₀) y) (Nat.lt_irrefl _)
    · exact .inr c
  have pinB : ∀ p ∈ X.pn ++ pins, B.get? p.1 = some p.2 := fun p hp => by
    refine inB p.1 p.2 (I3.pin p hp).1 (fun z => ?_) (.inl ⟨p.2, (I2.pin p hp).1, fun z => (f2 p.1 z).2.2.2.2.2 p hp rfl⟩)
    obtain ⟨_, _, n1, n2, _⟩ := I2.pin p hp
    rcases List.mem_cons.mp (I2.stkSub p.1 z) with y | y
    · exact n1 y
    · exact n2 y
  show wpAny _ _ (noteFrame (.ref x) X.env) _ _ _
  refine note_go hA Lv.fr fl fun g F1 up1 => ?_
  have I4 : Inv X pins σ H' { s' with heap := g } := I3.slots Lv.ex up1 (fun b o q nb c => F1.st b o (inB b o q nb (i2 b c))) fun p hp => F1.st _ _ (pinB p hp)
  obtain ⟨m, hm, _⟩ := J.loc
  have hm : s'.heap.Ns C m := hm
  have hmg := up1.ns hm
  obtain ⟨ob, ws, T, ot, us, he, hc', hdi, hdt, h1, h2, nT, Te, hT, dT, h3⟩ := id F1.tr
  have nf : ∀ b o vs, g.get? b = some o → o.data = .fields vs → b ≠ C := fun b o vs q dd z => by
    obtain ⟨o', es, ep, q', dd', _⟩ := hmg
    rw [z, q'] at q
    cases q
    rw [dd'] at dd
    cases dd
  have xC := nf x ob ws he hdt
  have TC := nf T ot us hT dT
  have hCH : H' C = none := J.free
  have go : ∃ m, g.Ns C m ∧ ∀ h', Heap.SameBut C g h' → ∀ cenv : Env, cenv.locals = C → wpAny (model X.prog X.w) X.A (PySem.passOn "comprehension.variables-let-go" (.ref x) cenv : Sem Value) (fun _ _ => False) X.xe { s' with heap := h' } := by
    refine ⟨m, hmg, fun h5 sb cenv _ => ?_⟩
    have cl : C ≠ X.env.locals := fun z => by
      have := I2.lt
      rw [← z] at this
      exact absurd (Nat.lt_of_lt_of_le this hC) (Nat.lt_irrefl _)
    have I5 : Inv X pins σ H' { s' with heap := h5, toks := s'.toks } := Inv.turned (s := { s' with heap := g }) (h' := h5) (t' := s'.toks) (it := C) I4 (fun b o nb q => sb.extBut b o nb q) hCH cl (.inr (Nat.le_trans I2.sz hC)) (fun y c q z => by
      obtain ⟨v, o, io, _⟩ := I2.cell y c q
      exact ltC c o io z) fun p hp => ltC _ _ (I2.pin p hp).1
    have off : ∀ b o, s'.heap.get? b = some o → b ∉ frs X.stack → ((∃ o₀, s₂.heap.get? b = some o₀ ∧ b ∉ fp) ∨ H' b ≠ none) → b ∉ C :: x :: T :: frs X.stack := fun b o q nb c z => by
      have hB := inB b o q nb c
      rcases List.mem_cons.mp z with y | y
      · rcases c with ⟨o₀, q₀, _⟩ | c
        · exact ltC b o₀ q₀ y
        · rw [y] at c
          exact c hCH
      · rcases List.mem_cons.mp y with y | y
        · rw [y, F1.no] at hB
          cases hB
        · rcases List.mem_cons.mp y with y | y
          · rw [y, nT] at hB
            cases hB
          · exact nb y
    have keep5 : ∀ b o, s'.heap.get? b = some o → b ∉ frs X.stack → ((∃ o₀, s₂.heap.get? b = some o₀ ∧ b ∉ fp) ∨ H' b ≠ none) → (PySem.W.hideAll h5 (C :: x :: T :: frs X.stack)).get? b = some o := fun b o q nb c => by
      have hn := off b o q nb c
      exact PySem.W.hideAll_get _ (sb.extBut b o (fun z => hn (by rw [z]; simp)) (F1.st b o (inB b o q nb c))) hn
    have F5 : Fl (PySem.W.hideAll h5 (C :: x :: T :: frs X.stack)) X.stack x cls d (rawInt X.env.locals) h5 := by
      refine ⟨fun b o q => PySem.W.of_hideAll _ q, PySem.W.hideAll_none _ (by simp), PySem.W.funFrames_hide I5.stack fun env he b hb => ?_, ob, ws, T, ot, us, sb.extBut x _ xC he, hc', hdi, hdt, h1, h2, PySem.W.hideAll_none _ (by simp), Te, sb.extBut T _ TC hT, dT, h3⟩
      exact List.mem_cons_of_mem _ (List.mem_cons_of_mem _ (List.mem_cons_of_mem _ (List.mem_filterMap.mpr ⟨env, he, hb⟩)))
    refine pass_go (s := { s' with heap := h5 }) F5 fun g6 F6 up6 => ?_
    have old5 : ∀ b o, h5.get? b = some o → b ∉ frs X.stack → ((∃ o₀, X.s₀.heap.get? b = some o₀) ∨ H' b ≠ none) → (PySem.W.hideAll h5 (C :: x :: T :: frs X.stack)).get? b = some o := fun b o q nb c => by
      obtain ⟨o1, q1⟩ := I3.old Lv.ex c
      have z := keep5 b o1 q1 nb (i2 b c)
      have y := PySem.W.of_hideAll _ z
      rw [q] at y
      cases y
      exact z
    have I6 : Inv X pins σ H' { s' with heap := g6, toks := s'.toks } := I5.slots Lv.ex up6 (fun b o q nb c => F6.st b o (old5 b o q nb c)) fun p hp => by
      refine F6.st _ _ (keep5 p.1 p.2 (I3.pin p hp).1 (fun z => ?_) (.inl ⟨p.2, (I2.pin p hp).1, fun z => (f2 p.1 z).2.2.2.2.2 p hp rfl⟩))
      obtain ⟨_, _, n1, n2, _⟩ := I2.pin p hp
      rcases List.mem_cons.mp (I2.stkSub p.1 z) with y | y
      · exact n1 y
      · exact n2 y
    refine leave_on Lv I6 F6 (fun b o q nb c => ?_) nx (mono _ _ _ hE)
    obtain ⟨o1, q1⟩ := I5.old Lv.ex c
    have z := old5 b o1 q1 nb c
    have y := F6.st b o1 z
    have q2 : g6.get? b = some o := q
    rw [q2] at y
    cases y
    exact z
  cases use with
  | none => exact go
  | some u => exact go
section
variable {prog : Program} {w : World} {A : Around} {R : Result → Shared → Prop} {s : Shared}
theorem compLoop_anyX {elt target iter : Expr} {scope : Scope} {pos : Pos} {it acc : Value} {env : Env} (I : Nat → Shared → Prop) (EE : Value → Shared → Prop)
    (hEE : ∀ x s, EE x s → notedBy (model prog w) A env (fun x s' => R (.error x) s') x s)
    (turn : ∀ n s, I n s → wpAny (model prog w) A (pyNext it) (fun r s₁ => match r with
      | none => R (.ok .next) s₁
      | some v => wpAny (model prog w) A (letOwnedTupleGo target it v) (fun _ s₁' => wpAny (model prog w) A (assign target env v) (fun _ s₂ => wpAny (model prog w) A (eval elt env) (fun x s₃ =>
          wpAny (model prog w) A (call (.builtin "list.append") [acc, x]) (fun _ s₄ => ∃ m, m < n ∧ I m s₄) (fun _ _ => False) s₃)
          EE s₂) (fun _ _ => False) s₁') (fun _ _ => False) s₁) (fun _ _ => False) s)
    (n : Nat) (h : I n s) :
    codeAny (model prog w) A (.compLoop (.ListComp elt [⟨target, iter, [], 0⟩] scope pos) 0 it acc env) R s := by
  refine codeAny_loop rfl I (fun n s hI => ?_) n h
  show wpAny _ _ ((compTurn (.ListComp elt [⟨target, iter, [], 0⟩] scope pos) 0 it acc env).onRaise (fun x => do noteFrame x env; theTreesLotGoes x)) _ _ s
  refine wpAny_noted ?_
  rw [compTurn_list1]
  refine wpAny_bind (wpAny_standAt (wpAny_bind (wpAny_mono (turn n s hI) (fun r s₁ h₁ => ?_) fun _ _ h' => h'.elim)))
  cases r with
  | none => exact wpAny_pure h₁
  | some v =>
    refine wpAny_bind (wpAny_mono h₁ (fun _ s₁' h₁' => ?_) fun _ _ h' => h'.elim)
    exact wpAny_bind (wpAny_mono h₁' (fun _ s₂ h₂ => wpAny_bind (wpAny_bind (wpAny_mono h₂ (fun x s₃ h₃ => wpAny_bind (wpAny_mono h₃
      (fun _ s₄ h₄ => wpAny_pure (wpAny_pure ⟨rfl, h₄⟩)) fun _ _ h' => h'.elim)) hEE))) fun _ _ h' => h'.elim)
end


section
variable {X : Cx}
theorem lc_coreX {elt iter : Expr} {x : Str} {px pos : Pos} {scope : Scope} {ys : List Str} {js : List Nat} {wi : TI} {te : TE} {E E' : XK} (use : Option (Value → Sem Unit)) {pins : List (Addr × Obj)} {s : Shared} {σ : St} {H : Hp} {Q : VK} {Qv : Value → Shared → Prop}
    (Lv : Leaves X E') (mono : ∀ c d H, E c d H → E' c d H) (hc : X.calm = true) (hi : PI X (.Name x px) iter wi)
    (hkind : scope.kind = .function) (hcell : ∀ y ∈ scope.names, y.2 ≠ .cell) (hloc : ∀ y ∈ scope.names, y.2 = .local → scope.names.lookup y.1 = some .local) (hx : scope.names.lookup x = some .local)
    (hfree : scope.names.all (fun y => y.2 != .free || (X.env.cells.lookup y.1).isSome) = true) (hys : lcNames X.N X.env.scope scope js ys = true) (hnd : (x :: ys).Nodup)
    (he : ∀ (C : Addr) (s₂ : Shared) (H₁ : Hp) (fp : List Addr), PE ((lcCx X scope (x :: ys) C s₂ H₁ fp).wish (FlyC X scope (x :: ys) C s₂ H₁ fp E)) elt te)
    (hs : ∀ v, foldedSetIterable iter X.env v = pure v) (I : Inv X pins σ H s) (h : tLC wi js te σ H Q)
    (hfin : ∀ D C s4, LcEnd X pins σ Q D C s4 → compPost (model X.prog X.w) X.A X.xe use Qv (.ref D) C (.ok .next) s4) :
    wpAny (model X.prog X.w) X.A (comprehension (.ListComp elt [⟨.Name x px, iter, [], 0⟩] scope pos) scope X.env (firstIterPos [⟨.Name x px, iter, [], 0⟩] pos) (newList []) (firstAsync [⟨.Name x px, iter, [], 0⟩]) (firstIter [⟨.Name x px, iter, [], 0⟩] X.env) use) Qv X.xe s := by
  refine wpAny_comprehension_free (use := use) rfl hs (clos_eq hfree) hkind hloc ?_
  refine thn (hi pins s σ H _ I h) fun v s1 h1 => thn h1 fun itv s2 h2 => ?_
  obtain ⟨it, fp, tn, J, H1, e, I2, T, st2, f2, W, ⟨m0, w0⟩, turn⟩ := h2
  subst e
  refine wpAny_newObj_type (wpAny_newFunctionEnv hcell (by intro y hy; simp at hy) (fun h₁ hns₁ hsb₁ => ?_) hkind)
  dsimp only at hns₁ hsb₁ ⊢
  generalize hD : s2.heap.objs.size = D at hns₁ hsb₁ ⊢
  generalize hH2 : s2.heap.push { cls := .type "list", dict := none, data := .seq ([] : List Value).toArray } = H2 at hns₁ hsb₁ ⊢
  generalize hCC : H2.objs.size = C at hns₁ hsb₁ ⊢
  have hC : C = D + 1 := by rw [← hCC, ← hH2, Heap.size_push, hD]
  have hDlt : D < C := by rw [hC]; exact Nat.lt_succ_self _
  have hDC : D ≠ C := Nat.ne_of_lt hDlt
  have below : ∀ b o, s2.heap.get? b = some o → b < D := fun b o q => by rw [← hD]; exact Heap.lt_size q
  have old : ∀ b o, s2.heap.get? b = some o → h₁.get? b = some o := fun b o q => hsb₁.extBut b o (Nat.ne_of_lt (Nat.lt_trans (below b o q) hDlt)) (Heap.get?_push_of_some _ (hH2 ▸ Heap.get?_push_of_some _ q))
  have hDobj : h₁.get? D = some { cls := .type "list", data := .seq ([] : List Value).toArray } := by
    refine hsb₁.extBut _ _ hDC (Heap.get?_push_of_some _ ?_)
    rw [← hH2, ← hD]
    exact Heap.get?_push_size _ rfl
  have fpD : ∀ b ∈ fp, b < D := fun b hb => by
    obtain ⟨o, q, _⟩ := T.obj 0 _ st2 b hb
    exact below b o q
  have hsub := frees_sub (cells := X.env.cells) scope.names [] hfree (by intro y c z; simp at z)
  have cellLt : ∀ y c, X.env.cells.lookup y = some c → c < D := fun y c q => by
    obtain ⟨v, o, ho, _⟩ := I2.cell y c q
    exact below c o ho
  generalize hY : (lcCx X scope (x :: ys) C s2 H1 fp).wish (FlyC X scope (x :: ys) C s2 H1 fp E) = Y
  have yok : Y.Ok := by
    subst hY
    refine ⟨I2.ok.mod, by simp [lcCx, compEnvC, relabel, hkind], I2.ok.glob, I2.ok.blt, ?_, fun a b c q1 q2 => I2.ok.inj a b c (hsub _ _ q1) (hsub _ _ q2), fun y hy => ?_, fun _ _ q => (Bool.false_ne_true q).elim, I2.ok.hd, I2.ok.frames, .inl rfl, fun b hb => ⟨?_, fun y c q => ?_⟩,
      I2.bs, Nat.le_trans I2.ok.bsz I2.sz, fun b o q hb => ?_, fun b hb hz => ?_, I2.stack, I2.stkFree⟩
    · show s2.heap.objs.size ≤ C
      omega
    · exact frees_has scope.names [] y (.inl (relabel_of_cell hcell hy))
    · exact Nat.ne_of_lt (Nat.lt_trans (fpD b hb) hDlt)
    · exact (f2 b hb).2.2.2.2.1 y c (hsub _ _ q)
    · rcases (f2 b hb).2.2.2.1 with z | z
      · exact I2.ok.noex b o q z
      · exact absurd (Nat.lt_of_lt_of_le (Heap.lt_size q) (Nat.le_trans I2.ok.bsz z)) (Nat.lt_irrefl _)
    · rcases List.mem_cons.mp (I2.stkSub b hz) with z | z
      · exact (f2 b hb).2.1 z
      · exact (f2 b hb).2.2.1 z
  have hnoneD : ∀ {b : Addr}, D ≤ b → H1 b = none := fun {b} hb => I2.hok.fresh (by rw [hD]; exact hb)
  have tlLen := lcNames.len hys
  generalize htl : (js.map fun j => σ.getD j none) = tl
  have start : Inv Y [(D, { cls := .type "list", data := .seq ([] : List Value).toArray })] (none :: tl) H1 { s2 with heap := h₁, toks := s2.toks + ([] : List (Str × Value)).length } := by
    subst hY
    refine ⟨yok, rfl, I2.bare, Un.kept old, ⟨_, hns₁, fun i y v q1 q2 q3 => ?_⟩, fun y c q => ?_, hnoneD (by show D ≤ C; omega), fun y c q => I2.freeC y c (hsub _ _ q), fun p hp => ?_, I2.hok.kept old, ?_⟩
    · cases i with
      | zero => simp at q2
      | succ k =>
        have q1' : ys[k]? = some y := by simpa [lcCx] using q1
        have q2' : tl[k]? = some (some v) := by simpa using q2
        obtain ⟨j, j1, j2, j3, j4⟩ := lcNames.at hys q1'
        have hv : σ[j]? = some (some v) := by
          rw [← htl, List.getElem?_map, j1] at q2'
          simp only [Option.map_some, Option.some.injEq] at q2'
          rw [List.getD_eq_getElem?_getD] at q2'
          cases e : σ[j]? with
          | none => rw [e] at q2'; simp at q2'
          | some z => rw [e] at q2'; simp at q2'; rw [q2']
        obtain ⟨m, hm, hl⟩ := I2.loc
        obtain ⟨u, ru, l⟩ := hl j y v j2 hv (.inr (.inl j3))
        refine ⟨u, ru, .inr ⟨lookup_relabel_free j4, ?_⟩⟩
        rcases l with ⟨l, _⟩ | ⟨_, c, lc, ic⟩
        · have l' : X.env.scope.names.lookup y = some .local := l
          rw [j3] at l'; cases l'
        · obtain ⟨c', hc'⟩ := frees_has (cells := X.env.cells) scope.names [] y (.inl (PySem.mem_of_lookup j4))
          have e := hsub _ _ hc'
          rw [lc] at e; cases e
          obtain ⟨o, io, id⟩ := ic
          exact ⟨c, hc', o, old c o io, id⟩
    · obtain ⟨v, o, io, id⟩ := I2.cell y c (hsub _ _ q)
      exact ⟨v, o, old c o io, id⟩
    · have e : p = (D, { cls := .type "list", data := .seq ([] : List Value).toArray }) := by simpa [lcCx] using hp
      subst e
      refine ⟨hDobj, hnoneD (Nat.le_refl _), hDC, fun z => ?_, fun v z => by cases z⟩
      obtain ⟨_, o, ho, _⟩ := I2.stack.mem z
      exact absurd (below D o ho) (Nat.lt_irrefl _)
    · show (none :: tl).length = (x :: ys).length
      rw [List.length_cons, List.length_cons, ← htl, List.length_map, tlLen]
  have stat : ∀ {pl : List (Addr × Obj)} {H' : Hp}, (∀ p ∈ pl, p.1 = D) → (∀ b ∈ fp, H' b = none) → ∀ b ∈ fp, FpOk Y pl H' b := fun {pl H'} hp hn b hb => by
    subst hY
    refine ⟨hn b hb, (yok.exf b hb).1, yok.exfs b hb, .inl hb, (yok.exf b hb).2, fun p q z => ?_⟩
    have q' : p ∈ pl := by simpa [lcCx] using q
    have e1 := hp p q'
    have e2 := fpD b hb
    rw [← z, e1] at e2
    exact Nat.lt_irrefl _ e2
  have loop : ∀ s₃ : Shared, s₃ = { s2 with heap := h₁, toks := s2.toks + ([] : List (Str × Value)).length } →
      codeAny (model X.prog X.w) X.A (.compLoop (.ListComp elt [⟨.Name x px, iter, [], 0⟩] scope pos) 0 (.ref it) (.ref D) (compEnvC scope (freesOf scope.names X.env.cells []) C X.env))
        (compPost (model X.prog X.w) X.A X.xe use Qv (.ref D) C) s₃ := by
    intro s₃ e3
    subst e3
    have hYp : Y.prog = X.prog := by subst hY; rfl
    have hYw : Y.w = X.w := by subst hY; rfl
    have hYK : Y.K = X.K := by subst hY; rfl
    have hYc : Y.calm = true := by subst hY; exact hc
    have hYA : Y.A = X.A := by subst hY; rfl
    have hYe : Y.env = compEnvC scope (freesOf scope.names X.env.cells []) C X.env := by subst hY; rfl
    have hYx : Y.xe = FlyC X scope (x :: ys) C s2 H1 fp E := by subst hY; rfl
    refine compLoop_anyX (EE := FlyC X scope (x :: ys) C s2 H1 fp E) (hEE := fun e0 s0 z => lc_err Lv mono I2 f2 (by rw [hD]; exact Nat.le_of_lt hDlt) z) (fun n s' => ∃ (i k : Nat) (acc : List V) (its : List Value) (b : Option V) (H' : Hp), Inv Y [(D, { cls := .type "list", data := .seq its.toArray k })] (b :: tl) H' s' ∧ tn i s'.heap ∧ (∀ c ∈ fp, H' c = none) ∧ Vals acc its ∧ acc.length ≤ sizeLine ∧ W i n acc H') ?_ m0
      ⟨0, 0, [], [], none, H1, start, T.keep 0 _ _ st2 fun b hb o q => old b o q, fun b hb => (f2 b hb).1, .nil, Nat.zero_le _, w0⟩
    rintro n s3 ⟨i, k, acc, its, b, H3, I3, st3, fr3, va, la, w3⟩
    have pD : ∀ p ∈ [((D, { cls := .type "list", data := .seq its.toArray k }) : Addr × Obj)], p.1 = D := fun p hp => by
      have e : p = (D, { cls := .type "list", data := .seq its.toArray k }) := by simpa using hp
      rw [e]
    have pinD := I3.pin (D, { cls := .type "list", data := .seq its.toArray k }) (by simp)
    rcases turn i n acc H3 w3 with ⟨stop, qn⟩ | ⟨go, lt, step⟩
    · have t := T.done Y hYp hYw hYK hYc i _ s3 _ H3 (fun _ _ => False) I3 (stat pD fr3) st3 stop
      rw [hYA] at t
      refine thn t fun r s4 ⟨hr, I4⟩ => ?_
      subst hr
      obtain ⟨m, hm, _⟩ := I4.loc
      rw [hYe] at hm
      have p4 := I4.pin (D, { cls := .type "list", data := .seq its.toArray k }) (by simp)
      have hfs : Y.fs = frs X.stack := by subst hY; rfl
      have hex : Y.ex = fp := by subst hY; rfl
      have hH0 : Y.H₀ = H1 := by subst hY; rfl
      have hs0 : Y.s₀ = s2 := by subst hY; rfl
      have u4 := I4.base
      rw [hfs, hex, hH0, hs0] at u4
      have neD : ∀ c o, s2.heap.get? c = some o → c ≠ D := fun c o q => Nat.ne_of_lt (below c o q)
      have freeC : H3 C = none := by
        have := I4.free
        rw [hYe] at this
        exact this
      have hokD : HOk X.prog X.w (upd H3 D (.lst acc)) s4.heap := by
        have hk4 := I4.hok
        rw [hYp, hYw] at hk4
        intro a o q
        by_cases ha : a = D
        · subst ha
          rw [upd_same] at q
          cases q
          exact ⟨la, its, k, va, p4.1⟩
        · rw [upd_ne ha] at q
          exact (hk4 a o q).stay (fun c v hcv z => z) (fun c z => by rw [upd_ne (ne_of_none z p4.2.1)]; exact z) (fun c xs z => by rw [upd_ne (ne_of_none z p4.2.1)]; exact z)
      have I9 : Inv X pins σ (upd H3 D (.lst acc)) s4 := by
        refine I2.call' (s' := s4) (ch := fp) ?_ ⟨fun c o q nn hb hx => u4.keep c o q nn hb hx, fun c o q nn hb hx => u4.slot c o q nn hb hx, fun c o q nn hx => ?_, fun c o q hx => u4.there c o q hx, fun c xs q => ?_, fun c o u q => ?_, fun c ps q => ?_⟩ hokD I4.bare (fun c hb => ⟨(f2 c hb).2.2.2.1, (f2 c hb).2.1, (f2 c hb).2.2.2.2.1, (f2 c hb).2.2.2.2.2⟩)
        · have := I4.os
          rw [hs0] at this
          exact this
        · rw [upd_ne (neD c o q)]
          exact u4.free c o q nn hx
        · have z := u4.tups c xs q
          rw [upd_ne (ne_of_none z p4.2.1)]; exact z
        · have z := u4.frzs c o u q
          rw [upd_ne (ne_of_none z p4.2.1)]; exact z
        · obtain ⟨more, z⟩ := u4.tbls c ps q
          exact ⟨more, by rw [upd_ne (ne_of_none z p4.2.1)]; exact z⟩
      have atC : ∀ b o, s2.heap.get? b = some o → b ≠ C := fun b o q => Nat.ne_of_lt (Nat.lt_trans (below b o q) hDlt)
      refine hfin D C s4 ⟨?_, ⟨m, hm⟩, ?_, fun z => ?_, ?_, fun y c q => ?_, fun p hp => ?_⟩
      · obtain ⟨oC, es, ep, h1', h2', _⟩ := hm
        exact ⟨H3, acc, oC, I9, qn D p4.2.1, by rw [upd_ne (Ne.symm hDC)]; exact freeC, h1', fun v z => by rw [h2'] at z; cases z⟩
      · have := I2.lt
        rw [hD] at this
        exact Nat.ne_of_gt (Nat.lt_trans this hDlt)
      · obtain ⟨_, o, ho, _⟩ := I2.funs.mem z
        exact atC _ o ho rfl
      · have := I2.sz
        rw [hD] at this
        omega
      · exact Nat.ne_of_lt (Nat.lt_trans (cellLt y c q) hDlt)
      · exact atC _ _ (I2.pin p hp).1
    · have t := T.item Y hYp hYw hYK hYc i _ s3 _ H3 (fun _ _ => False) I3 (stat pD fr3) st3 go
      rw [hYA] at t
      refine thn t fun r s4 ⟨u, hr, h4⟩ => ?_
      subst hr
      refine thn h4 fun _ s5 ⟨xv, H5, I5, r5, y5, st5, fr5⟩ => ?_
      have I5' := I5.pinned (stat pD fr5) (T.obj _ _ st5)
      have hN : Y.N = x :: ys := by subst hY; rfl
      have stx : wpAny (model X.prog X.w) X.A (storeName (compEnvC scope (freesOf scope.names X.env.cells []) C X.env) x u) (fun _ s' => Inv Y ([(D, { cls := .type "list", data := .seq its.toArray k })] ++ pinsAt fp s5.heap) (some xv :: tl) H5 s') (fun _ _ => False) s5 := by
        rw [← hYe]
        refine store_ok (i := 0) I5' (by rw [hN]; exact hnd) (by rw [hN]; rfl) ?_ r5 (fun s' I' => I') ?_
        · rw [hYe]; exact .inl (lookup_relabel_local hx)
        · rw [hYe]; exact .inr (lookup_relabel_local hx)
      refine wpAny_assign_Name (thn stx fun _ s6 I6 => ?_)
      have el := he C s2 H1 fp
      rw [hY] at el
      have q6 := step xv H5 y5
      rw [htl] at q6
      have ev := el _ s6 _ H5 _ I6 q6
      rw [hYp, hYw, hYA, hYe, hYx] at ev
      refine thn ev fun yv s7 ⟨y, H7, I7, r7, m', hm, w7⟩ => ?_
      have p7 := I7.pin (D, { cls := .type "list", data := .seq its.toArray k }) (by simp)
      refine wpAny_list_append_plain ⟨k, p7.1⟩ (fun h8 pl8 sb8 => ?_) (by rw [List.size_toArray, ← va.length]; exact la)
      obtain ⟨k8, e8⟩ := pl8
      refine ⟨m', hm, i + 1, k8, acc ++ [y], its ++ [yv], some xv, H7, ?_, ?_, fun c hb => ?_, va.append (.cons r7 .nil), ?_, w7⟩
      · have J7 : Inv Y [] (some xv :: tl) H7 s7 := I7.pins_of (pins' := []) fun p hp => absurd hp (by simp)
        have hDs : Y.s₀.heap.objs.size ≤ D := by subst hY; show s2.heap.objs.size ≤ D; omega
        have J8 : Inv Y [] (some xv :: tl) H7 { s7 with heap := h8, toks := s7.toks } := J7.turned (it := D) (fun c o hcD q => sb8.extBut c o hcD q) p7.2.1 p7.2.2.1 (.inr hDs) (fun z c q => by
          have := hsub z c (by rw [hYe] at q; exact q)
          exact Nat.ne_of_lt (cellLt _ _ this)) (fun p hp => by
            subst hY
            have hp' : p ∈ ([] : List (Addr × Obj)) := hp
            simp at hp')
        refine J8.pins_of fun p hp => ?_
        have e : p = (D, { cls := .type "list", data := .seq (its ++ [yv]).toArray k8 }) := by simpa using hp
        subst e
        refine ⟨?_, p7.2.1, p7.2.2.1, p7.2.2.2.1, fun v z => by cases z⟩
        show h8.get? D = _
        rw [e8]
        simp
      · refine T.keep _ _ _ st5 fun c hb o q => ?_
        have z := (I7.pin (c, o) (List.mem_append_right _ (List.mem_append_right _ (mem_pinsAt hb q)))).1
        exact sb8.extBut c o (Nat.ne_of_lt (fpD c hb)) z
      · obtain ⟨o, q, d⟩ := T.obj _ _ st5 c hb
        exact (I7.pin (c, o) (List.mem_append_right _ (List.mem_append_right _ (mem_pinsAt hb q)))).2.1
      · rw [List.length_append, List.length_singleton]; omega
  exact codeAny_compStart_list (loop _ rfl) (T.self _ 0 _ _ _ (T.keep 0 _ _ st2 fun b hb o q => old b o q) (loop _ rfl))

theorem pe_lcX {elt iter : Expr} {x : Str} {px pos : Pos} {scope : Scope} {ys : List Str} {js : List Nat} {wi : TI} {te : TE} {E E' : XK} (Lv : Leaves X E') (mono : ∀ c d H, E c d H → E' c d H) (hc : X.calm = true) (hi : PI X (.Name x px) iter wi)
    (hkind : scope.kind = .function) (hcell : ∀ y ∈ scope.names, y.2 ≠ .cell) (hloc : ∀ y ∈ scope.names, y.2 = .local → scope.names.lookup y.1 = some .local) (hx : scope.names.lookup x = some .local)
    (hfree : scope.names.all (fun y => y.2 != .free || (X.env.cells.lookup y.1).isSome) = true) (hys : lcNames X.N X.env.scope scope js ys = true) (hnd : (x :: ys).Nodup)
    (he : ∀ (C : Addr) (s₂ : Shared) (H₁ : Hp) (fp : List Addr) (xe : Value → Shared → Prop), Passes (CXe X.prog X.w) ((lcCx X scope (x :: ys) C s₂ H₁ fp).wish xe) E → PE ((lcCx X scope (x :: ys) C s₂ H₁ fp).wish xe) elt te)
    (hs : ∀ v, foldedSetIterable iter X.env v = pure v := by intro _; rfl) : PE X (.ListComp elt [⟨.Name x px, iter, [], 0⟩] scope pos) (tLC wi js te) := by
  intro pins s σ H Q I h
  rw [eval_ListComp]
  refine lc_coreX none Lv mono hc hi hkind hcell hloc hx hfree hys hnd (fun C s₂ H₁ fp => he C s₂ H₁ fp _ FlyC.pass) hs I h fun D C s4 L => ?_
  obtain ⟨H4, acc, oC, I4, q, fc, gC, _⟩ := L.run
  obtain ⟨m, hm⟩ := L.ns
  refine ⟨m, hm, fun h' sb => ⟨.ref D, _, I4.turned (t' := s4.toks) (it := C) (fun b o hb e => sb.extBut b o hb e) fc L.loc (.inr L.new) L.cell L.pin, rfl, q⟩⟩
end
end L2

set_option Elab.async false
set_option linter.all false
set_option maxRecDepth 100000
/-! ### texts: split by "; ", partition by a blank -/
namespace Rf
open PySem PySem.Builtin PySem.Builtin.Str PySem.StrLaws
abbrev tl (x : Str) : List Nat := x.cps.toList
def sepS : Str := ⟨#[59, 32]⟩
def blk : Str := ⟨#[32]⟩
def cons1 (c : Nat) : List (List Nat) → List (List Nat)
  | [] => [[c]]
  | p :: ps => (c :: p) :: ps
def isSep (c : Nat) (r : List Nat) : Bool := c == 59 && r.head? == some 32
def splitL : List Nat → List (List Nat)
  | [] => [[]]
  | c :: r => if isSep c r then [] :: splitL r.tail else cons1 c (splitL r)
termination_by l => l.length
decreasing_by
  all_goals simp
  all_goals omega
theorem str_ext {x y : Str} (h : tl x = tl y) : x = y := Str.ext' (Array.toList_inj.mp h)
theorem tl_append (x y : Str) : tl (x ++ y) = tl x ++ tl y := by
  show ((x ++ y).cps).toList = _
  rw [Str.cps_append, Array.toList_append]
theorem tl_length (x : Str) : (tl x).length = x.length := by simp [tl, Str.length]
def P (l : List Nat) (i : Nat) : Bool := l[i]? == some 59 && l[i + 1]? == some 32
theorem at_iff (x : Str) (i : Nat) : At x sepS x.length i ↔ P (tl x) i = true := by
  unfold At P
  rw [subAt_eq]
  show (i + 2 ≤ x.length ∧ (((tl x).drop i).take 2 == [59, 32]) = true) ↔ _
  rw [← tl_length]
  generalize tl x = l
  constructor
  · rintro ⟨h1, h2⟩
    have e := eq_of_beq h2
    have e0 : ((l.drop i).take 2)[0]? = some 59 := by rw [e]; rfl
    have e1 : ((l.drop i).take 2)[1]? = some 32 := by rw [e]; rfl
    simp only [List.getElem?_take, List.getElem?_drop] at e0 e1
    simp at e0 e1
    simp [e0, e1]
  · intro h
    simp only [Bool.and_eq_true, beq_iff_eq] at h
    obtain ⟨h1, h2⟩ := h
    have hl : i + 1 < l.length := (List.getElem?_eq_some_iff.mp h2).1
    refine ⟨by omega, ?_⟩
    rw [beq_iff_eq]
    apply List.ext_getElem?
    intro j
    match j with
    | 0 => simp [List.getElem?_take, List.getElem?_drop, h1]
    | 1 => simp [List.getElem?_take, List.getElem?_drop, h2]
    | j + 2 =>
      simp [List.getElem?_take]
      omega
theorem P_next {l : List Nat} {i : Nat} (h : P l i = true) : P l (i + 1) = false := by
  unfold P at h ⊢
  simp only [Bool.and_eq_true, beq_iff_eq] at h
  rw [h.2]
  rfl
theorem occ_run (x : Str) (limit : Nat) : ∀ (m a : Nat) (st : Array Nat × Nat), a + m ≤ limit → st.1.size ≤ a → (st.2 ≤ a ∨ (st.2 = a + 1 ∧ P (tl x) a = false)) →
    (forIn (List.range' a m) st (occBody x sepS x.length limit)).run.fst.toList = st.1.toList ++ (List.range' a m).filter (P (tl x))
  | 0, a, st, _, _, _ => by simp
  | m + 1, a, st, hl, hs, hf => by
    rw [List.range'_succ, List.forIn_cons, List.filter_cons]
    by_cases h : P (tl x) a = true
    · have ha := (at_iff x a).mpr h
      have hfa : st.2 ≤ a := by
        rcases hf with z | ⟨_, z⟩
        · exact z
        · rw [h] at z; cases z
      unfold occBody
      rw [if_pos ⟨⟨⟨by omega, hfa⟩, ha.1⟩, ha.2⟩, if_pos h]
      have := occ_run x limit m (a + 1) (st.1.push a, a + sepS.length) (by omega) (by simp; omega) (.inr ⟨rfl, P_next h⟩)
      show (forIn (List.range' (a + 1) m) (st.1.push a, a + sepS.length) (occBody x sepS x.length limit)).run.fst.toList = _
      rw [this]
      simp
    · have hn : ¬ (((st.1.size < limit ∧ st.2 ≤ a) ∧ a + sepS.length ≤ x.length) ∧ subAt x sepS a = true) := fun z => h ((at_iff x a).mp ⟨z.1.2, z.2⟩)
      unfold occBody
      rw [if_neg hn, if_neg h]
      exact occ_run x limit m (a + 1) (st.1, st.2) (by omega) (by show st.1.size ≤ _; omega) (.inl (by
        show st.2 ≤ _
        rcases hf with z | z <;> omega))
theorem occ_filter (x : Str) : occurrences x sepS 0 x.length (x.length + 1) = (List.range' 0 (x.length + 1)).filter (P (tl x)) := by
  rw [occ_eq, Nat.sub_zero, occ_run x (x.length + 1) (x.length + 1) 0 (#[], 0) (by omega) (by simp) (.inl (Nat.le_refl _))]
  simp
theorem sub_tl (x : Str) (i j : Nat) : tl (strSub x i j) = ((tl x).drop i).take (j - i) := strSub_toList x i j
theorem filter_tail {l : List Nat} {a m : Nat} (h : ∀ i, a ≤ i → P l i = false) : (List.range' a m).filter (P l) = [] := by
  rw [List.filter_eq_nil_iff]
  intro i hi
  rw [h i (List.mem_range'_1.mp hi).1]
  simp
theorem P_le {l : List Nat} {i : Nat} (h : l.length ≤ i + 1) : P l i = false := by
  unfold P
  rw [List.getElem?_eq_none h]
  simp
theorem parts_run (x : Str) : ∀ (k a : Nat), (tl x).length - a = k → a ≤ (tl x).length →
    (partsFrom x 2 a ((List.range' a ((tl x).length + 1 - a)).filter (P (tl x)))).map tl = splitL ((tl x).drop a) := by
  intro k
  induction k using Nat.strongRecOn with
  | ind k ih =>
    intro a hk ha
    by_cases h0 : a = (tl x).length
    · subst h0
      rw [filter_tail fun i hi => P_le (by omega)]
      rw [List.drop_length, splitL]
      show [tl (strSub x (tl x).length x.length)] = _
      rw [sub_tl, List.drop_length]
      simp
    · have hlt : a < (tl x).length := by omega
      have hd : (tl x).drop a = (tl x)[a] :: (tl x).drop (a + 1) := List.drop_eq_getElem_cons hlt
      have hr : (List.range' a ((tl x).length + 1 - a)) = a :: List.range' (a + 1) ((tl x).length + 1 - (a + 1)) := by
        rw [show (tl x).length + 1 - a = ((tl x).length + 1 - (a + 1)) + 1 by omega, List.range'_succ]
      rw [hr, List.filter_cons]
      have hs : isSep (tl x)[a] ((tl x).drop (a + 1)) = P (tl x) a := by
        unfold isSep P
        rw [List.getElem?_eq_getElem hlt, List.head?_drop]
        simp
      by_cases h : P (tl x) a = true
      · rw [if_pos h, hd, splitL, if_pos (by rw [hs]; exact h)]
        have h1 : a + 1 < (tl x).length := by
          by_cases z : a + 1 < (tl x).length
          · exact z
          · rw [P_le (by omega)] at h; cases h
        have hr2 : (List.range' (a + 1) ((tl x).length + 1 - (a + 1))) = (a + 1) :: List.range' (a + 2) ((tl x).length + 1 - (a + 2)) := by
          rw [show (tl x).length + 1 - (a + 1) = ((tl x).length + 1 - (a + 2)) + 1 by omega, List.range'_succ]
        rw [hr2, List.filter_cons, if_neg (by rw [P_next h]; simp)]
        show tl (strSub x a a) :: (partsFrom x 2 (a + 2) _).map tl = _
        rw [ih ((tl x).length - (a + 2)) (by omega) (a + 2) rfl (by omega), sub_tl]
        simp
      · rw [if_neg h, hd, splitL, if_neg (by rw [hs]; exact h)]
        rw [← ih ((tl x).length - (a + 1)) (by omega) (a + 1) rfl (by omega)]
        have st : ∀ c, a + 1 ≤ c → tl (strSub x a c) = (tl x)[a] :: tl (strSub x (a + 1) c) := fun c hc => by
          rw [sub_tl, sub_tl, hd, show c - a = (c - (a + 1)) + 1 by omega, List.take_succ_cons]
        generalize hF : (List.range' (a + 1) ((tl x).length + 1 - (a + 1))).filter (P (tl x)) = F
        cases F with
        | nil =>
          show [tl (strSub x a x.length)] = cons1 _ [tl (strSub x (a + 1) x.length)]
          rw [st _ (by rw [← tl_length]; omega)]
          rfl
        | cons c cs =>
          have hc : a + 1 ≤ c := by
            have : c ∈ (List.range' (a + 1) ((tl x).length + 1 - (a + 1))).filter (P (tl x)) := by rw [hF]; exact List.mem_cons_self
            exact (List.mem_range'_1.mp (List.mem_filter.mp this).1).1
          show tl (strSub x a c) :: (partsFrom x 2 (c + 2) cs).map tl = cons1 _ (tl (strSub x (a + 1) c) :: (partsFrom x 2 (c + 2) cs).map tl)
          rw [st _ hc]
          rfl
theorem kind_pos (x : Str) : 1 ≤ PySem.Builtin.Str.strKind x := by
  unfold PySem.Builtin.Str.strKind
  split
  · exact Nat.le_refl _
  · split <;> decide
theorem split_tl (x : Str) : (Txt.split x sepS).map tl = splitL (tl x) := by
  have main : (partsBetween x (occurrences x sepS 0 x.length (x.length + 1)) sepS.length).map tl = splitL (tl x) := by
    rw [partsBetween_eq, occ_filter]
    have := parts_run x ((tl x).length) 0 (by omega) (by omega)
    rw [Nat.sub_zero, tl_length] at this
    exact this
  have one : occurrences x sepS 0 x.length (x.length + 1) = [] → [x].map tl = splitL (tl x) := fun z => by
    rw [z, partsBetween_eq] at main
    rw [← main]
    show [tl x] = [tl (strSub x 0 x.length)]
    rw [sub_whole]
  have k1 : decide (PySem.Builtin.Str.strKind x < PySem.Builtin.Str.strKind sepS) = false := by
    rw [decide_eq_false_iff_not, show PySem.Builtin.Str.strKind sepS = 1 by decide +kernel]
    have := kind_pos x
    omega
  unfold Txt.split
  rw [k1, Bool.or_false]
  split
  · rename_i h
    refine one ?_
    rw [occ_filter, List.filter_eq_nil_iff]
    intro i _
    have h2 : x.length < 2 := of_decide_eq_true h
    rw [P_le (by rw [tl_length]; omega)]
    simp
  · split
    · rename_i h
      exact one (List.isEmpty_iff.mp h)
    · exact main
/-! join, and what is split again -/
theorem splitL_app : ∀ (p r : List Nat), 59 ∉ p → splitL (p ++ 59 :: 32 :: r) = p :: splitL r
  | [], r, _ => by
    rw [List.nil_append, splitL, if_pos (show isSep 59 (32 :: r) = true by simp [isSep])]
    rfl
  | c :: p, r, h => by
    have hc : c ≠ 59 := fun z => h (by rw [z]; exact List.mem_cons_self)
    rw [List.cons_append, splitL, if_neg (by simp [isSep, hc]), splitL_app p r fun z => h (List.mem_cons_of_mem _ z)]
    rfl
theorem splitL_one : ∀ (p : List Nat), 59 ∉ p → splitL p = [p]
  | [], _ => by rw [splitL]
  | c :: p, h => by
    have hc : c ≠ 59 := fun z => h (by rw [z]; exact List.mem_cons_self)
    rw [splitL, if_neg (by simp [isSep, hc]), splitL_one p fun z => h (List.mem_cons_of_mem _ z)]
    rfl
theorem split_join : ∀ (ps : List Str), ps ≠ [] → (∀ p ∈ ps, 59 ∉ tl p) → splitL (tl (Str.join sepS ps)) = ps.map tl
  | [], h, _ => absurd rfl h
  | [p], _, h => by
    show splitL (tl p) = [tl p]
    exact splitL_one _ (h p List.mem_cons_self)
  | p :: q :: r, _, h => by
    show splitL (tl (p ++ sepS ++ Str.join sepS (q :: r))) = tl p :: (q :: r).map tl
    rw [tl_append, tl_append, ← split_join (q :: r) (by simp) fun z hz => h z (List.mem_cons_of_mem _ hz)]
    rw [List.append_assoc]
    exact splitL_app _ _ (h p List.mem_cons_self)
theorem map_tl_inj : ∀ {a b : List Str}, a.map tl = b.map tl → a = b
  | [], [], _ => rfl
  | [], _ :: _, h => by cases h
  | _ :: _, [], h => by cases h
  | x :: a, y :: b, h => by
    rw [List.map_cons, List.map_cons] at h
    injection h with h1 h2
    rw [str_ext h1, map_tl_inj h2]
theorem split_joined (ps : List Str) (h : ps ≠ []) (hp : ∀ p ∈ ps, 59 ∉ tl p) : Txt.split (Str.join sepS ps) sepS = ps := map_tl_inj ((split_tl _).trans (split_join ps h hp))
/-! partition by a blank -/
theorem part_blank (x : Str) : (32 ∉ tl x ∧ Txt.partition x blk = (x, Str.empty, Str.empty)) ∨ ∃ a b : Str, x = a ++ blk ++ b ∧ 32 ∉ tl a ∧ Txt.partition x blk = (a, blk, b) := by
  rcases occ_head x blk 1 (Nat.le_refl _) with ⟨h0, hn⟩ | ⟨i, r, h0, ha, hk⟩
  · refine .inl ⟨fun z => ?_, by unfold Txt.partition; rw [h0]⟩
    obtain ⟨i, hi⟩ := List.mem_iff_getElem?.mp z
    exact hn i ((subAt_one x 32 i).mpr hi)
  · have hs := partition_sum x blk
    refine .inr ⟨strSub x 0 i, strSub x (i + 1) x.length, ?_, fun z => ?_, ?_⟩
    · unfold Txt.partition at hs
      rw [h0] at hs
      exact hs.symm
    · rw [sub_tl, List.drop_zero, Nat.sub_zero] at z
      obtain ⟨j, hj⟩ := List.mem_iff_getElem?.mp z
      rw [List.getElem?_take] at hj
      split at hj
      · rename_i hlt
        exact hk j hlt ((subAt_one x 32 j).mpr hj)
      · cases hj
    · unfold Txt.partition
      rw [h0]
      rfl
theorem part_of (a b : Str) (h : 32 ∉ tl a) : Txt.partition (a ++ blk ++ b) blk = (a, blk, b) := by
  rcases part_blank (a ++ blk ++ b) with ⟨h1, _⟩ | ⟨a', b', e, h2, h3⟩
  · exact absurd (by rw [tl_append, tl_append]; simp [blk]) h1
  · rw [h3]
    have e' : tl a ++ (32 :: tl b) = tl a' ++ (32 :: tl b') := by
      have := congrArg tl e
      rw [tl_append, tl_append, tl_append, tl_append, List.append_assoc, List.append_assoc] at this
      exact this
    have key : ∀ (u v p q : List Nat), 32 ∉ u → 32 ∉ v → u ++ 32 :: p = v ++ 32 :: q → u = v ∧ p = q := by
      intro u
      induction u with
      | nil =>
        intro v p q _ hv h
        cases v with
        | nil => injection h with _ h; exact ⟨rfl, h⟩
        | cons c v => injection h with h _; exact absurd (by rw [h]; exact List.mem_cons_self) hv
      | cons c u ih =>
        intro v p q hu hv h
        cases v with
        | nil => injection h with h _; exact absurd (by rw [h]; exact List.mem_cons_self) hu
        | cons d v =>
          rw [List.cons_append, List.cons_append] at h
          injection h with h1 h2
          obtain ⟨e1, e2⟩ := ih v p q (fun z => hu (List.mem_cons_of_mem _ z)) (fun z => hv (List.mem_cons_of_mem _ z)) h2
          exact ⟨by rw [h1, e1], e2⟩
    obtain ⟨e1, e2⟩ := key _ _ _ _ h h2 e'
    rw [str_ext e1.symm, str_ext e2.symm]
end Rf

set_option Elab.async false
set_option linter.all false
set_option maxRecDepth 100000
/-! ### texts: split, partition, strip, slices -/
namespace L2
open PySem PySem.Spec PyProof.Rows PySem.Builtin.Str
section
variable {X : Cx}
theorem vals_numbered : ∀ (l : List (Str × Tok)), Vals ((l.map (·.1)).map V.str) (strValues l)
  | [] => .nil
  | p :: l => .cons ⟨p.2, rfl⟩ (vals_numbered l)
theorem mt_split : MtM X "str.split" (fun x xs H Q => ∃ z : Str, x = .str z ∧ xs = [.str Rf.sepS] ∧ z.length ≤ 100000 ∧ ∀ l, H l = none → Q (.ref l) (upd H l (.lst ((Txt.split z Rf.sepS).map V.str)))) := by
  intro pins s σ H x xs v us Q I rx rv h
  obtain ⟨z, rfl, rfl, hz, q⟩ := h
  obtain ⟨t, rfl⟩ := rx
  obtain ⟨u, rfl, t', rfl⟩ := rv.one
  have big : (100001 : Nat) ≤ sizeLine := by decide
  have hn : (partsBetween z (occurrences z Rf.sepS 0 z.length (z.length + 1)) Rf.sepS.length).length ≤ 100002 := by
    have h2 := StrLaws.occ_length_le z Rf.sepS 0 z.length (z.length + 1)
    unfold partsBetween
    rw [List.length_map, List.length_zip, List.length_cons, List.length_map, List.length_append]
    refine Nat.le_trans (Nat.min_le_left _ _) ?_
    omega
  have big : (100002 : Nat) ≤ sizeLine := by decide
  have hzl : z.length ≤ sizeLine := Nat.le_trans hz (Nat.le_trans (by decide) big)
  have end1 : ∀ (l : List (Str × Tok)) (k : Nat), l.map (·.1) = Txt.split z Rf.sepS → l.length ≤ 100002 → EP X pins σ Q (.ref s.heap.objs.size) { s with toks := k, heap := s.heap.push { cls := .type "list", data := .seq (strValues l).toArray } } := by
    intro l k e hl
    refine ⟨.ref s.heap.objs.size, _, I.laid (t' := k) (o := .lst ((Txt.split z Rf.sepS).map V.str)) (fun b ob q => Heap.get?_push_of_some _ q) (Nat.le_refl _) ?_, rfl, q _ (I.hok.fresh (Nat.le_refl _))⟩
    have r := vals_numbered l
    rw [e] at r
    refine ⟨?_, strValues l, 0, r, Heap.get?_push_size _ rfl⟩
    rw [List.length_map, ← e, List.length_map]
    exact Nat.le_trans hl big
  cases h1 : (decide (z.length < Rf.sepS.length) || decide (strKind z < strKind Rf.sepS))
  · cases hf : (occurrences z Rf.sepS 0 z.length (z.length + 1)).isEmpty
    · refine call_meets F.slot_str_split (typeIs_str _ _ _) F.entry_str_split (F.args_str_split_2 _ _) (meets_str_split_sep z Rf.sepS t t' h1 rfl hf hzl (Nat.le_trans hn big)) ?_
      rw [strsFrom_eq]
      refine end1 (numbered s.toks _) _ ?_ ?_
      · rw [numbered_texts]
        unfold Txt.split
        rw [if_neg (by rw [h1]; simp), if_neg (by rw [hf]; simp)]
      · have := congrArg List.length (numbered_texts s.toks (partsBetween z (occurrences z Rf.sepS 0 z.length (z.length + 1)) Rf.sepS.length))
        rw [List.length_map] at this
        rw [this]
        exact hn
    · refine call_meets F.slot_str_split (typeIs_str _ _ _) F.entry_str_split (F.args_str_split_2 _ _) (meets_str_split_not_found z Rf.sepS t t' h1 rfl hf) ?_
      refine end1 [(z, t)] _ ?_ (by simp)
      unfold Txt.split
      rw [if_neg (by rw [h1]; simp), if_pos hf]
      rfl
  · refine call_meets F.slot_str_split (typeIs_str _ _ _) F.entry_str_split (F.args_str_split_2 _ _) (meets_str_split_cannot_occur z Rf.sepS t t' h1) ?_
    refine end1 [(z, t)] _ ?_ (by simp)
    unfold Txt.split
    rw [if_pos h1]
    rfl
theorem mt_partition : MtM X "str.partition" (fun x xs H Q => ∃ z : Str, x = .str z ∧ xs = [.str Rf.blk] ∧ z.length ≤ sizeLine ∧
    ∀ l, H l = none → Q (.ref l) (upd H l (.tup [.str (Txt.partition z Rf.blk).1, .str (Txt.partition z Rf.blk).2.1, .str (Txt.partition z Rf.blk).2.2]))) := by
  intro pins s σ H x xs v us Q I rx rv h
  obtain ⟨z, rfl, rfl, hz, q⟩ := h
  obtain ⟨t, rfl⟩ := rx
  obtain ⟨u, rfl, t', rfl⟩ := rv.one
  refine call_meets F.slot_str_partition (typeIs_str _ _ _) F.entry_str_partition (F.args_str_partition_2 _ _) (meets_str_partition z Rf.blk t t' rfl hz) ?_
  have end1 : ∀ (a b c : Str) (t1 t2 t3 : Tok) (k : Nat), Txt.partition z Rf.blk = (a, b, c) → EP X pins σ Q (.ref s.heap.objs.size) { s with toks := k, heap := s.heap.push { cls := .type "tuple", data := .seq [.str a t1, .str b t2, .str c t3].toArray } } := by
    intro a b c t1 t2 t3 k e
    rw [e] at q
    refine ⟨.ref s.heap.objs.size, _, I.laid (t' := k) (o := .tup [.str a, .str b, .str c]) (fun b ob q => Heap.get?_push_of_some _ q) (Nat.le_refl _) ?_, rfl, q _ (I.hok.fresh (Nat.le_refl _))⟩
    exact ⟨(by decide : 3 ≤ sizeLine), _, .cons ⟨t1, rfl⟩ (.cons ⟨t2, rfl⟩ (.cons ⟨t3, rfl⟩ .nil)), ⟨_, Heap.get?_push_size _ rfl, rfl, _, rfl⟩⟩
  cases ho : occurrences z Rf.blk 0 z.length 1 with
  | nil => exact end1 _ _ _ _ _ _ _ (by unfold Txt.partition; rw [ho])
  | cons i r => exact end1 _ _ _ _ _ _ _ (by unfold Txt.partition; rw [ho])
/-- text.strip(signs) -/
theorem mt_strip : MtM X "str.strip" (fun x xs H Q => ∃ z c : Str, x = .str z ∧ xs = [.str c] ∧ z.length ≤ sizeLine ∧ Q (.str (Txt.stripChars z c)) H) := by
  intro pins s σ H x xs v us Q I rx rv h
  obtain ⟨z, c, rfl, rfl, hz, q⟩ := h
  obtain ⟨t, rfl⟩ := rx
  obtain ⟨u, rfl, t', rfl⟩ := rv.one
  refine call_gives F.slot_str_strip (typeIs_str _ _ _) F.entry_str_strip (F.args_str_strip_2 _ _) (gives_str_strip_chars z c t t') ?_
  refine post_val_or_made (fun _ => fits_stripped _ _ _ hz) fun t2 k => ?_
  exact ⟨.str _, H, I.tok _, ⟨t2, rfl⟩, q⟩
/-- a piece of a text, whatever it is -/
theorem sl_strAny : SlR X (fun x lo hi H Q => ∃ z : Str, x = .str z ∧ z.length ≤ sizeLine ∧ ∀ z' : Str, z'.length ≤ z.length → Q (.str z') H) := by
  intro pins s σ H x v vl vu lo hi sl Q I rx hs pl pu h
  obtain ⟨z, rfl, hz, q⟩ := h
  obtain ⟨t, rfl⟩ := rx
  refine ⟨"str", _, F.slot_str_getitem.lookup, typeIs_str _ _ _, ?_⟩
  have part : ∀ {u : Value} {o : Option Int}, IsPart u o → ∃ q : Option (Int × Tok), u = partValue q ∧ q.map (·.1) = o := fun {u o} p => by
    cases p with
    | none => exact ⟨none, rfl, rfl⟩
    | int i k => exact ⟨some (i, k), rfl, rfl⟩
  obtain ⟨l, rfl, el⟩ := part pl
  obtain ⟨u, rfl, eu⟩ := part pu
  refine wpAny_getItem_str_slice (l := l) (u := u) (st := none) hs rfl ?_
  have hlen : ∀ L : List Nat, L.length ≤ z.length → (⟨(L.filterMap (z.cps[·]?)).toArray⟩ : Str).length ≤ z.length := fun L hL => by
    show (L.filterMap (z.cps[·]?)).toArray.size ≤ _
    rw [List.size_toArray]
    exact Nat.le_trans (List.length_filterMap_le _ _) hL
  have hpk : (slicePicked z l u none).length ≤ z.length := sliceIndices_le _ _ _
  refine post_val_or_made (fun _ => Nat.le_trans (hlen _ hpk) hz) fun t2 k => ⟨.str _, H, I.tok _, ⟨t2, rfl⟩, q _ ?_⟩
  split
  · exact Nat.le_refl _
  · exact hlen _ hpk
end
end L2

namespace Rf
open List

/-- an order: all numbers below its length, once each -/
def IsOrd (xs : List Nat) : Prop := xs.Perm (range xs.length)
theorem IsOrd.lt {xs : List Nat} (h : IsOrd xs) : ∀ x ∈ xs, x < xs.length := fun _ hx => mem_range.mp (h.mem_iff.mp hx)
theorem IsOrd.nodup {xs : List Nat} (h : IsOrd xs) : xs.Nodup := h.nodup_iff.mpr nodup_range
theorem IsOrd.of_perm {xs ys : List Nat} (h : IsOrd xs) (p : ys.Perm xs) : IsOrd ys := by
  unfold IsOrd at *; rw [p.length_eq]; exact p.trans h

/-- what done makes -/
def pick (xs src : List Nat) : List Nat := src.map fun i => xs.getD i 0
/-- one turn of undone -/
def putAt (xs : List Nat) (b : List Nat) (i s : Nat) : List Nat := b.set s (xs.getD i 0)
/-- undone's loop from place i on -/
def unGo (xs : List Nat) : List Nat → Nat → List Nat → List Nat
  | [], _, b => b
  | s :: r, i, b => unGo xs r (i + 1) (b.set s (xs.getD i 0))
def unpick (xs src : List Nat) : List Nat := unGo xs src 0 xs

theorem pick_length (xs src : List Nat) : (pick xs src).length = src.length := by simp [pick]

theorem perm_lt {src : List Nat} {n : Nat} (p : src.Perm (range n)) : ∀ s ∈ src, s < n := fun _ hs => mem_range.mp (p.mem_iff.mp hs)
theorem perm_len {src : List Nat} {n : Nat} (p : src.Perm (range n)) : src.length = n := by simpa using p.length_eq

theorem pick_map_range (xs : List Nat) : pick xs (range xs.length) = xs := by
  apply ext_getElem?
  intro j
  by_cases hj : j < xs.length
  · simp [pick, hj, getD_eq_getElem?_getD]
  · rw [getElem?_eq_none (by rw [pick_length, length_range]; omega), getElem?_eq_none (by omega)]
theorem pick_ord {xs src : List Nat} (h : IsOrd xs) (p : src.Perm (range xs.length)) : IsOrd (pick xs src) := by
  refine h.of_perm ?_
  have := p.map (fun i => xs.getD i 0)
  exact this.trans (by rw [show (range xs.length).map (fun i => xs.getD i 0) = xs from pick_map_range xs])

/-! the six -/
def srcCut (m n : Nat) : List Nat := range' m (n - m) ++ range m
def srcTurn (n : Nat) : List Nat := (range n).reverse
theorem srcCut_perm {m n : Nat} (h : m ≤ n) : (srcCut m n).Perm (range n) := by
  unfold srcCut
  refine perm_append_comm.trans ?_
  have : range n = range m ++ range' m (n - m) := by
    rw [range_eq_range', range_eq_range', show n = m + (n - m) by omega, ← range'_append_1]
    simp
  rw [this]
theorem srcTurn_perm (n : Nat) : (srcTurn n).Perm (range n) := reverse_perm _

def cutL {α} (xs : List α) (m : Nat) : List α := xs.drop m ++ xs.take m
theorem getD_range' (xs : List Nat) (m k : Nat) (h : m + k ≤ xs.length) : (range' m k).map (fun i => xs.getD i 0) = (xs.drop m).take k := by
  apply ext_getElem?
  intro j
  by_cases hj : j < k
  · have : m + j < xs.length := by omega
    simp [hj, getD_eq_getElem?_getD, this]
  · rw [getElem?_eq_none (by simp; omega), getElem?_eq_none (by simp; omega)]
theorem pick_cut {xs : List Nat} {m : Nat} (h : m ≤ xs.length) : pick xs (srcCut m xs.length) = cutL xs m := by
  unfold pick srcCut cutL
  rw [map_append, getD_range' xs m _ (by omega), range_eq_range', getD_range' xs 0 m (by omega)]
  rw [drop_zero, take_of_length_le (by simp)]
theorem pick_turn (xs : List Nat) : pick xs (srcTurn xs.length) = xs.reverse := by
  unfold srcTurn
  have := pick_map_range xs
  unfold pick at *
  rw [map_reverse, this]

/-! under -/
def underGo {α} : List α → List α → List α
  | [], laid => laid
  | [x], laid => laid ++ [x]
  | x :: y :: r, laid => underGo (r ++ [y]) (laid ++ [x])
termination_by pack _ => pack.length
decreasing_by simp
def under {α} (xs : List α) : List α := (underGo xs []).reverse
theorem underGo_perm {α} (pack laid : List α) : (underGo pack laid).Perm (laid ++ pack) := by
  induction pack, laid using underGo.induct with
  | case1 laid => simp [underGo]
  | case2 x laid => simp [underGo]
  | case3 x y r laid ih =>
    rw [underGo]
    refine ih.trans ?_
    rw [append_assoc]
    refine (Perm.append_left _ ?_)
    simp only [cons_append, nil_append]
    exact (Perm.cons _ (perm_append_comm (l₁ := r) (l₂ := [y])))
theorem underGo_map {α β} (f : α → β) (pack laid : List α) : underGo (pack.map f) (laid.map f) = (underGo pack laid).map f := by
  induction pack, laid using underGo.induct with
  | case1 laid => simp [underGo]
  | case2 x laid => simp [underGo]
  | case3 x y r laid ih =>
    rw [underGo, ← ih]
    simp [underGo]
theorem under_map {α β} (f : α → β) (xs : List α) : under (xs.map f) = (under xs).map f := by
  unfold under
  have := underGo_map f xs []
  rw [map_nil] at this
  rw [this, map_reverse]
theorem under_perm {α} (xs : List α) : (under xs).Perm xs := (reverse_perm _).trans (by simpa using underGo_perm xs [])
theorem pick_under (xs : List Nat) : pick xs (under (range xs.length)) = under xs := by
  have := under_map (fun i => xs.getD i 0) (range xs.length)
  rw [show (range xs.length).map (fun i => xs.getD i 0) = xs from pick_map_range xs] at this
  exact this.symm

/-! riffle -/
def rif {α} : List Bool → List α → List α → List α
  | true :: w, x :: u, l => x :: rif w u l
  | false :: w, u, y :: l => y :: rif w u l
  | _, _, _ => []
/-- the sources by two counters -/
def ruf : List Bool → Nat → Nat → List Nat
  | [], _, _ => []
  | true :: w, i, j => i :: ruf w (i + 1) j
  | false :: w, i, j => j :: ruf w i (j + 1)
def cntA (w : List Bool) : Nat := w.count true
def cntB (w : List Bool) : Nat := w.count false
theorem cnt_len (w : List Bool) : cntA w + cntB w = w.length := by
  induction w with
  | nil => rfl
  | cons b w ih =>
    unfold cntA cntB at *
    cases b <;> simp <;> omega
theorem ruf_rif : ∀ (w : List Bool) (i j : Nat), ruf w i j = rif w (range' i (cntA w)) (range' j (cntB w))
  | [], _, _ => by simp [ruf, rif]
  | true :: w, i, j => by
    have := ruf_rif w (i + 1) j
    have e : cntA (true :: w) = cntA w + 1 := by simp [cntA]
    have e2 : cntB (true :: w) = cntB w := by simp [cntB]
    rw [ruf, this, e, e2, range'_succ, rif]
  | false :: w, i, j => by
    have := ruf_rif w i (j + 1)
    have e : cntA (false :: w) = cntA w := by simp [cntA]
    have e2 : cntB (false :: w) = cntB w + 1 := by simp [cntB]
    rw [ruf, this, e, e2, range'_succ]
    cases h : range' i (cntA w) <;> simp [rif]
theorem rif_map {α β} (f : α → β) : ∀ (w : List Bool) (u l : List α), rif w (u.map f) (l.map f) = (rif w u l).map f
  | [], u, l => by simp [rif]
  | true :: w, [], l => by simp [rif]
  | true :: w, x :: u, l => by simp [rif, rif_map f w u l]
  | false :: w, [], [] => by simp [rif]
  | false :: w, x :: u, [] => by simp [rif]
  | false :: w, [], y :: l => by
    have := rif_map f w [] l
    simp only [map_nil] at this
    simp [rif, this]
  | false :: w, x :: u, y :: l => by
    have := rif_map f w (x :: u) l
    simp only [map_cons] at this
    simp [rif, this]
theorem rif_perm {α} : ∀ (w : List Bool) (u l : List α), u.length = cntA w → l.length = cntB w → (rif w u l).Perm (u ++ l)
  | [], u, l, hu, hl => by
    simp [cntA, cntB] at hu hl
    simp [rif, hu, hl]
  | true :: w, [], l, hu, _ => by simp [cntA] at hu
  | true :: w, x :: u, l, hu, hl => by
    rw [rif]
    exact (rif_perm w u l (by simp [cntA] at hu ⊢; omega) (by simp [cntB] at hl ⊢; omega)).cons x
  | false :: w, u, [], _, hl => by simp [cntB] at hl
  | false :: w, u, y :: l, hu, hl => by
    have h := rif_perm w u l (by simp [cntA] at hu ⊢; omega) (by simp [cntB] at hl ⊢; omega)
    have e : rif (false :: w) u (y :: l) = y :: rif w u l := by cases u <;> simp [rif]
    rw [e]
    exact (h.cons y).trans perm_middle.symm
def srcRif (w : List Bool) : List Nat := ruf w 0 (cntA w)
theorem range_split (a b : Nat) : range' 0 a ++ range' a b = range (a + b) := by
  rw [range_eq_range', ← range'_append_1]; simp
theorem srcRif_perm (w : List Bool) : (srcRif w).Perm (range w.length) := by
  unfold srcRif
  rw [ruf_rif]
  refine (rif_perm w _ _ (by simp) (by simp)).trans ?_
  rw [range_split, cnt_len]
/-- the law's riffle -/
def rifL {α} (xs : List α) (w : List Bool) : List α := rif w (xs.take (cntA w)) (xs.drop (cntA w))
theorem pick_rif {xs : List Nat} {w : List Bool} (h : w.length = xs.length) : pick xs (srcRif w) = rifL xs w := by
  unfold pick srcRif rifL
  have hc := cnt_len w
  rw [ruf_rif, ← rif_map, getD_range' xs 0 _ (by omega), getD_range' xs _ _ (by omega)]
  rw [drop_zero, take_of_length_le (l := drop _ xs) (by rw [length_drop]; omega)]

/-! deal -/
def stepsOf (j n p : Nat) : List Nat := (range n).filter fun i => i % p == j
theorem stepsOf_succ (j n p : Nat) : stepsOf j (n + 1) p = stepsOf j n p ++ if n % p = j then [n] else [] := by
  unfold stepsOf
  rw [range_succ, filter_append]
  by_cases h : n % p = j <;> simp [h]
theorem cnt_step {j n p : Nat} (hj : j < p) : (n + 1 - j + p - 1) / p = (n - j + p - 1) / p + if n % p = j then 1 else 0 := by
  have hp : 0 < p := by omega
  by_cases hnj : n < j
  · have e1 : n + 1 - j = 0 := by omega
    have e2 : n - j = 0 := by omega
    have e3 : n % p = n := Nat.mod_eq_of_lt (by omega)
    rw [e1, e2, e3, if_neg (by omega)]; simp
  · obtain ⟨d, rfl⟩ : ∃ d, n = j + d := ⟨n - j, by omega⟩
    have e1 : j + d + 1 - j + p - 1 = d + p := by omega
    have e2 : j + d - j + p - 1 = d + p - 1 := by omega
    rw [e1, e2, Nat.add_div_right _ hp]
    have hd := Nat.div_add_mod d p
    have hlt := Nat.mod_lt d hp
    by_cases hm : d % p = 0
    · have : (j + d) % p = j := by
        rw [Nat.add_mod, hm, Nat.add_zero, Nat.mod_mod, Nat.mod_eq_of_lt hj]
      rw [if_pos this]
      have : d + p - 1 = (p - 1) + p * (d / p) := by omega
      rw [this, Nat.add_mul_div_left _ _ hp, Nat.div_eq_of_lt (show p - 1 < p by omega)]; omega
    · have hne : (j + d) % p ≠ j := by
        intro h
        have h2 : (j + d) % p = (j + d % p) % p := by rw [Nat.add_mod, Nat.mod_eq_of_lt hj]
        rw [h2] at h
        by_cases hs : j + d % p < p
        · rw [Nat.mod_eq_of_lt hs] at h; omega
        · rw [Nat.mod_eq_sub_mod (by omega), Nat.mod_eq_of_lt (by omega)] at h; omega
      rw [if_neg hne]
      have : d + p - 1 = (d % p - 1) + p * (d / p + 1) := by rw [Nat.mul_add]; omega
      rw [this, Nat.add_mul_div_left _ _ hp, Nat.div_eq_of_lt (show d % p - 1 < p by omega)]; omega
theorem last_step {j n p : Nat} (hj : j < p) (h : n % p = j) : j + p * ((n - j + p - 1) / p) = n := by
  have hp : 0 < p := by omega
  have hd := Nat.div_add_mod n p
  have e : n - j = p * (n / p) := by omega
  have : n - j + p - 1 = (p - 1) + p * (n / p) := by omega
  rw [this, Nat.add_mul_div_left _ _ hp, Nat.div_eq_of_lt (show p - 1 < p by omega), Nat.zero_add]
  omega
/-- range(j, n, p) -/
def rng3 (j n p : Nat) : List Nat := range' j ((n - j + p - 1) / p) p
theorem rng3_steps {j p : Nat} (hj : j < p) : ∀ n, rng3 j n p = stepsOf j n p
  | 0 => by
    unfold rng3 stepsOf
    have : (0 - j + p - 1) / p = 0 := Nat.div_eq_of_lt (by omega)
    rw [this]; rfl
  | n + 1 => by
    have ih := rng3_steps hj n
    unfold rng3 at *
    rw [stepsOf_succ, ← ih, cnt_step hj]
    by_cases h : n % p = j
    · rw [if_pos h, if_pos h, range'_concat, last_step hj h]
    · rw [if_neg h, if_neg h]; simp
/-- the heaps behind k cards: heap j -/
def heapAt {α} [Inhabited α] (xs : List α) (p k j : Nat) : List α := ((stepsOf j k p).map fun i => xs.getD i default).reverse
def heaps {α} [Inhabited α] (xs : List α) (p k : Nat) : List (List α) := (range p).map (heapAt xs p k)
def srcDeal (p n : Nat) : List Nat := ((range p).reverse.map fun j => (rng3 j n p).reverse).flatten
/-- the law's stacking -/
def stack {α} : List (List α) → List α → List α
  | [], m => m
  | h :: r, m => stack r (h ++ m)
theorem stack_eq {α} : ∀ (hs : List (List α)) (m : List α), stack hs m = hs.reverse.flatten ++ m
  | [], m => by simp [stack]
  | h :: r, m => by rw [stack, stack_eq r]; simp
def dealL {α} [Inhabited α] (xs : List α) (p : Nat) : List α := stack (heaps xs p xs.length) []
theorem pick_deal {xs : List Nat} {p : Nat} : pick xs (srcDeal p xs.length) = dealL xs p := by
  unfold pick srcDeal dealL
  rw [stack_eq, append_nil, map_flatten, map_map, heaps, ← map_reverse]
  congr 1
  apply map_congr_left
  intro j hj
  have hj' : j < p := by simpa using hj
  simp only [Function.comp, heapAt, rng3_steps hj', map_reverse]
  rfl
theorem filter_parts (p : Nat) (hp : 0 < p) : ∀ n, ((range p).map fun j => stepsOf j n p).flatten.Perm (range n) := by
  intro n
  rw [perm_iff_count]
  intro a
  rw [count_flatten, map_map]
  have h1 : ∀ j, ((fun l => count a l) ∘ fun j => stepsOf j n p) j = if a % p = j then (if a < n then 1 else 0) else 0 := by
    intro j
    simp only [Function.comp, stepsOf]
    by_cases hj : a % p = j
    · rw [if_pos hj, count_filter (by simpa using hj), count_range]
    · rw [if_neg hj]
      apply count_eq_zero.mpr
      simp [hj]
  rw [show ((range p).map ((fun l => count a l) ∘ fun j => stepsOf j n p)) = (range p).map (fun j => if a % p = j then (if a < n then 1 else 0) else 0) from map_congr_left (fun j _ => h1 j)]
  have h2 : ∀ (m v : Nat) (c : Nat), ((range m).map (fun j => if c = j then v else 0)).sum = if c < m then v else 0 := by
    intro m v c
    induction m with
    | zero => simp
    | succ m ih =>
      rw [range_succ, map_append, sum_append, ih]
      by_cases hc : c = m
      · subst hc; simp
      · by_cases hlt : c < m
        · simp [hlt, hc, show c < m + 1 by omega]
        · simp [hlt, hc, show ¬ c < m + 1 by omega]
  rw [h2, if_pos (Nat.mod_lt a hp), count_range]
theorem flatten_map_perm {α β} (f g : α → List β) : ∀ (l : List α), (∀ a ∈ l, (f a).Perm (g a)) → (l.map f).flatten.Perm (l.map g).flatten
  | [], _ => by simp
  | a :: l, h => by
    simp only [map_cons, flatten_cons]
    exact (h a mem_cons_self).append (flatten_map_perm f g l fun b hb => h b (mem_cons_of_mem _ hb))
theorem srcDeal_perm {p n : Nat} (hp : 0 < p) : (srcDeal p n).Perm (range n) := by
  refine Perm.trans ?_ (filter_parts p hp n)
  unfold srcDeal
  refine Perm.trans ?_ (Perm.flatten ((reverse_perm (range p)).map _))
  refine flatten_map_perm _ _ _ fun j hj => ?_
  have hj' : j < p := by simpa using hj
  rw [rng3_steps hj']
  exact reverse_perm _
end Rf

namespace Rf
open List
/-! rings -/
def it (g : Nat → Nat) : Nat → Nat → Nat
  | 0, s => s
  | k + 1, s => g (it g k s)
structure PermF (g : Nat → Nat) (n : Nat) : Prop where
  lt : ∀ x, x < n → g x < n
  inj : ∀ x y, x < n → y < n → g x = g y → x = y
section
variable {g : Nat → Nat} {n : Nat} (P : PermF g n)
include P
end
def clenGo (g : Nat → Nat) (s : Nat) : Nat → Nat → Nat
  | 0, k => k
  | f + 1, k => if it g k s = s then k else clenGo g s f (k + 1)
def clen (g : Nat → Nat) (n s : Nat) : Nat := clenGo g s n 1
section
variable {g : Nat → Nat} {n : Nat} (P : PermF g n)
include P
end
def ring (g : Nat → Nat) (n s : Nat) : List Nat := (range (clen g n s)).map fun i => it g i s
section
variable {g : Nat → Nat} {n : Nat} (P : PermF g n)
include P
end
/-- the rings of the first i places -/
def ringsTo (g : Nat → Nat) (n : Nat) : Nat → List (List Nat)
  | 0 => []
  | i + 1 => if i ∈ (ringsTo g n i).flatten then ringsTo g n i else ringsTo g n i ++ [ring g n i]
section
variable {g : Nat → Nat} {n : Nat} (P : PermF g n)
include P
end
def ringsOf (g : Nat → Nat) (n : Nat) : List (List Nat) := ringsTo g n n
section
variable {g : Nat → Nat} {n : Nat} (P : PermF g n)
include P
end
/-! done again and again -/
def iter {α} (f : α → α) : Nat → α → α
  | 0, x => x
  | k + 1, x => f (iter f k x)
/-- each card at p put at the place behind t turns -/
def putAll (g : Nat → Nat) (t : Nat) (xs : List Nat) : List Nat → List Nat → List Nat
  | [], b => b
  | p :: ps, b => putAll g t xs ps (b.set (it g t p) (xs.getD p 0))
section
variable {g : Nat → Nat} {n : Nat} (P : PermF g n)
include P
end
/-- the move by its sources, and where each card goes -/
def goes (src : List Nat) (n : Nat) : List Nat := unGo (range n) src 0 src
def gOf (src : List Nat) (n : Nat) (x : Nat) : Nat := (goes src n).getD x 0
/-- n cards moved t times -/
def movedN (src xs : List Nat) (t : Nat) : List Nat := iter (fun ys => pick ys src) t xs
/-- repeated, by the rings -/
def repOf (src xs : List Nat) (t : Nat) : List Nat := putAll (gOf src xs.length) t xs (ringsOf (gOf src xs.length) xs.length).flatten xs
/-! the period -/
def perOf (rs : List (List Nat)) : Nat := rs.foldl (fun t r => Nat.lcm t r.length) 1
end Rf

namespace Rf
open List
/-! the least number into which two go -/
/-! the rings of n places -/
section
variable {g : Nat → Nat} {n : Nat} (P : PermF g n)
include P
end
end Rf

namespace Rf
open List
/-! rows -/
def addRow (L : List (List Nat)) (b : Bool) (c : Nat) : List (List Nat) := if b then L.dropLast ++ [L.getLastD [] ++ [c]] else L ++ [[c]]
def rowsTo (xs : List Nat) : Nat → List (List Nat)
  | 0 => [[0]]
  | k + 1 => addRow (rowsTo xs k) (decide (xs.idxOf k < xs.idxOf (k + 1))) (k + 1)
def rowsOf (xs : List Nat) : List (List Nat) := rowsTo xs (xs.length - 1)
/-! one ahead of the other -/
def wordsL : Nat → List (List Bool)
  | 0 => [[]]
  | k + 1 => (wordsL k).map (· ++ [true]) ++ (wordsL k).map (· ++ [false])
end Rf

namespace Rf
open List
/-! two halves woven, pair by pair -/
def pairW (f : Nat) (xs : List Nat) (h i : Nat) : List Nat := if f = 0 then [xs.getD i 0, xs.getD (h + i) 0] else [xs.getD (h + i) 0, xs.getD i 0]
def wov (f : Nat) (xs : List Nat) (h k : Nat) : List Nat := (range k).flatMap (pairW f xs h)
/-! a place's figures -/
def bitsOf (p : Nat) : List Nat := if h : p = 0 then [] else bitsOf (p / 2) ++ [p % 2]
termination_by p
decreasing_by omega
def valOf (bs : List Nat) : Nat := bs.foldl (fun v b => 2 * v + b) 0
def nowAt (n : Nat) (bs : List Nat) : List Nat := bs.foldl (fun xs b => wov b xs (n / 2) (n / 2)) (range n)
end Rf

set_option Elab.async false
set_option linter.all false
set_option maxRecDepth 100000
namespace Rf
open PySem L2
def top (i : Nat) : Stmt := PySem.Challenge.pw_riffles_k09_written.main.body.getD i (.Pass ⟨0, 0, 0, 0⟩)
abbrev s__wall : Stmt := top 0
abbrev s_is_number : Stmt := top 9
abbrev s_is_order : Stmt := top 10
abbrev s_check_order : Stmt := top 11
abbrev s_Move___init__ : Stmt := inClass (top 13) 0
abbrev s_Move_sources : Stmt := inClass (top 13) 1
abbrev s_Move_done : Stmt := inClass (top 13) 2
abbrev s_Move_undone : Stmt := inClass (top 13) 3
abbrev s_Cut___init__ : Stmt := inClass (top 14) 0
abbrev s_Cut_sources : Stmt := inClass (top 14) 1
abbrev s_Turn___init__ : Stmt := inClass (top 15) 0
abbrev s_Turn_sources : Stmt := inClass (top 15) 1
abbrev s_Deal___init__ : Stmt := inClass (top 16) 0
abbrev s_Deal_sources : Stmt := inClass (top 16) 1
abbrev s_Under___init__ : Stmt := inClass (top 17) 0
abbrev s_Under_sources : Stmt := inClass (top 17) 1
abbrev s_Weave___init__ : Stmt := inClass (top 18) 0
abbrev s_Weave_sources : Stmt := inClass (top 18) 1
abbrev s_Riffle___init__ : Stmt := inClass (top 19) 0
abbrev s_Riffle_sources : Stmt := inClass (top 19) 1
abbrev s_is_word : Stmt := top 20
abbrev s_riffle_sources : Stmt := top 21
abbrev s_check_move : Stmt := top 22
abbrev s_check_moves : Stmt := top 23
abbrev s_done_all : Stmt := top 24
abbrev s_written : Stmt := top 26
abbrev s_read : Stmt := top 27
abbrev s_move_written : Stmt := top 28
abbrev s_move_read : Stmt := top 29
abbrev s_move_made : Stmt := top 30
abbrev s_number_read : Stmt := top 31
abbrev s__law_cell_at : Stmt := top 33
abbrev s__law_draw : Stmt := top 34
abbrev s__law_order : Stmt := top 35
abbrev s__law_many : Stmt := top 36
abbrev s__law_word : Stmt := top 37
abbrev s__law_riffled : Stmt := top 38
abbrev s__law_dealt : Stmt := top 39
abbrev s__law_under : Stmt := top 40
abbrev s__law_moved : Stmt := top 41
abbrev s__law_told : Stmt := top 42
abbrev s__law_made : Stmt := top 43
abbrev s__law_text : Stmt := top 44
abbrev s__law_number : Stmt := top 45
abbrev s__law_writes : Stmt := top 46
abbrev s__law_refused : Stmt := top 47
abbrev s__law_few : Stmt := top 48
abbrev s_law : Stmt := top 49
theorem sc_is_number : FnScope ["value", "least", "most"] ["value", "least", "most"] (defScope s_is_number) := ⟨rfl, rfl, rfl, by decide +kernel, rfl, by decide +kernel, by decide +kernel⟩
theorem sc_is_order : FnScope ["value"] ["value"] (defScope s_is_order) := ⟨rfl, rfl, rfl, by decide +kernel, rfl, by decide +kernel, by decide +kernel⟩
theorem sc_check_order : FnScope ["value"] ["value"] (defScope s_check_order) := ⟨rfl, rfl, rfl, by decide +kernel, rfl, by decide +kernel, by decide +kernel⟩
theorem sc_Move_done : FnScope ["self", "order"] ["self", "order"] (defScope s_Move_done) := ⟨rfl, rfl, rfl, by decide +kernel, rfl, by decide +kernel, by decide +kernel⟩
theorem sc_Cut___init__ : FnScope ["self", "many"] ["self", "many"] (defScope s_Cut___init__) := ⟨rfl, rfl, rfl, by decide +kernel, rfl, by decide +kernel, by decide +kernel⟩
theorem sc_Cut_sources : FnScope ["self", "cards"] ["self", "cards"] (defScope s_Cut_sources) := ⟨rfl, rfl, rfl, by decide +kernel, rfl, by decide +kernel, by decide +kernel⟩
theorem sc_Turn___init__ : FnScope ["self"] ["self"] (defScope s_Turn___init__) := ⟨rfl, rfl, rfl, by decide +kernel, rfl, by decide +kernel, by decide +kernel⟩
theorem sc_Turn_sources : FnScope ["self", "cards"] ["self", "cards"] (defScope s_Turn_sources) := ⟨rfl, rfl, rfl, by decide +kernel, rfl, by decide +kernel, by decide +kernel⟩
theorem sc_Deal___init__ : FnScope ["self", "piles"] ["self", "piles"] (defScope s_Deal___init__) := ⟨rfl, rfl, rfl, by decide +kernel, rfl, by decide +kernel, by decide +kernel⟩
theorem sc_Deal_sources : FnScope ["self", "cards", "places", "pile", "dealt"] ["self", "cards"] (defScope s_Deal_sources) := ⟨rfl, rfl, rfl, by decide +kernel, rfl, by decide +kernel, by decide +kernel⟩
theorem sc_Under___init__ : FnScope ["self"] ["self"] (defScope s_Under___init__) := ⟨rfl, rfl, rfl, by decide +kernel, rfl, by decide +kernel, by decide +kernel⟩
theorem sc_Under_sources : FnScope ["self", "cards", "pack", "laid"] ["self", "cards"] (defScope s_Under_sources) := ⟨rfl, rfl, rfl, by decide +kernel, rfl, by decide +kernel, by decide +kernel⟩
theorem sc_Weave___init__ : FnScope ["self", "first"] ["self", "first"] (defScope s_Weave___init__) := ⟨rfl, rfl, rfl, by decide +kernel, rfl, by decide +kernel, by decide +kernel⟩
theorem sc_Weave_sources : FnScope ["self", "cards", "turn"] ["self", "cards"] (defScope s_Weave_sources) := ⟨rfl, rfl, rfl, by decide +kernel, rfl, by decide +kernel, by decide +kernel⟩
theorem sc_Riffle___init__ : FnScope ["self", "word"] ["self", "word"] (defScope s_Riffle___init__) := ⟨rfl, rfl, rfl, by decide +kernel, rfl, by decide +kernel, by decide +kernel⟩
theorem sc_Riffle_sources : FnScope ["self", "cards"] ["self", "cards"] (defScope s_Riffle_sources) := ⟨rfl, rfl, rfl, by decide +kernel, rfl, by decide +kernel, by decide +kernel⟩
theorem sc_is_word : FnScope ["value"] ["value"] (defScope s_is_word) := ⟨rfl, rfl, rfl, by decide +kernel, rfl, by decide +kernel, by decide +kernel⟩
theorem sc_riffle_sources : FnScope ["word", "upper", "lower", "places", "sign"] ["word"] (defScope s_riffle_sources) := ⟨rfl, rfl, rfl, by decide +kernel, rfl, by decide +kernel, by decide +kernel⟩
theorem sc_check_move : FnScope ["value"] ["value"] (defScope s_check_move) := ⟨rfl, rfl, rfl, by decide +kernel, rfl, by decide +kernel, by decide +kernel⟩
theorem sc_check_moves : FnScope ["value", "move"] ["value"] (defScope s_check_moves) := ⟨rfl, rfl, rfl, by decide +kernel, rfl, by decide +kernel, by decide +kernel⟩
theorem sc_done_all : FnScope ["moves", "order", "after", "move"] ["moves", "order"] (defScope s_done_all) := ⟨rfl, rfl, rfl, by decide +kernel, rfl, by decide +kernel, by decide +kernel⟩
theorem sc_written : FnScope ["moves"] ["moves"] (defScope s_written) := ⟨rfl, rfl, rfl, by decide +kernel, rfl, by decide +kernel, by decide +kernel⟩
theorem sc_read : FnScope ["text"] ["text"] (defScope s_read) := ⟨rfl, rfl, rfl, by decide +kernel, rfl, by decide +kernel, by decide +kernel⟩
theorem sc_move_written : FnScope ["move"] ["move"] (defScope s_move_written) := ⟨rfl, rfl, rfl, by decide +kernel, rfl, by decide +kernel, by decide +kernel⟩
theorem sc_move_read : FnScope ["part"] ["part"] (defScope s_move_read) := ⟨rfl, rfl, rfl, by decide +kernel, rfl, by decide +kernel, by decide +kernel⟩
theorem sc_move_made : FnScope ["part", "pieces"] ["part"] (defScope s_move_made) := ⟨rfl, rfl, rfl, by decide +kernel, rfl, by decide +kernel, by decide +kernel⟩
theorem sc_number_read : FnScope ["figures", "number"] ["figures"] (defScope s_number_read) := ⟨rfl, rfl, rfl, by decide +kernel, rfl, by decide +kernel, by decide +kernel⟩
theorem sc__law_cell_at : FnScope ["_law_script", "_law_k"] ["_law_script", "_law_k"] (defScope s__law_cell_at) := ⟨rfl, rfl, rfl, by decide +kernel, rfl, by decide +kernel, by decide +kernel⟩
theorem sc__law_draw : FnScope ["_law_cell", "_law_k", "_law_many_here", "_law_primes"] ["_law_cell", "_law_k", "_law_many_here"] (defScope s__law_draw) := ⟨rfl, rfl, rfl, by decide +kernel, rfl, by decide +kernel, by decide +kernel⟩
theorem sc__law_order : FnScope ["_law_cell", "_law_many_here", "_law_order_here", "_law_swaps", "_law_k", "_law_one", "_law_other"] ["_law_cell", "_law_many_here"] (defScope s__law_order) := ⟨rfl, rfl, rfl, by decide +kernel, rfl, by decide +kernel, by decide +kernel⟩
theorem sc__law_many : FnScope ["_law_cell", "_law_k"] ["_law_cell", "_law_k"] (defScope s__law_many) := ⟨rfl, rfl, rfl, by decide +kernel, rfl, by decide +kernel, by decide +kernel⟩
theorem sc__law_word : FnScope ["_law_cell", "_law_many_here", "_law_word_here", "_law_kind", "_law_k", "_law_sign"] ["_law_cell", "_law_many_here"] (defScope s__law_word) := ⟨rfl, rfl, rfl, by decide +kernel, rfl, by decide +kernel, by decide +kernel⟩
theorem sc__law_riffled : FnScope ["_law_order_here", "_law_word_here", "_law_upper", "_law_lower", "_law_made_here", "_law_sign"] ["_law_order_here", "_law_word_here"] (defScope s__law_riffled) := ⟨rfl, rfl, rfl, by decide +kernel, rfl, by decide +kernel, by decide +kernel⟩
theorem sc__law_dealt : FnScope ["_law_order_here", "_law_piles", "_law_heaps", "_law_k", "_law_made_here", "_law_heap"] ["_law_order_here", "_law_piles"] (defScope s__law_dealt) := ⟨rfl, rfl, rfl, by decide +kernel, rfl, by decide +kernel, by decide +kernel⟩
theorem sc__law_under : FnScope ["_law_order_here", "_law_pack", "_law_down"] ["_law_order_here"] (defScope s__law_under) := ⟨rfl, rfl, rfl, by decide +kernel, rfl, by decide +kernel, by decide +kernel⟩
theorem sc__law_moved : FnScope ["_law_order_here", "_law_told_here", "_law_sort", "_law_thing"] ["_law_order_here", "_law_told_here"] (defScope s__law_moved) := ⟨rfl, rfl, rfl, by decide +kernel, rfl, by decide +kernel, by decide +kernel⟩
theorem sc__law_told : FnScope ["_law_cell", "_law_many_here", "_law_sort"] ["_law_cell", "_law_many_here"] (defScope s__law_told) := ⟨rfl, rfl, rfl, by decide +kernel, rfl, by decide +kernel, by decide +kernel⟩
theorem sc__law_made : FnScope ["_law_told_here", "_law_sort", "_law_thing"] ["_law_told_here"] (defScope s__law_made) := ⟨rfl, rfl, rfl, by decide +kernel, rfl, by decide +kernel, by decide +kernel⟩
theorem sc__law_text : FnScope ["_law_told_here", "_law_sort", "_law_thing", "_law_word_here"] ["_law_told_here"] (defScope s__law_text) := ⟨rfl, rfl, rfl, by decide +kernel, rfl, by decide +kernel, by decide +kernel⟩
theorem sc__law_number : FnScope ["_law_text_here", "_law_low", "_law_high"] ["_law_text_here", "_law_low", "_law_high"] (defScope s__law_number) := ⟨rfl, rfl, rfl, by decide +kernel, rfl, by decide +kernel, by decide +kernel⟩
theorem sc__law_writes : FnScope ["_law_text_here", "_law_one", "_law_word_here", "_law_blank", "_law_rest", "_law_right"] ["_law_text_here"] (defScope s__law_writes) := ⟨rfl, rfl, rfl, by decide +kernel, rfl, by decide +kernel, by decide +kernel⟩
theorem sc__law_refused : FnScope ["_law_text_here", "_law_others", "error"] ["_law_text_here"] (defScope s__law_refused) := ⟨rfl, rfl, rfl, by decide +kernel, rfl, by decide +kernel, by decide +kernel⟩
theorem sc__law_few : FnScope ["_law_some"] [] (defScope s__law_few) := ⟨rfl, rfl, rfl, by decide +kernel, rfl, by decide +kernel, by decide +kernel⟩
theorem sc_law : FnScope ["_law_script", "_law_many_here", "_law_told_here", "_law_k", "_law_text_here", "_law_handed", "_law_found", "_law_order_here", "_law_now", "_law_one", "_law_cell", "_law_at", "_law_sign", "_law_other"] ["_law_script"] (defScope s_law) := ⟨rfl, rfl, rfl, by decide +kernel, rfl, by decide +kernel, by decide +kernel⟩
/-! ### moves -/
abbrev nv (xs : List Nat) : List V := xs.map fun (n : Nat) => V.int (n : Int)
def wordOf (w : List Bool) : Str := ⟨(w.map fun b => if b then 97 else 98).toArray⟩
inductive Mv where
  | cut (m : Nat) | turn | deal (p : Nat) | under | weave (f : Nat) | riffle (w : List Bool)
def weaveWord (f n : Nat) : List Bool := (List.replicate (n / 2) (if f = 0 then [true, false] else [false, true])).flatten
namespace Mv
def ok : Mv → Prop
  | cut m => m ≤ 60
  | deal p => 1 ≤ p ∧ p ≤ 60
  | weave f => f ≤ 1
  | riffle w => 1 ≤ w.length ∧ w.length ≤ 60
  | _ => True
def fits : Mv → Nat → Prop
  | cut m, n => m ≤ n
  | weave _, n => n % 2 = 0
  | riffle w, n => w.length = n
  | _, _ => True
def src : Mv → Nat → List Nat
  | cut m, n => srcCut m n
  | turn, n => srcTurn n
  | deal p, n => srcDeal p n
  | under, n => Rf.under (List.range n)
  | weave f, n => srcRif (weaveWord f n)
  | riffle w, _ => srcRif w
end Mv
theorem weaveWord_length (f n : Nat) (h : n % 2 = 0) : (weaveWord f n).length = n := by
  unfold weaveWord
  have : ∀ (k : Nat) (l : List Bool), l.length = 2 → (List.replicate k l).flatten.length = 2 * k := by
    intro k l hl
    induction k with
    | zero => rfl
    | succ k ih => rw [List.replicate_succ, List.flatten_cons, List.length_append, ih, hl]; omega
  rw [this _ _ (by split <;> rfl)]
  omega
theorem Mv.src_perm {mv : Mv} {n : Nat} (o : mv.ok) (f : mv.fits n) : (mv.src n).Perm (List.range n) := by
  cases mv with
  | cut m => exact srcCut_perm f
  | turn => exact srcTurn_perm n
  | deal p => exact srcDeal_perm o.1
  | under => exact under_perm _
  | weave k =>
    have := srcRif_perm (weaveWord k n)
    rw [weaveWord_length k n f] at this
    exact this
  | riffle w =>
    have := srcRif_perm w
    rw [show w.length = n from f] at this
    exact this
structure Adr where
  (move cut turn deal under weave riffle ans mix flt : Addr)
def Mv.cls (t : Adr) : Mv → Addr
  | .cut _ => t.cut | .turn => t.turn | .deal _ => t.deal | .under => t.under | .weave _ => t.weave | .riffle _ => t.riffle
def Mv.flds : Mv → List (Str × V)
  | .cut m => [("many", .int (m : Int))] | .turn => [] | .deal p => [("piles", .int (p : Int))] | .under => [] | .weave f => [("first", .int (f : Int))] | .riffle w => [("word", .str (wordOf w))]
def IsMv (t : Adr) (H : Hp) (p : Addr) (mv : Mv) : Prop := ∃ dx, H p = some (.ins (mv.cls t) dx mv.flds)
/-- what the walk asks of the top -/
structure Txt (K : PySem.W.Frag) (mg : Str → Option Value) (t : Adr) : Prop where
  no_isinstance : mg "isinstance" = none
  no_bool : mg "bool" = none
  no_int : mg "int" = none
  no_list : mg "list" = none
  no_str : mg "str" = none
  no_len : mg "len" = none
  no_all : mg "all" = none
  no_any : mg "any" = none
  no_min : mg "min" = none
  no_max : mg "max" = none
  no_sum : mg "sum" = none
  no_range : mg "range" = none
  no_set : mg "set" = none
  no_reversed : mg "reversed" = none
  no_enumerate : mg "enumerate" = none
  mg_MOST_CARDS : ∃ k, mg "MOST_CARDS" = some (.int 60 k)
  mg_Move : mg "Move" = some (.ref t.move)
  cl : ∀ mv : Mv, Cls K (mv.cls t)
  na_many : NoAttr K t.cut "many"
  na_piles : NoAttr K t.deal "piles"
  na_first : NoAttr K t.weave "first"
  na_word : NoAttr K t.riffle "word"
  mg_Cut : mg "Cut" = some (.ref t.cut)
  mg_Turn : mg "Turn" = some (.ref t.turn)
  mg_Deal : mg "Deal" = some (.ref t.deal)
  mg_Under : mg "Under" = some (.ref t.under)
  mg_Weave : mg "Weave" = some (.ref t.weave)
  mg_Riffle : mg "Riffle" = some (.ref t.riffle)
/-! ### promises -/
/-- is_number of an int -/
def spNum : Sp := fun vs H Q _ => ∃ (i a b : Int), vs = [.int i, .int a, .int b] ∧ Q (.bl (decide (a ≤ i) && decide (i ≤ b))) H
def Good (xs : List Nat) : Prop := IsOrd xs ∧ 1 ≤ xs.length ∧ xs.length ≤ 60
def spIsOrder : Sp := fun vs H Q _ => ∃ (a : Addr) (xs : List Nat), vs = [.ref a] ∧ H a = some (.lst (nv xs)) ∧ Good xs ∧ Q (.bl true) H
def spCheckOrder : Sp := fun vs H Q _ => ∃ (a : Addr) (xs : List Nat), vs = [.ref a] ∧ H a = some (.lst (nv xs)) ∧ Good xs ∧ Q .non H
def spSrc (t : Adr) (mv : Mv) : Sp := fun vs H Q _ => ∃ (p : Addr) (n : Nat), vs = [.ref p, .int (n : Int)] ∧ IsMv t H p mv ∧ mv.ok ∧ mv.fits n ∧ 1 ≤ n ∧ n ≤ 60 ∧ ∀ l, H l = none → Q (.ref l) (upd H l (.lst (nv (mv.src n))))
def spDone (t : Adr) (mv : Mv) : Sp := fun vs H Q _ => ∃ (p a : Addr) (xs : List Nat), vs = [.ref p, .ref a] ∧ IsMv t H p mv ∧ mv.ok ∧ mv.fits xs.length ∧ H a = some (.lst (nv xs)) ∧ Good xs ∧ ∀ l, H l = none → Q (.ref l) (upd H l (.lst (nv (pick xs (mv.src xs.length)))))
def spUndone (t : Adr) (mv : Mv) : Sp := fun vs H Q _ => ∃ (p a : Addr) (xs : List Nat), vs = [.ref p, .ref a] ∧ IsMv t H p mv ∧ mv.ok ∧ mv.fits xs.length ∧ H a = some (.lst (nv xs)) ∧ Good xs ∧ ∀ l, H l = none → Q (.ref l) (upd H l (.lst (nv (unpick xs (mv.src xs.length)))))
/-- __init__ with one value -/
def spInit1 (t : Adr) (v : Mv → V) (is : Mv → Prop) : Sp := fun vs H Q _ => ∃ (p dx : Addr) (mv : Mv), is mv ∧ vs = [.ref p, v mv] ∧ mv.ok ∧ H p = some (.ins (mv.cls t) dx []) ∧ Q .non (upd H p (.ins (mv.cls t) dx mv.flds))
theorem nv_length (xs : List Nat) : (nv xs).length = xs.length := by simp [nv]
theorem nv_get {xs : List Nat} {i x : Nat} (h : xs[i]? = some x) : (nv xs)[i]? = some (.int (x : Int)) := by simp [nv, h]
theorem rngV_nv (i : Nat) : ∀ n, rngV (i : Int) 1 n = nv (List.range' i n) := by
  intro n
  apply List.ext_getElem?
  intro j
  by_cases h : j < n <;> simp [rngV, nv, h]
end Rf

set_option Elab.async false
set_option linter.all false
set_option maxRecDepth 100000
namespace Rf
open PySem L2
section
variable {P : Program} {w : World} {K : PySem.W.Frag} {mg : Str → Option Value} {base : Heap} {t : Adr}
theorem kit_int_bool : PySem.W.kitOne K (.type "int") (.type "bool") = some false := rfl
theorem kit_int_int : PySem.W.kitOne K (.type "int") (.type "int") = some true := rfl
theorem kit_list_list : PySem.W.kitOne K (.type "list") (.type "list") = some true := rfl
theorem kit_str_str : PySem.W.kitOne K (.type "str") (.type "str") = some true := rfl
theorem ok_is_number {f : Addr} {fd : FuncData} (F : Fun K "is_number" "is_number" s_is_number f fd) (T : Txt K mg t) : FnOk P w K mg base CX0 1 f fd ["value", "least", "most"] spNum := by
  refine F.okG sc_is_number (fun vs H Q E h => ?_) (fun cdv A outer s H vs Q E hr h => ?_)
  · obtain ⟨i, a, b, rfl, _⟩ := h
    rfl
  · obtain ⟨i, a, b, rfl, q⟩ := h
    refine ⟨_, (pss_cons (ps_if (PW.pt (pw_or (pt_val (pe_callB call_isi (by rfl) T.no_isinstance (show bootBuiltins "isinstance" = some (.builtin "isinstance") by decide +kernel) (pa_cons (pv 0) (pa_cons (pe_bltn (v := .ty "bool") rfl T.no_bool (show bootBuiltins "bool" = some (.type "bool") by decide +kernel) rfl) pa_nil)))) (pw_or1 (pt_not (pt_val (pe_callB call_isi (by rfl) T.no_isinstance (show bootBuiltins "isinstance" = some (.builtin "isinstance") by decide +kernel) (pa_cons (pv 0) (pa_cons (pe_bltn (v := .ty "int") rfl T.no_int (show bootBuiltins "int" = some (.type "int") by decide +kernel) rfl) pa_nil))))))))
 (pss_one (ps_ret pe_bl))
 pss_nil)
 (pss_one (ps_ret (pe_and (pe_cmpR op_ge (pv 0) (pv 1) (nomark _)) (pe_one (pe_cmpR op_le (pv 0) (pv 2) (nomark _))))))), ?_⟩
    refine ⟨_, rfl, _, _, _, _, rfl, .int i, .inl ⟨_, rfl⟩, kit_int_bool, _, rfl, ?_⟩
    refine iteF ?_
    refine ⟨_, rfl, _, _, _, _, rfl, .int i, .inl ⟨_, rfl⟩, kit_int_int, _, rfl, ?_⟩
    refine iteF ?_
    refine ⟨_, rfl, _, rfl, _, _, rfl, rfl, _, rfl, ?_⟩
    refine ite2 (fun c => ?_) fun c => ?_
    · refine ⟨_, rfl, _, rfl, _, _, rfl, rfl, ?_⟩
      refine end_same (Same.refl H) ?_
      rw [c, Bool.true_and] at q
      exact q
    · refine end_same (Same.refl H) ?_
      rw [Bool.not_eq_true] at c
      rw [c, Bool.false_and] at q
      exact q
theorem nodup_cast : ∀ {xs : List Nat}, xs.Nodup → (xs.map fun (n : Nat) => (n : Int)).Nodup
  | [], _ => List.nodup_nil
  | x :: xs, h => by
    rw [List.map_cons, List.nodup_cons]
    refine ⟨fun hm => ?_, nodup_cast (List.nodup_cons.mp h).2⟩
    obtain ⟨y, hy, e⟩ := List.mem_map.mp hm
    have e' : y = x := by omega
    exact (List.nodup_cons.mp h).1 (e' ▸ hy)
theorem all_true {bs : List Bool} (h : ∀ b ∈ bs, b = true) : bs.all id = true := by
  rw [List.all_eq_true]
  exact h
/-- a comprehension over a list whose elements leave the heap alone -/
theorem lc_list {K : PySem.W.Frag} {tl : TE} {js : List Nat} {te : TE} {σ : St} {H : Hp} {Q : VK} {a : Addr} {xs : List V} (f : Nat → V → V) (hl : tl σ H fun x H1 => x = .ref a ∧ H1 = H) (mono : ∀ R : VK, (tl σ H fun x H1 => x = .ref a ∧ H1 = H) → R (.ref a) H → tl σ H R)
    (hx : SqL K H a xs) (hz : xs.length ≤ 1000) (he : ∀ i x R, xs[i]? = some x → R (f i x) H → te (some x :: js.map fun j => σ.getD j none) H R) (q : ∀ D, H D = none → Q (.ref D) (upd H D (.lst (xs.mapIdx f)))) : tLC (iList K tl) js te σ H Q := by
  refine mono _ hl ⟨a, rfl, ⟨xs, hx⟩, fun i m acc H' => H' = H ∧ m = xs.length - i ∧ i ≤ xs.length ∧ acc = (xs.mapIdx f).take i, ⟨xs.length, rfl, rfl, Nat.zero_le _, by simp⟩, ?_⟩
  rintro i m acc H' ⟨rfl, rfl, hi, rfl⟩
  by_cases hlt : i < xs.length
  · refine .inr ⟨⟨xs, xs[i], hx, by simp [hlt]⟩, ?_, fun x H'' y => ?_⟩
    · have : (1000 : Nat) < sizeLine := by decide
      rw [List.length_take]
      omega
    · obtain ⟨e, y⟩ := y
      subst e
      have hxi := y xs hx
      refine he i x _ hxi ⟨xs.length - (i + 1), by omega, rfl, rfl, hlt, ?_⟩
      rw [List.take_add_one]
      simp [hxi]
  · have e : i = xs.length := by omega
    subst e
    refine .inl ⟨⟨xs, hx, Nat.le_refl _⟩, ?_⟩
    have e2 : (xs.mapIdx f).take xs.length = xs.mapIdx f := List.take_of_length_le (by simp)
    rw [e2]
    exact q
theorem ok_is_order {f : Addr} {fd : FuncData} (F : Fun K "is_order" "is_order" s_is_order f fd) (T : Txt K mg t) (f_is_number : Fn1 P w K mg base 1 "is_number" spNum) : FnOk P w K mg base CX0 2 f fd ["value"] spIsOrder := by
  refine F.okG sc_is_order (fun vs H Q E h => ?_) (fun cdv A outer s H vs Q E hr h => ?_)
  · obtain ⟨a, xs, rfl, _⟩ := h
    rfl
  · obtain ⟨a, xs, rfl, ha, ⟨ho, h1, h60⟩, q⟩ := h
    have hl : (nv xs).length = xs.length := nv_length xs
    refine ⟨_, (pss_cons (ps_if (PW.pt (pw_or (pt_not (pt_val (pe_callB call_isi (by rfl) T.no_isinstance (show bootBuiltins "isinstance" = some (.builtin "isinstance") by decide +kernel) (pa_cons (pv 0) (pa_cons (pe_bltn (v := .ty "list") rfl T.no_list (show bootBuiltins "list" = some (.type "list") by decide +kernel) rfl) pa_nil))))) (pw_or1 (pt_not (pt_val (pe_fn f_is_number hr (by rfl) (pa_cons (pe_callB call_len_seq (by rfl) T.no_len (show bootBuiltins "len" = some (.builtin "len") by decide +kernel) (pa_cons (pv 0) pa_nil)) (pa_cons pe_int (pa_cons (pe_globI rfl T.mg_MOST_CARDS) pa_nil)))))))))
 (pss_one (ps_ret pe_bl))
 pss_nil)
 (pss_cons (ps_if (pt_not (pt_val (pe_callB (call_all rfl) (by rfl) T.no_all (show bootBuiltins "all" = some (.builtin "all") by decide +kernel) (pa_cons (pe_lc (ys := ["value"]) (js := [0]) rfl (pi_list (pv 0)) rfl (by decide +kernel) (by decide +kernel) rfl rfl rfl (by decide +kernel) (fun _ _ _ _ => (pe_fn f_is_number hr (by rfl) (pa_cons (pv 0) (pa_cons pe_int (pa_cons (pe_op op_sub (pe_callB (call_len_seqK (K := K) rfl) (by rfl) T.no_len (show bootBuiltins "len" = some (.builtin "len") by decide +kernel) (pa_cons (pv 1) pa_nil)) pe_int) pa_nil)))))) pa_nil))))
 (pss_one (ps_ret pe_bl))
 pss_nil)
 (pss_one (ps_ret (pe_cmpR op_eq (pe_callB call_len_setO (by rfl) T.no_len (show bootBuiltins "len" = some (.builtin "len") by decide +kernel) (pa_cons (pe_callTy (call_set_ints rfl) (by rfl) T.no_set (show bootBuiltins "set" = some (.type "set") by decide +kernel) (pa_cons (pv 0) pa_nil)) pa_nil)) (pe_callB call_len_seq (by rfl) T.no_len (show bootBuiltins "len" = some (.builtin "len") by decide +kernel) (pa_cons (pv 0) pa_nil)) (nomark _)))))), ?_⟩
    refine ⟨_, rfl, _, _, _, _, rfl, .lst ha, .inl ⟨_, rfl⟩, kit_list_list, _, rfl, ?_⟩
    refine iteF ?_
    refine ⟨_, rfl, _, _, rfl, .inl (SqL.of ha), _, _, _, rfl, _, rfl, ?_⟩
    rw [hl, show (decide ((1 : Int) ≤ (xs.length : Int)) && decide ((xs.length : Int) ≤ 60)) = true by simp; omega]
    refine iteF ?_
    dsimp only [tNext, tSeq, tIfS, tNot, tB, tCB, tCons]
    refine lc_list (a := a) (xs := nv xs) (fun _ _ => .bl true) ⟨_, rfl, rfl, rfl⟩ (fun R h q => ⟨_, rfl, q⟩) (SqL.of ha) (by omega) (fun i x R hx hR => ?_) fun D hD => ?_
    · have hx' : ∃ n, xs[i]? = some n ∧ x = .int (n : Int) := by
        simp only [nv, List.getElem?_map] at hx
        cases e : xs[i]? with
        | none => rw [e] at hx; simp at hx
        | some n => rw [e] at hx; simp at hx; exact ⟨n, rfl, hx.symm⟩
      obtain ⟨n, hn, rfl⟩ := hx'
      refine ⟨_, rfl, _, rfl, _, _, rfl, .inl (SqL.of ha), _, _, rfl, rfl, _, _, _, rfl, ?_⟩
      have := ho.lt n (List.mem_of_getElem? hn)
      rw [hl, show (decide ((0 : Int) ≤ (n : Int)) && decide ((n : Int) ≤ (xs.length : Int) - 1)) = true by simp; omega]
      exact hR
    · have e : (nv xs).mapIdx (fun _ _ => V.bl true) = (List.replicate xs.length true).map V.bl := by
        apply List.ext_getElem?
        intro j
        by_cases hj : j < xs.length <;> simp [nv, hj]
      rw [e]
      refine ⟨_, _, rfl, SqL.of upd_same, _, rfl, ?_⟩
      rw [all_true (fun b hb => (List.mem_replicate.mp hb).2)]
      refine iteF ?_
      have nad : a ≠ D := ne_of_none ha hD
      have ha' : upd H D (.lst ((List.replicate xs.length true).map V.bl)) a = some (.lst (nv xs)) := by rw [upd_ne nad]; exact ha
      have ei : nv xs = (xs.map fun (n : Nat) => (n : Int)).map V.int := by simp [nv]
      refine ⟨_, rfl, _, (xs.map fun (n : Nat) => (n : Int)), rfl, SqL.of (by rw [← ei]; exact ha'), by simp; omega, fun l8 h8 => ?_⟩
      have nal : a ≠ l8 := ne_of_none ha' h8
      refine ⟨_, _, _, rfl, upd_same, _, rfl, _, _, rfl, .inl (SqL.of (by rw [upd_ne nal]; exact ha')), rfl, ?_⟩
      have hn : setN (xs.map fun (n : Nat) => (n : Int)) = xs.length := by
        rw [setN_nodup, List.length_map]
        exact nodup_cast ho.nodup
      rw [hn, hl, decide_eq_true rfl]
      exact end_same (((Same.refl H).new hD).new h8) q
theorem ok_check_order {f : Addr} {fd : FuncData} (F : Fun K "check_order" "check_order" s_check_order f fd) (T : Txt K mg t) (f_is_order : Fn1 P w K mg base 2 "is_order" spIsOrder) : FnOk P w K mg base CX0 3 f fd ["value"] spCheckOrder := by
  refine F.okG sc_check_order (fun vs H Q E h => ?_) (fun cdv A outer s H vs Q E hr h => ?_)
  · obtain ⟨a, xs, rfl, _⟩ := h
    rfl
  · obtain ⟨a, xs, rfl, ha, g, q⟩ := h
    refine ⟨_, (pss_one (ps_if (pt_not (pt_val (pe_fn f_is_order hr (by rfl) (pa_cons (pv 0) pa_nil))))
 pss_never
 pss_nil)), ?_⟩
    refine ⟨_, rfl, _, _, rfl, ha, g, _, rfl, ?_⟩
    refine iteF ?_
    exact end_same (Same.refl H) q
end
end Rf

set_option Elab.async false
set_option linter.all false
set_option maxRecDepth 100000
namespace Rf
open PySem L2
section
variable {P : Program} {w : World} {K : PySem.W.Frag} {mg : Str → Option Value} {base : Heap} {t : Adr}
/-! ### how moves are made -/
def isCut : Mv → Prop | .cut _ => True | _ => False
def vCut : Mv → V | .cut m => .int (m : Int) | _ => .non
theorem ok_Cut___init__ {f : Addr} {fd : FuncData} (F : Fun K "__init__" "Cut.__init__" s_Cut___init__ f fd) (T : Txt K mg t) (f_is_number : Fn1 P w K mg base 1 "is_number" spNum) : FnOk P w K mg base CX0 2 f fd ["self", "many"] (spInit1 t vCut isCut) := by
  refine F.okG sc_Cut___init__ (fun vs H Q E h => ?_) (fun cdv A outer s H vs Q E hr h => ?_)
  · obtain ⟨p, dx, mv, _, rfl, _⟩ := h
    rfl
  · obtain ⟨p, dx, mv, hi, rfl, ok, hp, q⟩ := h
    cases mv with
    | cut m =>
      have ok' : m ≤ 60 := ok
      refine ⟨_, (pss_cons (ps_if (pt_not (pt_val (pe_fn f_is_number hr (by rfl) (pa_cons (pv 1) (pa_cons pe_int (pa_cons (pe_globI rfl T.mg_MOST_CARDS) pa_nil))))))
 pss_never
 pss_nil)
 (pss_one (ps_fld (pv 0) (pv 1) rfl))), ?_⟩
      refine ⟨_, rfl, _, _, _, rfl, _, rfl, ?_⟩
      rw [show (decide ((0 : Int) ≤ (m : Int)) && decide ((m : Int) ≤ 60)) = true by simp; omega]
      refine iteF ?_
      refine ⟨_, rfl, _, rfl, _, _, _, _, rfl, hp, T.cl (.cut m), T.na_many, (by decide), ?_⟩
      exact ⟨_, fun _ c => Gc.refl c, q⟩
    | _ => exact False.elim hi
def isDeal : Mv → Prop | .deal _ => True | _ => False
def vDeal : Mv → V | .deal m => .int (m : Int) | _ => .non
theorem ok_Deal___init__ {f : Addr} {fd : FuncData} (F : Fun K "__init__" "Deal.__init__" s_Deal___init__ f fd) (T : Txt K mg t) (f_is_number : Fn1 P w K mg base 1 "is_number" spNum) : FnOk P w K mg base CX0 2 f fd ["self", "piles"] (spInit1 t vDeal isDeal) := by
  refine F.okG sc_Deal___init__ (fun vs H Q E h => ?_) (fun cdv A outer s H vs Q E hr h => ?_)
  · obtain ⟨p, dx, mv, _, rfl, _⟩ := h
    rfl
  · obtain ⟨p, dx, mv, hi, rfl, ok, hp, q⟩ := h
    cases mv with
    | deal m =>
      have ok' : 1 ≤ m ∧ m ≤ 60 := ok
      refine ⟨_, (pss_cons (ps_if (pt_not (pt_val (pe_fn f_is_number hr (by rfl) (pa_cons (pv 1) (pa_cons pe_int (pa_cons (pe_globI rfl T.mg_MOST_CARDS) pa_nil))))))
 pss_never
 pss_nil)
 (pss_one (ps_fld (pv 0) (pv 1) rfl))), ?_⟩
      refine ⟨_, rfl, _, _, _, rfl, _, rfl, ?_⟩
      rw [show (decide ((1 : Int) ≤ (m : Int)) && decide ((m : Int) ≤ 60)) = true by simp; omega]
      refine iteF ?_
      refine ⟨_, rfl, _, rfl, _, _, _, _, rfl, hp, T.cl (.deal m), T.na_piles, (by decide), ?_⟩
      exact ⟨_, fun _ c => Gc.refl c, q⟩
    | _ => exact False.elim hi
def isWeave : Mv → Prop | .weave _ => True | _ => False
def vWeave : Mv → V | .weave m => .int (m : Int) | _ => .non
theorem ok_Weave___init__ {f : Addr} {fd : FuncData} (F : Fun K "__init__" "Weave.__init__" s_Weave___init__ f fd) (T : Txt K mg t) (f_is_number : Fn1 P w K mg base 1 "is_number" spNum) : FnOk P w K mg base CX0 2 f fd ["self", "first"] (spInit1 t vWeave isWeave) := by
  refine F.okG sc_Weave___init__ (fun vs H Q E h => ?_) (fun cdv A outer s H vs Q E hr h => ?_)
  · obtain ⟨p, dx, mv, _, rfl, _⟩ := h
    rfl
  · obtain ⟨p, dx, mv, hi, rfl, ok, hp, q⟩ := h
    cases mv with
    | weave m =>
      have ok' : m ≤ 1 := ok
      refine ⟨_, (pss_cons (ps_if (pt_not (pt_val (pe_fn f_is_number hr (by rfl) (pa_cons (pv 1) (pa_cons pe_int (pa_cons pe_int pa_nil))))))
 pss_never
 pss_nil)
 (pss_one (ps_fld (pv 0) (pv 1) rfl))), ?_⟩
      refine ⟨_, rfl, _, _, _, rfl, _, rfl, ?_⟩
      rw [show (decide ((0 : Int) ≤ (m : Int)) && decide ((m : Int) ≤ 1)) = true by simp; omega]
      refine iteF ?_
      refine ⟨_, rfl, _, rfl, _, _, _, _, rfl, hp, T.cl (.weave m), T.na_first, (by decide), ?_⟩
      exact ⟨_, fun _ c => Gc.refl c, q⟩
    | _ => exact False.elim hi
/-! ### words -/
theorem word_size (w : List Bool) : (wordOf w).cps.size = w.length := by simp [wordOf]
theorem word_len (w : List Bool) : (wordOf w).length = w.length := word_size w
theorem word_a (w : List Bool) : (wordOf w).cps.toList.count 97 = cntA w := by
  unfold wordOf cntA
  induction w with
  | nil => rfl
  | cons b w ih => cases b <;> simp at ih ⊢ <;> omega
theorem word_b (w : List Bool) : (wordOf w).cps.toList.count 98 = cntB w := by
  unfold wordOf cntB
  induction w with
  | nil => rfl
  | cons b w ih => cases b <;> simp at ih ⊢ <;> omega
theorem str_a : Str.ofString "a" = ⟨#[97]⟩ := by rfl
theorem str_b : Str.ofString "b" = ⟨#[98]⟩ := by rfl
def spIsWord : Sp := fun vs H Q _ => ∃ (w : List Bool), vs = [.str (wordOf w)] ∧ 1 ≤ w.length ∧ w.length ≤ 60 ∧ Q (.bl true) H
theorem ok_is_word {f : Addr} {fd : FuncData} (F : Fun K "is_word" "is_word" s_is_word f fd) (T : Txt K mg t) (f_is_number : Fn1 P w K mg base 1 "is_number" spNum) : FnOk P w K mg base CX0 2 f fd ["value"] spIsWord := by
  refine F.okG sc_is_word (fun vs H Q E h => ?_) (fun cdv A outer s H vs Q E hr h => ?_)
  · obtain ⟨w, rfl, _⟩ := h
    rfl
  · obtain ⟨w, rfl, h1, h60, q⟩ := h
    have hz : (wordOf w).length ≤ sizeLine := by rw [word_len]; exact Nat.le_trans h60 (by decide)
    refine ⟨_, (pss_cons (ps_if (PW.pt (pw_or (pt_not (pt_val (pe_callB call_isi (by rfl) T.no_isinstance (show bootBuiltins "isinstance" = some (.builtin "isinstance") by decide +kernel) (pa_cons (pv 0) (pa_cons (pe_bltn (v := .ty "str") rfl T.no_str (show bootBuiltins "str" = some (.type "str") by decide +kernel) rfl) pa_nil))))) (pw_or1 (pt_not (pt_val (pe_fn f_is_number hr (by rfl) (pa_cons (pe_callB call_len_str (by rfl) T.no_len (show bootBuiltins "len" = some (.builtin "len") by decide +kernel) (pa_cons (pv 0) pa_nil)) (pa_cons pe_int (pa_cons (pe_globI rfl T.mg_MOST_CARDS) pa_nil)))))))))
 (pss_one (ps_ret pe_bl))
 pss_nil)
 (pss_one (ps_ret (pe_cmpR op_eq (pe_op op_add (pe_bm PySem.F.plainAttrs_str PySem.F.slot_str_count PySem.F.type_str_count mt_count (pv 0) (pa_cons pe_str pa_nil)) (pe_bm PySem.F.plainAttrs_str PySem.F.slot_str_count PySem.F.type_str_count mt_count (pv 0) (pa_cons pe_str pa_nil))) (pe_callB call_len_str (by rfl) T.no_len (show bootBuiltins "len" = some (.builtin "len") by decide +kernel) (pa_cons (pv 0) pa_nil)) (nomark _))))), ?_⟩
    refine ⟨_, rfl, _, _, _, _, rfl, .str _, .inl ⟨_, rfl⟩, kit_str_str, _, rfl, ?_⟩
    refine iteF ?_
    refine ⟨_, rfl, _, rfl, hz, _, _, _, rfl, _, rfl, ?_⟩
    rw [word_len, show (decide ((1 : Int) ≤ (w.length : Int)) && decide ((w.length : Int) ≤ 60)) = true by simp; omega]
    refine iteF ?_
    refine ⟨_, rfl, rfl, _, 97, rfl, rfl, _, rfl, rfl, _, 98, rfl, rfl, _, _, rfl, rfl, _, rfl, _, rfl, hz, rfl, ?_⟩
    rw [word_a, word_b, word_len]
    have : V.int ((cntA w : Int) + (cntB w : Int)) = V.int (w.length : Int) := by
      have := cnt_len w
      congr 1
      omega
    rw [decide_eq_true this]
    exact end_same (Same.refl H) q
def isRiffle : Mv → Prop | .riffle _ => True | _ => False
def vRiffle : Mv → V | .riffle w => .str (wordOf w) | _ => .non
theorem ok_Riffle___init__ {f : Addr} {fd : FuncData} (F : Fun K "__init__" "Riffle.__init__" s_Riffle___init__ f fd) (T : Txt K mg t) (f_is_word : Fn1 P w K mg base 2 "is_word" spIsWord) : FnOk P w K mg base CX0 3 f fd ["self", "word"] (spInit1 t vRiffle isRiffle) := by
  refine F.okG sc_Riffle___init__ (fun vs H Q E h => ?_) (fun cdv A outer s H vs Q E hr h => ?_)
  · obtain ⟨p, dx, mv, _, rfl, _⟩ := h
    rfl
  · obtain ⟨p, dx, mv, hi, rfl, ok, hp, q⟩ := h
    cases mv with
    | riffle m =>
      have ok' : 1 ≤ m.length ∧ m.length ≤ 60 := ok
      refine ⟨_, (pss_cons (ps_if (pt_not (pt_val (pe_fn f_is_word hr (by rfl) (pa_cons (pv 1) pa_nil))))
 pss_never
 pss_nil)
 (pss_one (ps_fld (pv 0) (pv 1) rfl))), ?_⟩
      refine ⟨_, rfl, _, rfl, ok'.1, ok'.2, _, rfl, ?_⟩
      refine iteF ?_
      refine ⟨_, rfl, _, rfl, _, _, _, _, rfl, hp, T.cl (.riffle m), T.na_word, (by decide), ?_⟩
      exact ⟨_, fun _ c => Gc.refl c, q⟩
    | _ => exact False.elim hi
def spInit0 (t : Adr) (mv : Mv) : Sp := fun vs H Q _ => ∃ (p dx : Addr), vs = [.ref p] ∧ H p = some (.ins (mv.cls t) dx []) ∧ Q .non H
theorem ok_Turn___init__ {f : Addr} {fd : FuncData} (F : Fun K "__init__" "Turn.__init__" s_Turn___init__ f fd) : FnOk P w K mg base CX0 1 f fd ["self"] (spInit0 t .turn) := by
  refine F.okG sc_Turn___init__ (fun vs H Q E h => ?_) (fun cdv A outer s H vs Q E hr h => ?_)
  · obtain ⟨p, dx, rfl, _⟩ := h
    rfl
  · obtain ⟨p, dx, rfl, hp, q⟩ := h
    refine ⟨_, (pss_one ps_pass), ?_⟩
    exact ⟨_, fun _ c => Gc.refl c, q⟩
theorem ok_Under___init__ {f : Addr} {fd : FuncData} (F : Fun K "__init__" "Under.__init__" s_Under___init__ f fd) : FnOk P w K mg base CX0 1 f fd ["self"] (spInit0 t .under) := by
  refine F.okG sc_Under___init__ (fun vs H Q E h => ?_) (fun cdv A outer s H vs Q E hr h => ?_)
  · obtain ⟨p, dx, rfl, _⟩ := h
    rfl
  · obtain ⟨p, dx, rfl, hp, q⟩ := h
    refine ⟨_, (pss_one ps_pass), ?_⟩
    exact ⟨_, fun _ c => Gc.refl c, q⟩
end
end Rf

set_option Elab.async false
set_option linter.all false
set_option maxRecDepth 100000
namespace Rf
open PySem L2
/-! ### lists of ints -/
theorem rngV_down (n : Nat) : rngV ((n : Int) - 1) (-1) n = nv (srcTurn n) := by
  apply List.ext_getElem?
  intro j
  by_cases h : j < n
  · simp [rngV, nv, srcTurn, h, List.getElem?_reverse]
    omega
  · simp [rngV, nv, srcTurn, h]
theorem rngV_step (i p n : Nat) : rngV (i : Int) (p : Int) n = nv (List.range' i n p) := by
  apply List.ext_getElem?
  intro j
  by_cases h : j < n
  · simp [rngV, nv, h, Int.mul_comm]
  · simp [rngV, nv, h]
theorem nv_append (xs ys : List Nat) : nv xs ++ nv ys = nv (xs ++ ys) := by simp [nv]
theorem nv_reverse (xs : List Nat) : (nv xs).reverse = nv xs.reverse := by simp [nv]
theorem seq0 (n : Nat) (h : 0 < n) : seqIndex? 0 n = some 0 := by
  have := (ixN_seq (n := n) (i := 0) (j := 0) (by unfold ixN; simp; omega)).1
  exact this
section
variable {P : Program} {w : World} {K : PySem.W.Frag} {mg : Str → Option Value} {base : Heap} {t : Adr}
theorem ok_Cut_sources {f : Addr} {fd : FuncData} (F : Fun K "sources" "Cut.sources" s_Cut_sources f fd) {m : Nat} (T : Txt K mg t) : FnOk P w K mg base CX0 2 f fd ["self", "cards"] (spSrc t (.cut m)) := by
  refine F.okG sc_Cut_sources (fun vs H Q E h => ?_) (fun cdv A outer s H vs Q E hr h => ?_)
  · obtain ⟨p, n, rfl, _⟩ := h
    rfl
  · obtain ⟨p, n, rfl, ⟨dx, hp⟩, ok, fit, h1, h60, q⟩ := h
    have ok' : m ≤ 60 := ok
    have fit' : m ≤ n := fit
    refine ⟨_, (pss_cons (ps_if (pt_cmpR op_gt (pe_fld (pv 0) rfl) (pv 1) (nomark _))
 pss_never
 pss_nil)
 (pss_one (ps_ret (pe_op op_cat (pe_callTy (call_list_rng rfl) (by rfl) T.no_list (show bootBuiltins "list" = some (.type "list") by decide +kernel) (pa_cons (pe_callTy call_rng2 (by rfl) T.no_range (show bootBuiltins "range" = some (.type "range") by decide +kernel) (pa_cons (pe_fld (pv 0) rfl) (pa_cons (pv 1) pa_nil))) pa_nil)) (pe_callTy (call_list_rng rfl) (by rfl) T.no_list (show bootBuiltins "list" = some (.type "list") by decide +kernel) (pa_cons (pe_callTy call_rng1 (by rfl) T.no_range (show bootBuiltins "range" = some (.type "range") by decide +kernel) (pa_cons (pe_fld (pv 0) rfl) pa_nil)) pa_nil)))))), ?_⟩
    refine ⟨_, rfl, _, _, _, _, _, rfl, hp, T.cl (.cut m), T.na_many, rfl, _, rfl, _, _, rfl, rfl, _, rfl, ?_⟩
    rw [show decide ((n : Int) < (m : Int)) = false by simp; omega]
    refine iteF ?_
    refine ⟨_, rfl, _, _, _, _, _, rfl, hp, T.cl (.cut m), T.na_many, rfl, _, rfl, _, _, rfl, fun r1 hr1 => ?_⟩
    refine ⟨_, _, _, _, _, rfl, upd_same, rng_small ⟨by omega, by omega⟩ ⟨by omega, by omega⟩ (by decide) (by decide), rng_up, by omega, fun l1 hl1 => ?_⟩
    have e1 := ((Same.refl H).new (o := rngO r1 m n 1) hr1).new (o := .lst (rngV m 1 ((n : Int) - m).toNat)) hl1
    refine ⟨_, rfl, _, _, _, _, _, rfl, e1 _ _ hp, T.cl (.cut m), T.na_many, rfl, _, rfl, fun r2 hr2 => ?_⟩
    refine ⟨_, _, _, _, _, rfl, upd_same, rng_small ⟨by omega, by omega⟩ ⟨by omega, by omega⟩ (by decide) (by decide), rng_up, by omega, fun l2 hl2 => ?_⟩
    have e2 := (Same.new (Same.refl _) (o := rngO r2 0 m 1) hr2).new (o := .lst (rngV 0 1 ((m : Int) - 0).toNat)) hl2
    refine ⟨_, _, _, _, rfl, rfl, e2 _ _ upd_same, upd_same, ?_, fun l3 hl3 => ?_⟩
    · rw [rngV_length, rngV_length]
      have : (1000 : Nat) < sizeLine := by decide
      omega
    · refine end_lst ((e1.trans e2).new hl3) ((e1.trans e2).free hl3) upd_same ?_
      have e : rngV (m : Int) 1 ((n : Int) - m).toNat ++ rngV 0 1 ((m : Int) - 0).toNat = nv (srcCut m n) := by
        rw [show ((n : Int) - m).toNat = n - m by omega, show ((m : Int) - 0).toNat = m by omega, rngV_nv, show (0 : Int) = ((0 : Nat) : Int) from rfl, rngV_nv, nv_append, srcCut, List.range_eq_range']
      rw [e]
      exact q
theorem ok_Turn_sources {f : Addr} {fd : FuncData} (F : Fun K "sources" "Turn.sources" s_Turn_sources f fd) (T : Txt K mg t) : FnOk P w K mg base CX0 2 f fd ["self", "cards"] (spSrc t .turn) := by
  refine F.okG sc_Turn_sources (fun vs H Q E h => ?_) (fun cdv A outer s H vs Q E hr h => ?_)
  · obtain ⟨p, n, rfl, _⟩ := h
    rfl
  · obtain ⟨p, n, rfl, ⟨dx, hp⟩, ok, fit, h1, h60, q⟩ := h
    refine ⟨_, (pss_one (ps_ret (pe_callTy (call_list_rng rfl) (by rfl) T.no_list (show bootBuiltins "list" = some (.type "list") by decide +kernel) (pa_cons (pe_callTy call_rng3 (by rfl) T.no_range (show bootBuiltins "range" = some (.type "range") by decide +kernel) (pa_cons (pe_op op_sub (pv 1) pe_int) (pa_cons (pe_neg) (pa_cons (pe_neg) pa_nil)))) pa_nil)))), ?_⟩
    refine ⟨_, rfl, _, _, rfl, rfl, _, _, _, rfl, by decide, by decide, fun r1 hr1 => ?_⟩
    refine ⟨_, _, _, _, _, rfl, upd_same, rng_small ⟨by omega, by omega⟩ (by decide) (by decide) (by decide), rng_down, by omega, fun l1 hl1 => ?_⟩
    have e1 := (Same.refl H).new (o := rngO r1 ((n : Int) - 1) (-1) (-1)) hr1
    refine end_lst (e1.new hl1) (e1.free hl1) upd_same ?_
    rw [rngV_down]
    exact q
/-- the piles from the right, i of them -/
def dealAcc (p n i : Nat) : List Nat := (((List.range p).reverse.take i).map fun j => (rng3 j n p).reverse).flatten
theorem dealAcc_succ (p n i : Nat) (h : i < p) : dealAcc p n (i + 1) = dealAcc p n i ++ (rng3 (p - 1 - i) n p).reverse := by
  unfold dealAcc
  rw [List.take_add_one, List.map_append, List.flatten_append]
  congr 1
  have : (List.range p).reverse[i]? = some (p - 1 - i) := by
    rw [List.getElem?_reverse (by simpa using h), List.length_range, List.getElem?_range (by omega)]
  rw [this]
  simp
theorem dealAcc_all (p n : Nat) : dealAcc p n p = srcDeal p n := by
  unfold dealAcc srcDeal
  rw [List.take_of_length_le (by simp)]
theorem dealAcc_le (p n i : Nat) (hp : 0 < p) : (dealAcc p n i).length ≤ n := by
  have h1 := (srcDeal_perm (p := p) (n := n) hp).length_eq
  rw [List.length_range] at h1
  have h2 : srcDeal p n = dealAcc p n i ++ (((List.range p).reverse.drop i).map fun j => (rng3 j n p).reverse).flatten := by
    unfold srcDeal dealAcc
    rw [← List.flatten_append, ← List.map_append, List.take_append_drop]
  rw [h2, List.length_append] at h1
  omega
theorem ok_Deal_sources {f : Addr} {fd : FuncData} (F : Fun K "sources" "Deal.sources" s_Deal_sources f fd) {m : Nat} (T : Txt K mg t) : FnOk P w K mg base CX0 2 f fd ["self", "cards"] (spSrc t (.deal m)) := by
  refine F.okG sc_Deal_sources (fun vs H Q E h => ?_) (fun cdv A outer s H vs Q E hr h => ?_)
  · obtain ⟨p, n, rfl, _⟩ := h
    rfl
  · obtain ⟨p, n, rfl, ⟨dx, hp⟩, ok, fit, h1, h60, q⟩ := h
    have ok' : 1 ≤ m ∧ m ≤ 60 := ok
    have nd := sc_Deal_sources.nd
    have big : (1000 : Nat) < sizeLine := by decide
    refine ⟨_, (pss_cons (ps_set (i := 2) nd rfl (Or.inl rfl) (pe_lst pa_nil))
 (pss_cons (ps_for PassesOwn.never rfl (pi_rng (pe_callTy call_rng3 (by rfl) T.no_range (show bootBuiltins "range" = some (.type "range") by decide +kernel) (pa_cons (pe_op op_sub (pe_fld (pv 0) rfl) pe_int) (pa_cons (pe_neg) (pa_cons (pe_neg) pa_nil))))) (pg_name (i := 3) nd rfl (Or.inl rfl))
 (pss_cons (ps_set (i := 4) nd rfl (Or.inl rfl) (pe_callTy (call_list_rng rfl) (by rfl) T.no_list (show bootBuiltins "list" = some (.type "list") by decide +kernel) (pa_cons (pe_callTy call_rng3 (by rfl) T.no_range (show bootBuiltins "range" = some (.type "range") by decide +kernel) (pa_cons (pv 3) (pa_cons (pv 1) (pa_cons (pe_fld (pv 0) rfl) pa_nil)))) pa_nil)))
 (pss_one (ps_expr (pe_bm PySem.F.plainAttrs_list PySem.F.slot_list_extend PySem.F.type_list_extend mt_extend (pv 2) (pa_cons (pe_lrev rfl (by rfl) T.no_list (by rfl) T.no_reversed (pa_cons (pv 4) pa_nil)) pa_nil))))))
 (pss_one (ps_ret (pv 2))))), ?_⟩
    refine ⟨(by decide), fun l1 hl1 => ?_⟩
    have e0 := (Same.refl H).new (o := .lst []) hl1
    refine ⟨_, rfl, _, _, _, _, _, rfl, e0 _ _ hp, T.cl (.deal m), T.na_piles, rfl, _, _, rfl, rfl, _, _, _, rfl, by decide, by decide, fun r1 hr1 => ?_⟩
    refine ⟨_, _, _, _, _, rfl, upd_same, rng_small ⟨by omega, by omega⟩ (by decide) (by decide) (by decide), rng_down, ?_⟩
    refine for_range3 (fun i σ H' => ∃ a b, σ = [some (.ref p), some (.int (n : Int)), some (.ref l1), a, b] ∧ Same H H' ∧ H' l1 = some (.lst (nv (dealAcc m n i)))) ⟨_, _, rfl, e0.new hr1, (by rw [upd_ne (ne_of_none upd_same hr1), upd_same]; rfl)⟩ ?_ ?_
    · rintro i σ H' hi ⟨a, b, rfl, se, hl⟩
      have ej : (m : Int) - 1 + (i : Int) * -1 = ((m - 1 - i : Nat) : Int) := by omega
      rw [ej]
      refine ⟨_, rfl, _, rfl, _, rfl, _, _, _, _, _, rfl, se _ _ hp, T.cl (.deal m), T.na_piles, rfl, _, _, _, rfl, by omega, by omega, fun r2 hr2 => ?_⟩
      refine ⟨_, _, _, _, _, rfl, upd_same, rng_small ⟨by omega, by omega⟩ ⟨by omega, by omega⟩ (by omega) ⟨by omega, by omega⟩, rng_step (by omega), ?_, fun l2 hl2 => ?_⟩
      · have : (n - (m - 1 - i) + m - 1) / m ≤ n - (m - 1 - i) + m - 1 := Nat.div_le_self _ _
        omega
      have e2 := (Same.new (Same.refl H') (o := rngO r2 ((m - 1 - i : Nat) : Int) n m) hr2).new (o := .lst (rngV ((m - 1 - i : Nat) : Int) m ((n - (m - 1 - i) + m - 1) / m))) hl2
      refine ⟨_, rfl, .inl ⟨rfl, _, SqL.of (e2 _ _ hl)⟩, _, rfl, _, _, rfl, SqL.of upd_same, fun l3 hl3 => ?_⟩
      have e3 := e2.new (o := .lst (rngV ((m - 1 - i : Nat) : Int) m ((n - (m - 1 - i) + m - 1) / m)).reverse) hl3
      have er : (rngV ((m - 1 - i : Nat) : Int) m ((n - (m - 1 - i) + m - 1) / m)).reverse = nv (rng3 (m - 1 - i) n m).reverse := by rw [rngV_step, nv_reverse]; rfl
      have ea : nv (dealAcc m n i) ++ nv (rng3 (m - 1 - i) n m).reverse = nv (dealAcc m n (i + 1)) := by rw [nv_append, dealAcc_succ m n i hi]
      rw [er] at e3 ⊢
      refine ⟨_, _, _, _, rfl, rfl, e3 _ _ hl, upd_same, ?_, ?_⟩
      · have h2 := dealAcc_le m n (i + 1) (by omega)
        rw [← List.length_append, ea, nv_length]
        omega
      · rw [ea]
        refine ⟨_, _, rfl, ?_, upd_same⟩
        exact (se.trans e3).upd hl1
    · rintro σ H' ⟨a, b, rfl, se, hl⟩
      refine ⟨_, rfl, ?_⟩
      rw [dealAcc_all] at hl
      exact end_lst se hl1 hl q
end
end Rf

set_option Elab.async false
set_option linter.all false
set_option maxRecDepth 100000
namespace Rf
open PySem L2
/-! ### comprehensions over a list whose elements leave the heap alone -/
theorem lc_go {K : PySem.W.Frag} {js : List Nat} {te : TE} {σ : St} {H : Hp} {S : Addr → Hp → List V → Prop} {a : Addr} {xs : List V} (f : Nat → V → V) (hx : SqL K H a xs) (hz : xs.length ≤ 1000)
    (he : ∀ i x R, xs[i]? = some x → R (f i x) H → te (some x :: js.map fun j => σ.getD j none) H R) (q : ∀ D, H D = none → S D H (xs.mapIdx f)) :
    ∃ W : Nat → Nat → List V → Hp → Prop, (∃ m, W 0 m [] H) ∧ ∀ i m acc H, W i m acc H → ((Itl K a).stop i H ∧ ∀ D, H D = none → S D H acc) ∨
      ((Itl K a).go i H ∧ acc.length < sizeLine ∧ ∀ x H', (Itl K a).yld i H x H' → te (some x :: js.map fun j => σ.getD j none) H' fun y H'' => ∃ m', m' < m ∧ W (i + 1) m' (acc ++ [y]) H'') := by
  refine ⟨fun i m acc H' => H' = H ∧ m = xs.length - i ∧ i ≤ xs.length ∧ acc = (xs.mapIdx f).take i, ⟨xs.length, rfl, rfl, Nat.zero_le _, by simp⟩, ?_⟩
  rintro i m acc H' ⟨rfl, rfl, hi, rfl⟩
  by_cases hlt : i < xs.length
  · refine .inr ⟨⟨xs, xs[i], hx, by simp [hlt]⟩, ?_, fun x H'' y => ?_⟩
    · have : (1000 : Nat) < sizeLine := by decide
      rw [List.length_take]
      omega
    · obtain ⟨e, y⟩ := y
      subst e
      have hxi := y xs hx
      refine he i x _ hxi ⟨xs.length - (i + 1), by omega, rfl, rfl, hlt, ?_⟩
      rw [List.take_add_one]
      simp [hxi]
  · have e : i = xs.length := by omega
    subst e
    refine .inl ⟨⟨xs, hx, Nat.le_refl _⟩, ?_⟩
    have e2 : (xs.mapIdx f).take xs.length = xs.mapIdx f := List.take_of_length_le (by simp)
    rw [e2]
    exact q
theorem nv_at {xs : List Nat} {i : Nat} {x : V} (h : (nv xs)[i]? = some x) : ∃ n, xs[i]? = some n ∧ x = .int (n : Int) := by
  simp only [nv, List.getElem?_map] at h
  cases e : xs[i]? with
  | none => rw [e] at h; simp at h
  | some n => rw [e] at h; simp at h; exact ⟨n, rfl, h.symm⟩
section
variable {P : Program} {w : World} {K : PySem.W.Frag} {mg : Str → Option Value} {base : Heap} {t : Adr}
theorem ok_Under_sources {f : Addr} {fd : FuncData} (F : Fun K "sources" "Under.sources" s_Under_sources f fd) (T : Txt K mg t) : FnOk P w K mg base CX0 2 f fd ["self", "cards"] (spSrc t .under) := by
  refine F.okG sc_Under_sources (fun vs H Q E h => ?_) (fun cdv A outer s H vs Q E hr h => ?_)
  · obtain ⟨p, n, rfl, _⟩ := h
    rfl
  · obtain ⟨p, n, rfl, ⟨dx, hp⟩, ok, fit, h1, h60, q⟩ := h
    have nd := sc_Under_sources.nd
    have big : (1000 : Nat) < sizeLine := by decide
    refine ⟨_, (pss_cons (ps_set (i := 2) nd rfl (Or.inl rfl) (pe_callTy (call_list_rng rfl) (by rfl) T.no_list (show bootBuiltins "list" = some (.type "list") by decide +kernel) (pa_cons (pe_callTy call_rng1 (by rfl) T.no_range (show bootBuiltins "range" = some (.type "range") by decide +kernel) (pa_cons (pv 1) pa_nil)) pa_nil)))
 (pss_cons (ps_set (i := 3) nd rfl (Or.inl rfl) (pe_lst pa_nil))
 (pss_cons (ps_while PassesOwn.never (pt_cmpR op_gt (pe_callB call_len_seq (by rfl) T.no_len (show bootBuiltins "len" = some (.builtin "len") by decide +kernel) (pa_cons (pv 2) pa_nil)) pe_int (nomark _))
 (pss_cons (ps_expr (pe_bm PySem.F.plainAttrs_list PySem.F.slot_list_append PySem.F.type_list_append mt_append (pv 3) (pa_cons (pe_bm PySem.F.plainAttrs_list PySem.F.slot_list_pop PySem.F.type_list_pop mt_popAt (pv 2) (pa_cons pe_int pa_nil)) pa_nil)))
 (pss_one (ps_if (pt_cmpR op_gt (pe_callB call_len_seq (by rfl) T.no_len (show bootBuiltins "len" = some (.builtin "len") by decide +kernel) (pa_cons (pv 2) pa_nil)) pe_int (nomark _))
 (pss_one (ps_expr (pe_bm PySem.F.plainAttrs_list PySem.F.slot_list_append PySem.F.type_list_append mt_append (pv 2) (pa_cons (pe_bm PySem.F.plainAttrs_list PySem.F.slot_list_pop PySem.F.type_list_pop mt_popAt (pv 2) (pa_cons pe_int pa_nil)) pa_nil))))
 pss_nil))))
 (pss_one (ps_ret (pe_lrev rfl (by rfl) T.no_list (by rfl) T.no_reversed (pa_cons (pv 3) pa_nil))))))), ?_⟩
    refine ⟨_, rfl, _, rfl, fun r1 hr1 => ?_⟩
    refine ⟨_, _, _, _, _, rfl, upd_same, rng_small (by decide) ⟨by omega, by omega⟩ (by decide) (by decide), rng_up, by omega, fun lp hlp => ?_⟩
    refine ⟨(by decide), fun ll hll => ?_⟩
    have er : rngV 0 1 ((n : Int) - 0).toNat = nv (List.range n) := by rw [show ((n : Int) - 0).toNat = n by omega, show (0 : Int) = ((0 : Nat) : Int) from rfl, rngV_nv, List.range_eq_range']
    rw [er] at hll ⊢
    have e1 := (Same.refl H).new (o := rngO r1 0 n 1) hr1
    have e2 := e1.new (o := .lst (nv (List.range n))) hlp
    have e3 := e2.new (o := .lst []) hll
    have nl : lp ≠ ll := ne_of_none upd_same hll
    have nH : H lp = none := e1.free hlp
    have nL : H ll = none := e2.free hll
    -- while len(pack) > 0
    refine ⟨fun m σ H' => ∃ pack laid, σ = [some (.ref p), some (.int (n : Int)), some (.ref lp), some (.ref ll)] ∧ Same H H' ∧ H' lp = some (.lst (nv pack)) ∧ H' ll = some (.lst (nv laid)) ∧ underGo pack laid = underGo (List.range n) [] ∧ pack.length + laid.length = n ∧ m = pack.length,
      ⟨_, List.range n, [], rfl, e3, by rw [upd_ne nl, upd_same], upd_same, rfl, by simp, rfl⟩, ?_⟩
    rintro m σ H' ⟨pack, laid, rfl, se, hP, hL, hu, hn, rfl⟩
    refine ⟨_, rfl, _, _, rfl, .inl (SqL.of hP), _, _, rfl, rfl, _, rfl, ?_⟩
    rw [nv_length]
    cases pack with
    | nil =>
      refine iteF ?_
      refine ⟨_, rfl, _, _, rfl, SqL.of hL, fun l1 hl1 => ?_⟩
      refine end_lst (se.new hl1) (se.free hl1) upd_same ?_
      have e : laid = underGo (List.range n) [] := by rw [← hu]; simp [underGo]
      rw [nv_reverse, e]
      exact q
    | cons x r =>
      rw [show decide ((0 : Int) < ((x :: r).length : Int)) = true from decide_eq_true (by rw [List.length_cons]; omega)]
      refine iteT ?_
      refine ⟨fun σ' H'' => ∃ m', m' < (x :: r).length ∧ ∃ pack laid, σ' = [some (.ref p), some (.int (n : Int)), some (.ref lp), some (.ref ll)] ∧ Same H H'' ∧ H'' lp = some (.lst (nv pack)) ∧ H'' ll = some (.lst (nv laid)) ∧ underGo pack laid = underGo (List.range n) [] ∧ pack.length + laid.length = n ∧ m' = pack.length, fun _ _ h => h, ?_⟩
      rw [List.length_cons] at hn
      have s1 : Same H (upd H' lp (.lst (nv r))) := se.upd nH
      have hL1 : upd H' lp (.lst (nv r)) ll = some (.lst (nv laid)) := by rw [upd_ne (Ne.symm nl)]; exact hL
      refine ⟨_, rfl, .inl ⟨rfl, _, SqL.of hL⟩, _, rfl, .inl ⟨rfl, _, SqL.of hP⟩, _, _, _, 0, _, rfl, rfl, hP, by decide, by decide, seq0 _ (by simp [nv]), rfl, _, _, _, rfl, rfl, hL1, by rw [nv_length]; omega, ?_⟩
      have e4 : nv laid ++ [V.int (x : Int)] = nv (laid ++ [x]) := by simp [nv]
      have s2 : Same H (upd (upd H' lp (.lst (nv r))) ll (.lst (nv laid ++ [V.int (x : Int)]))) := s1.upd nL
      have hP2 : upd (upd H' lp (.lst (nv r))) ll (.lst (nv laid ++ [V.int (x : Int)])) lp = some (.lst (nv r)) := by rw [upd_ne nl, upd_same]
      refine ⟨_, rfl, _, _, rfl, .inl (SqL.of hP2), _, _, rfl, rfl, _, rfl, ?_⟩
      rw [nv_length]
      cases r with
      | nil =>
        refine iteF ?_
        refine ⟨0, by simp, [], laid ++ [x], rfl, s2, hP2, by rw [upd_same, e4], ?_, by simp at hn ⊢; omega, rfl⟩
        rw [← hu]
        simp [underGo]
      | cons y r2 =>
        rw [show decide ((0 : Int) < ((y :: r2).length : Int)) = true from decide_eq_true (by rw [List.length_cons]; omega)]
        refine iteT ?_
        refine ⟨_, rfl, .inl ⟨rfl, _, SqL.of hP2⟩, _, rfl, .inl ⟨rfl, _, SqL.of hP2⟩, _, _, _, 0, _, rfl, rfl, hP2, by decide, by decide, seq0 _ (by simp [nv]), rfl, _, _, _, rfl, rfl, upd_same, by simp [nv] at hn ⊢; omega, ?_⟩
        have e5 : (nv (y :: r2)).eraseIdx 0 ++ [V.int (y : Int)] = nv (r2 ++ [y]) := by simp [nv]
        refine ⟨r2.length + 1, by simp, r2 ++ [y], laid ++ [x], rfl, (s2.upd nH).upd nH, by rw [upd_same, e5], by rw [upd_ne (Ne.symm nl), upd_ne (Ne.symm nl), upd_same, e4], ?_, by simp at hn ⊢; omega, by simp⟩
        rw [← hu]
        simp [underGo]
def spRifSrc : Sp := fun vs H Q _ => ∃ (w : List Bool), vs = [.str (wordOf w)] ∧ w.length ≤ 60 ∧ ∀ l, H l = none → Q (.ref l) (upd H l (.lst (nv (srcRif w))))
theorem word_at {w : List Bool} {i c : Nat} (h : (wordOf w).cps[i]? = some c) : ∃ b, w[i]? = some b ∧ c = if b then 97 else 98 := by
  have h' : (w.map fun b => if b then 97 else 98)[i]? = some c := by simpa [wordOf] using h
  rw [List.getElem?_map] at h'
  cases e : w[i]? with
  | none => rw [e] at h'; simp at h'
  | some b => rw [e] at h'; simp at h'; exact ⟨b, rfl, h'.symm⟩
theorem drop_at {α} {w : List α} {i : Nat} {b : α} (h : w[i]? = some b) : w.drop i = b :: w.drop (i + 1) := by
  have hi := (List.getElem?_eq_some_iff.mp h).1
  rw [List.drop_eq_getElem_cons hi]
  congr 1
  exact (List.getElem?_eq_some_iff.mp h).2
theorem ok_riffle_sources {f : Addr} {fd : FuncData} (F : Fun K "riffle_sources" "riffle_sources" s_riffle_sources f fd) (T : Txt K mg t) : FnOk P w K mg base CX0 1 f fd ["word"] spRifSrc := by
  refine F.okG sc_riffle_sources (fun vs H Q E h => ?_) (fun cdv A outer s H vs Q E hr h => ?_)
  · obtain ⟨w, rfl, _⟩ := h
    rfl
  · obtain ⟨w, rfl, h60, q⟩ := h
    have nd := sc_riffle_sources.nd
    have big : (1000 : Nat) < sizeLine := by decide
    refine ⟨_, (pss_cons (ps_set (i := 1) nd rfl (Or.inl rfl) pe_int)
 (pss_cons (ps_set (i := 2) nd rfl (Or.inl rfl) (pe_bm PySem.F.plainAttrs_str PySem.F.slot_str_count PySem.F.type_str_count mt_count (pv 0) (pa_cons pe_str pa_nil)))
 (pss_cons (ps_set (i := 3) nd rfl (Or.inl rfl) (pe_lst pa_nil))
 (pss_cons (ps_for PassesOwn.never rfl (pi_str (pv 0)) (pg_name (i := 4) nd rfl (Or.inl rfl))
 (pss_one (ps_if (pt_cmpR op_eq (pv 4) pe_str (nomark _))
 (pss_cons (ps_expr (pe_bm PySem.F.plainAttrs_list PySem.F.slot_list_append PySem.F.type_list_append mt_append (pv 3) (pa_cons (pv 1) pa_nil)))
 (pss_one (ps_set (i := 1) nd rfl (Or.inl rfl) (pe_op op_add (pv 1) pe_int))))
 (pss_cons (ps_expr (pe_bm PySem.F.plainAttrs_list PySem.F.slot_list_append PySem.F.type_list_append mt_append (pv 3) (pa_cons (pv 2) pa_nil)))
 (pss_one (ps_set (i := 2) nd rfl (Or.inl rfl) (pe_op op_add (pv 2) pe_int)))))))
 (pss_one (ps_ret (pv 3))))))), ?_⟩
    refine ⟨_, rfl, rfl, _, 97, rfl, rfl, (by decide), fun l1 hl1 => ?_⟩
    refine ⟨_, rfl, _, rfl, ?_⟩
    refine for_str (fun i σ H' => ∃ (acc : List Nat) (u l : Nat) (s : Option V), σ = [some (.str (wordOf w)), some (.int (u : Int)), some (.int (l : Int)), some (.ref l1), s] ∧ Same H H' ∧ H' l1 = some (.lst (nv acc)) ∧ acc.length = i ∧ acc ++ ruf (w.drop i) u l = srcRif w) ⟨[], 0, cntA w, none, ?_, (Same.refl H).new hl1, upd_same, rfl, rfl⟩ ?_ ?_
    · rw [word_a]; rfl
    · rintro i c σ H' hc ⟨acc, u, l, sv, rfl, se, hl, hi, hr'⟩
      obtain ⟨b, hb, rfl⟩ := word_at hc
      rw [drop_at hb] at hr'
      have hlt := (List.getElem?_eq_some_iff.mp hb).1
      have sn : ∀ o, Same H (upd H' l1 o) := fun o => se.upd hl1
      refine ⟨_, rfl, rfl, _, rfl, ?_⟩
      cases b with
      | true =>
        refine iteT ?_
        refine ⟨_, rfl, .inl ⟨rfl, _, SqL.of hl⟩, _, rfl, _, _, _, rfl, rfl, hl, by rw [nv_length]; omega, _, rfl, _, _, rfl, rfl, ?_⟩
        refine ⟨acc ++ [u], u + 1, l, _, rfl, sn _, by rw [upd_same]; simp [nv], by simp [hi], ?_⟩
        rw [← hr', ruf]
        simp
      | false =>
        refine iteF ?_
        refine ⟨_, rfl, .inl ⟨rfl, _, SqL.of hl⟩, _, rfl, _, _, _, rfl, rfl, hl, by rw [nv_length]; omega, _, rfl, _, _, rfl, rfl, ?_⟩
        refine ⟨acc ++ [l], u, l + 1, _, rfl, sn _, by rw [upd_same]; simp [nv], by simp [hi], ?_⟩
        rw [← hr', ruf]
        simp
    · rintro σ H' ⟨acc, u, l, sv, rfl, se, hl, hi, hr'⟩
      rw [word_size] at hi hr'
      rw [List.drop_of_length_le (Nat.le_refl _), ruf, List.append_nil] at hr'
      rw [hr'] at hl
      exact ⟨_, rfl, end_lst se hl1 hl q⟩
theorem rep_map {α β} (f : α → β) (l : List α) : ∀ k, (List.replicate k (l.map f)).flatten = (List.replicate k l).flatten.map f
  | 0 => rfl
  | k + 1 => by rw [List.replicate_succ, List.flatten_cons, List.replicate_succ, List.flatten_cons, List.map_append, rep_map f l k]
theorem weave_word (k : Nat) (w0 : List Bool) : repS (wordOf w0) k = wordOf (List.replicate k w0).flatten := by
  unfold repS wordOf
  congr 1
  simp only [rep_map]
theorem ok_Weave_sources {f : Addr} {fd : FuncData} (F : Fun K "sources" "Weave.sources" s_Weave_sources f fd) {m : Nat} (T : Txt K mg t) (f_riffle_sources : Fn1 P w K mg base 1 "riffle_sources" spRifSrc) : FnOk P w K mg base CX0 2 f fd ["self", "cards"] (spSrc t (.weave m)) := by
  refine F.okG sc_Weave_sources (fun vs H Q E h => ?_) (fun cdv A outer s H vs Q E hr h => ?_)
  · obtain ⟨p, n, rfl, _⟩ := h
    rfl
  · obtain ⟨p, n, rfl, ⟨dx, hp⟩, ok, fit, h1, h60, q⟩ := h
    have ok' : m ≤ 1 := ok
    have fit' : n % 2 = 0 := fit
    have nd := sc_Weave_sources.nd
    refine ⟨_, (pss_cons (ps_if (pt_cmpR op_eq (pe_op op_mod (pv 1) pe_int) pe_int (nomark _))
 pss_never
 pss_nil)
 (pss_cons (ps_set (i := 2) nd rfl (Or.inl rfl) (pe_ifExp (pt_cmpR op_eq (pe_fld (pv 0) rfl) pe_int (nomark _)) pe_str pe_str))
 (pss_one (ps_ret (pe_fn f_riffle_sources hr (by rfl) (pa_cons (pe_op op_mulS (pv 2) (pe_op op_fdiv (pv 1) pe_int)) pa_nil)))))), ?_⟩
    refine ⟨_, rfl, _, _, rfl, rfl, (by decide : (0 : Int) < 2), rfl, _, rfl, ?_⟩
    rw [show decide (V.int ((n : Int) % 2) = V.int 1) = false by simp; omega]
    refine iteF ?_
    refine ⟨_, rfl, _, _, _, _, _, rfl, hp, T.cl (.weave m), T.na_first, rfl, rfl, _, rfl, ?_⟩
    have hd : ((n : Int) / 2) = ((n / 2 : Nat) : Int) := by omega
    have hlen : (weaveWord m n).length = n := weaveWord_length m n fit'
    refine ite2 (fun c => ?_) fun c => ?_
    · have hm : m = 0 := by
        have := of_decide_eq_true c
        injection this with this
        omega
      refine ⟨_, rfl, _, rfl, _, _, rfl, rfl, ⟨by decide, by decide⟩, _, n / 2, rfl, by show V.int ((n : Int) / 2) = _; rw [hd], by decide, by omega, weaveWord m n, ?_, by omega, fun l hl => ⟨_, fun c _ => Gc.refl (c.upd hl trivial), q l hl⟩⟩
      have e : Str.ofString "ab" = wordOf [true, false] := by rfl
      rw [e, weave_word, weaveWord, if_pos hm]
      rfl
    · have hm : ¬ m = 0 := fun z => c (by subst z; rfl)
      refine ⟨_, rfl, _, rfl, _, _, rfl, rfl, ⟨by decide, by decide⟩, _, n / 2, rfl, by show V.int ((n : Int) / 2) = _; rw [hd], by decide, by omega, weaveWord m n, ?_, by omega, fun l hl => ⟨_, fun c _ => Gc.refl (c.upd hl trivial), q l hl⟩⟩
      have e : Str.ofString "ba" = wordOf [false, true] := by rfl
      rw [e, weave_word, weaveWord, if_neg hm]
      rfl
theorem ok_Riffle_sources {f : Addr} {fd : FuncData} (F : Fun K "sources" "Riffle.sources" s_Riffle_sources f fd) {m : List Bool} (T : Txt K mg t) (f_riffle_sources : Fn1 P w K mg base 1 "riffle_sources" spRifSrc) : FnOk P w K mg base CX0 2 f fd ["self", "cards"] (spSrc t (.riffle m)) := by
  refine F.okG sc_Riffle_sources (fun vs H Q E h => ?_) (fun cdv A outer s H vs Q E hr h => ?_)
  · obtain ⟨p, n, rfl, _⟩ := h
    rfl
  · obtain ⟨p, n, rfl, ⟨dx, hp⟩, ok, fit, h1, h60, q⟩ := h
    have fit' : m.length = n := fit
    have hz : (wordOf m).length ≤ sizeLine := by rw [word_len]; exact Nat.le_trans (by omega : m.length ≤ 60) (by decide)
    refine ⟨_, (pss_cons (ps_if (pt_cmpR op_ne (pe_callB call_len_str (by rfl) T.no_len (show bootBuiltins "len" = some (.builtin "len") by decide +kernel) (pa_cons (pe_fld (pv 0) rfl) pa_nil)) (pv 1) (nomark _))
 pss_never
 pss_nil)
 (pss_one (ps_ret (pe_fn f_riffle_sources hr (by rfl) (pa_cons (pe_fld (pv 0) rfl) pa_nil))))), ?_⟩
    refine ⟨_, rfl, _, _, _, _, _, rfl, hp, T.cl (.riffle m), T.na_word, rfl, _, rfl, hz, _, rfl, rfl, _, rfl, ?_⟩
    rw [word_len, fit', decide_eq_true rfl]
    refine iteF ?_
    refine ⟨_, rfl, _, _, _, _, _, rfl, hp, T.cl (.riffle m), T.na_word, rfl, m, rfl, by omega, ?_⟩
    exact fun l hl => ⟨_, fun c _ => Gc.refl (c.upd hl trivial), q l hl⟩
end
end Rf

set_option Elab.async false
set_option linter.all false
set_option maxRecDepth 100000
namespace Rf
open PySem L2
theorem ixN_nat {n s : Nat} (h : s < n) : ixN n (s : Int) = some s := by
  unfold ixN
  rw [if_pos (by omega), if_pos (by omega)]
  rfl
theorem nv_set (xs : List Nat) (i v : Nat) : (nv xs).set i (.int (v : Int)) = nv (xs.set i v) := by
  simp [nv, List.map_set]
theorem Mv.no_sources (mv : Mv) : mv.flds.lookup ("sources" : Str) = none := by cases mv <;> rfl
theorem Mv.no_done (mv : Mv) : mv.flds.lookup ("done" : Str) = none := by cases mv <;> rfl
def Mv.sort : Mv → Nat
  | .cut _ => 0 | .turn => 1 | .deal _ => 2 | .under => 3 | .weave _ => 4 | .riffle _ => 5
def clsN (t : Adr) : Nat → Addr
  | 0 => t.cut | 1 => t.turn | 2 => t.deal | 3 => t.under | 4 => t.weave | _ => t.riffle
structure TyTxt (K : PySem.W.Frag) (t : Adr) : Prop where
  cls : ∀ mv : Mv, PySem.W.findIn K (.ref (mv.cls t)) "__class__" = some (some (.builtin "object.__class__"))
  get : PySem.W.specialIn K (.builtin "object.__class__") "__get__" = some (some (.builtin "getset_descriptor.__get__"))
  tk : PySem.W.takesIn K (.builtin "object.__class__") = some true
  mro : ∀ mv : Mv, PySem.W.mroIn K (mv.cls t) (.type "object") = some true
  move : ∀ mv : Mv, PySem.W.kitOne K (.ref (mv.cls t)) (.ref t.move) = some true
  kits : ∀ (mv : Mv) (i : Nat), i < 6 → PySem.W.kitOne K (.ref (mv.cls t)) (.ref (clsN t i)) = some (decide (mv.sort = i))
theorem TyTxt.ty {K : PySem.W.Frag} {mg : Str → Option Value} {t : Adr} {H : Hp} {p : Addr} {mv : Mv} (Y : TyTxt K t) (T : Txt K mg t) (h : IsMv t H p mv) : TyOf K H (.ref p) (.ref (mv.cls t)) := by
  obtain ⟨dx, h⟩ := h
  exact .ins h (T.cl mv) (Y.cls mv) Y.get Y.tk (Y.mro mv)
section
variable {P : Program} {w : World} {K : PySem.W.Frag} {mg : Str → Option Value} {base : Heap} {t : Adr}
theorem ok_Move_done {f : Addr} {fd : FuncData} (F : Fun K "done" "Move.done" s_Move_done f fd) {mv : Mv} (T : Txt K mg t) (f_check_order : Fn1 P w K mg base 3 "check_order" spCheckOrder) (m_sources : Mth P w K mg base 2 (mv.cls t) "sources" (spSrc t mv)) : FnOk P w K mg base CX0 4 f fd ["self", "order"] (spDone t mv) := by
  refine F.okG sc_Move_done (fun vs H Q E h => ?_) (fun cdv A outer s H vs Q E hr h => ?_)
  · obtain ⟨p, a, xs, rfl, _⟩ := h
    rfl
  · obtain ⟨p, a, xs, rfl, ⟨dx, hp⟩, ok, fit, ha, g, q⟩ := h
    have hl : (nv xs).length = xs.length := nv_length xs
    refine ⟨_, (pss_cons (ps_expr (pe_fn f_check_order hr (by rfl) (pa_cons (pv 1) pa_nil)))
 (pss_one (ps_ret (pe_lc (ys := ["order"]) (js := [1]) rfl (pi_list (pe_mtD 2 hr (pv 0) (pa_cons (pe_callB call_len_seq (by rfl) T.no_len (show bootBuiltins "len" = some (.builtin "len") by decide +kernel) (pa_cons (pv 1) pa_nil)) pa_nil))) rfl (by decide +kernel) (by decide +kernel) rfl rfl rfl (by decide +kernel) (fun _ _ _ _ => (pe_ix (ix_listK (K := K) rfl) (pv 1) (pv 0) (fun _ _ => rfl))))))), ?_⟩
    refine ⟨_, rfl, _, _, rfl, ha, g, _, rfl, _, _, _, _, _, rfl, hp, mv.no_sources, m_sources, _, rfl, _, _, rfl, .inl (SqL.of ha), _, _, rfl, ⟨dx, hp⟩, ok, by rw [hl]; exact fit, by rw [hl]; exact g.2.1, by rw [hl]; exact g.2.2, fun l1 hl1 => ?_⟩
    rw [hl]
    have perm := Mv.src_perm ok fit
    have e1 := (Same.refl H).new (o := .lst (nv (mv.src xs.length))) hl1
    refine ⟨_, rfl, ⟨_, SqL.of upd_same⟩, ?_⟩
    refine lc_go (xs := nv (mv.src xs.length)) (fun _ x => match x with | .int s => V.int ((xs.getD s.toNat 0 : Nat) : Int) | v => v) (SqL.of upd_same) ?_ (fun i x R hx hR => ?_) fun D hD => ?_
    · rw [nv_length, perm_len perm]
      have := g.2.2
      omega
    · obtain ⟨s', hs, rfl⟩ := nv_at hx
      have hlt := perm_lt perm s' (List.mem_of_getElem? hs)
      have hat : xs[s']? = some (xs.getD s' 0) := by simp [List.getD_eq_getElem?_getD, hlt]
      exact ⟨_, rfl, _, rfl, _, _, _, _, rfl, rfl, SqL.of (e1 _ _ ha), atI_nat (nv_get hat), hR⟩
    · refine end_lst (e1.new hD) (e1.free hD) upd_same ?_
      have e : ((nv (mv.src xs.length)).mapIdx fun _ x => match x with | .int s => V.int ((xs.getD s.toNat 0 : Nat) : Int) | v => v) = nv (pick xs (mv.src xs.length)) := by
        apply List.ext_getElem?
        intro j
        simp only [List.getElem?_mapIdx, nv, pick, List.getElem?_map]
        cases (mv.src xs.length)[j]? <;> simp
      rw [e]
      exact q
def spCheckMove (t : Adr) : Sp := fun vs H Q _ => ∃ (p : Addr) (mv : Mv), vs = [.ref p] ∧ IsMv t H p mv ∧ Q .non H
theorem ok_check_move {f : Addr} {fd : FuncData} (F : Fun K "check_move" "check_move" s_check_move f fd) (T : Txt K mg t) (Y : TyTxt K t) : FnOk P w K mg base CX0 1 f fd ["value"] (spCheckMove t) := by
  refine F.okG sc_check_move (fun vs H Q E h => ?_) (fun cdv A outer s H vs Q E hr h => ?_)
  · obtain ⟨p, mv, rfl, _⟩ := h
    rfl
  · obtain ⟨p, mv, rfl, hp, q⟩ := h
    refine ⟨_, (pss_one (ps_if (pt_not (pt_val (pe_callB call_isi (by rfl) T.no_isinstance (show bootBuiltins "isinstance" = some (.builtin "isinstance") by decide +kernel) (pa_cons (pv 0) (pa_cons (pe_glob (v := .ref _) rfl T.mg_Move rfl) pa_nil)))))
 pss_never
 pss_nil)), ?_⟩
    refine ⟨_, rfl, _, _, _, _, rfl, Y.ty T hp, .inr ⟨_, rfl⟩, Y.move mv, _, rfl, ?_⟩
    refine iteF ?_
    exact end_same (Same.refl H) q
def spCheckMoves (t : Adr) : Sp := fun vs H Q _ => ∃ (l : Addr) (ms : List (Addr × Mv)), vs = [.ref l] ∧ H l = some (.lst (ms.map fun x => V.ref x.1)) ∧ (∀ x ∈ ms, IsMv t H x.1 x.2) ∧ Q .non H
theorem ok_check_moves {f : Addr} {fd : FuncData} (F : Fun K "check_moves" "check_moves" s_check_moves f fd) (T : Txt K mg t) (f_check_move : Fn1 P w K mg base 1 "check_move" (spCheckMove t)) : FnOk P w K mg base CX0 2 f fd ["value"] (spCheckMoves t) := by
  refine F.okG sc_check_moves (fun vs H Q E h => ?_) (fun cdv A outer s H vs Q E hr h => ?_)
  · obtain ⟨l, ms, rfl, _⟩ := h
    rfl
  · obtain ⟨l, ms, rfl, hl, hm, q⟩ := h
    have nd := sc_check_moves.nd
    refine ⟨_, (pss_cons (ps_if (pt_not (pt_val (pe_callB call_isi (by rfl) T.no_isinstance (show bootBuiltins "isinstance" = some (.builtin "isinstance") by decide +kernel) (pa_cons (pv 0) (pa_cons (pe_bltn (v := .ty "list") rfl T.no_list (show bootBuiltins "list" = some (.type "list") by decide +kernel) rfl) pa_nil)))))
 pss_never
 pss_nil)
 (pss_one (ps_for PassesOwn.never rfl (pi_list (pv 0)) (pg_name (i := 1) nd rfl (Or.inl rfl))
 (pss_one (ps_expr (pe_fn f_check_move hr (by rfl) (pa_cons (pv 1) pa_nil))))))), ?_⟩
    refine ⟨_, rfl, _, _, _, _, rfl, .lst hl, .inl ⟨_, rfl⟩, kit_list_list, _, rfl, ?_⟩
    refine iteF ?_
    refine ⟨_, rfl, _, rfl, ⟨_, SqL.of hl⟩, ?_⟩
    refine for_list (xs := ms.map fun x => V.ref x.1) (fun i σ H' => H' = H ∧ ∃ b, σ = [some (.ref l), b]) ⟨rfl, none, rfl⟩ (fun i σ H' _ z => by rw [z.1]; exact SqL.of hl) ?_ ?_
    · rintro i x σ H' hx ⟨rfl, b, rfl⟩
      rw [List.getElem?_map] at hx
      cases e : ms[i]? with
      | none => rw [e] at hx; simp at hx
      | some y =>
        rw [e] at hx
        simp at hx
        subst hx
        exact ⟨_, rfl, y.1, y.2, rfl, hm y (List.mem_of_getElem? e), rfl, _, rfl⟩
    · rintro σ H' ⟨rfl, b, rfl⟩
      exact end_same (Same.refl _) q
def doneAll (ms : List (Addr × Mv)) (xs : List Nat) : List Nat := ms.foldl (fun ys x => pick ys (x.2.src ys.length)) xs
def spDoneAll (t : Adr) : Sp := fun vs H Q _ => ∃ (l a : Addr) (ms : List (Addr × Mv)) (xs : List Nat), vs = [.ref l, .ref a] ∧ H l = some (.lst (ms.map fun x => V.ref x.1)) ∧ (∀ x ∈ ms, IsMv t H x.1 x.2 ∧ x.2.ok ∧ x.2.fits xs.length) ∧
  H a = some (.lst (nv xs)) ∧ Good xs ∧ ∀ p, H p = none → Q (.ref p) (upd H p (.lst (nv (doneAll ms xs))))
theorem Good.pick {xs : List Nat} {mv : Mv} (g : Good xs) (ok : mv.ok) (fit : mv.fits xs.length) : Good (pick xs (mv.src xs.length)) ∧ (Rf.pick xs (mv.src xs.length)).length = xs.length := by
  have p := Mv.src_perm ok fit
  have e : (Rf.pick xs (mv.src xs.length)).length = xs.length := by rw [pick_length, perm_len p]
  exact ⟨⟨pick_ord g.1 p, by rw [e]; exact g.2.1, by rw [e]; exact g.2.2⟩, e⟩
theorem ok_done_all {f : Addr} {fd : FuncData} (F : Fun K "done_all" "done_all" s_done_all f fd) (T : Txt K mg t) (f_check_moves : Fn1 P w K mg base 2 "check_moves" (spCheckMoves t)) (f_check_order : Fn1 P w K mg base 3 "check_order" spCheckOrder) (m_done : ∀ mv : Mv, Mth P w K mg base 4 (mv.cls t) "done" (spDone t mv)) : FnOk P w K mg base CX0 5 f fd ["moves", "order"] (spDoneAll t) := by
  refine F.okG sc_done_all (fun vs H Q E h => ?_) (fun cdv A outer s H vs Q E hr h => ?_)
  · obtain ⟨l, a, ms, xs, rfl, _⟩ := h
    rfl
  · obtain ⟨l, a, ms, xs, rfl, hl, hm, ha, g, q⟩ := h
    have nd := sc_done_all.nd
    refine ⟨_, (pss_cons (ps_expr (pe_fn f_check_moves hr (by rfl) (pa_cons (pv 0) pa_nil)))
 (pss_cons (ps_expr (pe_fn f_check_order hr (by rfl) (pa_cons (pv 1) pa_nil)))
 (pss_cons (ps_set (i := 2) nd rfl (Or.inl rfl) (pe_callTy call_list_of (by rfl) T.no_list (show bootBuiltins "list" = some (.type "list") by decide +kernel) (pa_cons (pv 1) pa_nil)))
 (pss_cons (ps_for PassesOwn.never rfl (pi_list (pv 0)) (pg_name (i := 3) nd rfl (Or.inl rfl))
 (pss_one (ps_set (i := 2) nd rfl (Or.inl rfl) (pe_mtD 4 hr (pv 3) (pa_cons (pv 2) pa_nil)))))
 (pss_one (ps_ret (pv 2))))))), ?_⟩
    refine ⟨_, rfl, _, ms, rfl, hl, fun x hx => (hm x hx).1, _, rfl, _, _, rfl, ha, g, _, rfl, _, _, rfl, .inl (SqL.of ha), fun l1 hl1 => ?_⟩
    have e1 := (Same.refl H).new (o := .lst (nv xs)) hl1
    refine ⟨_, rfl, _, rfl, ⟨_, SqL.of (e1 _ _ hl)⟩, ?_⟩
    refine for_list (xs := ms.map fun x => V.ref x.1) (fun i σ H' => ∃ l2 b ys, σ = [some (.ref l), some (.ref a), some (.ref l2), b] ∧ Same H H' ∧ H l2 = none ∧ H' l2 = some (.lst (nv ys)) ∧ ys = doneAll (ms.take i) xs ∧ Good ys ∧ ys.length = xs.length)
      ⟨l1, none, xs, rfl, e1, hl1, upd_same, rfl, g, rfl⟩ (fun i σ H' _ z => ?_) ?_ ?_
    · obtain ⟨_, _, _, _, se, _⟩ := z
      exact SqL.of (se _ _ hl)
    · rintro i x σ H' hx ⟨l2, b, ys, rfl, se, n2, h2, hy, gy, ly⟩
      rw [List.getElem?_map] at hx
      cases e : ms[i]? with
      | none => rw [e] at hx; simp at hx
      | some y =>
        rw [e] at hx
        simp at hx
        subst hx
        obtain ⟨⟨dx, hmv⟩, ok, fit⟩ := hm y (List.mem_of_getElem? e)
        have fit2 : y.2.fits ys.length := by rw [ly]; exact fit
        refine ⟨_, rfl, _, _, _, _, _, rfl, se _ _ hmv, y.2.no_done, m_done y.2, _, rfl, _, _, ys, rfl, ⟨dx, se _ _ hmv⟩, ok, fit2, h2, gy, fun l3 hl3 => ?_⟩
        have gp := gy.pick ok fit2
        refine ⟨l3, _, _, rfl, se.new hl3, se.free hl3, upd_same, ?_, gp.1, by rw [gp.2, ly]⟩
        rw [List.take_add_one, e, doneAll, List.foldl_append]
        rw [hy]
        rfl
    · rintro σ H' ⟨l2, b, ys, rfl, se, n2, h2, hy, gy, ly⟩
      refine ⟨_, rfl, ?_⟩
      rw [List.length_map, List.take_of_length_le (Nat.le_refl _)] at hy
      rw [hy] at h2
      exact end_lst se n2 h2 q
end
end Rf

set_option Elab.async false
set_option linter.all false
set_option maxRecDepth 100000
namespace Rf
open PySem L2
def spDraw : Sp := fun vs H Q _ => ∃ (c : Int) (k m : Nat), vs = [.int c, .int (k : Int), .int (m : Int)] ∧ 0 < m ∧ ∀ d : Nat, d < m → Q (.int (d : Int)) H
def primes : List Int := [1000003, 1000033, 1000037, 1000039, 1000081, 1000099, 1000117, 1000121, 1000133, 1000151, 1000159, 1000171, 1000183, 1000187, 1000193, 1000199]
theorem primes_at : ∀ j : Nat, j < 16 → ∃ p : Int, 0 < p ∧ primes[j]? = some p
  | 0, _ => ⟨_, by decide, rfl⟩ | 1, _ => ⟨_, by decide, rfl⟩ | 2, _ => ⟨_, by decide, rfl⟩ | 3, _ => ⟨_, by decide, rfl⟩ | 4, _ => ⟨_, by decide, rfl⟩ | 5, _ => ⟨_, by decide, rfl⟩ | 6, _ => ⟨_, by decide, rfl⟩ | 7, _ => ⟨_, by decide, rfl⟩
  | 8, _ => ⟨_, by decide, rfl⟩ | 9, _ => ⟨_, by decide, rfl⟩ | 10, _ => ⟨_, by decide, rfl⟩ | 11, _ => ⟨_, by decide, rfl⟩ | 12, _ => ⟨_, by decide, rfl⟩ | 13, _ => ⟨_, by decide, rfl⟩ | 14, _ => ⟨_, by decide, rfl⟩ | 15, _ => ⟨_, by decide, rfl⟩
  | n + 16, h => absurd h (by omega)
theorem body_draw : ∃ es p1 k p pos, defBody s__law_draw = [.Assign [.Name "_law_primes" p1] (.Tuple es k p) pos, (defBody s__law_draw).getD 1 (.Pass ⟨0, 0, 0, 0⟩)] ∧ isInts es = some primes := ⟨_, _, _, _, _, rfl, by decide +kernel⟩
section
variable {P : Program} {w : World} {K : PySem.W.Frag} {mg : Str → Option Value} {base : Heap} {t : Adr}
theorem ok__law_draw {f : Addr} {fd : FuncData} (F : Fun K "_law_draw" "_law_draw" s__law_draw f fd) : FnOk P w K mg base CX0 1 f fd ["_law_cell", "_law_k", "_law_many_here"] spDraw := by
  refine F.okG sc__law_draw (fun vs H Q E h => ?_) (fun cdv A outer s H vs Q E hr h => ?_)
  · obtain ⟨c, k, m, rfl, _⟩ := h
    rfl
  · obtain ⟨c, k, m, rfl, hm, q⟩ := h
    have nd := sc__law_draw.nd
    obtain ⟨es, p1, kk, pt, pos, eb, hes⟩ := body_draw
    rw [eb]
    refine ⟨_, (pss_cons (ps_set (i := 3) nd rfl (Or.inl rfl) (pe_tupI hes))
 (pss_one (ps_ret (pe_op op_mod (pe_op op_mod (pe_op op_add (pe_op op_mul (pv 0) pe_int) (pe_op op_mul (pv 1) pe_int)) (pe_ix ix_tup (pv 3) (pe_op op_mod (pv 1) pe_int) (fun _ _ => rfl))) (pv 2))))), ?_⟩
    refine ⟨(by show 16 ≤ sizeLine; decide), fun l1 h1 => ?_⟩
    obtain ⟨p, hp, hat⟩ := primes_at (k % 16) (Nat.mod_lt _ (by decide))
    have hk : (k : Int) % 16 = ((k % 16 : Nat) : Int) := by omega
    refine ⟨_, rfl, _, _, rfl, rfl, .inr ⟨by decide, by decide⟩, _, rfl, _, _, rfl, rfl, .inr ⟨by decide, by decide⟩, _, _, rfl, rfl, _, rfl, _, rfl, _, _, rfl, rfl, (by decide : (0 : Int) < 16), _, primes.map V.int, _, .int p, rfl, rfl, SqT.of upd_same, ?_, _, _, rfl, rfl, hp, _, rfl, _, _, rfl, rfl, (by omega : (0 : Int) < (m : Int)), ?_⟩
    · rw [hk]
      exact atI_nat (by rw [List.getElem?_map, hat]; rfl)
    · have h0 : 0 ≤ (c * 48271 + (k : Int) * 69621) % p % (m : Int) := Int.emod_nonneg _ (by omega)
      have h2 : (c * 48271 + (k : Int) * 69621) % p % (m : Int) < m := Int.emod_lt_of_pos _ (by omega)
      refine end_same ((Same.refl H).new h1) ?_
      have := q ((c * 48271 + (k : Int) * 69621) % p % (m : Int)).toNat (by omega)
      rw [Int.toNat_of_nonneg h0] at this
      exact this
end
end Rf

set_option Elab.async false
set_option linter.all false
set_option maxRecDepth 100000
namespace Rf
open PySem L2
def spCell (K : PySem.W.Frag) : Sp := fun vs H Q _ => ∃ (a : Addr) (ns : List Int) (k : Nat), vs = [.ref a, .int (k : Int)] ∧ SqL K H a (ns.map V.int) ∧ ∀ z : Int, Q (.int z) H
def spMany : Sp := fun vs H Q _ => ∃ (c : Int) (k : Nat), vs = [.int c, .int (k : Int)] ∧ ∀ n : Nat, 1 ≤ n → n ≤ 60 → Q (.int (n : Int)) H
def spOrder : Sp := fun vs H Q _ => ∃ (c : Int) (n : Nat), vs = [.int c, .int (n : Int)] ∧ 1 ≤ n ∧ n ≤ 60 ∧ ∀ xs : List Nat, Good xs → xs.length = n → ∀ l, H l = none → Q (.ref l) (upd H l (.lst (nv xs)))
def spWord : Sp := fun vs H Q _ => ∃ (c : Int) (n : Nat), vs = [.int c, .int (n : Int)] ∧ n ≤ 60 ∧ ∀ w : List Bool, w.length = n → Q (.str (wordOf w)) H
theorem swap_perm (xs : List Nat) (i j : Nat) (hi : i < xs.length) (hj : j < xs.length) : ((xs.set i (xs.getD j 0)).set j (xs.getD i 0)).Perm xs := by
  have gi : xs.getD i 0 = xs[i] := by simp [List.getD_eq_getElem?_getD, hi]
  have gj : xs.getD j 0 = xs[j] := by simp [List.getD_eq_getElem?_getD, hj]
  rw [gi, gj, List.perm_iff_count]
  intro a
  have hc : ∀ (k : Nat) (hk : k < xs.length), (if xs[k] == a then 1 else 0) ≤ xs.count a := by
    intro k hk
    split
    · rename_i h
      have : xs[k] = a := by simpa using h
      exact List.count_pos_iff.mpr (this ▸ List.getElem_mem hk)
    · exact Nat.zero_le _
  rw [List.count_set (by simpa using hj), List.count_set hi]
  by_cases hij : i = j
  · subst hij
    simp only [List.getElem_set_self]
    have := hc i hi
    omega
  · rw [List.getElem_set_ne hij]
    have h1 := hc i hi
    have h2 := hc j hj
    omega
theorem wordOf_a (w : List Bool) : wordOf w ++ Str.ofString "a" = wordOf (w ++ [true]) := by
  rw [str_a]
  unfold wordOf
  show Str.mk _ = _
  simp
theorem wordOf_b (w : List Bool) : wordOf w ++ Str.ofString "b" = wordOf (w ++ [false]) := by
  rw [str_b]
  unfold wordOf
  show Str.mk _ = _
  simp
section
variable {P : Program} {w : World} {K : PySem.W.Frag} {mg : Str → Option Value} {base : Heap} {t : Adr}
theorem ok__law_cell_at {f : Addr} {fd : FuncData} (F : Fun K "_law_cell_at" "_law_cell_at" s__law_cell_at f fd) (T : Txt K mg t) : FnOk P w K mg base CX0 1 f fd ["_law_script", "_law_k"] (spCell K) := by
  refine F.okG sc__law_cell_at (fun vs H Q E h => ?_) (fun cdv A outer s H vs Q E hr h => ?_)
  · obtain ⟨a, ns, k, rfl, _⟩ := h
    rfl
  · obtain ⟨a, ns, k, rfl, ha, q⟩ := h
    refine ⟨_, (pss_cons (ps_if (pt_cmpR op_lt (pv 1) (pe_callB call_len_seq (by rfl) T.no_len (show bootBuiltins "len" = some (.builtin "len") by decide +kernel) (pa_cons (pv 0) pa_nil)) (nomark _))
 (pss_one (ps_ret (pe_ix ix_list (pv 0) (pv 1) (fun _ _ => rfl))))
 pss_nil)
 (pss_one (ps_ret pe_int))), ?_⟩
    refine ⟨_, rfl, _, rfl, _, _, rfl, .inl ha, _, _, rfl, rfl, _, rfl, ?_⟩
    refine ite2 (fun c => ?_) fun c => ?_
    · have c' : (k : Int) < ((ns.map V.int).length : Int) := of_decide_eq_true c
      have hk : k < ns.length := by rw [List.length_map] at c'; omega
      refine ⟨_, rfl, _, rfl, _, _, _, _, rfl, rfl, ha, atI_nat (v := V.int ns[k]) (by simp [hk]), ?_⟩
      exact end_same (Same.refl H) (q _)
    · exact end_same (Same.refl H) (q 0)
theorem ok__law_many {f : Addr} {fd : FuncData} (F : Fun K "_law_many" "_law_many" s__law_many f fd) (f__law_draw : Fn1 P w K mg base 1 "_law_draw" spDraw) : FnOk P w K mg base CX0 2 f fd ["_law_cell", "_law_k"] spMany := by
  refine F.okG sc__law_many (fun vs H Q E h => ?_) (fun cdv A outer s H vs Q E hr h => ?_)
  · obtain ⟨c, k, rfl, _⟩ := h
    rfl
  · obtain ⟨c, k, rfl, q⟩ := h
    refine ⟨_, (pss_one (ps_ret (pe_op op_add (pe_op op_add pe_int (pe_fn f__law_draw hr (by rfl) (pa_cons (pv 0) (pa_cons (pv 1) (pa_cons pe_int pa_nil))))) (pe_op op_mul (pe_op op_mul pe_int (pe_fn f__law_draw hr (by rfl) (pa_cons (pv 0) (pa_cons (pe_op op_add (pv 1) pe_int) (pa_cons pe_int pa_nil))))) (pe_op op_fdiv (pe_fn f__law_draw hr (by rfl) (pa_cons (pv 0) (pa_cons (pe_op op_add (pv 1) pe_int) (pa_cons pe_int pa_nil)))) pe_int))))), ?_⟩
    refine ⟨_, rfl, _, rfl, c, k, 12, rfl, by decide, fun d1 hd1 => ?_⟩
    refine ⟨_, _, rfl, rfl, _, rfl, _, rfl, _, _, rfl, rfl, c, k + 1, 13, rfl, by decide, fun d2 hd2 => ?_⟩
    refine ⟨_, _, rfl, rfl, .inl ⟨by decide, by decide⟩, _, rfl, _, rfl, _, _, rfl, rfl, c, k + 2, 6, rfl, by decide, fun d3 hd3 => ?_⟩
    refine ⟨_, _, rfl, rfl, ⟨by decide, by decide⟩, _, _, rfl, rfl, .inr ⟨by omega, by omega⟩, _, _, rfl, rfl, ?_⟩
    refine end_same (Same.refl H) ?_
    have e : (d3 : Int) / 5 = ((d3 / 5 : Nat) : Int) := by omega
    have hd : d3 / 5 = 0 ∨ d3 / 5 = 1 := by omega
    show Q (V.int (1 + (d1 : Int) + 4 * (d2 : Int) * ((d3 : Int) / 5))) H
    rw [e]
    rcases hd with hd | hd
    · rw [hd]
      have := q (1 + d1) (by omega) (by omega)
      simpa using this
    · rw [hd]
      have := q (1 + d1 + 4 * d2) (by omega) (by omega)
      simpa using this
theorem ok__law_order {f : Addr} {fd : FuncData} (F : Fun K "_law_order" "_law_order" s__law_order f fd) (T : Txt K mg t) (f__law_draw : Fn1 P w K mg base 1 "_law_draw" spDraw) : FnOk P w K mg base CX0 2 f fd ["_law_cell", "_law_many_here"] spOrder := by
  refine F.okG sc__law_order (fun vs H Q E h => ?_) (fun cdv A outer s H vs Q E hr h => ?_)
  · obtain ⟨c, n, rfl, _⟩ := h
    rfl
  · obtain ⟨c, n, rfl, h1, h60, q⟩ := h
    have nd := sc__law_order.nd
    refine ⟨_, (pss_cons (ps_set (i := 2) nd rfl (Or.inl rfl) (pe_callTy (call_list_rng rfl) (by rfl) T.no_list (show bootBuiltins "list" = some (.type "list") by decide +kernel) (pa_cons (pe_callTy call_rng1 (by rfl) T.no_range (show bootBuiltins "range" = some (.type "range") by decide +kernel) (pa_cons (pv 1) pa_nil)) pa_nil)))
 (pss_cons (ps_set (i := 3) nd rfl (Or.inl rfl) (pe_ix ix_tup (pe_tup (pa_cons (pv 1) (pa_cons pe_int (pa_cons pe_int (pa_cons pe_int pa_nil))))) (pe_fn f__law_draw hr (by rfl) (pa_cons (pv 0) (pa_cons pe_int (pa_cons pe_int pa_nil)))) (fun _ _ => rfl)))
 (pss_cons (ps_for PassesOwn.never rfl (pi_rng (pe_callTy call_rng1 (by rfl) T.no_range (show bootBuiltins "range" = some (.type "range") by decide +kernel) (pa_cons (pv 3) pa_nil))) (pg_name (i := 4) nd rfl (Or.inl rfl))
 (pss_cons (ps_set (i := 5) nd rfl (Or.inl rfl) (pe_fn f__law_draw hr (by rfl) (pa_cons (pe_op op_mul (pe_op op_add (pv 0) (pe_op op_mul pe_int (pv 4))) (pe_op op_add (pv 4) pe_int)) (pa_cons pe_int (pa_cons (pv 1) pa_nil)))))
 (pss_cons (ps_set (i := 6) nd rfl (Or.inl rfl) (pe_fn f__law_draw hr (by rfl) (pa_cons (pe_op op_mul (pe_op op_add (pv 0) (pe_op op_mul pe_int (pv 4))) (pe_op op_add (pv 4) pe_int)) (pa_cons pe_int (pa_cons (pv 1) pa_nil)))))
 (pss_one (ps_asg (pe_tup (pa_cons (pe_ix ix_list (pv 2) (pv 6) (fun _ _ => rfl)) (pa_cons (pe_ix ix_list (pv 2) (pv 5) (fun _ _ => rfl)) pa_nil))) (pg_tup rfl (pgs_cons (pg_sub (pv 2) (pv 5) set_list) (pgs_cons (pg_sub (pv 2) (pv 6) set_list) pgs_nil))))))))
 (pss_one (ps_ret (pv 2)))))), ?_⟩
    refine ⟨_, rfl, _, rfl, fun r1 hr1 => ?_⟩
    refine ⟨_, _, _, _, _, rfl, upd_same, rng_small (by decide) ⟨by omega, by omega⟩ (by decide) (by decide), rng_up, by omega, fun l1 hl1 => ?_⟩
    have er : rngV 0 1 ((n : Int) - 0).toNat = nv (List.range n) := by rw [show ((n : Int) - 0).toNat = n by omega, show (0 : Int) = ((0 : Nat) : Int) from rfl, rngV_nv, List.range_eq_range']
    rw [er]
    have e1 := (Same.refl H).new (o := rngO r1 0 n 1) hr1
    have nL : H l1 = none := e1.free hl1
    have e2 := e1.new (o := .lst (nv (List.range n))) hl1
    refine ⟨_, rfl, (by show 4 ≤ sizeLine; decide), fun l2 hl2 => ?_⟩
    have n12 : l1 ≠ l2 := ne_of_none upd_same hl2
    have e3 := e2.new (o := .tup [.int (n : Int), .int 3, .int 1, .int 0]) hl2
    refine ⟨_, rfl, c, 9, 4, rfl, by decide, fun d hd => ?_⟩
    have key : ∃ sw : Nat, sw ≤ 60 ∧ ([.int (n : Int), .int 3, .int 1, .int 0] : List V)[d]? = some (.int (sw : Int)) := by
      match d, hd with
      | 0, _ => exact ⟨n, h60, rfl⟩
      | 1, _ => exact ⟨3, by decide, rfl⟩
      | 2, _ => exact ⟨1, by decide, rfl⟩
      | 3, _ => exact ⟨0, by decide, rfl⟩
      | k + 4, h => omega
    obtain ⟨sw, hsw, hat⟩ := key
    refine ⟨_, _, _, _, rfl, rfl, SqT.of upd_same, atI_nat hat, _, rfl, _, rfl, fun r2 hr2 => ?_⟩
    have e4 := e3.new (o := rngO r2 0 sw 1) hr2
    refine ⟨_, _, _, _, _, rfl, upd_same, rng_small (by decide) ⟨by omega, by omega⟩ (by decide) (by decide), rng_up, ?_⟩
    refine for_range3 (fun i σ H' => ∃ a b d xs, σ = [some (.int c), some (.int (n : Int)), some (.ref l1), some (.int (sw : Int)), a, b, d] ∧ Same H H' ∧ H' l1 = some (.lst (nv xs)) ∧ xs.Perm (List.range n)) ⟨none, none, none, List.range n, rfl, e4, by rw [upd_ne (ne_of_none (by rw [upd_ne n12, upd_same]) hr2), upd_ne n12, upd_same], .refl _⟩ ?_ ?_
    · rintro i σ H' hi ⟨a, b, d, xs, rfl, se, hL, hx⟩
      have hlen : xs.length = n := perm_len hx
      have hi' : i < 60 := by omega
      have eV : (0 : Int) + (i : Int) * 1 = (i : Int) := by omega
      rw [eV]
      refine ⟨_, rfl, _, rfl, _, _, rfl, rfl, .inl ⟨by decide, by decide⟩, _, _, rfl, rfl, _, rfl, _, _, rfl, rfl, _, _, rfl, rfl, .inr ⟨by omega, by omega⟩, _, rfl, _, 10, n, rfl, by omega, fun d1 hd1 => ?_⟩
      refine ⟨_, rfl, _, rfl, _, _, rfl, rfl, .inl ⟨by decide, by decide⟩, _, _, rfl, rfl, _, rfl, _, _, rfl, rfl, _, _, rfl, rfl, .inr ⟨by omega, by omega⟩, _, rfl, _, 11, n, rfl, by omega, fun d2 hd2 => ?_⟩
      have a1 : xs[d1]? = some (xs.getD d1 0) := by simp [List.getD_eq_getElem?_getD, show d1 < xs.length by omega]
      have a2 : xs[d2]? = some (xs.getD d2 0) := by simp [List.getD_eq_getElem?_getD, show d2 < xs.length by omega]
      refine ⟨_, rfl, _, rfl, _, _, _, _, rfl, rfl, SqL.of hL, atI_nat (nv_get a2), _, rfl, _, rfl, _, _, _, _, rfl, rfl, SqL.of hL, atI_nat (nv_get a1), (by show 2 ≤ sizeLine; decide), fun l3 hl3 => ?_⟩
      have e5 := Same.new (Same.refl H') (o := .tup [.int ((xs.getD d2 0 : Nat) : Int), .int ((xs.getD d1 0 : Nat) : Int)]) hl3
      refine ⟨_, _, rfl, SqT.of upd_same, rfl, _, _, rfl, _, rfl, _, rfl, _, _, _, _, rfl, rfl, e5 _ _ hL, ixN_nat (by rw [nv_length]; omega), _, _, rfl, _, rfl, _, rfl, _, _, _, _, rfl, rfl, upd_same, ixN_nat (by rw [List.length_set, nv_length]; omega), rfl, ?_⟩
      refine ⟨_, _, _, (xs.set d1 (xs.getD d2 0)).set d2 (xs.getD d1 0), rfl, ((se.trans e5).upd nL).upd nL, ?_, (swap_perm xs d1 d2 (by omega) (by omega)).trans hx⟩
      rw [upd_same, nv_set, nv_set]
    · rintro σ H' ⟨a, b, d, xs, rfl, se, hL, hx⟩
      have hlen : xs.length = n := perm_len hx
      refine ⟨_, rfl, end_lst se nL hL (q xs ⟨by unfold IsOrd; rw [hlen]; exact hx, by omega, by omega⟩ hlen)⟩
theorem ok__law_word {f : Addr} {fd : FuncData} (F : Fun K "_law_word" "_law_word" s__law_word f fd) (T : Txt K mg t) (f__law_draw : Fn1 P w K mg base 1 "_law_draw" spDraw) : FnOk P w K mg base CX0 2 f fd ["_law_cell", "_law_many_here"] spWord := by
  refine F.okG sc__law_word (fun vs H Q E h => ?_) (fun cdv A outer s H vs Q E hr h => ?_)
  · obtain ⟨c, n, rfl, _⟩ := h
    rfl
  · obtain ⟨c, n, rfl, h60, q⟩ := h
    have nd := sc__law_word.nd
    have big : (1000 : Nat) < sizeLine := by decide
    refine ⟨_, (pss_cons (ps_set (i := 2) nd rfl (Or.inl rfl) pe_str)
 (pss_cons (ps_set (i := 3) nd rfl (Or.inl rfl) (pe_fn f__law_draw hr (by rfl) (pa_cons (pv 0) (pa_cons pe_int (pa_cons pe_int pa_nil)))))
 (pss_cons (ps_for PassesOwn.never rfl (pi_rng (pe_callTy call_rng1 (by rfl) T.no_range (show bootBuiltins "range" = some (.type "range") by decide +kernel) (pa_cons (pv 1) pa_nil))) (pg_name (i := 4) nd rfl (Or.inl rfl))
 (pss_cons (ps_set (i := 5) nd rfl (Or.inl rfl) (pe_fn f__law_draw hr (by rfl) (pa_cons (pe_op op_mul (pe_op op_add (pv 0) (pe_op op_mul pe_int (pv 4))) (pe_op op_add (pv 4) pe_int)) (pa_cons pe_int (pa_cons pe_int pa_nil)))))
 (pss_one (ps_aug (i := 2) nd rfl (Or.inl rfl) (pe_ifExp (pt_cmpR op_lt (pv 5) (pe_ix ix_tup (pe_tup (pa_cons pe_int (pa_cons pe_int (pa_cons pe_int (pa_cons pe_int pa_nil))))) (pv 3) (fun _ _ => rfl)) (nomark _)) pe_str pe_str) iop_add_str))))
 (pss_one (ps_ret (pv 2)))))), ?_⟩
    refine ⟨_, rfl, c, 12, 4, rfl, by decide, fun kd hkd => ?_⟩
    refine ⟨_, rfl, _, rfl, fun r1 hr1 => ?_⟩
    have e1 := (Same.refl H).new (o := rngO r1 0 n 1) hr1
    refine ⟨_, _, _, _, _, rfl, upd_same, rng_small (by decide) ⟨by omega, by omega⟩ (by decide) (by decide), rng_up, ?_⟩
    refine for_range3 (fun i σ H' => ∃ a b ww, σ = [some (.int c), some (.int (n : Int)), some (.str (wordOf ww)), some (.int (kd : Int)), a, b] ∧ Same H H' ∧ ww.length = i) ⟨none, none, [], rfl, e1, rfl⟩ ?_ ?_
    · rintro i σ H' hi ⟨a, b, ww, rfl, se, hw⟩
      have hi' : i < 60 := by omega
      have eV : (0 : Int) + (i : Int) * 1 = (i : Int) := by omega
      rw [eV]
      refine ⟨_, rfl, _, rfl, _, _, rfl, rfl, .inl ⟨by decide, by decide⟩, _, _, rfl, rfl, _, rfl, _, _, rfl, rfl, _, _, rfl, rfl, .inr ⟨by omega, by omega⟩, _, 13, 6, rfl, by decide, fun d hd => ?_⟩
      refine ⟨_, rfl, _, rfl, (by decide), fun l2 hl2 => ?_⟩
      have key : ∃ v : Int, ([.int 3, .int 3, .int 5, .int 1] : List V)[kd]? = some (.int v) := by
        match kd, hkd with
        | 0, _ => exact ⟨_, rfl⟩
        | 1, _ => exact ⟨_, rfl⟩
        | 2, _ => exact ⟨_, rfl⟩
        | 3, _ => exact ⟨_, rfl⟩
        | k + 4, h => omega
      obtain ⟨v, hv⟩ := key
      refine ⟨_, rfl, _, _, _, _, rfl, rfl, SqT.of upd_same, atI_nat hv, _, _, rfl, rfl, _, rfl, ?_⟩
      have hz : ∀ x : Str, x.length = 1 → (wordOf ww).length + x.length ≤ sizeLine := fun x hx => by rw [word_len, hx]; omega
      refine ite2 (fun cc => ?_) fun cc => ?_
      · refine ⟨_, _, rfl, rfl, hz _ rfl, ?_⟩
        exact ⟨_, _, ww ++ [true], by rw [wordOf_a]; rfl, se.new hl2, by simp [hw]⟩
      · refine ⟨_, _, rfl, rfl, hz _ rfl, ?_⟩
        exact ⟨_, _, ww ++ [false], by rw [wordOf_b]; rfl, se.new hl2, by simp [hw]⟩
    · rintro σ H' ⟨a, b, ww, rfl, se, hw⟩
      exact ⟨_, rfl, end_same se (q ww (by omega))⟩
end
end Rf

set_option Elab.async false
set_option linter.all false
set_option maxRecDepth 100000
namespace Rf
open PySem L2
theorem cut_to (xs : List Nat) (k : Nat) : cutV (nv xs) none (some (k : Int)) = nv (xs.take k) := by
  unfold cutV
  rw [HT.sIx_none, HT.sIx_nat, nv_length, List.drop_zero, Nat.sub_zero]
  simp only [nv, ← List.map_take]
  congr 1
  by_cases h : k ≤ xs.length
  · rw [Nat.min_eq_left h]
  · rw [Nat.min_eq_right (by omega), List.take_of_length_le (Nat.le_refl _), List.take_of_length_le (by omega)]
theorem cut_from (xs : List Nat) (k : Nat) : cutV (nv xs) (some (k : Int)) none = nv (xs.drop k) := by
  unfold cutV
  rw [HT.sIx_none, HT.sIx_nat, nv_length, List.take_of_length_le (by rw [List.length_drop, nv_length]; exact Nat.le_refl _)]
  simp only [nv, ← List.map_drop]
  congr 1
  by_cases h : k ≤ xs.length
  · rw [Nat.min_eq_left h]
  · rw [Nat.min_eq_right (by omega), List.drop_of_length_le (Nat.le_refl _), List.drop_of_length_le (by omega)]
theorem eqV_int (a b : Int) : eqV (.int a) (.int b) = (a == b) := rfl
theorem nv_flat (xs : List Nat) : (nv xs).all flatV = true := by
  rw [List.all_eq_true]
  intro v hv
  obtain ⟨n, _, rfl⟩ := List.mem_map.mp hv
  rfl
theorem eqVs_self (xs : List Nat) : eqVs (nv xs) (nv xs) = true := by
  unfold eqVs
  rw [beq_self_eq_true, Bool.true_and, List.all_eq_true]
  intro i hi
  have hi' : i < xs.length := by have := List.mem_range.mp hi; rwa [nv_length] at this
  have : (nv xs).getD i .non = .int ((xs[i] : Nat) : Int) := by simp [nv, List.getD_eq_getElem?_getD, hi']
  rw [this, eqV_int, beq_self_eq_true]
def spRiffled : Sp := fun vs H Q _ => ∃ (a : Addr) (xs : List Nat) (w : List Bool), vs = [.ref a, .str (wordOf w)] ∧ H a = some (.lst (nv xs)) ∧ w.length = xs.length ∧ xs.length ≤ 60 ∧ ∀ l, H l = none → Q (.ref l) (upd H l (.lst (nv (rifL xs w))))
def spDealt : Sp := fun vs H Q _ => ∃ (a : Addr) (xs : List Nat) (p : Nat), vs = [.ref a, .int (p : Int)] ∧ H a = some (.lst (nv xs)) ∧ 1 ≤ p ∧ p ≤ 60 ∧ xs.length ≤ 60 ∧ ∀ l, H l = none → Q (.ref l) (upd H l (.lst (nv (dealL xs p))))
def spUnderL : Sp := fun vs H Q _ => ∃ (a : Addr) (xs : List Nat), vs = [.ref a] ∧ H a = some (.lst (nv xs)) ∧ xs.length ≤ 60 ∧ ∀ l, H l = none → Q (.ref l) (upd H l (.lst (nv (under xs))))
section
variable {P : Program} {w : World} {K : PySem.W.Frag} {mg : Str → Option Value} {base : Heap} {t : Adr}
theorem ok__law_riffled {f : Addr} {fd : FuncData} (F : Fun K "_law_riffled" "_law_riffled" s__law_riffled f fd) (T : Txt K mg t) : FnOk P w K mg base CX0 1 f fd ["_law_order_here", "_law_word_here"] spRiffled := by
  refine F.okG sc__law_riffled (fun vs H Q E h => ?_) (fun cdv A outer s H vs Q E hr h => ?_)
  · obtain ⟨a, xs, w, rfl, _⟩ := h
    rfl
  · obtain ⟨a, xs, w, rfl, ha, hw, h60, q⟩ := h
    have nd := sc__law_riffled.nd
    have big : (1000 : Nat) < sizeLine := by decide
    have hcl := cnt_len w
    refine ⟨_, (pss_cons (ps_par (i := 2) (j := 3) rfl nd rfl rfl (by decide) rfl rfl (pa_cons (pe_slice sl_list (pv 0) po_none (po_some (pe_bm PySem.F.plainAttrs_str PySem.F.slot_str_count PySem.F.type_str_count mt_count (pv 1) (pa_cons pe_str pa_nil)))) (pa_cons (pe_slice sl_list (pv 0) (po_some (pe_bm PySem.F.plainAttrs_str PySem.F.slot_str_count PySem.F.type_str_count mt_count (pv 1) (pa_cons pe_str pa_nil))) po_none) pa_nil)) (by rfl))
 (pss_cons (ps_set (i := 4) nd rfl (Or.inl rfl) (pe_lst pa_nil))
 (pss_cons (ps_for PassesOwn.never rfl (pi_str (pv 1)) (pg_name (i := 5) nd rfl (Or.inl rfl))
 (pss_one (ps_if (pt_cmpR op_eq (pv 5) pe_str (nomark _))
 (pss_cons (ps_expr (pe_bm PySem.F.plainAttrs_list PySem.F.slot_list_append PySem.F.type_list_append mt_append (pv 4) (pa_cons (pe_ix ix_list (pv 2) pe_int (fun _ _ => rfl)) pa_nil)))
 (pss_one (ps_set (i := 2) nd rfl (Or.inl rfl) (pe_slice sl_list (pv 2) (po_some pe_int) po_none))))
 (pss_cons (ps_expr (pe_bm PySem.F.plainAttrs_list PySem.F.slot_list_append PySem.F.type_list_append mt_append (pv 4) (pa_cons (pe_ix ix_list (pv 3) pe_int (fun _ _ => rfl)) pa_nil)))
 (pss_one (ps_set (i := 3) nd rfl (Or.inl rfl) (pe_slice sl_list (pv 3) (po_some pe_int) po_none)))))))
 (pss_one (ps_ret (pv 4)))))), ?_⟩
    refine ⟨_, rfl, _, rfl, rfl, _, 97, rfl, rfl, _, rfl, _, _, rfl, SqL.of ha, fun l1 hl1 => ?_⟩
    rw [word_a, cut_to]
    have e1 := (Same.refl H).new (o := .lst (nv (xs.take (cntA w)))) hl1
    refine ⟨_, rfl, _, rfl, rfl, _, 97, rfl, rfl, _, rfl, _, _, rfl, SqL.of (e1 _ _ ha), fun l2 hl2 => ?_⟩
    rw [word_a, cut_from]
    have e2 := Same.new (Same.refl (upd H l1 (.lst (nv (xs.take (cntA w)))))) (o := .lst (nv (xs.drop (cntA w)))) hl2
    refine ⟨_, _, rfl, (by decide), fun lm hlm => ?_⟩
    have e3 := Same.new (Same.refl (upd (upd H l1 (.lst (nv (xs.take (cntA w))))) l2 (.lst (nv (xs.drop (cntA w)))))) (o := .lst []) hlm
    have nM : H lm = none := (e1.trans e2).free hlm
    refine ⟨_, rfl, _, rfl, ?_⟩
    refine for_str (fun i σ H' => ∃ (lu ll : Addr) (u l acc : List Nat) (s : Option V), σ = [some (.ref a), some (.str (wordOf w)), some (.ref lu), some (.ref ll), some (.ref lm), s] ∧ Same H H' ∧ H' lu = some (.lst (nv u)) ∧ H' ll = some (.lst (nv l)) ∧ H' lm = some (.lst (nv acc)) ∧ lu ≠ lm ∧ ll ≠ lm ∧
      u.length = cntA (w.drop i) ∧ l.length = cntB (w.drop i) ∧ acc.length = i ∧ acc ++ rif (w.drop i) u l = rifL xs w)
      ⟨l1, l2, _, _, [], none, rfl, e1.trans (e2.trans e3), e3 _ _ (e2 _ _ upd_same), e3 _ _ upd_same, upd_same, ne_of_none (e2 _ _ upd_same) hlm, ne_of_none upd_same hlm, by rw [List.drop_zero, List.length_take]; omega, by rw [List.drop_zero, List.length_drop]; omega, rfl, rfl⟩ ?_ ?_
    · rintro i c σ H' hc ⟨lu, ll, u, l, acc, sv, rfl, se, hU, hL, hM, nu, nl, cu, cl, ci, hr'⟩
      obtain ⟨b, hb, rfl⟩ := word_at hc
      have hlt := (List.getElem?_eq_some_iff.mp hb).1
      rw [drop_at hb] at cu cl hr'
      refine ⟨_, rfl, rfl, _, rfl, ?_⟩
      cases b with
      | true =>
        refine iteT ?_
        cases u with
        | nil => simp [cntA] at cu
        | cons x u =>
          have hz : (nv acc).length < sizeLine := by rw [nv_length]; omega
          have hU1 : upd H' lm (.lst (nv acc ++ [V.int (x : Int)])) lu = some (.lst (nv (x :: u))) := by rw [upd_ne nu]; exact hU
          have hL1 : upd H' lm (.lst (nv acc ++ [V.int (x : Int)])) ll = some (.lst (nv l)) := by rw [upd_ne nl]; exact hL
          refine ⟨_, rfl, .inl ⟨rfl, _, SqL.of hM⟩, _, rfl, _, _, _, .int (x : Int), rfl, rfl, SqL.of hU, atI_nat (j := 0) rfl, _, _, _, rfl, rfl, hM, hz, _, rfl, _, rfl, _, _, rfl, SqL.of hU1, fun l3 hl3 => ?_⟩
          rw [show (1 : Int) = ((1 : Nat) : Int) from rfl, cut_from]
          have e5 := Same.new (Same.refl (upd H' lm (.lst (nv acc ++ [V.int (x : Int)])))) (o := .lst (nv ((x :: u).drop 1))) hl3
          refine ⟨l3, ll, u, l, acc ++ [x], _, rfl, (se.upd nM).trans e5, upd_same, e5 _ _ hL1, by rw [e5 _ _ upd_same]; simp [nv], (ne_of_none upd_same hl3).symm, nl, by simp [cntA] at cu ⊢; omega, by simp [cntB] at cl ⊢; omega, by simp [ci], ?_⟩
          rw [← hr', rif]
          simp
      | false =>
        refine iteF ?_
        cases l with
        | nil => simp [cntB] at cl
        | cons x l =>
          have hz : (nv acc).length < sizeLine := by rw [nv_length]; omega
          have hU1 : upd H' lm (.lst (nv acc ++ [V.int (x : Int)])) lu = some (.lst (nv u)) := by rw [upd_ne nu]; exact hU
          have hL1 : upd H' lm (.lst (nv acc ++ [V.int (x : Int)])) ll = some (.lst (nv (x :: l))) := by rw [upd_ne nl]; exact hL
          refine ⟨_, rfl, .inl ⟨rfl, _, SqL.of hM⟩, _, rfl, _, _, _, .int (x : Int), rfl, rfl, SqL.of hL, atI_nat (j := 0) rfl, _, _, _, rfl, rfl, hM, hz, _, rfl, _, rfl, _, _, rfl, SqL.of hL1, fun l3 hl3 => ?_⟩
          rw [show (1 : Int) = ((1 : Nat) : Int) from rfl, cut_from]
          have e5 := Same.new (Same.refl (upd H' lm (.lst (nv acc ++ [V.int (x : Int)])))) (o := .lst (nv ((x :: l).drop 1))) hl3
          refine ⟨lu, l3, u, l, acc ++ [x], _, rfl, (se.upd nM).trans e5, e5 _ _ hU1, upd_same, by rw [e5 _ _ upd_same]; simp [nv], nu, (ne_of_none upd_same hl3).symm, by simp [cntA] at cu ⊢; omega, by simp [cntB] at cl ⊢; omega, by simp [ci], ?_⟩
          have er : rif (false :: w.drop (i + 1)) u (x :: l) = x :: rif (w.drop (i + 1)) u l := by cases u <;> simp [rif]
          rw [← hr', er]
          simp
    · rintro σ H' ⟨lu, ll, u, l, acc, sv, rfl, se, hU, hL, hM, nu, nl, cu, cl, ci, hr'⟩
      rw [word_size] at hr'
      rw [List.drop_of_length_le (Nat.le_refl _)] at hr'
      have er : rif [] u l = [] := by simp [rif]
      rw [er, List.append_nil] at hr'
      rw [hr'] at hM
      exact ⟨_, rfl, end_lst se nM hM q⟩
theorem ok__law_under {f : Addr} {fd : FuncData} (F : Fun K "_law_under" "_law_under" s__law_under f fd) (T : Txt K mg t) : FnOk P w K mg base CX0 1 f fd ["_law_order_here"] spUnderL := by
  refine F.okG sc__law_under (fun vs H Q E h => ?_) (fun cdv A outer s H vs Q E hr h => ?_)
  · obtain ⟨a, xs, rfl, _⟩ := h
    rfl
  · obtain ⟨a, xs, rfl, ha, h60, q⟩ := h
    have nd := sc__law_under.nd
    have hu := hr.units0
    have big : (1000 : Nat) < sizeLine := by decide
    refine ⟨_, (pss_cons (ps_par (i := 1) (j := 2) rfl nd rfl rfl (by decide) rfl rfl (pa_cons (pe_callTy call_list_of (by rfl) T.no_list (show bootBuiltins "list" = some (.type "list") by decide +kernel) (pa_cons (pv 0) pa_nil)) (pa_cons (pe_lst pa_nil) pa_nil)) (by rfl))
 (pss_cons (ps_while PassesOwn.never (pt_cmpR (op_neL hu) (pv 1) (pe_lst pa_nil) (nomark _))
 (pss_cons (ps_expr (pe_bm PySem.F.plainAttrs_list PySem.F.slot_list_append PySem.F.type_list_append mt_append (pv 2) (pa_cons (pe_bm PySem.F.plainAttrs_list PySem.F.slot_list_pop PySem.F.type_list_pop mt_popAt (pv 1) (pa_cons pe_int pa_nil)) pa_nil)))
 (pss_one (ps_if (pt_cmpR (op_neL hu) (pv 1) (pe_lst pa_nil) (nomark _))
 (pss_one (ps_expr (pe_bm PySem.F.plainAttrs_list PySem.F.slot_list_append PySem.F.type_list_append mt_append (pv 1) (pa_cons (pe_bm PySem.F.plainAttrs_list PySem.F.slot_list_pop PySem.F.type_list_pop mt_popAt (pv 1) (pa_cons pe_int pa_nil)) pa_nil))))
 pss_nil))))
 (pss_one (ps_ret (pe_rev (pv 2) pe_neg))))), ?_⟩
    refine ⟨_, rfl, _, _, rfl, .inl (SqL.of ha), fun lp hlp => ?_⟩
    refine ⟨(by decide), fun ll hll => ?_⟩
    have e1 := (Same.refl H).new (o := .lst (nv xs)) hlp
    have e2 := e1.new (o := .lst []) hll
    have nl : lp ≠ ll := ne_of_none upd_same hll
    have nL : H ll = none := e1.free hll
    refine ⟨_, _, rfl, ?_⟩
    refine ⟨fun m σ H' => ∃ pack laid, σ = [some (.ref a), some (.ref lp), some (.ref ll)] ∧ Same H H' ∧ H' lp = some (.lst (nv pack)) ∧ H' ll = some (.lst (nv laid)) ∧ underGo pack laid = underGo xs [] ∧ pack.length + laid.length = xs.length ∧ m = pack.length,
      ⟨_, xs, [], rfl, e2, by rw [upd_ne nl, upd_same], upd_same, rfl, by simp, rfl⟩, ?_⟩
    rintro m σ H' ⟨pack, laid, rfl, se, hP, hL, hgo, hn, rfl⟩
    refine ⟨_, rfl, (by decide), fun l4 hl4 => ?_⟩
    have e4 := Same.new (Same.refl H') (o := .lst []) hl4
    have se4 := se.trans e4
    have hP4 := e4 _ _ hP
    have hL4 := e4 _ _ hL
    refine ⟨_, _, _, _, rfl, rfl, SqL.of hP4, SqL.of upd_same, nv_flat _, rfl, _, rfl, ?_⟩
    cases pack with
    | nil =>
      refine iteF ?_
      refine ⟨_, rfl, _, _, rfl, SqL.of hL4, fun l5 hl5 => ?_⟩
      refine end_lst (se4.new hl5) (se4.free hl5) upd_same ?_
      have e : laid = underGo xs [] := by rw [← hgo]; simp [underGo]
      rw [nv_reverse, e]
      exact q
    | cons x r =>
      refine iteT ?_
      refine ⟨fun σ' H'' => ∃ m', m' < (x :: r).length ∧ ∃ pack laid, σ' = [some (.ref a), some (.ref lp), some (.ref ll)] ∧ Same H H'' ∧ H'' lp = some (.lst (nv pack)) ∧ H'' ll = some (.lst (nv laid)) ∧ underGo pack laid = underGo xs [] ∧ pack.length + laid.length = xs.length ∧ m' = pack.length, fun _ _ h => h, ?_⟩
      rw [List.length_cons] at hn
      have hL1 : upd (upd H' l4 (.lst [])) lp (.lst (nv r)) ll = some (.lst (nv laid)) := by rw [upd_ne (Ne.symm nl)]; exact hL4
      refine ⟨_, rfl, .inl ⟨rfl, _, SqL.of hL4⟩, _, rfl, .inl ⟨rfl, _, SqL.of hP4⟩, _, _, _, 0, _, rfl, rfl, hP4, by decide, by decide, seq0 _ (by simp [nv]), rfl, _, _, _, rfl, rfl, hL1, by rw [nv_length]; omega, ?_⟩
      have e6 : nv laid ++ [V.int (x : Int)] = nv (laid ++ [x]) := by simp [nv]
      have s2 : Same H (upd (upd (upd H' l4 (.lst [])) lp (.lst (nv r))) ll (.lst (nv laid ++ [V.int (x : Int)]))) := (se4.upd hlp).upd nL
      have hP2 : upd (upd (upd H' l4 (.lst [])) lp (.lst (nv r))) ll (.lst (nv laid ++ [V.int (x : Int)])) lp = some (.lst (nv r)) := by rw [upd_ne nl, upd_same]
      refine ⟨_, rfl, (by decide), fun l7 hl7 => ?_⟩
      have e7 := Same.new (Same.refl _) (o := .lst []) hl7
      have s3 := s2.trans e7
      have hP3 := e7 _ _ hP2
      have hL3 := e7 _ _ upd_same
      refine ⟨_, _, _, _, rfl, rfl, SqL.of hP3, SqL.of upd_same, nv_flat _, rfl, _, rfl, ?_⟩
      cases r with
      | nil =>
        refine iteF ?_
        refine ⟨0, by simp, [], laid ++ [x], rfl, s3, hP3, by rw [← e6]; exact hL3, ?_, by simp at hn ⊢; omega, rfl⟩
        rw [← hgo]
        simp [underGo]
      | cons y r2 =>
        refine iteT ?_
        refine ⟨_, rfl, .inl ⟨rfl, _, SqL.of hP3⟩, _, rfl, .inl ⟨rfl, _, SqL.of hP3⟩, _, _, _, 0, _, rfl, rfl, hP3, by decide, by decide, seq0 _ (by simp [nv]), rfl, _, _, _, rfl, rfl, upd_same, by simp [nv] at hn ⊢; omega, ?_⟩
        have e8 : (nv (y :: r2)).eraseIdx 0 ++ [V.int (y : Int)] = nv (r2 ++ [y]) := by simp [nv]
        refine ⟨r2.length + 1, by simp, r2 ++ [y], laid ++ [x], rfl, (s3.upd hlp).upd hlp, by rw [upd_same, e8], by rw [upd_ne (Ne.symm nl), upd_ne (Ne.symm nl), ← e6]; exact hL3, ?_, by simp at hn ⊢; omega, by simp⟩
        rw [← hgo]
        simp [underGo]
end
end Rf

set_option Elab.async false
set_option linter.all false
set_option maxRecDepth 100000
namespace Rf
open PySem L2
def toldV : Mv → List V
  | .cut m => [.int 0, .int (m : Int)] | .turn => [.int 1, .int 0] | .deal p => [.int 2, .int (p : Int)] | .under => [.int 3, .int 0] | .weave f => [.int 4, .int (f : Int)] | .riffle w => [.int 5, .str (wordOf w)]
def spMoved : Sp := fun vs H Q _ => ∃ (a b : Addr) (xs : List Nat) (mv : Mv), vs = [.ref a, .ref b] ∧ H a = some (.lst (nv xs)) ∧ H b = some (.tup (toldV mv)) ∧ mv.ok ∧ mv.fits xs.length ∧ 1 ≤ xs.length ∧ xs.length ≤ 60 ∧ ∀ l, H l = none → Q (.ref l) (upd H l (.lst (nv (pick xs (mv.src xs.length)))))
def spTold : Sp := fun vs H Q _ => ∃ (c : Int) (n : Nat), vs = [.int c, .int (n : Int)] ∧ 1 ≤ n ∧ n ≤ 60 ∧ ∀ mv : Mv, mv.ok → mv.fits n → ∀ l, H l = none → Q (.ref l) (upd H l (.tup (toldV mv)))
def spMade (t : Adr) : Sp := fun vs H Q _ => ∃ (b : Addr) (mv : Mv), vs = [.ref b] ∧ H b = some (.tup (toldV mv)) ∧ mv.ok ∧ ∀ p dx, H p = none → H dx = none → dx ≠ p → Q (.ref p) (upd (upd H dx (.own p)) p (.ins (mv.cls t) dx mv.flds))
def spSame : Sp := fun vs H Q _ => ∃ (a b : Addr) (xs : List Nat), vs = [.ref a, .ref b] ∧ H a = some (.lst (nv xs)) ∧ H b = some (.lst (nv xs)) ∧ xs.length ≤ 1000 ∧ Q (.bl true) H
def sortsV (mv : Mv) : List V := (List.range 6).map fun i => V.bl (decide (mv.sort = i))
def spSorts (t : Adr) : Sp := fun vs H Q _ => ∃ (p : Addr) (mv : Mv), vs = [.ref p] ∧ IsMv t H p mv ∧ ∀ l, H l = none → Q (.ref l) (upd H l (.lst (sortsV mv)))
theorem heaps_len (xs : List Nat) (p k : Nat) : (heaps xs p k).length = p := by simp [heaps]
theorem heap_le (xs : List Nat) (p k j : Nat) : (heapAt xs p k j).length ≤ k := by
  unfold heapAt stepsOf
  rw [List.length_reverse, List.length_map]
  exact Nat.le_trans (List.length_filter_le _ _) (by simp)
theorem stack_take (hs : List (List Nat)) (i : Nat) (h : List Nat) (e : hs[i]? = some h) : stack (hs.take (i + 1)) [] = h ++ stack (hs.take i) [] := by
  rw [stack_eq, stack_eq, List.take_add_one, e]
  simp
theorem stack_le (xs : List Nat) (p i : Nat) (hp : 1 ≤ p) (hx : xs.length ≤ 60) : (stack ((heaps xs p xs.length).take i) []).length ≤ 60 := by
  have hperm := (srcDeal_perm (p := p) (n := xs.length) hp).length_eq
  have e := pick_deal (xs := xs) (p := p)
  have e2 : (dealL xs p).length = xs.length := by rw [← e, pick_length, hperm, List.length_range]
  have e3 : dealL xs p = ((heaps xs p xs.length).drop i).reverse.flatten ++ stack ((heaps xs p xs.length).take i) [] := by
    unfold dealL
    rw [stack_eq, stack_eq, List.append_nil, List.append_nil, ← List.flatten_append, ← List.reverse_append, List.take_append_drop]
  rw [e3, List.length_append] at e2
  omega
section
variable {P : Program} {w : World} {K : PySem.W.Frag} {mg : Str → Option Value} {base : Heap} {t : Adr}
theorem ok__law_dealt {f : Addr} {fd : FuncData} (F : Fun K "_law_dealt" "_law_dealt" s__law_dealt f fd) (T : Txt K mg t) : FnOk P w K mg base CX0 1 f fd ["_law_order_here", "_law_piles"] spDealt := by
  refine F.okG sc__law_dealt (fun vs H Q E h => ?_) (fun cdv A outer s H vs Q E hr h => ?_)
  · obtain ⟨a, xs, p, rfl, _⟩ := h
    rfl
  · obtain ⟨a, xs, p, rfl, ha, hp1, hp60, h60, q⟩ := h
    have nd := sc__law_dealt.nd
    have big : (10000 : Nat) < sizeLine := by decide
    refine ⟨_, (pss_cons (ps_lcset (ys := []) (js := []) (i := 2) nd rfl rfl rfl (pi_rng (pe_callTy call_rng1 (by rfl) T.no_range (show bootBuiltins "range" = some (.type "range") by decide +kernel) (pa_cons (pv 1) pa_nil))) rfl (by decide +kernel) (by decide +kernel) rfl rfl rfl (by decide +kernel) (fun _ _ _ _ => (pe_lst pa_nil)))
 (pss_cons (ps_for PassesOwn.never rfl (pi_rng (pe_callTy call_rng1 (by rfl) T.no_range (show bootBuiltins "range" = some (.type "range") by decide +kernel) (pa_cons (pe_callB call_len_seq (by rfl) T.no_len (show bootBuiltins "len" = some (.builtin "len") by decide +kernel) (pa_cons (pv 0) pa_nil)) pa_nil))) (pg_name (i := 3) nd rfl (Or.inl rfl))
 (pss_one (ps_asg (pe_op op_cat (pe_lst (pa_cons (pe_ix ix_list (pv 0) (pv 3) (fun _ _ => rfl)) pa_nil)) (pe_ix ix_list (pv 2) (pe_op op_mod (pv 3) (pv 1)) (fun _ _ => rfl))) (pg_sub (pv 2) (pe_op op_mod (pv 3) (pv 1)) set_list))))
 (pss_cons (ps_set (i := 4) nd rfl (Or.inl rfl) (pe_lst pa_nil))
 (pss_cons (ps_for PassesOwn.never rfl (pi_list (pv 2)) (pg_name (i := 5) nd rfl (Or.inl rfl))
 (pss_one (ps_set (i := 4) nd rfl (Or.inl rfl) (pe_op op_cat (pv 5) (pv 4)))))
 (pss_one (ps_ret (pv 4))))))), ?_⟩
    refine ⟨_, rfl, _, rfl, fun r1 hr1 => ?_⟩
    have e1 := (Same.refl H).new (o := rngO r1 0 p 1) hr1
    refine ⟨_, _, _, _, _, rfl, upd_same, rng_small (by decide) ⟨by omega, by omega⟩ (by decide) (by decide), rng_up, ?_⟩
    have en : ((p : Int) - 0).toNat = p := by omega
    rw [en]
    -- [[] for k in range(piles)]
    refine ⟨fun i m acc H' => ∃ refs : List Addr, acc = refs.map V.ref ∧ refs.length = i ∧ m = p - i ∧ i ≤ p ∧ Same H H' ∧ ∀ r ∈ refs, H' r = some (.lst []), ⟨p, [], rfl, rfl, rfl, Nat.zero_le _, e1, by simp⟩, ?_⟩
    rintro i m acc H' ⟨refs, rfl, rfl, rfl, hi, se, hR⟩
    by_cases hlt : refs.length < p
    · refine .inr ⟨hlt, by rw [List.length_map]; omega, fun x H'' y => ?_⟩
      obtain ⟨ey, rfl⟩ := y
      subst ey
      refine ⟨(by decide), fun l1 hl1 => ?_⟩
      have e2 := Same.new (Same.refl _) (o := .lst []) hl1
      refine ⟨p - (refs.length + 1), by omega, refs ++ [l1], by simp, by simp, rfl, hlt, se.trans e2, fun r hr => ?_⟩
      rcases List.mem_append.mp hr with hr | hr
      · exact e2 _ _ (hR r hr)
      · rw [show r = l1 by simpa using hr]; exact upd_same
    have hlen : refs.length = p := by omega
    refine .inl ⟨by show p ≤ refs.length; omega, fun lh hlh => ?_⟩
    have nH : H lh = none := se.free hlh
    have e3 := Same.new (Same.refl H') (o := .lst (refs.map V.ref)) hlh
    -- for k in range(len(order))
    refine ⟨_, rfl, _, _, rfl, .inl (SqL.of (e3 _ _ (se _ _ ha))), _, rfl, fun r9 hr9 => ?_⟩
    have e9 := Same.new (Same.refl _) (o := rngO r9 0 ((nv xs).length : Int) 1) hr9
    refine ⟨_, _, _, _, _, rfl, upd_same, rng_small (by decide) ⟨by omega, by rw [nv_length]; omega⟩ (by decide) (by decide), rng_up, ?_⟩
    have en2 : (((nv xs).length : Int) - 0).toNat = xs.length := by rw [nv_length]; omega
    rw [en2]
    refine for_range3 (fun k σ H' => ∃ (refs : List Addr) (b c d : Option V), σ = [some (.ref a), some (.int (p : Int)), some (.ref lh), b, c, d] ∧ Same H H' ∧ H' lh = some (.lst (refs.map V.ref)) ∧ refs.length = p ∧ ∀ j r, refs[j]? = some r → H' r = some (.lst (nv (heapAt xs p k j))))
      ⟨refs, none, none, none, rfl, (se.trans e3).trans e9, e9 _ _ upd_same, hlen, fun j r hj => ?_⟩ ?_ ?_
    · have := e9 _ _ (e3 _ _ (hR r (List.mem_of_getElem? hj)))
      rw [this]
      simp [heapAt, stepsOf]
    · rintro k σ H' hk ⟨refs, b, c, d, rfl, se, hH, hl, hR⟩
      have eV : (0 : Int) + (k : Int) * 1 = (k : Int) := by omega
      rw [eV]
      have hmod : (k : Int) % (p : Int) = ((k % p : Nat) : Int) := (Int.natCast_emod k p).symm
      have hkp : k % p < refs.length := by rw [hl]; exact Nat.mod_lt _ (by omega)
      obtain ⟨r, hr⟩ : ∃ r, refs[k % p]? = some r := ⟨refs[k % p], by simp [hkp]⟩
      have hat : xs[k]? = some (xs.getD k 0) := by simp [List.getD_eq_getElem?_getD, hk]
      refine ⟨_, rfl, _, rfl, _, _, _, _, rfl, rfl, SqL.of (se _ _ ha), atI_nat (nv_get hat), (by show 1 ≤ sizeLine; decide), fun l1 hl1 => ?_⟩
      have e1 := Same.new (Same.refl H') (o := .lst [.int ((xs.getD k 0 : Nat) : Int)]) hl1
      refine ⟨_, rfl, _, rfl, _, rfl, _, _, rfl, rfl, (by omega : (0 : Int) < (p : Int)), _, _, _, .ref r, rfl, rfl, SqL.of (e1 _ _ hH), (by rw [hmod]; exact atI_nat (by rw [List.getElem?_map, hr]; rfl)), _, _, _, _, rfl, rfl, upd_same, e1 _ _ (hR _ r hr), ?_, fun l2 hl2 => ?_⟩
      · have := heap_le xs p k (k % p)
        show 1 + (nv (heapAt xs p k (k % p))).length ≤ sizeLine
        rw [nv_length]; omega
      have e2 := Same.new (Same.refl _) (o := .lst ([V.int ((xs.getD k 0 : Nat) : Int)] ++ nv (heapAt xs p k (k % p)))) hl2
      refine ⟨_, rfl, _, rfl, _, rfl, _, _, rfl, rfl, (by omega : (0 : Int) < (p : Int)), _, _, _, k % p, rfl, rfl, e2 _ _ (e1 _ _ hH), ?_, ?_⟩
      · rw [hmod]
        exact ixN_nat (by rw [List.length_map]; exact hkp)
      · have es : (refs.map V.ref).set (k % p) (V.ref l2) = (refs.set (k % p) l2).map V.ref := by simp [List.map_set]
        rw [es]
        have n2 : lh ≠ l2 := ne_of_none (e1 _ _ hH) hl2
        refine ⟨refs.set (k % p) l2, _, _, _, rfl, ((se.trans e1).trans e2).upd nH, upd_same, by rw [List.length_set, hl], fun j r' hj => ?_⟩
        by_cases hjk : k % p = j
        · subst hjk
          rw [List.getElem?_set_self hkp] at hj
          cases hj
          rw [upd_ne (Ne.symm n2), upd_same]
          have : heapAt xs p (k + 1) (k % p) = xs.getD k 0 :: heapAt xs p k (k % p) := by
            simp [heapAt, stepsOf_succ]
          rw [this]
          rfl
        · rw [List.getElem?_set_ne hjk] at hj
          have h1 := hR j r' hj
          have : heapAt xs p (k + 1) j = heapAt xs p k j := by simp [heapAt, stepsOf_succ, hjk]
          rw [this, upd_ne (by
            intro z
            rw [z] at h1
            rw [hH] at h1
            have h1' := Option.some.inj h1
            injection h1' with h1'
            have hlen' := congrArg List.length h1'
            cases hq : refs with
            | nil => rw [hq] at hl; simp at hl; omega
            | cons r0 rs =>
              rw [hq] at h1'
              cases hv : heapAt xs p k j with
              | nil => rw [hv] at h1'; simp at h1'
              | cons v vs => rw [hv] at h1'; simp [nv] at h1')]
          exact e2 _ _ (e1 _ _ h1)
    · rintro σ H' ⟨refs, b, c, d, rfl, se, hH, hl, hR⟩
      refine ⟨(by decide), fun lm hlm => ?_⟩
      have e1 := Same.new (Same.refl H') (o := .lst []) hlm
      refine ⟨_, rfl, _, rfl, ⟨_, SqL.of (e1 _ _ hH)⟩, ?_⟩
      refine for_list (xs := refs.map V.ref) (fun i σ H'' => ∃ (b c : Option V) (m : Addr), σ = [some (.ref a), some (.int (p : Int)), some (.ref lh), b, some (.ref m), c] ∧ Same H' H'' ∧ H' m = none ∧ H'' m = some (.lst (nv (stack ((heaps xs p xs.length).take i) []))))
        ⟨_, _, lm, rfl, e1, hlm, upd_same⟩ (fun i σ H'' _ z => ?_) ?_ ?_
      · obtain ⟨_, _, _, _, s2, _⟩ := z
        exact SqL.of (s2 _ _ hH)
      · rintro i x σ H'' hx ⟨b', c', m, rfl, s2, nm, hm⟩
        rw [List.getElem?_map] at hx
        cases hri : refs[i]? with
        | none => rw [hri] at hx; simp at hx
        | some r =>
          rw [hri] at hx
          simp at hx
          subst hx
          have hip : i < p := by rw [← hl]; exact (List.getElem?_eq_some_iff.mp hri).1
          have hh : (heaps xs p xs.length)[i]? = some (heapAt xs p xs.length i) := by simp [heaps, hip]
          have est := stack_take (heaps xs p xs.length) i _ hh
          refine ⟨_, rfl, _, rfl, _, _, _, _, rfl, rfl, s2 _ _ (hR i r hri), hm, ?_, fun l3 hl3 => ?_⟩
          · have := stack_le xs p (i + 1) hp1 h60
            rw [nv_length, nv_length, ← List.length_append, ← est]
            omega
          · refine ⟨_, _, l3, rfl, s2.new hl3, s2.free hl3, ?_⟩
            rw [upd_same, nv_append, ← est]
      · rintro σ H'' ⟨b', c', m, rfl, s2, nm, hm⟩
        rw [List.length_map, hl, List.take_of_length_le (by rw [heaps_len]; exact Nat.le_refl _)] at hm
        exact ⟨_, rfl, end_lst (se.trans s2) (se.free nm) hm q⟩
end
end Rf

set_option Elab.async false
set_option linter.all false
set_option maxRecDepth 100000
namespace Rf
open PySem L2
section
variable {P : Program} {w : World} {K : PySem.W.Frag} {mg : Str → Option Value} {base : Heap} {t : Adr}
theorem ok__law_moved {f : Addr} {fd : FuncData} (F : Fun K "_law_moved" "_law_moved" s__law_moved f fd) (T : Txt K mg t) (f__law_dealt : Fn1 P w K mg base 1 "_law_dealt" spDealt) (f__law_under : Fn1 P w K mg base 1 "_law_under" spUnderL) (f__law_riffled : Fn1 P w K mg base 1 "_law_riffled" spRiffled) : FnOk P w K mg base CX0 2 f fd ["_law_order_here", "_law_told_here"] spMoved := by
  refine F.okG sc__law_moved (fun vs H Q E h => ?_) (fun cdv A outer s H vs Q E hr h => ?_)
  · obtain ⟨a, b, xs, mv, rfl, _⟩ := h
    rfl
  · obtain ⟨a, b, xs, mv, rfl, ha, hb, ok, fit, h1, h60, q⟩ := h
    have nd := sc__law_moved.nd
    have big : (1000 : Nat) < sizeLine := by decide
    refine ⟨_, (pss_cons (ps_asg (pv 1) (pg_tup rfl (pgs_cons (pg_name (i := 2) nd rfl (Or.inl rfl)) (pgs_cons (pg_name (i := 3) nd rfl (Or.inl rfl)) pgs_nil))))
 (pss_cons (ps_if (pt_cmpR op_eq (pv 2) pe_int (nomark _))
 (pss_one (ps_ret (pe_op op_cat (pe_slice sl_list (pv 0) (po_some (pv 3)) po_none) (pe_slice sl_list (pv 0) po_none (po_some (pv 3))))))
 pss_nil)
 (pss_cons (ps_if (pt_cmpR op_eq (pv 2) pe_int (nomark _))
 (pss_one (ps_ret (pe_rev (pv 0) pe_neg)))
 pss_nil)
 (pss_cons (ps_if (pt_cmpR op_eq (pv 2) pe_int (nomark _))
 (pss_one (ps_ret (pe_fn f__law_dealt hr (by rfl) (pa_cons (pv 0) (pa_cons (pv 3) pa_nil)))))
 pss_nil)
 (pss_cons (ps_if (pt_cmpR op_eq (pv 2) pe_int (nomark _))
 (pss_one (ps_ret (pe_fn f__law_under hr (by rfl) (pa_cons (pv 0) pa_nil))))
 pss_nil)
 (pss_cons (ps_if (pt_cmpR op_eq (pv 2) pe_int (nomark _))
 (pss_one (ps_ret (pe_fn f__law_riffled hr (by rfl) (pa_cons (pv 0) (pa_cons (pe_op op_mulS (pe_ix ix_tup (pe_tup (pa_cons pe_str (pa_cons pe_str pa_nil))) (pv 3) (fun _ _ => rfl)) (pe_op op_fdiv (pe_callB call_len_seq (by rfl) T.no_len (show bootBuiltins "len" = some (.builtin "len") by decide +kernel) (pa_cons (pv 0) pa_nil)) pe_int)) pa_nil)))))
 pss_nil)
 (pss_one (ps_ret (pe_fn f__law_riffled hr (by rfl) (pa_cons (pv 0) (pa_cons (pv 3) pa_nil))))))))))), ?_⟩
    cases mv with
    | cut m =>
      have fit' : m ≤ xs.length := fit
      refine ⟨_, rfl, _, _, rfl, SqT.of hb, rfl, _, _, rfl, _, _, rfl, rfl, _, rfl, rfl, _, rfl, ?_⟩
      refine iteT ?_
      refine ⟨_, rfl, _, rfl, _, rfl, _, _, rfl, SqL.of ha, fun l3 hl3 => ?_⟩
      rw [cut_from]
      have e1 := (Same.refl H).new (o := .lst (nv (xs.drop m))) hl3
      refine ⟨_, rfl, _, rfl, _, rfl, _, _, rfl, SqL.of (e1 _ _ ha), fun l5 hl5 => ?_⟩
      rw [cut_to]
      have e2 := Same.new (Same.refl _) (o := .lst (nv (xs.take m))) hl5
      refine ⟨_, _, _, _, rfl, rfl, e2 _ _ upd_same, upd_same, ?_, fun l9 hl9 => ?_⟩
      · rw [nv_length, nv_length, List.length_drop, List.length_take]; omega
      · refine end_lst ((e1.trans e2).new hl9) ((e1.trans e2).free hl9) upd_same ?_
        rw [nv_append]
        have := pick_cut (xs := xs) fit'
        rw [show (Mv.cut m).src xs.length = srcCut m xs.length from rfl, this] at q
        exact q
    | turn =>
      refine ⟨_, rfl, _, _, rfl, SqT.of hb, rfl, _, _, rfl, _, _, rfl, rfl, _, rfl, rfl, _, rfl, ?_⟩
      refine iteF ?_
      refine ⟨_, rfl, rfl, _, rfl, ?_⟩
      refine iteT ?_
      refine ⟨_, rfl, _, _, rfl, SqL.of ha, fun l3 hl3 => ?_⟩
      refine end_lst ((Same.refl H).new hl3) hl3 upd_same ?_
      rw [nv_reverse]
      rw [show Mv.turn.src xs.length = srcTurn xs.length from rfl, pick_turn] at q
      exact q
    | deal p =>
      have ok' : 1 ≤ p ∧ p ≤ 60 := ok
      refine ⟨_, rfl, _, _, rfl, SqT.of hb, rfl, _, _, rfl, _, _, rfl, rfl, _, rfl, rfl, _, rfl, ?_⟩
      refine iteF ?_
      refine ⟨_, rfl, rfl, _, rfl, ?_⟩
      refine iteF ?_
      refine ⟨_, rfl, rfl, _, rfl, ?_⟩
      refine iteT ?_
      refine ⟨_, rfl, _, rfl, _, _, p, rfl, ha, ok'.1, ok'.2, h60, fun l hl => ⟨_, fun c _ => Gc.refl (c.upd hl trivial), ?_⟩⟩
      rw [show (Mv.deal p).src xs.length = srcDeal p xs.length from rfl, pick_deal] at q
      exact q l hl
    | under =>
      refine ⟨_, rfl, _, _, rfl, SqT.of hb, rfl, _, _, rfl, _, _, rfl, rfl, _, rfl, rfl, _, rfl, ?_⟩
      refine iteF ?_
      refine ⟨_, rfl, rfl, _, rfl, ?_⟩
      refine iteF ?_
      refine ⟨_, rfl, rfl, _, rfl, ?_⟩
      refine iteF ?_
      refine ⟨_, rfl, rfl, _, rfl, ?_⟩
      refine iteT ?_
      refine ⟨_, rfl, _, _, rfl, ha, h60, fun l hl => ⟨_, fun c _ => Gc.refl (c.upd hl trivial), ?_⟩⟩
      rw [show Mv.under.src xs.length = Rf.under (List.range xs.length) from rfl, pick_under] at q
      exact q l hl
    | weave f =>
      have ok' : f ≤ 1 := ok
      have fit' : xs.length % 2 = 0 := fit
      refine ⟨_, rfl, _, _, rfl, SqT.of hb, rfl, _, _, rfl, _, _, rfl, rfl, _, rfl, rfl, _, rfl, ?_⟩
      refine iteF ?_
      refine ⟨_, rfl, rfl, _, rfl, ?_⟩
      refine iteF ?_
      refine ⟨_, rfl, rfl, _, rfl, ?_⟩
      refine iteF ?_
      refine ⟨_, rfl, rfl, _, rfl, ?_⟩
      refine iteF ?_
      refine ⟨_, rfl, rfl, _, rfl, ?_⟩
      refine iteT ?_
      refine ⟨_, rfl, (by decide), fun l3 hl3 => ?_⟩
      have e1 := (Same.refl H).new (o := .tup [.str (Str.ofString "ab"), .str (Str.ofString "ba")]) hl3
      have hd : ((nv xs).length : Int) / 2 = ((xs.length / 2 : Nat) : Int) := by rw [nv_length]; omega
      have hlen := weaveWord_length f xs.length fit'
      have key : ∃ z, ([.str (Str.ofString "ab"), .str (Str.ofString "ba")] : List V)[f]? = some (.str z) ∧ z.length ≤ 1000 ∧ repS z (xs.length / 2) = wordOf (weaveWord f xs.length) := by
        match f, ok' with
        | 0, _ => exact ⟨_, rfl, by decide, by rw [show Str.ofString "ab" = wordOf [true, false] from rfl, weave_word]; rfl⟩
        | 1, _ => exact ⟨_, rfl, by decide, by rw [show Str.ofString "ba" = wordOf [false, true] from rfl, weave_word]; rfl⟩
      obtain ⟨z, hz, hz1, hz2⟩ := key
      refine ⟨_, rfl, _, _, _, _, rfl, rfl, SqT.of upd_same, atI_nat hz, _, rfl, _, _, rfl, .inl (SqL.of (e1 _ _ ha)), _, _, rfl, rfl, ⟨by decide, by decide⟩, _, xs.length / 2, rfl, by show V.int (((nv xs).length : Int) / 2) = _; rw [hd], hz1, by omega, _, xs, weaveWord f xs.length, by rw [← hz2]; rfl, e1 _ _ ha, hlen, h60, fun l hl => ?_⟩
      refine end_lst (e1.new hl) (e1.free hl) upd_same ?_
      rw [show (Mv.weave f).src xs.length = srcRif (weaveWord f xs.length) from rfl, pick_rif hlen] at q
      exact q
    | riffle w =>
      have fit' : w.length = xs.length := fit
      refine ⟨_, rfl, _, _, rfl, SqT.of hb, rfl, _, _, rfl, _, _, rfl, rfl, _, rfl, rfl, _, rfl, ?_⟩
      refine iteF ?_
      refine ⟨_, rfl, rfl, _, rfl, ?_⟩
      refine iteF ?_
      refine ⟨_, rfl, rfl, _, rfl, ?_⟩
      refine iteF ?_
      refine ⟨_, rfl, rfl, _, rfl, ?_⟩
      refine iteF ?_
      refine ⟨_, rfl, rfl, _, rfl, ?_⟩
      refine iteF ?_
      refine ⟨_, rfl, _, rfl, _, xs, w, rfl, ha, fit', h60, fun l hl => ⟨_, fun c _ => Gc.refl (c.upd hl trivial), ?_⟩⟩
      rw [show (Mv.riffle w).src xs.length = srcRif w from rfl, pick_rif fit'] at q
      exact q l hl
theorem ok__law_told {f : Addr} {fd : FuncData} (F : Fun K "_law_told" "_law_told" s__law_told f fd) (T : Txt K mg t) (f__law_draw : Fn1 P w K mg base 1 "_law_draw" spDraw) (f__law_word : Fn1 P w K mg base 2 "_law_word" spWord) : FnOk P w K mg base CX0 3 f fd ["_law_cell", "_law_many_here"] spTold := by
  refine F.okG sc__law_told (fun vs H Q E h => ?_) (fun cdv A outer s H vs Q E hr h => ?_)
  · obtain ⟨c, n, rfl, _⟩ := h
    rfl
  · obtain ⟨c, n, rfl, h1, h60, q⟩ := h
    have nd := sc__law_told.nd
    have fin : ∀ (H' : Hp) (l : Addr) (mv : Mv), Same H H' → H' l = none → mv.ok → mv.fits n → ∃ H'', (Cl H → Cl (upd H' l (.tup (toldV mv))) → Gc H (upd H' l (.tup (toldV mv))) H'') ∧ Q (.ref l) H'' := fun H' l mv se hl ok fit => end_tup (se.new hl) (se.free hl) upd_same (q mv ok fit)
    refine ⟨_, (pss_cons (ps_set (i := 2) nd rfl (Or.inl rfl) (pe_fn f__law_draw hr (by rfl) (pa_cons (pv 0) (pa_cons pe_int (pa_cons pe_int pa_nil)))))
 (pss_cons (ps_if (PW.pt (pw_and (pt_cmpR op_eq (pv 2) pe_int (nomark _)) (pw_and1 (pt_cmpR op_eq (pe_op op_mod (pv 1) pe_int) pe_int (nomark _)))))
 (pss_one (ps_set (i := 2) nd rfl (Or.inl rfl) pe_int))
 pss_nil)
 (pss_cons (ps_if (pt_cmpR op_eq (pv 2) pe_int (nomark _))
 (pss_one (ps_ret (pe_tup (pa_cons pe_int (pa_cons (pe_fn f__law_draw hr (by rfl) (pa_cons (pv 0) (pa_cons pe_int (pa_cons (pe_op op_add (pv 1) pe_int) pa_nil)))) pa_nil)))))
 pss_nil)
 (pss_cons (ps_if (pt_cmpR op_eq (pv 2) pe_int (nomark _))
 (pss_one (ps_ret (pe_tup (pa_cons pe_int (pa_cons (pe_op op_add pe_int (pe_fn f__law_draw hr (by rfl) (pa_cons (pv 0) (pa_cons pe_int (pa_cons (pe_ix ix_tup (pe_tup (pa_cons (pv 1) (pa_cons pe_int pa_nil))) (pe_op op_fdiv (pe_fn f__law_draw hr (by rfl) (pa_cons (pv 0) (pa_cons pe_int (pa_cons pe_int pa_nil)))) pe_int) (fun _ _ => rfl)) pa_nil))))) pa_nil)))))
 pss_nil)
 (pss_cons (ps_if (pt_cmpR op_eq (pv 2) pe_int (nomark _))
 (pss_one (ps_ret (pe_tup (pa_cons pe_int (pa_cons (pe_fn f__law_draw hr (by rfl) (pa_cons (pv 0) (pa_cons pe_int (pa_cons pe_int pa_nil)))) pa_nil)))))
 pss_nil)
 (pss_cons (ps_if (pt_cmpR op_eq (pv 2) pe_int (nomark _))
 (pss_one (ps_ret (pe_tup (pa_cons pe_int (pa_cons (pe_fn f__law_word hr (by rfl) (pa_cons (pv 0) (pa_cons (pv 1) pa_nil))) pa_nil)))))
 pss_nil)
 (pss_one (ps_ret (pe_tup (pa_cons (pv 2) (pa_cons pe_int pa_nil))))))))))), ?_⟩
    refine ⟨_, rfl, c, 14, 6, rfl, by decide, fun d hd => ?_⟩
    match d, hd with
    | 0, _ =>
      refine ⟨_, rfl, rfl, _, rfl, ?_⟩
      refine iteF (iteF ?_)
      refine ⟨_, rfl, rfl, _, rfl, ?_⟩
      refine iteT ?_
      refine ⟨_, rfl, _, rfl, _, _, rfl, rfl, c, 15, n + 1, rfl, by omega, fun e he => ⟨(by show 2 ≤ sizeLine; decide), fun l hl => ?_⟩⟩
      exact fin _ l (.cut e) (Same.refl H) hl (by show e ≤ 60; omega) (by show e ≤ n; omega)
    | 1, _ =>
      refine ⟨_, rfl, rfl, _, rfl, ?_⟩
      refine iteF (iteF ?_)
      refine ⟨_, rfl, rfl, _, rfl, ?_⟩
      refine iteF ?_
      refine ⟨_, rfl, rfl, _, rfl, ?_⟩
      refine iteF ?_
      refine ⟨_, rfl, rfl, _, rfl, ?_⟩
      refine iteF ?_
      refine ⟨_, rfl, rfl, _, rfl, ?_⟩
      refine iteF ?_
      refine ⟨_, rfl, (by show 2 ≤ sizeLine; decide), fun l hl => ?_⟩
      exact fin _ l .turn (Same.refl H) hl trivial trivial
    | 2, _ =>
      refine ⟨_, rfl, rfl, _, rfl, ?_⟩
      refine iteF (iteF ?_)
      refine ⟨_, rfl, rfl, _, rfl, ?_⟩
      refine iteF ?_
      refine ⟨_, rfl, rfl, _, rfl, ?_⟩
      refine iteT ?_
      refine ⟨_, rfl, _, rfl, (by show 2 ≤ sizeLine; decide), fun l8 hl8 => ?_⟩
      refine ⟨_, rfl, c, 16, 4, rfl, by decide, fun d2 hd2 => ?_⟩
      have hdv : (d2 : Int) / 3 = ((d2 / 3 : Nat) : Int) := by omega
      have key : ∃ m : Nat, 1 ≤ m ∧ m ≤ 60 ∧ ([.int (n : Int), .int 60] : List V)[d2 / 3]? = some (.int (m : Int)) := by
        have : d2 / 3 = 0 ∨ d2 / 3 = 1 := by omega
        rcases this with e | e
        · exact ⟨n, h1, h60, by rw [e]; rfl⟩
        · exact ⟨60, by decide, by decide, by rw [e]; rfl⟩
      obtain ⟨m, hm1, hm60, hat⟩ := key
      refine ⟨_, _, rfl, rfl, ⟨by decide, by decide⟩, _, _, _, .int (m : Int), rfl, rfl, SqT.of upd_same, (by show atI _ ((d2 : Int) / 3) = _; rw [hdv]; exact atI_nat hat), c, 15, m, rfl, by omega, fun d3 hd3 => ?_⟩
      refine ⟨_, _, rfl, rfl, (by show 2 ≤ sizeLine; decide), fun l hl => ?_⟩
      have e1 := (Same.refl H).new (o := .tup [.int (n : Int), .int 60]) hl8
      have := fin _ l (.deal (1 + d3)) e1 hl ⟨by omega, by omega⟩ trivial
      rw [show toldV (.deal (1 + d3)) = [.int 2, .int (1 + (d3 : Int))] by simp [toldV]] at this
      exact this
    | 3, _ =>
      refine ⟨_, rfl, rfl, _, rfl, ?_⟩
      refine iteF (iteF ?_)
      refine ⟨_, rfl, rfl, _, rfl, ?_⟩
      refine iteF ?_
      refine ⟨_, rfl, rfl, _, rfl, ?_⟩
      refine iteF ?_
      refine ⟨_, rfl, rfl, _, rfl, ?_⟩
      refine iteF ?_
      refine ⟨_, rfl, rfl, _, rfl, ?_⟩
      refine iteF ?_
      refine ⟨_, rfl, (by show 2 ≤ sizeLine; decide), fun l hl => ?_⟩
      exact fin _ l .under (Same.refl H) hl trivial trivial
    | 4, _ =>
      refine ⟨_, rfl, rfl, _, rfl, ?_⟩
      refine iteT ?_
      refine ⟨_, rfl, _, _, rfl, rfl, (by decide : (0 : Int) < 2), rfl, _, rfl, ?_⟩
      refine ite2 (fun hodd => ?_) fun hodd => ?_
      · -- a riffle in its place
        refine ⟨_, rfl, rfl, _, rfl, ?_⟩
        refine iteF ?_
        refine ⟨_, rfl, rfl, _, rfl, ?_⟩
        refine iteF ?_
        refine ⟨_, rfl, rfl, _, rfl, ?_⟩
        refine iteF ?_
        refine ⟨_, rfl, rfl, _, rfl, ?_⟩
        refine iteT ?_
        refine ⟨_, rfl, _, rfl, c, n, rfl, h60, fun ww hw => ⟨(by show 2 ≤ sizeLine; decide), fun l hl => ?_⟩⟩
        exact fin _ l (.riffle ww) (Same.refl H) hl ⟨by omega, by omega⟩ hw
      · have heven : n % 2 = 0 := by
          have h' : ¬ (n : Int) % 2 = 1 := fun z => hodd (decide_eq_true (by show V.int ((n : Int) % 2) = V.int 1; rw [z]))
          omega
        refine ⟨_, rfl, rfl, _, rfl, ?_⟩
        refine iteF ?_
        refine ⟨_, rfl, rfl, _, rfl, ?_⟩
        refine iteF ?_
        refine ⟨_, rfl, rfl, _, rfl, ?_⟩
        refine iteT ?_
        refine ⟨_, rfl, c, 15, 2, rfl, by decide, fun e he => ⟨(by show 2 ≤ sizeLine; decide), fun l hl => ?_⟩⟩
        exact fin _ l (.weave e) (Same.refl H) hl (by show e ≤ 1; omega) heven
    | 5, _ =>
      refine ⟨_, rfl, rfl, _, rfl, ?_⟩
      refine iteF (iteF ?_)
      refine ⟨_, rfl, rfl, _, rfl, ?_⟩
      refine iteF ?_
      refine ⟨_, rfl, rfl, _, rfl, ?_⟩
      refine iteF ?_
      refine ⟨_, rfl, rfl, _, rfl, ?_⟩
      refine iteF ?_
      refine ⟨_, rfl, rfl, _, rfl, ?_⟩
      refine iteT ?_
      refine ⟨_, rfl, _, rfl, c, n, rfl, h60, fun ww hw => ⟨(by show 2 ≤ sizeLine; decide), fun l hl => ?_⟩⟩
      exact fin _ l (.riffle ww) (Same.refl H) hl ⟨by omega, by omega⟩ hw
    | k + 6, h => exact absurd h (by omega)
end
end Rf

set_option Elab.async false
set_option linter.all false
set_option maxRecDepth 100000
namespace Rf
open PySem L2
section
variable {P : Program} {w : World} {K : PySem.W.Frag} {mg : Str → Option Value} {base : Heap} {t : Adr}
theorem made_end {H : Hp} {Q : VK} {x dx : Addr} {C : Addr} {fs fs' : List (Str × V)} (q : Q (.ref x) (upd (upd H dx (.own x)) x (.ins C dx fs'))) :
    ∃ H'', (Cl H → Cl (upd (upd (upd H dx (.own x)) x (.ins C dx fs)) x (.ins C dx fs')) → Gc H (upd (upd (upd H dx (.own x)) x (.ins C dx fs)) x (.ins C dx fs')) H'') ∧ Q (.ref x) H'' := by
  rw [upd_upd]
  exact ⟨_, fun _ c => Gc.refl c, q⟩
theorem ok__law_made {f : Addr} {fd : FuncData} (F : Fun K "_law_made" "_law_made" s__law_made f fd) (T : Txt K mg t) (k_Cut : Mk1 P w K mg base 3 "Cut" t.cut (spInit1 t vCut isCut)) (k_Turn : Mk1 P w K mg base 3 "Turn" t.turn (spInit0 t .turn)) (k_Deal : Mk1 P w K mg base 3 "Deal" t.deal (spInit1 t vDeal isDeal)) (k_Under : Mk1 P w K mg base 3 "Under" t.under (spInit0 t .under)) (k_Weave : Mk1 P w K mg base 3 "Weave" t.weave (spInit1 t vWeave isWeave)) (k_Riffle : Mk1 P w K mg base 3 "Riffle" t.riffle (spInit1 t vRiffle isRiffle)) : FnOk P w K mg base CX0 5 f fd ["_law_told_here"] (spMade t) := by
  refine F.okG sc__law_made (fun vs H Q E h => ?_) (fun cdv A outer s H vs Q E hr h => ?_)
  · obtain ⟨b, mv, rfl, _⟩ := h
    rfl
  · obtain ⟨b, mv, rfl, hb, ok, q⟩ := h
    have nd := sc__law_made.nd
    refine ⟨_, (pss_cons (ps_asg (pv 0) (pg_tup rfl (pgs_cons (pg_name (i := 1) nd rfl (Or.inl rfl)) (pgs_cons (pg_name (i := 2) nd rfl (Or.inl rfl)) pgs_nil))))
 (pss_cons (ps_if (pt_cmpR op_eq (pv 1) pe_int (nomark _))
 (pss_one (ps_ret (pe_mk k_Cut hr (by rfl) (pa_cons (pv 2) pa_nil))))
 pss_nil)
 (pss_cons (ps_if (pt_cmpR op_eq (pv 1) pe_int (nomark _))
 (pss_one (ps_ret (pe_mk0 k_Turn hr (by rfl))))
 pss_nil)
 (pss_cons (ps_if (pt_cmpR op_eq (pv 1) pe_int (nomark _))
 (pss_one (ps_ret (pe_mk k_Deal hr (by rfl) (pa_cons (pv 2) pa_nil))))
 pss_nil)
 (pss_cons (ps_if (pt_cmpR op_eq (pv 1) pe_int (nomark _))
 (pss_one (ps_ret (pe_mk0 k_Under hr (by rfl))))
 pss_nil)
 (pss_cons (ps_if (pt_cmpR op_eq (pv 1) pe_int (nomark _))
 (pss_one (ps_ret (pe_mk k_Weave hr (by rfl) (pa_cons (pv 2) pa_nil))))
 pss_nil)
 (pss_one (ps_ret (pe_mk k_Riffle hr (by rfl) (pa_cons (pv 2) pa_nil)))))))))), ?_⟩
    cases mv with
    | cut m =>
      refine ⟨_, rfl, _, _, rfl, SqT.of hb, rfl, _, _, rfl, _, _, rfl, rfl, _, rfl, rfl, _, rfl, ?_⟩
      refine iteT ?_
      refine ⟨_, rfl, fun x dx nx ndx nex => ?_⟩
      exact ⟨x, dx, .cut m, trivial, rfl, ok, upd_same, rfl, made_end (q x dx nx ndx nex)⟩
    | turn =>
      refine ⟨_, rfl, _, _, rfl, SqT.of hb, rfl, _, _, rfl, _, _, rfl, rfl, _, rfl, rfl, _, rfl, ?_⟩
      refine iteF ?_
      refine ⟨_, rfl, rfl, _, rfl, ?_⟩
      refine iteT ?_
      intro x dx nx ndx nex
      exact ⟨x, dx, rfl, upd_same, rfl, _, fun _ c => Gc.refl c, q x dx nx ndx nex⟩
    | deal m =>
      refine ⟨_, rfl, _, _, rfl, SqT.of hb, rfl, _, _, rfl, _, _, rfl, rfl, _, rfl, rfl, _, rfl, ?_⟩
      refine iteF ?_
      refine ⟨_, rfl, rfl, _, rfl, ?_⟩
      refine iteF ?_
      refine ⟨_, rfl, rfl, _, rfl, ?_⟩
      refine iteT ?_
      refine ⟨_, rfl, fun x dx nx ndx nex => ?_⟩
      exact ⟨x, dx, .deal m, trivial, rfl, ok, upd_same, rfl, made_end (q x dx nx ndx nex)⟩
    | under =>
      refine ⟨_, rfl, _, _, rfl, SqT.of hb, rfl, _, _, rfl, _, _, rfl, rfl, _, rfl, rfl, _, rfl, ?_⟩
      refine iteF ?_
      refine ⟨_, rfl, rfl, _, rfl, ?_⟩
      refine iteF ?_
      refine ⟨_, rfl, rfl, _, rfl, ?_⟩
      refine iteF ?_
      refine ⟨_, rfl, rfl, _, rfl, ?_⟩
      refine iteT ?_
      intro x dx nx ndx nex
      exact ⟨x, dx, rfl, upd_same, rfl, _, fun _ c => Gc.refl c, q x dx nx ndx nex⟩
    | weave m =>
      refine ⟨_, rfl, _, _, rfl, SqT.of hb, rfl, _, _, rfl, _, _, rfl, rfl, _, rfl, rfl, _, rfl, ?_⟩
      refine iteF ?_
      refine ⟨_, rfl, rfl, _, rfl, ?_⟩
      refine iteF ?_
      refine ⟨_, rfl, rfl, _, rfl, ?_⟩
      refine iteF ?_
      refine ⟨_, rfl, rfl, _, rfl, ?_⟩
      refine iteF ?_
      refine ⟨_, rfl, rfl, _, rfl, ?_⟩
      refine iteT ?_
      refine ⟨_, rfl, fun x dx nx ndx nex => ?_⟩
      exact ⟨x, dx, .weave m, trivial, rfl, ok, upd_same, rfl, made_end (q x dx nx ndx nex)⟩
    | riffle m =>
      refine ⟨_, rfl, _, _, rfl, SqT.of hb, rfl, _, _, rfl, _, _, rfl, rfl, _, rfl, rfl, _, rfl, ?_⟩
      refine iteF ?_
      refine ⟨_, rfl, rfl, _, rfl, ?_⟩
      refine iteF ?_
      refine ⟨_, rfl, rfl, _, rfl, ?_⟩
      refine iteF ?_
      refine ⟨_, rfl, rfl, _, rfl, ?_⟩
      refine iteF ?_
      refine ⟨_, rfl, rfl, _, rfl, ?_⟩
      refine iteF ?_
      refine ⟨_, rfl, fun x dx nx ndx nex => ?_⟩
      exact ⟨x, dx, .riffle m, trivial, rfl, ok, upd_same, rfl, made_end (q x dx nx ndx nex)⟩
end
end Rf

set_option Elab.async false
set_option linter.all false
set_option maxRecDepth 100000
set_option maxHeartbeats 1000000
namespace Rf
open PySem L2
/-! ### texts of moves -/
def numText (m : Nat) : Str := Str.ofString (toString (m : Int))
def mvText : Mv → Str
  | .cut m => Str.ofString "cut " ++ numText m | .turn => Str.ofString "turn" | .deal m => Str.ofString "deal " ++ numText m | .under => Str.ofString "under"
  | .weave m => Str.ofString "weave " ++ numText m | .riffle w => Str.ofString "riffle " ++ wordOf w
def spMoveWritten (t : Adr) : Sp := fun vs H Q _ => ∃ (p : Addr) (mv : Mv), vs = [.ref p] ∧ IsMv t H p mv ∧ mv.ok ∧ Q (.str (mvText mv)) H
def spWritten (t : Adr) : Sp := fun vs H Q _ => ∃ (l : Addr) (ms : List (Addr × Mv)), vs = [.ref l] ∧ H l = some (.lst (ms.map fun x => V.ref x.1)) ∧ (∀ x ∈ ms, IsMv t H x.1 x.2 ∧ x.2.ok) ∧ ms.length ≤ 1000 ∧ Q (.str (Str.join (Str.ofString "; ") (ms.map fun x => mvText x.2))) H
theorem log_small {m : Nat} (h : m ≤ 60) : ((m : Int)).natAbs.log2 < 1920 := by
  have : (m : Int).natAbs = m := by omega
  rw [this]
  by_cases h0 : m = 0
  · subst h0; decide
  · have := (Nat.log2_lt (n := m) (k := 6) h0).mpr (by omega)
    omega
theorem numText_len {m : Nat} (h : m ≤ 60) : (numText m).length ≤ 1921 := PyProof.Rows.int_text_len_1921 (log_small h)
theorem str_app_len (x y : Str) : (x ++ y).length = x.length + y.length := Str.length_append x y
theorem mvText_len {mv : Mv} (ok : mv.ok) : (mvText mv).length ≤ 2000 := by
  cases mv with
  | cut m => have := numText_len (show m ≤ 60 from ok); show (Str.ofString "cut " ++ numText m).length ≤ _; rw [str_app_len]; show 4 + _ ≤ _; omega
  | turn => show 4 ≤ 2000; decide
  | deal m => have := numText_len (show m ≤ 60 from ok.2); show (Str.ofString "deal " ++ numText m).length ≤ _; rw [str_app_len]; show 5 + _ ≤ _; omega
  | under => show 5 ≤ 2000; decide
  | weave m => have := numText_len (show m ≤ 60 from Nat.le_trans ok (by decide)); show (Str.ofString "weave " ++ numText m).length ≤ _; rw [str_app_len]; show 6 + _ ≤ _; omega
  | riffle w => have := ok.2; show (Str.ofString "riffle " ++ wordOf w).length ≤ _; rw [str_app_len, word_len]; show 7 + _ ≤ _; omega
section
variable {P : Program} {w : World} {K : PySem.W.Frag} {mg : Str → Option Value} {base : Heap} {t : Adr}
theorem ok_move_written {f : Addr} {fd : FuncData} (F : Fun K "move_written" "move_written" s_move_written f fd) (T : Txt K mg t) (Y : TyTxt K t) : FnOk P w K mg base CX0 1 f fd ["move"] (spMoveWritten t) := by
  refine F.okG sc_move_written (fun vs H Q E h => ?_) (fun cdv A outer s H vs Q E hr h => ?_)
  · obtain ⟨p, mv, rfl, _⟩ := h
    rfl
  · obtain ⟨p, mv, rfl, hp, ok, q⟩ := h
    have big : (100000 : Nat) < sizeLine := by decide
    have ty := Y.ty T hp
    obtain ⟨dx, ho⟩ := hp
    have k0 := Y.kits mv 0 (by decide)
    have k1 := Y.kits mv 1 (by decide)
    have k2 := Y.kits mv 2 (by decide)
    have k3 := Y.kits mv 3 (by decide)
    have k4 := Y.kits mv 4 (by decide)
    have k5 := Y.kits mv 5 (by decide)
    refine ⟨_, (pss_cons (ps_if (pt_val (pe_callB call_isi (by rfl) T.no_isinstance (show bootBuiltins "isinstance" = some (.builtin "isinstance") by decide +kernel) (pa_cons (pv 0) (pa_cons (pe_glob (v := .ref _) rfl T.mg_Cut rfl) pa_nil))))
 (pss_one (ps_ret (pe_op op_add_str pe_str (pe_callTy call_str_int (by rfl) T.no_str (show bootBuiltins "str" = some (.type "str") by decide +kernel) (pa_cons (pe_fld (pv 0) rfl) pa_nil)))))
 pss_nil)
 (pss_cons (ps_if (pt_val (pe_callB call_isi (by rfl) T.no_isinstance (show bootBuiltins "isinstance" = some (.builtin "isinstance") by decide +kernel) (pa_cons (pv 0) (pa_cons (pe_glob (v := .ref _) rfl T.mg_Turn rfl) pa_nil))))
 (pss_one (ps_ret pe_str))
 pss_nil)
 (pss_cons (ps_if (pt_val (pe_callB call_isi (by rfl) T.no_isinstance (show bootBuiltins "isinstance" = some (.builtin "isinstance") by decide +kernel) (pa_cons (pv 0) (pa_cons (pe_glob (v := .ref _) rfl T.mg_Deal rfl) pa_nil))))
 (pss_one (ps_ret (pe_op op_add_str pe_str (pe_callTy call_str_int (by rfl) T.no_str (show bootBuiltins "str" = some (.type "str") by decide +kernel) (pa_cons (pe_fld (pv 0) rfl) pa_nil)))))
 pss_nil)
 (pss_cons (ps_if (pt_val (pe_callB call_isi (by rfl) T.no_isinstance (show bootBuiltins "isinstance" = some (.builtin "isinstance") by decide +kernel) (pa_cons (pv 0) (pa_cons (pe_glob (v := .ref _) rfl T.mg_Under rfl) pa_nil))))
 (pss_one (ps_ret pe_str))
 pss_nil)
 (pss_cons (ps_if (pt_val (pe_callB call_isi (by rfl) T.no_isinstance (show bootBuiltins "isinstance" = some (.builtin "isinstance") by decide +kernel) (pa_cons (pv 0) (pa_cons (pe_glob (v := .ref _) rfl T.mg_Weave rfl) pa_nil))))
 (pss_one (ps_ret (pe_op op_add_str pe_str (pe_callTy call_str_int (by rfl) T.no_str (show bootBuiltins "str" = some (.type "str") by decide +kernel) (pa_cons (pe_fld (pv 0) rfl) pa_nil)))))
 pss_nil)
 (pss_cons (ps_if (pt_val (pe_callB call_isi (by rfl) T.no_isinstance (show bootBuiltins "isinstance" = some (.builtin "isinstance") by decide +kernel) (pa_cons (pv 0) (pa_cons (pe_glob (v := .ref _) rfl T.mg_Riffle rfl) pa_nil))))
 (pss_one (ps_ret (pe_op op_add_str pe_str (pe_fld (pv 0) rfl))))
 pss_nil)
 (pss_one ps_never))))))), ?_⟩
    refine ⟨_, rfl, _, _, _, _, rfl, ty, .inr ⟨_, rfl⟩, k0, _, rfl, ?_⟩
    cases mv with
    | cut m =>
      have := numText_len (show m ≤ 60 from ok)
      refine iteT ?_
      refine ⟨_, rfl, _, _, _, _, _, rfl, ho, T.cl (.cut m), T.na_many, rfl, _, rfl, log_small ok, _, _, rfl, rfl, ?_, end_same (Same.refl H) q⟩
      show 4 + (numText m).length ≤ _
      omega
    | turn =>
      refine iteF ?_
      refine ⟨_, rfl, _, _, _, _, rfl, ty, .inr ⟨_, rfl⟩, k1, _, rfl, ?_⟩
      refine iteT ?_
      exact end_same (Same.refl H) q
    | deal m =>
      have := numText_len (show m ≤ 60 from ok.2)
      refine iteF ?_
      refine ⟨_, rfl, _, _, _, _, rfl, ty, .inr ⟨_, rfl⟩, k1, _, rfl, ?_⟩
      refine iteF ?_
      refine ⟨_, rfl, _, _, _, _, rfl, ty, .inr ⟨_, rfl⟩, k2, _, rfl, ?_⟩
      refine iteT ?_
      refine ⟨_, rfl, _, _, _, _, _, rfl, ho, T.cl (.deal m), T.na_piles, rfl, _, rfl, log_small ok.2, _, _, rfl, rfl, ?_, end_same (Same.refl H) q⟩
      show 5 + (numText m).length ≤ _
      omega
    | under =>
      refine iteF ?_
      refine ⟨_, rfl, _, _, _, _, rfl, ty, .inr ⟨_, rfl⟩, k1, _, rfl, ?_⟩
      refine iteF ?_
      refine ⟨_, rfl, _, _, _, _, rfl, ty, .inr ⟨_, rfl⟩, k2, _, rfl, ?_⟩
      refine iteF ?_
      refine ⟨_, rfl, _, _, _, _, rfl, ty, .inr ⟨_, rfl⟩, k3, _, rfl, ?_⟩
      refine iteT ?_
      exact end_same (Same.refl H) q
    | weave m =>
      have := numText_len (show m ≤ 60 from Nat.le_trans ok (by decide))
      refine iteF ?_
      refine ⟨_, rfl, _, _, _, _, rfl, ty, .inr ⟨_, rfl⟩, k1, _, rfl, ?_⟩
      refine iteF ?_
      refine ⟨_, rfl, _, _, _, _, rfl, ty, .inr ⟨_, rfl⟩, k2, _, rfl, ?_⟩
      refine iteF ?_
      refine ⟨_, rfl, _, _, _, _, rfl, ty, .inr ⟨_, rfl⟩, k3, _, rfl, ?_⟩
      refine iteF ?_
      refine ⟨_, rfl, _, _, _, _, rfl, ty, .inr ⟨_, rfl⟩, k4, _, rfl, ?_⟩
      refine iteT ?_
      refine ⟨_, rfl, _, _, _, _, _, rfl, ho, T.cl (.weave m), T.na_first, rfl, _, rfl, log_small (Nat.le_trans ok (by decide)), _, _, rfl, rfl, ?_, end_same (Same.refl H) q⟩
      show 6 + (numText m).length ≤ _
      omega
    | riffle wd =>
      refine iteF ?_
      refine ⟨_, rfl, _, _, _, _, rfl, ty, .inr ⟨_, rfl⟩, k1, _, rfl, ?_⟩
      refine iteF ?_
      refine ⟨_, rfl, _, _, _, _, rfl, ty, .inr ⟨_, rfl⟩, k2, _, rfl, ?_⟩
      refine iteF ?_
      refine ⟨_, rfl, _, _, _, _, rfl, ty, .inr ⟨_, rfl⟩, k3, _, rfl, ?_⟩
      refine iteF ?_
      refine ⟨_, rfl, _, _, _, _, rfl, ty, .inr ⟨_, rfl⟩, k4, _, rfl, ?_⟩
      refine iteF ?_
      refine ⟨_, rfl, _, _, _, _, rfl, ty, .inr ⟨_, rfl⟩, k5, _, rfl, ?_⟩
      refine iteT ?_
      refine ⟨_, rfl, _, _, _, _, _, rfl, ho, T.cl (.riffle wd), T.na_word, rfl, _, _, rfl, rfl, ?_, end_same (Same.refl H) q⟩
      show 7 + (wordOf wd).length ≤ _
      have := ok.2
      rw [word_len]
      omega
theorem ok_written {f : Addr} {fd : FuncData} (F : Fun K "written" "written" s_written f fd) (T : Txt K mg t) (f_check_moves : Fn1 P w K mg base 2 "check_moves" (spCheckMoves t)) (f_move_written : Fn1 P w K mg base 1 "move_written" (spMoveWritten t)) : FnOk P w K mg base CX0 3 f fd ["moves"] (spWritten t) := by
  refine F.okG sc_written (fun vs H Q E h => ?_) (fun cdv A outer s H vs Q E hr h => ?_)
  · obtain ⟨l, ms, rfl, _⟩ := h
    rfl
  · obtain ⟨l, ms, rfl, hl, hms, h100, q⟩ := h
    refine ⟨_, (pss_cons (ps_expr (pe_fn f_check_moves hr (by rfl) (pa_cons (pv 0) pa_nil)))
 (pss_one (ps_ret (pe_bm PySem.F.plainAttrs_str PySem.F.slot_str_join PySem.F.type_str_join mt_join pe_str (pa_cons (pe_lc (ys := []) (js := []) rfl (pi_list (pv 0)) rfl (by decide +kernel) (by decide +kernel) rfl rfl rfl (by decide +kernel) (fun _ _ _ _ => (pe_fn f_move_written hr (by rfl) (pa_cons (pv 0) pa_nil)))) pa_nil))))), ?_⟩
    refine ⟨_, rfl, l, ms, rfl, hl, fun x hx => (hms x hx).1, rfl, _, rfl, _, rfl, ⟨_, SqL.of hl⟩, ?_⟩
    refine lc_go (K := K) (js := []) (xs := ms.map fun x => V.ref x.1) (fun i _ => .str ((ms.map fun x => mvText x.2).getD i Str.empty)) (SqL.of hl) (by rw [List.length_map]; omega) (fun i x R hx hR => ?_) fun D hD => ?_
    · rw [List.getElem?_map] at hx
      cases hmi : ms[i]? with
      | none => rw [hmi] at hx; simp at hx
      | some m =>
        rw [hmi] at hx
        simp at hx
        subst hx
        obtain ⟨h1, h2⟩ := hms m (List.mem_of_getElem? hmi)
        have hgd : (ms.map fun x => mvText x.2).getD i Str.empty = mvText m.2 := by simp [List.getD_eq_getElem?_getD, hmi]
        try dsimp only at hR
        rw [hgd] at hR
        exact ⟨_, rfl, m.1, m.2, rfl, h1, h2, hR⟩
    · have em : (ms.map fun x => V.ref x.1).mapIdx (fun i _ => V.str ((ms.map fun x => mvText x.2).getD i Str.empty)) = (ms.map fun x => mvText x.2).map V.str := by
        apply List.ext_getElem?
        intro j
        by_cases hj : j < ms.length <;> simp [hj]
      rw [em]
      have hsum : ((ms.map fun x => mvText x.2).map (·.length)).sum ≤ 2000 * ms.length := by
        clear em h100 hl q
        induction ms with
        | nil => simp
        | cons m ms ih =>
          have h1 := mvText_len (hms m List.mem_cons_self).2
          have h2 := ih fun x hx => hms x (List.mem_cons_of_mem _ hx)
          rw [List.map_cons, List.map_cons, List.sum_cons, List.length_cons]
          omega
      refine ⟨_, _, _, rfl, rfl, SqL.of upd_same, ?_, end_same ((Same.refl H).new hD) q⟩
      rw [List.length_map]
      show _ + _ * 2 ≤ _
      omega
/-! ### the weaves to a place -/
structure Wvs (t : Adr) (H H' : Hp) (l : Addr) (ms : List Addr) (bs : List Nat) : Prop where
  same : Same H H'
  new : H l = none
  lst : H' l = some (.lst (ms.map V.ref))
  len : ms.length = bs.length
  at_ : ∀ (i : Nat) (r : Addr), ms[i]? = some r → r ≠ l ∧ IsMv t H' r (.weave (bs.getD i 0))
def spBrought (t : Adr) : Sp := fun vs H Q _ => ∃ n p : Nat, vs = [.int (n : Int), .int (p : Int)] ∧ 2 ≤ n ∧ n ≤ 60 ∧ n % 2 = 0 ∧ p < n ∧ ∀ l ms H', Wvs t H H' l ms (bitsOf p) → Q (.ref l) H'
def brInv (t : Adr) (H : Hp) (n p : Nat) (l : Addr) (m : Nat) (σ : St) (H' : Hp) : Prop := ∃ (ms : List Addr) (bs : List Nat), bitsOf p = bitsOf m ++ bs ∧ m ≤ p ∧ σ = [some (.int (n : Int)), some (.int (p : Int)), some (.ref l), some (.int (m : Int))] ∧ Wvs t H H' l ms bs ∧ ms.length ≤ 60
/-! ### woven here -/
def spWoven : Sp := fun vs H Q _ => ∃ (a : Addr) (xs : List Nat) (f : Nat), vs = [.ref a, .int (f : Int)] ∧ H a = some (.lst (nv xs)) ∧ xs.length % 2 = 0 ∧ xs.length ≤ 60 ∧ f ≤ 1 ∧ ∀ l, H l = none → Q (.ref l) (upd H l (.lst (nv (wov f xs (xs.length / 2) (xs.length / 2)))))
end
end Rf

set_option Elab.async false
set_option linter.all false
set_option maxRecDepth 100000
set_option maxHeartbeats 1000000
namespace Rf
open PySem L2
/-! ### figures, words, what a text writes -/
def fig (m : Nat) : List Nat := if m < 10 then [48 + m] else [48 + m / 10, 48 + m % 10]
theorem num_fig : ∀ m, m < 100 → tl (numText m) = fig m := by decide +kernel
theorem int_fig : ∀ m, m < 100 → intText? ⟨(fig m).toArray⟩ = some (m : Int) := by decide +kernel
theorem fig_inj {m n : Nat} (hm : m < 100) (hn : n < 100) (e : fig m = fig n) : m = n := by
  unfold fig at e
  split at e <;> split at e <;> simp at e <;> omega
theorem num_inj {m n : Nat} (hm : m < 100) (hn : n < 100) (e : numText m = numText n) : m = n := fig_inj hm hn (by rw [← num_fig m hm, ← num_fig n hn, e])
theorem fig_mem {m d : Nat} (hm : m < 100) (h : d ∈ fig m) : 48 ≤ d ∧ d ≤ 57 := by
  unfold fig at h
  split at h
  · have : d = 48 + m := by simpa using h
    omega
  · have : d = 48 + m / 10 ∨ d = 48 + m % 10 := by simpa using h
    rcases this with z | z <;> omega
theorem fig_len (m : Nat) : 1 ≤ (fig m).length ∧ (fig m).length ≤ 2 := by
  unfold fig
  split <;> simp
theorem num_len2 {m : Nat} (h : m < 100) : 1 ≤ (numText m).length ∧ (numText m).length ≤ 2 := by
  rw [← tl_length, num_fig m h]
  exact fig_len m
theorem tl_word (w : List Bool) : tl (wordOf w) = w.map fun b => if b then 97 else 98 := by simp [tl, wordOf]
theorem word_iff (z : Str) : (∃ w, z = wordOf w) ↔ ∀ d ∈ tl z, d = 97 ∨ d = 98 := by
  constructor
  · rintro ⟨w, rfl⟩ d hd
    rw [tl_word, List.mem_map] at hd
    obtain ⟨b, _, rfl⟩ := hd
    cases b <;> simp
  · intro h
    refine ⟨(tl z).map fun d => decide (d = 97), str_ext ?_⟩
    rw [tl_word, List.map_map]
    have : ∀ l : List Nat, (∀ d ∈ l, d = 97 ∨ d = 98) → l = l.map ((fun b => if b = true then 97 else 98) ∘ fun d => decide (d = 97)) := by
      intro l
      induction l with
      | nil => intro _; rfl
      | cons d l ih =>
        intro hl
        rw [List.map_cons, ← ih fun e he => hl e (List.mem_cons_of_mem _ he)]
        rcases hl d List.mem_cons_self with z | z <;> subst z <;> rfl
    exact this _ h
theorem cnt_ab : ∀ l : List Nat, l.count 97 + l.count 98 ≤ l.length ∧ (l.count 97 + l.count 98 = l.length ↔ ∀ d ∈ l, d = 97 ∨ d = 98)
  | [] => by simp
  | d :: l => by
    obtain ⟨h1, h2⟩ := cnt_ab l
    by_cases ha : d = 97
    · subst ha
      rw [List.count_cons_self, List.count_cons_of_ne (by decide), List.length_cons]
      refine ⟨by omega, ⟨fun e d hd => ?_, fun h => ?_⟩⟩
      · rcases List.mem_cons.mp hd with z | z
        · exact .inl z
        · exact h2.mp (by omega) d z
      · have := h2.mpr fun d hd => h d (List.mem_cons_of_mem _ hd)
        omega
    · by_cases hb : d = 98
      · subst hb
        rw [List.count_cons_self, List.count_cons_of_ne (by decide), List.length_cons]
        refine ⟨by omega, ⟨fun e d hd => ?_, fun h => ?_⟩⟩
        · rcases List.mem_cons.mp hd with z | z
          · exact .inr z
          · exact h2.mp (by omega) d z
        · have := h2.mpr fun d hd => h d (List.mem_cons_of_mem _ hd)
          omega
      · rw [List.count_cons_of_ne ha, List.count_cons_of_ne hb, List.length_cons]
        refine ⟨by omega, ⟨fun e => by omega, fun h => ?_⟩⟩
        rcases h d List.mem_cons_self with z | z
        · exact absurd z ha
        · exact absurd z hb
theorem tw_le {p : Nat → Bool} {b : Nat} (hb : p b = false) : ∀ xs : List Nat, ((xs ++ [b]).takeWhile p).length ≤ xs.length
  | [] => by simp [hb]
  | x :: xs => by
    rw [List.cons_append, List.takeWhile_cons]
    split
    · rw [List.length_cons, List.length_cons]
      have := tw_le hb xs
      omega
    · simp
theorem tw_all {p : Nat → Bool} : ∀ l : List Nat, (∀ d ∈ l, p d = true) → l.takeWhile p = l
  | [], _ => rfl
  | d :: l, h => by rw [List.takeWhile_cons, h d List.mem_cons_self, if_pos rfl, tw_all l fun e he => h e (List.mem_cons_of_mem _ he)]
theorem tw_bad {p : Nat → Bool} : ∀ l : List Nat, (∃ d ∈ l, p d = false) → ∃ b r, l.drop (l.takeWhile p).length = b :: r ∧ p b = false
  | [], ⟨_, h, _⟩ => by simp at h
  | d :: l, h => by
    rw [List.takeWhile_cons]
    by_cases hd : p d = true
    · rw [if_pos hd]
      obtain ⟨e, he, hp⟩ := h
      rcases List.mem_cons.mp he with z | z
      · rw [z, hd] at hp; cases hp
      · exact tw_bad l ⟨e, z, hp⟩
    · rw [if_neg hd]
      exact ⟨d, l, rfl, by simpa using hd⟩
theorem strip_empty (z c : Str) : Txt.stripChars z c = Str.empty ↔ ∀ d ∈ tl z, c.cps.contains d = true := by
  have hlen : z.length = (tl z).length := (tl_length z).symm
  unfold Txt.stripChars Txt.stripBy
  constructor
  · intro h d hd
    cases hc : c.cps.contains d with
    | true => rfl
    | false =>
      exfalso
      obtain ⟨b, r, e1, e2⟩ := tw_bad (p := c.cps.contains) (tl z) ⟨d, hd, hc⟩
      have lr := congrArg List.length e1
      rw [List.length_drop, List.length_cons] at lr
      split at h
      · have : tl z = [] := by rw [h]; rfl
        rw [this] at hd
        cases hd
      · have e3 := congrArg tl h
        unfold stripped at e3
        rw [sub_tl] at e3
        have e4 : stripLo c.cps.contains true z = ((tl z).takeWhile c.cps.contains).length := by
          unfold stripLo
          rw [if_pos rfl]
        rw [e4, e1] at e3
        have e5 : stripHi c.cps.contains true z ((tl z).takeWhile c.cps.contains).length = z.length - ((b :: r).reverse.takeWhile c.cps.contains).length := by
          unfold stripHi
          rw [if_pos rfl]
          show z.length - ((List.drop _ (tl z)).reverse.takeWhile _).length = _
          rw [e1]
        rw [e5, List.reverse_cons] at e3
        have t := tw_le (p := c.cps.contains) e2 r.reverse
        rw [List.length_reverse] at t
        have : z.length - ((r.reverse ++ [b]).takeWhile c.cps.contains).length - ((tl z).takeWhile c.cps.contains).length = (z.length - ((r.reverse ++ [b]).takeWhile c.cps.contains).length - ((tl z).takeWhile c.cps.contains).length - 1) + 1 := by omega
        rw [this, List.take_succ_cons] at e3
        cases e3
  · intro h
    have hlo : stripLo c.cps.contains true z = z.length := by
      unfold stripLo
      rw [if_pos rfl]
      show ((tl z).takeWhile _).length = _
      rw [tw_all _ h, hlen]
    split
    · rename_i hs
      unfold stripSame at hs
      rw [hlo] at hs
      have h0 : z.length = 0 := by
        have := (Bool.and_eq_true _ _ ▸ hs : _ ∧ _).1
        simpa using this
      refine str_ext ?_
      rw [List.length_eq_zero_iff.mp (show (tl z).length = 0 by rw [tl_length]; exact h0)]
      rfl
    · refine str_ext ?_
      unfold stripped
      rw [sub_tl, hlo, hlen, List.drop_length, List.take_nil]
      rfl
/-- x writes mv -/
def Wr (x : Str) (mv : Mv) : Prop := mv.ok ∧ mvText mv = x
theorem cut_text (m : Nat) : mvText (.cut m) = Str.ofString "cut" ++ blk ++ numText m := rfl
theorem deal_text (m : Nat) : mvText (.deal m) = Str.ofString "deal" ++ blk ++ numText m := rfl
theorem weave_text (m : Nat) : mvText (.weave m) = Str.ofString "weave" ++ blk ++ numText m := rfl
theorem riffle_text (w : List Bool) : mvText (.riffle w) = Str.ofString "riffle" ++ blk ++ wordOf w := rfl
theorem mv_len {mv : Mv} (ok : mv.ok) : 4 ≤ (mvText mv).length ∧ (mvText mv).length ≤ 67 := by
  cases mv with
  | cut m => have := num_len2 (Nat.lt_of_le_of_lt (show m ≤ 60 from ok) (by decide)); show 4 ≤ (Str.ofString "cut " ++ numText m).length ∧ (Str.ofString "cut " ++ numText m).length ≤ _; rw [str_app_len]; show 4 ≤ 4 + _ ∧ 4 + _ ≤ _; omega
  | turn => show 4 ≤ 4 ∧ 4 ≤ 67; decide
  | deal m => have := num_len2 (Nat.lt_of_le_of_lt (show m ≤ 60 from ok.2) (by decide)); show 4 ≤ (Str.ofString "deal " ++ numText m).length ∧ (Str.ofString "deal " ++ numText m).length ≤ _; rw [str_app_len]; show 4 ≤ 5 + _ ∧ 5 + _ ≤ _; omega
  | under => show 4 ≤ 5 ∧ 5 ≤ 67; decide
  | weave m => have := num_len2 (Nat.lt_of_le_of_lt (show m ≤ 1 from ok) (by decide)); show 4 ≤ (Str.ofString "weave " ++ numText m).length ∧ (Str.ofString "weave " ++ numText m).length ≤ _; rw [str_app_len]; show 4 ≤ 6 + _ ∧ 6 + _ ≤ _; omega
  | riffle w => have := ok.2; show 4 ≤ (Str.ofString "riffle " ++ wordOf w).length ∧ (Str.ofString "riffle " ++ wordOf w).length ≤ _; rw [str_app_len, word_len]; show 4 ≤ 7 + _ ∧ 7 + _ ≤ _; omega
theorem mv_semi {mv : Mv} (ok : mv.ok) : 59 ∉ tl (mvText mv) := by
  have nf : ∀ m, m ≤ 60 → 59 ∉ tl (numText m) := fun m h z => by
    rw [num_fig m (by omega)] at z
    have := fig_mem (by omega) z
    omega
  cases mv with
  | cut m => rw [cut_text, tl_append, tl_append]; intro z; rcases List.mem_append.mp z with z | z; exact absurd z (by decide +kernel); exact nf m ok z
  | turn => decide +kernel
  | deal m => rw [deal_text, tl_append, tl_append]; intro z; rcases List.mem_append.mp z with z | z; exact absurd z (by decide +kernel); exact nf m ok.2 z
  | under => decide +kernel
  | weave m => rw [weave_text, tl_append, tl_append]; intro z; rcases List.mem_append.mp z with z | z; exact absurd z (by decide +kernel); exact nf m (Nat.le_trans ok (by decide)) z
  | riffle w =>
    rw [riffle_text, tl_append, tl_append]
    intro z
    rcases List.mem_append.mp z with z | z
    · exact absurd z (by decide +kernel)
    · rcases (word_iff _).mp ⟨w, rfl⟩ 59 z with y | y <;> cases y
/-- how a written part is parted -/
inductive Srt where | cut | deal | weave | riffle
def Srt.name : Srt → Str
  | .cut => Str.ofString "cut" | .deal => Str.ofString "deal" | .weave => Str.ofString "weave" | .riffle => Str.ofString "riffle"
theorem Srt.blank : ∀ s : Srt, 32 ∉ tl s.name
  | .cut => by decide +kernel
  | .deal => by decide +kernel
  | .weave => by decide +kernel
  | .riffle => by decide +kernel
theorem Srt.part (s : Srt) (r : Str) : Txt.partition (s.name ++ blk ++ r) blk = (s.name, blk, r) := part_of _ _ s.blank
theorem Srt.ne (s : Srt) (r : Str) : s.name ++ blk ++ r ≠ Str.ofString "turn" ∧ s.name ++ blk ++ r ≠ Str.ofString "under" := by
  have : 32 ∈ tl (s.name ++ blk ++ r) := by
    rw [tl_append, tl_append]
    simp [blk]
  exact ⟨fun z => by rw [z] at this; exact absurd this (by decide +kernel), fun z => by rw [z] at this; exact absurd this (by decide +kernel)⟩
structure XA where
  (pack order move number text : Addr)
/-- the classes of the refusals -/
structure ExcTxt (K : PySem.W.Frag) (mg : Str → Option Value) (u : XA) : Prop where
  mg_PackError : mg "PackError" = some (.ref u.pack)
  mg_BadOrder : mg "BadOrder" = some (.ref u.order)
  mg_BadMove : mg "BadMove" = some (.ref u.move)
  mg_BadNumber : mg "BadNumber" = some (.ref u.number)
  mg_BadText : mg "BadText" = some (.ref u.text)
  no_ValueError : mg "ValueError" = none
  c_PackError : ExcCl K u.pack
  c_BadMove : ExcCl K u.move
  c_BadText : ExcCl K u.text
  move_move : PySem.W.mroIn K u.move (.ref u.move) = some true
  text_move : PySem.W.mroIn K u.text (.ref u.move) = some false
  text_pack : PySem.W.mroIn K u.text (.ref u.pack) = some true
  k_move : PySem.W.kitOne K (.ref u.text) (.ref u.move) = some false
  k_number : PySem.W.kitOne K (.ref u.text) (.ref u.number) = some false
  k_order : PySem.W.kitOne K (.ref u.text) (.ref u.order) = some false
  k_text : PySem.W.kitOne K (.ref u.text) (.ref u.text) = some true
  k_value : PySem.W.kitOne K (.ref u.text) (.type "ValueError") = some true
section
variable {P : Program} {w : World} {K : PySem.W.Frag} {mg : Str → Option Value} {base : Heap} {t : Adr} {u : XA}
/-! ### the program's defs that may refuse -/
def spWordG : Sp := fun vs H Q _ => ∃ z : Str, vs = [.str z] ∧ z.length ≤ 10000 ∧ ∀ b : Bool, (b = true ↔ ∃ w, z = wordOf w ∧ 1 ≤ w.length ∧ w.length ≤ 60) → Q (.bl b) H
theorem okn_is_word {f : Addr} {fd : FuncData} (F : Fun K "is_word" "is_word" s_is_word f fd) (T : Txt K mg t) (f_is_number : Fn1 P w K mg base 1 "is_number" spNum) : FnOk P w K mg base CX0 2 f fd ["value"] spWordG := by
  refine F.okG sc_is_word (fun vs H Q E h => ?_) (fun cdv A outer s H vs Q E hr h => ?_)
  · obtain ⟨z, rfl, _⟩ := h
    rfl
  · obtain ⟨z, rfl, hz, q⟩ := h
    have hz' : z.length ≤ sizeLine := Nat.le_trans hz (by decide)
    refine ⟨_, (pss_cons (ps_if (PW.pt (pw_or (pt_not (pt_val (pe_callB call_isi (by rfl) T.no_isinstance (show bootBuiltins "isinstance" = some (.builtin "isinstance") by decide +kernel) (pa_cons (pv 0) (pa_cons (pe_bltn (v := .ty "str") rfl T.no_str (show bootBuiltins "str" = some (.type "str") by decide +kernel) rfl) pa_nil))))) (pw_or1 (pt_not (pt_val (pe_fn f_is_number hr (by rfl) (pa_cons (pe_callB call_len_str (by rfl) T.no_len (show bootBuiltins "len" = some (.builtin "len") by decide +kernel) (pa_cons (pv 0) pa_nil)) (pa_cons pe_int (pa_cons (pe_globI rfl T.mg_MOST_CARDS) pa_nil)))))))))
 (pss_one (ps_ret pe_bl))
 pss_nil)
 (pss_one (ps_ret (pe_cmpR op_eq (pe_op op_add (pe_bm PySem.F.plainAttrs_str PySem.F.slot_str_count PySem.F.type_str_count mt_count (pv 0) (pa_cons pe_str pa_nil)) (pe_bm PySem.F.plainAttrs_str PySem.F.slot_str_count PySem.F.type_str_count mt_count (pv 0) (pa_cons pe_str pa_nil))) (pe_callB call_len_str (by rfl) T.no_len (show bootBuiltins "len" = some (.builtin "len") by decide +kernel) (pa_cons (pv 0) pa_nil)) (nomark _))))), ?_⟩
    refine ⟨_, rfl, _, _, _, _, rfl, .str _, .inl ⟨_, rfl⟩, kit_str_str, _, rfl, ?_⟩
    refine iteF ?_
    refine ⟨_, rfl, _, rfl, hz', _, _, _, rfl, _, rfl, ?_⟩
    by_cases hl : 1 ≤ z.length ∧ z.length ≤ 60
    · rw [show (decide ((1 : Int) ≤ (z.length : Int)) && decide ((z.length : Int) ≤ 60)) = true by simp; omega]
      refine iteF ?_
      refine ⟨_, rfl, rfl, _, 97, rfl, rfl, _, rfl, rfl, _, 98, rfl, rfl, _, _, rfl, rfl, _, rfl, _, rfl, hz', rfl, ?_⟩
      refine end_same (Same.refl H) (q _ ?_)
      have c2 := (cnt_ab (tl z)).2
      rw [decide_eq_true_iff]
      constructor
      · intro e
        injection e with e
        have e' : (tl z).count 97 + (tl z).count 98 = (tl z).length := by
          rw [tl_length]
          have : ((tl z).count 97 : Int) + ((tl z).count 98 : Int) = (z.length : Int) := e
          omega
        obtain ⟨w, hw⟩ := (word_iff z).mpr (c2.mp e')
        refine ⟨w, hw, ?_⟩
        have : z.length = w.length := by rw [hw, word_len]
        omega
      · rintro ⟨w, hw, _⟩
        have e' := c2.mpr ((word_iff z).mp ⟨w, hw⟩)
        rw [tl_length] at e'
        show V.int (((tl z).count 97 : Int) + ((tl z).count 98 : Int)) = V.int (z.length : Int)
        congr 1
        omega
    · rw [show (decide ((1 : Int) ≤ (z.length : Int)) && decide ((z.length : Int) ≤ 60)) = false by
        cases h : (decide ((1 : Int) ≤ (z.length : Int)) && decide ((z.length : Int) ≤ 60)) with
        | false => rfl
        | true => simp at h; omega]
      refine iteT ?_
      refine end_same (Same.refl H) (q false ⟨(fun z => by cases z), fun ⟨w, hw, h1, h2⟩ => ?_⟩)
      exfalso
      apply hl
      rw [hw, word_len]
      exact ⟨h1, h2⟩
def spNumX (t : Adr) (u : XA) (mk : Nat → Mv) : Sp := fun vs H Q E => ∃ (p dx : Addr) (m : Nat), vs = [.ref p, .int (m : Int)] ∧ H p = some (.ins ((mk m).cls t) dx []) ∧
  (((mk m).ok ∧ Q .non (upd H p (.ins ((mk m).cls t) dx (mk m).flds))) ∨ (¬ (mk m).ok ∧ ∀ H', Same H H' → E (.ref u.move) none H'))
theorem okx_Deal___init__ {f : Addr} {fd : FuncData} (F : Fun K "__init__" "Deal.__init__" s_Deal___init__ f fd) (T : Txt K mg t) (Z : ExcTxt K mg u) (f_is_number : Fn1 P w K mg base 1 "is_number" spNum) : FnOk P w K mg base (CXe P w) 2 f fd ["self", "piles"] (spNumX t u .deal) := by
  refine F.okX sc_Deal___init__ (fun vs H Q E h => ?_) (fun cdv A outer s H vs Q E hr h Lv => ?_)
  · obtain ⟨p, dx, m, rfl, _⟩ := h
    rfl
  · obtain ⟨p, dx, m, rfl, hp, alt⟩ := h
    refine ⟨_, (pss_cons (ps_if (pt_not (pt_val (pe_fn f_is_number hr (by rfl) (pa_cons (pv 1) (pa_cons pe_int (pa_cons (pe_globI rfl T.mg_MOST_CARDS) pa_nil))))))
 (pss_one (ps_raise Lv rfl (by rfl) Z.mg_BadMove Z.c_BadMove.ex (pa_cons pe_str pa_nil)))
 pss_nil)
 (pss_one (ps_fld (pv 0) (pv 1) rfl))), ?_⟩
    refine ⟨_, rfl, _, _, _, rfl, _, rfl, ?_⟩
    rcases alt with ⟨ok, q⟩ | ⟨no, hE⟩
    · have ok' : 1 ≤ m ∧ m ≤ 60 := ok
      rw [show (decide ((1 : Int) ≤ (m : Int)) && decide ((m : Int) ≤ 60)) = true by simp; omega]
      refine iteF ?_
      refine ⟨_, rfl, _, rfl, _, _, _, _, rfl, hp, T.cl (.deal m), T.na_piles, (by decide), ?_⟩
      exact ⟨_, fun _ c => Gc.refl c, q⟩
    · have no' : ¬ (1 ≤ m ∧ m ≤ 60) := no
      rw [show (decide ((1 : Int) ≤ (m : Int)) && decide ((m : Int) ≤ 60)) = false by
        cases h : (decide ((1 : Int) ≤ (m : Int)) && decide ((m : Int) ≤ 60)) with
        | false => rfl
        | true => simp at h; omega]
      refine iteT ?_
      exact ⟨by decide, hE _ (Same.refl H)⟩
theorem okx_Weave___init__ {f : Addr} {fd : FuncData} (F : Fun K "__init__" "Weave.__init__" s_Weave___init__ f fd) (T : Txt K mg t) (Z : ExcTxt K mg u) (f_is_number : Fn1 P w K mg base 1 "is_number" spNum) : FnOk P w K mg base (CXe P w) 2 f fd ["self", "first"] (spNumX t u .weave) := by
  refine F.okX sc_Weave___init__ (fun vs H Q E h => ?_) (fun cdv A outer s H vs Q E hr h Lv => ?_)
  · obtain ⟨p, dx, m, rfl, _⟩ := h
    rfl
  · obtain ⟨p, dx, m, rfl, hp, alt⟩ := h
    refine ⟨_, (pss_cons (ps_if (pt_not (pt_val (pe_fn f_is_number hr (by rfl) (pa_cons (pv 1) (pa_cons pe_int (pa_cons pe_int pa_nil))))))
 (pss_one (ps_raise Lv rfl (by rfl) Z.mg_BadMove Z.c_BadMove.ex (pa_cons pe_str pa_nil)))
 pss_nil)
 (pss_one (ps_fld (pv 0) (pv 1) rfl))), ?_⟩
    refine ⟨_, rfl, _, _, _, rfl, _, rfl, ?_⟩
    rcases alt with ⟨ok, q⟩ | ⟨no, hE⟩
    · have ok' : m ≤ 1 := ok
      rw [show (decide ((0 : Int) ≤ (m : Int)) && decide ((m : Int) ≤ 1)) = true by simp; omega]
      refine iteF ?_
      refine ⟨_, rfl, _, rfl, _, _, _, _, rfl, hp, T.cl (.weave m), T.na_first, (by decide), ?_⟩
      exact ⟨_, fun _ c => Gc.refl c, q⟩
    · have no' : ¬ m ≤ 1 := no
      rw [show (decide ((0 : Int) ≤ (m : Int)) && decide ((m : Int) ≤ 1)) = false by
        cases h : (decide ((0 : Int) ≤ (m : Int)) && decide ((m : Int) ≤ 1)) with
        | false => rfl
        | true => simp at h; omega]
      refine iteT ?_
      exact ⟨by decide, hE _ (Same.refl H)⟩
def spRifX (t : Adr) (u : XA) : Sp := fun vs H Q E => ∃ (p dx : Addr) (z : Str), vs = [.ref p, .str z] ∧ H p = some (.ins t.riffle dx []) ∧ z.length ≤ 10000 ∧
  ((∃ w, z = wordOf w ∧ (Mv.riffle w).ok ∧ Q .non (upd H p (.ins t.riffle dx (Mv.flds (.riffle w))))) ∨ ((∀ w, (Mv.riffle w).ok → z ≠ wordOf w) ∧ ∀ H', Same H H' → E (.ref u.move) none H'))
theorem okx_Riffle___init__ {f : Addr} {fd : FuncData} (F : Fun K "__init__" "Riffle.__init__" s_Riffle___init__ f fd) (T : Txt K mg t) (Z : ExcTxt K mg u) (f_is_word : Fn1 P w K mg base 2 "is_word" spWordG) : FnOk P w K mg base (CXe P w) 3 f fd ["self", "word"] (spRifX t u) := by
  refine F.okX sc_Riffle___init__ (fun vs H Q E h => ?_) (fun cdv A outer s H vs Q E hr h Lv => ?_)
  · obtain ⟨p, dx, z, rfl, _⟩ := h
    rfl
  · obtain ⟨p, dx, z, rfl, hp, hz, alt⟩ := h
    refine ⟨_, (pss_cons (ps_if (pt_not (pt_val (pe_fn f_is_word hr (by rfl) (pa_cons (pv 1) pa_nil))))
 (pss_one (ps_raise Lv rfl (by rfl) Z.mg_BadMove Z.c_BadMove.ex (pa_cons pe_str pa_nil)))
 pss_nil)
 (pss_one (ps_fld (pv 0) (pv 1) rfl))), ?_⟩
    refine ⟨_, rfl, z, rfl, hz, fun b hb => ⟨_, rfl, ?_⟩⟩
    rcases alt with ⟨w, rfl, ok, q⟩ | ⟨no, hE⟩
    · rw [hb.mpr ⟨w, rfl, ok.1, ok.2⟩]
      refine iteF ?_
      refine ⟨_, rfl, _, rfl, _, _, _, _, rfl, hp, T.cl (.riffle w), T.na_word, (by decide), ?_⟩
      exact ⟨_, fun _ c => Gc.refl c, q⟩
    · have hf : b = false := by
        cases b with
        | false => rfl
        | true =>
          obtain ⟨w, e, h1, h2⟩ := hb.mp rfl
          exact absurd e (no w ⟨h1, h2⟩)
      rw [hf]
      refine iteT ?_
      exact ⟨by decide, hE _ (Same.refl H)⟩
def spNumRead (u : XA) : Sp := fun vs H Q E => ∃ z : Str, vs = [.str z] ∧ ((∃ m, m ≤ 60 ∧ z = numText m ∧ Q (.int (m : Int)) H) ∨ ((∀ m, m ≤ 60 → z ≠ numText m) ∧ ∀ H', Same H H' → E (.ref u.text) none H'))
theorem okx_number_read {f : Addr} {fd : FuncData} (F : Fun K "number_read" "number_read" s_number_read f fd) (T : Txt K mg t) (Z : ExcTxt K mg u) : FnOk P w K mg base (CXe P w) 1 f fd ["figures"] (spNumRead u) := by
  refine F.okX sc_number_read (fun vs H Q E h => ?_) (fun cdv A outer s H vs Q E hr h Lv => ?_)
  · obtain ⟨z, rfl, _⟩ := h
    rfl
  · obtain ⟨z, rfl, alt⟩ := h
    have nd := sc_number_read.nd
    refine ⟨_, (pss_cons (ps_for PassesOwn.leaving rfl (pi_rng (pe_callTy call_rng1 (by rfl) T.no_range (show bootBuiltins "range" = some (.type "range") by decide +kernel) (pa_cons (pe_op op_add (pe_globI rfl T.mg_MOST_CARDS) pe_int) pa_nil))) (pg_name (i := 1) nd rfl (Or.inl rfl))
 (pss_one (ps_if (pt_cmpR op_eq (pe_callTy call_str_int (by rfl) T.no_str (show bootBuiltins "str" = some (.type "str") by decide +kernel) (pa_cons (pv 1) pa_nil)) (pv 0) (nomark _))
 (pss_one (ps_ret (pv 1)))
 pss_nil)))
 (pss_one (ps_raise Lv rfl (by rfl) Z.mg_BadText Z.c_BadText.ex (pa_cons pe_str pa_nil)))), ?_⟩
    refine ⟨_, _, rfl, rfl, _, rfl, fun r8 h8 => ?_⟩
    refine ⟨_, _, _, _, _, rfl, upd_same, rng_small (by decide) (by decide) (by decide) (by decide), rng_up, ?_⟩
    rw [show ((60 : Int) + 1 - 0).toNat = 61 by decide]
    have se := (Same.refl H).new (o := rngO r8 0 (60 + 1) 1) h8
    refine for_range3 (fun i σ H' => H' = upd H r8 (rngO r8 0 (60 + 1) 1) ∧ (∃ b, σ = [some (.str z), b]) ∧ ∀ j, j < i → z ≠ numText j) ⟨rfl, ⟨none, rfl⟩, fun j hj => absurd hj (Nat.not_lt_zero _)⟩ ?_ ?_
    · rintro i σ H1 hi ⟨rfl, ⟨b, rfl⟩, hn⟩
      have eV : (0 : Int) + (i : Int) * 1 = (i : Int) := by omega
      rw [eV]
      refine ⟨_, rfl, _, rfl, log_small (by omega), _, rfl, rfl, _, rfl, ?_⟩
      refine ite2 (fun hc => ?_) fun hc => ?_
      · have e : numText i = z := by
          have := of_decide_eq_true hc
          injection this
        refine ⟨_, rfl, ?_⟩
        rcases alt with ⟨m, hm, e2, q⟩ | ⟨no, _⟩
        · have : i = m := num_inj (by omega) (by omega) (by rw [e, e2])
          subst this
          exact end_same se q
        · exact absurd e.symm (no i (by omega))
      · refine ⟨rfl, ⟨_, rfl⟩, fun j hj => ?_⟩
        by_cases hji : j = i
        · intro e
          apply hc
          rw [e, hji]
          exact decide_eq_true rfl
        · exact hn j (by omega)
    · rintro σ H1 ⟨rfl, ⟨b, rfl⟩, hn⟩
      rcases alt with ⟨m, hm, e2, q⟩ | ⟨no, hE⟩
      · exact absurd e2 (hn m (by omega))
      · exact ⟨by decide, hE _ se⟩
end
end Rf

set_option Elab.async false
set_option linter.all false
set_option maxRecDepth 100000
set_option maxHeartbeats 1000000
namespace Rf
open PySem L2
theorem nm_ne : ∀ a b : Srt, a ≠ b → decide (V.str a.name = V.str b.name) = false := by
  intro a b h
  rw [decide_eq_false_iff_not]
  intro e
  injection e with e
  cases a <;> cases b <;> first | exact absurd rfl h | exact absurd e (by decide +kernel)
theorem nm_eq (a : Srt) : decide (V.str a.name = V.str a.name) = true := decide_eq_true rfl
theorem st_ne {x y : Str} (h : x ≠ y) : decide (V.str x = V.str y) = false := by
  rw [decide_eq_false_iff_not]
  intro e
  injection e with e
  exact h e
theorem mk_same {H : Hp} {x dx : Addr} {o : HO} (nx : H x = none) (ndx : H dx = none) (ne : dx ≠ x) : Same H (upd (upd H dx (.own x)) x o) :=
  ((Same.refl H).new ndx).new (by rw [upd_ne (Ne.symm ne)]; exact nx)
theorem part_len (x : Str) : (Txt.partition x blk).2.2.length ≤ x.length := by
  rcases part_blank x with ⟨_, h⟩ | ⟨a, b, e, _, h⟩
  · rw [h]
    exact Nat.zero_le _
  · rw [h, e, str_app_len]
    exact Nat.le_add_left _ _
theorem part_cases (x : Str) : ∃ a b c : Str, Txt.partition x blk = (a, b, c) ∧ c.length ≤ x.length ∧ ((c = Str.empty ∧ b = Str.empty ∧ 32 ∉ tl a) ∨ (b = blk ∧ x = a ++ blk ++ c)) := by
  have hl := part_len x
  rcases part_blank x with ⟨h0, h⟩ | ⟨a, b, e, _, h⟩
  · rw [h] at hl
    exact ⟨_, _, _, h, hl, .inl ⟨rfl, rfl, h0⟩⟩
  · rw [h] at hl
    exact ⟨_, _, _, h, hl, .inr ⟨rfl, e⟩⟩
theorem num_ne {m : Nat} (h : m < 100) : numText m ≠ Str.empty := fun e => by
  have := (num_len2 h).1
  rw [e] at this
  exact absurd this (by decide)
section
variable {P : Program} {w : World} {K : PySem.W.Frag} {mg : Str → Option Value} {base : Heap} {t : Adr} {u : XA}
def spMadeX (t : Adr) (u : XA) : Sp := fun vs H Q E => ∃ x : Str, vs = [.str x] ∧ x.length ≤ 10000 ∧ ((∃ mv, Wr x mv ∧ ∀ p H', Same H H' → IsMv t H' p mv → Q (.ref p) H') ∨
  ((∀ mv, ¬ Wr x mv) ∧ ∀ cls H', (cls = .ref u.move ∨ cls = .ref u.text) → Same H H' → E cls none H'))
theorem okx_move_made {f : Addr} {fd : FuncData} (F : Fun K "move_made" "move_made" s_move_made f fd) (T : Txt K mg t) (Z : ExcTxt K mg u) (x_number_read : FnX P w K mg base 1 "number_read" (spNumRead u)) (k_Cut : Mk1 P w K mg base 3 "Cut" t.cut (spInit1 t vCut isCut)) (k_Turn : Mk1 P w K mg base 3 "Turn" t.turn (spInit0 t .turn)) (k_Under : Mk1 P w K mg base 3 "Under" t.under (spInit0 t .under)) (y_Deal : MkX P w K mg base 3 "Deal" t.deal (spNumX t u .deal)) (y_Weave : MkX P w K mg base 3 "Weave" t.weave (spNumX t u .weave)) (y_Riffle : MkX P w K mg base 3 "Riffle" t.riffle (spRifX t u)) : FnOk P w K mg base (CXe P w) 5 f fd ["part"] (spMadeX t u) := by
  refine F.okX sc_move_made (fun vs H Q E h => ?_) (fun cdv A outer s H vs Q E hr h Lv => ?_)
  · obtain ⟨x, rfl, _⟩ := h
    rfl
  · obtain ⟨x, rfl, hx, alt⟩ := h
    have nd := sc_move_made.nd
    have hz : x.length ≤ sizeLine := Nat.le_trans hx (by decide)
    refine ⟨_, (pss_cons (ps_if (pt_cmpR op_eq (pv 0) pe_str (nomark _))
 (pss_one (ps_ret (pe_mk0 k_Turn hr (by rfl))))
 pss_nil)
 (pss_cons (ps_if (pt_cmpR op_eq (pv 0) pe_str (nomark _))
 (pss_one (ps_ret (pe_mk0 k_Under hr (by rfl))))
 pss_nil)
 (pss_cons (ps_set (i := 1) nd rfl (Or.inl rfl) (pe_bm PySem.F.plainAttrs_str PySem.F.slot_str_partition PySem.F.type_str_partition mt_partition (pv 0) (pa_cons pe_str pa_nil)))
 (pss_cons (ps_if (pt_cmpR op_eq (pe_ix ix_tup (pv 1) pe_int (fun _ _ => rfl)) pe_str (nomark _))
 (pss_one (ps_ret (pe_mk k_Cut hr (by rfl) (pa_cons (pe_fnx (Lv.pass fun _ _ _ h => h) x_number_read hr (by rfl) (pa_cons (pe_ix ix_tup (pv 1) pe_int (fun _ _ => rfl)) pa_nil)) pa_nil))))
 pss_nil)
 (pss_cons (ps_if (pt_cmpR op_eq (pe_ix ix_tup (pv 1) pe_int (fun _ _ => rfl)) pe_str (nomark _))
 (pss_one (ps_ret (pe_mkx (Lv.pass fun _ _ _ h => h) y_Deal hr (by rfl) (pa_cons (pe_fnx (Lv.pass fun _ _ _ h => h) x_number_read hr (by rfl) (pa_cons (pe_ix ix_tup (pv 1) pe_int (fun _ _ => rfl)) pa_nil)) pa_nil))))
 pss_nil)
 (pss_cons (ps_if (pt_cmpR op_eq (pe_ix ix_tup (pv 1) pe_int (fun _ _ => rfl)) pe_str (nomark _))
 (pss_one (ps_ret (pe_mkx (Lv.pass fun _ _ _ h => h) y_Weave hr (by rfl) (pa_cons (pe_fnx (Lv.pass fun _ _ _ h => h) x_number_read hr (by rfl) (pa_cons (pe_ix ix_tup (pv 1) pe_int (fun _ _ => rfl)) pa_nil)) pa_nil))))
 pss_nil)
 (pss_cons (ps_if (pt_cmpR op_eq (pe_ix ix_tup (pv 1) pe_int (fun _ _ => rfl)) pe_str (nomark _))
 (pss_one (ps_ret (pe_mkx (Lv.pass fun _ _ _ h => h) y_Riffle hr (by rfl) (pa_cons (pe_ix ix_tup (pv 1) pe_int (fun _ _ => rfl)) pa_nil))))
 pss_nil)
 (pss_one (ps_raise Lv rfl (by rfl) Z.mg_BadText Z.c_BadText.ex (pa_cons pe_str pa_nil)))))))))), ?_⟩
    refine ⟨_, rfl, rfl, _, rfl, ?_⟩
    rcases alt with ⟨mv, ⟨ok, rfl⟩, q⟩ | ⟨no, hE⟩
    · cases mv with
      | turn =>
        rw [show decide (V.str (mvText .turn) = V.str (Str.ofString "turn")) = true from decide_eq_true rfl]
        refine iteT ?_
        intro p dx np ndx ne
        exact ⟨p, dx, rfl, upd_same, rfl, _, fun _ c => Gc.refl c, q p _ (mk_same np ndx ne) ⟨dx, upd_same⟩⟩
      | under =>
        rw [show decide (V.str (mvText .under) = V.str (Str.ofString "turn")) = false from st_ne (by decide +kernel)]
        refine iteF ?_
        refine ⟨_, rfl, rfl, _, rfl, ?_⟩
        rw [show decide (V.str (mvText .under) = V.str (Str.ofString "under")) = true from decide_eq_true rfl]
        refine iteT ?_
        intro p dx np ndx ne
        exact ⟨p, dx, rfl, upd_same, rfl, _, fun _ c => Gc.refl c, q p _ (mk_same np ndx ne) ⟨dx, upd_same⟩⟩
      | cut m =>
        rw [show mvText (.cut m) = Srt.cut.name ++ blk ++ numText m from rfl] at hz ⊢
        rw [st_ne (Srt.cut.ne (numText m)).1]
        refine iteF ?_
        refine ⟨_, rfl, rfl, _, rfl, ?_⟩
        rw [st_ne (Srt.cut.ne (numText m)).2]
        refine iteF ?_
        refine ⟨_, rfl, rfl, _, rfl, rfl, hz, fun l hl => ?_⟩
        rw [Srt.cut.part]
        have se := (Same.refl H).new (o := .tup [.str Srt.cut.name, .str blk, .str (numText m)]) hl
        refine ⟨_, rfl, _, _, _, _, rfl, rfl, SqT.of upd_same, rfl, rfl, _, rfl, ?_⟩
        rw [show decide (V.str Srt.cut.name = V.str (Str.ofString "cut")) = true from nm_eq .cut]
        refine iteT ?_
        refine ⟨_, rfl, _, _, _, _, rfl, rfl, SqT.of upd_same, rfl, numText m, rfl, .inl ⟨m, ok, rfl, fun p dx np ndx ne => ?_⟩⟩
        refine ⟨p, dx, .cut m, trivial, rfl, ok, upd_same, rfl, ?_⟩
        rw [upd_upd]
        exact ⟨_, fun _ c => Gc.refl c, q p _ (se.trans (mk_same np ndx ne)) ⟨dx, upd_same⟩⟩
      | deal m =>
        rw [show mvText (.deal m) = Srt.deal.name ++ blk ++ numText m from rfl] at hz ⊢
        rw [st_ne (Srt.deal.ne (numText m)).1]
        refine iteF ?_
        refine ⟨_, rfl, rfl, _, rfl, ?_⟩
        rw [st_ne (Srt.deal.ne (numText m)).2]
        refine iteF ?_
        refine ⟨_, rfl, rfl, _, rfl, rfl, hz, fun l hl => ?_⟩
        rw [Srt.deal.part]
        have se := (Same.refl H).new (o := .tup [.str Srt.deal.name, .str blk, .str (numText m)]) hl
        refine ⟨_, rfl, _, _, _, _, rfl, rfl, SqT.of upd_same, rfl, rfl, _, rfl, ?_⟩
        rw [show decide (V.str Srt.deal.name = V.str (Str.ofString "cut")) = false from nm_ne .deal .cut (fun z => by cases z)]
        refine iteF ?_
        refine ⟨_, rfl, _, _, _, _, rfl, rfl, SqT.of upd_same, rfl, rfl, _, rfl, ?_⟩
        rw [show decide (V.str Srt.deal.name = V.str (Str.ofString "deal")) = true from nm_eq .deal]
        refine iteT ?_
        refine ⟨_, rfl, _, _, _, _, rfl, rfl, SqT.of upd_same, rfl, numText m, rfl, .inl ⟨m, ok.2, rfl, fun p dx np ndx ne => ?_⟩⟩
        refine ⟨p, dx, m, rfl, upd_same, .inl ⟨ok, rfl, ?_⟩⟩
        rw [upd_upd]
        exact ⟨_, fun _ c => Gc.refl c, q p _ (se.trans (mk_same np ndx ne)) ⟨dx, upd_same⟩⟩
      | weave m =>
        rw [show mvText (.weave m) = Srt.weave.name ++ blk ++ numText m from rfl] at hz ⊢
        rw [st_ne (Srt.weave.ne (numText m)).1]
        refine iteF ?_
        refine ⟨_, rfl, rfl, _, rfl, ?_⟩
        rw [st_ne (Srt.weave.ne (numText m)).2]
        refine iteF ?_
        refine ⟨_, rfl, rfl, _, rfl, rfl, hz, fun l hl => ?_⟩
        rw [Srt.weave.part]
        have se := (Same.refl H).new (o := .tup [.str Srt.weave.name, .str blk, .str (numText m)]) hl
        refine ⟨_, rfl, _, _, _, _, rfl, rfl, SqT.of upd_same, rfl, rfl, _, rfl, ?_⟩
        rw [show decide (V.str Srt.weave.name = V.str (Str.ofString "cut")) = false from nm_ne .weave .cut (fun z => by cases z)]
        refine iteF ?_
        refine ⟨_, rfl, _, _, _, _, rfl, rfl, SqT.of upd_same, rfl, rfl, _, rfl, ?_⟩
        rw [show decide (V.str Srt.weave.name = V.str (Str.ofString "deal")) = false from nm_ne .weave .deal (fun z => by cases z)]
        refine iteF ?_
        refine ⟨_, rfl, _, _, _, _, rfl, rfl, SqT.of upd_same, rfl, rfl, _, rfl, ?_⟩
        rw [show decide (V.str Srt.weave.name = V.str (Str.ofString "weave")) = true from nm_eq .weave]
        refine iteT ?_
        refine ⟨_, rfl, _, _, _, _, rfl, rfl, SqT.of upd_same, rfl, numText m, rfl, .inl ⟨m, Nat.le_trans ok (by decide), rfl, fun p dx np ndx ne => ?_⟩⟩
        refine ⟨p, dx, m, rfl, upd_same, .inl ⟨ok, rfl, ?_⟩⟩
        rw [upd_upd]
        exact ⟨_, fun _ c => Gc.refl c, q p _ (se.trans (mk_same np ndx ne)) ⟨dx, upd_same⟩⟩
      | riffle wd =>
        have hlw : (wordOf wd).length ≤ 10000 := by rw [word_len]; exact Nat.le_trans ok.2 (by decide)
        rw [show mvText (.riffle wd) = Srt.riffle.name ++ blk ++ wordOf wd from rfl] at hz ⊢
        rw [st_ne (Srt.riffle.ne (wordOf wd)).1]
        refine iteF ?_
        refine ⟨_, rfl, rfl, _, rfl, ?_⟩
        rw [st_ne (Srt.riffle.ne (wordOf wd)).2]
        refine iteF ?_
        refine ⟨_, rfl, rfl, _, rfl, rfl, hz, fun l hl => ?_⟩
        rw [Srt.riffle.part]
        have se := (Same.refl H).new (o := .tup [.str Srt.riffle.name, .str blk, .str (wordOf wd)]) hl
        refine ⟨_, rfl, _, _, _, _, rfl, rfl, SqT.of upd_same, rfl, rfl, _, rfl, ?_⟩
        rw [show decide (V.str Srt.riffle.name = V.str (Str.ofString "cut")) = false from nm_ne .riffle .cut (fun z => by cases z)]
        refine iteF ?_
        refine ⟨_, rfl, _, _, _, _, rfl, rfl, SqT.of upd_same, rfl, rfl, _, rfl, ?_⟩
        rw [show decide (V.str Srt.riffle.name = V.str (Str.ofString "deal")) = false from nm_ne .riffle .deal (fun z => by cases z)]
        refine iteF ?_
        refine ⟨_, rfl, _, _, _, _, rfl, rfl, SqT.of upd_same, rfl, rfl, _, rfl, ?_⟩
        rw [show decide (V.str Srt.riffle.name = V.str (Str.ofString "weave")) = false from nm_ne .riffle .weave (fun z => by cases z)]
        refine iteF ?_
        refine ⟨_, rfl, _, _, _, _, rfl, rfl, SqT.of upd_same, rfl, rfl, _, rfl, ?_⟩
        rw [show decide (V.str Srt.riffle.name = V.str (Str.ofString "riffle")) = true from nm_eq .riffle]
        refine iteT ?_
        refine ⟨_, rfl, _, _, _, _, rfl, rfl, SqT.of upd_same, rfl, fun p dx np ndx ne => ?_⟩
        refine ⟨p, dx, wordOf wd, rfl, upd_same, hlw, .inl ⟨wd, rfl, ok, rfl, ?_⟩⟩
        rw [upd_upd]
        exact ⟨_, fun _ c => Gc.refl c, q p _ (se.trans (mk_same np ndx ne)) ⟨dx, upd_same⟩⟩
    · rw [st_ne (y := Str.ofString "turn") fun e => no .turn ⟨trivial, e.symm⟩]
      refine iteF ?_
      refine ⟨_, rfl, rfl, _, rfl, ?_⟩
      rw [st_ne (y := Str.ofString "under") fun e => no .under ⟨trivial, e.symm⟩]
      refine iteF ?_
      refine ⟨_, rfl, rfl, _, rfl, rfl, hz, fun l hl => ?_⟩
      obtain ⟨a, b, c, hp, hcl, fct⟩ := part_cases x
      rw [hp]
      have se := (Same.refl H).new (o := .tup [.str a, .str b, .str c]) hl
      have num : ∀ s : Srt, a = s.name → ∀ m, m ≤ 60 → c = numText m → x = s.name ++ blk ++ numText m := fun s e m hm ec => by
        rcases fct with ⟨z, _⟩ | ⟨_, z⟩
        · exact absurd (ec.symm.trans z) (num_ne (by omega))
        · rw [z, e, ec]
      refine ⟨_, rfl, _, _, _, _, rfl, rfl, SqT.of upd_same, rfl, rfl, _, rfl, ?_⟩
      refine ite2 (fun h1 => ?_) fun h1 => ?_
      · have ea : a = Srt.cut.name := by
          have := of_decide_eq_true h1
          injection this
        refine ⟨_, rfl, _, _, _, _, rfl, rfl, SqT.of upd_same, rfl, c, rfl, .inr ⟨fun m hm ec => ?_, fun H' s' => hE _ _ (.inr rfl) (se.trans s')⟩⟩
        exact no (.cut m) ⟨hm, (num .cut ea m hm ec).symm⟩
      refine ⟨_, rfl, _, _, _, _, rfl, rfl, SqT.of upd_same, rfl, rfl, _, rfl, ?_⟩
      refine ite2 (fun h2 => ?_) fun h2 => ?_
      · have ea : a = Srt.deal.name := by
          have := of_decide_eq_true h2
          injection this
        refine ⟨_, rfl, _, _, _, _, rfl, rfl, SqT.of upd_same, rfl, c, rfl, ?_⟩
        by_cases hc : ∃ m, m ≤ 60 ∧ c = numText m
        · obtain ⟨m, hm, ec⟩ := hc
          refine .inl ⟨m, hm, ec, fun p dx np ndx ne => ?_⟩
          exact ⟨p, dx, m, rfl, upd_same, .inr ⟨fun ok => no (.deal m) ⟨ok, (num .deal ea m hm ec).symm⟩, fun H' s' => hE _ _ (.inl rfl) (se.trans ((mk_same np ndx ne).trans s'))⟩⟩
        · exact .inr ⟨fun m hm ec => hc ⟨m, hm, ec⟩, fun H' s' => hE _ _ (.inr rfl) (se.trans s')⟩
      refine ⟨_, rfl, _, _, _, _, rfl, rfl, SqT.of upd_same, rfl, rfl, _, rfl, ?_⟩
      refine ite2 (fun h3 => ?_) fun h3 => ?_
      · have ea : a = Srt.weave.name := by
          have := of_decide_eq_true h3
          injection this
        refine ⟨_, rfl, _, _, _, _, rfl, rfl, SqT.of upd_same, rfl, c, rfl, ?_⟩
        by_cases hc : ∃ m, m ≤ 60 ∧ c = numText m
        · obtain ⟨m, hm, ec⟩ := hc
          refine .inl ⟨m, hm, ec, fun p dx np ndx ne => ?_⟩
          exact ⟨p, dx, m, rfl, upd_same, .inr ⟨fun ok => no (.weave m) ⟨ok, (num .weave ea m hm ec).symm⟩, fun H' s' => hE _ _ (.inl rfl) (se.trans ((mk_same np ndx ne).trans s'))⟩⟩
        · exact .inr ⟨fun m hm ec => hc ⟨m, hm, ec⟩, fun H' s' => hE _ _ (.inr rfl) (se.trans s')⟩
      refine ⟨_, rfl, _, _, _, _, rfl, rfl, SqT.of upd_same, rfl, rfl, _, rfl, ?_⟩
      refine ite2 (fun h4 => ?_) fun h4 => ?_
      · have ea : a = Srt.riffle.name := by
          have := of_decide_eq_true h4
          injection this
        refine ⟨_, rfl, _, _, _, _, rfl, rfl, SqT.of upd_same, rfl, fun p dx np ndx ne => ?_⟩
        refine ⟨p, dx, c, rfl, upd_same, Nat.le_trans hcl hx, .inr ⟨fun wd ok ec => ?_, fun H' s' => hE _ _ (.inl rfl) (se.trans ((mk_same np ndx ne).trans s'))⟩⟩
        rcases fct with ⟨z, _⟩ | ⟨_, z⟩
        · have h0 : (wordOf wd).length = 0 := by
            rw [← ec, z]
            rfl
          rw [word_len] at h0
          have := ok.1
          omega
        · exact no (.riffle wd) ⟨ok, by rw [riffle_text, z, ea, ec]; rfl⟩
      exact ⟨by decide, hE _ _ (.inr rfl) se⟩
def spReadP (t : Adr) (u : XA) : Sp := fun vs H Q E => ∃ x : Str, vs = [.str x] ∧ x.length ≤ 10000 ∧ ((∃ mv, Wr x mv ∧ ∀ p H', Same H H' → IsMv t H' p mv → Q (.ref p) H') ∨
  ((∀ mv, ¬ Wr x mv) ∧ ∀ d H', Same H H' → E (.ref u.text) d H'))
theorem okx_move_read {f : Addr} {fd : FuncData} (F : Fun K "move_read" "move_read" s_move_read f fd) (T : Txt K mg t) (Z : ExcTxt K mg u) (x_move_made : FnX P w K mg base 5 "move_made" (spMadeX t u)) : FnOk P w K mg base (CXe P w) 6 f fd ["part"] (spReadP t u) := by
  refine F.okX sc_move_read (fun vs H Q E h => ?_) (fun cdv A outer s H vs Q E hr h Lv => ?_)
  · obtain ⟨x, rfl, _⟩ := h
    rfl
  · obtain ⟨x, rfl, hx, alt⟩ := h
    refine ⟨_, pss_one (ps_tryFrom (Eh := fun cls d H' => (∀ mv, ¬ Wr x mv) ∧ (cls = .ref u.move ∨ cls = .ref u.text) ∧ d = none ∧ Same H H') Lv (by rfl) Z.mg_BadMove Z.c_BadMove (by rfl) Z.mg_BadText Z.c_BadText
      (fun pn xe hx => pss_one (ps_ret (pe_fnx hx x_move_made hr (by rfl) (pa_cons (pv 0) pa_nil))))), ?_⟩
    rcases alt with ⟨mv, wr, q⟩ | ⟨no, hE⟩
    · refine ⟨⟨_, rfl, x, rfl, hx, .inl ⟨mv, wr, fun p H' s' im => ⟨_, fun _ c => Gc.refl c, q p H' s' im⟩⟩⟩, ?_⟩
      rintro cls d H' ⟨no, _⟩
      exact absurd wr (no mv)
    · refine ⟨⟨_, rfl, x, rfl, hx, .inr ⟨no, fun cls H' hc s' => ⟨no, hc, rfl, s'⟩⟩⟩, ?_⟩
      rintro cls d H' ⟨_, hc, rfl, s'⟩
      rcases hc with rfl | rfl
      · exact ⟨u.move, rfl, .inl ⟨Z.move_move, rfl, fun y => hE _ _ s'⟩⟩
      · exact ⟨u.text, rfl, .inr ⟨Z.text_move, hE _ _ s'⟩⟩
def parts (x : Str) : List Str := if x = Str.empty then [] else Txt.split x sepS
def spRead (K : PySem.W.Frag) (t : Adr) (u : XA) : Sp := fun vs H Q E => (∃ v ty, vs = [v] ∧ TyOf K H v ty ∧ PySem.W.kitOne K ty (.type "str") = some false ∧ ∀ d H', Same H H' → E (.ref u.text) d H') ∨
  ∃ x : Str, vs = [.str x] ∧ x.length ≤ 10000 ∧ ((∃ mvs : List Mv, mvs.map mvText = parts x ∧ (∀ m ∈ mvs, m.ok) ∧
      ∀ l (ms : List (Addr × Mv)) H', Same H H' → H l = none → H' l = some (.lst (ms.map fun y => V.ref y.1)) → ms.map (·.2) = mvs → (∀ y ∈ ms, IsMv t H' y.1 y.2) → Q (.ref l) H') ∨
    ((∃ p ∈ parts x, ∀ mv, ¬ Wr p mv) ∧ ∀ d H', Same H H' → E (.ref u.text) d H'))
theorem split_len (x : Str) : (Txt.split x sepS).length ≤ x.length + 2 ∧ ∀ p ∈ Txt.split x sepS, p.length ≤ x.length := by
  have hn : (Builtin.Str.partsBetween x (Builtin.Str.occurrences x sepS 0 x.length (x.length + 1)) sepS.length).length ≤ x.length + 2 := by
    have h2 := StrLaws.occ_length_le x sepS 0 x.length (x.length + 1)
    unfold Builtin.Str.partsBetween
    rw [List.length_map, List.length_zip, List.length_cons, List.length_map, List.length_append]
    refine Nat.le_trans (Nat.min_le_left _ _) ?_
    omega
  unfold Txt.split
  split
  · exact ⟨by simp, fun p hp => by rw [List.mem_singleton.mp hp]; exact Nat.le_refl _⟩
  · split
    · exact ⟨by simp, fun p hp => by rw [List.mem_singleton.mp hp]; exact Nat.le_refl _⟩
    · refine ⟨hn, fun p hp => ?_⟩
      unfold Builtin.Str.partsBetween at hp
      obtain ⟨y, _, rfl⟩ := List.mem_map.mp hp
      exact PySem.strSub_length_le _ _ _
theorem okx_read {f : Addr} {fd : FuncData} (F : Fun K "read" "read" s_read f fd) (T : Txt K mg t) (Z : ExcTxt K mg u) (x_move_read : FnX P w K mg base 6 "move_read" (spReadP t u)) : FnOk P w K mg base (CXe P w) 7 f fd ["text"] (spRead K t u) := by
  refine F.okX sc_read (fun vs H Q E h => ?_) (fun cdv A outer s H vs Q E hr h Lv => ?_)
  · rcases h with ⟨v, ty, rfl, _⟩ | ⟨x, rfl, _⟩ <;> rfl
  · refine ⟨_, (pss_cons (ps_if (pt_not (pt_val (pe_callB call_isi (by rfl) T.no_isinstance (show bootBuiltins "isinstance" = some (.builtin "isinstance") by decide +kernel) (pa_cons (pv 0) (pa_cons (pe_bltn (v := .ty "str") rfl T.no_str (show bootBuiltins "str" = some (.type "str") by decide +kernel) rfl) pa_nil)))))
 (pss_one (ps_raise Lv rfl (by rfl) Z.mg_BadText Z.c_BadText.ex (pa_cons pe_str pa_nil)))
 pss_nil)
 (pss_cons (ps_if (pt_cmpR op_eq (pv 0) pe_str (nomark _))
 (pss_one (ps_ret (pe_lst pa_nil)))
 pss_nil)
 (pss_one (ps_ret (pe_lcX (ys := []) (js := []) Lv (fun _ _ _ h => h) rfl (pi_list (pe_bm PySem.F.plainAttrs_str PySem.F.slot_str_split PySem.F.type_str_split mt_split (pv 0) (pa_cons pe_str pa_nil))) rfl (by decide +kernel) (by decide +kernel) rfl rfl rfl (by decide +kernel) (fun _ _ _ _ _ hx => (pe_fnx hx x_move_read hr (by rfl) (pa_cons (pv 0) pa_nil)))))))), ?_⟩
    rcases h with ⟨v, ty, rfl, hty, hk, hE⟩ | ⟨x, rfl, hx, alt⟩
    · refine ⟨_, rfl, _, _, _, _, rfl, hty, .inl ⟨_, rfl⟩, hk, _, rfl, ?_⟩
      refine iteT ?_
      exact ⟨by decide, hE _ _ (Same.refl H)⟩
    · refine ⟨_, rfl, _, _, _, _, rfl, .str _, .inl ⟨_, rfl⟩, kit_str_str, _, rfl, ?_⟩
      refine iteF ?_
      refine ⟨_, rfl, rfl, _, rfl, ?_⟩
      by_cases h0 : x = Str.empty
      · subst h0
        rw [show decide (V.str Str.empty = V.str (Str.ofString "")) = true from decide_eq_true rfl]
        refine iteT ?_
        refine ⟨by decide, fun l hl => ?_⟩
        rcases alt with ⟨mvs, e, _, q⟩ | ⟨⟨p, hp, _⟩, _⟩
        · have : mvs = [] := by
            unfold parts at e
            rw [if_pos rfl] at e
            exact List.map_eq_nil_iff.mp e
          subst this
          exact ⟨_, fun _ c => Gc.refl c, q l [] _ ((Same.refl H).new hl) hl upd_same rfl fun y hy => by cases hy⟩
        · unfold parts at hp
          rw [if_pos rfl] at hp
          cases hp
      · rw [show decide (V.str x = V.str (Str.ofString "")) = false from st_ne h0]
        refine iteF ?_
        have ep : parts x = Txt.split x sepS := by unfold parts; rw [if_neg h0]
        rw [ep] at alt
        obtain ⟨sl1, sl2⟩ := split_len x
        refine ⟨_, rfl, rfl, _, rfl, rfl, Nat.le_trans hx (by decide), fun l hl => ?_⟩
        have se := (Same.refl H).new (o := .lst ((Txt.split x sepS).map V.str)) hl
        have hL : upd H l (.lst ((Txt.split x sepS).map V.str)) l = some (.lst ((Txt.split x sepS).map V.str)) := upd_same
        revert se hL
        generalize upd H l (.lst ((Txt.split x sepS).map V.str)) = H1
        intro se hL
        refine ⟨_, rfl, ⟨_, SqL.of hL⟩, ?_⟩
        generalize hps : Txt.split x sepS = ps at alt sl1 sl2 hL
        have cho : ∃ mvs : List Mv, mvs.length = ps.length ∧ (∀ (j : Nat) (p : Str) (mv : Mv), ps[j]? = some p → mvs[j]? = some mv → Wr p mv ∨ ((∀ m, ¬ Wr p m) ∧ ∀ d H', Same H H' → E (.ref u.text) d H')) ∧
            ((∀ (j : Nat) (p : Str) (mv : Mv), ps[j]? = some p → mvs[j]? = some mv → Wr p mv) → ∀ l (ms : List (Addr × Mv)) H', Same H H' → H l = none → H' l = some (.lst (ms.map fun y => V.ref y.1)) → ms.map (·.2) = mvs → (∀ y ∈ ms, IsMv t H' y.1 y.2) → Q (.ref l) H') := by
          rcases alt with ⟨mvs, e, ok, q⟩ | ⟨⟨p, hp, hb⟩, hE⟩
          · refine ⟨mvs, by rw [← e, List.length_map], fun j p mv h1 h2 => .inl ?_, fun _ => q⟩
            rw [← e, List.getElem?_map, h2] at h1
            cases h1
            exact ⟨ok mv (List.mem_of_getElem? h2), rfl⟩
          · refine ⟨ps.map fun p => open Classical in if h : ∃ mv, Wr p mv then h.choose else .turn, by rw [List.length_map], fun j p mv h1 h2 => ?_, fun all => ?_⟩
            · rw [List.getElem?_map, h1] at h2
              simp only [Option.map_some, Option.some.injEq] at h2
              by_cases h : ∃ mv, Wr p mv
              · rw [dif_pos h] at h2
                rw [← h2]
                exact .inl h.choose_spec
              · exact .inr ⟨fun m hm => h ⟨m, hm⟩, hE⟩
            · exfalso
              obtain ⟨j, hj⟩ := List.mem_iff_getElem?.mp hp
              exact hb _ (all j p _ hj (by rw [List.getElem?_map, hj]; rfl))
        obtain ⟨mvs, lm, hw, fin⟩ := cho
        refine lc_gen (K := K) (js := []) (xs := ps.map V.str) (fun i acc H' => ∃ ms : List (Addr × Mv), Same H1 H' ∧ acc = ms.map (fun y => V.ref y.1) ∧ ms.map (·.2) = mvs.take i ∧ (∀ y ∈ ms, IsMv t H' y.1 y.2) ∧ ∀ (j : Nat) (p : Str) (mv : Mv), j < i → ps[j]? = some p → mvs[j]? = some mv → Wr p mv)
          ⟨[], Same.refl _, rfl, rfl, (fun y hy => by cases hy), fun j p mv hj => absurd hj (Nat.not_lt_zero _)⟩ (by rw [List.length_map]; omega) (fun i acc H' z => by obtain ⟨ms, s1, _⟩ := z; exact SqL.of (s1 _ _ hL)) ?_ ?_
        · rintro i y acc H' R hy ⟨ms, s1, rfl, e2, im, ws⟩ hR
          rw [List.getElem?_map] at hy
          cases hpi : ps[i]? with
          | none => rw [hpi] at hy; simp at hy
          | some p =>
            rw [hpi] at hy
            simp at hy
            subst hy
            have hi : i < ps.length := (List.getElem?_eq_some_iff.mp hpi).1
            have hmi : mvs[i]? = some mvs[i] := List.getElem?_eq_getElem (by omega)
            have hpl : p.length ≤ 10000 := Nat.le_trans (sl2 p (List.mem_of_getElem? hpi)) hx
            refine ⟨_, rfl, p, rfl, hpl, ?_⟩
            rcases hw i p _ hpi hmi with wr | ⟨no, hE⟩
            · refine .inl ⟨mvs[i], wr, fun q H'' s2 imq => hR _ _ ⟨ms ++ [(q, mvs[i])], s1.trans s2, by simp, ?_, fun y hy => ?_, fun j p' mv hj h1 h2 => ?_⟩⟩
              · rw [List.map_append, e2, List.take_add_one, hmi]
                rfl
              · rcases List.mem_append.mp hy with z | z
                · obtain ⟨dx, h3⟩ := im y z
                  exact ⟨dx, s2 _ _ h3⟩
                · rw [List.mem_singleton.mp z]
                  exact imq
              · by_cases hji : j = i
                · subst hji
                  rw [hpi] at h1
                  rw [hmi] at h2
                  cases h1
                  cases h2
                  exact wr
                · exact ws j p' mv (by omega) h1 h2
            · exact .inr ⟨no, fun d H'' s2 => hE d H'' (se.trans (s1.trans s2))⟩
        · rintro acc H' ⟨ms, s1, rfl, e2, im, ws⟩ D hD
          rw [List.length_map, List.take_of_length_le (by omega)] at e2
          refine ⟨_, fun _ c => Gc.refl c, fin (fun j p mv h1 h2 => ws j p mv (by rw [List.length_map]; exact (List.getElem?_eq_some_iff.mp h1).1) h1 h2) D ms _ ((se.trans s1).new hD) ((se.trans s1).free hD) upd_same e2 fun y hy => ?_⟩
          obtain ⟨dx, h3⟩ := im y hy
          exact ⟨dx, by rw [upd_ne (ne_of_none h3 hD)]; exact h3⟩
end
end Rf

set_option Elab.async false
set_option linter.all false
set_option maxRecDepth 100000
set_option maxHeartbeats 1000000
namespace L2
open PySem
theorem pe_fn0 {X : Cx} {k j : Nat} {x : Str} {sp : Sp} {p pos : Pos} (F : Fn1 X.prog X.w X.K X.mg X.base k x sp) (hr : Room j X.A) (hg : Gl X x) (hk : k ≤ j := by decide) (hdb : (x == ("__debug__" : Str)) = false := by decide) : PE X (.Call (.Name x p) [] [] pos) (tCall sp [] E0 tNil) := by
  obtain ⟨f, fd, ps, G, hm, kp, b⟩ := F.ex
  exact pe_call0 G (hr.mono hk) hg hm kp b .nil pass0 hdb
def isStrs : List Expr → Option (List Str)
  | [] => some []
  | .Constant (.str z) _ _ :: r => (isStrs r).map (z :: ·)
  | _ => none
theorem pa_strs {X : Cx} : ∀ {es : List Expr} {zs : List Str}, isStrs es = some zs → PA X es (tK (zs.map V.str))
  | [], zs, h => by
    have e : zs = [] := by simpa [isStrs] using h.symm
    subst e
    exact pa_nil
  | .Constant (.str z) c p :: r, zs, h => by
    obtain ⟨ys, hr, e⟩ := Option.map_eq_some_iff.mp (show (isStrs r).map (z :: ·) = some zs from h)
    subst e
    intro pos pins s σ H Q I q
    exact pa_cons (X := X) pe_str (pa_strs hr) rfl pos pins s σ H Q I q
theorem pe_lstS {X : Cx} {es : List Expr} {zs : List Str} {pos : Pos} (h : isStrs es = some zs) : PE X (.List es pos) (tLst (tK (zs.map V.str))) := pe_lst (pa_strs h)
theorem call_isiXK {X : Cx} {K : PySem.W.Frag} (h : X.K = K) : CallR X (.builtin "isinstance") (fun xs H Q => ∃ e D c b, xs = [.ref e, c] ∧ H e = some (excO e (.ref D)) ∧ ExcCl K D ∧ ((∃ n, c = .ty n) ∨ ∃ a, c = .ref a) ∧ PySem.W.kitOne K (.ref D) (valOf c) = some b ∧ Q (.bl b) H) := by
  subst h
  exact call_isiX
theorem call_str_any {X : Cx} : CallR X (.type "str") (fun xs H Q => (∃ i, xs = [.int i] ∧ i.natAbs.log2 < 1920 ∧ Q (.str (toString i)) H) ∨ ∃ z, xs = [.str z] ∧ Q (.str z) H) := by
  intro pins s σ H xs us Q I r h
  rcases h with h | ⟨z, rfl, q⟩
  · exact call_str_int pins s σ H xs us Q I r h
  · obtain ⟨u, rfl, t, rfl⟩ := vals1 r
    exact PySem.P.str_of_str ⟨.str _, H, I, ⟨_, rfl⟩, q⟩
end L2
namespace Rf
open PySem L2
theorem dig_iff (d : Nat) : (Str.ofString "0123456789").cps.contains d = true ↔ 48 ≤ d ∧ d ≤ 57 := by
  rw [show (Str.ofString "0123456789").cps = #[48, 49, 50, 51, 52, 53, 54, 55, 56, 57] by decide +kernel]
  simp
  omega
theorem ab_iff (d : Nat) : (Str.ofString "ab").cps.contains d = true ↔ d = 97 ∨ d = 98 := by
  rw [show (Str.ofString "ab").cps = #[97, 98] by decide +kernel]
  simp
theorem fig_of {z : Str} (h0 : z ≠ Str.empty) (h2 : z.length ≤ 2) (hd : ∀ d ∈ tl z, 48 ≤ d ∧ d ≤ 57) (hn : ¬ ((tl z)[0]? = some 48 ∧ z ≠ Str.ofString "0")) : ∃ m, m < 100 ∧ z = numText m := by
  have key : ∃ m, m < 100 ∧ tl z = fig m := by
    rw [← tl_length] at h2
    generalize hl : tl z = l at h2 hd hn
    match l, h2 with
    | [], _ => exact absurd (str_ext (by rw [hl]; rfl)) h0
    | [c], _ =>
      have := hd c List.mem_cons_self
      exact ⟨c - 48, by omega, by unfold fig; rw [if_pos (by omega)]; congr 1; omega⟩
    | [c, d], _ =>
      have h1 := hd c List.mem_cons_self
      have h3 := hd d (List.mem_cons_of_mem _ List.mem_cons_self)
      have hc : c ≠ 48 := fun e => hn ⟨by rw [e]; rfl, fun e2 => by
        have := congrArg tl e2
        rw [hl] at this
        have h5 := congrArg List.length this
        rw [show (tl (Str.ofString "0")).length = 1 by decide +kernel] at h5
        cases h5⟩
      refine ⟨10 * (c - 48) + (d - 48), by omega, ?_⟩
      unfold fig
      rw [if_neg (by omega)]
      congr 1
      · omega
      · congr 1
        omega
  obtain ⟨m, hm, e⟩ := key
  exact ⟨m, hm, str_ext (by rw [e, num_fig m hm])⟩
theorem of_fig {m : Nat} (hm : m < 100) : numText m ≠ Str.empty ∧ (numText m).length ≤ 2 ∧ (∀ d ∈ tl (numText m), 48 ≤ d ∧ d ≤ 57) ∧ ¬ ((tl (numText m))[0]? = some 48 ∧ numText m ≠ Str.ofString "0") ∧ intText? (numText m) = some (m : Int) := by
  refine ⟨num_ne hm, (num_len2 hm).2, fun d hd => ?_, ?_, ?_⟩
  · rw [num_fig m hm] at hd
    exact fig_mem hm hd
  · rintro ⟨h1, h2⟩
    rw [num_fig m hm] at h1
    unfold fig at h1
    split at h1
    · have : m = 0 := by simpa using h1
      subst this
      exact h2 rfl
    · have : m / 10 = 0 := by simpa using h1
      omega
  · have := int_fig m hm
    rw [← num_fig m hm] at this
    exact this
section
variable {P : Program} {w : World} {K : PySem.W.Frag} {mg : Str → Option Value} {base : Heap} {t : Adr} {u : XA}
def spLNum : Sp := fun vs H Q _ => ∃ (z : Str) (lo hi : Nat), vs = [.str z, .int (lo : Int), .int (hi : Int)] ∧ z.length ≤ 10000 ∧ hi ≤ 60 ∧ ∀ b : Bool, (b = true ↔ ∃ m, lo ≤ m ∧ m ≤ hi ∧ z = numText m) → Q (.bl b) H
theorem ok__law_number {f : Addr} {fd : FuncData} (F : Fun K "_law_number" "_law_number" s__law_number f fd) (T : Txt K mg t) : FnOk P w K mg base CX0 1 f fd ["_law_text_here", "_law_low", "_law_high"] spLNum := by
  refine F.okG sc__law_number (fun vs H Q E h => ?_) (fun cdv A outer s H vs Q E hr h => ?_)
  · obtain ⟨z, lo, hi, rfl, _⟩ := h
    rfl
  · obtain ⟨z, lo, hi, rfl, hz, hh, q⟩ := h
    have hz' : z.length ≤ sizeLine := Nat.le_trans hz (by decide)
    have hF : (∀ m, m < 100 → z ≠ numText m) → Q (.bl false) H := fun no => q false ⟨(fun z => by cases z), fun ⟨m, _, hm, e⟩ => absurd e (no m (by omega))⟩
    refine ⟨_, (pss_cons (ps_if (PW.pt (pw_or (pt_cmpR op_eq (pv 0) pe_str (nomark _)) (pw_or (pt_cmpR op_gt (pe_callB call_len_str (by rfl) T.no_len (show bootBuiltins "len" = some (.builtin "len") by decide +kernel) (pa_cons (pv 0) pa_nil)) pe_int (nomark _)) (pw_or (pt_cmpR op_ne (pe_bm PySem.F.plainAttrs_str PySem.F.slot_str_strip PySem.F.type_str_strip mt_strip (pv 0) (pa_cons pe_str pa_nil)) pe_str (nomark _)) (pw_or1 (PW.pt (pw_and (pt_cmpR op_eq (pe_ix ix_str (pv 0) pe_int (fun _ _ => rfl)) pe_str (nomark _)) (pw_and1 (pt_cmpR op_ne (pv 0) pe_str (nomark _))))))))))
 (pss_one (ps_ret pe_bl))
 pss_nil)
 (pss_one (ps_ret (pe_chain op_le op_le (pv 1) (pe_callTy call_int_str (by rfl) T.no_int (show bootBuiltins "int" = some (.type "int") by decide +kernel) (pa_cons (pv 0) pa_nil)) (pv 2))))), ?_⟩
    refine ⟨_, rfl, rfl, _, rfl, ?_⟩
    refine ite2 (fun c1 => ?_) fun c1 => ?_
    · have e1 : z = Str.ofString "" := by
        have := of_decide_eq_true c1
        injection this
      refine iteT ?_
      exact end_same (Same.refl H) (hF fun m hm e => (of_fig hm).1 (by rw [← e]; exact e1))
    have n1 : z ≠ Str.empty := fun e => c1 (by rw [e]; exact decide_eq_true rfl)
    refine ⟨_, rfl, _, rfl, hz', _, _, rfl, rfl, _, rfl, ?_⟩
    refine ite2 (fun c2 => ?_) fun c2 => ?_
    · have e2 := of_decide_eq_true c2
      refine iteT ?_
      exact end_same (Same.refl H) (hF fun m hm e => by have := (of_fig hm).2.1; rw [← e] at this; omega)
    have n2 : z.length ≤ 2 := by
      have : ¬ (2 : Int) < (z.length : Int) := fun h => c2 (decide_eq_true h)
      omega
    refine ⟨_, rfl, rfl, _, _, rfl, rfl, hz', rfl, _, rfl, ?_⟩
    by_cases h3 : ∀ d ∈ tl z, (Str.ofString "0123456789").cps.contains d = true
    · rw [(strip_empty z (Str.ofString "0123456789")).mpr h3]
      rw [show (!decide (V.str Str.empty = V.str (Str.ofString ""))) = false by rw [decide_eq_true (show V.str Str.empty = V.str (Str.ofString "") from rfl)]; rfl]
      refine iteF ?_
      have n3 : ∀ d ∈ tl z, 48 ≤ d ∧ d ≤ 57 := fun d hd => (dig_iff d).mp (h3 d hd)
      have hc0 : ∃ c0, (tl z)[0]? = some c0 := by
        cases hl : tl z with
        | nil => exact absurd (str_ext (by rw [hl]; rfl)) n1
        | cons c r => exact ⟨c, rfl⟩
      obtain ⟨c0, h0⟩ := hc0
      refine ⟨_, rfl, _, _, c0, rfl, rfl, hz', atI_nat (j := 0) h0, rfl, _, rfl, ?_⟩
      have fin : ¬ (c0 = 48 ∧ z ≠ Str.ofString "0") → ∃ m, m < 100 ∧ z = numText m := fun h => fig_of n1 n2 n3 fun ⟨e1, e2⟩ => h ⟨by rw [h0] at e1; injection e1, e2⟩
      have e48 : decide (V.str (⟨#[c0]⟩ : Str) = V.str (Str.ofString "0")) = decide (c0 = 48) := by
        rw [Bool.eq_iff_iff, decide_eq_true_iff, decide_eq_true_iff]
        constructor
        · intro e
          injection e with e
          have := congrArg tl e
          have e' : [c0] = [48] := this
          injection e'
        · intro e
          rw [e]
          rfl
      rw [e48]
      refine ite2 (fun c3 => ?_) fun c3 => ?_
      · have c3' := of_decide_eq_true c3
        refine ⟨_, rfl, rfl, _, rfl, ?_⟩
        by_cases h4 : z = Str.ofString "0"
        · rw [show (!decide (V.str z = V.str (Str.ofString "0"))) = false by rw [h4, decide_eq_true rfl]; rfl]
          refine iteF ?_
          obtain ⟨m, hm, e⟩ := fin fun h => h.2 h4
          refine ⟨_, rfl, _, rfl, _, _, rfl, by rw [e]; exact (of_fig hm).2.2.2.2, by omega, _, _, rfl, rfl, _, rfl, ?_⟩
          refine ite2 (fun c5 => ?_) fun c5 => ?_
          · refine ⟨_, rfl, _, _, rfl, rfl, ?_⟩
            refine end_same (Same.refl H) (q _ ?_)
            have c5' := of_decide_eq_true c5
            rw [decide_eq_true_iff]
            exact ⟨fun h => ⟨m, by omega, by omega, e⟩, fun ⟨m', h1, h2, e'⟩ => by have := num_inj hm (by omega) (e.symm.trans e'); omega⟩
          · refine end_same (Same.refl H) (q false ⟨(fun z => by cases z), fun ⟨m', h1, h2, e'⟩ => ?_⟩)
            have := num_inj hm (by omega) (e.symm.trans e')
            exact absurd (decide_eq_true (by omega : (lo : Int) ≤ (m : Int))) c5
        · rw [show (!decide (V.str z = V.str (Str.ofString "0"))) = true by rw [st_ne h4]; rfl]
          refine iteT ?_
          exact end_same (Same.refl H) (hF fun m hm e => (of_fig hm).2.2.2.1 ⟨by rw [← e, h0, c3'], by rw [← e]; exact h4⟩)
      · have n48 : c0 ≠ 48 := fun e => c3 (decide_eq_true e)
        refine iteF ?_
        obtain ⟨m, hm, e⟩ := fin fun h => n48 h.1
        refine ⟨_, rfl, _, rfl, _, _, rfl, by rw [e]; exact (of_fig hm).2.2.2.2, by omega, _, _, rfl, rfl, _, rfl, ?_⟩
        refine ite2 (fun c5 => ?_) fun c5 => ?_
        · refine ⟨_, rfl, _, _, rfl, rfl, ?_⟩
          refine end_same (Same.refl H) (q _ ?_)
          have c5' := of_decide_eq_true c5
          rw [decide_eq_true_iff]
          exact ⟨fun h => ⟨m, by omega, by omega, e⟩, fun ⟨m', h1, h2, e'⟩ => by have := num_inj hm (by omega) (e.symm.trans e'); omega⟩
        · refine end_same (Same.refl H) (q false ⟨(fun z => by cases z), fun ⟨m', h1, h2, e'⟩ => ?_⟩)
          have := num_inj hm (by omega) (e.symm.trans e')
          exact absurd (decide_eq_true (by omega : (lo : Int) ≤ (m : Int))) c5
    · have ne3 : Txt.stripChars z (Str.ofString "0123456789") ≠ Str.ofString "" := fun e => h3 ((strip_empty z _).mp e)
      rw [show (!decide (V.str (Txt.stripChars z (Str.ofString "0123456789")) = V.str (Str.ofString ""))) = true by rw [st_ne ne3]; rfl]
      refine iteT ?_
      refine iteT ?_
      refine end_same (Same.refl H) (hF fun m hm e => h3 fun d hd => ?_)
      rw [e] at hd
      exact (dig_iff d).mpr ((of_fig hm).2.2.1 d hd)
def spText (t : Adr) : Sp := fun vs H Q _ => ∃ (b : Addr) (mv : Mv), vs = [.ref b] ∧ H b = some (.tup (toldV mv)) ∧ mv.ok ∧ Q (.str (mvText mv)) H
theorem ok__law_text {f : Addr} {fd : FuncData} (F : Fun K "_law_text" "_law_text" s__law_text f fd) (T : Txt K mg t) : FnOk P w K mg base CX0 1 f fd ["_law_told_here"] (spText t) := by
  refine F.okG sc__law_text (fun vs H Q E h => ?_) (fun cdv A outer s H vs Q E hr h => ?_)
  · obtain ⟨b, mv, rfl, _⟩ := h
    rfl
  · obtain ⟨b, mv, rfl, hb, ok, q⟩ := h
    have nd := sc__law_text.nd
    refine ⟨_, (pss_cons (ps_asg (pv 0) (pg_tup rfl (pgs_cons (pg_name (i := 1) nd rfl (Or.inl rfl)) (pgs_cons (pg_name (i := 2) nd rfl (Or.inl rfl)) pgs_nil))))
 (pss_cons (ps_set (i := 3) nd rfl (Or.inl rfl) (pe_ix ix_tup (pe_tup (pa_cons pe_str (pa_cons pe_str (pa_cons pe_str (pa_cons pe_str (pa_cons pe_str (pa_cons pe_str pa_nil))))))) (pv 1) (fun _ _ => rfl)))
 (pss_one (ps_ret (pe_ifExp (pt_cmpR op_in_seq (pv 1) (pe_tup (pa_cons pe_int (pa_cons pe_int pa_nil))) (by rfl)) (pv 3) (pe_op op_add_str (pv 3) (pe_callTy call_str_any (by rfl) T.no_str (show bootBuiltins "str" = some (.type "str") by decide +kernel) (pa_cons (pv 2) pa_nil)))))))), ?_⟩
    cases mv with
    | cut m =>
      refine ⟨_, rfl, _, _, rfl, SqT.of hb, rfl, _, _, rfl, _, _, rfl, rfl, (by decide), fun l2 h2 => ?_⟩
      refine ⟨_, rfl, _, _, _, _, rfl, rfl, SqT.of upd_same, rfl, _, rfl, (by decide), fun l5 h5 => ?_⟩
      refine ⟨_, _, rfl, .inr (SqT.of upd_same), rfl, rfl, _, rfl, ?_⟩
      refine iteF ?_
      refine ⟨_, rfl, _, rfl, .inl ⟨_, rfl, log_small ok, _, _, rfl, rfl, ?_, end_same (((Same.refl H).new h2).new h5) q⟩⟩
      have := num_len2 (Nat.lt_of_le_of_lt (show m ≤ 60 from ok) (by decide : 60 < 100))
      show 4 + (numText m).length ≤ _
      have : (1000 : Nat) ≤ sizeLine := by decide
      omega
    | turn =>
      refine ⟨_, rfl, _, _, rfl, SqT.of hb, rfl, _, _, rfl, _, _, rfl, rfl, (by decide), fun l2 h2 => ?_⟩
      refine ⟨_, rfl, _, _, _, _, rfl, rfl, SqT.of upd_same, rfl, _, rfl, (by decide), fun l5 h5 => ?_⟩
      refine ⟨_, _, rfl, .inr (SqT.of upd_same), rfl, rfl, _, rfl, ?_⟩
      refine iteT ?_
      exact ⟨_, rfl, end_same (((Same.refl H).new h2).new h5) q⟩
    | deal m =>
      refine ⟨_, rfl, _, _, rfl, SqT.of hb, rfl, _, _, rfl, _, _, rfl, rfl, (by decide), fun l2 h2 => ?_⟩
      refine ⟨_, rfl, _, _, _, _, rfl, rfl, SqT.of upd_same, rfl, _, rfl, (by decide), fun l5 h5 => ?_⟩
      refine ⟨_, _, rfl, .inr (SqT.of upd_same), rfl, rfl, _, rfl, ?_⟩
      refine iteF ?_
      refine ⟨_, rfl, _, rfl, .inl ⟨_, rfl, log_small ok.2, _, _, rfl, rfl, ?_, end_same (((Same.refl H).new h2).new h5) q⟩⟩
      have := num_len2 (Nat.lt_of_le_of_lt (show m ≤ 60 from ok.2) (by decide : 60 < 100))
      show 5 + (numText m).length ≤ _
      have : (1000 : Nat) ≤ sizeLine := by decide
      omega
    | under =>
      refine ⟨_, rfl, _, _, rfl, SqT.of hb, rfl, _, _, rfl, _, _, rfl, rfl, (by decide), fun l2 h2 => ?_⟩
      refine ⟨_, rfl, _, _, _, _, rfl, rfl, SqT.of upd_same, rfl, _, rfl, (by decide), fun l5 h5 => ?_⟩
      refine ⟨_, _, rfl, .inr (SqT.of upd_same), rfl, rfl, _, rfl, ?_⟩
      refine iteT ?_
      exact ⟨_, rfl, end_same (((Same.refl H).new h2).new h5) q⟩
    | weave m =>
      refine ⟨_, rfl, _, _, rfl, SqT.of hb, rfl, _, _, rfl, _, _, rfl, rfl, (by decide), fun l2 h2 => ?_⟩
      refine ⟨_, rfl, _, _, _, _, rfl, rfl, SqT.of upd_same, rfl, _, rfl, (by decide), fun l5 h5 => ?_⟩
      refine ⟨_, _, rfl, .inr (SqT.of upd_same), rfl, rfl, _, rfl, ?_⟩
      refine iteF ?_
      refine ⟨_, rfl, _, rfl, .inl ⟨_, rfl, log_small (Nat.le_trans ok (by decide)), _, _, rfl, rfl, ?_, end_same (((Same.refl H).new h2).new h5) q⟩⟩
      have := num_len2 (Nat.lt_of_le_of_lt (show m ≤ 1 from ok) (by decide : 1 < 100))
      show 6 + (numText m).length ≤ _
      have : (1000 : Nat) ≤ sizeLine := by decide
      omega
    | riffle wd =>
      refine ⟨_, rfl, _, _, rfl, SqT.of hb, rfl, _, _, rfl, _, _, rfl, rfl, (by decide), fun l2 h2 => ?_⟩
      refine ⟨_, rfl, _, _, _, _, rfl, rfl, SqT.of upd_same, rfl, _, rfl, (by decide), fun l5 h5 => ?_⟩
      refine ⟨_, _, rfl, .inr (SqT.of upd_same), rfl, rfl, _, rfl, ?_⟩
      refine iteF ?_
      refine ⟨_, rfl, _, rfl, .inr ⟨_, rfl, _, _, rfl, rfl, ?_, end_same (((Same.refl H).new h2).new h5) q⟩⟩
      have := ok.2
      show 7 + (wordOf wd).length ≤ _
      rw [word_len]
      have : (1000 : Nat) ≤ sizeLine := by decide
      omega
def spRefused (K : PySem.W.Frag) : Sp := fun vs H Q _ => ∃ v, vs = [v] ∧ ((∃ ty, TyOf K H v ty ∧ PySem.W.kitOne K ty (.type "str") = some false) ∨ ∃ x : Str, v = .str x ∧ x.length ≤ 10000 ∧ ∃ p ∈ parts x, ∀ mv, ¬ Wr p mv) ∧ Q (.bl true) H
theorem ok__law_refused {f : Addr} {fd : FuncData} (F : Fun K "_law_refused" "_law_refused" s__law_refused f fd) (T : Txt K mg t) (Z : ExcTxt K mg u) (x_read : FnX P w K mg base 7 "read" (spRead K t u)) : FnOk P w K mg base CX0 8 f fd ["_law_text_here"] (spRefused K) := by
  refine F.okG sc__law_refused (fun vs H Q E h => ?_) (fun cdv A outer s H vs Q E hr h => ?_)
  · obtain ⟨v, rfl, _⟩ := h
    rfl
  · obtain ⟨v, rfl, alt, q⟩ := h
    have nd := sc__law_refused.nd
    refine ⟨_, pss_cons (ps_tryAs (i := 2) (Eh := fun cls d H' => cls = .ref u.text ∧ Same H H') rfl rfl rfl nd rfl rfl rfl (by rfl) Z.mg_PackError Z.c_PackError (fun _ _ _ h => ⟨u.text, h.1, Z.text_pack⟩)
      (fun pn xe hx => pss_one (ps_expr (pe_fnx hx x_read hr (by rfl) (pa_cons (pv 0) pa_nil))))
      (fun e => pss_cons (ps_set (i := 1) nd rfl (Or.inl rfl) (pe_or (pe_callB (call_isiXK (K := K) rfl) (by rfl) T.no_isinstance (show bootBuiltins "isinstance" = some (.builtin "isinstance") by decide +kernel) (pa_cons (pv 2) (pa_cons (pe_glob (v := .ref _) rfl Z.mg_BadMove rfl) pa_nil)))
        (pe_or (pe_callB (call_isiXK (K := K) rfl) (by rfl) T.no_isinstance (show bootBuiltins "isinstance" = some (.builtin "isinstance") by decide +kernel) (pa_cons (pv 2) (pa_cons (pe_glob (v := .ref _) rfl Z.mg_BadNumber rfl) pa_nil)))
        (pe_one (pe_callB (call_isiXK (K := K) rfl) (by rfl) T.no_isinstance (show bootBuiltins "isinstance" = some (.builtin "isinstance") by decide +kernel) (pa_cons (pv 2) (pa_cons (pe_glob (v := .ref _) rfl Z.mg_BadOrder rfl) pa_nil)))))))
        (pss_one (ps_ret (pe_and (pe_callB (call_isiXK (K := K) rfl) (by rfl) T.no_isinstance (show bootBuiltins "isinstance" = some (.builtin "isinstance") by decide +kernel) (pa_cons (pv 2) (pa_cons (pe_glob (v := .ref _) rfl Z.mg_BadText rfl) pa_nil)))
        (pe_and (pe_callB (call_isiXK (K := K) rfl) (by rfl) T.no_isinstance (show bootBuiltins "isinstance" = some (.builtin "isinstance") by decide +kernel) (pa_cons (pv 2) (pa_cons (pe_bltn (v := .ty "ValueError") rfl Z.no_ValueError (show bootBuiltins "ValueError" = some (.type "ValueError") by decide +kernel) rfl) pa_nil)))
        (pe_one (pe_not (pv 1)))))))))
      (pss_one (ps_ret pe_bl)), ?_⟩
    refine ⟨⟨_, rfl, ?_⟩, ?_⟩
    · rcases alt with ⟨ty, hty, hk⟩ | ⟨x, rfl, hx, hbad⟩
      · exact .inl ⟨v, ty, rfl, hty, hk, fun d H' s' => ⟨rfl, s'⟩⟩
      · exact .inr ⟨x, rfl, hx, .inr ⟨hbad, fun d H' s' => ⟨rfl, s'⟩⟩⟩
    · rintro e cls d H' ⟨rfl, s'⟩ ne
      refine ⟨_, rfl, e, u.text, _, _, rfl, upd_same, Z.c_BadText, .inr ⟨_, rfl⟩, Z.k_move, _, rfl, ?_⟩
      refine iteF ?_
      refine ⟨_, rfl, e, u.text, _, _, rfl, upd_same, Z.c_BadText, .inr ⟨_, rfl⟩, Z.k_number, _, rfl, ?_⟩
      refine iteF ?_
      refine ⟨_, rfl, e, u.text, _, _, rfl, upd_same, Z.c_BadText, .inr ⟨_, rfl⟩, Z.k_order, ?_⟩
      refine ⟨_, rfl, e, u.text, _, _, rfl, upd_same, Z.c_BadText, .inr ⟨_, rfl⟩, Z.k_text, _, rfl, ?_⟩
      refine iteT ?_
      refine ⟨_, rfl, e, u.text, _, _, rfl, upd_same, Z.c_BadText, .inl ⟨_, rfl⟩, Z.k_value, _, rfl, ?_⟩
      refine iteT ?_
      refine ⟨_, rfl, _, rfl, ?_⟩
      exact end_same (s'.new ne) q
def spFew : Sp := fun vs H Q _ => vs = [] ∧ ∀ zs : List Str, zs.length ≤ 100 → (∀ z ∈ zs, z.length ≤ 100) → ∀ l, H l = none → Q (.ref l) (upd H l (.lst (zs.map V.str)))
def few1 : List Str := ["cut", "cut ", "cut 61", "cut 60", "cut 01", "cut -1", "cut  3", "cut 3 ", " cut 3", "cut 3;turn", "cut +3"]
def few2 : List Str := ["turn;", "turn; ", "; turn", "turn 1", "Turn", "deal 0", "deal 61", "weave 2", "weave", "weave 01"]
def few3 : List Str := [Str.ofString "riffle ", Str.ofString "riffle abc", Str.ofString "riffle AB", Str.ofString "riffle a b", Str.ofString "riffle " ++ repS (Str.ofString "a") 61, Str.ofString "riffle " ++ repS (Str.ofString "b") 60]
def few4 : List Str := ["under; under", "turn ; turn", "cut 1_0", "cut\t3"]
theorem few_len : (few1 ++ few2 ++ few3 ++ few4).length ≤ 100 ∧ ∀ z ∈ few1 ++ few2 ++ few3 ++ few4, z.length ≤ 100 := by decide +kernel
theorem body_few : ∃ es1 es2 es4 p1 q1 r1 p2 n2 q2 b2 r2 n4 q4 b4 r4, defBody s__law_few = [.Assign [.Name "_law_some" p1] (.List es1 q1) r1, .Assign [.Name "_law_some" p2] (.BinOp (.Name "_law_some" n2) .Add (.List es2 q2) b2) r2, (defBody s__law_few).getD 2 (.Pass ⟨0, 0, 0, 0⟩),
    .Return (some (.BinOp (.Name "_law_some" n4) .Add (.List es4 q4) b4)) r4] ∧ isStrs es1 = some few1 ∧ isStrs es2 = some few2 ∧ isStrs es4 = some few4 := ⟨_, _, _, _, _, _, _, _, _, _, _, _, _, _, _, rfl, by decide +kernel, by decide +kernel, by decide +kernel⟩
theorem ok__law_few {f : Addr} {fd : FuncData} (F : Fun K "_law_few" "_law_few" s__law_few f fd) : FnOk P w K mg base CX0 1 f fd [] spFew := by
  refine F.okG sc__law_few (fun vs H Q E h => ?_) (fun cdv A outer s H vs Q E hr h => ?_)
  · exact h.1 ▸ rfl
  · obtain ⟨rfl, q⟩ := h
    have nd := sc__law_few.nd
    have big : (10000 : Nat) < sizeLine := by decide
    obtain ⟨es1, es2, es4, p1, q1, r1, p2, n2, q2, b2, r2, n4, q4, b4, r4, eb, i1, i2, i4⟩ := body_few
    rw [eb]
    refine ⟨_, (pss_cons (ps_set (i := 0) nd rfl (Or.inl rfl) (pe_lstS i1)) (pss_cons (ps_set (i := 0) nd rfl (Or.inl rfl) (pe_op op_cat (pv 0) (pe_lstS i2))) (pss_cons (ps_set (i := 0) nd rfl (Or.inl rfl) (pe_op op_cat (pv 0) (pe_lst (pa_cons pe_str (pa_cons pe_str (pa_cons pe_str (pa_cons pe_str (pa_cons (pe_op op_add_str pe_str (pe_op op_mulS pe_str pe_int)) (pa_cons (pe_op op_add_str pe_str (pe_op op_mulS pe_str pe_int)) pa_nil))))))))) (pss_one (ps_ret (pe_op op_cat (pv 0) (pe_lstS i4))))))), ?_⟩
    refine ⟨(by show 11 ≤ sizeLine; decide), fun l1 h1 => ?_⟩
    refine ⟨_, rfl, (by show 10 ≤ sizeLine; decide), fun l2 h2 => ?_⟩
    refine ⟨_, _, _, _, rfl, rfl, Same.new (Same.refl _) h2 _ _ upd_same, upd_same, (by show 21 ≤ sizeLine; decide), fun l6 h6 => ?_⟩
    have s6 := (((Same.refl H).new (o := .lst (few1.map V.str)) h1).new (o := .lst (few2.map V.str)) h2).new (o := .lst (few1.map V.str ++ few2.map V.str)) h6
    revert s6
    have e6 := upd_same (H := upd (upd H l1 (.lst (few1.map V.str))) l2 (.lst (few2.map V.str))) (a := l6) (o := .lst (few1.map V.str ++ few2.map V.str))
    revert e6
    generalize upd (upd (upd H l1 (.lst (few1.map V.str))) l2 (.lst (few2.map V.str))) l6 (.lst (few1.map V.str ++ few2.map V.str)) = H6
    intro e6 s6
    refine ⟨_, rfl, _, _, rfl, rfl, (by decide), (by decide), _, _, rfl, rfl, (by decide +kernel), _, _, rfl, rfl, (by decide), (by decide), _, _, rfl, rfl, (by decide +kernel), (by decide), fun l13 h13 => ?_⟩
    change rCat (V.ref l6) (V.ref l13) (upd H6 l13 (.lst (few3.map V.str))) _
    refine ⟨_, _, _, _, rfl, rfl, Same.new (Same.refl _) h13 _ _ e6, upd_same, (by show 27 ≤ sizeLine; decide), fun l17 h17 => ?_⟩
    have s17 := (s6.new (o := .lst (few3.map V.str)) h13).new (o := .lst (few1.map V.str ++ few2.map V.str ++ few3.map V.str)) h17
    revert s17
    have e17 := upd_same (H := upd H6 l13 (.lst (few3.map V.str))) (a := l17) (o := .lst (few1.map V.str ++ few2.map V.str ++ few3.map V.str))
    revert e17
    generalize upd (upd H6 l13 (.lst (few3.map V.str))) l17 (.lst (few1.map V.str ++ few2.map V.str ++ few3.map V.str)) = H17
    intro e17 s17
    refine ⟨_, rfl, (by show 4 ≤ sizeLine; decide), fun l18 h18 => ?_⟩
    refine ⟨_, _, _, _, rfl, rfl, Same.new (Same.refl _) h18 _ _ e17, upd_same, (by show 31 ≤ sizeLine; decide), fun l22 h22 => ?_⟩
    refine end_lst ((s17.new h18).new h22) ((s17.new h18).free h22) upd_same fun p hp => ?_
    have e : few1.map V.str ++ few2.map V.str ++ few3.map V.str ++ few4.map V.str = (few1 ++ few2 ++ few3 ++ few4).map V.str := by simp
    rw [e]
    exact q _ few_len.1 few_len.2 p hp
end
end Rf

set_option Elab.async false
set_option linter.all false
set_option maxRecDepth 100000
set_option maxHeartbeats 1000000
namespace Rf
open PySem L2
/-- what the law holds against a part -/
def Right (p a b c : Str) : Prop := p = Str.ofString "turn" ∨ p = Str.ofString "under" ∨ (b = blk ∧ ((a = Srt.cut.name ∧ ∃ m, m ≤ 60 ∧ c = numText m) ∨ (a = Srt.deal.name ∧ ∃ m, 1 ≤ m ∧ m ≤ 60 ∧ c = numText m) ∨
  (a = Srt.weave.name ∧ ∃ m, m ≤ 1 ∧ c = numText m) ∨ (a = Srt.riffle.name ∧ ∃ w, c = wordOf w ∧ 1 ≤ w.length ∧ w.length ≤ 60)))
theorem wr_iff {p a b c : Str} (hp : Txt.partition p blk = (a, b, c)) : (∃ mv, Wr p mv) ↔ Right p a b c := by
  have pt : ∀ (s : Srt) (r : Str), p = s.name ++ blk ++ r → a = s.name ∧ b = blk ∧ c = r := fun s r e => by
    rw [e, s.part] at hp
    injection hp with h1 h2
    injection h2 with h2 h3
    exact ⟨h1.symm, h2.symm, h3.symm⟩
  constructor
  · rintro ⟨mv, ok, e⟩
    cases mv with
    | turn => exact .inl e.symm
    | under => exact .inr (.inl e.symm)
    | cut m => obtain ⟨h1, h2, h3⟩ := pt .cut (numText m) e.symm; exact .inr (.inr ⟨h2, .inl ⟨h1, m, ok, h3⟩⟩)
    | deal m => obtain ⟨h1, h2, h3⟩ := pt .deal (numText m) e.symm; exact .inr (.inr ⟨h2, .inr (.inl ⟨h1, m, ok.1, ok.2, h3⟩)⟩)
    | weave m => obtain ⟨h1, h2, h3⟩ := pt .weave (numText m) e.symm; exact .inr (.inr ⟨h2, .inr (.inr (.inl ⟨h1, m, ok, h3⟩))⟩)
    | riffle w => obtain ⟨h1, h2, h3⟩ := pt .riffle (wordOf w) e.symm; exact .inr (.inr ⟨h2, .inr (.inr (.inr ⟨h1, w, h3, ok⟩))⟩)
  · intro h
    rcases h with h | h | ⟨hb, h⟩
    · exact ⟨.turn, trivial, h.symm⟩
    · exact ⟨.under, trivial, h.symm⟩
    · have e : p = a ++ blk ++ c := by
        obtain ⟨a', b', c', hp', _, f⟩ := part_cases p
        rw [hp] at hp'
        injection hp' with h1 h2
        injection h2 with h2 h3
        subst h1 h2 h3
        rcases f with ⟨_, z, _⟩ | ⟨_, z⟩
        · rw [z] at hb
          exact absurd hb (by decide +kernel)
        · exact z
      rcases h with ⟨ha, m, h1, h3⟩ | ⟨ha, m, h1, h2, h3⟩ | ⟨ha, m, h1, h3⟩ | ⟨ha, w, h3, h1, h2⟩
      · exact ⟨.cut m, h1, by rw [e, ha, h3]; rfl⟩
      · exact ⟨.deal m, ⟨h1, h2⟩, by rw [e, ha, h3]; rfl⟩
      · exact ⟨.weave m, h1, by rw [e, ha, h3]; rfl⟩
      · exact ⟨.riffle w, ⟨h1, h2⟩, by rw [e, ha, h3]; rfl⟩
theorem srt_inj {s r : Srt} (h : s.name = r.name) : s = r := by
  cases s <;> cases r <;> first | rfl | exact absurd h (by decide +kernel)
/-- after the k-th test -/
def C0 (p : Str) (r : Bool) : Prop := r = true ↔ p = Str.ofString "turn" ∨ p = Str.ofString "under"
def C1 (p a b c : Str) (r : Bool) : Prop := (a = Srt.cut.name ∧ b = blk → (r = true ↔ ∃ m, 0 ≤ m ∧ m ≤ 60 ∧ c = numText m)) ∧ (¬ (a = Srt.cut.name ∧ b = blk) → C0 p r)
def C2 (p a b c : Str) (r : Bool) : Prop := (a = Srt.deal.name ∧ b = blk → (r = true ↔ ∃ m, 1 ≤ m ∧ m ≤ 60 ∧ c = numText m)) ∧ (¬ (a = Srt.deal.name ∧ b = blk) → C1 p a b c r)
def C3 (p a b c : Str) (r : Bool) : Prop := (a = Srt.weave.name ∧ b = blk → (r = true ↔ c = Str.ofString "0" ∨ c = Str.ofString "1")) ∧ (¬ (a = Srt.weave.name ∧ b = blk) → C2 p a b c r)
def C4 (p a b c : Str) (r : Bool) : Prop := (a = Srt.riffle.name ∧ b = blk → (r = true ↔ ∃ w, c = wordOf w ∧ 1 ≤ w.length ∧ w.length ≤ 60)) ∧ (¬ (a = Srt.riffle.name ∧ b = blk) → C3 p a b c r)
theorem c4_right {p a b c : Str} (hp : Txt.partition p blk = (a, b, c)) {r : Bool} (h : C4 p a b c r) : r = true ↔ ∃ mv, Wr p mv := by
  rw [wr_iff hp]
  have nb : b = blk → p ≠ Str.ofString "turn" ∧ p ≠ Str.ofString "under" := fun hb => by
    constructor
    · intro e
      rw [e, show Txt.partition (Str.ofString "turn") blk = (Str.ofString "turn", Str.empty, Str.empty) by decide +kernel] at hp
      injection hp with _ h2
      injection h2 with h2 _
      rw [hb] at h2
      exact absurd h2 (by decide +kernel)
    · intro e
      rw [e, show Txt.partition (Str.ofString "under") blk = (Str.ofString "under", Str.empty, Str.empty) by decide +kernel] at hp
      injection hp with _ h2
      injection h2 with h2 _
      rw [hb] at h2
      exact absurd h2 (by decide +kernel)
  have one : ∀ (s : Srt) (W : Prop), a = s.name → b = blk → (r = true ↔ W) → ((s = .cut → (W ↔ ∃ m, m ≤ 60 ∧ c = numText m)) ∧ (s = .deal → (W ↔ ∃ m, 1 ≤ m ∧ m ≤ 60 ∧ c = numText m)) ∧ (s = .weave → (W ↔ ∃ m, m ≤ 1 ∧ c = numText m)) ∧ (s = .riffle → (W ↔ ∃ w, c = wordOf w ∧ 1 ≤ w.length ∧ w.length ≤ 60))) → (r = true ↔ Right p a b c) := by
    intro s W ha hb hr hW
    rw [hr]
    obtain ⟨n1, n2⟩ := nb hb
    have ex : ∀ s' : Srt, a = s'.name → s' = s := fun s' e => srt_inj (e.symm.trans ha)
    constructor
    · intro w
      refine .inr (.inr ⟨hb, ?_⟩)
      cases s with
      | cut => exact .inl ⟨ha, (hW.1 rfl).mp w⟩
      | deal => exact .inr (.inl ⟨ha, (hW.2.1 rfl).mp w⟩)
      | weave => exact .inr (.inr (.inl ⟨ha, (hW.2.2.1 rfl).mp w⟩))
      | riffle => exact .inr (.inr (.inr ⟨ha, (hW.2.2.2 rfl).mp w⟩))
    · rintro (h | h | ⟨_, ⟨ha', h⟩ | ⟨ha', h⟩ | ⟨ha', h⟩ | ⟨ha', h⟩⟩)
      · exact absurd h n1
      · exact absurd h n2
      · have := ex .cut ha'; subst this; exact (hW.1 rfl).mpr h
      · have := ex .deal ha'; subst this; exact (hW.2.1 rfl).mpr h
      · have := ex .weave ha'; subst this; exact (hW.2.2.1 rfl).mpr h
      · have := ex .riffle ha'; subst this; exact (hW.2.2.2 rfl).mpr h
  by_cases h4 : a = Srt.riffle.name ∧ b = blk
  · refine one .riffle _ h4.1 h4.2 (h.1 h4) ⟨fun z => (by cases z), fun z => (by cases z), fun z => (by cases z), fun _ => Iff.rfl⟩
  have h3' := h.2 h4
  by_cases h3 : a = Srt.weave.name ∧ b = blk
  · refine one .weave _ h3.1 h3.2 (h3'.1 h3) ⟨fun z => (by cases z), fun z => (by cases z), fun _ => ?_, fun z => (by cases z)⟩
    constructor
    · rintro (e | e)
      · exact ⟨0, by decide, by rw [e]; decide +kernel⟩
      · exact ⟨1, by decide, by rw [e]; decide +kernel⟩
    · rintro ⟨m, hm, e⟩
      match m, hm with
      | 0, _ => exact .inl (by rw [e]; decide +kernel)
      | 1, _ => exact .inr (by rw [e]; decide +kernel)
  have h2' := h3'.2 h3
  by_cases h2 : a = Srt.deal.name ∧ b = blk
  · exact one .deal _ h2.1 h2.2 (h2'.1 h2) ⟨fun z => (by cases z), fun _ => Iff.rfl, fun z => (by cases z), fun z => (by cases z)⟩
  have h1' := h2'.2 h2
  by_cases h1 : a = Srt.cut.name ∧ b = blk
  · refine one .cut _ h1.1 h1.2 (h1'.1 h1) ⟨fun _ => ?_, fun z => (by cases z), fun z => (by cases z), fun z => (by cases z)⟩
    exact ⟨fun ⟨m, _, h, e⟩ => ⟨m, h, e⟩, fun ⟨m, h, e⟩ => ⟨m, Nat.zero_le _, h, e⟩⟩
  have h0 : r = true ↔ p = Str.ofString "turn" ∨ p = Str.ofString "under" := h1'.2 h1
  rw [h0]
  constructor
  · rintro (e | e)
    · exact .inl e
    · exact .inr (.inl e)
  · rintro (e | e | ⟨hb, ⟨ha, _⟩ | ⟨ha, _⟩ | ⟨ha, _⟩ | ⟨ha, _⟩⟩)
    · exact .inl e
    · exact .inr e
    · exact absurd ⟨ha, hb⟩ h1
    · exact absurd ⟨ha, hb⟩ h2
    · exact absurd ⟨ha, hb⟩ h3
    · exact absurd ⟨ha, hb⟩ h4
theorem inV2 (x y z : Str) : inV (.str x) [.str y, .str z] = true ↔ x = y ∨ x = z := by
  unfold inV
  rw [List.any_cons, List.any_cons, List.any_nil, Bool.or_false, Bool.or_eq_true]
  have e : ∀ u v : Str, eqV (.str u) (.str v) = true ↔ v = u := fun u v => by
    unfold eqV
    simp
    exact eq_comm
  rw [e, e]
section
variable {P : Program} {w : World} {K : PySem.W.Frag} {mg : Str → Option Value} {base : Heap} {t : Adr} {u : XA}
def spWrites : Sp := fun vs H Q _ => ∃ x : Str, vs = [.str x] ∧ x.length ≤ 10000 ∧ ∀ b : Bool, (b = true ↔ ∀ p ∈ parts x, ∃ mv, Wr p mv) → Q (.bl b) H
theorem ok__law_writes {f : Addr} {fd : FuncData} (F : Fun K "_law_writes" "_law_writes" s__law_writes f fd) (T : Txt K mg t) (f__law_number : Fn1 P w K mg base 1 "_law_number" spLNum) : FnOk P w K mg base CX0 2 f fd ["_law_text_here"] spWrites := by
  refine F.okG sc__law_writes (fun vs H Q E h => ?_) (fun cdv A outer s H vs Q E hr h => ?_)
  · obtain ⟨x, rfl, _⟩ := h
    rfl
  · obtain ⟨x, rfl, hx, q⟩ := h
    have nd := sc__law_writes.nd
    have big : (10000 : Nat) ≤ sizeLine := by decide
    refine ⟨_, (pss_cons (ps_if (pt_cmpR op_eq (pv 0) pe_str (nomark _))
 (pss_one (ps_ret pe_bl))
 pss_nil)
 (pss_cons (ps_for PassesOwn.never rfl (pi_list (pe_bm PySem.F.plainAttrs_str PySem.F.slot_str_split PySem.F.type_str_split mt_split (pv 0) (pa_cons pe_str pa_nil))) (pg_name (i := 1) nd rfl (Or.inl rfl))
 (pss_cons (ps_asg (pe_bm PySem.F.plainAttrs_str PySem.F.slot_str_partition PySem.F.type_str_partition mt_partition (pv 1) (pa_cons pe_str pa_nil)) (pg_tup rfl (pgs_cons (pg_name (i := 2) nd rfl (Or.inl rfl)) (pgs_cons (pg_name (i := 3) nd rfl (Or.inl rfl)) (pgs_cons (pg_name (i := 4) nd rfl (Or.inl rfl)) pgs_nil)))))
 (pss_cons (ps_set (i := 5) nd rfl (Or.inl rfl) (pe_cmpR op_in_seq (pv 1) (pe_tup (pa_cons pe_str (pa_cons pe_str pa_nil))) (by rfl)))
 (pss_cons (ps_if (PW.pt (pw_and (pt_cmpR op_eq (pv 2) pe_str (nomark _)) (pw_and1 (pt_cmpR op_eq (pv 3) pe_str (nomark _)))))
 (pss_one (ps_set (i := 5) nd rfl (Or.inl rfl) (pe_fn f__law_number hr (by rfl) (pa_cons (pv 4) (pa_cons pe_int (pa_cons pe_int pa_nil))))))
 pss_nil)
 (pss_cons (ps_if (PW.pt (pw_and (pt_cmpR op_eq (pv 2) pe_str (nomark _)) (pw_and1 (pt_cmpR op_eq (pv 3) pe_str (nomark _)))))
 (pss_one (ps_set (i := 5) nd rfl (Or.inl rfl) (pe_fn f__law_number hr (by rfl) (pa_cons (pv 4) (pa_cons pe_int (pa_cons pe_int pa_nil))))))
 pss_nil)
 (pss_cons (ps_if (PW.pt (pw_and (pt_cmpR op_eq (pv 2) pe_str (nomark _)) (pw_and1 (pt_cmpR op_eq (pv 3) pe_str (nomark _)))))
 (pss_one (ps_set (i := 5) nd rfl (Or.inl rfl) (pe_cmpR op_in_seq (pv 4) (pe_tup (pa_cons pe_str (pa_cons pe_str pa_nil))) (by rfl))))
 pss_nil)
 (pss_cons (ps_if (PW.pt (pw_and (pt_cmpR op_eq (pv 2) pe_str (nomark _)) (pw_and1 (pt_cmpR op_eq (pv 3) pe_str (nomark _)))))
 (pss_one (ps_set (i := 5) nd rfl (Or.inl rfl) (pe_and (pe_chain op_le op_le pe_int (pe_callB call_len_str (by rfl) T.no_len (show bootBuiltins "len" = some (.builtin "len") by decide +kernel) (pa_cons (pv 4) pa_nil)) pe_int) (pe_one (pe_cmpR op_eq (pe_bm PySem.F.plainAttrs_str PySem.F.slot_str_strip PySem.F.type_str_strip mt_strip (pv 4) (pa_cons pe_str pa_nil)) pe_str (nomark _))))))
 pss_nil)
 (pss_one (ps_if (pt_not (pt_val (pv 5)))
 (pss_one (ps_ret pe_bl))
 pss_nil)))))))))
 (pss_one (ps_ret pe_bl)))), ?_⟩
    refine ⟨_, rfl, rfl, _, rfl, ?_⟩
    refine ite2 (fun c0 => ?_) fun c0 => ?_
    · have e0 : x = Str.empty := by
        have := of_decide_eq_true c0
        injection this
      refine end_same (Same.refl H) (q true ⟨fun _ p hp => ?_, fun _ => rfl⟩)
      unfold parts at hp
      rw [if_pos e0] at hp
      cases hp
    have n0 : x ≠ Str.empty := fun e => c0 (by rw [e]; exact decide_eq_true rfl)
    have ep : parts x = Txt.split x sepS := by unfold parts; rw [if_neg n0]
    rw [ep] at q
    obtain ⟨sl1, sl2⟩ := split_len x
    refine ⟨_, rfl, rfl, _, rfl, rfl, Nat.le_trans hx (by decide), fun l hl => ?_⟩
    have se := (Same.refl H).new (o := .lst ((Txt.split x sepS).map V.str)) hl
    have hL : upd H l (.lst ((Txt.split x sepS).map V.str)) l = some (.lst ((Txt.split x sepS).map V.str)) := upd_same
    revert se hL
    generalize upd H l (.lst ((Txt.split x sepS).map V.str)) = H1
    intro se hL
    refine ⟨_, rfl, ⟨_, SqL.of hL⟩, ?_⟩
    generalize hps : Txt.split x sepS = ps at q sl1 sl2 hL
    refine for_list (xs := ps.map V.str) (fun i σ H' => Same H1 H' ∧ (∃ b c d e f, σ = [some (.str x), b, c, d, e, f]) ∧ ∀ (j : Nat) (p : Str), j < i → ps[j]? = some p → ∃ mv, Wr p mv) ⟨Same.refl _, ⟨none, none, none, none, none, rfl⟩, fun j p hj => absurd hj (Nat.not_lt_zero _)⟩ (fun i σ H' _ z => SqL.of (z.1 _ _ hL)) ?_ ?_
    · rintro i y σ H' hy ⟨s1, ⟨b', c', d', e', f', rfl⟩, ws⟩
      rw [List.getElem?_map] at hy
      cases hpi : ps[i]? with
      | none => rw [hpi] at hy; simp at hy
      | some p =>
        rw [hpi] at hy
        simp at hy
        subst hy
        have hpl : p.length ≤ 10000 := Nat.le_trans (sl2 p (List.mem_of_getElem? hpi)) hx
        obtain ⟨a, b, c, hp, hcl, _⟩ := part_cases p
        have hcl' : c.length ≤ 10000 := Nat.le_trans hcl hpl
        refine ⟨_, rfl, rfl, _, rfl, rfl, Nat.le_trans hpl big, fun l2 hl2 => ?_⟩
        rw [hp]
        have s2 := s1.new (o := .tup [.str a, .str b, .str c]) hl2
        refine ⟨_, _, rfl, SqT.of upd_same, rfl, _, _, rfl, _, _, rfl, _, _, rfl, rfl, _, rfl, (by decide), fun l13 h13 => ?_⟩
        have s13 := s2.new (o := .tup [.str (Str.ofString "turn"), .str (Str.ofString "under")]) h13
        refine ⟨_, _, rfl, .inr (SqT.of upd_same), rfl, rfl, ?_⟩
        have k0 : C0 p (if false = true then !inV (.str p) [.str (Str.ofString "turn"), .str (Str.ofString "under")] else inV (.str p) [.str (Str.ofString "turn"), .str (Str.ofString "under")]) := by
          rw [if_neg Bool.false_ne_true]
          exact inV2 _ _ _
        revert k0 s13
        generalize (if false = true then !inV (.str p) [.str (Str.ofString "turn"), .str (Str.ofString "under")] else inV (.str p) [.str (Str.ofString "turn"), .str (Str.ofString "under")]) = r0
        generalize upd (upd H' l2 (.tup [.str a, .str b, .str c])) l13 (.tup [.str (Str.ofString "turn"), .str (Str.ofString "under")]) = H2
        intro s13 k0
        dsimp only [gName]
        refine seq_gen (fun σ' H' => ∃ r, σ' = [some (.str x), some (.str p), some (.str a), some (.str b), some (.str c), some (.bl r)] ∧ Same H1 H' ∧ C1 p a b c r) (fun N hN => ?_) ?_
        · refine ⟨_, rfl, rfl, _, rfl, ?_⟩
          refine ite2 (fun ca => ?_) fun ca => ?_
          · have ea : a = Srt.cut.name := by
              have := of_decide_eq_true ca
              injection this
            refine ⟨_, rfl, rfl, _, rfl, ?_⟩
            refine ite2 (fun cb => ?_) fun cb => ?_
            · have eb : b = blk := by
                have := of_decide_eq_true cb
                injection this
              refine ⟨_, rfl, c, 0, 60, rfl, hcl', by decide, fun b1 hb1 => ?_⟩
              exact hN _ _ ⟨b1, rfl, s13, ⟨fun _ => hb1, fun z => absurd ⟨ea, eb⟩ z⟩⟩
            · exact hN _ _ ⟨r0, rfl, s13, ⟨fun z => absurd (decide_eq_true (show V.str b = V.str (Str.ofString " ") by rw [z.2]; rfl)) cb, fun _ => k0⟩⟩
          · refine iteF ?_
            exact hN _ _ ⟨r0, rfl, s13, ⟨fun z => absurd (decide_eq_true (show V.str a = V.str (Str.ofString "cut") by rw [z.1]; rfl)) ca, fun _ => k0⟩⟩
        rintro σ'' H3 ⟨r1, rfl, s13', k1⟩
        clear s13
        have s13 := s13'
        clear s13'
        refine seq_gen (fun σ' H' => ∃ r, σ' = [some (.str x), some (.str p), some (.str a), some (.str b), some (.str c), some (.bl r)] ∧ Same H1 H' ∧ C2 p a b c r) (fun N hN => ?_) ?_
        · refine ⟨_, rfl, rfl, _, rfl, ?_⟩
          refine ite2 (fun ca => ?_) fun ca => ?_
          · have ea : a = Srt.deal.name := by
              have := of_decide_eq_true ca
              injection this
            refine ⟨_, rfl, rfl, _, rfl, ?_⟩
            refine ite2 (fun cb => ?_) fun cb => ?_
            · have eb : b = blk := by
                have := of_decide_eq_true cb
                injection this
              refine ⟨_, rfl, c, 1, 60, rfl, hcl', by decide, fun b1 hb1 => ?_⟩
              exact hN _ _ ⟨b1, rfl, s13, ⟨fun _ => hb1, fun z => absurd ⟨ea, eb⟩ z⟩⟩
            · exact hN _ _ ⟨r1, rfl, s13, ⟨fun z => absurd (decide_eq_true (show V.str b = V.str (Str.ofString " ") by rw [z.2]; rfl)) cb, fun _ => k1⟩⟩
          · refine iteF ?_
            exact hN _ _ ⟨r1, rfl, s13, ⟨fun z => absurd (decide_eq_true (show V.str a = V.str (Str.ofString "deal") by rw [z.1]; rfl)) ca, fun _ => k1⟩⟩
        rintro σ'' H3 ⟨r2, rfl, s13', k2⟩
        clear s13
        have s13 := s13'
        clear s13'
        refine seq_gen (fun σ' H' => ∃ r, σ' = [some (.str x), some (.str p), some (.str a), some (.str b), some (.str c), some (.bl r)] ∧ Same H1 H' ∧ C3 p a b c r) (fun N hN => ?_) ?_
        · refine ⟨_, rfl, rfl, _, rfl, ?_⟩
          refine ite2 (fun ca => ?_) fun ca => ?_
          · have ea : a = Srt.weave.name := by
              have := of_decide_eq_true ca
              injection this
            refine ⟨_, rfl, rfl, _, rfl, ?_⟩
            refine ite2 (fun cb => ?_) fun cb => ?_
            · have eb : b = blk := by
                have := of_decide_eq_true cb
                injection this
              refine ⟨_, rfl, (by decide), fun l15 h15 => ?_⟩
              refine ⟨_, _, rfl, .inr (SqT.of upd_same), rfl, rfl, ?_⟩
              exact hN _ _ ⟨_, rfl, s13.new h15, ⟨fun _ => inV2 _ _ _, fun z => absurd ⟨ea, eb⟩ z⟩⟩
            · exact hN _ _ ⟨r2, rfl, s13, ⟨fun z => absurd (decide_eq_true (show V.str b = V.str (Str.ofString " ") by rw [z.2]; rfl)) cb, fun _ => k2⟩⟩
          · refine iteF ?_
            exact hN _ _ ⟨r2, rfl, s13, ⟨fun z => absurd (decide_eq_true (show V.str a = V.str (Str.ofString "weave") by rw [z.1]; rfl)) ca, fun _ => k2⟩⟩
        rintro σ'' H3 ⟨r3, rfl, s13', k3⟩
        clear s13
        have s13 := s13'
        clear s13'
        refine seq_gen (fun σ' H' => ∃ r, σ' = [some (.str x), some (.str p), some (.str a), some (.str b), some (.str c), some (.bl r)] ∧ Same H1 H' ∧ C4 p a b c r) (fun N hN => ?_) ?_
        · refine ⟨_, rfl, rfl, _, rfl, ?_⟩
          refine ite2 (fun ca => ?_) fun ca => ?_
          · have ea : a = Srt.riffle.name := by
              have := of_decide_eq_true ca
              injection this
            refine ⟨_, rfl, rfl, _, rfl, ?_⟩
            refine ite2 (fun cb => ?_) fun cb => ?_
            · have eb : b = blk := by
                have := of_decide_eq_true cb
                injection this
              refine ⟨_, rfl, _, rfl, Nat.le_trans hcl' big, _, _, rfl, rfl, _, rfl, ?_⟩
              have wd : (1 ≤ c.length ∧ c.length ≤ 60 ∧ Txt.stripChars c (Str.ofString "ab") = Str.empty) ↔ ∃ w, c = wordOf w ∧ 1 ≤ w.length ∧ w.length ≤ 60 := by
                rw [strip_empty]
                constructor
                · rintro ⟨h1, h2, h3⟩
                  obtain ⟨w, hw⟩ := (word_iff c).mpr fun d hd => (ab_iff d).mp (h3 d hd)
                  have : c.length = w.length := by rw [hw, word_len]
                  exact ⟨w, hw, by omega, by omega⟩
                · rintro ⟨w, hw, h1, h2⟩
                  have : c.length = w.length := by rw [hw, word_len]
                  exact ⟨by omega, by omega, fun d hd => (ab_iff d).mpr ((word_iff c).mp ⟨w, hw⟩ d hd)⟩
              refine ite2 (fun c1 => ?_) fun c1 => ?_
              · have c1' := of_decide_eq_true c1
                refine ⟨_, _, rfl, rfl, _, rfl, ?_⟩
                refine ite2 (fun c2 => ?_) fun c2 => ?_
                · have c2' := of_decide_eq_true c2
                  refine ⟨_, rfl, rfl, _, _, rfl, rfl, Nat.le_trans hcl' big, rfl, ?_⟩
                  refine hN _ _ ⟨_, rfl, s13, ⟨fun _ => ?_, fun z => absurd ⟨ea, eb⟩ z⟩⟩
                  rw [decide_eq_true_iff, ← wd]
                  constructor
                  · intro e
                    injection e with e
                    exact ⟨by omega, by omega, e⟩
                  · rintro ⟨_, _, e⟩
                    rw [e]
                    rfl
                · refine hN _ _ ⟨false, rfl, s13, ⟨fun _ => ⟨(fun z => by cases z), fun z => ?_⟩, fun z => absurd ⟨ea, eb⟩ z⟩⟩
                  have := (wd.mpr z).2.1
                  exact absurd (decide_eq_true (by omega : (c.length : Int) ≤ 60)) c2
              · refine ⟨_, rfl, iteF ?_⟩
                refine hN _ _ ⟨false, rfl, s13, ⟨fun _ => ⟨(fun z => by cases z), fun z => ?_⟩, fun z => absurd ⟨ea, eb⟩ z⟩⟩
                have := (wd.mpr z).1
                exact absurd (decide_eq_true (by omega : (1 : Int) ≤ (c.length : Int))) c1
            · exact hN _ _ ⟨r3, rfl, s13, ⟨fun z => absurd (decide_eq_true (show V.str b = V.str (Str.ofString " ") by rw [z.2]; rfl)) cb, fun _ => k3⟩⟩
          · refine iteF ?_
            exact hN _ _ ⟨r3, rfl, s13, ⟨fun z => absurd (decide_eq_true (show V.str a = V.str (Str.ofString "riffle") by rw [z.1]; rfl)) ca, fun _ => k3⟩⟩
        rintro σ'' H3 ⟨r4, rfl, s13', k4⟩
        clear s13
        have s13 := s13'
        clear s13'
        have rt := c4_right hp k4
        refine ⟨_, rfl, _, rfl, ?_⟩
        cases r4 with
        | true =>
          refine iteF ?_
          refine ⟨s13, ⟨_, _, _, _, _, rfl⟩, fun j p' hj h1 => ?_⟩
          by_cases hji : j = i
          · subst hji
            rw [hpi] at h1
            cases h1
            exact rt.mp rfl
          · exact ws j p' (by omega) h1
        | false =>
          refine iteT ?_
          refine end_same (se.trans s13) (q false ⟨(fun z => by cases z), fun all => ?_⟩)
          exact rt.mpr (all p (List.mem_of_getElem? hpi))
    · rintro σ H' ⟨s1, ⟨b', c', d', e', f', rfl⟩, ws⟩
      refine end_same (se.trans s1) (q true ⟨fun _ p hp => ?_, fun _ => rfl⟩)
      obtain ⟨j, hj⟩ := List.mem_iff_getElem?.mp hp
      exact ws j p (by rw [List.length_map]; exact (List.getElem?_eq_some_iff.mp hj).1) hj
end
end Rf

set_option Elab.async false
set_option linter.all false
set_option maxRecDepth 100000
set_option maxHeartbeats 2000000
namespace L2
open PySem
/-- what never raises -/
theorem FnOk.calm {P : Program} {w : World} {K : PySem.W.Frag} {mg : Str → Option Value} {base : Heap} {k : Nat} {f : Addr} {fd : FuncData} {ps : List Str} {sp : Sp} (F : FnOk P w K mg base (CXe P w) k f fd ps sp) : FnOk P w K mg base CX0 k f fd ps (fun vs H Q _ => sp vs H Q E0) := by
  refine ⟨fun vs H Q E h => F.len vs H Q E0 h, fun A outer s H args us vs Q E hr e0 hb rv hs => ?_⟩
  refine codeAny_mono (F.run A outer s H args us vs Q E0 hr e0 hb rv hs) fun r s' hq => ?_
  cases r with
  | error e =>
    obtain ⟨x, cls, d, B, H', _, _, _, _, _, _, _, _, hE⟩ := hq
    exact hE.elim
  | ok fl => cases fl <;> exact hq
theorem ExcCl.of {K : PySem.W.Frag} {D : Addr} (ex : PySem.W.excIn K D bmV "ValueError.__new__" = true) (ga : PySem.W.findIn K (.ref D) "__getattribute__" = some (some (.builtin "BaseException.__getattribute__"))) (gt : PySem.W.findIn K (.ref D) "__getattr__" = some none)
    (ha : PySem.W.findIn K (.ref D) "__class__" = some (some (.builtin "object.__class__"))) (yg : PySem.W.specialIn K (.builtin "object.__class__") "__get__" = some (some (.builtin "getset_descriptor.__get__"))) (yt : PySem.W.takesIn K (.builtin "object.__class__") = some true)
    (mB : PySem.W.mroIn K D (.type "BaseException") = some true) (mo : PySem.W.mroIn K D (.type "object") = some true) (ty : PySem.W.typeIn K (.ref D) = some (.type "type")) : ExcCl K D := by
  obtain ⟨cd, hc, _⟩ := Option.bind_eq_some_iff.mp mo
  refine ⟨ex, by rw [hc]; rfl, ga, gt, ?_, mB, mo, ty⟩
  unfold PySem.W.findObj
  rw [hc, Option.bind_some, ha, Option.bind_some]
  simp [yg, yt]
theorem FnX.calm {P : Program} {w : World} {K : PySem.W.Frag} {mg : Str → Option Value} {base : Heap} {k : Nat} {x : Str} {sp : Sp} (F : FnX P w K mg base k x sp) : Fn1 P w K mg base k x (fun vs H Q _ => sp vs H Q E0) := by
  obtain ⟨f, fd, ps, G, r⟩ := F.ex
  exact ⟨f, fd, ps, G.calm, r⟩
end L2
namespace Rf
open PySem L2
def spLaw (K : PySem.W.Frag) : Sp := fun vs H Q _ => ∃ (a : Addr) (ns : List Int), vs = [.ref a] ∧ SqL K H a (ns.map V.int) ∧ ns.length ≤ 63 ∧ ∀ H', Q (.bl true) H'
theorem esep : Str.ofString "; " = sepS := by decide +kernel
theorem join_len : ∀ ps : List Str, (∀ p ∈ ps, p.length ≤ 67) → (Str.join sepS ps).length ≤ 69 * ps.length
  | [], _ => by show 0 ≤ _; omega
  | [p], h => by
    show p.length ≤ _
    have := h p List.mem_cons_self
    simp
    omega
  | p :: q :: r, h => by
    show (p ++ sepS ++ Str.join sepS (q :: r)).length ≤ _
    rw [str_app_len, str_app_len]
    have h1 := h p List.mem_cons_self
    have h2 := join_len (q :: r) fun z hz => h z (List.mem_cons_of_mem _ hz)
    have h3 : sepS.length = 2 := rfl
    rw [List.length_cons]
    omega
theorem join_ne : ∀ mvs : List Mv, mvs ≠ [] → (∀ m ∈ mvs, m.ok) → Str.join sepS (mvs.map mvText) ≠ Str.empty
  | [], h, _ => absurd rfl h
  | [m], _, ok => fun e => by
    have := (mv_len (ok m List.mem_cons_self)).1
    rw [show mvText m = Str.empty from e] at this
    exact absurd this (by decide)
  | m :: m' :: r, _, ok => fun e => by
    have := (mv_len (ok m List.mem_cons_self)).1
    have e' := congrArg Str.length (show mvText m ++ sepS ++ Str.join sepS ((m' :: r).map mvText) = Str.empty from e)
    rw [str_app_len, str_app_len] at e'
    have e2 : (mvText m).length + sepS.length + (Str.join sepS ((m' :: r).map mvText)).length = 0 := e'
    omega
theorem parts_join (mvs : List Mv) (ok : ∀ m ∈ mvs, m.ok) : parts (Str.join sepS (mvs.map mvText)) = mvs.map mvText := by
  by_cases h : mvs = []
  · subst h
    unfold parts
    rw [if_pos (show Str.join sepS (List.map mvText []) = Str.empty from rfl)]
    rfl
  · unfold parts
    rw [if_neg (join_ne mvs h ok)]
    refine split_joined _ (by simpa using h) fun p hp => ?_
    obtain ⟨m, hm, rfl⟩ := List.mem_map.mp hp
    exact mv_semi (ok m hm)
theorem join_parts (z : Str) : Str.join sepS (parts z) = z := by
  unfold parts
  split
  · rename_i h
    rw [h]
    rfl
  · exact StrLaws.join_split z sepS
theorem choose_mvs : ∀ ps : List Str, (∀ p ∈ ps, ∃ mv, Wr p mv) → ∃ mvs : List Mv, mvs.map mvText = ps ∧ ∀ m ∈ mvs, m.ok
  | [], _ => ⟨[], rfl, fun m h => by cases h⟩
  | p :: ps, h => by
    obtain ⟨mv, ok, e⟩ := h p List.mem_cons_self
    obtain ⟨mvs, e2, ok2⟩ := choose_mvs ps fun q hq => h q (List.mem_cons_of_mem _ hq)
    refine ⟨mv :: mvs, by rw [List.map_cons, e, e2], fun m hm => ?_⟩
    rcases List.mem_cons.mp hm with z | z
    · rw [z]
      exact ok
    · exact ok2 m z
structure Tl (H : Hp) (l : Addr) (ts : List (Addr × Mv)) (n : Nat) : Prop where
  lst : H l = some (.lst (ts.map fun y => V.ref y.1))
  at_ : ∀ y ∈ ts, H y.1 = some (.tup (toldV y.2)) ∧ y.2.ok ∧ y.2.fits n
theorem Tl.keep {H H' : Hp} {l : Addr} {ts : List (Addr × Mv)} {n : Nat} (x : Tl H l ts n) (s : Same H H') : Tl H' l ts n := ⟨s _ _ x.lst, fun y hy => ⟨s _ _ (x.at_ y hy).1, (x.at_ y hy).2⟩⟩
structure Ml (t : Adr) (H : Hp) (l : Addr) (ms : List (Addr × Mv)) : Prop where
  lst : H l = some (.lst (ms.map fun y => V.ref y.1))
  at_ : ∀ y ∈ ms, IsMv t H y.1 y.2
theorem Ml.keep {t : Adr} {H H' : Hp} {l : Addr} {ms : List (Addr × Mv)} (x : Ml t H l ms) (s : Same H H') : Ml t H' l ms := ⟨s _ _ x.lst, fun y hy => let ⟨dx, h⟩ := x.at_ y hy; ⟨dx, s _ _ h⟩⟩
theorem ok_of {ms : List (Addr × Mv)} {mvs : List Mv} (e : ms.map (·.2) = mvs) (ok : ∀ m ∈ mvs, m.ok) : ∀ y ∈ ms, y.2.ok := fun y hy => ok _ (by rw [← e]; exact List.mem_map.mpr ⟨y, hy, rfl⟩)
theorem text_of {ms : List (Addr × Mv)} {mvs : List Mv} (e : ms.map (·.2) = mvs) : (ms.map fun x => mvText x.2) = mvs.map mvText := by rw [← e, List.map_map]; rfl
theorem doneAll_of : ∀ {ms ts : List (Addr × Mv)} (xs : List Nat), ms.map (·.2) = ts.map (·.2) → doneAll ms xs = doneAll ts xs
  | [], [], _, _ => rfl
  | [], _ :: _, _, h => by cases h
  | _ :: _, [], _, h => by cases h
  | m :: ms, s :: ts, xs, h => by
    rw [List.map_cons, List.map_cons] at h
    injection h with h1 h2
    show doneAll ms (pick xs (m.2.src xs.length)) = doneAll ts (pick xs (s.2.src xs.length))
    rw [h1]
    exact doneAll_of _ h2
theorem doneAll_take {ts : List (Addr × Mv)} {xs : List Nat} {i : Nat} {y : Addr × Mv} (h : ts[i]? = some y) : doneAll (ts.take (i + 1)) xs = pick (doneAll (ts.take i) xs) (y.2.src (doneAll (ts.take i) xs).length) := by
  rw [List.take_add_one, h]
  unfold doneAll
  rw [Option.toList_some, List.foldl_append]
  rfl
theorem nm_self {x y : Str} (h : x = y) : (!decide (V.str x = V.str y)) = false := by rw [h, decide_eq_true rfl]; rfl
section
variable {P : Program} {w : World} {K : PySem.W.Frag} {mg : Str → Option Value} {base : Heap} {t : Adr} {u : XA}
theorem kit_list_str : PySem.W.kitOne K (.type "list") (.type "str") = some false := rfl
theorem kit_int_str : PySem.W.kitOne K (.type "int") (.type "str") = some false := rfl
theorem kit_non_str : PySem.W.kitOne K (.type "NoneType") (.type "str") = some false := rfl
theorem ok_law {f : Addr} {fd : FuncData} (F : Fun K "law" "law" s_law f fd) (T : Txt K mg t) (f__law_cell_at : Fn1 P w K mg base 1 "_law_cell_at" (spCell K)) (f__law_draw : Fn1 P w K mg base 1 "_law_draw" spDraw) (f__law_many : Fn1 P w K mg base 2 "_law_many" spMany) (f__law_order : Fn1 P w K mg base 2 "_law_order" spOrder) (f__law_told : Fn1 P w K mg base 3 "_law_told" spTold) (f__law_text : Fn1 P w K mg base 1 "_law_text" (spText t)) (f__law_made : Fn1 P w K mg base 5 "_law_made" (spMade t)) (f__law_moved : Fn1 P w K mg base 2 "_law_moved" spMoved) (f_written : Fn1 P w K mg base 3 "written" (spWritten t)) (f_read : Fn1 P w K mg base 7 "read" (fun vs H Q _ => spRead K t u vs H Q E0)) (f_done_all : Fn1 P w K mg base 5 "done_all" (spDoneAll t)) (f__law_few : Fn1 P w K mg base 1 "_law_few" spFew) (f__law_writes : Fn1 P w K mg base 2 "_law_writes" spWrites) (f__law_refused : Fn1 P w K mg base 8 "_law_refused" (spRefused K)) : FnOk P w K mg base CX0 9 f fd ["_law_script"] (spLaw K) := by
  refine F.okG sc_law (fun vs H Q E h => ?_) (fun cdv A outer s H vs Q E hr h => ?_)
  · obtain ⟨a, ns, rfl, _⟩ := h
    rfl
  · obtain ⟨a, ns, rfl, ha, h63, q⟩ := h
    have nd := sc_law.nd
    have hu := hr.units0
    have big : (100000 : Nat) ≤ sizeLine := by decide
    refine ⟨_, (pss_cons (ps_set (i := 1) nd rfl (Or.inl rfl) (pe_fn f__law_many hr (by rfl) (pa_cons (pe_fn f__law_cell_at hr (by rfl) (pa_cons (pv 0) (pa_cons pe_int pa_nil))) (pa_cons pe_int pa_nil))))
 (pss_cons (ps_set (i := 2) nd rfl (Or.inl rfl) (pe_lst pa_nil))
 (pss_cons (ps_for PassesOwn.never rfl (pi_rng (pe_callTy call_rng1 (by rfl) T.no_range (show bootBuiltins "range" = some (.type "range") by decide +kernel) (pa_cons (pe_fn f__law_draw hr (by rfl) (pa_cons (pe_fn f__law_cell_at hr (by rfl) (pa_cons (pv 0) (pa_cons pe_int pa_nil))) (pa_cons pe_int (pa_cons pe_int pa_nil)))) pa_nil))) (pg_name (i := 3) nd rfl (Or.inl rfl))
 (pss_one (ps_expr (pe_bm PySem.F.plainAttrs_list PySem.F.slot_list_append PySem.F.type_list_append mt_append (pv 2) (pa_cons (pe_fn f__law_told hr (by rfl) (pa_cons (pe_op op_add (pe_fn f__law_cell_at hr (by rfl) (pa_cons (pv 0) (pa_cons (pe_op op_add pe_int (pv 3)) pa_nil))) (pe_op op_mul pe_int (pv 3))) (pa_cons (pv 1) pa_nil))) pa_nil)))))
 (pss_cons (ps_set (i := 4) nd rfl (Or.inl rfl) (pe_bm PySem.F.plainAttrs_str PySem.F.slot_str_join PySem.F.type_str_join mt_join pe_str (pa_cons (pe_lc (ys := []) (js := []) rfl (pi_list (pv 2)) rfl (by decide +kernel) (by decide +kernel) rfl rfl rfl (by decide +kernel) (fun _ _ _ _ => (pe_fn f__law_text hr (by rfl) (pa_cons (pv 0) pa_nil)))) pa_nil)))
 (pss_cons (ps_lcset (ys := []) (js := []) (i := 5) nd rfl rfl rfl (pi_list (pv 2)) rfl (by decide +kernel) (by decide +kernel) rfl rfl rfl (by decide +kernel) (fun _ _ _ _ => (pe_fn f__law_made hr (by rfl) (pa_cons (pv 0) pa_nil))))
 (pss_cons (ps_if (PW.pt (pw_or (pt_cmpR op_ne (pe_fn f_written hr (by rfl) (pa_cons (pv 5) pa_nil)) (pv 4) (nomark _)) (pw_or1 (pt_cmpR op_ne (pe_callB call_len_seq (by rfl) T.no_len (show bootBuiltins "len" = some (.builtin "len") by decide +kernel) (pa_cons (pv 5) pa_nil)) (pe_callB call_len_seq (by rfl) T.no_len (show bootBuiltins "len" = some (.builtin "len") by decide +kernel) (pa_cons (pv 2) pa_nil)) (nomark _)))))
 (pss_one (ps_ret pe_bl))
 pss_nil)
 (pss_cons (ps_set (i := 6) nd rfl (Or.inl rfl) (pe_fn f_read hr (by rfl) (pa_cons (pv 4) pa_nil)))
 (pss_cons (ps_if (PW.pt (pw_or (pt_not (pt_val (pe_callB call_isi (by rfl) T.no_isinstance (show bootBuiltins "isinstance" = some (.builtin "isinstance") by decide +kernel) (pa_cons (pv 6) (pa_cons (pe_bltn (v := .ty "list") rfl T.no_list (show bootBuiltins "list" = some (.type "list") by decide +kernel) rfl) pa_nil))))) (pw_or1 (pt_cmpR op_ne (pe_fn f_written hr (by rfl) (pa_cons (pv 6) pa_nil)) (pv 4) (nomark _)))))
 (pss_one (ps_ret pe_bl))
 pss_nil)
 (pss_cons (ps_set (i := 7) nd rfl (Or.inl rfl) (pe_fn f__law_order hr (by rfl) (pa_cons (pe_fn f__law_cell_at hr (by rfl) (pa_cons (pv 0) (pa_cons pe_int pa_nil))) (pa_cons (pv 1) pa_nil))))
 (pss_cons (ps_set (i := 8) nd rfl (Or.inl rfl) (pe_callTy call_list_of (by rfl) T.no_list (show bootBuiltins "list" = some (.type "list") by decide +kernel) (pa_cons (pv 7) pa_nil)))
 (pss_cons (ps_for PassesOwn.never rfl (pi_list (pv 2)) (pg_name (i := 9) nd rfl (Or.inl rfl))
 (pss_one (ps_set (i := 8) nd rfl (Or.inl rfl) (pe_fn f__law_moved hr (by rfl) (pa_cons (pv 8) (pa_cons (pv 9) pa_nil))))))
 (pss_cons (ps_if (pt_cmpR (op_neL hu) (pe_fn f_done_all hr (by rfl) (pa_cons (pv 6) (pa_cons (pv 7) pa_nil))) (pv 8) (nomark _))
 (pss_one (ps_ret pe_bl))
 pss_nil)
 (pss_cons (ps_expr (pe_bm PySem.F.plainAttrs_list PySem.F.slot_list_append PySem.F.type_list_append mt_append (pv 6) (pa_cons pe_int pa_nil)))
 (pss_cons (ps_if (pt_cmpR op_ne (pe_fn f_written hr (by rfl) (pa_cons (pe_fn f_read hr (by rfl) (pa_cons (pv 4) pa_nil)) pa_nil)) (pv 4) (nomark _))
 (pss_one (ps_ret pe_bl))
 pss_nil)
 (pss_cons (ps_set (i := 10) nd rfl (Or.inl rfl) (pe_op op_add (pe_op op_add (pe_fn f__law_cell_at hr (by rfl) (pa_cons (pv 0) (pa_cons pe_int pa_nil))) (pe_op op_mul pe_int (pe_fn f__law_cell_at hr (by rfl) (pa_cons (pv 0) (pa_cons pe_int pa_nil))))) (pe_op op_mul pe_int (pe_fn f__law_cell_at hr (by rfl) (pa_cons (pv 0) (pa_cons pe_int pa_nil))))))
 (pss_cons (ps_set (i := 11) nd rfl (Or.inl rfl) (pe_fn f__law_draw hr (by rfl) (pa_cons (pv 10) (pa_cons pe_int (pa_cons (pe_op op_add (pe_callB call_len_str (by rfl) T.no_len (show bootBuiltins "len" = some (.builtin "len") by decide +kernel) (pa_cons (pv 4) pa_nil)) pe_int) pa_nil)))))
 (pss_cons (ps_set (i := 12) nd rfl (Or.inl rfl) (pe_ix ix_str pe_str (pe_fn f__law_draw hr (by rfl) (pa_cons (pv 10) (pa_cons pe_int (pa_cons pe_int pa_nil)))) (fun _ _ => rfl)))
 (pss_cons (ps_set (i := 12) nd rfl (Or.inl rfl) (pe_ix ix_tup (pe_tup (pa_cons pe_str (pa_cons (pv 12) (pa_cons (pv 12) pa_nil)))) (pe_fn f__law_draw hr (by rfl) (pa_cons (pv 10) (pa_cons pe_int (pa_cons pe_int pa_nil)))) (fun _ _ => rfl)))
 (pss_cons (ps_set (i := 13) nd rfl (Or.inl rfl) (pe_op op_add_str (pe_op op_add_str (pe_slice sl_strAny (pv 4) po_none (po_some (pv 11))) (pv 12)) (pe_slice sl_strAny (pv 4) (po_some (pe_op op_add (pv 11) (pe_fn f__law_draw hr (by rfl) (pa_cons (pv 10) (pa_cons pe_int (pa_cons pe_int pa_nil)))))) po_none)))
 (pss_cons (ps_for PassesOwn.never rfl (pi_list (pe_op op_cat (pe_lst (pa_cons (pv 13) pa_nil)) (pe_fn0 f__law_few hr (by rfl)))) (pg_name (i := 9) nd rfl (Or.inl rfl))
 (pss_one (ps_if (pt_val (pe_fn f__law_writes hr (by rfl) (pa_cons (pv 9) pa_nil)))
 (pss_one (ps_if (pt_cmpR op_ne (pe_fn f_written hr (by rfl) (pa_cons (pe_fn f_read hr (by rfl) (pa_cons (pv 9) pa_nil)) pa_nil)) (pv 9) (nomark _))
 (pss_one (ps_ret pe_bl))
 pss_nil))
 (pss_one (ps_if (pt_not (pt_val (pe_fn f__law_refused hr (by rfl) (pa_cons (pv 9) pa_nil))))
 (pss_one (ps_ret pe_bl))
 pss_nil)))))
 (pss_one (ps_ret (pe_and (pe_fn f__law_refused hr (by rfl) (pa_cons pe_non pa_nil)) (pe_and (pe_fn f__law_refused hr (by rfl) (pa_cons pe_int pa_nil)) (pe_one (pe_fn f__law_refused hr (by rfl) (pa_cons (pe_lst (pa_cons pe_str pa_nil)) pa_nil))))))))))))))))))))))))))), ?_⟩
    refine ⟨_, rfl, a, ns, 0, rfl, ha, fun z1 => ⟨z1, 0, rfl, fun n h1 h60 => ?_⟩⟩
    refine ⟨(by decide), fun l1 hl1 => ?_⟩
    have e1 := (Same.refl H).new (o := .lst []) hl1
    refine ⟨_, rfl, a, ns, 1, rfl, e1.seq ha, fun z2 => ⟨z2, 0, 7, rfl, by decide, fun d hd => ⟨_, rfl, fun r4 h4 => ?_⟩⟩⟩
    have e4 := e1.new (o := rngO r4 0 (d : Int) 1) h4
    have hl4 : upd (upd H l1 (.lst [])) r4 (rngO r4 0 (d : Int) 1) l1 = some (.lst []) := by rw [upd_ne (ne_of_none upd_same h4)]; exact upd_same
    refine ⟨_, _, _, _, _, rfl, upd_same, rng_small (by decide) ⟨by omega, by omega⟩ (by decide) (by decide), rng_up, ?_⟩
    rw [show ((d : Int) - 0).toNat = d by omega]
    refine for_range3 (fun i σ H' => ∃ (b : Option V) (ts : List (Addr × Mv)), σ = [some (.ref a), some (.int (n : Int)), some (.ref l1), b, none, none, none, none, none, none, none, none, none, none] ∧ Same H H' ∧ Tl H' l1 ts n ∧ ts.length = i) ⟨none, [], rfl, e4, ⟨hl4, fun y hy => by cases hy⟩, rfl⟩ ?_ ?_
    · rintro i σ H' hi ⟨b, ts, rfl, se, TL, hlen⟩
      have eV : (0 : Int) + (i : Int) * 1 = (i : Int) := by omega
      rw [eV]
      refine ⟨_, rfl, .inl ⟨rfl, _, SqL.of TL.lst⟩, _, rfl, _, rfl, _, _, rfl, rfl, a, ns, 2 + i, ?_, se.seq ha, fun z3 => ⟨_, rfl, _, _, rfl, rfl, .inl ⟨by decide, by decide⟩, _, _, rfl, rfl, _, rfl, _, n, rfl, h1, h60, fun mv ok fit lt hlt => ?_⟩⟩
      · show [V.ref a, V.int (2 + (i : Int))] ++ [] = _
        rw [show ((2 + i : Nat) : Int) = 2 + (i : Int) by omega]
        rfl
      have s1 := Same.new (Same.refl H') (o := .tup (toldV mv)) hlt
      refine ⟨_, _, _, rfl, rfl, s1 _ _ TL.lst, by rw [List.length_map, hlen]; omega, ?_⟩
      have em : (ts.map fun y => V.ref y.1) ++ [V.ref lt] = (ts ++ [(lt, mv)]).map fun y => V.ref y.1 := by simp
      rw [em]
      have nt : ∀ (b : Addr) (m : Mv), upd H' lt (.tup (toldV mv)) b = some (.tup (toldV m)) → b ≠ l1 := fun b m h => ne_of h (s1 _ _ TL.lst) (by intro z; cases z)
      refine ⟨_, ts ++ [(lt, mv)], rfl, (se.trans s1).upd hl1, ⟨upd_same, fun y hy => ?_⟩, by rw [List.length_append, hlen]; rfl⟩
      rcases List.mem_append.mp hy with z | z
      · obtain ⟨h3, r⟩ := TL.at_ y z
        have h3' := s1 _ _ h3
        exact ⟨by rw [upd_ne (nt _ _ h3')]; exact h3', r⟩
      · have ey : y = (lt, mv) := by simpa using z
        subst ey
        exact ⟨by rw [upd_ne (nt lt mv upd_same)]; exact upd_same, ok, fit⟩
    · rintro σ H' ⟨b, ts, rfl, se, TL, hlen⟩
      have okt : ∀ m ∈ ts.map (·.2), m.ok := fun m hm => by
        obtain ⟨y, hy, rfl⟩ := List.mem_map.mp hm
        exact (TL.at_ y hy).2.1
      have ltx := join_len ((ts.map (·.2)).map mvText) fun p hp => by
        obtain ⟨m, hm, rfl⟩ := List.mem_map.mp hp
        exact (mv_len (okt m hm)).2
      have hpj := parts_join (ts.map (·.2)) okt
      rw [List.length_map, List.length_map] at ltx
      refine ⟨rfl, _, rfl, _, rfl, ⟨_, SqL.of TL.lst⟩, ?_⟩
      refine lc_go (K := K) (js := []) (xs := ts.map fun y => V.ref y.1) (fun i _ => .str (((ts.map (·.2)).map mvText).getD i Str.empty)) (SqL.of TL.lst) (by rw [List.length_map]; omega) (fun i x R hx hR => ?_) fun D hD => ?_
      · rw [List.getElem?_map] at hx
        cases hmi : ts[i]? with
        | none => rw [hmi] at hx; simp at hx
        | some y =>
          rw [hmi] at hx
          simp at hx
          subst hx
          obtain ⟨h3, h5, _⟩ := TL.at_ y (List.mem_of_getElem? hmi)
          have hgd : ((ts.map (·.2)).map mvText).getD i Str.empty = mvText y.2 := by simp [List.getD_eq_getElem?_getD, hmi]
          try dsimp only at hR
          rw [hgd] at hR
          exact ⟨_, rfl, y.1, y.2, rfl, h3, h5, hR⟩
      have em : (ts.map fun y => V.ref y.1).mapIdx (fun i _ => V.str (((ts.map (·.2)).map mvText).getD i Str.empty)) = ((ts.map (·.2)).map mvText).map V.str := by
        apply List.ext_getElem?
        intro j
        by_cases hj : j < ts.length <;> simp [hj]
      rw [em]
      refine ⟨_, _, _, rfl, rfl, SqL.of upd_same, ?_, ?_⟩
      · have hsum : (((ts.map (·.2)).map mvText).map (·.length)).sum ≤ 67 * ts.length := by
          have : ∀ l : List Mv, (∀ m ∈ l, m.ok) → ((l.map mvText).map (·.length)).sum ≤ 67 * l.length := by
            intro l
            induction l with
            | nil => intro _; simp
            | cons m l ih =>
              intro hl
              have g1 := (mv_len (hl m List.mem_cons_self)).2
              have g2 := ih fun x hx => hl x (List.mem_cons_of_mem _ hx)
              rw [List.map_cons, List.map_cons, List.sum_cons, List.length_cons]
              omega
          have := this _ okt
          rw [List.length_map] at this
          exact this
        rw [List.length_map, List.length_map]
        show _ + _ * 2 ≤ _
        omega
      rw [esep]
      generalize hTX : Str.join sepS ((ts.map (·.2)).map mvText) = TX at ltx hpj
      have TL2 := TL.keep (Same.new (Same.refl H') (o := .lst (((ts.map (·.2)).map mvText).map V.str)) hD)
      have se2 := se.new (o := .lst (((ts.map (·.2)).map mvText).map V.str)) hD
      revert TL2 se2
      generalize upd H' D (.lst (((ts.map (·.2)).map mvText).map V.str)) = H2
      intro TL2 se2
      have lx : TX.length ≤ 414 := by omega
      refine ⟨_, rfl, _, rfl, ⟨_, SqL.of TL2.lst⟩, ?_⟩
      refine lc_gen (K := K) (js := []) (xs := ts.map fun y => V.ref y.1) (fun i acc H3 => ∃ ms : List (Addr × Mv), Same H2 H3 ∧ acc = ms.map (fun y => V.ref y.1) ∧ ms.map (·.2) = (ts.map (·.2)).take i ∧ ∀ y ∈ ms, IsMv t H3 y.1 y.2)
        ⟨[], Same.refl _, rfl, rfl, fun y hy => by cases hy⟩ (by rw [List.length_map]; omega) (fun i acc H3 z => by obtain ⟨ms, s1, _⟩ := z; exact SqL.of (s1 _ _ TL2.lst)) ?_ ?_
      · rintro i x acc H3 R hx ⟨ms, s1, rfl, e2, im⟩ hR
        rw [List.getElem?_map] at hx
        cases hmi : ts[i]? with
        | none => rw [hmi] at hx; simp at hx
        | some y =>
          rw [hmi] at hx
          simp at hx
          subst hx
          obtain ⟨h3, h5, _⟩ := TL2.at_ y (List.mem_of_getElem? hmi)
          refine ⟨_, rfl, y.1, y.2, rfl, s1 _ _ h3, h5, fun p dx np ndx ne => hR _ _ ⟨ms ++ [(p, y.2)], s1.trans (mk_same np ndx ne), by simp, ?_, fun y' hy => ?_⟩⟩
          · rw [List.map_append, e2, List.take_add_one, List.getElem?_map, hmi]
            rfl
          · rcases List.mem_append.mp hy with z | z
            · obtain ⟨dx', h'⟩ := im y' z
              exact ⟨dx', mk_same np ndx ne _ _ h'⟩
            · have ey : y' = (p, y.2) := by simpa using z
              subst ey
              exact ⟨dx, upd_same⟩
      rintro acc H3 ⟨ms, s1, rfl, e2, im⟩ D5 hD5
      rw [List.length_map, List.take_of_length_le (by rw [List.length_map]; omega)] at e2
      have s35 := Same.new (Same.refl H3) (o := .lst (ms.map fun y => V.ref y.1)) hD5
      have ML5 : Ml t (upd H3 D5 (.lst (ms.map fun y => V.ref y.1))) D5 ms := ⟨upd_same, fun y hy => let ⟨dx, h'⟩ := im y hy; ⟨dx, s35 _ _ h'⟩⟩
      have TL5 := TL2.keep (s1.trans s35)
      have se5 := se2.trans (s1.trans s35)
      revert ML5 TL5 se5
      generalize upd H3 D5 (.lst (ms.map fun y => V.ref y.1)) = H5
      intro ML5 TL5 se5
      have lms : ms.length = ts.length := by have := congrArg List.length e2; simpa using this
      dsimp only [gName]
      refine ⟨_, rfl, D5, ms, rfl, ML5.lst, fun y hy => ⟨ML5.at_ y hy, ok_of e2 okt y hy⟩, by omega, _, rfl, rfl, _, rfl, ?_⟩
      rw [esep, text_of e2, hTX, nm_self rfl]
      refine iteF ?_
      refine ⟨_, rfl, _, _, rfl, .inl (SqL.of ML5.lst), _, rfl, _, _, rfl, .inl (SqL.of TL5.lst), rfl, _, rfl, ?_⟩
      rw [show (!decide (V.int (((ms.map fun y => V.ref y.1).length : Nat) : Int) = V.int (((ts.map fun y => V.ref y.1).length : Nat) : Int))) = false by rw [List.length_map, List.length_map, lms, decide_eq_true rfl]; rfl]
      refine iteF ?_
      refine ⟨_, rfl, .inr ⟨TX, rfl, by omega, .inl ⟨ts.map (·.2), hpj.symm, okt, fun l6 ms6 H6 s6 nl6 hl6 em6 im6 => ?_⟩⟩⟩
      have ML6 : Ml t H6 l6 ms6 := ⟨hl6, im6⟩
      have TL6 := TL5.keep s6
      have se6 := se5.trans s6
      have lms6 : ms6.length = ts.length := by have := congrArg List.length em6; simpa using this
      refine ⟨_, rfl, _, _, _, _, rfl, .lst hl6, .inl ⟨_, rfl⟩, kit_list_list, _, rfl, ?_⟩
      refine iteF ?_
      refine ⟨_, rfl, l6, ms6, rfl, ML6.lst, fun y hy => ⟨ML6.at_ y hy, ok_of em6 okt y hy⟩, by omega, _, rfl, rfl, _, rfl, ?_⟩
      rw [esep, text_of em6, hTX, nm_self rfl]
      refine iteF ?_
      refine ⟨_, rfl, a, ns, 9, rfl, se6.seq ha, fun z9 => ⟨_, rfl, z9, n, rfl, h1, h60, fun xs g hxl lo hlo => ?_⟩⟩
      refine ⟨_, rfl, _, _, rfl, .inl (SqL.of upd_same), fun ln hln => ?_⟩
      have s67 := (Same.new (Same.refl H6) (o := .lst (nv xs)) hlo).new (o := .lst (nv xs)) hln
      have hO7 : upd (upd H6 lo (.lst (nv xs))) ln (.lst (nv xs)) lo = some (.lst (nv xs)) := by rw [upd_ne (ne_of_none upd_same hln)]; exact upd_same
      have hN7 : upd (upd H6 lo (.lst (nv xs))) ln (.lst (nv xs)) ln = some (.lst (nv xs)) := upd_same
      have TL7 := TL6.keep s67
      have ML7 := ML6.keep s67
      have se7 := se6.trans s67
      revert hO7 hN7 TL7 ML7 se7
      generalize upd (upd H6 lo (.lst (nv xs))) ln (.lst (nv xs)) = H7
      intro hO7 hN7 TL7 ML7 se7
      have fitx : ∀ y ∈ ts, y.2.fits xs.length := fun y hy => by rw [hxl]; exact (TL7.at_ y hy).2.2
      refine ⟨_, rfl, _, rfl, ⟨_, SqL.of TL7.lst⟩, ?_⟩
      refine for_list (xs := ts.map fun y => V.ref y.1) (fun i σ H8 => ∃ (lw : Addr) (b9 : Option V), σ = [some (.ref a), some (.int (n : Int)), some (.ref l1), b, some (.str TX), some (.ref D5), some (.ref l6), some (.ref lo), some (.ref lw), b9, none, none, none, none] ∧ Same H7 H8 ∧ H8 lw = some (.lst (nv (doneAll (ts.take i) xs))) ∧ Good (doneAll (ts.take i) xs) ∧ (doneAll (ts.take i) xs).length = xs.length)
        ⟨ln, none, rfl, Same.refl _, hN7, g, rfl⟩ (fun i σ H8 _ z => by obtain ⟨_, _, _, s8, _⟩ := z; exact SqL.of (s8 _ _ TL7.lst)) ?_ ?_
      · rintro i x σ H8 hx ⟨lw, b9, rfl, s8, hW, gW, lW⟩
        rw [List.getElem?_map] at hx
        cases hmi : ts[i]? with
        | none => rw [hmi] at hx; simp at hx
        | some y =>
          rw [hmi] at hx
          simp at hx
          subst hx
          have hy := List.mem_of_getElem? hmi
          obtain ⟨h3, h5, _⟩ := TL7.at_ y hy
          have fit' : y.2.fits (doneAll (ts.take i) xs).length := by rw [lW]; exact fitx y hy
          refine ⟨_, rfl, _, rfl, lw, y.1, _, y.2, rfl, hW, s8 _ _ h3, h5, fit', gW.2.1, gW.2.2, fun l hl => ?_⟩
          have gp := gW.pick h5 fit'
          rw [← doneAll_take hmi] at gp ⊢
          exact ⟨l, _, rfl, s8.new hl, upd_same, gp.1, by rw [gp.2, lW]⟩
      rintro σ H8 ⟨lw, b9, rfl, s8, hW, gW, lW⟩
      rw [List.length_map, List.take_of_length_le (Nat.le_refl _)] at hW gW lW
      have ML8 := ML7.keep s8
      have TL8 := TL7.keep s8
      have se8 := se7.trans s8
      refine ⟨_, rfl, _, rfl, l6, lo, ms6, xs, rfl, ML8.lst, fun y hy => ?_, s8 _ _ hO7, g, fun p hp => ?_⟩
      · obtain ⟨k, hk⟩ := List.mem_iff_getElem?.mp hy
        have hk2 : (ts.map (·.2))[k]? = some y.2 := by rw [← em6, List.getElem?_map, hk]; rfl
        rw [List.getElem?_map] at hk2
        cases htk : ts[k]? with
        | none => rw [htk] at hk2; cases hk2
        | some y' =>
          rw [htk] at hk2
          have e' : y'.2 = y.2 := by simpa using hk2
          exact ⟨ML8.at_ y hy, ok_of em6 okt y hy, by rw [← e']; exact fitx y' (List.mem_of_getElem? htk)⟩
      have s9 := Same.new (Same.refl H8) (o := .lst (nv (doneAll ms6 xs))) hp
      refine ⟨_, rfl, _, _, _, _, rfl, rfl, SqL.of upd_same, SqL.of (s9 _ _ hW), nv_flat _, nv_flat _, _, rfl, ?_⟩
      rw [doneAll_of xs em6, eqVs_self]
      refine iteF ?_
      have ML9 := ML8.keep s9
      have se9 := se8.trans s9
      rw [doneAll_of xs em6] at ML9 se9
      revert ML9 se9
      generalize upd H8 p (.lst (nv (doneAll ts xs))) = H9
      intro ML9 se9
      refine ⟨_, rfl, .inl ⟨rfl, _, SqL.of ML9.lst⟩, _, _, _, rfl, rfl, ML9.lst, by rw [List.length_map]; omega, ?_⟩
      have se10 := se9.upd (o := .lst ((ms6.map fun y => V.ref y.1) ++ [V.int 0])) ((se5.free nl6))
      revert se10
      generalize upd H9 l6 (.lst ((ms6.map fun y => V.ref y.1) ++ [V.int 0])) = H10
      intro se10
      refine ⟨_, rfl, .inr ⟨TX, rfl, by omega, .inl ⟨ts.map (·.2), hpj.symm, okt, fun l11 ms11 H11 s11 nl11 hl11 em11 im11 => ?_⟩⟩⟩
      have lms11 : ms11.length = ts.length := by have := congrArg List.length em11; simpa using this
      refine ⟨l11, ms11, rfl, hl11, fun y hy => ⟨im11 y hy, ok_of em11 okt y hy⟩, by omega, _, rfl, rfl, _, rfl, ?_⟩
      rw [esep, text_of em11, hTX, nm_self rfl]
      refine iteF ?_
      have se11 := se10.trans s11
      refine ⟨_, rfl, a, ns, 10, rfl, se11.seq ha, fun z10 => ⟨_, rfl, a, ns, 0, rfl, se11.seq ha, fun z0 => ⟨_, _, rfl, rfl, .inl ⟨by decide, by decide⟩, _, _, rfl, rfl, _, rfl, a, ns, 1, rfl, se11.seq ha, fun z11 => ⟨_, _, rfl, rfl, .inl ⟨by decide, by decide⟩, _, _, rfl, rfl, ?_⟩⟩⟩⟩
      refine ⟨_, rfl, _, rfl, _, rfl, by omega, _, _, rfl, rfl, z10 + 31 * z0 + 7 * z11, 1, TX.length + 1, ?_, by omega, fun at_ hat => ?_⟩
      · show [V.int (z10 + 31 * z0 + 7 * z11), V.int 1, V.int ((TX.length : Int) + 1)] ++ [] = _
        rw [show ((TX.length + 1 : Nat) : Int) = (TX.length : Int) + 1 by omega]
        rfl
      refine ⟨_, rfl, _, 2, 38, rfl, by decide, fun k2 hk2 => ?_⟩
      obtain ⟨c2, hc2⟩ : ∃ c, (tl (Str.ofString "0123456789ab;. cutdealriffleunderweave"))[k2]? = some c := ⟨_, List.getElem?_eq_getElem (by rw [show (tl (Str.ofString "0123456789ab;. cutdealriffleunderweave")).length = 38 by decide +kernel]; exact hk2)⟩
      refine ⟨_, _, c2, rfl, rfl, (by show 38 ≤ sizeLine; decide), atI_nat hc2, ?_⟩
      refine ⟨_, rfl, _, rfl, (by show 3 ≤ sizeLine; decide), fun l109 h109 => ?_⟩
      have se12 := se11.new (o := .tup [.str (Str.ofString ""), .str ⟨#[c2]⟩, .str ⟨#[c2]⟩]) h109
      refine ⟨_, rfl, _, 3, 3, rfl, by decide, fun k3 hk3 => ?_⟩
      obtain ⟨sg, hsg, lsg⟩ : ∃ sg : Str, ([.str (Str.ofString ""), .str ⟨#[c2]⟩, .str ⟨#[c2]⟩] : List V)[k3]? = some (.str sg) ∧ sg.length ≤ 1 := by
        match k3, hk3 with
        | 0, _ => exact ⟨_, rfl, by decide⟩
        | 1, _ => exact ⟨_, rfl, Nat.le_refl _⟩
        | 2, _ => exact ⟨_, rfl, Nat.le_refl _⟩
      refine ⟨_, _, _, _, rfl, rfl, SqT.of upd_same, atI_nat hsg, ?_⟩
      revert se12
      generalize upd H11 l109 (.tup [.str (Str.ofString ""), .str ⟨#[c2]⟩, .str ⟨#[c2]⟩]) = H12
      intro se12
      refine ⟨_, rfl, _, rfl, _, rfl, TX, rfl, by omega, fun t1 ht1 => ?_⟩
      refine ⟨_, rfl, _, _, rfl, rfl, by omega, ?_⟩
      refine ⟨_, rfl, _, rfl, _, rfl, _, 4, 2, rfl, by decide, fun k4 hk4 => ⟨_, _, rfl, rfl, _, rfl, TX, rfl, by omega, fun t2 ht2 => ?_⟩⟩
      refine ⟨_, _, rfl, rfl, by rw [str_app_len]; omega, ?_⟩
      have lot : (t1 ++ sg ++ t2).length ≤ 900 := by rw [str_app_len, str_app_len]; omega
      generalize t1 ++ sg ++ t2 = ot at lot
      refine ⟨_, rfl, (by show 1 ≤ sizeLine; decide), fun l123 h123 => ?_⟩
      refine ⟨rfl, fun zs hz1 hz2 lf hlf => ?_⟩
      refine ⟨_, _, _, _, rfl, rfl, Same.new (Same.refl _) hlf _ _ upd_same, upd_same, by rw [List.length_map]; show 1 + zs.length ≤ _; omega, fun l127 h127 => ?_⟩
      have hLL : upd (upd (upd H12 l123 (.lst [V.str ot])) lf (.lst (zs.map V.str))) l127 (.lst ([V.str ot] ++ zs.map V.str)) l127 = some (.lst ((ot :: zs).map V.str)) := upd_same
      revert hLL
      generalize upd (upd (upd H12 l123 (.lst [V.str ot])) lf (.lst (zs.map V.str))) l127 (.lst ([V.str ot] ++ zs.map V.str)) = H13
      intro hLL
      refine ⟨_, rfl, ⟨_, SqL.of hLL⟩, ?_⟩
      refine for_list (xs := (ot :: zs).map V.str) (fun i σ H14 => (∃ v9 v10 : Option V, σ = [some (.ref a), some (.int (n : Int)), some (.ref l1), b, some (.str TX), some (.ref D5), some (.ref l6), some (.ref lo), some (.ref lw), v9, v10, some (.int (at_ : Int)), some (.str sg), some (.str ot)]) ∧ Same H13 H14)
        ⟨⟨_, _, rfl⟩, Same.refl _⟩ (fun i σ H14 _ z => SqL.of (z.2 _ _ hLL)) ?_ ?_
      · rintro i x σ H14 hx ⟨⟨v9, v10, rfl⟩, s14⟩
        rw [List.getElem?_map] at hx
        cases hzi : (ot :: zs)[i]? with
        | none => rw [hzi] at hx; simp at hx
        | some z =>
          rw [hzi] at hx
          simp at hx
          subst hx
          have lz : z.length ≤ 900 := by
            rcases List.mem_cons.mp (List.mem_of_getElem? hzi) with e | e
            · rw [e]; exact lot
            · have := hz2 z e; omega
          refine ⟨_, rfl, z, rfl, by omega, fun bw hbw => ⟨_, rfl, ?_⟩⟩
          cases bw with
          | true =>
            refine iteT ?_
            obtain ⟨mvs, emv, okm⟩ := choose_mvs _ (hbw.mp rfl)
            refine ⟨_, rfl, .inr ⟨z, rfl, by omega, .inl ⟨mvs, emv, okm, fun l15 ms15 H15 s15 nl15 hl15 em15 im15 => ?_⟩⟩⟩
            have l15' : ms15.length ≤ 1000 := by
              have h1 := congrArg List.length em15
              have h2 := congrArg List.length emv
              rw [List.length_map] at h1 h2
              have h3 : (parts z).length ≤ z.length + 2 := by
                unfold parts
                split
                · simp
                · exact (split_len z).1
              omega
            refine ⟨l15, ms15, rfl, hl15, fun y hy => ⟨im15 y hy, ok_of em15 okm y hy⟩, l15', _, rfl, rfl, _, rfl, ?_⟩
            rw [esep, text_of em15, emv, join_parts, nm_self rfl]
            refine iteF ?_
            exact ⟨⟨_, _, rfl⟩, s14.trans s15⟩
          | false =>
            refine iteF ?_
            refine ⟨_, rfl, .str z, rfl, .inr ⟨z, rfl, by omega, ?_⟩, _, rfl, ?_⟩
            · apply Classical.byContradiction
              intro hno
              have : false = true := hbw.mpr fun p hp => Classical.byContradiction fun hne => hno ⟨p, hp, fun mv wr => hne ⟨mv, wr⟩⟩
              cases this
            refine iteF ?_
            exact ⟨⟨_, _, rfl⟩, s14⟩
      · rintro σ H14 ⟨⟨v9, v10, rfl⟩, s14⟩
        refine ⟨.non, rfl, .inl ⟨_, .non, kit_non_str⟩, _, rfl, ?_⟩
        refine iteT ?_
        refine ⟨.int 5, rfl, .inl ⟨_, .int 5, kit_int_str⟩, _, rfl, ?_⟩
        refine iteT ?_
        refine ⟨(by decide), fun l16 h16 => ?_⟩
        refine ⟨.ref l16, rfl, .inl ⟨_, .lst upd_same, kit_list_str⟩, ?_⟩
        exact ⟨_, fun _ c => Gc.refl c, q _⟩
end
end Rf

set_option Elab.async false
set_option linter.all false
set_option maxRecDepth 100000
set_option maxHeartbeats 4000000
namespace Rf
open PySem L2
theorem all_mk {l : PySem.W.OpenLaw} {w : World} {K : PySem.W.Frag} {h : Heap} {mg : Str → Option Value} {fa : Addr} (X : K.In h) (G : h.Ns mainGlobals mg) (hfa : mg "law" = some (.ref fa))
    {f_is_number : Addr} {od_is_number an_is_number : Option Addr} {sl_is_number : Array (Option Value)} {oc_is_number kV_is_number dc_is_number pm_is_number cd_is_number ct_is_number : Value}
    {f_is_order : Addr} {od_is_order an_is_order : Option Addr} {sl_is_order : Array (Option Value)} {oc_is_order kV_is_order dc_is_order pm_is_order cd_is_order ct_is_order : Value}
    {f_check_order : Addr} {od_check_order an_check_order : Option Addr} {sl_check_order : Array (Option Value)} {oc_check_order kV_check_order dc_check_order pm_check_order cd_check_order ct_check_order : Value}
    {f_is_word : Addr} {od_is_word an_is_word : Option Addr} {sl_is_word : Array (Option Value)} {oc_is_word kV_is_word dc_is_word pm_is_word cd_is_word ct_is_word : Value}
    {f_riffle_sources : Addr} {od_riffle_sources an_riffle_sources : Option Addr} {sl_riffle_sources : Array (Option Value)} {oc_riffle_sources kV_riffle_sources dc_riffle_sources pm_riffle_sources cd_riffle_sources ct_riffle_sources : Value}
    {f_check_move : Addr} {od_check_move an_check_move : Option Addr} {sl_check_move : Array (Option Value)} {oc_check_move kV_check_move dc_check_move pm_check_move cd_check_move ct_check_move : Value}
    {f_check_moves : Addr} {od_check_moves an_check_moves : Option Addr} {sl_check_moves : Array (Option Value)} {oc_check_moves kV_check_moves dc_check_moves pm_check_moves cd_check_moves ct_check_moves : Value}
    {f_done_all : Addr} {od_done_all an_done_all : Option Addr} {sl_done_all : Array (Option Value)} {oc_done_all kV_done_all dc_done_all pm_done_all cd_done_all ct_done_all : Value}
    {f_written : Addr} {od_written an_written : Option Addr} {sl_written : Array (Option Value)} {oc_written kV_written dc_written pm_written cd_written ct_written : Value}
    {f_read : Addr} {od_read an_read : Option Addr} {sl_read : Array (Option Value)} {oc_read kV_read dc_read pm_read cd_read ct_read : Value}
    {f_move_written : Addr} {od_move_written an_move_written : Option Addr} {sl_move_written : Array (Option Value)} {oc_move_written kV_move_written dc_move_written pm_move_written cd_move_written ct_move_written : Value}
    {f_move_read : Addr} {od_move_read an_move_read : Option Addr} {sl_move_read : Array (Option Value)} {oc_move_read kV_move_read dc_move_read pm_move_read cd_move_read ct_move_read : Value}
    {f_move_made : Addr} {od_move_made an_move_made : Option Addr} {sl_move_made : Array (Option Value)} {oc_move_made kV_move_made dc_move_made pm_move_made cd_move_made ct_move_made : Value}
    {f_number_read : Addr} {od_number_read an_number_read : Option Addr} {sl_number_read : Array (Option Value)} {oc_number_read kV_number_read dc_number_read pm_number_read cd_number_read ct_number_read : Value}
    {f__law_cell_at : Addr} {od__law_cell_at an__law_cell_at : Option Addr} {sl__law_cell_at : Array (Option Value)} {oc__law_cell_at kV__law_cell_at dc__law_cell_at pm__law_cell_at cd__law_cell_at ct__law_cell_at : Value}
    {f__law_draw : Addr} {od__law_draw an__law_draw : Option Addr} {sl__law_draw : Array (Option Value)} {oc__law_draw kV__law_draw dc__law_draw pm__law_draw cd__law_draw ct__law_draw : Value}
    {f__law_order : Addr} {od__law_order an__law_order : Option Addr} {sl__law_order : Array (Option Value)} {oc__law_order kV__law_order dc__law_order pm__law_order cd__law_order ct__law_order : Value}
    {f__law_many : Addr} {od__law_many an__law_many : Option Addr} {sl__law_many : Array (Option Value)} {oc__law_many kV__law_many dc__law_many pm__law_many cd__law_many ct__law_many : Value}
    {f__law_word : Addr} {od__law_word an__law_word : Option Addr} {sl__law_word : Array (Option Value)} {oc__law_word kV__law_word dc__law_word pm__law_word cd__law_word ct__law_word : Value}
    {f__law_riffled : Addr} {od__law_riffled an__law_riffled : Option Addr} {sl__law_riffled : Array (Option Value)} {oc__law_riffled kV__law_riffled dc__law_riffled pm__law_riffled cd__law_riffled ct__law_riffled : Value}
    {f__law_dealt : Addr} {od__law_dealt an__law_dealt : Option Addr} {sl__law_dealt : Array (Option Value)} {oc__law_dealt kV__law_dealt dc__law_dealt pm__law_dealt cd__law_dealt ct__law_dealt : Value}
    {f__law_under : Addr} {od__law_under an__law_under : Option Addr} {sl__law_under : Array (Option Value)} {oc__law_under kV__law_under dc__law_under pm__law_under cd__law_under ct__law_under : Value}
    {f__law_moved : Addr} {od__law_moved an__law_moved : Option Addr} {sl__law_moved : Array (Option Value)} {oc__law_moved kV__law_moved dc__law_moved pm__law_moved cd__law_moved ct__law_moved : Value}
    {f__law_told : Addr} {od__law_told an__law_told : Option Addr} {sl__law_told : Array (Option Value)} {oc__law_told kV__law_told dc__law_told pm__law_told cd__law_told ct__law_told : Value}
    {f__law_made : Addr} {od__law_made an__law_made : Option Addr} {sl__law_made : Array (Option Value)} {oc__law_made kV__law_made dc__law_made pm__law_made cd__law_made ct__law_made : Value}
    {f__law_text : Addr} {od__law_text an__law_text : Option Addr} {sl__law_text : Array (Option Value)} {oc__law_text kV__law_text dc__law_text pm__law_text cd__law_text ct__law_text : Value}
    {f__law_number : Addr} {od__law_number an__law_number : Option Addr} {sl__law_number : Array (Option Value)} {oc__law_number kV__law_number dc__law_number pm__law_number cd__law_number ct__law_number : Value}
    {f__law_writes : Addr} {od__law_writes an__law_writes : Option Addr} {sl__law_writes : Array (Option Value)} {oc__law_writes kV__law_writes dc__law_writes pm__law_writes cd__law_writes ct__law_writes : Value}
    {f__law_refused : Addr} {od__law_refused an__law_refused : Option Addr} {sl__law_refused : Array (Option Value)} {oc__law_refused kV__law_refused dc__law_refused pm__law_refused cd__law_refused ct__law_refused : Value}
    {f__law_few : Addr} {od__law_few an__law_few : Option Addr} {sl__law_few : Array (Option Value)} {oc__law_few kV__law_few dc__law_few pm__law_few cd__law_few ct__law_few : Value}
    {f_law : Addr} {od_law an_law : Option Addr} {sl_law : Array (Option Value)} {oc_law kV_law dc_law pm_law cd_law ct_law : Value}
    {f_Cut___init__ : Addr} {od_Cut___init__ an_Cut___init__ : Option Addr} {sl_Cut___init__ : Array (Option Value)} {oc_Cut___init__ kV_Cut___init__ dc_Cut___init__ pm_Cut___init__ cd_Cut___init__ ct_Cut___init__ : Value}
    {f_Turn___init__ : Addr} {od_Turn___init__ an_Turn___init__ : Option Addr} {sl_Turn___init__ : Array (Option Value)} {oc_Turn___init__ kV_Turn___init__ dc_Turn___init__ pm_Turn___init__ cd_Turn___init__ ct_Turn___init__ : Value}
    {f_Deal___init__ : Addr} {od_Deal___init__ an_Deal___init__ : Option Addr} {sl_Deal___init__ : Array (Option Value)} {oc_Deal___init__ kV_Deal___init__ dc_Deal___init__ pm_Deal___init__ cd_Deal___init__ ct_Deal___init__ : Value}
    {f_Under___init__ : Addr} {od_Under___init__ an_Under___init__ : Option Addr} {sl_Under___init__ : Array (Option Value)} {oc_Under___init__ kV_Under___init__ dc_Under___init__ pm_Under___init__ cd_Under___init__ ct_Under___init__ : Value}
    {f_Weave___init__ : Addr} {od_Weave___init__ an_Weave___init__ : Option Addr} {sl_Weave___init__ : Array (Option Value)} {oc_Weave___init__ kV_Weave___init__ dc_Weave___init__ pm_Weave___init__ cd_Weave___init__ ct_Weave___init__ : Value}
    {f_Riffle___init__ : Addr} {od_Riffle___init__ an_Riffle___init__ : Option Addr} {sl_Riffle___init__ : Array (Option Value)} {oc_Riffle___init__ kV_Riffle___init__ dc_Riffle___init__ pm_Riffle___init__ cd_Riffle___init__ ct_Riffle___init__ : Value}
    {f_Cut_sources : Addr} {od_Cut_sources an_Cut_sources : Option Addr} {sl_Cut_sources : Array (Option Value)} {oc_Cut_sources kV_Cut_sources dc_Cut_sources pm_Cut_sources cd_Cut_sources ct_Cut_sources : Value}
    {f_Turn_sources : Addr} {od_Turn_sources an_Turn_sources : Option Addr} {sl_Turn_sources : Array (Option Value)} {oc_Turn_sources kV_Turn_sources dc_Turn_sources pm_Turn_sources cd_Turn_sources ct_Turn_sources : Value}
    {f_Deal_sources : Addr} {od_Deal_sources an_Deal_sources : Option Addr} {sl_Deal_sources : Array (Option Value)} {oc_Deal_sources kV_Deal_sources dc_Deal_sources pm_Deal_sources cd_Deal_sources ct_Deal_sources : Value}
    {f_Under_sources : Addr} {od_Under_sources an_Under_sources : Option Addr} {sl_Under_sources : Array (Option Value)} {oc_Under_sources kV_Under_sources dc_Under_sources pm_Under_sources cd_Under_sources ct_Under_sources : Value}
    {f_Weave_sources : Addr} {od_Weave_sources an_Weave_sources : Option Addr} {sl_Weave_sources : Array (Option Value)} {oc_Weave_sources kV_Weave_sources dc_Weave_sources pm_Weave_sources cd_Weave_sources ct_Weave_sources : Value}
    {f_Riffle_sources : Addr} {od_Riffle_sources an_Riffle_sources : Option Addr} {sl_Riffle_sources : Array (Option Value)} {oc_Riffle_sources kV_Riffle_sources dc_Riffle_sources pm_Riffle_sources cd_Riffle_sources ct_Riffle_sources : Value}
    {f_Move_done : Addr} {od_Move_done an_Move_done : Option Addr} {sl_Move_done : Array (Option Value)} {oc_Move_done kV_Move_done dc_Move_done pm_Move_done cd_Move_done ct_Move_done : Value}
    {C_Move : Addr}
    {C_Cut : Addr}
    {C_Turn : Addr}
    {C_Deal : Addr}
    {C_Under : Addr}
    {C_Weave : Addr}
    {C_Riffle : Addr}
    {C_PackError C_BadOrder C_BadMove C_BadNumber C_BadText : Addr}
    {tok60 : Tok}
    (A_Move : PySem.W.nsIn K mainGlobals "Move" = some (some (.ref C_Move)))
    (A_Cut : PySem.W.nsIn K mainGlobals "Cut" = some (some (.ref C_Cut)))
    (A_Turn : PySem.W.nsIn K mainGlobals "Turn" = some (some (.ref C_Turn)))
    (A_Deal : PySem.W.nsIn K mainGlobals "Deal" = some (some (.ref C_Deal)))
    (A_Under : PySem.W.nsIn K mainGlobals "Under" = some (some (.ref C_Under)))
    (A_Weave : PySem.W.nsIn K mainGlobals "Weave" = some (some (.ref C_Weave)))
    (A_Riffle : PySem.W.nsIn K mainGlobals "Riffle" = some (some (.ref C_Riffle)))
    (a_is_number : PySem.W.nsIn K mainGlobals "is_number" = some (some (.ref f_is_number)))
    (a_is_order : PySem.W.nsIn K mainGlobals "is_order" = some (some (.ref f_is_order)))
    (a_check_order : PySem.W.nsIn K mainGlobals "check_order" = some (some (.ref f_check_order)))
    (a_is_word : PySem.W.nsIn K mainGlobals "is_word" = some (some (.ref f_is_word)))
    (a_riffle_sources : PySem.W.nsIn K mainGlobals "riffle_sources" = some (some (.ref f_riffle_sources)))
    (a_check_move : PySem.W.nsIn K mainGlobals "check_move" = some (some (.ref f_check_move)))
    (a_check_moves : PySem.W.nsIn K mainGlobals "check_moves" = some (some (.ref f_check_moves)))
    (a_done_all : PySem.W.nsIn K mainGlobals "done_all" = some (some (.ref f_done_all)))
    (a_written : PySem.W.nsIn K mainGlobals "written" = some (some (.ref f_written)))
    (a_read : PySem.W.nsIn K mainGlobals "read" = some (some (.ref f_read)))
    (a_move_written : PySem.W.nsIn K mainGlobals "move_written" = some (some (.ref f_move_written)))
    (a_move_read : PySem.W.nsIn K mainGlobals "move_read" = some (some (.ref f_move_read)))
    (a_move_made : PySem.W.nsIn K mainGlobals "move_made" = some (some (.ref f_move_made)))
    (a_number_read : PySem.W.nsIn K mainGlobals "number_read" = some (some (.ref f_number_read)))
    (a__law_cell_at : PySem.W.nsIn K mainGlobals "_law_cell_at" = some (some (.ref f__law_cell_at)))
    (a__law_draw : PySem.W.nsIn K mainGlobals "_law_draw" = some (some (.ref f__law_draw)))
    (a__law_order : PySem.W.nsIn K mainGlobals "_law_order" = some (some (.ref f__law_order)))
    (a__law_many : PySem.W.nsIn K mainGlobals "_law_many" = some (some (.ref f__law_many)))
    (a__law_word : PySem.W.nsIn K mainGlobals "_law_word" = some (some (.ref f__law_word)))
    (a__law_riffled : PySem.W.nsIn K mainGlobals "_law_riffled" = some (some (.ref f__law_riffled)))
    (a__law_dealt : PySem.W.nsIn K mainGlobals "_law_dealt" = some (some (.ref f__law_dealt)))
    (a__law_under : PySem.W.nsIn K mainGlobals "_law_under" = some (some (.ref f__law_under)))
    (a__law_moved : PySem.W.nsIn K mainGlobals "_law_moved" = some (some (.ref f__law_moved)))
    (a__law_told : PySem.W.nsIn K mainGlobals "_law_told" = some (some (.ref f__law_told)))
    (a__law_made : PySem.W.nsIn K mainGlobals "_law_made" = some (some (.ref f__law_made)))
    (a__law_text : PySem.W.nsIn K mainGlobals "_law_text" = some (some (.ref f__law_text)))
    (a__law_number : PySem.W.nsIn K mainGlobals "_law_number" = some (some (.ref f__law_number)))
    (a__law_writes : PySem.W.nsIn K mainGlobals "_law_writes" = some (some (.ref f__law_writes)))
    (a__law_refused : PySem.W.nsIn K mainGlobals "_law_refused" = some (some (.ref f__law_refused)))
    (a__law_few : PySem.W.nsIn K mainGlobals "_law_few" = some (some (.ref f__law_few)))
    (a_law : PySem.W.nsIn K mainGlobals "law" = some (some (.ref f_law)))
    (a_Cut___init__ : PySem.W.findIn K (.ref C_Cut) "__init__" = some (some (.ref f_Cut___init__)))
    (i_Cut___init__ : PySem.W.isFn K (.ref f_Cut___init__) = true)
    (a_Turn___init__ : PySem.W.findIn K (.ref C_Turn) "__init__" = some (some (.ref f_Turn___init__)))
    (i_Turn___init__ : PySem.W.isFn K (.ref f_Turn___init__) = true)
    (a_Deal___init__ : PySem.W.findIn K (.ref C_Deal) "__init__" = some (some (.ref f_Deal___init__)))
    (i_Deal___init__ : PySem.W.isFn K (.ref f_Deal___init__) = true)
    (a_Under___init__ : PySem.W.findIn K (.ref C_Under) "__init__" = some (some (.ref f_Under___init__)))
    (i_Under___init__ : PySem.W.isFn K (.ref f_Under___init__) = true)
    (a_Weave___init__ : PySem.W.findIn K (.ref C_Weave) "__init__" = some (some (.ref f_Weave___init__)))
    (i_Weave___init__ : PySem.W.isFn K (.ref f_Weave___init__) = true)
    (a_Riffle___init__ : PySem.W.findIn K (.ref C_Riffle) "__init__" = some (some (.ref f_Riffle___init__)))
    (i_Riffle___init__ : PySem.W.isFn K (.ref f_Riffle___init__) = true)
    (a_Cut_sources : PySem.W.findIn K (.ref C_Cut) "sources" = some (some (.ref f_Cut_sources)))
    (i_Cut_sources : PySem.W.isFn K (.ref f_Cut_sources) = true)
    (a_Turn_sources : PySem.W.findIn K (.ref C_Turn) "sources" = some (some (.ref f_Turn_sources)))
    (i_Turn_sources : PySem.W.isFn K (.ref f_Turn_sources) = true)
    (a_Deal_sources : PySem.W.findIn K (.ref C_Deal) "sources" = some (some (.ref f_Deal_sources)))
    (i_Deal_sources : PySem.W.isFn K (.ref f_Deal_sources) = true)
    (a_Under_sources : PySem.W.findIn K (.ref C_Under) "sources" = some (some (.ref f_Under_sources)))
    (i_Under_sources : PySem.W.isFn K (.ref f_Under_sources) = true)
    (a_Weave_sources : PySem.W.findIn K (.ref C_Weave) "sources" = some (some (.ref f_Weave_sources)))
    (i_Weave_sources : PySem.W.isFn K (.ref f_Weave_sources) = true)
    (a_Riffle_sources : PySem.W.findIn K (.ref C_Riffle) "sources" = some (some (.ref f_Riffle_sources)))
    (i_Riffle_sources : PySem.W.isFn K (.ref f_Riffle_sources) = true)
    (a_Cut_done : PySem.W.findIn K (.ref C_Cut) "done" = some (some (.ref f_Move_done)))
    (a_Turn_done : PySem.W.findIn K (.ref C_Turn) "done" = some (some (.ref f_Move_done)))
    (a_Deal_done : PySem.W.findIn K (.ref C_Deal) "done" = some (some (.ref f_Move_done)))
    (a_Under_done : PySem.W.findIn K (.ref C_Under) "done" = some (some (.ref f_Move_done)))
    (a_Weave_done : PySem.W.findIn K (.ref C_Weave) "done" = some (some (.ref f_Move_done)))
    (a_Riffle_done : PySem.W.findIn K (.ref C_Riffle) "done" = some (some (.ref f_Move_done)))
    (i_Move_done : PySem.W.isFn K (.ref f_Move_done) = true)
    (l_is_number : K.lookup f_is_number = some ⟨oc_is_number, od_is_number, .func (PySem.W.fnOf "is_number" "is_number" (defArgs s_is_number) (defBody s_is_number) (defScope s_is_number) .none kV_is_number dc_is_number pm_is_number an_is_number cd_is_number ct_is_number), sl_is_number⟩)
    (c_is_number : PySem.W.codeIn K cd_is_number "is_number" = true)
    (k_is_number : PySem.W.keepIn K (.ref f_is_number) = true)
    (l_is_order : K.lookup f_is_order = some ⟨oc_is_order, od_is_order, .func (PySem.W.fnOf "is_order" "is_order" (defArgs s_is_order) (defBody s_is_order) (defScope s_is_order) .none kV_is_order dc_is_order pm_is_order an_is_order cd_is_order ct_is_order), sl_is_order⟩)
    (c_is_order : PySem.W.codeIn K cd_is_order "is_order" = true)
    (k_is_order : PySem.W.keepIn K (.ref f_is_order) = true)
    (l_check_order : K.lookup f_check_order = some ⟨oc_check_order, od_check_order, .func (PySem.W.fnOf "check_order" "check_order" (defArgs s_check_order) (defBody s_check_order) (defScope s_check_order) .none kV_check_order dc_check_order pm_check_order an_check_order cd_check_order ct_check_order), sl_check_order⟩)
    (c_check_order : PySem.W.codeIn K cd_check_order "check_order" = true)
    (k_check_order : PySem.W.keepIn K (.ref f_check_order) = true)
    (l_is_word : K.lookup f_is_word = some ⟨oc_is_word, od_is_word, .func (PySem.W.fnOf "is_word" "is_word" (defArgs s_is_word) (defBody s_is_word) (defScope s_is_word) .none kV_is_word dc_is_word pm_is_word an_is_word cd_is_word ct_is_word), sl_is_word⟩)
    (c_is_word : PySem.W.codeIn K cd_is_word "is_word" = true)
    (k_is_word : PySem.W.keepIn K (.ref f_is_word) = true)
    (l_riffle_sources : K.lookup f_riffle_sources = some ⟨oc_riffle_sources, od_riffle_sources, .func (PySem.W.fnOf "riffle_sources" "riffle_sources" (defArgs s_riffle_sources) (defBody s_riffle_sources) (defScope s_riffle_sources) .none kV_riffle_sources dc_riffle_sources pm_riffle_sources an_riffle_sources cd_riffle_sources ct_riffle_sources), sl_riffle_sources⟩)
    (c_riffle_sources : PySem.W.codeIn K cd_riffle_sources "riffle_sources" = true)
    (k_riffle_sources : PySem.W.keepIn K (.ref f_riffle_sources) = true)
    (l_check_move : K.lookup f_check_move = some ⟨oc_check_move, od_check_move, .func (PySem.W.fnOf "check_move" "check_move" (defArgs s_check_move) (defBody s_check_move) (defScope s_check_move) .none kV_check_move dc_check_move pm_check_move an_check_move cd_check_move ct_check_move), sl_check_move⟩)
    (c_check_move : PySem.W.codeIn K cd_check_move "check_move" = true)
    (k_check_move : PySem.W.keepIn K (.ref f_check_move) = true)
    (l_check_moves : K.lookup f_check_moves = some ⟨oc_check_moves, od_check_moves, .func (PySem.W.fnOf "check_moves" "check_moves" (defArgs s_check_moves) (defBody s_check_moves) (defScope s_check_moves) .none kV_check_moves dc_check_moves pm_check_moves an_check_moves cd_check_moves ct_check_moves), sl_check_moves⟩)
    (c_check_moves : PySem.W.codeIn K cd_check_moves "check_moves" = true)
    (k_check_moves : PySem.W.keepIn K (.ref f_check_moves) = true)
    (l_done_all : K.lookup f_done_all = some ⟨oc_done_all, od_done_all, .func (PySem.W.fnOf "done_all" "done_all" (defArgs s_done_all) (defBody s_done_all) (defScope s_done_all) .none kV_done_all dc_done_all pm_done_all an_done_all cd_done_all ct_done_all), sl_done_all⟩)
    (c_done_all : PySem.W.codeIn K cd_done_all "done_all" = true)
    (k_done_all : PySem.W.keepIn K (.ref f_done_all) = true)
    (l_written : K.lookup f_written = some ⟨oc_written, od_written, .func (PySem.W.fnOf "written" "written" (defArgs s_written) (defBody s_written) (defScope s_written) .none kV_written dc_written pm_written an_written cd_written ct_written), sl_written⟩)
    (c_written : PySem.W.codeIn K cd_written "written" = true)
    (k_written : PySem.W.keepIn K (.ref f_written) = true)
    (l_read : K.lookup f_read = some ⟨oc_read, od_read, .func (PySem.W.fnOf "read" "read" (defArgs s_read) (defBody s_read) (defScope s_read) .none kV_read dc_read pm_read an_read cd_read ct_read), sl_read⟩)
    (c_read : PySem.W.codeIn K cd_read "read" = true)
    (k_read : PySem.W.keepIn K (.ref f_read) = true)
    (l_move_written : K.lookup f_move_written = some ⟨oc_move_written, od_move_written, .func (PySem.W.fnOf "move_written" "move_written" (defArgs s_move_written) (defBody s_move_written) (defScope s_move_written) .none kV_move_written dc_move_written pm_move_written an_move_written cd_move_written ct_move_written), sl_move_written⟩)
    (c_move_written : PySem.W.codeIn K cd_move_written "move_written" = true)
    (k_move_written : PySem.W.keepIn K (.ref f_move_written) = true)
    (l_move_read : K.lookup f_move_read = some ⟨oc_move_read, od_move_read, .func (PySem.W.fnOf "move_read" "move_read" (defArgs s_move_read) (defBody s_move_read) (defScope s_move_read) .none kV_move_read dc_move_read pm_move_read an_move_read cd_move_read ct_move_read), sl_move_read⟩)
    (c_move_read : PySem.W.codeIn K cd_move_read "move_read" = true)
    (k_move_read : PySem.W.keepIn K (.ref f_move_read) = true)
    (l_move_made : K.lookup f_move_made = some ⟨oc_move_made, od_move_made, .func (PySem.W.fnOf "move_made" "move_made" (defArgs s_move_made) (defBody s_move_made) (defScope s_move_made) .none kV_move_made dc_move_made pm_move_made an_move_made cd_move_made ct_move_made), sl_move_made⟩)
    (c_move_made : PySem.W.codeIn K cd_move_made "move_made" = true)
    (k_move_made : PySem.W.keepIn K (.ref f_move_made) = true)
    (l_number_read : K.lookup f_number_read = some ⟨oc_number_read, od_number_read, .func (PySem.W.fnOf "number_read" "number_read" (defArgs s_number_read) (defBody s_number_read) (defScope s_number_read) .none kV_number_read dc_number_read pm_number_read an_number_read cd_number_read ct_number_read), sl_number_read⟩)
    (c_number_read : PySem.W.codeIn K cd_number_read "number_read" = true)
    (k_number_read : PySem.W.keepIn K (.ref f_number_read) = true)
    (l__law_cell_at : K.lookup f__law_cell_at = some ⟨oc__law_cell_at, od__law_cell_at, .func (PySem.W.fnOf "_law_cell_at" "_law_cell_at" (defArgs s__law_cell_at) (defBody s__law_cell_at) (defScope s__law_cell_at) .none kV__law_cell_at dc__law_cell_at pm__law_cell_at an__law_cell_at cd__law_cell_at ct__law_cell_at), sl__law_cell_at⟩)
    (c__law_cell_at : PySem.W.codeIn K cd__law_cell_at "_law_cell_at" = true)
    (k__law_cell_at : PySem.W.keepIn K (.ref f__law_cell_at) = true)
    (l__law_draw : K.lookup f__law_draw = some ⟨oc__law_draw, od__law_draw, .func (PySem.W.fnOf "_law_draw" "_law_draw" (defArgs s__law_draw) (defBody s__law_draw) (defScope s__law_draw) .none kV__law_draw dc__law_draw pm__law_draw an__law_draw cd__law_draw ct__law_draw), sl__law_draw⟩)
    (c__law_draw : PySem.W.codeIn K cd__law_draw "_law_draw" = true)
    (k__law_draw : PySem.W.keepIn K (.ref f__law_draw) = true)
    (l__law_order : K.lookup f__law_order = some ⟨oc__law_order, od__law_order, .func (PySem.W.fnOf "_law_order" "_law_order" (defArgs s__law_order) (defBody s__law_order) (defScope s__law_order) .none kV__law_order dc__law_order pm__law_order an__law_order cd__law_order ct__law_order), sl__law_order⟩)
    (c__law_order : PySem.W.codeIn K cd__law_order "_law_order" = true)
    (k__law_order : PySem.W.keepIn K (.ref f__law_order) = true)
    (l__law_many : K.lookup f__law_many = some ⟨oc__law_many, od__law_many, .func (PySem.W.fnOf "_law_many" "_law_many" (defArgs s__law_many) (defBody s__law_many) (defScope s__law_many) .none kV__law_many dc__law_many pm__law_many an__law_many cd__law_many ct__law_many), sl__law_many⟩)
    (c__law_many : PySem.W.codeIn K cd__law_many "_law_many" = true)
    (k__law_many : PySem.W.keepIn K (.ref f__law_many) = true)
    (l__law_word : K.lookup f__law_word = some ⟨oc__law_word, od__law_word, .func (PySem.W.fnOf "_law_word" "_law_word" (defArgs s__law_word) (defBody s__law_word) (defScope s__law_word) .none kV__law_word dc__law_word pm__law_word an__law_word cd__law_word ct__law_word), sl__law_word⟩)
    (c__law_word : PySem.W.codeIn K cd__law_word "_law_word" = true)
    (k__law_word : PySem.W.keepIn K (.ref f__law_word) = true)
    (l__law_riffled : K.lookup f__law_riffled = some ⟨oc__law_riffled, od__law_riffled, .func (PySem.W.fnOf "_law_riffled" "_law_riffled" (defArgs s__law_riffled) (defBody s__law_riffled) (defScope s__law_riffled) .none kV__law_riffled dc__law_riffled pm__law_riffled an__law_riffled cd__law_riffled ct__law_riffled), sl__law_riffled⟩)
    (c__law_riffled : PySem.W.codeIn K cd__law_riffled "_law_riffled" = true)
    (k__law_riffled : PySem.W.keepIn K (.ref f__law_riffled) = true)
    (l__law_dealt : K.lookup f__law_dealt = some ⟨oc__law_dealt, od__law_dealt, .func (PySem.W.fnOf "_law_dealt" "_law_dealt" (defArgs s__law_dealt) (defBody s__law_dealt) (defScope s__law_dealt) .none kV__law_dealt dc__law_dealt pm__law_dealt an__law_dealt cd__law_dealt ct__law_dealt), sl__law_dealt⟩)
    (c__law_dealt : PySem.W.codeIn K cd__law_dealt "_law_dealt" = true)
    (k__law_dealt : PySem.W.keepIn K (.ref f__law_dealt) = true)
    (l__law_under : K.lookup f__law_under = some ⟨oc__law_under, od__law_under, .func (PySem.W.fnOf "_law_under" "_law_under" (defArgs s__law_under) (defBody s__law_under) (defScope s__law_under) .none kV__law_under dc__law_under pm__law_under an__law_under cd__law_under ct__law_under), sl__law_under⟩)
    (c__law_under : PySem.W.codeIn K cd__law_under "_law_under" = true)
    (k__law_under : PySem.W.keepIn K (.ref f__law_under) = true)
    (l__law_moved : K.lookup f__law_moved = some ⟨oc__law_moved, od__law_moved, .func (PySem.W.fnOf "_law_moved" "_law_moved" (defArgs s__law_moved) (defBody s__law_moved) (defScope s__law_moved) .none kV__law_moved dc__law_moved pm__law_moved an__law_moved cd__law_moved ct__law_moved), sl__law_moved⟩)
    (c__law_moved : PySem.W.codeIn K cd__law_moved "_law_moved" = true)
    (k__law_moved : PySem.W.keepIn K (.ref f__law_moved) = true)
    (l__law_told : K.lookup f__law_told = some ⟨oc__law_told, od__law_told, .func (PySem.W.fnOf "_law_told" "_law_told" (defArgs s__law_told) (defBody s__law_told) (defScope s__law_told) .none kV__law_told dc__law_told pm__law_told an__law_told cd__law_told ct__law_told), sl__law_told⟩)
    (c__law_told : PySem.W.codeIn K cd__law_told "_law_told" = true)
    (k__law_told : PySem.W.keepIn K (.ref f__law_told) = true)
    (l__law_made : K.lookup f__law_made = some ⟨oc__law_made, od__law_made, .func (PySem.W.fnOf "_law_made" "_law_made" (defArgs s__law_made) (defBody s__law_made) (defScope s__law_made) .none kV__law_made dc__law_made pm__law_made an__law_made cd__law_made ct__law_made), sl__law_made⟩)
    (c__law_made : PySem.W.codeIn K cd__law_made "_law_made" = true)
    (k__law_made : PySem.W.keepIn K (.ref f__law_made) = true)
    (l__law_text : K.lookup f__law_text = some ⟨oc__law_text, od__law_text, .func (PySem.W.fnOf "_law_text" "_law_text" (defArgs s__law_text) (defBody s__law_text) (defScope s__law_text) .none kV__law_text dc__law_text pm__law_text an__law_text cd__law_text ct__law_text), sl__law_text⟩)
    (c__law_text : PySem.W.codeIn K cd__law_text "_law_text" = true)
    (k__law_text : PySem.W.keepIn K (.ref f__law_text) = true)
    (l__law_number : K.lookup f__law_number = some ⟨oc__law_number, od__law_number, .func (PySem.W.fnOf "_law_number" "_law_number" (defArgs s__law_number) (defBody s__law_number) (defScope s__law_number) .none kV__law_number dc__law_number pm__law_number an__law_number cd__law_number ct__law_number), sl__law_number⟩)
    (c__law_number : PySem.W.codeIn K cd__law_number "_law_number" = true)
    (k__law_number : PySem.W.keepIn K (.ref f__law_number) = true)
    (l__law_writes : K.lookup f__law_writes = some ⟨oc__law_writes, od__law_writes, .func (PySem.W.fnOf "_law_writes" "_law_writes" (defArgs s__law_writes) (defBody s__law_writes) (defScope s__law_writes) .none kV__law_writes dc__law_writes pm__law_writes an__law_writes cd__law_writes ct__law_writes), sl__law_writes⟩)
    (c__law_writes : PySem.W.codeIn K cd__law_writes "_law_writes" = true)
    (k__law_writes : PySem.W.keepIn K (.ref f__law_writes) = true)
    (l__law_refused : K.lookup f__law_refused = some ⟨oc__law_refused, od__law_refused, .func (PySem.W.fnOf "_law_refused" "_law_refused" (defArgs s__law_refused) (defBody s__law_refused) (defScope s__law_refused) .none kV__law_refused dc__law_refused pm__law_refused an__law_refused cd__law_refused ct__law_refused), sl__law_refused⟩)
    (c__law_refused : PySem.W.codeIn K cd__law_refused "_law_refused" = true)
    (k__law_refused : PySem.W.keepIn K (.ref f__law_refused) = true)
    (l__law_few : K.lookup f__law_few = some ⟨oc__law_few, od__law_few, .func (PySem.W.fnOf "_law_few" "_law_few" (defArgs s__law_few) (defBody s__law_few) (defScope s__law_few) .none kV__law_few dc__law_few pm__law_few an__law_few cd__law_few ct__law_few), sl__law_few⟩)
    (c__law_few : PySem.W.codeIn K cd__law_few "_law_few" = true)
    (k__law_few : PySem.W.keepIn K (.ref f__law_few) = true)
    (l_law : K.lookup f_law = some ⟨oc_law, od_law, .func (PySem.W.fnOf "law" "law" (defArgs s_law) (defBody s_law) (defScope s_law) .none kV_law dc_law pm_law an_law cd_law ct_law), sl_law⟩)
    (c_law : PySem.W.codeIn K cd_law "law" = true)
    (k_law : PySem.W.keepIn K (.ref f_law) = true)
    (l_Cut___init__ : K.lookup f_Cut___init__ = some ⟨oc_Cut___init__, od_Cut___init__, .func (PySem.W.fnOf "__init__" "Cut.__init__" (defArgs s_Cut___init__) (defBody s_Cut___init__) (defScope s_Cut___init__) .none kV_Cut___init__ dc_Cut___init__ pm_Cut___init__ an_Cut___init__ cd_Cut___init__ ct_Cut___init__), sl_Cut___init__⟩)
    (c_Cut___init__ : PySem.W.codeIn K cd_Cut___init__ "Cut.__init__" = true)
    (k_Cut___init__ : PySem.W.keepIn K (.ref f_Cut___init__) = true)
    (l_Turn___init__ : K.lookup f_Turn___init__ = some ⟨oc_Turn___init__, od_Turn___init__, .func (PySem.W.fnOf "__init__" "Turn.__init__" (defArgs s_Turn___init__) (defBody s_Turn___init__) (defScope s_Turn___init__) .none kV_Turn___init__ dc_Turn___init__ pm_Turn___init__ an_Turn___init__ cd_Turn___init__ ct_Turn___init__), sl_Turn___init__⟩)
    (c_Turn___init__ : PySem.W.codeIn K cd_Turn___init__ "Turn.__init__" = true)
    (k_Turn___init__ : PySem.W.keepIn K (.ref f_Turn___init__) = true)
    (l_Deal___init__ : K.lookup f_Deal___init__ = some ⟨oc_Deal___init__, od_Deal___init__, .func (PySem.W.fnOf "__init__" "Deal.__init__" (defArgs s_Deal___init__) (defBody s_Deal___init__) (defScope s_Deal___init__) .none kV_Deal___init__ dc_Deal___init__ pm_Deal___init__ an_Deal___init__ cd_Deal___init__ ct_Deal___init__), sl_Deal___init__⟩)
    (c_Deal___init__ : PySem.W.codeIn K cd_Deal___init__ "Deal.__init__" = true)
    (k_Deal___init__ : PySem.W.keepIn K (.ref f_Deal___init__) = true)
    (l_Under___init__ : K.lookup f_Under___init__ = some ⟨oc_Under___init__, od_Under___init__, .func (PySem.W.fnOf "__init__" "Under.__init__" (defArgs s_Under___init__) (defBody s_Under___init__) (defScope s_Under___init__) .none kV_Under___init__ dc_Under___init__ pm_Under___init__ an_Under___init__ cd_Under___init__ ct_Under___init__), sl_Under___init__⟩)
    (c_Under___init__ : PySem.W.codeIn K cd_Under___init__ "Under.__init__" = true)
    (k_Under___init__ : PySem.W.keepIn K (.ref f_Under___init__) = true)
    (l_Weave___init__ : K.lookup f_Weave___init__ = some ⟨oc_Weave___init__, od_Weave___init__, .func (PySem.W.fnOf "__init__" "Weave.__init__" (defArgs s_Weave___init__) (defBody s_Weave___init__) (defScope s_Weave___init__) .none kV_Weave___init__ dc_Weave___init__ pm_Weave___init__ an_Weave___init__ cd_Weave___init__ ct_Weave___init__), sl_Weave___init__⟩)
    (c_Weave___init__ : PySem.W.codeIn K cd_Weave___init__ "Weave.__init__" = true)
    (k_Weave___init__ : PySem.W.keepIn K (.ref f_Weave___init__) = true)
    (l_Riffle___init__ : K.lookup f_Riffle___init__ = some ⟨oc_Riffle___init__, od_Riffle___init__, .func (PySem.W.fnOf "__init__" "Riffle.__init__" (defArgs s_Riffle___init__) (defBody s_Riffle___init__) (defScope s_Riffle___init__) .none kV_Riffle___init__ dc_Riffle___init__ pm_Riffle___init__ an_Riffle___init__ cd_Riffle___init__ ct_Riffle___init__), sl_Riffle___init__⟩)
    (c_Riffle___init__ : PySem.W.codeIn K cd_Riffle___init__ "Riffle.__init__" = true)
    (k_Riffle___init__ : PySem.W.keepIn K (.ref f_Riffle___init__) = true)
    (l_Cut_sources : K.lookup f_Cut_sources = some ⟨oc_Cut_sources, od_Cut_sources, .func (PySem.W.fnOf "sources" "Cut.sources" (defArgs s_Cut_sources) (defBody s_Cut_sources) (defScope s_Cut_sources) .none kV_Cut_sources dc_Cut_sources pm_Cut_sources an_Cut_sources cd_Cut_sources ct_Cut_sources), sl_Cut_sources⟩)
    (c_Cut_sources : PySem.W.codeIn K cd_Cut_sources "Cut.sources" = true)
    (k_Cut_sources : PySem.W.keepIn K (.ref f_Cut_sources) = true)
    (l_Turn_sources : K.lookup f_Turn_sources = some ⟨oc_Turn_sources, od_Turn_sources, .func (PySem.W.fnOf "sources" "Turn.sources" (defArgs s_Turn_sources) (defBody s_Turn_sources) (defScope s_Turn_sources) .none kV_Turn_sources dc_Turn_sources pm_Turn_sources an_Turn_sources cd_Turn_sources ct_Turn_sources), sl_Turn_sources⟩)
    (c_Turn_sources : PySem.W.codeIn K cd_Turn_sources "Turn.sources" = true)
    (k_Turn_sources : PySem.W.keepIn K (.ref f_Turn_sources) = true)
    (l_Deal_sources : K.lookup f_Deal_sources = some ⟨oc_Deal_sources, od_Deal_sources, .func (PySem.W.fnOf "sources" "Deal.sources" (defArgs s_Deal_sources) (defBody s_Deal_sources) (defScope s_Deal_sources) .none kV_Deal_sources dc_Deal_sources pm_Deal_sources an_Deal_sources cd_Deal_sources ct_Deal_sources), sl_Deal_sources⟩)
    (c_Deal_sources : PySem.W.codeIn K cd_Deal_sources "Deal.sources" = true)
    (k_Deal_sources : PySem.W.keepIn K (.ref f_Deal_sources) = true)
    (l_Under_sources : K.lookup f_Under_sources = some ⟨oc_Under_sources, od_Under_sources, .func (PySem.W.fnOf "sources" "Under.sources" (defArgs s_Under_sources) (defBody s_Under_sources) (defScope s_Under_sources) .none kV_Under_sources dc_Under_sources pm_Under_sources an_Under_sources cd_Under_sources ct_Under_sources), sl_Under_sources⟩)
    (c_Under_sources : PySem.W.codeIn K cd_Under_sources "Under.sources" = true)
    (k_Under_sources : PySem.W.keepIn K (.ref f_Under_sources) = true)
    (l_Weave_sources : K.lookup f_Weave_sources = some ⟨oc_Weave_sources, od_Weave_sources, .func (PySem.W.fnOf "sources" "Weave.sources" (defArgs s_Weave_sources) (defBody s_Weave_sources) (defScope s_Weave_sources) .none kV_Weave_sources dc_Weave_sources pm_Weave_sources an_Weave_sources cd_Weave_sources ct_Weave_sources), sl_Weave_sources⟩)
    (c_Weave_sources : PySem.W.codeIn K cd_Weave_sources "Weave.sources" = true)
    (k_Weave_sources : PySem.W.keepIn K (.ref f_Weave_sources) = true)
    (l_Riffle_sources : K.lookup f_Riffle_sources = some ⟨oc_Riffle_sources, od_Riffle_sources, .func (PySem.W.fnOf "sources" "Riffle.sources" (defArgs s_Riffle_sources) (defBody s_Riffle_sources) (defScope s_Riffle_sources) .none kV_Riffle_sources dc_Riffle_sources pm_Riffle_sources an_Riffle_sources cd_Riffle_sources ct_Riffle_sources), sl_Riffle_sources⟩)
    (c_Riffle_sources : PySem.W.codeIn K cd_Riffle_sources "Riffle.sources" = true)
    (k_Riffle_sources : PySem.W.keepIn K (.ref f_Riffle_sources) = true)
    (l_Move_done : K.lookup f_Move_done = some ⟨oc_Move_done, od_Move_done, .func (PySem.W.fnOf "done" "Move.done" (defArgs s_Move_done) (defBody s_Move_done) (defScope s_Move_done) .none kV_Move_done dc_Move_done pm_Move_done an_Move_done cd_Move_done ct_Move_done), sl_Move_done⟩)
    (c_Move_done : PySem.W.codeIn K cd_Move_done "Move.done" = true)
    (k_Move_done : PySem.W.keepIn K (.ref f_Move_done) = true)
    (pg_Cut : PySem.W.plainGet K C_Cut Str.empty = true)
    (hd_Cut : PySem.W.hasDictIn K C_Cut = true)
    (po_Cut : PySem.W.plainOver K C_Cut = true)
    (sa_Cut : PySem.W.findIn K (.ref C_Cut) "__setattr__" = some (some (.builtin "object.__setattr__")))
    (mk_Cut : PySem.W.makesIn K C_Cut = true)
    (kc_Cut : PySem.W.keepIn K (.ref C_Cut) = true)
    (yc_Cut : PySem.W.findIn K (.ref C_Cut) "__class__" = some (some (.builtin "object.__class__")))
    (ym_Cut : PySem.W.mroIn K C_Cut (.type "object") = some true)
    (yv_Cut : PySem.W.kitOne K (.ref C_Cut) (.ref C_Move) = some true)
    (y_Cut_Cut : PySem.W.kitOne K (.ref C_Cut) (.ref C_Cut) = some true)
    (y_Cut_Turn : PySem.W.kitOne K (.ref C_Cut) (.ref C_Turn) = some false)
    (y_Cut_Deal : PySem.W.kitOne K (.ref C_Cut) (.ref C_Deal) = some false)
    (y_Cut_Under : PySem.W.kitOne K (.ref C_Cut) (.ref C_Under) = some false)
    (y_Cut_Weave : PySem.W.kitOne K (.ref C_Cut) (.ref C_Weave) = some false)
    (y_Cut_Riffle : PySem.W.kitOne K (.ref C_Cut) (.ref C_Riffle) = some false)
    (pg_Turn : PySem.W.plainGet K C_Turn Str.empty = true)
    (hd_Turn : PySem.W.hasDictIn K C_Turn = true)
    (po_Turn : PySem.W.plainOver K C_Turn = true)
    (sa_Turn : PySem.W.findIn K (.ref C_Turn) "__setattr__" = some (some (.builtin "object.__setattr__")))
    (mk_Turn : PySem.W.makesIn K C_Turn = true)
    (kc_Turn : PySem.W.keepIn K (.ref C_Turn) = true)
    (yc_Turn : PySem.W.findIn K (.ref C_Turn) "__class__" = some (some (.builtin "object.__class__")))
    (ym_Turn : PySem.W.mroIn K C_Turn (.type "object") = some true)
    (yv_Turn : PySem.W.kitOne K (.ref C_Turn) (.ref C_Move) = some true)
    (y_Turn_Cut : PySem.W.kitOne K (.ref C_Turn) (.ref C_Cut) = some false)
    (y_Turn_Turn : PySem.W.kitOne K (.ref C_Turn) (.ref C_Turn) = some true)
    (y_Turn_Deal : PySem.W.kitOne K (.ref C_Turn) (.ref C_Deal) = some false)
    (y_Turn_Under : PySem.W.kitOne K (.ref C_Turn) (.ref C_Under) = some false)
    (y_Turn_Weave : PySem.W.kitOne K (.ref C_Turn) (.ref C_Weave) = some false)
    (y_Turn_Riffle : PySem.W.kitOne K (.ref C_Turn) (.ref C_Riffle) = some false)
    (pg_Deal : PySem.W.plainGet K C_Deal Str.empty = true)
    (hd_Deal : PySem.W.hasDictIn K C_Deal = true)
    (po_Deal : PySem.W.plainOver K C_Deal = true)
    (sa_Deal : PySem.W.findIn K (.ref C_Deal) "__setattr__" = some (some (.builtin "object.__setattr__")))
    (mk_Deal : PySem.W.makesIn K C_Deal = true)
    (kc_Deal : PySem.W.keepIn K (.ref C_Deal) = true)
    (yc_Deal : PySem.W.findIn K (.ref C_Deal) "__class__" = some (some (.builtin "object.__class__")))
    (ym_Deal : PySem.W.mroIn K C_Deal (.type "object") = some true)
    (yv_Deal : PySem.W.kitOne K (.ref C_Deal) (.ref C_Move) = some true)
    (y_Deal_Cut : PySem.W.kitOne K (.ref C_Deal) (.ref C_Cut) = some false)
    (y_Deal_Turn : PySem.W.kitOne K (.ref C_Deal) (.ref C_Turn) = some false)
    (y_Deal_Deal : PySem.W.kitOne K (.ref C_Deal) (.ref C_Deal) = some true)
    (y_Deal_Under : PySem.W.kitOne K (.ref C_Deal) (.ref C_Under) = some false)
    (y_Deal_Weave : PySem.W.kitOne K (.ref C_Deal) (.ref C_Weave) = some false)
    (y_Deal_Riffle : PySem.W.kitOne K (.ref C_Deal) (.ref C_Riffle) = some false)
    (pg_Under : PySem.W.plainGet K C_Under Str.empty = true)
    (hd_Under : PySem.W.hasDictIn K C_Under = true)
    (po_Under : PySem.W.plainOver K C_Under = true)
    (sa_Under : PySem.W.findIn K (.ref C_Under) "__setattr__" = some (some (.builtin "object.__setattr__")))
    (mk_Under : PySem.W.makesIn K C_Under = true)
    (kc_Under : PySem.W.keepIn K (.ref C_Under) = true)
    (yc_Under : PySem.W.findIn K (.ref C_Under) "__class__" = some (some (.builtin "object.__class__")))
    (ym_Under : PySem.W.mroIn K C_Under (.type "object") = some true)
    (yv_Under : PySem.W.kitOne K (.ref C_Under) (.ref C_Move) = some true)
    (y_Under_Cut : PySem.W.kitOne K (.ref C_Under) (.ref C_Cut) = some false)
    (y_Under_Turn : PySem.W.kitOne K (.ref C_Under) (.ref C_Turn) = some false)
    (y_Under_Deal : PySem.W.kitOne K (.ref C_Under) (.ref C_Deal) = some false)
    (y_Under_Under : PySem.W.kitOne K (.ref C_Under) (.ref C_Under) = some true)
    (y_Under_Weave : PySem.W.kitOne K (.ref C_Under) (.ref C_Weave) = some false)
    (y_Under_Riffle : PySem.W.kitOne K (.ref C_Under) (.ref C_Riffle) = some false)
    (pg_Weave : PySem.W.plainGet K C_Weave Str.empty = true)
    (hd_Weave : PySem.W.hasDictIn K C_Weave = true)
    (po_Weave : PySem.W.plainOver K C_Weave = true)
    (sa_Weave : PySem.W.findIn K (.ref C_Weave) "__setattr__" = some (some (.builtin "object.__setattr__")))
    (mk_Weave : PySem.W.makesIn K C_Weave = true)
    (kc_Weave : PySem.W.keepIn K (.ref C_Weave) = true)
    (yc_Weave : PySem.W.findIn K (.ref C_Weave) "__class__" = some (some (.builtin "object.__class__")))
    (ym_Weave : PySem.W.mroIn K C_Weave (.type "object") = some true)
    (yv_Weave : PySem.W.kitOne K (.ref C_Weave) (.ref C_Move) = some true)
    (y_Weave_Cut : PySem.W.kitOne K (.ref C_Weave) (.ref C_Cut) = some false)
    (y_Weave_Turn : PySem.W.kitOne K (.ref C_Weave) (.ref C_Turn) = some false)
    (y_Weave_Deal : PySem.W.kitOne K (.ref C_Weave) (.ref C_Deal) = some false)
    (y_Weave_Under : PySem.W.kitOne K (.ref C_Weave) (.ref C_Under) = some false)
    (y_Weave_Weave : PySem.W.kitOne K (.ref C_Weave) (.ref C_Weave) = some true)
    (y_Weave_Riffle : PySem.W.kitOne K (.ref C_Weave) (.ref C_Riffle) = some false)
    (pg_Riffle : PySem.W.plainGet K C_Riffle Str.empty = true)
    (hd_Riffle : PySem.W.hasDictIn K C_Riffle = true)
    (po_Riffle : PySem.W.plainOver K C_Riffle = true)
    (sa_Riffle : PySem.W.findIn K (.ref C_Riffle) "__setattr__" = some (some (.builtin "object.__setattr__")))
    (mk_Riffle : PySem.W.makesIn K C_Riffle = true)
    (kc_Riffle : PySem.W.keepIn K (.ref C_Riffle) = true)
    (yc_Riffle : PySem.W.findIn K (.ref C_Riffle) "__class__" = some (some (.builtin "object.__class__")))
    (ym_Riffle : PySem.W.mroIn K C_Riffle (.type "object") = some true)
    (yv_Riffle : PySem.W.kitOne K (.ref C_Riffle) (.ref C_Move) = some true)
    (y_Riffle_Cut : PySem.W.kitOne K (.ref C_Riffle) (.ref C_Cut) = some false)
    (y_Riffle_Turn : PySem.W.kitOne K (.ref C_Riffle) (.ref C_Turn) = some false)
    (y_Riffle_Deal : PySem.W.kitOne K (.ref C_Riffle) (.ref C_Deal) = some false)
    (y_Riffle_Under : PySem.W.kitOne K (.ref C_Riffle) (.ref C_Under) = some false)
    (y_Riffle_Weave : PySem.W.kitOne K (.ref C_Riffle) (.ref C_Weave) = some false)
    (y_Riffle_Riffle : PySem.W.kitOne K (.ref C_Riffle) (.ref C_Riffle) = some true)
    (yg : PySem.W.specialIn K (.builtin "object.__class__") "__get__" = some (some (.builtin "getset_descriptor.__get__")))
    (yt : PySem.W.takesIn K (.builtin "object.__class__") = some true)
    (na_many : PySem.W.findIn K (.ref C_Cut) "many" = some none)
    (na_piles : PySem.W.findIn K (.ref C_Deal) "piles" = some none)
    (na_first : PySem.W.findIn K (.ref C_Weave) "first" = some none)
    (na_word : PySem.W.findIn K (.ref C_Riffle) "word" = some none)
    (no_isinstance : PySem.W.nsIn K mainGlobals "isinstance" = some none)
    (no_bool : PySem.W.nsIn K mainGlobals "bool" = some none)
    (no_int : PySem.W.nsIn K mainGlobals "int" = some none)
    (no_list : PySem.W.nsIn K mainGlobals "list" = some none)
    (no_str : PySem.W.nsIn K mainGlobals "str" = some none)
    (no_len : PySem.W.nsIn K mainGlobals "len" = some none)
    (no_all : PySem.W.nsIn K mainGlobals "all" = some none)
    (no_any : PySem.W.nsIn K mainGlobals "any" = some none)
    (no_min : PySem.W.nsIn K mainGlobals "min" = some none)
    (no_max : PySem.W.nsIn K mainGlobals "max" = some none)
    (no_sum : PySem.W.nsIn K mainGlobals "sum" = some none)
    (no_range : PySem.W.nsIn K mainGlobals "range" = some none)
    (no_set : PySem.W.nsIn K mainGlobals "set" = some none)
    (no_reversed : PySem.W.nsIn K mainGlobals "reversed" = some none)
    (no_enumerate : PySem.W.nsIn K mainGlobals "enumerate" = some none)
    (A_PackError : PySem.W.nsIn K mainGlobals "PackError" = some (some (.ref C_PackError)))
    (A_BadOrder : PySem.W.nsIn K mainGlobals "BadOrder" = some (some (.ref C_BadOrder)))
    (A_BadMove : PySem.W.nsIn K mainGlobals "BadMove" = some (some (.ref C_BadMove)))
    (A_BadNumber : PySem.W.nsIn K mainGlobals "BadNumber" = some (some (.ref C_BadNumber)))
    (A_BadText : PySem.W.nsIn K mainGlobals "BadText" = some (some (.ref C_BadText)))
    (no_ValueError : PySem.W.nsIn K mainGlobals "ValueError" = some none)
    (xe_PackError : PySem.W.excIn K C_PackError [.type "ValueError", .type "Exception", .type "BaseException", .type "object"] "ValueError.__new__" = true)
    (xg_PackError : PySem.W.findIn K (.ref C_PackError) "__getattribute__" = some (some (.builtin "BaseException.__getattribute__")))
    (xt_PackError : PySem.W.findIn K (.ref C_PackError) "__getattr__" = some none)
    (xc_PackError : PySem.W.findIn K (.ref C_PackError) "__class__" = some (some (.builtin "object.__class__")))
    (xb_PackError : PySem.W.mroIn K C_PackError (.type "BaseException") = some true)
    (xo_PackError : PySem.W.mroIn K C_PackError (.type "object") = some true)
    (xy_PackError : PySem.W.typeIn K (.ref C_PackError) = some (.type "type"))
    (xe_BadMove : PySem.W.excIn K C_BadMove [.type "ValueError", .type "Exception", .type "BaseException", .type "object"] "ValueError.__new__" = true)
    (xg_BadMove : PySem.W.findIn K (.ref C_BadMove) "__getattribute__" = some (some (.builtin "BaseException.__getattribute__")))
    (xt_BadMove : PySem.W.findIn K (.ref C_BadMove) "__getattr__" = some none)
    (xc_BadMove : PySem.W.findIn K (.ref C_BadMove) "__class__" = some (some (.builtin "object.__class__")))
    (xb_BadMove : PySem.W.mroIn K C_BadMove (.type "BaseException") = some true)
    (xo_BadMove : PySem.W.mroIn K C_BadMove (.type "object") = some true)
    (xy_BadMove : PySem.W.typeIn K (.ref C_BadMove) = some (.type "type"))
    (xe_BadText : PySem.W.excIn K C_BadText [.type "ValueError", .type "Exception", .type "BaseException", .type "object"] "ValueError.__new__" = true)
    (xg_BadText : PySem.W.findIn K (.ref C_BadText) "__getattribute__" = some (some (.builtin "BaseException.__getattribute__")))
    (xt_BadText : PySem.W.findIn K (.ref C_BadText) "__getattr__" = some none)
    (xc_BadText : PySem.W.findIn K (.ref C_BadText) "__class__" = some (some (.builtin "object.__class__")))
    (xb_BadText : PySem.W.mroIn K C_BadText (.type "BaseException") = some true)
    (xo_BadText : PySem.W.mroIn K C_BadText (.type "object") = some true)
    (xy_BadText : PySem.W.typeIn K (.ref C_BadText) = some (.type "type"))
    (xm_BadMove_BadMove : PySem.W.mroIn K C_BadMove (.ref C_BadMove) = some true)
    (xm_BadText_BadMove : PySem.W.mroIn K C_BadText (.ref C_BadMove) = some false)
    (xm_BadText_PackError : PySem.W.mroIn K C_BadText (.ref C_PackError) = some true)
    (xk_BadText_BadMove : PySem.W.kitOne K (.ref C_BadText) (.ref C_BadMove) = some false)
    (xk_BadText_BadNumber : PySem.W.kitOne K (.ref C_BadText) (.ref C_BadNumber) = some false)
    (xk_BadText_BadOrder : PySem.W.kitOne K (.ref C_BadText) (.ref C_BadOrder) = some false)
    (xk_BadText_BadText : PySem.W.kitOne K (.ref C_BadText) (.ref C_BadText) = some true)
    (xk_BadText_ValueError : PySem.W.kitOne K (.ref C_BadText) (.type "ValueError") = some true)
    (MC : PySem.W.nsIn K mainGlobals "MOST_CARDS" = some (some (.int 60 tok60)))
    : ∃ fd : FuncData, (∀ (s : Shared) (v : Value), BindsTo s fd ⟨[v], []⟩ [("_law_script", v)]) ∧ ∀ base : Heap, K.In base → base.Ns mainGlobals mg → FnOk l.prog w K mg base CX0 9 fa fd ["_law_script"] (spLaw K) := by
  have e := hfa.symm.trans (PySem.W.mg_of X G a_law)
  cases e
  have T : Txt K mg ⟨C_Move, C_Cut, C_Turn, C_Deal, C_Under, C_Weave, C_Riffle, 0, 0, 0⟩ := { no_isinstance := PySem.W.mg_none_of X G no_isinstance, no_bool := PySem.W.mg_none_of X G no_bool, no_int := PySem.W.mg_none_of X G no_int, no_list := PySem.W.mg_none_of X G no_list, no_str := PySem.W.mg_none_of X G no_str, no_len := PySem.W.mg_none_of X G no_len, no_all := PySem.W.mg_none_of X G no_all, no_any := PySem.W.mg_none_of X G no_any, no_min := PySem.W.mg_none_of X G no_min, no_max := PySem.W.mg_none_of X G no_max, no_sum := PySem.W.mg_none_of X G no_sum, no_range := PySem.W.mg_none_of X G no_range, no_set := PySem.W.mg_none_of X G no_set, no_reversed := PySem.W.mg_none_of X G no_reversed, no_enumerate := PySem.W.mg_none_of X G no_enumerate, mg_MOST_CARDS := ⟨_, PySem.W.mg_of X G MC⟩, mg_Move := PySem.W.mg_of X G A_Move, mg_Cut := PySem.W.mg_of X G A_Cut, mg_Turn := PySem.W.mg_of X G A_Turn, mg_Deal := PySem.W.mg_of X G A_Deal, mg_Under := PySem.W.mg_of X G A_Under, mg_Weave := PySem.W.mg_of X G A_Weave, mg_Riffle := PySem.W.mg_of X G A_Riffle, cl := fun mv => (match mv with | .cut _ => ⟨pg_Cut, hd_Cut, po_Cut, sa_Cut⟩ | .turn => ⟨pg_Turn, hd_Turn, po_Turn, sa_Turn⟩ | .deal _ => ⟨pg_Deal, hd_Deal, po_Deal, sa_Deal⟩ | .under => ⟨pg_Under, hd_Under, po_Under, sa_Under⟩ | .weave _ => ⟨pg_Weave, hd_Weave, po_Weave, sa_Weave⟩ | .riffle _ => ⟨pg_Riffle, hd_Riffle, po_Riffle, sa_Riffle⟩), na_many := na_many, na_piles := na_piles, na_first := na_first, na_word := na_word }
  have Y : TyTxt K ⟨C_Move, C_Cut, C_Turn, C_Deal, C_Under, C_Weave, C_Riffle, 0, 0, 0⟩ := ⟨(fun mv => match mv with | .cut _ => yc_Cut | .turn => yc_Turn | .deal _ => yc_Deal | .under => yc_Under | .weave _ => yc_Weave | .riffle _ => yc_Riffle), yg, yt, (fun mv => match mv with | .cut _ => ym_Cut | .turn => ym_Turn | .deal _ => ym_Deal | .under => ym_Under | .weave _ => ym_Weave | .riffle _ => ym_Riffle), (fun mv => match mv with | .cut _ => yv_Cut | .turn => yv_Turn | .deal _ => yv_Deal | .under => yv_Under | .weave _ => yv_Weave | .riffle _ => yv_Riffle), (fun mv i hi => match mv, i, hi with | .cut _, 0, _ => y_Cut_Cut | .cut _, 1, _ => y_Cut_Turn | .cut _, 2, _ => y_Cut_Deal | .cut _, 3, _ => y_Cut_Under | .cut _, 4, _ => y_Cut_Weave | .cut _, 5, _ => y_Cut_Riffle | .turn, 0, _ => y_Turn_Cut | .turn, 1, _ => y_Turn_Turn | .turn, 2, _ => y_Turn_Deal | .turn, 3, _ => y_Turn_Under | .turn, 4, _ => y_Turn_Weave | .turn, 5, _ => y_Turn_Riffle | .deal _, 0, _ => y_Deal_Cut | .deal _, 1, _ => y_Deal_Turn | .deal _, 2, _ => y_Deal_Deal | .deal _, 3, _ => y_Deal_Under | .deal _, 4, _ => y_Deal_Weave | .deal _, 5, _ => y_Deal_Riffle | .under, 0, _ => y_Under_Cut | .under, 1, _ => y_Under_Turn | .under, 2, _ => y_Under_Deal | .under, 3, _ => y_Under_Under | .under, 4, _ => y_Under_Weave | .under, 5, _ => y_Under_Riffle | .weave _, 0, _ => y_Weave_Cut | .weave _, 1, _ => y_Weave_Turn | .weave _, 2, _ => y_Weave_Deal | .weave _, 3, _ => y_Weave_Under | .weave _, 4, _ => y_Weave_Weave | .weave _, 5, _ => y_Weave_Riffle | .riffle _, 0, _ => y_Riffle_Cut | .riffle _, 1, _ => y_Riffle_Turn | .riffle _, 2, _ => y_Riffle_Deal | .riffle _, 3, _ => y_Riffle_Under | .riffle _, 4, _ => y_Riffle_Weave | .riffle _, 5, _ => y_Riffle_Riffle | _, n + 6, h => absurd h (by omega))⟩
  have F_is_number := fun_mk (st := s_is_number) l_is_number c_is_number k_is_number
  have b_is_number := F_is_number.binds (ps := ["value", "least", "most"]) fun _ _ _ _ _ _ us hl => match us, hl with | [_, _, _], _ => rfl
  have F_is_order := fun_mk (st := s_is_order) l_is_order c_is_order k_is_order
  have b_is_order := F_is_order.binds (ps := ["value"]) fun _ _ _ _ _ _ us hl => match us, hl with | [_], _ => rfl
  have F_check_order := fun_mk (st := s_check_order) l_check_order c_check_order k_check_order
  have b_check_order := F_check_order.binds (ps := ["value"]) fun _ _ _ _ _ _ us hl => match us, hl with | [_], _ => rfl
  have F_is_word := fun_mk (st := s_is_word) l_is_word c_is_word k_is_word
  have b_is_word := F_is_word.binds (ps := ["value"]) fun _ _ _ _ _ _ us hl => match us, hl with | [_], _ => rfl
  have F_riffle_sources := fun_mk (st := s_riffle_sources) l_riffle_sources c_riffle_sources k_riffle_sources
  have b_riffle_sources := F_riffle_sources.binds (ps := ["word"]) fun _ _ _ _ _ _ us hl => match us, hl with | [_], _ => rfl
  have F_check_move := fun_mk (st := s_check_move) l_check_move c_check_move k_check_move
  have b_check_move := F_check_move.binds (ps := ["value"]) fun _ _ _ _ _ _ us hl => match us, hl with | [_], _ => rfl
  have F_check_moves := fun_mk (st := s_check_moves) l_check_moves c_check_moves k_check_moves
  have b_check_moves := F_check_moves.binds (ps := ["value"]) fun _ _ _ _ _ _ us hl => match us, hl with | [_], _ => rfl
  have F_done_all := fun_mk (st := s_done_all) l_done_all c_done_all k_done_all
  have b_done_all := F_done_all.binds (ps := ["moves", "order"]) fun _ _ _ _ _ _ us hl => match us, hl with | [_, _], _ => rfl
  have F_written := fun_mk (st := s_written) l_written c_written k_written
  have b_written := F_written.binds (ps := ["moves"]) fun _ _ _ _ _ _ us hl => match us, hl with | [_], _ => rfl
  have F_read := fun_mk (st := s_read) l_read c_read k_read
  have b_read := F_read.binds (ps := ["text"]) fun _ _ _ _ _ _ us hl => match us, hl with | [_], _ => rfl
  have F_move_written := fun_mk (st := s_move_written) l_move_written c_move_written k_move_written
  have b_move_written := F_move_written.binds (ps := ["move"]) fun _ _ _ _ _ _ us hl => match us, hl with | [_], _ => rfl
  have F_move_read := fun_mk (st := s_move_read) l_move_read c_move_read k_move_read
  have b_move_read := F_move_read.binds (ps := ["part"]) fun _ _ _ _ _ _ us hl => match us, hl with | [_], _ => rfl
  have F_move_made := fun_mk (st := s_move_made) l_move_made c_move_made k_move_made
  have b_move_made := F_move_made.binds (ps := ["part"]) fun _ _ _ _ _ _ us hl => match us, hl with | [_], _ => rfl
  have F_number_read := fun_mk (st := s_number_read) l_number_read c_number_read k_number_read
  have b_number_read := F_number_read.binds (ps := ["figures"]) fun _ _ _ _ _ _ us hl => match us, hl with | [_], _ => rfl
  have F__law_cell_at := fun_mk (st := s__law_cell_at) l__law_cell_at c__law_cell_at k__law_cell_at
  have b__law_cell_at := F__law_cell_at.binds (ps := ["_law_script", "_law_k"]) fun _ _ _ _ _ _ us hl => match us, hl with | [_, _], _ => rfl
  have F__law_draw := fun_mk (st := s__law_draw) l__law_draw c__law_draw k__law_draw
  have b__law_draw := F__law_draw.binds (ps := ["_law_cell", "_law_k", "_law_many_here"]) fun _ _ _ _ _ _ us hl => match us, hl with | [_, _, _], _ => rfl
  have F__law_order := fun_mk (st := s__law_order) l__law_order c__law_order k__law_order
  have b__law_order := F__law_order.binds (ps := ["_law_cell", "_law_many_here"]) fun _ _ _ _ _ _ us hl => match us, hl with | [_, _], _ => rfl
  have F__law_many := fun_mk (st := s__law_many) l__law_many c__law_many k__law_many
  have b__law_many := F__law_many.binds (ps := ["_law_cell", "_law_k"]) fun _ _ _ _ _ _ us hl => match us, hl with | [_, _], _ => rfl
  have F__law_word := fun_mk (st := s__law_word) l__law_word c__law_word k__law_word
  have b__law_word := F__law_word.binds (ps := ["_law_cell", "_law_many_here"]) fun _ _ _ _ _ _ us hl => match us, hl with | [_, _], _ => rfl
  have F__law_riffled := fun_mk (st := s__law_riffled) l__law_riffled c__law_riffled k__law_riffled
  have b__law_riffled := F__law_riffled.binds (ps := ["_law_order_here", "_law_word_here"]) fun _ _ _ _ _ _ us hl => match us, hl with | [_, _], _ => rfl
  have F__law_dealt := fun_mk (st := s__law_dealt) l__law_dealt c__law_dealt k__law_dealt
  have b__law_dealt := F__law_dealt.binds (ps := ["_law_order_here", "_law_piles"]) fun _ _ _ _ _ _ us hl => match us, hl with | [_, _], _ => rfl
  have F__law_under := fun_mk (st := s__law_under) l__law_under c__law_under k__law_under
  have b__law_under := F__law_under.binds (ps := ["_law_order_here"]) fun _ _ _ _ _ _ us hl => match us, hl with | [_], _ => rfl
  have F__law_moved := fun_mk (st := s__law_moved) l__law_moved c__law_moved k__law_moved
  have b__law_moved := F__law_moved.binds (ps := ["_law_order_here", "_law_told_here"]) fun _ _ _ _ _ _ us hl => match us, hl with | [_, _], _ => rfl
  have F__law_told := fun_mk (st := s__law_told) l__law_told c__law_told k__law_told
  have b__law_told := F__law_told.binds (ps := ["_law_cell", "_law_many_here"]) fun _ _ _ _ _ _ us hl => match us, hl with | [_, _], _ => rfl
  have F__law_made := fun_mk (st := s__law_made) l__law_made c__law_made k__law_made
  have b__law_made := F__law_made.binds (ps := ["_law_told_here"]) fun _ _ _ _ _ _ us hl => match us, hl with | [_], _ => rfl
  have F__law_text := fun_mk (st := s__law_text) l__law_text c__law_text k__law_text
  have b__law_text := F__law_text.binds (ps := ["_law_told_here"]) fun _ _ _ _ _ _ us hl => match us, hl with | [_], _ => rfl
  have F__law_number := fun_mk (st := s__law_number) l__law_number c__law_number k__law_number
  have b__law_number := F__law_number.binds (ps := ["_law_text_here", "_law_low", "_law_high"]) fun _ _ _ _ _ _ us hl => match us, hl with | [_, _, _], _ => rfl
  have F__law_writes := fun_mk (st := s__law_writes) l__law_writes c__law_writes k__law_writes
  have b__law_writes := F__law_writes.binds (ps := ["_law_text_here"]) fun _ _ _ _ _ _ us hl => match us, hl with | [_], _ => rfl
  have F__law_refused := fun_mk (st := s__law_refused) l__law_refused c__law_refused k__law_refused
  have b__law_refused := F__law_refused.binds (ps := ["_law_text_here"]) fun _ _ _ _ _ _ us hl => match us, hl with | [_], _ => rfl
  have F__law_few := fun_mk (st := s__law_few) l__law_few c__law_few k__law_few
  have b__law_few := F__law_few.binds (ps := []) fun _ _ _ _ _ _ us hl => match us, hl with | [], _ => rfl
  have F_law := fun_mk (st := s_law) l_law c_law k_law
  have b_law := F_law.binds (ps := ["_law_script"]) fun _ _ _ _ _ _ us hl => match us, hl with | [_], _ => rfl
  have F_Cut___init__ := fun_mk (st := s_Cut___init__) l_Cut___init__ c_Cut___init__ k_Cut___init__
  have b_Cut___init__ := F_Cut___init__.binds (ps := ["self", "many"]) fun _ _ _ _ _ _ us hl => match us, hl with | [_, _], _ => rfl
  have F_Turn___init__ := fun_mk (st := s_Turn___init__) l_Turn___init__ c_Turn___init__ k_Turn___init__
  have b_Turn___init__ := F_Turn___init__.binds (ps := ["self"]) fun _ _ _ _ _ _ us hl => match us, hl with | [_], _ => rfl
  have F_Deal___init__ := fun_mk (st := s_Deal___init__) l_Deal___init__ c_Deal___init__ k_Deal___init__
  have b_Deal___init__ := F_Deal___init__.binds (ps := ["self", "piles"]) fun _ _ _ _ _ _ us hl => match us, hl with | [_, _], _ => rfl
  have F_Under___init__ := fun_mk (st := s_Under___init__) l_Under___init__ c_Under___init__ k_Under___init__
  have b_Under___init__ := F_Under___init__.binds (ps := ["self"]) fun _ _ _ _ _ _ us hl => match us, hl with | [_], _ => rfl
  have F_Weave___init__ := fun_mk (st := s_Weave___init__) l_Weave___init__ c_Weave___init__ k_Weave___init__
  have b_Weave___init__ := F_Weave___init__.binds (ps := ["self", "first"]) fun _ _ _ _ _ _ us hl => match us, hl with | [_, _], _ => rfl
  have F_Riffle___init__ := fun_mk (st := s_Riffle___init__) l_Riffle___init__ c_Riffle___init__ k_Riffle___init__
  have b_Riffle___init__ := F_Riffle___init__.binds (ps := ["self", "word"]) fun _ _ _ _ _ _ us hl => match us, hl with | [_, _], _ => rfl
  have F_Cut_sources := fun_mk (st := s_Cut_sources) l_Cut_sources c_Cut_sources k_Cut_sources
  have b_Cut_sources := F_Cut_sources.binds (ps := ["self", "cards"]) fun _ _ _ _ _ _ us hl => match us, hl with | [_, _], _ => rfl
  have F_Turn_sources := fun_mk (st := s_Turn_sources) l_Turn_sources c_Turn_sources k_Turn_sources
  have b_Turn_sources := F_Turn_sources.binds (ps := ["self", "cards"]) fun _ _ _ _ _ _ us hl => match us, hl with | [_, _], _ => rfl
  have F_Deal_sources := fun_mk (st := s_Deal_sources) l_Deal_sources c_Deal_sources k_Deal_sources
  have b_Deal_sources := F_Deal_sources.binds (ps := ["self", "cards"]) fun _ _ _ _ _ _ us hl => match us, hl with | [_, _], _ => rfl
  have F_Under_sources := fun_mk (st := s_Under_sources) l_Under_sources c_Under_sources k_Under_sources
  have b_Under_sources := F_Under_sources.binds (ps := ["self", "cards"]) fun _ _ _ _ _ _ us hl => match us, hl with | [_, _], _ => rfl
  have F_Weave_sources := fun_mk (st := s_Weave_sources) l_Weave_sources c_Weave_sources k_Weave_sources
  have b_Weave_sources := F_Weave_sources.binds (ps := ["self", "cards"]) fun _ _ _ _ _ _ us hl => match us, hl with | [_, _], _ => rfl
  have F_Riffle_sources := fun_mk (st := s_Riffle_sources) l_Riffle_sources c_Riffle_sources k_Riffle_sources
  have b_Riffle_sources := F_Riffle_sources.binds (ps := ["self", "cards"]) fun _ _ _ _ _ _ us hl => match us, hl with | [_, _], _ => rfl
  have F_Move_done := fun_mk (st := s_Move_done) l_Move_done c_Move_done k_Move_done
  have b_Move_done := F_Move_done.binds (ps := ["self", "order"]) fun _ _ _ _ _ _ us hl => match us, hl with | [_, _], _ => rfl
  refine ⟨PySem.W.fnOf "law" "law" (defArgs s_law) (defBody s_law) (defScope s_law) .none kV_law dc_law pm_law an_law cd_law ct_law, fun s v => .of_eq rfl, fun base _ _ => ?_⟩
  have n_is_number : Fn1 l.prog w K mg base 1 "is_number" spNum := ⟨_, _, _, ok_is_number F_is_number T, PySem.W.mg_of X G a_is_number, k_is_number, b_is_number⟩
  have n_is_order : Fn1 l.prog w K mg base 2 "is_order" spIsOrder := ⟨_, _, _, ok_is_order F_is_order T n_is_number, PySem.W.mg_of X G a_is_order, k_is_order, b_is_order⟩
  have n_check_order : Fn1 l.prog w K mg base 3 "check_order" spCheckOrder := ⟨_, _, _, ok_check_order F_check_order T n_is_order, PySem.W.mg_of X G a_check_order, k_check_order, b_check_order⟩
  have n_is_word : Fn1 l.prog w K mg base 2 "is_word" spIsWord := ⟨_, _, _, ok_is_word F_is_word T n_is_number, PySem.W.mg_of X G a_is_word, k_is_word, b_is_word⟩
  have n_riffle_sources : Fn1 l.prog w K mg base 1 "riffle_sources" spRifSrc := ⟨_, _, _, ok_riffle_sources F_riffle_sources T, PySem.W.mg_of X G a_riffle_sources, k_riffle_sources, b_riffle_sources⟩
  have m_sources : ∀ mv : Mv, Mth l.prog w K mg base 2 (mv.cls ⟨C_Move, C_Cut, C_Turn, C_Deal, C_Under, C_Weave, C_Riffle, 0, 0, 0⟩) "sources" (spSrc ⟨C_Move, C_Cut, C_Turn, C_Deal, C_Under, C_Weave, C_Riffle, 0, 0, 0⟩ mv) := fun mv => match mv with | .cut x => ⟨T.cl (.cut x), _, _, _, ⟨a_Cut_sources, i_Cut_sources, k_Cut_sources⟩, ok_Cut_sources F_Cut_sources T, b_Cut_sources⟩ | .turn => ⟨T.cl (.turn), _, _, _, ⟨a_Turn_sources, i_Turn_sources, k_Turn_sources⟩, ok_Turn_sources F_Turn_sources T, b_Turn_sources⟩ | .deal x => ⟨T.cl (.deal x), _, _, _, ⟨a_Deal_sources, i_Deal_sources, k_Deal_sources⟩, ok_Deal_sources F_Deal_sources T, b_Deal_sources⟩ | .under => ⟨T.cl (.under), _, _, _, ⟨a_Under_sources, i_Under_sources, k_Under_sources⟩, ok_Under_sources F_Under_sources T, b_Under_sources⟩ | .weave x => ⟨T.cl (.weave x), _, _, _, ⟨a_Weave_sources, i_Weave_sources, k_Weave_sources⟩, ok_Weave_sources F_Weave_sources T n_riffle_sources, b_Weave_sources⟩ | .riffle x => ⟨T.cl (.riffle x), _, _, _, ⟨a_Riffle_sources, i_Riffle_sources, k_Riffle_sources⟩, ok_Riffle_sources F_Riffle_sources T n_riffle_sources, b_Riffle_sources⟩
  have m_done : ∀ mv : Mv, Mth l.prog w K mg base 4 (mv.cls ⟨C_Move, C_Cut, C_Turn, C_Deal, C_Under, C_Weave, C_Riffle, 0, 0, 0⟩) "done" (spDone ⟨C_Move, C_Cut, C_Turn, C_Deal, C_Under, C_Weave, C_Riffle, 0, 0, 0⟩ mv) := fun mv => match mv with | .cut x => ⟨T.cl (.cut x), _, _, _, ⟨a_Cut_done, i_Move_done, k_Move_done⟩, ok_Move_done F_Move_done T n_check_order (m_sources (.cut x)), b_Move_done⟩ | .turn => ⟨T.cl (.turn), _, _, _, ⟨a_Turn_done, i_Move_done, k_Move_done⟩, ok_Move_done F_Move_done T n_check_order (m_sources (.turn)), b_Move_done⟩ | .deal x => ⟨T.cl (.deal x), _, _, _, ⟨a_Deal_done, i_Move_done, k_Move_done⟩, ok_Move_done F_Move_done T n_check_order (m_sources (.deal x)), b_Move_done⟩ | .under => ⟨T.cl (.under), _, _, _, ⟨a_Under_done, i_Move_done, k_Move_done⟩, ok_Move_done F_Move_done T n_check_order (m_sources (.under)), b_Move_done⟩ | .weave x => ⟨T.cl (.weave x), _, _, _, ⟨a_Weave_done, i_Move_done, k_Move_done⟩, ok_Move_done F_Move_done T n_check_order (m_sources (.weave x)), b_Move_done⟩ | .riffle x => ⟨T.cl (.riffle x), _, _, _, ⟨a_Riffle_done, i_Move_done, k_Move_done⟩, ok_Move_done F_Move_done T n_check_order (m_sources (.riffle x)), b_Move_done⟩
  have k_Cut : Mk1 l.prog w K mg base 3 "Cut" C_Cut (spInit1 ⟨C_Move, C_Cut, C_Turn, C_Deal, C_Under, C_Weave, C_Riffle, 0, 0, 0⟩ vCut isCut) := ⟨_, _, _, ⟨mk_Cut, a_Cut___init__, i_Cut___init__, kc_Cut⟩, (ok_Cut___init__ F_Cut___init__ T n_is_number).mono (by decide), b_Cut___init__, PySem.W.mg_of X G A_Cut⟩
  have k_Turn : Mk1 l.prog w K mg base 3 "Turn" C_Turn (spInit0 ⟨C_Move, C_Cut, C_Turn, C_Deal, C_Under, C_Weave, C_Riffle, 0, 0, 0⟩ .turn) := ⟨_, _, _, ⟨mk_Turn, a_Turn___init__, i_Turn___init__, kc_Turn⟩, (ok_Turn___init__ F_Turn___init__ ).mono (by decide), b_Turn___init__, PySem.W.mg_of X G A_Turn⟩
  have k_Deal : Mk1 l.prog w K mg base 3 "Deal" C_Deal (spInit1 ⟨C_Move, C_Cut, C_Turn, C_Deal, C_Under, C_Weave, C_Riffle, 0, 0, 0⟩ vDeal isDeal) := ⟨_, _, _, ⟨mk_Deal, a_Deal___init__, i_Deal___init__, kc_Deal⟩, (ok_Deal___init__ F_Deal___init__ T n_is_number).mono (by decide), b_Deal___init__, PySem.W.mg_of X G A_Deal⟩
  have k_Under : Mk1 l.prog w K mg base 3 "Under" C_Under (spInit0 ⟨C_Move, C_Cut, C_Turn, C_Deal, C_Under, C_Weave, C_Riffle, 0, 0, 0⟩ .under) := ⟨_, _, _, ⟨mk_Under, a_Under___init__, i_Under___init__, kc_Under⟩, (ok_Under___init__ F_Under___init__ ).mono (by decide), b_Under___init__, PySem.W.mg_of X G A_Under⟩
  have k_Weave : Mk1 l.prog w K mg base 3 "Weave" C_Weave (spInit1 ⟨C_Move, C_Cut, C_Turn, C_Deal, C_Under, C_Weave, C_Riffle, 0, 0, 0⟩ vWeave isWeave) := ⟨_, _, _, ⟨mk_Weave, a_Weave___init__, i_Weave___init__, kc_Weave⟩, (ok_Weave___init__ F_Weave___init__ T n_is_number).mono (by decide), b_Weave___init__, PySem.W.mg_of X G A_Weave⟩
  have k_Riffle : Mk1 l.prog w K mg base 3 "Riffle" C_Riffle (spInit1 ⟨C_Move, C_Cut, C_Turn, C_Deal, C_Under, C_Weave, C_Riffle, 0, 0, 0⟩ vRiffle isRiffle) := ⟨_, _, _, ⟨mk_Riffle, a_Riffle___init__, i_Riffle___init__, kc_Riffle⟩, (ok_Riffle___init__ F_Riffle___init__ T n_is_word).mono (by decide), b_Riffle___init__, PySem.W.mg_of X G A_Riffle⟩
  have Z : ExcTxt K mg ⟨C_PackError, C_BadOrder, C_BadMove, C_BadNumber, C_BadText⟩ := { mg_PackError := PySem.W.mg_of X G A_PackError, mg_BadOrder := PySem.W.mg_of X G A_BadOrder, mg_BadMove := PySem.W.mg_of X G A_BadMove, mg_BadNumber := PySem.W.mg_of X G A_BadNumber, mg_BadText := PySem.W.mg_of X G A_BadText, no_ValueError := PySem.W.mg_none_of X G no_ValueError, c_PackError := ExcCl.of xe_PackError xg_PackError xt_PackError xc_PackError yg yt xb_PackError xo_PackError xy_PackError, c_BadMove := ExcCl.of xe_BadMove xg_BadMove xt_BadMove xc_BadMove yg yt xb_BadMove xo_BadMove xy_BadMove, c_BadText := ExcCl.of xe_BadText xg_BadText xt_BadText xc_BadText yg yt xb_BadText xo_BadText xy_BadText, move_move := xm_BadMove_BadMove, text_move := xm_BadText_BadMove, text_pack := xm_BadText_PackError, k_move := xk_BadText_BadMove, k_number := xk_BadText_BadNumber, k_order := xk_BadText_BadOrder, k_text := xk_BadText_BadText, k_value := xk_BadText_ValueError }
  have n_is_wordG : Fn1 l.prog w K mg base 2 "is_word" spWordG := ⟨_, _, _, okn_is_word F_is_word T n_is_number, PySem.W.mg_of X G a_is_word, k_is_word, b_is_word⟩
  have x_number_read : FnX l.prog w K mg base 1 "number_read" (spNumRead ⟨C_PackError, C_BadOrder, C_BadMove, C_BadNumber, C_BadText⟩) := ⟨_, _, _, okx_number_read F_number_read T Z, PySem.W.mg_of X G a_number_read, k_number_read, b_number_read⟩
  have y_Deal : MkX l.prog w K mg base 3 "Deal" C_Deal (spNumX ⟨C_Move, C_Cut, C_Turn, C_Deal, C_Under, C_Weave, C_Riffle, 0, 0, 0⟩ ⟨C_PackError, C_BadOrder, C_BadMove, C_BadNumber, C_BadText⟩ .deal) := ⟨_, _, _, ⟨mk_Deal, a_Deal___init__, i_Deal___init__, kc_Deal⟩, (okx_Deal___init__ F_Deal___init__ T Z n_is_number).mono (by decide), b_Deal___init__, PySem.W.mg_of X G A_Deal⟩
  have y_Weave : MkX l.prog w K mg base 3 "Weave" C_Weave (spNumX ⟨C_Move, C_Cut, C_Turn, C_Deal, C_Under, C_Weave, C_Riffle, 0, 0, 0⟩ ⟨C_PackError, C_BadOrder, C_BadMove, C_BadNumber, C_BadText⟩ .weave) := ⟨_, _, _, ⟨mk_Weave, a_Weave___init__, i_Weave___init__, kc_Weave⟩, (okx_Weave___init__ F_Weave___init__ T Z n_is_number).mono (by decide), b_Weave___init__, PySem.W.mg_of X G A_Weave⟩
  have y_Riffle : MkX l.prog w K mg base 3 "Riffle" C_Riffle (spRifX ⟨C_Move, C_Cut, C_Turn, C_Deal, C_Under, C_Weave, C_Riffle, 0, 0, 0⟩ ⟨C_PackError, C_BadOrder, C_BadMove, C_BadNumber, C_BadText⟩) := ⟨_, _, _, ⟨mk_Riffle, a_Riffle___init__, i_Riffle___init__, kc_Riffle⟩, (okx_Riffle___init__ F_Riffle___init__ T Z n_is_wordG).mono (by decide), b_Riffle___init__, PySem.W.mg_of X G A_Riffle⟩
  have x_move_made : FnX l.prog w K mg base 5 "move_made" (spMadeX ⟨C_Move, C_Cut, C_Turn, C_Deal, C_Under, C_Weave, C_Riffle, 0, 0, 0⟩ ⟨C_PackError, C_BadOrder, C_BadMove, C_BadNumber, C_BadText⟩) := ⟨_, _, _, okx_move_made F_move_made T Z x_number_read k_Cut k_Turn k_Under y_Deal y_Weave y_Riffle, PySem.W.mg_of X G a_move_made, k_move_made, b_move_made⟩
  have x_move_read : FnX l.prog w K mg base 6 "move_read" (spReadP ⟨C_Move, C_Cut, C_Turn, C_Deal, C_Under, C_Weave, C_Riffle, 0, 0, 0⟩ ⟨C_PackError, C_BadOrder, C_BadMove, C_BadNumber, C_BadText⟩) := ⟨_, _, _, okx_move_read F_move_read T Z x_move_made, PySem.W.mg_of X G a_move_read, k_move_read, b_move_read⟩
  have x_read : FnX l.prog w K mg base 7 "read" (spRead K ⟨C_Move, C_Cut, C_Turn, C_Deal, C_Under, C_Weave, C_Riffle, 0, 0, 0⟩ ⟨C_PackError, C_BadOrder, C_BadMove, C_BadNumber, C_BadText⟩) := ⟨_, _, _, okx_read F_read T Z x_move_read, PySem.W.mg_of X G a_read, k_read, b_read⟩
  have n_read := x_read.calm
  have n_check_move : Fn1 l.prog w K mg base 1 "check_move" (spCheckMove ⟨C_Move, C_Cut, C_Turn, C_Deal, C_Under, C_Weave, C_Riffle, 0, 0, 0⟩) := ⟨_, _, _, ok_check_move F_check_move T Y, PySem.W.mg_of X G a_check_move, k_check_move, b_check_move⟩
  have n_check_moves : Fn1 l.prog w K mg base 2 "check_moves" (spCheckMoves ⟨C_Move, C_Cut, C_Turn, C_Deal, C_Under, C_Weave, C_Riffle, 0, 0, 0⟩) := ⟨_, _, _, ok_check_moves F_check_moves T n_check_move, PySem.W.mg_of X G a_check_moves, k_check_moves, b_check_moves⟩
  have n_done_all : Fn1 l.prog w K mg base 5 "done_all" (spDoneAll ⟨C_Move, C_Cut, C_Turn, C_Deal, C_Under, C_Weave, C_Riffle, 0, 0, 0⟩) := ⟨_, _, _, ok_done_all F_done_all T n_check_moves n_check_order m_done, PySem.W.mg_of X G a_done_all, k_done_all, b_done_all⟩
  have n_move_written : Fn1 l.prog w K mg base 1 "move_written" (spMoveWritten ⟨C_Move, C_Cut, C_Turn, C_Deal, C_Under, C_Weave, C_Riffle, 0, 0, 0⟩) := ⟨_, _, _, ok_move_written F_move_written T Y, PySem.W.mg_of X G a_move_written, k_move_written, b_move_written⟩
  have n_written : Fn1 l.prog w K mg base 3 "written" (spWritten ⟨C_Move, C_Cut, C_Turn, C_Deal, C_Under, C_Weave, C_Riffle, 0, 0, 0⟩) := ⟨_, _, _, ok_written F_written T n_check_moves n_move_written, PySem.W.mg_of X G a_written, k_written, b_written⟩
  have n__law_cell_at : Fn1 l.prog w K mg base 1 "_law_cell_at" (spCell K) := ⟨_, _, _, ok__law_cell_at F__law_cell_at T, PySem.W.mg_of X G a__law_cell_at, k__law_cell_at, b__law_cell_at⟩
  have n__law_draw : Fn1 l.prog w K mg base 1 "_law_draw" spDraw := ⟨_, _, _, ok__law_draw F__law_draw , PySem.W.mg_of X G a__law_draw, k__law_draw, b__law_draw⟩
  have n__law_many : Fn1 l.prog w K mg base 2 "_law_many" spMany := ⟨_, _, _, ok__law_many F__law_many n__law_draw, PySem.W.mg_of X G a__law_many, k__law_many, b__law_many⟩
  have n__law_order : Fn1 l.prog w K mg base 2 "_law_order" spOrder := ⟨_, _, _, ok__law_order F__law_order T n__law_draw, PySem.W.mg_of X G a__law_order, k__law_order, b__law_order⟩
  have n__law_word : Fn1 l.prog w K mg base 2 "_law_word" spWord := ⟨_, _, _, ok__law_word F__law_word T n__law_draw, PySem.W.mg_of X G a__law_word, k__law_word, b__law_word⟩
  have n__law_riffled : Fn1 l.prog w K mg base 1 "_law_riffled" spRiffled := ⟨_, _, _, ok__law_riffled F__law_riffled T, PySem.W.mg_of X G a__law_riffled, k__law_riffled, b__law_riffled⟩
  have n__law_under : Fn1 l.prog w K mg base 1 "_law_under" spUnderL := ⟨_, _, _, ok__law_under F__law_under T, PySem.W.mg_of X G a__law_under, k__law_under, b__law_under⟩
  have n__law_dealt : Fn1 l.prog w K mg base 1 "_law_dealt" spDealt := ⟨_, _, _, ok__law_dealt F__law_dealt T, PySem.W.mg_of X G a__law_dealt, k__law_dealt, b__law_dealt⟩
  have n__law_moved : Fn1 l.prog w K mg base 2 "_law_moved" spMoved := ⟨_, _, _, ok__law_moved F__law_moved T n__law_dealt n__law_under n__law_riffled, PySem.W.mg_of X G a__law_moved, k__law_moved, b__law_moved⟩
  have n__law_told : Fn1 l.prog w K mg base 3 "_law_told" spTold := ⟨_, _, _, ok__law_told F__law_told T n__law_draw n__law_word, PySem.W.mg_of X G a__law_told, k__law_told, b__law_told⟩
  have n__law_made : Fn1 l.prog w K mg base 5 "_law_made" (spMade ⟨C_Move, C_Cut, C_Turn, C_Deal, C_Under, C_Weave, C_Riffle, 0, 0, 0⟩) := ⟨_, _, _, ok__law_made F__law_made T k_Cut k_Turn k_Deal k_Under k_Weave k_Riffle, PySem.W.mg_of X G a__law_made, k__law_made, b__law_made⟩
  have n__law_text : Fn1 l.prog w K mg base 1 "_law_text" (spText ⟨C_Move, C_Cut, C_Turn, C_Deal, C_Under, C_Weave, C_Riffle, 0, 0, 0⟩) := ⟨_, _, _, ok__law_text F__law_text T, PySem.W.mg_of X G a__law_text, k__law_text, b__law_text⟩
  have n__law_number : Fn1 l.prog w K mg base 1 "_law_number" spLNum := ⟨_, _, _, ok__law_number F__law_number T, PySem.W.mg_of X G a__law_number, k__law_number, b__law_number⟩
  have n__law_writes : Fn1 l.prog w K mg base 2 "_law_writes" spWrites := ⟨_, _, _, ok__law_writes F__law_writes T n__law_number, PySem.W.mg_of X G a__law_writes, k__law_writes, b__law_writes⟩
  have n__law_few : Fn1 l.prog w K mg base 1 "_law_few" spFew := ⟨_, _, _, ok__law_few F__law_few , PySem.W.mg_of X G a__law_few, k__law_few, b__law_few⟩
  have n__law_refused : Fn1 l.prog w K mg base 8 "_law_refused" (spRefused K) := ⟨_, _, _, ok__law_refused F__law_refused T Z x_read, PySem.W.mg_of X G a__law_refused, k__law_refused, b__law_refused⟩
  exact ok_law F_law T n__law_cell_at n__law_draw n__law_many n__law_order n__law_told n__law_text n__law_made n__law_moved n_written n_read n_done_all n__law_few n__law_writes n__law_refused
theorem walk {l : PySem.W.OpenLaw} {q : Program} {loose : List Str} {XP : (Str → Option Value) → Heap → Prop} {YP : World → Heap → Prop} {d : DefRec} {K : Params → PySem.W.Frag} (hn : l.most = some 63) (hdf : d.params.defaults = [])
    (hY : ∀ (w : World) (h : Heap), YP w h → (K w.params).In h)
    (F : ∀ (w : World) (mg : Str → Option Value) (fa : Addr) (h : Heap), (K w.params).In h → h.Ns mainGlobals mg → mg d.name = some (.ref fa) →
      ∃ fd : FuncData, (∀ (s : Shared) (u : Value), BindsTo s fd ⟨[u], []⟩ [("_law_script", u)]) ∧ ∀ base : Heap, (K w.params).In base → base.Ns mainGlobals mg → FnOk l.prog w (K w.params) mg base CX0 9 fa fd ["_law_script"] (spLaw (K w.params))) :
    PySem.W.WalkO q loose XP YP l.row.toRowW d [] (fun f vs => PySem.call f vs) :=
  L2.walk_of (n := 63) (k := 9) (x := "_law_script") (CX := fun _ => CX0) (sp := fun w => spLaw (K w.params)) hn (by decide) hdf ⟨rfl, by decide, by decide⟩ hY F (fun _ _ a ns hl _ hS => ⟨a, ns, rfl, hS, hl, fun _ => rfl⟩) fun _ _ _ _ _ z => z
end Rf

set_option Elab.async false
set_option linter.all false
open PySem PySem.W PyProof.Rows
def PySem.W.Fast.tw10448932378758579114 : Unit := ()
def PySem.W.Fast.tw316816435749920912 : Unit := ()
def PySem.W.Fast.tw16488646171145552599 : Unit := ()
def PySem.W.Fast.tw4580466804815011825 : Unit := ()
def PySem.W.Fast.tw7213220172596609653 : Unit := ()
def PySem.W.Fast.tw2023122654267121613 : Unit := ()
def PySem.W.Fast.tw13044694313170195921 : Unit := ()
def PySem.W.Fast.tw5629277339414093004 : Unit := ()
def PySem.W.Fast.tw12064508861272455746 : Unit := ()
def PySem.W.Fast.tw4203501812085685893 : Unit := ()
def PySem.W.Fast.tw218944200541396420 : Unit := ()
def PySem.W.Fast.tw394559167403712565 : Unit := ()
def PySem.W.Fast.tw9377571477395084240 : Unit := ()
def PySem.W.Fast.tw10097740429001228981 : Unit := ()
set_option maxRecDepth 100000 in
set_option maxHeartbeats 0 in
theorem PySem.Challenge.cw_riffles_k09_written_holds : PySem.Challenge.rw_riffles_k09_written.Holds := by
  w_on; o_law; k_head; (case hw => w_witness2)
  k_fill
  refine Rf.walk (l := PySem.Challenge.rw_riffles_k09_written) rfl rfl (fun w h Y => PySem.W.kIn_of Y) ?F
  case F =>
    intro w mg fa h KX G hmg
    refine' Rf.all_mk KX G hmg ?A_Move ?A_Cut ?A_Turn ?A_Deal ?A_Under ?A_Weave ?A_Riffle ?a_is_number ?a_is_order ?a_check_order ?a_is_word ?a_riffle_sources ?a_check_move ?a_check_moves ?a_done_all ?a_written ?a_read ?a_move_written ?a_move_read ?a_move_made ?a_number_read ?a__law_cell_at ?a__law_draw ?a__law_order ?a__law_many ?a__law_word ?a__law_riffled ?a__law_dealt ?a__law_under ?a__law_moved ?a__law_told ?a__law_made ?a__law_text ?a__law_number ?a__law_writes ?a__law_refused ?a__law_few ?a_law ?a_Cut___init__ ?i_Cut___init__ ?a_Turn___init__ ?i_Turn___init__ ?a_Deal___init__ ?i_Deal___init__ ?a_Under___init__ ?i_Under___init__ ?a_Weave___init__ ?i_Weave___init__ ?a_Riffle___init__ ?i_Riffle___init__ ?a_Cut_sources ?i_Cut_sources ?a_Turn_sources ?i_Turn_sources ?a_Deal_sources ?i_Deal_sources ?a_Under_sources ?i_Under_sources ?a_Weave_sources ?i_Weave_sources ?a_Riffle_sources ?i_Riffle_sources ?a_Cut_done ?a_Turn_done ?a_Deal_done ?a_Under_done ?a_Weave_done ?a_Riffle_done ?i_Move_done ?l_is_number ?c_is_number ?k_is_number ?l_is_order ?c_is_order ?k_is_order ?l_check_order ?c_check_order ?k_check_order ?l_is_word ?c_is_word ?k_is_word ?l_riffle_sources ?c_riffle_sources ?k_riffle_sources ?l_check_move ?c_check_move ?k_check_move ?l_check_moves ?c_check_moves ?k_check_moves ?l_done_all ?c_done_all ?k_done_all ?l_written ?c_written ?k_written ?l_read ?c_read ?k_read ?l_move_written ?c_move_written ?k_move_written ?l_move_read ?c_move_read ?k_move_read ?l_move_made ?c_move_made ?k_move_made ?l_number_read ?c_number_read ?k_number_read ?l__law_cell_at ?c__law_cell_at ?k__law_cell_at ?l__law_draw ?c__law_draw ?k__law_draw ?l__law_order ?c__law_order ?k__law_order ?l__law_many ?c__law_many ?k__law_many ?l__law_word ?c__law_word ?k__law_word ?l__law_riffled ?c__law_riffled ?k__law_riffled ?l__law_dealt ?c__law_dealt ?k__law_dealt ?l__law_under ?c__law_under ?k__law_under ?l__law_moved ?c__law_moved ?k__law_moved ?l__law_told ?c__law_told ?k__law_told ?l__law_made ?c__law_made ?k__law_made ?l__law_text ?c__law_text ?k__law_text ?l__law_number ?c__law_number ?k__law_number ?l__law_writes ?c__law_writes ?k__law_writes ?l__law_refused ?c__law_refused ?k__law_refused ?l__law_few ?c__law_few ?k__law_few ?l_law ?c_law ?k_law ?l_Cut___init__ ?c_Cut___init__ ?k_Cut___init__ ?l_Turn___init__ ?c_Turn___init__ ?k_Turn___init__ ?l_Deal___init__ ?c_Deal___init__ ?k_Deal___init__ ?l_Under___init__ ?c_Under___init__ ?k_Under___init__ ?l_Weave___init__ ?c_Weave___init__ ?k_Weave___init__ ?l_Riffle___init__ ?c_Riffle___init__ ?k_Riffle___init__ ?l_Cut_sources ?c_Cut_sources ?k_Cut_sources ?l_Turn_sources ?c_Turn_sources ?k_Turn_sources ?l_Deal_sources ?c_Deal_sources ?k_Deal_sources ?l_Under_sources ?c_Under_sources ?k_Under_sources ?l_Weave_sources ?c_Weave_sources ?k_Weave_sources ?l_Riffle_sources ?c_Riffle_sources ?k_Riffle_sources ?l_Move_done ?c_Move_done ?k_Move_done ?pg_Cut ?hd_Cut ?po_Cut ?sa_Cut ?mk_Cut ?kc_Cut ?yc_Cut ?ym_Cut ?yv_Cut ?y_Cut_Cut ?y_Cut_Turn ?y_Cut_Deal ?y_Cut_Under ?y_Cut_Weave ?y_Cut_Riffle ?pg_Turn ?hd_Turn ?po_Turn ?sa_Turn ?mk_Turn ?kc_Turn ?yc_Turn ?ym_Turn ?yv_Turn ?y_Turn_Cut ?y_Turn_Turn ?y_Turn_Deal ?y_Turn_Under ?y_Turn_Weave ?y_Turn_Riffle ?pg_Deal ?hd_Deal ?po_Deal ?sa_Deal ?mk_Deal ?kc_Deal ?yc_Deal ?ym_Deal ?yv_Deal ?y_Deal_Cut ?y_Deal_Turn ?y_Deal_Deal ?y_Deal_Under ?y_Deal_Weave ?y_Deal_Riffle ?pg_Under ?hd_Under ?po_Under ?sa_Under ?mk_Under ?kc_Under ?yc_Under ?ym_Under ?yv_Under ?y_Under_Cut ?y_Under_Turn ?y_Under_Deal ?y_Under_Under ?y_Under_Weave ?y_Under_Riffle ?pg_Weave ?hd_Weave ?po_Weave ?sa_Weave ?mk_Weave ?kc_Weave ?yc_Weave ?ym_Weave ?yv_Weave ?y_Weave_Cut ?y_Weave_Turn ?y_Weave_Deal ?y_Weave_Under ?y_Weave_Weave ?y_Weave_Riffle ?pg_Riffle ?hd_Riffle ?po_Riffle ?sa_Riffle ?mk_Riffle ?kc_Riffle ?yc_Riffle ?ym_Riffle ?yv_Riffle ?y_Riffle_Cut ?y_Riffle_Turn ?y_Riffle_Deal ?y_Riffle_Under ?y_Riffle_Weave ?y_Riffle_Riffle ?yg ?yt ?na_many ?na_piles ?na_first ?na_word ?no_isinstance ?no_bool ?no_int ?no_list ?no_str ?no_len ?no_all ?no_any ?no_min ?no_max ?no_sum ?no_range ?no_set ?no_reversed ?no_enumerate ?A_PackError ?A_BadOrder ?A_BadMove ?A_BadNumber ?A_BadText ?no_ValueError ?xe_PackError ?xg_PackError ?xt_PackError ?xc_PackError ?xb_PackError ?xo_PackError ?xy_PackError ?xe_BadMove ?xg_BadMove ?xt_BadMove ?xc_BadMove ?xb_BadMove ?xo_BadMove ?xy_BadMove ?xe_BadText ?xg_BadText ?xt_BadText ?xc_BadText ?xb_BadText ?xo_BadText ?xy_BadText ?xm_BadMove_BadMove ?xm_BadText_BadMove ?xm_BadText_PackError ?xk_BadText_BadMove ?xk_BadText_BadNumber ?xk_BadText_BadOrder ?xk_BadText_BadText ?xk_BadText_ValueError ?MC
    (case A_Move => k_is)
    (case A_Cut => k_is)
    (case A_Turn => k_is)
    (case A_Deal => k_is)
    (case A_Under => k_is)
    (case A_Weave => k_is)
    (case A_Riffle => k_is)
    (case a_is_number => k_is)
    (case a_is_order => k_is)
    (case a_check_order => k_is)
    (case a_is_word => k_is)
    (case a_riffle_sources => k_is)
    (case a_check_move => k_is)
    (case a_check_moves => k_is)
    (case a_done_all => k_is)
    (case a_written => k_is)
    (case a_read => k_is)
    (case a_move_written => k_is)
    (case a_move_read => k_is)
    (case a_move_made => k_is)
    (case a_number_read => k_is)
    (case a__law_cell_at => k_is)
    (case a__law_draw => k_is)
    (case a__law_order => k_is)
    (case a__law_many => k_is)
    (case a__law_word => k_is)
    (case a__law_riffled => k_is)
    (case a__law_dealt => k_is)
    (case a__law_under => k_is)
    (case a__law_moved => k_is)
    (case a__law_told => k_is)
    (case a__law_made => k_is)
    (case a__law_text => k_is)
    (case a__law_number => k_is)
    (case a__law_writes => k_is)
    (case a__law_refused => k_is)
    (case a__law_few => k_is)
    (case a_law => k_is)
    (case a_Cut___init__ => k_is)
    (case i_Cut___init__ => k_is)
    (case a_Turn___init__ => k_is)
    (case i_Turn___init__ => k_is)
    (case a_Deal___init__ => k_is)
    (case i_Deal___init__ => k_is)
    (case a_Under___init__ => k_is)
    (case i_Under___init__ => k_is)
    (case a_Weave___init__ => k_is)
    (case i_Weave___init__ => k_is)
    (case a_Riffle___init__ => k_is)
    (case i_Riffle___init__ => k_is)
    (case a_Cut_sources => k_is)
    (case i_Cut_sources => k_is)
    (case a_Turn_sources => k_is)
    (case i_Turn_sources => k_is)
    (case a_Deal_sources => k_is)
    (case i_Deal_sources => k_is)
    (case a_Under_sources => k_is)
    (case i_Under_sources => k_is)
    (case a_Weave_sources => k_is)
    (case i_Weave_sources => k_is)
    (case a_Riffle_sources => k_is)
    (case i_Riffle_sources => k_is)
    (case a_Cut_done => k_is)
    (case a_Turn_done => k_is)
    (case a_Deal_done => k_is)
    (case a_Under_done => k_is)
    (case a_Weave_done => k_is)
    (case a_Riffle_done => k_is)
    (case i_Move_done => k_is)
    (case l_is_number => k_is)
    (case c_is_number => k_is)
    (case k_is_number => k_is)
    (case l_is_order => k_is)
    (case c_is_order => k_is)
    (case k_is_order => k_is)
    (case l_check_order => k_is)
    (case c_check_order => k_is)
    (case k_check_order => k_is)
    (case l_is_word => k_is)
    (case c_is_word => k_is)
    (case k_is_word => k_is)
    (case l_riffle_sources => k_is)
    (case c_riffle_sources => k_is)
    (case k_riffle_sources => k_is)
    (case l_check_move => k_is)
    (case c_check_move => k_is)
    (case k_check_move => k_is)
    (case l_check_moves => k_is)
    (case c_check_moves => k_is)
    (case k_check_moves => k_is)
    (case l_done_all => k_is)
    (case c_done_all => k_is)
    (case k_done_all => k_is)
    (case l_written => k_is)
    (case c_written => k_is)
    (case k_written => k_is)
    (case l_read => k_is)
    (case c_read => k_is)
    (case k_read => k_is)
    (case l_move_written => k_is)
    (case c_move_written => k_is)
    (case k_move_written => k_is)
    (case l_move_read => k_is)
    (case c_move_read => k_is)
    (case k_move_read => k_is)
    (case l_move_made => k_is)
    (case c_move_made => k_is)
    (case k_move_made => k_is)
    (case l_number_read => k_is)
    (case c_number_read => k_is)
    (case k_number_read => k_is)
    (case l__law_cell_at => k_is)
    (case c__law_cell_at => k_is)
    (case k__law_cell_at => k_is)
    (case l__law_draw => k_is)
    (case c__law_draw => k_is)
    (case k__law_draw => k_is)
    (case l__law_order => k_is)
    (case c__law_order => k_is)
    (case k__law_order => k_is)
    (case l__law_many => k_is)
    (case c__law_many => k_is)
    (case k__law_many => k_is)
    (case l__law_word => k_is)
    (case c__law_word => k_is)
    (case k__law_word => k_is)
    (case l__law_riffled => k_is)
    (case c__law_riffled => k_is)
    (case k__law_riffled => k_is)
    (case l__law_dealt => k_is)
    (case c__law_dealt => k_is)
    (case k__law_dealt => k_is)
    (case l__law_under => k_is)
    (case c__law_under => k_is)
    (case k__law_under => k_is)
    (case l__law_moved => k_is)
    (case c__law_moved => k_is)
    (case k__law_moved => k_is)
    (case l__law_told => k_is)
    (case c__law_told => k_is)
    (case k__law_told => k_is)
    (case l__law_made => k_is)
    (case c__law_made => k_is)
    (case k__law_made => k_is)
    (case l__law_text => k_is)
    (case c__law_text => k_is)
    (case k__law_text => k_is)
    (case l__law_number => k_is)
    (case c__law_number => k_is)
    (case k__law_number => k_is)
    (case l__law_writes => k_is)
    (case c__law_writes => k_is)
    (case k__law_writes => k_is)
    (case l__law_refused => k_is)
    (case c__law_refused => k_is)
    (case k__law_refused => k_is)
    (case l__law_few => k_is)
    (case c__law_few => k_is)
    (case k__law_few => k_is)
    (case l_law => k_is)
    (case c_law => k_is)
    (case k_law => k_is)
    (case l_Cut___init__ => k_is)
    (case c_Cut___init__ => k_is)
    (case k_Cut___init__ => k_is)
    (case l_Turn___init__ => k_is)
    (case c_Turn___init__ => k_is)
    (case k_Turn___init__ => k_is)
    (case l_Deal___init__ => k_is)
    (case c_Deal___init__ => k_is)
    (case k_Deal___init__ => k_is)
    (case l_Under___init__ => k_is)
    (case c_Under___init__ => k_is)
    (case k_Under___init__ => k_is)
    (case l_Weave___init__ => k_is)
    (case c_Weave___init__ => k_is)
    (case k_Weave___init__ => k_is)
    (case l_Riffle___init__ => k_is)
    (case c_Riffle___init__ => k_is)
    (case k_Riffle___init__ => k_is)
    (case l_Cut_sources => k_is)
    (case c_Cut_sources => k_is)
    (case k_Cut_sources => k_is)
    (case l_Turn_sources => k_is)
    (case c_Turn_sources => k_is)
    (case k_Turn_sources => k_is)
    (case l_Deal_sources => k_is)
    (case c_Deal_sources => k_is)
    (case k_Deal_sources => k_is)
    (case l_Under_sources => k_is)
    (case c_Under_sources => k_is)
    (case k_Under_sources => k_is)
    (case l_Weave_sources => k_is)
    (case c_Weave_sources => k_is)
    (case k_Weave_sources => k_is)
    (case l_Riffle_sources => k_is)
    (case c_Riffle_sources => k_is)
    (case k_Riffle_sources => k_is)
    (case l_Move_done => k_is)
    (case c_Move_done => k_is)
    (case k_Move_done => k_is)
    (case pg_Cut => k_is)
    (case hd_Cut => k_is)
    (case po_Cut => k_is)
    (case sa_Cut => k_is)
    (case mk_Cut => k_is)
    (case kc_Cut => k_is)
    (case yc_Cut => k_is)
    (case ym_Cut => k_is)
    (case yv_Cut => kit_is)
    (case y_Cut_Cut => kit_is)
    (case y_Cut_Turn => kit_is)
    (case y_Cut_Deal => kit_is)
    (case y_Cut_Under => kit_is)
    (case y_Cut_Weave => kit_is)
    (case y_Cut_Riffle => kit_is)
    (case pg_Turn => k_is)
    (case hd_Turn => k_is)
    (case po_Turn => k_is)
    (case sa_Turn => k_is)
    (case mk_Turn => k_is)
    (case kc_Turn => k_is)
    (case yc_Turn => k_is)
    (case ym_Turn => k_is)
    (case yv_Turn => kit_is)
    (case y_Turn_Cut => kit_is)
    (case y_Turn_Turn => kit_is)
    (case y_Turn_Deal => kit_is)
    (case y_Turn_Under => kit_is)
    (case y_Turn_Weave => kit_is)
    (case y_Turn_Riffle => kit_is)
    (case pg_Deal => k_is)
    (case hd_Deal => k_is)
    (case po_Deal => k_is)
    (case sa_Deal => k_is)
    (case mk_Deal => k_is)
    (case kc_Deal => k_is)
    (case yc_Deal => k_is)
    (case ym_Deal => k_is)
    (case yv_Deal => kit_is)
    (case y_Deal_Cut => kit_is)
    (case y_Deal_Turn => kit_is)
    (case y_Deal_Deal => kit_is)
    (case y_Deal_Under => kit_is)
    (case y_Deal_Weave => kit_is)
    (case y_Deal_Riffle => kit_is)
    (case pg_Under => k_is)
    (case hd_Under => k_is)
    (case po_Under => k_is)
    (case sa_Under => k_is)
    (case mk_Under => k_is)
    (case kc_Under => k_is)
    (case yc_Under => k_is)
    (case ym_Under => k_is)
    (case yv_Under => kit_is)
    (case y_Under_Cut => kit_is)
    (case y_Under_Turn => kit_is)
    (case y_Under_Deal => kit_is)
    (case y_Under_Under => kit_is)
    (case y_Under_Weave => kit_is)
    (case y_Under_Riffle => kit_is)
    (case pg_Weave => k_is)
    (case hd_Weave => k_is)
    (case po_Weave => k_is)
    (case sa_Weave => k_is)
    (case mk_Weave => k_is)
    (case kc_Weave => k_is)
    (case yc_Weave => k_is)
    (case ym_Weave => k_is)
    (case yv_Weave => kit_is)
    (case y_Weave_Cut => kit_is)
    (case y_Weave_Turn => kit_is)
    (case y_Weave_Deal => kit_is)
    (case y_Weave_Under => kit_is)
    (case y_Weave_Weave => kit_is)
    (case y_Weave_Riffle => kit_is)
    (case pg_Riffle => k_is)
    (case hd_Riffle => k_is)
    (case po_Riffle => k_is)
    (case sa_Riffle => k_is)
    (case mk_Riffle => k_is)
    (case kc_Riffle => k_is)
    (case yc_Riffle => k_is)
    (case ym_Riffle => k_is)
    (case yv_Riffle => kit_is)
    (case y_Riffle_Cut => kit_is)
    (case y_Riffle_Turn => kit_is)
    (case y_Riffle_Deal => kit_is)
    (case y_Riffle_Under => kit_is)
    (case y_Riffle_Weave => kit_is)
    (case y_Riffle_Riffle => kit_is)
    (case yg => k_is)
    (case yt => k_is)
    (case na_many => k_is)
    (case na_piles => k_is)
    (case na_first => k_is)
    (case na_word => k_is)
    (case no_isinstance => k_is)
    (case no_bool => k_is)
    (case no_int => k_is)
    (case no_list => k_is)
    (case no_str => k_is)
    (case no_len => k_is)
    (case no_all => k_is)
    (case no_any => k_is)
    (case no_min => k_is)
    (case no_max => k_is)
    (case no_sum => k_is)
    (case no_range => k_is)
    (case no_set => k_is)
    (case no_reversed => k_is)
    (case no_enumerate => k_is)
    (case A_PackError => k_is)
    (case A_BadOrder => k_is)
    (case A_BadMove => k_is)
    (case A_BadNumber => k_is)
    (case A_BadText => k_is)
    (case no_ValueError => k_is)
    (case xe_PackError => k_exc)
    (case xg_PackError => k_is)
    (case xt_PackError => k_is)
    (case xc_PackError => k_is)
    (case xb_PackError => k_is)
    (case xo_PackError => k_is)
    (case xy_PackError => k_is)
    (case xe_BadMove => k_exc)
    (case xg_BadMove => k_is)
    (case xt_BadMove => k_is)
    (case xc_BadMove => k_is)
    (case xb_BadMove => k_is)
    (case xo_BadMove => k_is)
    (case xy_BadMove => k_is)
    (case xe_BadText => k_exc)
    (case xg_BadText => k_is)
    (case xt_BadText => k_is)
    (case xc_BadText => k_is)
    (case xb_BadText => k_is)
    (case xo_BadText => k_is)
    (case xy_BadText => k_is)
    (case xm_BadMove_BadMove => k_is)
    (case xm_BadText_BadMove => k_is)
    (case xm_BadText_PackError => k_is)
    (case xk_BadText_BadMove => kit_is)
    (case xk_BadText_BadNumber => kit_is)
    (case xk_BadText_BadOrder => kit_is)
    (case xk_BadText_BadText => kit_is)
    (case xk_BadText_ValueError => kit_is)
    (case MC => k_is)
#print axioms PySem.Challenge.cw_riffles_k09_written_holds
