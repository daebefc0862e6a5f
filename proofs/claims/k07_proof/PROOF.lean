import PyProof.Rows.All
import Wide.All
import OpenK.AllK
import Wide.FinOn
import Lean
import PyProof.EqAt
import PyProof.EqKinds
import PyProof.TupleCall
import PyProof.ListRange
import PyProof.Rows.Range3
import PyProof.NeKinds
import PyProof.EnumMake
import PyProof.EnumFor
import PyProof.StrWalks
import PyProof.ConsumeWalk
import PyProof.Rows.SetFrom
import PyProof.SetRoads
import PyProof.StrBlock2
import KE.KRevIter
import PyProof.EnumStmt
import PyProof.CollectIter
import PyProof.InstEq
import PySem.Challenge.RW_riffles_k07_brought
set_option Elab.async false
set_option linter.all false
set_option maxRecDepth 100000
/-! THE HAND LAYER, for ints, bools, texts, own classes, LISTS and tuples (index, slices, in, append, pop ..), calls, loops. Paste it whole ahead of your own text; what your proof does not reach may be deleted. -/
namespace L2
open PySem PySem.Spec PyProof.Rows

/-- a key: an int or a str -/
abbrev Key := Sum Int Str
def keyIs : Key → Value → Bool
  | .inl k, v => Value.isInt k v
  | .inr x, v => Value.isStrOf x v
def keyH (w : World) : Key → Int
  | .inl k => hashInt k
  | .inr x => hashStr w x
theorem keyIs_shape : ∀ {k : Key} {v : Value}, keyIs k v = true → (∃ i t, k = Sum.inl i ∧ v = Value.int i t) ∨ (∃ x t, k = Sum.inr x ∧ v = Value.str x t)
  | .inl i, v, h => by
    obtain ⟨t, e⟩ := Value.isInt_shape (k := i) (v := v) h
    exact .inl ⟨i, t, rfl, e⟩
  | .inr x, v, h => by
    obtain ⟨t, e⟩ := Value.isStrOf_shape (x := x) (v := v) h
    exact .inr ⟨x, t, rfl, e⟩
theorem keyIs_int (i : Int) (t : Tok) : keyIs (.inl i) (.int i t) = true := by simp [keyIs, Value.isInt]
theorem keyIs_str (x : Str) (t : Tok) : keyIs (.inr x) (.str x t) = true := by simp [keyIs, Value.isStrOf]
theorem key_ll (a b : Int) : decide ((Sum.inl a : Key) = Sum.inl b) = (a == b) := by
  by_cases e : a = b
  · subst e; simp
  · have h : ¬ (Sum.inl a : Key) = Sum.inl b := fun q => e (Sum.inl.inj q)
    rw [decide_eq_false h]
    exact (beq_eq_false_iff_ne.mpr e).symm
theorem key_rr (a b : Str) : decide ((Sum.inr a : Key) = Sum.inr b) = decide (a = b) := by
  by_cases e : a = b
  · subst e; simp
  · have h : ¬ (Sum.inr a : Key) = Sum.inr b := fun q => e (Sum.inr.inj q)
    rw [decide_eq_false h, decide_eq_false e]
theorem key_lr (a : Int) (b : Str) : decide ((Sum.inl a : Key) = Sum.inr b) = false := decide_eq_false (fun q => nomatch q)
theorem key_rl (a : Str) (b : Int) : decide ((Sum.inr a : Key) = Sum.inl b) = false := decide_eq_false (fun q => nomatch q)

def mixKind (prog : Program) (w : World) : PySem.KeyKind prog w Key where
  is := keyIs
  hash := keyH w
  inj := fun v a b ha hb => by
    rcases keyIs_shape ha with ⟨i, t, rfl, rfl⟩ | ⟨x, t, rfl, rfl⟩
    · rcases keyIs_shape hb with ⟨j, u, rfl, e⟩ | ⟨y, u, rfl, e⟩
      · injection e with e1 _; rw [e1]
      · exact nomatch e
    · rcases keyIs_shape hb with ⟨j, u, rfl, e⟩ | ⟨y, u, rfl, e⟩
      · exact nomatch e
      · injection e with e1 _; rw [e1]
  byValue := fun k v h => by
    rcases keyIs_shape h with ⟨i, t, rfl, rfl⟩ | ⟨x, t, rfl, rfl⟩ <;> rfl
  pyHash := fun hv h => by
    rcases keyIs_shape hv with ⟨i, t, rfl, rfl⟩ | ⟨x, t, rfl, rfl⟩
    · exact wpAny_pyHash_int h
    · exact wpAny_pyHash_str h
  eqBool := fun hu hv h => by
    rcases keyIs_shape hu with ⟨i, t, rfl, rfl⟩ | ⟨x, t, rfl, rfl⟩
    · rcases keyIs_shape hv with ⟨j, u, rfl, rfl⟩ | ⟨y, u, rfl, rfl⟩
      · rw [key_ll] at h; exact wpAny_eqBool_int h
      · rw [key_lr] at h; exact SeqAt.EqAt.int_str i t y u _ _ _ _ h
    · rcases keyIs_shape hv with ⟨j, u, rfl, rfl⟩ | ⟨y, u, rfl, rfl⟩
      · rw [key_rl] at h; exact SeqAt.EqAt.str_int x t j u _ _ _ _ h
      · rw [key_rr] at h; exact wpAny_eqBool_str h
  «strs» := fun k x t v h => by
    rcases keyIs_shape h with ⟨i, u, rfl, e⟩ | ⟨y, u, rfl, e⟩
    · exact nomatch e
    · injection e with e1 _
      subst e1
      cases v <;> rfl

theorem mixKind_is (prog : Program) (w : World) (k : Key) (v : Value) : (mixKind prog w).is k v = keyIs k v := rfl
theorem mixKind_int (prog : Program) (w : World) (i : Int) (t : Tok) : (mixKind prog w).is (.inl i) (.int i t) = true := keyIs_int i t
theorem mixKind_str (prog : Program) (w : World) (x : Str) (t : Tok) : (mixKind prog w).is (.inr x) (.str x t) = true := keyIs_str x t
end L2

namespace L2
open PySem PySem.Spec PyProof.Rows

/-- a value, without the heap -/
inductive V where
  | non | bl (b : Bool) | int (i : Int) | str (x : Str) | byt (b : Array UInt8) | flt (b : UInt64) | ref (a : Addr) | ty (n : String)
  deriving DecidableEq

def RelV : V → Value → Prop
  | .non, u => u = Value.none
  | .bl b, u => u = Value.bool b
  | .int i, u => ∃ t, u = Value.int i t
  | .str x, u => ∃ t, u = Value.str x t
  | .byt b, u => ∃ t, u = Value.bytes b t
  | .flt b, u => ∃ t, u = Value.float b t
  | .ref a, u => u = Value.ref a
  | .ty n, u => u = Value.type n

abbrev Vals : List V → List Value → Prop := Paired RelV
theorem Vals.length {xs : List V} {us : List Value} (r : Vals xs us) : xs.length = us.length := Paired.length r
theorem Vals.get : ∀ {xs : List V} {us : List Value} {i : Nat} {x : V}, Vals xs us → xs[i]? = some x → ∃ u, us[i]? = some u ∧ RelV x u
  | _, _, _, _, .nil, e => by simp at e
  | _, _, 0, _, .cons r _, e => by simp at e; subst e; exact ⟨_, rfl, r⟩
  | _, _, i + 1, x, .cons _ t, e => by
    obtain ⟨u, h1, h2⟩ := Vals.get (i := i) (x := x) t (by simpa using e)
    exact ⟨u, by simpa using h1, h2⟩
theorem Vals.set {x : V} {u : Value} (r : RelV x u) : ∀ {xs : List V} {us : List Value} (i : Nat), Vals xs us → Vals (xs.set i x) (us.set i u)
  | _, _, _, .nil => .nil
  | _, _, 0, .cons _ t => .cons r t
  | _, _, i + 1, .cons q t => .cons q (Vals.set r i t)
theorem Vals.append : ∀ {xs ys : List V} {us ws : List Value}, Vals xs us → Vals ys ws → Vals (xs ++ ys) (us ++ ws)
  | _, _, _, _, .nil, s => s
  | _, _, _, _, .cons r t, s => .cons r (Vals.append t s)
theorem Vals.take : ∀ {xs : List V} {us : List Value} (n : Nat), Vals xs us → Vals (xs.take n) (us.take n)
  | _, _, 0, _ => .nil
  | _, _, _ + 1, .nil => .nil
  | _, _, n + 1, .cons r t => .cons r (Vals.take n t)
theorem Vals.drop : ∀ {xs : List V} {us : List Value} (n : Nat), Vals xs us → Vals (xs.drop n) (us.drop n)
  | _, _, 0, r => r
  | _, _, _ + 1, .nil => .nil
  | _, _, n + 1, .cons _ t => Vals.drop n t
theorem Vals.none_of : ∀ {xs : List V} {us : List Value} {i : Nat}, Vals xs us → xs[i]? = none → us[i]? = none := fun {xs us i} r e => by
  have h1 := r.length
  have h2 : xs.length ≤ i := List.getElem?_eq_none_iff.mp e
  exact List.getElem?_eq_none_iff.mpr (by omega)

def RelO : Option V → Option Value → Prop
  | some v, some u => RelV v u
  | none, none => True
  | _, _ => False
def KV {κ : Type} : List (κ × V) → List (κ × Value) → Prop := Paired fun (p : κ × V) (q : κ × Value) => p.1 = q.1 ∧ RelV p.2 q.2

/-- a key of a dict (00_mix): an int or a text -/
def kV : Key → V
  | .inl i => .int i
  | .inr x => .str x

/-- what stands at a tracked address -/
inductive HO where
  /-- a list -/
  | lst (xs : List V)
  /-- a tuple (never changes) -/
  | tup (xs : List V)
  /-- a dict whose keys are ints and texts; one whose keys are tuples of ints and texts (the empty one is both) -/
  | dK (kvs : List (Key × V))
  /-- a set of ints: its members, its size -/
  | set (S : Int → Bool) (n : Nat)
  /-- an instance of the class at C, its dict at dx, its attributes -/
  | ins (C dx : Addr) (fs : List (Str × V))
  /-- the dict of the instance at x -/
  | own (x : Addr)
  /-- the dict of an exception -/
  | xd (fs : List (Str × V))
  /-- a bound method, f of x -/
  | met (f x : Addr)
  /-- a range object lo, lo + 1, .. below hi -/
  | rng (lo hi : Int)
  /-- a thing that is known to the object (the script; a dict while a loop walks it): read, never written while it is so -/
  | frz (o : Obj) (u : HO)
  /-- a code object's table -/
  | tbl (ps : Array Value)
  /-- any other thing, by what is true of its one object (a def of one's own: SetO a S n := HO.ext fun h => ..) -/
  | ext (φ : Heap → Prop)

abbrev Hp := Addr → Option HO
def upd (H : Hp) (a : Addr) (o : HO) : Hp := fun b => if b = a then some o else H b
theorem upd_same {H : Hp} {a : Addr} {o : HO} : upd H a o a = some o := by unfold upd; rw [if_pos rfl]
theorem upd_ne {H : Hp} {a b : Addr} {o : HO} (h : b ≠ a) : upd H a o b = H b := by unfold upd; rw [if_neg h]
theorem upd_upd {H : Hp} {a : Addr} {o u : HO} : upd (upd H a o) a u = upd H a u := by
  funext b; unfold upd; split <;> rfl
/-- two objects of different content stand apart -/
theorem ne_of {H : Hp} {a b : Addr} {o u : HO} (h : H a = some o) (h' : H b = some u) (d : o ≠ u) : a ≠ b := by
  intro e; subst e; rw [h] at h'; exact d (Option.some.inj h')
theorem ne_of_none {H : Hp} {a b : Addr} {o : HO} (h : H a = some o) (h' : H b = none) : a ≠ b := by
  intro e; subst e; rw [h] at h'; cases h'

section
variable (P : Program) (w : World)
def ObjOk (H : Hp) (h : Heap) (a : Addr) : HO → Prop
  | .lst xs => xs.length ≤ sizeLine ∧ ∃ (its : List Value) (n : Nat), Vals xs its ∧ h.get? a = some { cls := .type "list", data := .seq its.toArray n }
  | .tup xs => xs.length ≤ sizeLine ∧ ∃ its : List Value, Vals xs its ∧ IsTup h a its.toArray
  | .dK kvs => kvs.length ≤ sizeLine ∧ (a == sysModules) = false ∧ ∃ vs, KV kvs vs ∧ h.DictOf (mixKind P w) a vs
  | .set S n => h.SetOf (intKind P w) a S n
  | .ins C dx fs => H dx = some (.own a) ∧ fs.length ≤ 1000 ∧ dx ≠ a ∧ h.get? a = some (PySem.W.instObj C dx) ∧
      ∃ mA, h.Ns1 dx mA ∧ (∀ f, RelO (fs.lookup f) (mA f)) ∧ PySem.Within mA (fs.map (·.1))
  | .own _ => ∃ o, h.get? a = some o
  | .xd fs => ∃ mA, h.Ns1 a mA ∧ ∀ f, RelO (fs.lookup f) (mA f)
  | .rng lo hi => ∃ t u v, h.get? a = some { cls := .type "range", data := .fields #[.int lo t, .int hi u, .int 1 v] }
  | .frz o u => h.get? a = some o ∧ ObjOk H h a u
  | .tbl _ => False
  | .met f x => h.get? a = some (PySem.W.methodObj (.ref f) (.ref x))
  | .ext φ => φ h ∧ (∃ o, h.get? a = some o) ∧ ∀ h1 h2 : Heap, φ h1 → (∀ o, h1.get? a = some o → h2.get? a = some o) → φ h2
/-- the abstract heap is held -/
def HOk (H : Hp) (h : Heap) : Prop := ∀ a o, H a = some o → ObjOk P w H h a o
end

section
variable {P : Program} {w : World} {H H' : Hp} {h h' : Heap} {a : Addr} {o : HO}
theorem ObjOk.lt (x : ObjOk P w H h a o) : a < h.objs.size := by
  cases o with
  | lst xs => obtain ⟨_, _, _, _, e⟩ := x; exact Heap.lt_size e
  | tup xs => obtain ⟨_, _, _, p⟩ := x; exact p.lt
  | dK kvs => obtain ⟨_, _, _, _, o, _, _, e, _⟩ := x; exact Heap.lt_size e
  | set S n => obtain ⟨o, _, _, _, e, _⟩ := x; exact Heap.lt_size e
  | ins C dx fs => obtain ⟨_, _, _, e, _⟩ := x; exact Heap.lt_size e
  | own y => obtain ⟨_, e⟩ := x; exact Heap.lt_size e
  | xd fs => obtain ⟨_, ⟨_, _, _, e, _⟩, _⟩ := x; exact Heap.lt_size e
  | rng lo hi => obtain ⟨_, _, _, e⟩ := x; exact Heap.lt_size e
  | frz ob u => obtain ⟨e, _⟩ := x; exact Heap.lt_size e
  | tbl ps => exact False.elim x
  | met f y => exact Heap.lt_size (show h.get? a = some _ from x)
  | ext φ => obtain ⟨_, ⟨_, e⟩, _⟩ := x; exact Heap.lt_size e
theorem Paired.mapP {α β : Type} {F G : α → β → Prop} : ∀ {l₁ : List α} {l₂ : List β}, Paired F l₁ l₂ → (∀ a b, F a b → G a b) → Paired G l₁ l₂
  | _, _, .nil, _ => .nil
  | _, _, .cons r t, f => .cons (f _ _ r) (Paired.mapP t f)
theorem Paired.imp' {α β : Type} {F G : α → β → Prop} (f : ∀ a b, F a b → G a b) {l₁ : List α} {l₂ : List β} (r : Paired F l₁ l₂) : Paired G l₁ l₂ := Paired.mapP r f
/-- what an object's description leans on: its own object, its own dict, the tuples -/
theorem ObjOk.stay (x : ObjOk P w H h a o) (k : ∀ b u, (b = a ∨ H b = some (.own a)) → h.get? b = some u → h'.get? b = some u)
    (ho : ∀ b, H b = some (.own a) → H' b = some (.own a)) (ht : ∀ b xs, H b = some (.tup xs) → H' b = some (.tup xs)) : ObjOk P w H' h' a o := by
  induction o with
  | lst xs => obtain ⟨z, its, n, r, e⟩ := x; exact ⟨z, its, n, r, k _ _ (.inl rfl) e⟩
  | tup xs => obtain ⟨z, its, r, ob, e, c⟩ := x; exact ⟨z, its, r, ob, k _ _ (.inl rfl) e, c⟩
  | dK kvs => obtain ⟨z, y, vs, r, ob, es, ep, e, c⟩ := x; exact ⟨z, y, vs, r, ob, es, ep, k _ _ (.inl rfl) e, c⟩
  | set S n => obtain ⟨ob, es, ep, t, e, c⟩ := x; exact ⟨ob, es, ep, t, k _ _ (.inl rfl) e, c⟩
  | ins C dx fs =>
    obtain ⟨d, z, ne, e, mA, ⟨od, es, ep, e2, c⟩, r⟩ := x
    exact ⟨ho _ d, z, ne, k _ _ (.inl rfl) e, mA, ⟨od, es, ep, k _ _ (.inr d) e2, c⟩, r⟩
  | own y => obtain ⟨ob, e⟩ := x; exact ⟨ob, k _ _ (.inl rfl) e⟩
  | xd fs => obtain ⟨mA, ⟨od, es, ep, e, c⟩, r⟩ := x; exact ⟨mA, ⟨od, es, ep, k _ _ (.inl rfl) e, c⟩, r⟩
  | rng lo hi => obtain ⟨t, u, v, e⟩ := x; exact ⟨t, u, v, k _ _ (.inl rfl) e⟩
  | frz ob u ih => obtain ⟨e, q⟩ := x; exact ⟨k _ _ (.inl rfl) e, ih q⟩
  | tbl ps => exact False.elim x
  | met f y =>
    have e : h.get? a = some (PySem.W.methodObj (.ref f) (.ref y)) := x
    show h'.get? a = some (PySem.W.methodObj (.ref f) (.ref y))
    exact k a _ (.inl rfl) e
  | ext φ => obtain ⟨p, ⟨o, e⟩, st⟩ := x; exact ⟨st _ _ p fun o q => k _ _ (.inl rfl) q, ⟨o, k _ _ (.inl rfl) e⟩, st⟩
theorem HOk.lt (x : HOk P w H h) (e : H a = some o) : a < h.objs.size := (x a o e).lt
theorem HOk.fresh (x : HOk P w H h) (e : h.objs.size ≤ a) : H a = none := by
  cases q : H a with
  | none => rfl
  | some u => exact absurd (Nat.lt_of_lt_of_le (x.lt q) e) (Nat.lt_irrefl _)
/-- every object of the heap is kept -/
theorem HOk.kept (x : HOk P w H h) (k : ∀ b u, h.get? b = some u → h'.get? b = some u) : HOk P w H h' := fun a o e =>
  (x a o e).stay (fun b u _ q => k b u q) (fun _ q => q) fun _ _ q => q
/-- a new object is laid and tracked -/
theorem HOk.laid (x : HOk P w H h) (k : ∀ b u, h.get? b = some u → h'.get? b = some u) (hp : h.objs.size ≤ a) (new : ObjOk P w (upd H a o) h' a o) : HOk P w (upd H a o) h' := fun b u e => by
  have hn := x.fresh hp
  by_cases hb : b = a
  · subst hb; rw [upd_same] at e; cases e; exact new
  · rw [upd_ne hb] at e
    exact (x b u e).stay (fun c v _ q => k c v q) (fun c q => by rw [upd_ne (ne_of_none q hn)]; exact q) fun c xs q => by rw [upd_ne (ne_of_none q hn)]; exact q
end

/-- what may be read as u: it is u, or a known u -/
def Rd (H : Hp) (a : Addr) (u : HO) : Prop := H a = some u ∨ ∃ o, H a = some (.frz o u)
theorem Rd.of {H : Hp} {a : Addr} {u : HO} (h : H a = some u) : Rd H a u := .inl h
theorem Rd.ok {P : Program} {w : World} {H : Hp} {h : Heap} {a : Addr} {u : HO} (r : Rd H a u) (x : HOk P w H h) : ObjOk P w H h a u := by
  rcases r with r | ⟨o, r⟩
  · exact x a u r
  · obtain ⟨_, q⟩ := x a _ r
    exact q
/-- what may be written -/
def Mut : Option HO → Prop
  | some (.lst _) => True
  | some (.dK _) => True
  | some (.set _ _) => True
  | some (.ins _ _ _) => True
  | some (.ext _) => True
  | _ => False
section
variable {P : Program} {w : World} {H : Hp} {h h' : Heap} {x e : Addr} {o' : HO}
/-- the object at e is changed: x itself, or the dict of the instance x -/
theorem HOk.write (ok : HOk P w H h) (mu : Mut (H x)) (he : e = x ∨ H e = some (.own x)) (k : ∀ b u, b ≠ e → h.get? b = some u → h'.get? b = some u) (heo : ∃ u, h'.get? e = some u)
    (new : ObjOk P w (upd H x o') h' x o') : HOk P w (upd H x o') h' := fun b u q => by
  have nown : ∀ c y, H c = some (.own y) → c ≠ x := fun c y r z => by subst z; rw [r] at mu; exact mu
  have ntup : ∀ c xs, H c = some (.tup xs) → c ≠ x := fun c xs r z => by subst z; rw [r] at mu; exact mu
  by_cases hb : b = x
  · subst hb; rw [upd_same] at q; cases q; exact new
  · rw [upd_ne hb] at q
    by_cases hbe : b = e
    · have q' : H b = some (.own x) := by
        rcases he with z | z
        · exact absurd (hbe.trans z) hb
        · rw [hbe]; exact z
      rw [q] at q'; cases q'
      obtain ⟨v, hv⟩ := heo
      exact ⟨v, by rw [hbe]; exact hv⟩
    · refine (ok b u q).stay (fun c v hc r => k c v ?_ r) (fun c r => by rw [upd_ne (nown c b r)]; exact r) fun c xs r => by rw [upd_ne (ntup c xs r)]; exact r
      rcases hc with rfl | hc
      · exact hbe
      · rintro rfl
        rcases he with z | z
        · exact nown c b hc z
        · rw [hc] at z; cases z; exact hb rfl
end

/-! ### kept unless tracked; of the frames at fs (the callers') the slots may change (an exception that passes writes there); of the records at ex (iterators) nothing is said -/
structure Un (fs ex : List Addr) (H H' : Hp) (h h' : Heap) : Prop where
  keep : ∀ b o, h.get? b = some o → H b = none → b ∉ fs → b ∉ ex → h'.get? b = some o
  slot : ∀ b o, h.get? b = some o → H b = none → b ∈ fs → b ∉ ex → ∃ sl, h'.get? b = some { o with slots := sl }
  free : ∀ b o, h.get? b = some o → H b = none → b ∉ ex → H' b = none
  there : ∀ b o, h.get? b = some o → b ∉ ex → ∃ o', h'.get? b = some o'
  tups : ∀ b xs, H b = some (.tup xs) → H' b = some (.tup xs)
  frzs : ∀ b o u, H b = some (.frz o u) → H' b = some (.frz o u)
  tbls : ∀ b ps, H b = some (.tbl ps) → ∃ more, H' b = some (.tbl (ps ++ more))
section
variable {fs fs' ex ex' : List Addr} {H H1 H2 : Hp} {h h1 h2 h' : Heap} {a x e : Addr} {o : HO}
theorem Un.any (u : Un fs ex H H1 h h1) {b : Addr} {ob : Obj} (q : h.get? b = some ob) (n : H b = none) (hx : b ∉ ex) : ∃ sl, h1.get? b = some { ob with slots := sl } := by
  by_cases hb : b ∈ fs
  · exact u.slot b ob q n hb hx
  · exact ⟨ob.slots, u.keep b ob q n hb hx⟩
theorem Un.trans (a : Un fs ex H H1 h h1) (b : Un fs ex H1 H2 h1 h2) : Un fs ex H H2 h h2 where
  keep := fun c ob q n hc hx => b.keep c ob (a.keep c ob q n hc hx) (a.free c ob q n hx) hc hx
  slot := fun c ob q n hc hx => by
    obtain ⟨sl, e1⟩ := a.slot c ob q n hc hx
    obtain ⟨sl', e2⟩ := b.slot c _ e1 (a.free c ob q n hx) hc hx
    exact ⟨sl', e2⟩
  free := fun c ob q n hx => by
    obtain ⟨o', e1⟩ := a.there c ob q hx
    exact b.free c o' e1 (a.free c ob q n hx) hx
  there := fun c ob q hx => by
    obtain ⟨o', e1⟩ := a.there c ob q hx
    exact b.there c o' e1 hx
  tups := fun c xs q => b.tups c xs (a.tups c xs q)
  frzs := fun c ob xs q => b.frzs c ob xs (a.frzs c ob xs q)
  tbls := fun c ps q => by
    obtain ⟨m1, e1⟩ := a.tbls c ps q
    obtain ⟨m2, e2⟩ := b.tbls c _ e1
    exact ⟨m1 ++ m2, by rw [e2, Array.append_assoc]⟩
theorem Un.kept (k : ∀ b u, h.get? b = some u → h'.get? b = some u) : Un fs ex H H h h' :=
  ⟨fun b ob q _ _ _ => k b ob q, fun b ob q _ _ _ => ⟨ob.slots, k b ob q⟩, fun _ _ _ n _ => n, fun b ob q _ => ⟨ob, k b ob q⟩, fun _ _ q => q, fun _ _ _ q => q, fun _ ps q => ⟨#[], by rw [q]; simp⟩⟩
theorem Un.refl : Un fs ex H H h h := Un.kept fun _ _ q => q
theorem Un.laid (k : ∀ b u, h.get? b = some u → h'.get? b = some u) (hp : h.objs.size ≤ a) (hn : H a = none) : Un fs ex H (upd H a o) h h' where
  keep := fun b u q _ _ _ => k b u q
  slot := fun b u q _ _ _ => ⟨u.slots, k b u q⟩
  free := fun b u q n _ => by rw [upd_ne (Nat.ne_of_lt (Nat.lt_of_lt_of_le (Heap.lt_size q) hp))]; exact n
  there := fun b u q _ => ⟨u, k b u q⟩
  tups := fun b xs q => by rw [upd_ne (ne_of_none q hn)]; exact q
  frzs := fun b u xs q => by rw [upd_ne (ne_of_none q hn)]; exact q
  tbls := fun b ps q => ⟨#[], by rw [upd_ne (ne_of_none q hn), q]; simp⟩
theorem Un.write (mu : Mut (H x)) (he : e = x ∨ H e = some (.own x)) (k : ∀ b u, b ≠ e → h.get? b = some u → h'.get? b = some u) (heo : ∃ u, h'.get? e = some u) : Un fs ex H (upd H x o) h h' := by
  have hx : ∀ b, H b = none → b ≠ x := fun b n z => by subst z; rw [n] at mu; exact mu
  have hb : ∀ b, H b = none → b ≠ e := fun b n z => by
    subst z
    rcases he with r | r
    · exact hx b n r
    · rw [n] at r; cases r
  have hm : ∀ b u, H b = some u → ¬ Mut (some u) → b ≠ x := fun b u q nm z => by subst z; rw [q] at mu; exact nm mu
  refine ⟨fun b u q n _ _ => k b u (hb b n) q, fun b u q n _ _ => ⟨u.slots, k b u (hb b n) q⟩, fun b u q n _ => by rw [upd_ne (hx b n)]; exact n, fun b u q _ => ?_,
    fun b xs q => by rw [upd_ne (hm b _ q fun z => z)]; exact q, fun b u xs q => by rw [upd_ne (hm b _ q fun z => z)]; exact q, fun b ps q => ⟨#[], by rw [upd_ne (hm b _ q fun z => z), q]; simp⟩⟩
  by_cases hbe : b = e
  · subst hbe; exact heo
  · exact ⟨u, k b u hbe q⟩
theorem Un.mono (u : Un fs ex H H1 h h1) (hs : ∀ b ∈ fs, b ∈ fs') (hx : ∀ b ∈ ex, b ∈ ex') : Un fs' ex' H H1 h h1 :=
  ⟨fun b ob q n hb he => u.keep b ob q n (fun z => hb (hs b z)) fun z => he (hx b z), fun _ _ q n _ he => u.any q n fun z => he (hx _ z), fun b ob q n he => u.free b ob q n fun z => he (hx b z), fun b ob q he => u.there b ob q fun z => he (hx b z), u.tups, u.frzs, u.tbls⟩
end

/-! ### the heap without what is tracked -/
def trk (h : Heap) (H : Hp) : List Addr := (List.range h.objs.size).filter fun a => (H a).isSome
def hidT (h : Heap) (H : Hp) : Heap := PySem.W.hideAll h (trk h H)
theorem hidT_size (h : Heap) (H : Hp) : (hidT h H).objs.size = h.objs.size := PySem.W.hideAll_size _ _
theorem hidT_get {h : Heap} {H : Hp} {b : Addr} {o : Obj} (e : h.get? b = some o) (n : H b = none) : (hidT h H).get? b = some o :=
  PySem.W.hideAll_get _ e fun hm => by
    have q : (H b).isSome = true := (List.mem_filter.mp hm).2
    rw [n] at q; simp at q
theorem of_hidT {h : Heap} {H : Hp} {b : Addr} {o : Obj} (e : (hidT h H).get? b = some o) : h.get? b = some o ∧ H b = none := by
  have e' : h.get? b = some o := PySem.W.of_hideAll (trk h H) e
  refine ⟨e', ?_⟩
  cases q : H b with
  | none => rfl
  | some x =>
    have hm : b ∈ trk h H := List.mem_filter.mpr ⟨List.mem_range.mpr (Heap.lt_size e'), by simp [q]⟩
    have z : (hidT h H).get? b = none := PySem.W.hideAll_none (trk h H) hm
    rw [z] at e; cases e

/-! ### OpenK's ledger, filled with every new object but one -/
def allNews (g h : Heap) (L : Addr) : List (Addr × Obj) := (List.range h.objs.size).filterMap fun a => if a = L ∨ (g.get? a).isSome = true then none else (h.get? a).map fun o => (a, o)
theorem mem_allNews {g h : Heap} {L a : Addr} {o : Obj} (h1 : a ≠ L) (h2 : g.get? a = none) (h3 : h.get? a = some o) : (a, o) ∈ allNews g h L :=
  List.mem_filterMap.mpr ⟨a, List.mem_range.mpr (Heap.lt_size h3), by simp [h1, h2, h3]⟩
theorem of_mem_allNews {g h : Heap} {L : Addr} {p : Addr × Obj} (hp : p ∈ allNews g h L) : p.1 ≠ L ∧ g.get? p.1 = none ∧ h.get? p.1 = some p.2 := by
  obtain ⟨b, _, e⟩ := List.mem_filterMap.mp hp
  split at e
  · cases e
  · rename_i hn
    cases q : h.get? b with
    | none => rw [q] at e; simp at e
    | some u =>
      rw [q] at e
      simp only [Option.map_some, Option.some.injEq] at e
      subst e
      refine ⟨fun z => hn (.inl z), ?_, q⟩
      show g.get? b = none
      cases r : g.get? b with
      | none => rfl
      | some v => exact (hn (.inr (by simp [r]))).elim
def rest (g h : Heap) (L d : Addr) : List (Addr × Obj) := (allNews g h L).filter fun p => decide (p.1 ≠ d)
theorem rest_ne {g h : Heap} {L d : Addr} : ∀ p ∈ rest g h L d, p.1 ≠ d := fun p hp => of_decide_eq_true (List.mem_filter.mp hp).2
theorem mem_rest {g h : Heap} {L d a : Addr} {o : Obj} (h1 : a ≠ L) (h2 : g.get? a = none) (h3 : h.get? a = some o) (h4 : a ≠ d) : (a, o) ∈ rest g h L d :=
  List.mem_filter.mpr ⟨mem_allNews h1 h2 h3, decide_eq_true h4⟩
theorem news_all {g h : Heap} {L : Addr} : News g L h (allNews g h L) := fun p hp => let ⟨a, b, c⟩ := of_mem_allNews hp; ⟨c, a, b⟩
theorem news_at {g h : Heap} {L d : Addr} {o : Obj} (h1 : d ≠ L) (h2 : g.get? d = none) (h3 : h.get? d = some o) : News g L h ((d, o) :: rest g h L d) := fun p hp => by
  rcases List.mem_cons.mp hp with rfl | hp
  · exact ⟨h3, h1, h2⟩
  · exact news_all p (List.mem_filter.mp hp).1
/-- behind a rule that changed d alone: all else but the frame is kept -/
theorem kept_of_news {g h h' : Heap} {L d : Addr} {m : Str → Option Value} (k : ∀ b o, g.get? b = some o → h.get? b = some o) (F : Fr g L h' m) (N : News g L h' (rest g h L d)) :
    ∀ b o, b ≠ L → b ≠ d → h.get? b = some o → h'.get? b = some o := fun b o h1 h2 e => by
  cases q : g.get? b with
  | some u =>
    have := k b u q
    rw [e] at this; cases this
    exact F.keep b _ q
  | none => exact (N (b, o) (mem_rest h1 q e h2)).1
end L2

namespace L2
open PySem PySem.Spec PyProof.Rows

/-- the module's facts, over the base: the heap at the law's entry without what is tracked there -/
structure Mod (K : PySem.W.Frag) (mg : Str → Option Value) (base : Heap) : Prop where
  kin : K.In base
  glob : base.Ns mainGlobals mg
  blt : ∃ mb, base.Ns builtinsNs mb ∧ ∀ x : Str, x ≠ "__name__" → mb x = bootBuiltins x
  nolimit : base.NoLimit

/-- the context: a def's body (or a comprehension's block) running. base: fixed through the whole law; s₀, H₀: the entry; outer: the frames whose slots others may change (a def's callers); stack: all frames that run;
   ex: iterators that were made ahead of the entry and are walked here (a comprehension's); fn: the names whose cells were made at the entry (a def: all; a comprehension's block: its own); calm: not within an except suite; pn: pins that every state bears; xe: what is wanted of an exception that leaves the code -/
structure Cx where
  prog : Program
  w : World
  K : PySem.W.Frag
  mg : Str → Option Value
  base : Heap
  A : Around
  N : List Str
  s₀ : Shared
  H₀ : Hp
  env : Env
  outer : List Env
  stack : List Env
  ex : List Addr
  fn : Str → Bool
  calm : Bool
  pn : List (Addr × Obj)
  xe : Value → Shared → Prop
/-- the callers' frames -/
def frs (l : List Env) : List Addr := l.filterMap (·.frame)
abbrev Cx.fs (X : Cx) : List Addr := frs X.outer

def Vis (sc : Scope) (x : Str) : Prop := sc.names.lookup x = some .local ∨ sc.names.lookup x = some .cell ∨ sc.names.lookup x = some .free
def Loc (sc : Scope) (x : Str) : Prop := sc.names.lookup x = some .local ∨ sc.names.lookup x = some .cell
def Look (env : Env) (h : Heap) (m : Str → Option Value) (x : Str) (u : Value) : Prop :=
  (env.kindOf x = some .local ∧ m x = some u) ∨ ((env.kindOf x = some .cell ∨ env.kindOf x = some .free) ∧ ∃ c, env.cells.lookup x = some c ∧ h.IsCell c (some u))

structure Cx.Ok (X : Cx) : Prop where
  mod : Mod X.K X.mg X.base
  kind : X.env.scope.kind = .function
  glob : X.env.globals = mainGlobals
  blt : X.env.builtins = builtinsNs
  above : X.s₀.heap.objs.size ≤ X.env.locals
  inj : ∀ x y c, X.env.cells.lookup x = some c → X.env.cells.lookup y = some c → x = y
  has : ∀ x, (X.env.kindOf x = some .cell ∨ X.env.kindOf x = some .free) → ∃ c, X.env.cells.lookup x = some c
  cab : ∀ x c, X.fn x = true → X.env.cells.lookup x = some c → X.s₀.heap.objs.size ≤ c
  hd : X.calm = true → X.A.handled = none
  frames : X.A.frames = some X.stack
  stk : X.stack = X.outer ∨ (X.stack = X.env :: X.outer ∧ X.env.frame = some X.env.locals)
  exf : ∀ b ∈ X.ex, b ≠ X.env.locals ∧ ∀ x c, X.env.cells.lookup x = some c → c ≠ b
  bs : ∀ b o, X.base.get? b = some o → X.s₀.heap.get? b = some o ∧ X.H₀ b = none
  bsz : X.base.objs.size ≤ X.s₀.heap.objs.size
  noex : ∀ b o, X.base.get? b = some o → b ∉ X.ex
  exfs : ∀ b ∈ X.ex, b ∉ X.fs
  funs : X.s₀.heap.FunFrames X.base X.outer
  frf : ∀ b ∈ X.fs, X.H₀ b = none

structure Inv (X : Cx) (pins : List (Addr × Obj)) (σ : List (Option V)) (H : Hp) (s : Shared) : Prop where
  ok : X.Ok
  os : s.os = X.s₀.os
  bare : AllBare s.gens
  base : Un X.fs X.ex X.H₀ H X.s₀.heap s.heap
  loc : ∃ m, s.heap.Ns X.env.locals m ∧ ∀ (i : Nat) (x : Str) (v : V), X.N[i]? = some x → σ[i]? = some (some v) → Vis X.env.scope x → ∃ u, RelV v u ∧ Look X.env s.heap m x u
  cell : ∀ x c, X.env.cells.lookup x = some c → ∃ v, s.heap.IsCell c v
  free : H X.env.locals = none
  freeC : ∀ x c, X.env.cells.lookup x = some c → H c = none
  pin : ∀ p ∈ X.pn ++ pins, s.heap.get? p.1 = some p.2 ∧ H p.1 = none ∧ p.1 ≠ X.env.locals ∧ p.1 ∉ X.fs ∧ ∀ v, p.2.data ≠ .cell v
  hok : HOk X.prog X.w H s.heap
  len : σ.length = X.N.length

section
variable {X : Cx} {pins : List (Addr × Obj)} {σ : List (Option V)} {H H' : Hp} {s : Shared} {h' : Heap}

theorem Cx.Ok.nofr (ok : X.Ok) {b : Addr} {o : Obj} (e : X.base.get? b = some o) : b ∉ X.fs := fun hb => by
  have := (ok.funs.mem hb).1
  rw [e] at this; cases this
theorem Inv.bs (I : Inv X pins σ H s) : ∀ b o, X.base.get? b = some o → s.heap.get? b = some o ∧ H b = none := fun b o e =>
  ⟨I.base.keep b o (I.ok.bs b o e).1 (I.ok.bs b o e).2 (I.ok.nofr e) (I.ok.noex b o e), I.base.free b o (I.ok.bs b o e).1 (I.ok.bs b o e).2 (I.ok.noex b o e)⟩
theorem Inv.bk (I : Inv X pins σ H s) : ∀ b o, X.base.get? b = some o → s.heap.get? b = some o := fun b o e => (I.bs b o e).1
theorem Inv.mod (I : Inv X pins σ H s) : Mod X.K X.mg X.base := I.ok.mod
theorem Inv.kIn (I : Inv X pins σ H s) : X.K.In s.heap := I.ok.mod.kin.keeps I.bk
theorem Inv.nolimit (I : Inv X pins σ H s) : s.heap.NoLimit := I.ok.mod.nolimit.keeps I.bk
/-- the frame over the base: for OpenK's rules (K.In X.base is I.mod.kin) -/
theorem Inv.fr (I : Inv X pins σ H s) : ∃ m, Fr X.base X.env.locals s.heap m :=
  let ⟨m, hn, _⟩ := I.loc
  ⟨m, hn, I.bk, Nat.le_trans I.ok.bsz I.ok.above⟩
theorem Inv.lt (I : Inv X pins σ H s) : X.env.locals < s.heap.objs.size := let ⟨_, hn, _⟩ := I.loc; hn.lt
theorem Inv.sz (I : Inv X pins σ H s) : X.s₀.heap.objs.size ≤ s.heap.objs.size := Nat.le_trans I.ok.above (Nat.le_of_lt I.lt)
theorem Inv.nofs (I : Inv X pins σ H s) {a : Addr} (h : s.heap.objs.size ≤ a) : a ∉ X.fs := fun hb => by
  obtain ⟨_, o, ho, _⟩ := I.ok.funs.mem hb
  exact absurd (Nat.lt_of_lt_of_le (Heap.lt_size ho) (Nat.le_trans I.sz h)) (Nat.lt_irrefl _)
theorem Inv.cne (I : Inv X pins σ H s) : ∀ x c, X.env.cells.lookup x = some c → c ≠ X.env.locals := fun x c e z => by
  obtain ⟨v, o, ho, hd⟩ := I.cell x c e
  obtain ⟨m, ⟨o', es, ep, ho', hd', _⟩, _⟩ := I.loc
  rw [z, ho'] at ho; cases ho; rw [hd'] at hd; cases hd
theorem Inv.funs (I : Inv X pins σ H s) : s.heap.FunFrames X.base X.outer := by
  have all : ∀ (l : List Env), (∀ b ∈ frs l, b ∈ X.fs) → X.s₀.heap.FunFrames X.base l → s.heap.FunFrames X.base l := by
    intro l
    induction l with
    | nil => intro _ _; trivial
    | cons env r ih =>
      intro hs hl
      obtain ⟨hk, ⟨L, o, hf, hn, ho, hd⟩, hr⟩ := hl
      have hL : L ∈ X.fs := hs L (by unfold frs; rw [List.filterMap_cons, hf]; exact List.mem_cons_self)
      obtain ⟨sl, e⟩ := I.base.slot L o ho (I.ok.frf L hL) hL fun z => I.ok.exfs L z hL
      exact ⟨hk, ⟨L, _, hf, hn, e, hd⟩, ih (fun b hb => hs b (by unfold frs; rw [List.filterMap_cons, hf]; exact List.mem_cons_of_mem _ hb)) hr⟩
  exact all X.outer (fun _ hb => hb) I.ok.funs

/-- the frames that run, for a call -/
theorem Inv.stack (I : Inv X pins σ H s) : s.heap.FunFrames X.base X.stack := by
  rcases I.ok.stk with e | ⟨e, hf⟩
  · rw [e]; exact I.funs
  · rw [e]
    obtain ⟨m, hn, _⟩ := I.loc
    refine .cons (by rw [I.ok.kind]; decide) hf hn ?_ I.funs
    exact Heap.get?_none_of_le (Nat.le_trans I.ok.bsz I.ok.above)
theorem Inv.stkSub (I : Inv X pins σ H s) : ∀ b ∈ frs X.stack, b ∈ X.env.locals :: X.fs := fun b hb => by
  rcases I.ok.stk with e | ⟨e, hf⟩
  · rw [e] at hb; exact List.mem_cons_of_mem _ hb
  · rw [e] at hb
    unfold frs at hb
    rw [List.filterMap_cons, hf] at hb
    exact hb
theorem Inv.stkFree (I : Inv X pins σ H s) : ∀ b ∈ frs X.stack, H b = none := fun b hb => by
  rcases List.mem_cons.mp (I.stkSub b hb) with e | hb
  · rw [e]; exact I.free
  · obtain ⟨_, o, ho, _⟩ := I.ok.funs.mem hb
    exact I.base.free b o ho (I.ok.frf b hb) fun z => I.ok.exfs b z hb

/-- THE STEP: the untracked objects but the frame and the records at ch are kept (the callers' frames up to slots), the frame's map is kept, the new abstract heap is held -/
theorem Inv.step {g' : Array GenState} {t' : Nat} {d' : Drawn} {ch : List Addr} (I : Inv X pins σ H s)
    (hch : ∀ b ∈ ch, (b ∈ X.ex ∨ X.s₀.heap.objs.size ≤ b) ∧ b ≠ X.env.locals ∧ (∀ x c, X.env.cells.lookup x = some c → c ≠ b) ∧ ∀ p ∈ X.pn ++ pins, p.1 ≠ b)
    (keep : ∀ b o, b ≠ X.env.locals → b ∉ X.fs → b ∉ ch → s.heap.get? b = some o → H b = none → h'.get? b = some o)
    (slot : ∀ b o, b ≠ X.env.locals → b ∈ X.fs → b ∉ ch → s.heap.get? b = some o → H b = none → ∃ sl, h'.get? b = some { o with slots := sl }) (free : ∀ b o, b ∉ ch → s.heap.get? b = some o → H b = none → H' b = none)
    (there : ∀ b o, b ∉ ch → s.heap.get? b = some o → ∃ o', h'.get? b = some o')
    (tups : ∀ b xs, H b = some (.tup xs) → H' b = some (.tup xs)) (frzs : ∀ b o u, H b = some (.frz o u) → H' b = some (.frz o u)) (tbls : ∀ b ps, H b = some (.tbl ps) → ∃ more, H' b = some (.tbl (ps ++ more)))
    (ns : ∀ m, s.heap.Ns X.env.locals m → h'.Ns X.env.locals m) (hok : HOk X.prog X.w H' h') (hg : AllBare g') :
    Inv X pins σ H' { s with heap := h', gens := g', drawn := d', toks := t' } := by
  have neL : ∀ b o, X.s₀.heap.get? b = some o → b ≠ X.env.locals := fun b o e => Nat.ne_of_lt (Nat.lt_of_lt_of_le (Heap.lt_size e) I.ok.above)
  have neC : ∀ b o, X.s₀.heap.get? b = some o → b ∉ X.ex → b ∉ ch := fun b o e hx hb => by
    rcases (hch b hb).1 with z | z
    · exact hx z
    · exact absurd (Nat.lt_of_lt_of_le (Heap.lt_size e) z) (Nat.lt_irrefl _)
  have cellK : ∀ x c, X.env.cells.lookup x = some c → ∀ v, s.heap.IsCell c v → h'.IsCell c v := fun x c e v ⟨o, ho, hd⟩ => by
    have nch : c ∉ ch := fun z => (hch c z).2.2.1 x c e rfl
    by_cases hc : c ∈ X.fs
    · obtain ⟨sl, q⟩ := slot c o (I.cne x c e) hc nch ho (I.freeC x c e)
      exact ⟨_, q, hd⟩
    · exact ⟨o, keep c o (I.cne x c e) hc nch ho (I.freeC x c e), hd⟩
  refine ⟨I.ok, I.os, hg, ⟨fun b o e n hb hx => ?_, fun b o e n hb hx => ?_, fun b o e n hx => ?_, fun b o e hx => ?_, fun b xs e => tups b xs (I.base.tups b xs e), fun b o xs e => frzs b o xs (I.base.frzs b o xs e), fun b ps e => ?_⟩, ?_, fun x c e => ?_, ?_, fun x c e => ?_, fun p hp => ?_, hok, I.len⟩
  · exact keep b o (neL b o e) hb (neC b o e hx) (I.base.keep b o e n hb hx) (I.base.free b o e n hx)
  · obtain ⟨sl, e1⟩ := I.base.slot b o e n hb hx
    obtain ⟨sl', e2⟩ := slot b _ (neL b o e) hb (neC b o e hx) e1 (I.base.free b o e n hx)
    exact ⟨sl', e2⟩
  · obtain ⟨o', e1⟩ := I.base.there b o e hx
    exact free b o' (neC b o e hx) e1 (I.base.free b o e n hx)
  · obtain ⟨o', e1⟩ := I.base.there b o e hx
    exact there b o' (neC b o e hx) e1
  · obtain ⟨m1, e1⟩ := I.base.tbls b ps e
    obtain ⟨m2, e2⟩ := tbls b _ e1
    exact ⟨m1 ++ m2, by rw [e2, Array.append_assoc]⟩
  · obtain ⟨m, hn, hl⟩ := I.loc
    refine ⟨m, ns m hn, fun i x v e1 e2 e3 => ?_⟩
    obtain ⟨u, r, l⟩ := hl i x v e1 e2 e3
    refine ⟨u, r, ?_⟩
    rcases l with l | ⟨k, c, e, z⟩
    · exact .inl l
    · exact .inr ⟨k, c, e, cellK x c e _ z⟩
  · obtain ⟨v, z⟩ := I.cell x c e
    exact ⟨v, cellK x c e v z⟩
  · obtain ⟨m, ⟨o, _, _, ho, _⟩, _⟩ := I.loc
    exact free _ o (fun z => (hch _ z).2.1 rfl) ho I.free
  · obtain ⟨v, o, ho, hd⟩ := I.cell x c e
    exact free c o (fun z => (hch c z).2.2.1 x c e rfl) ho (I.freeC x c e)
  · obtain ⟨e, n, ne, nf, d⟩ := I.pin p hp
    have nch : p.1 ∉ ch := fun z => (hch p.1 z).2.2.2 p hp rfl
    exact ⟨keep p.1 p.2 ne nf nch e n, free p.1 p.2 nch e n, ne, nf, d⟩
/-- .. where the frame's own object is kept too -/
theorem Inv.un {t' : Nat} (I : Inv X pins σ H s) (u : Un X.fs [] H H' s.heap h') (hok : HOk X.prog X.w H' h') : Inv X pins σ H' { s with heap := h', toks := t' } := by
  obtain ⟨m, ⟨o, es, ep, ho, r⟩, _⟩ := id I.loc
  obtain ⟨sl, hL⟩ := u.any ho I.free (by simp)
  exact I.step (g' := s.gens) (d' := s.drawn) (ch := []) (fun _ z => nomatch z) (fun b o _ hb _ e n => u.keep b o e n hb (by simp)) (fun b o _ hb _ e n => u.slot b o e n hb (by simp)) (fun b o _ e n => u.free b o e n (by simp)) (fun b o _ e => u.there b o e (by simp)) u.tups u.frzs u.tbls (fun m' hm => by
    obtain ⟨o', es', ep', ho', r'⟩ := hm
    rw [ho] at ho'; cases ho'
    exact ⟨_, es', ep', hL, r'⟩) hok I.bare
/-- behind a call (or a comprehension's block): the slots of this frame may have changed too, the records at ch may have turned -/
theorem Inv.call {g' : Array GenState} {t' : Nat} {d' : Drawn} {ch : List Addr} (I : Inv X pins σ H s) (u : Un (frs X.stack) ch H H' s.heap h') (hok : HOk X.prog X.w H' h') (hg : AllBare g')
    (hch : ∀ b ∈ ch, (b ∈ X.ex ∨ X.s₀.heap.objs.size ≤ b) ∧ b ≠ X.env.locals ∧ (∀ x c, X.env.cells.lookup x = some c → c ≠ b) ∧ ∀ p ∈ X.pn ++ pins, p.1 ≠ b) :
    Inv X pins σ H' { s with heap := h', gens := g', drawn := d', toks := t' } := by
  obtain ⟨m, ⟨o, es, ep, ho, r⟩, _⟩ := id I.loc
  obtain ⟨sl, hL⟩ := u.any ho I.free fun z => (hch _ z).2.1 rfl
  exact I.step (ch := ch) hch (fun b o hL hb hc e n => u.keep b o e n (fun z => (List.mem_cons.mp (I.stkSub b z)).elim hL hb) hc) (fun b o _ _ hc e n => u.any e n hc) (fun b o hc e n => u.free b o e n hc) (fun b o hc e => u.there b o e hc) u.tups u.frzs u.tbls (fun m' hm => by
    obtain ⟨o', es', ep', ho', r'⟩ := hm
    rw [ho] at ho'; cases ho'
    exact ⟨_, es', ep', hL, r'⟩) hok hg
/-- an untracked record of ours (an iterator) has turned -/
theorem Inv.turned {t' : Nat} {it : Addr} (I : Inv X pins σ H s) (k : ∀ b o, b ≠ it → s.heap.get? b = some o → h'.get? b = some o) (hn : H it = none) (hL : it ≠ X.env.locals)
    (h1 : it ∈ X.ex ∨ X.s₀.heap.objs.size ≤ it) (h2 : ∀ x c, X.env.cells.lookup x = some c → c ≠ it) (h3 : ∀ p ∈ X.pn ++ pins, p.1 ≠ it) : Inv X pins σ H { s with heap := h', toks := t' } := by
  have nit : ∀ b u, H b = some u → b ≠ it := fun b u e z => by rw [z, hn] at e; cases e
  refine I.step (g' := s.gens) (d' := s.drawn) (ch := [it]) (fun b hb => ?_) (fun b o _ _ hc e _ => k b o (fun z => hc (by simp [z])) e) (fun b o _ _ hc e _ => ⟨o.slots, k b o (fun z => hc (by simp [z])) e⟩) (fun _ _ _ _ n => n)
    (fun b o hc e => ⟨o, k b o (fun z => hc (by simp [z])) e⟩) (fun _ _ e => e) (fun _ _ _ e => e) (fun b ps e => ⟨#[], by rw [e]; simp⟩) (fun m hm => ?_) (fun b u e => ?_) I.bare
  · have e : b = it := by simpa using hb
    subst e
    exact ⟨h1, hL, h2, h3⟩
  · obtain ⟨o, es, ep, ho, r⟩ := hm
    exact ⟨o, es, ep, k _ o (Ne.symm hL) ho, r⟩
  · refine (I.hok b u e).stay (fun c v hc q => k c v ?_ q) (fun _ q => q) fun _ _ q => q
    rcases hc with z | z
    · rw [z]; exact nit b u e
    · exact nit c _ z
theorem Inv.tok (I : Inv X pins σ H s) (t : Nat) : Inv X pins σ H { s with toks := t } := I.un (h' := s.heap) (t' := t) Un.refl I.hok
/-- all objects kept -/
theorem Inv.kept {t' : Nat} (I : Inv X pins σ H s) (k : ∀ b u, s.heap.get? b = some u → h'.get? b = some u) : Inv X pins σ H { s with heap := h', toks := t' } := I.un (Un.kept k) (I.hok.kept k)
/-- a new object laid and tracked -/
theorem Inv.laid {a : Addr} {o : HO} {t' : Nat} (I : Inv X pins σ H s) (k : ∀ b u, s.heap.get? b = some u → h'.get? b = some u) (hp : s.heap.objs.size ≤ a) (new : ObjOk X.prog X.w (upd H a o) h' a o) :
    Inv X pins σ (upd H a o) { s with heap := h', toks := t' } := I.un (Un.laid k hp (I.hok.fresh hp)) (I.hok.laid k hp new)
/-- an object written -/
theorem Inv.write {x e : Addr} {o : HO} {t' : Nat} (I : Inv X pins σ H s) (mu : Mut (H x)) (he : e = x ∨ H e = some (.own x)) (k : ∀ b u, b ≠ e → s.heap.get? b = some u → h'.get? b = some u) (heo : ∃ u, h'.get? e = some u)
    (new : ObjOk X.prog X.w (upd H x o) h' x o) : Inv X pins σ (upd H x o) { s with heap := h', toks := t' } := I.un (Un.write mu he k heo) (I.hok.write mu he k heo new)
/-- forgetting slots, pins -/
theorem Inv.weak {σ' : List (Option V)} (I : Inv X pins σ H s) (hl : σ'.length = σ.length) (w : ∀ (i : Nat) v, σ'[i]? = some (some v) → σ[i]? = some (some v)) : Inv X pins σ' H s :=
  ⟨I.ok, I.os, I.bare, I.base, let ⟨m, hn, hl'⟩ := I.loc; ⟨m, hn, fun i x v e1 e2 e3 => hl' i x v e1 (w i v e2) e3⟩, I.cell, I.free, I.freeC, I.pin, I.hok, hl.trans I.len⟩
theorem Inv.pins_of {pins' : List (Addr × Obj)} (I : Inv X pins σ H s) (h : ∀ p ∈ pins', s.heap.get? p.1 = some p.2 ∧ H p.1 = none ∧ p.1 ≠ X.env.locals ∧ p.1 ∉ X.fs ∧ ∀ v, p.2.data ≠ .cell v) : Inv X pins' σ H s :=
  ⟨I.ok, I.os, I.bare, I.base, I.loc, I.cell, I.free, I.freeC, fun p hp => (List.mem_append.mp hp).elim (fun z => I.pin p (List.mem_append_left _ z)) (h p), I.hok, I.len⟩

theorem nodup_ix {N : List Str} (hN : N.Nodup) {i j : Nat} {x : Str} (a : N[i]? = some x) (b : N[j]? = some x) : i = j := by
  obtain ⟨h1, e1⟩ := List.getElem?_eq_some_iff.mp a
  obtain ⟨h2, e2⟩ := List.getElem?_eq_some_iff.mp b
  exact (List.getElem_inj hN).mp (e1.trans e2.symm)

/-- a name is stored; what changed -/
theorem store_ok2 {M : Model} {A : Around} {E : Value → Shared → Prop} {i : Nat} {x : Str} {v : V} {u : Value} {Q : Unit → Shared → Prop} (I : Inv X pins σ H s) (hN : X.N.Nodup) (hi : X.N[i]? = some x) (hx : Loc X.env.scope x) (r : RelV v u)
    (h : ∀ s', Inv X pins (σ.set i (some v)) H s' → (∃ a, Heap.SameBut a s.heap s'.heap ∧ (a = X.env.locals ∨ X.env.cells.lookup x = some a)) → Q () s') (hf : X.fn x = true ∨ X.env.scope.names.lookup x = some .local := by first | exact .inl rfl | exact .inr rfl | assumption) : wpAny M A (storeName X.env x u) Q E s := by
  obtain ⟨m, hn, hl⟩ := id I.loc
  have hcls : (X.env.scope.kind == .class || (X.env.scope.kind == .module && X.env.locals != X.env.globals)) = false := by rw [I.ok.kind]; rfl
  have hiσ : i < σ.length := by rw [I.len]; exact (List.getElem?_eq_some_iff.mp hi).1
  have cne := I.cne
  have tracked : ∀ {a : Addr} {h' : Heap}, (∃ o, s.heap.get? a = some o ∧ H a = none) → Heap.SameBut a s.heap h' → HOk X.prog X.w H h' := fun {a h'} ha hs b ob e => by
    obtain ⟨_, _, hfree⟩ := ha
    refine (I.hok b ob e).stay (fun c w' hc q => (hs.2 c ?_).trans q) (fun _ q => q) fun _ _ q => q
    rintro rfl
    rcases hc with rfl | hc
    · rw [hfree] at e; cases e
    · rw [hfree] at hc; cases hc
  rcases hx with hk | hk
  · refine wpAny_storeName_local hk hn (fun h' hn' hs => ?_) hcls
    obtain ⟨oL, _, _, hoL, _⟩ := id hn
    refine h _ ⟨I.ok, I.os, I.bare, ⟨fun b o e n hb hx => ?_, fun b o e n hb hx => ?_, I.base.free, fun b o e hx => ?_, I.base.tups, I.base.frzs, I.base.tbls⟩, ⟨_, hn', fun j y v' e1 e2 e3 => ?_⟩, fun y c e => ?_, I.free, I.freeC, fun p hp => ?_, tracked ⟨oL, hoL, I.free⟩ hs, by simpa using I.len⟩ ⟨_, hs, .inl rfl⟩
    · exact (hs.2 b (Nat.ne_of_lt (Nat.lt_of_lt_of_le (Heap.lt_size e) I.ok.above))).trans (I.base.keep b o e n hb hx)
    · obtain ⟨sl, e1⟩ := I.base.slot b o e n hb hx
      exact ⟨sl, (hs.2 b (Nat.ne_of_lt (Nat.lt_of_lt_of_le (Heap.lt_size e) I.ok.above))).trans e1⟩
    · obtain ⟨o', e1⟩ := I.base.there b o e hx
      exact ⟨o', (hs.2 b (Nat.ne_of_lt (Nat.lt_of_lt_of_le (Heap.lt_size e) I.ok.above))).trans e1⟩
    · by_cases hj : j = i
      · subst hj
        rw [hi] at e1; cases e1
        rw [List.getElem?_set_self hiσ] at e2
        cases e2
        exact ⟨u, r, .inl ⟨hk, by simp⟩⟩
      · rw [List.getElem?_set_ne (Ne.symm hj)] at e2
        obtain ⟨u', r', q⟩ := hl j y v' e1 e2 e3
        refine ⟨u', r', ?_⟩
        rcases q with ⟨k, e⟩ | ⟨k, c, e, z⟩
        · refine .inl ⟨k, ?_⟩
          have : y ≠ x := fun e => hj (nodup_ix hN e1 (e ▸ hi))
          simp [this, e]
        · exact .inr ⟨k, c, e, z.sameBut hs (cne y c e)⟩
    · obtain ⟨w', z⟩ := I.cell y c e
      exact ⟨w', z.sameBut hs (cne y c e)⟩
    · obtain ⟨e, n, ne, nf, d⟩ := I.pin p hp
      exact ⟨(hs.2 p.1 ne).trans e, n, ne, nf, d⟩
  · have hfn : X.fn x = true := by
      rcases hf with z | z
      · exact z
      · rw [z] at hk; cases hk
    obtain ⟨c, hc⟩ := I.ok.has x (.inl hk)
    obtain ⟨w', z⟩ := I.cell x c hc
    refine wpAny_storeName_cell I.ok.kind hk hc z (fun h' hc' hs => ?_)
    obtain ⟨oc, hoc, hocd⟩ := id z
    refine h { s with heap := h' } ⟨I.ok, I.os, I.bare, ⟨fun b o e n hb hx => ?_, fun b o e n hb hx => ?_, I.base.free, fun b o e hx => ?_, I.base.tups, I.base.frzs, I.base.tbls⟩, ⟨m, hn.sameBut hs (Ne.symm (cne x c hc)), fun j y v' e1 e2 e3 => ?_⟩, fun y c' e => ?_, I.free, I.freeC, fun p hp => ?_, tracked ⟨oc, hoc, I.freeC x c hc⟩ hs, by simpa using I.len⟩ ⟨c, hs, .inr hc⟩
    · exact (hs.2 b (Nat.ne_of_lt (Nat.lt_of_lt_of_le (Heap.lt_size e) (I.ok.cab x c hfn hc)))).trans (I.base.keep b o e n hb hx)
    · obtain ⟨sl, e1⟩ := I.base.slot b o e n hb hx
      exact ⟨sl, (hs.2 b (Nat.ne_of_lt (Nat.lt_of_lt_of_le (Heap.lt_size e) (I.ok.cab x c hfn hc)))).trans e1⟩
    · obtain ⟨o', e1⟩ := I.base.there b o e hx
      exact ⟨o', (hs.2 b (Nat.ne_of_lt (Nat.lt_of_lt_of_le (Heap.lt_size e) (I.ok.cab x c hfn hc)))).trans e1⟩
    · by_cases hj : j = i
      · subst hj
        rw [hi] at e1; cases e1
        rw [List.getElem?_set_self hiσ] at e2
        cases e2
        exact ⟨u, r, .inr ⟨.inl hk, c, hc, hc'⟩⟩
      · rw [List.getElem?_set_ne (Ne.symm hj)] at e2
        obtain ⟨u', r', q⟩ := hl j y v' e1 e2 e3
        refine ⟨u', r', ?_⟩
        rcases q with q | ⟨k, c', e, z'⟩
        · exact .inl q
        · refine .inr ⟨k, c', e, z'.sameBut hs ?_⟩
          rintro rfl
          exact hj (nodup_ix hN e1 (I.ok.inj _ _ _ e hc ▸ hi))
    · by_cases hcc : c' = c
      · subst hcc; exact ⟨_, hc'⟩
      · obtain ⟨w2, z2⟩ := I.cell y c' e
        exact ⟨w2, z2.sameBut hs hcc⟩
    · obtain ⟨e, n, ne, nf, d⟩ := I.pin p hp
      refine ⟨(hs.2 p.1 ?_).trans e, n, ne, nf, d⟩
      intro q
      rw [q, hoc] at e
      have q' : oc = p.2 := Option.some.inj e
      exact d w' (by rw [← q']; exact hocd)
theorem store_ok {M : Model} {A : Around} {E : Value → Shared → Prop} {i : Nat} {x : Str} {v : V} {u : Value} {Q : Unit → Shared → Prop} (I : Inv X pins σ H s) (hN : X.N.Nodup) (hi : X.N[i]? = some x) (hx : Loc X.env.scope x) (r : RelV v u)
    (h : ∀ s', Inv X pins (σ.set i (some v)) H s' → Q () s') (hf : X.fn x = true ∨ X.env.scope.names.lookup x = some .local := by first | exact .inl rfl | exact .inr rfl | assumption) : wpAny M A (storeName X.env x u) Q E s :=
  store_ok2 I hN hi hx r (fun s' I' _ => h s' I') hf
/-- behind a call or a block, the state as it is -/
theorem Inv.call' {s' : Shared} {ch : List Addr} (I : Inv X pins σ H s) (ho : s'.os = s.os) (u : Un (frs X.stack) ch H H' s.heap s'.heap) (hok : HOk X.prog X.w H' s'.heap) (hg : AllBare s'.gens)
    (hch : ∀ b ∈ ch, (b ∈ X.ex ∨ X.s₀.heap.objs.size ≤ b) ∧ b ≠ X.env.locals ∧ (∀ x c, X.env.cells.lookup x = some c → c ≠ b) ∧ ∀ p ∈ X.pn ++ pins, p.1 ≠ b) : Inv X pins σ H' s' := by
  obtain ⟨h', g', d', t', o'⟩ := s'
  have e : o' = s.os := ho
  subst e
  exact I.call (g' := g') (t' := t') (d' := d') u hok hg hch
end

/-! ### the judgements -/
/-- an exception: its class, its own dict's address (where it has one), the abstract heap behind it -/
abbrev XK := Value → Option Addr → Hp → Prop
abbrev St := List (Option V)
abbrev VK := V → Hp → Prop
/-- an expression's reading; a test's; an argument list's -/
abbrev TE := St → Hp → VK → Prop
abbrev TT := St → Hp → (Bool → Hp → Prop) → Prop
abbrev TA := St → Hp → (List V → Hp → Prop) → Prop
/-- what is wanted behind a statement -/
structure Ends where
  nx : St → Hp → Prop
  rt : VK
  bk : St → Hp → Prop := fun _ _ => False
  ct : St → Hp → Prop := fun _ _ => False
abbrev TS := Ends → St → Hp → Prop

def EP (X : Cx) (pins : List (Addr × Obj)) (σ : St) (Q : VK) (u : Value) (s' : Shared) : Prop := ∃ v H', Inv X pins σ H' s' ∧ RelV v u ∧ Q v H'
def TP (X : Cx) (pins : List (Addr × Obj)) (σ : St) (Q : Bool → Hp → Prop) (b : Bool) (s' : Shared) : Prop := ∃ H', Inv X pins σ H' s' ∧ Q b H'
def AP (X : Cx) (pins : List (Addr × Obj)) (σ : St) (Q : List V → Hp → Prop) (us : List Value) (s' : Shared) : Prop := ∃ vs H', Inv X pins σ H' s' ∧ Vals vs us ∧ Q vs H'
def SP (X : Cx) (pins : List (Addr × Obj)) (D : Ends) (f : Flow) (s' : Shared) : Prop :=
  match f with
  | .next => ∃ σ' H', Inv X pins σ' H' s' ∧ D.nx σ' H'
  | .brk => ∃ σ' H', Inv X pins σ' H' s' ∧ D.bk σ' H'
  | .cont => ∃ σ' H', Inv X pins σ' H' s' ∧ D.ct σ' H'
  | .ret u => ∃ v σ' H', Inv X pins σ' H' s' ∧ RelV v u ∧ D.rt v H'

def PE (X : Cx) (e : Expr) (t : TE) : Prop :=
  ∀ (pins : List (Addr × Obj)) (s : Shared) (σ : St) (H : Hp) (Q : VK), Inv X pins σ H s → t σ H Q → wpAny (model X.prog X.w) X.A (eval e X.env) (EP X pins σ Q) X.xe s
def PT (X : Cx) (e : Expr) (t : TT) : Prop :=
  ∀ (pins : List (Addr × Obj)) (s : Shared) (σ : St) (H : Hp) (Q : Bool → Hp → Prop), Inv X pins σ H s → t σ H Q → wpAny (model X.prog X.w) X.A (isTrue e X.env (eval e X.env)) (TP X pins σ Q) X.xe s
/-- a test whatever its 'whole' is (and, or) -/
def PW (X : Cx) (e : Expr) (t : TT) : Prop :=
  ∀ (whole : Sem Value) (pins : List (Addr × Obj)) (s : Shared) (σ : St) (H : Hp) (Q : Bool → Hp → Prop), Inv X pins σ H s → t σ H Q → wpAny (model X.prog X.w) X.A (isTrue e X.env whole) (TP X pins σ Q) X.xe s
theorem PW.pt {X : Cx} {e : Expr} {t : TT} (h : PW X e t) : PT X e t := h _
/-- an argument list (no star), from the left -/
def PA (X : Cx) (es : List Expr) (t : TA) : Prop :=
  ∀ (pos : Pos) (pins : List (Addr × Obj)) (s : Shared) (σ : St) (H : Hp) (Q : List V → Hp → Prop), Inv X pins σ H s → t σ H Q → wpAny (model X.prog X.w) X.A (spliced (backTo pos (starEach es X.env))) (AP X pins σ Q) X.xe s
def PS (X : Cx) (st : Stmt) (t : TS) : Prop :=
  ∀ (pins : List (Addr × Obj)) (s : Shared) (σ : St) (H : Hp) (D : Ends), Inv X pins σ H s → t D σ H → wpAny (model X.prog X.w) X.A (exec st X.env) (SP X pins D) X.xe s
def PSs (X : Cx) (st : List Stmt) (t : TS) : Prop :=
  ∀ (pins : List (Addr × Obj)) (s : Shared) (σ : St) (H : Hp) (D : Ends), Inv X pins σ H s → t D σ H → wpAny (model X.prog X.w) X.A (execs st X.env) (SP X pins D) X.xe s
/-- weaken the end -/
theorem thn {α : Type} {t : Sem α} {Q Q' : α → Shared → Prop} {M : Model} {A : Around} {E : Value → Shared → Prop} {s : Shared} (h : wpAny M A t Q E s) (hQ : ∀ a s, Q a s → Q' a s) : wpAny M A t Q' E s := wpAny_mono h hQ fun _ _ x => x
end L2

namespace L2
open PySem PySem.Spec PyProof.Rows
section
variable {X : Cx}

/-- two expressions in a row -/
theorem bin {a b : Expr} {ta tb : TE} (ha : PE X a ta) (hb : PE X b tb) {pins : List (Addr × Obj)} {s : Shared} {σ : St} {H : Hp} {R : V → V → Hp → Prop} (I : Inv X pins σ H s) (h : ta σ H fun x H1 => tb σ H1 fun y H2 => R x y H2)
    {α : Type} {Q : α → Shared → Prop} {f : Value → Value → Sem α}
    (hf : ∀ v u s2 x y H2, Inv X pins σ H2 s2 → RelV x v → RelV y u → R x y H2 → wpAny (model X.prog X.w) X.A (f v u) Q X.xe s2) :
    wpAny (model X.prog X.w) X.A (eval a X.env) (fun v s₁ => wpAny (model X.prog X.w) X.A (eval b X.env) (fun u s₂ => wpAny (model X.prog X.w) X.A (f v u) Q X.xe s₂) X.xe s₁) X.xe s := by
  refine thn (ha pins s σ H _ I h) fun v s1 ⟨x, H1, I1, r1, q1⟩ => ?_
  refine thn (hb pins s1 σ H1 _ I1 q1) fun u s2 ⟨y, H2, I2, r2, q2⟩ => ?_
  exact hf v u s2 x y H2 I2 r1 r2 q2

/-! ### names and constants -/
def tVar (i : Nat) : TE := fun σ H Q => ∃ v, σ[i]? = some (some v) ∧ Q v H
def tC (v : V) : TE := fun _ H Q => Q v H
theorem pe_var {i : Nat} {x : Str} {pos : Pos} (hN : X.N[i]? = some x) (hv : Vis X.env.scope x) (hd : (x == ("__debug__" : Str)) = false := by decide) (hcd : (x == ("__classdict__" : Str)) = false := by decide) : PE X (.Name x pos) (tVar i) := by
  intro pins s σ H Q I h
  obtain ⟨v, e, h⟩ := h
  obtain ⟨m, hn, hl⟩ := I.loc
  obtain ⟨u, r, l⟩ := hl i x v hN e hv
  have fin : EP X pins σ Q u s := ⟨v, H, I, r, h⟩
  rcases l with ⟨hk, hm⟩ | ⟨hk, c, hc, hcell⟩
  · exact wpAny_Name (wpAny_loadName_local I.ok.kind hk hn hm fin) hd
  · rcases hk with hk | hk
    · exact wpAny_Name (wpAny_loadName_cell I.ok.kind hk hc hcell fin) hd
    · exact wpAny_Name (wpAny_loadName_free I.ok.kind hk hc hcell fin hcd) hd
theorem pe_int {i j pos} : PE X (.Constant (.int i) j pos) (tC (.int i)) := fun _ _ _ H _ I h => wpAny_Constant_int ⟨.int i, H, I.tok _, ⟨_, rfl⟩, h⟩
theorem pe_bl {b j pos} : PE X (.Constant (.bool b) j pos) (tC (.bl b)) := fun _ _ _ H _ I h => Constant_bool ⟨.bl b, H, I, rfl, h⟩
theorem pe_non {j pos} : PE X (.Constant .none j pos) (tC .non) := fun _ _ _ H _ I h => Constant_none ⟨.non, H, I, rfl, h⟩
theorem pe_str {x j pos} : PE X (.Constant (.str x) j pos) (tC (.str x)) := fun _ _ _ H _ I h => Calls.Constant_str ⟨.str x, H, I.tok _, ⟨_, rfl⟩, h⟩

/-- a global name of the def -/
def Gl (X : Cx) (x : Str) : Prop := X.env.kindOf x = some .globalImplicit
theorem ld_glob {E : Value → Shared → Prop} {pins : List (Addr × Obj)} {s : Shared} {σ : St} {H : Hp} {x : Str} {u : Value} {pos : Pos} {Q : Value → Shared → Prop} (I : Inv X pins σ H s) (hg : Gl X x) (hm : X.mg x = some u) (h : Q u s)
    (hd : (x == ("__debug__" : Str)) = false := by decide) : wpAny (model X.prog X.w) X.A (eval (.Name x pos) X.env) Q E s :=
  Calls.Name_function_global I.ok.kind hg (Calls.loadGlobal_global (by rw [I.ok.glob]; exact I.mod.glob.keeps I.bk) hm h) hd
theorem ld_blt {E : Value → Shared → Prop} {pins : List (Addr × Obj)} {s : Shared} {σ : St} {H : Hp} {x : Str} {u : Value} {pos : Pos} {Q : Value → Shared → Prop} (I : Inv X pins σ H s) (hg : Gl X x) (hm : X.mg x = none) (hv : bootBuiltins x = some u) (h : Q u s)
    (hn : x ≠ "__name__" := by decide) (hd : (x == ("__debug__" : Str)) = false := by decide) : wpAny (model X.prog X.w) X.A (eval (.Name x pos) X.env) Q E s := by
  obtain ⟨mb, h1, h2⟩ := I.mod.blt
  exact Calls.Name_function_global I.ok.kind hg (Calls.loadGlobal_builtin (by rw [I.ok.glob]; exact I.mod.glob.keeps I.bk) hm (by rw [I.ok.blt]; exact h1.keeps I.bk) ((h2 x hn).trans hv) h) hd
/-- a module's constant, a class, a function, as a value -/
theorem pe_glob {x : Str} {v : V} {u : Value} {pos : Pos} (hg : Gl X x) (hm : X.mg x = some u) (r : RelV v u) (hd : (x == ("__debug__" : Str)) = false := by decide) : PE X (.Name x pos) (tC v) :=
  fun _ _ _ H _ I h => ld_glob I hg hm ⟨v, H, I, r, h⟩ hd
theorem pe_bltn {x : Str} {v : V} {u : Value} {pos : Pos} (hg : Gl X x) (hm : X.mg x = none) (hv : bootBuiltins x = some u) (r : RelV v u) (hn : x ≠ "__name__" := by decide) (hd : (x == ("__debug__" : Str)) = false := by decide) : PE X (.Name x pos) (tC v) :=
  fun _ _ _ H _ I h => ld_blt I hg hm hv ⟨v, H, I, r, h⟩ hn hd

/-! ### arithmetic -/
/-- two ints -/
def t2I (ta tb : TE) (k : Int → Int → Hp → Prop) : St → Hp → Prop := fun σ H => ta σ H fun x H1 => tb σ H1 fun y H2 => ∃ i j, x = .int i ∧ y = .int j ∧ k i j H2
def tAdd (ta tb : TE) : TE := fun σ H Q => t2I ta tb (fun i j H2 => Q (.int (i + j)) H2) σ H
def tSub (ta tb : TE) : TE := fun σ H Q => t2I ta tb (fun i j H2 => Q (.int (i - j)) H2) σ H
/-- the left factor below 2^64 -/
def tMul (ta tb : TE) : TE := fun σ H Q => t2I ta tb (fun i j H2 => (-(2 ^ 64) < i ∧ i < 2 ^ 64) ∧ Q (.int (i * j)) H2) σ H
variable {a b : Expr} {ta tb : TE} {pos : Pos}
theorem pe_add (ha : PE X a ta) (hb : PE X b tb) : PE X (.BinOp a .Add b pos) (tAdd ta tb) := by
  intro pins s σ H Q I h
  refine wpAny_BinOp (bin ha hb I h fun v u s2 x y H2 I2 rx ry q => ?_)
  obtain ⟨i, j, rfl, rfl, q⟩ := q
  obtain ⟨t, rfl⟩ := rx
  obtain ⟨t', rfl⟩ := ry
  exact add_int ⟨.int _, H2, I2.tok _, ⟨_, rfl⟩, q⟩
theorem pe_sub (ha : PE X a ta) (hb : PE X b tb) : PE X (.BinOp a .Sub b pos) (tSub ta tb) := by
  intro pins s σ H Q I h
  refine wpAny_BinOp (bin ha hb I h fun v u s2 x y H2 I2 rx ry q => ?_)
  obtain ⟨i, j, rfl, rfl, q⟩ := q
  obtain ⟨t, rfl⟩ := rx
  obtain ⟨t', rfl⟩ := ry
  exact sub_int ⟨.int _, H2, I2.tok _, ⟨_, rfl⟩, q⟩
theorem pe_mul (ha : PE X a ta) (hb : PE X b tb) : PE X (.BinOp a .Mult b pos) (tMul ta tb) := by
  intro pins s σ H Q I h
  refine wpAny_BinOp (bin ha hb I h fun v u s2 x y H2 I2 rx ry q => ?_)
  obtain ⟨i, j, rfl, rfl, ⟨q1, q2⟩, q⟩ := q
  obtain ⟨t, rfl⟩ := rx
  obtain ⟨t', rfl⟩ := ry
  exact mul_int ⟨.int _, H2, I2.tok _, ⟨_, rfl⟩, q⟩ (.of_left (intBits_le_64 q1 q2))

/-! ### comparisons -/
def PC (X : Cx) (op : CmpOp) (a b : Expr) (t : TE) : Prop :=
  ∀ (pins : List (Addr × Obj)) (s : Shared) (σ : St) (H : Hp) (Q : VK), Inv X pins σ H s → t σ H Q →
    wpAny (model X.prog X.w) X.A (eval a X.env) (fun v s₁ => wpAny (model X.prog X.w) X.A (eval b X.env) (fun u s₂ => wpAny (model X.prog X.w) X.A (compareOp op v u) (EP X pins σ Q) X.xe s₂) X.xe s₁) X.xe s
theorem nobehind (b : Expr) {op : CmpOp} (h : op ≠ .In) (h2 : op ≠ .NotIn) : behindInMarks op b = false := by
  have e1 : (op == CmpOp.In) = false := by cases op <;> first | rfl | exact absurd rfl h
  have e2 : (op == CmpOp.NotIn) = false := by cases op <;> first | rfl | exact absurd rfl h2
  cases b <;> simp [behindInMarks, e1, e2]
def tCmp (p : Int → Int → Bool) (ta tb : TE) : TE := fun σ H Q => t2I ta tb (fun i j H2 => Q (.bl (p i j)) H2) σ H
abbrev tLt : TE → TE → TE := tCmp fun i j => decide (i < j)
abbrev tLe : TE → TE → TE := tCmp fun i j => decide (i ≤ j)
abbrev tGt : TE → TE → TE := tCmp fun i j => decide (j < i)
abbrev tGe : TE → TE → TE := tCmp fun i j => decide (j ≤ i)
abbrev tEqI : TE → TE → TE := tCmp fun i j => decide (i = j)
abbrev tNeI : TE → TE → TE := tCmp fun i j => !decide (i = j)
/-- a comparison of two ints, by its rule -/
theorem pc_int {op : CmpOp} {p : Int → Int → Bool} (ha : PE X a ta) (hb : PE X b tb)
    (rule : ∀ (i j : Int) (t u : Tok) (Q : Value → Shared → Prop) (s : Shared), Q (.bool (p i j)) s → wpAny (model X.prog X.w) X.A (compareOp op (.int i t) (.int j u)) Q X.xe s) : PC X op a b (tCmp p ta tb) := by
  intro pins s σ H Q I h
  refine bin ha hb I h fun v u s2 x y H2 I2 rx ry q => ?_
  obtain ⟨i, j, rfl, rfl, q⟩ := q
  obtain ⟨t, rfl⟩ := rx
  obtain ⟨t', rfl⟩ := ry
  exact rule i j t t' _ s2 ⟨.bl _, H2, I2, rfl, q⟩
theorem pc_lt (ha : PE X a ta) (hb : PE X b tb) : PC X .Lt a b (tLt ta tb) := pc_int ha hb fun _ _ _ _ _ _ h => lt_int h
theorem pc_le (ha : PE X a ta) (hb : PE X b tb) : PC X .LtE a b (tLe ta tb) := pc_int ha hb fun _ _ _ _ _ _ h => le_int h
theorem pc_gt (ha : PE X a ta) (hb : PE X b tb) : PC X .Gt a b (tGt ta tb) := pc_int ha hb fun _ _ _ _ _ _ h => gt_int h
theorem pc_ge (ha : PE X a ta) (hb : PE X b tb) : PC X .GtE a b (tGe ta tb) := pc_int ha hb fun _ _ _ _ _ _ h => ge_int h
theorem pc_eqI (ha : PE X a ta) (hb : PE X b tb) : PC X .Eq a b (tEqI ta tb) := pc_int ha hb fun _ _ _ _ _ _ h => eq_int (by rw [Bool.beq_eq_decide_eq]; exact h)
theorem pc_neI (ha : PE X a ta) (hb : PE X b tb) : PC X .NotEq a b (tNeI ta tb) := pc_int ha hb fun _ _ _ _ _ _ h => ne_int (by rw [bne, Bool.beq_eq_decide_eq]; exact h)
/-- is None -/
def tIsN (ta : TE) : TE := fun σ H Q => ta σ H fun x H1 => Q (.bl (decide (x = .non))) H1
def tNotN (ta : TE) : TE := fun σ H Q => ta σ H fun x H1 => Q (.bl (!decide (x = .non))) H1
theorem RelV.none_iff {x : V} {v : Value} (r : RelV x v) : (v == Value.none) = decide (x = .non) := by
  cases x with
  | non => cases r; rfl
  | bl _ => cases r; rfl
  | int _ => obtain ⟨t, rfl⟩ := r; rfl
  | str _ => obtain ⟨t, rfl⟩ := r; rfl
  | byt _ => obtain ⟨t, rfl⟩ := r; rfl
  | flt _ => obtain ⟨t, rfl⟩ := r; rfl
  | ref _ => cases r; rfl
  | ty _ => cases r; rfl
theorem pc_isN {j pos'} (ha : PE X a ta) : PC X .Is a (.Constant .none j pos') (tIsN ta) := by
  intro pins s σ H Q I h
  refine thn (ha pins s σ H _ I h) fun v s1 ⟨x, H1, I1, r1, q1⟩ => ?_
  exact Constant_none (is_none_gen ⟨.bl _, H1, I1, by rw [r1.none_iff]; rfl, q1⟩)
theorem pc_notN {j pos'} (ha : PE X a ta) : PC X .IsNot a (.Constant .none j pos') (tNotN ta) := by
  intro pins s σ H Q I h
  refine thn (ha pins s σ H _ I h) fun v s1 ⟨x, H1, I1, r1, q1⟩ => ?_
  exact Constant_none (isnot_none_gen ⟨.bl _, H1, I1, by rw [r1.none_iff]; rfl, q1⟩)
/-- a comparison as a value, as a test -/
def tB (t : TE) : TT := fun σ H Q => t σ H fun x H1 => ∃ c, x = .bl c ∧ Q c H1
theorem pe_cmp {op : CmpOp} {t : TE} (h : PC X op a b t) (h1 : behindInMarks op b = false := by first | exact nobehind _ (by decide) (by decide) | rfl) : PE X (.Compare a [op] [b] pos) t := fun pins s σ H Q I hw => wpAny_Compare1 (h pins s σ H Q I hw) h1
theorem pt_cmp {op : CmpOp} {t : TE} (h : PC X op a b t) (h1 : behindInMarks op b = false := by first | exact nobehind _ (by decide) (by decide) | rfl) : PT X (.Compare a [op] [b] pos) (tB t) := by
  intro pins s σ H Q I hw
  refine wpAny_isTrue_Compare1 (thn (h pins s σ H _ I hw) fun v s1 h1 => thn h1 fun u s2 h2 => thn h2 fun c s3 ⟨x, H1, I1, r1, q1⟩ => ?_) h1
  obtain ⟨d, rfl, q⟩ := q1
  cases r1
  exact wpAny_truthy_bool ⟨H1, I1, q⟩
/-- an expression whose value is a bool, as a test -/
theorem pt_val {e : Expr} {t : TE} (h : PE X e t) (he : ∀ whole, isTrue e X.env whole = (do let v ← whole; standAt e.pos; holding [v] (truthy v)) := by intro _; rfl) : PT X e (tB t) := by
  intro pins s σ H Q I hw
  refine isTrue_plain (thn (h pins s σ H _ I hw) fun v s1 ⟨x, H1, I1, r1, q1⟩ => ?_) (he _)
  obtain ⟨d, rfl, q⟩ := q1
  cases r1
  exact wpAny_truthy_bool ⟨H1, I1, q⟩

/-! ### and, or, not -/
variable {tA tB' : TT} {rest : List Expr}
def tAnd (t u : TT) : TT := fun σ H Q => t σ H fun c H1 => if c = true then u σ H1 Q else Q false H1
def tOr (t u : TT) : TT := fun σ H Q => t σ H fun c H1 => if c = true then Q true H1 else u σ H1 Q
def tNot (t : TT) : TT := fun σ H Q => t σ H fun c H1 => Q (!c) H1
theorem pw_and1 (ha : PT X a tA) : PW X (.BoolOp .And [a] pos) tA := by
  intro wh pins s σ H Q I h
  refine isTrue_and (thn (ha pins s σ H Q I h) fun c s1 e => ?_)
  cases c with
  | true => exact isTrue_and_nil e
  | false => exact e
theorem pw_or1 (ha : PT X a tA) : PW X (.BoolOp .Or [a] pos) tA := by
  intro wh pins s σ H Q I h
  refine isTrue_or (thn (ha pins s σ H Q I h) fun c s1 e => ?_)
  cases c with
  | false => exact isTrue_or_nil e
  | true => exact e
theorem pw_and (ha : PT X a tA) (hb : PW X (.BoolOp .And (b :: rest) pos) tB') : PW X (.BoolOp .And (a :: b :: rest) pos) (tAnd tA tB') := by
  intro wh pins s σ H Q I h
  refine isTrue_and (thn (ha pins s σ H _ I h) fun c s1 ⟨H1, I1, q1⟩ => ?_)
  cases c with
  | true => exact hb wh pins s1 σ H1 Q I1 q1
  | false => exact ⟨H1, I1, q1⟩
theorem pw_or (ha : PT X a tA) (hb : PW X (.BoolOp .Or (b :: rest) pos) tB') : PW X (.BoolOp .Or (a :: b :: rest) pos) (tOr tA tB') := by
  intro wh pins s σ H Q I h
  refine isTrue_or (thn (ha pins s σ H _ I h) fun c s1 ⟨H1, I1, q1⟩ => ?_)
  cases c with
  | true => exact ⟨H1, I1, q1⟩
  | false => exact hb wh pins s1 σ H1 Q I1 q1
theorem pt_not (ha : PT X a tA) : PT X (.UnaryOp .Not a pos) (tNot tA) := by
  intro pins s σ H Q I h
  exact isTrue_not (ha pins s σ H (fun c H1 => Q (!c) H1) I h)
/-- .. as values (bools) -/
def tAndV (ta tb : TE) : TE := fun σ H Q => ta σ H fun x H1 => ∃ c, x = .bl c ∧ if c = true then tb σ H1 Q else Q (.bl false) H1
def tOrV (ta tb : TE) : TE := fun σ H Q => ta σ H fun x H1 => ∃ c, x = .bl c ∧ if c = true then Q (.bl true) H1 else tb σ H1 Q
def tNotV (ta : TE) : TE := fun σ H Q => ta σ H fun x H1 => ∃ c, x = .bl c ∧ Q (.bl (!c)) H1
theorem pe_one {op} {t : TE} (h : PE X a t) : PE X (.BoolOp op [a] pos) t := fun pins s σ H Q I hw => BoolOp_one (h pins s σ H Q I hw)
theorem pe_and (ha : PE X a ta) (hb : PE X (.BoolOp .And (b :: rest) pos) tb) : PE X (.BoolOp .And (a :: b :: rest) pos) (tAndV ta tb) := by
  intro pins s σ H Q I h
  refine BoolOp_and (thn (ha pins s σ H _ I h) fun v s1 ⟨x, H1, I1, r1, q1⟩ => ?_)
  obtain ⟨c, rfl, q1⟩ := q1
  cases r1
  refine wpAny_truthy_bool ?_
  cases c with
  | true => exact hb pins s1 σ H1 Q I1 q1
  | false => exact ⟨.bl false, H1, I1, rfl, q1⟩
theorem pe_or (ha : PE X a ta) (hb : PE X (.BoolOp .Or (b :: rest) pos) tb) : PE X (.BoolOp .Or (a :: b :: rest) pos) (tOrV ta tb) := by
  intro pins s σ H Q I h
  refine BoolOp_or (thn (ha pins s σ H _ I h) fun v s1 ⟨x, H1, I1, r1, q1⟩ => ?_)
  obtain ⟨c, rfl, q1⟩ := q1
  cases r1
  refine wpAny_truthy_bool ?_
  cases c with
  | false => exact hb pins s1 σ H1 Q I1 q1
  | true => exact ⟨.bl true, H1, I1, rfl, q1⟩
theorem pe_not (ha : PE X a ta) : PE X (.UnaryOp .Not a pos) (tNotV ta) := by
  intro pins s σ H Q I h
  refine UnaryOp_ (thn (ha pins s σ H _ I h) fun v s1 ⟨x, H1, I1, r1, q1⟩ => ?_)
  obtain ⟨c, rfl, q1⟩ := q1
  cases r1
  exact not_of (wpAny_truthy_bool ⟨.bl (!c), H1, I1, rfl, q1⟩)
/-- a if t else b -/
def tIf (t : TT) (ta tb : TE) : TE := fun σ H Q => t σ H fun c H1 => if c = true then ta σ H1 Q else tb σ H1 Q
theorem pe_ifExp {c : Expr} (hc : PT X c tA) (ha : PE X a ta) (hb : PE X b tb) : PE X (.IfExp c a b pos) (tIf tA ta tb) := by
  intro pins s σ H Q I h
  refine wpAny_IfExp (thn (hc pins s σ H _ I h) fun d s1 ⟨H1, I1, q1⟩ => ?_)
  cases d with
  | true => exact ha pins s1 σ H1 Q I1 q1
  | false => exact hb pins s1 σ H1 Q I1 q1
end
end L2

namespace L2
open PySem PySem.Spec PyProof.Rows

/-! ### a list, a tuple that is read: tracked, frozen, or an object of the module -/
def SqL (K : PySem.W.Frag) (H : Hp) (a : Addr) (xs : List V) : Prop :=
  Rd H a (.lst xs) ∨
    ∃ (o : Obj) (its : Array Value) (n : Nat), K.lookup a = some o ∧ o.cls = .type "list" ∧ o.dict = none ∧ o.data = .seq its n ∧ its.size ≤ sizeLine ∧ Vals xs its.toList
def SqT (K : PySem.W.Frag) (H : Hp) (a : Addr) (xs : List V) : Prop :=
  Rd H a (.tup xs) ∨
    ∃ (o : Obj) (its : Array Value) (n : Nat), K.lookup a = some o ∧ o.cls = .type "tuple" ∧ o.data = .seq its n ∧ its.size ≤ sizeLine ∧ Vals xs its.toList
def absV : Value → Option V
  | .none => some .non
  | .bool b => some (.bl b)
  | .int i _ => some (.int i)
  | .str x _ => some (.str x)
  | .bytes b _ => some (.byt b)
  | .float b _ => some (.flt b)
  | .ref a => some (.ref a)
  | .type n => some (.ty n)
  | _ => none
theorem RelV.abs {x : V} {u : Value} (r : RelV x u) : absV u = some x := by
  cases x with
  | non => cases r; rfl
  | bl _ => cases r; rfl
  | int _ => obtain ⟨t, rfl⟩ := r; rfl
  | str _ => obtain ⟨t, rfl⟩ := r; rfl
  | byt _ => obtain ⟨t, rfl⟩ := r; rfl
  | flt _ => obtain ⟨t, rfl⟩ := r; rfl
  | ref _ => cases r; rfl
  | ty _ => cases r; rfl
theorem RelV.inj {x y : V} {u : Value} (r : RelV x u) (q : RelV y u) : x = y := Option.some.inj (r.abs.symm.trans q.abs)
theorem Vals.inj : ∀ {xs ys : List V} {us : List Value}, Vals xs us → Vals ys us → xs = ys
  | _, _, _, .nil, .nil => rfl
  | _, _, _, .cons r t, .cons r' t' => by rw [r.inj r', Vals.inj t t']
section
variable {X : Cx} {pins : List (Addr × Obj)} {σ : St} {H : Hp} {s : Shared} {a : Addr} {xs ys : List V}
theorem SqL.of {K : PySem.W.Frag} (h : H a = some (.lst xs)) : SqL K H a xs := .inl (.inl h)
theorem SqT.of {K : PySem.W.Frag} (h : H a = some (.tup xs)) : SqT K H a xs := .inl (.inl h)
theorem Inv.list (I : Inv X pins σ H s) (h : SqL X.K H a xs) : ∃ its : List Value, Vals xs its ∧ PlainL s.heap a its.toArray ∧ xs.length ≤ sizeLine := by
  rcases h with h | ⟨o, its, n, hk, hc, hd, hs, hz, r⟩
  · obtain ⟨z, its, n, r, e⟩ := h.ok I.hok
    exact ⟨its, r, ⟨_, n, e, rfl, rfl, rfl⟩, z⟩
  · refine ⟨its.toList, r, ⟨o, n, I.kIn a o hk, hc, hd, by simpa using hs⟩, ?_⟩
    have e := r.length
    simp only [Array.length_toList] at e
    omega
theorem Inv.tuple (I : Inv X pins σ H s) (h : SqT X.K H a xs) : ∃ its : List Value, Vals xs its ∧ IsTup s.heap a its.toArray ∧ xs.length ≤ sizeLine := by
  rcases h with h | ⟨o, its, n, hk, hc, hs, hz, r⟩
  · obtain ⟨z, its, r, p⟩ := h.ok I.hok
    exact ⟨its, r, p, z⟩
  · refine ⟨its.toList, r, ⟨o, I.kIn a o hk, hc, n, by simpa using hs⟩, ?_⟩
    have e := r.length
    simp only [Array.length_toList] at e
    omega
theorem Inv.list_inj (I : Inv X pins σ H s) (h : SqL X.K H a xs) (h' : SqL X.K H a ys) : xs = ys := by
  obtain ⟨its, r, ⟨o, n, e, _, _, d⟩, _⟩ := I.list h
  obtain ⟨its', r', ⟨o', n', e', _, _, d'⟩, _⟩ := I.list h'
  rw [e] at e'; cases e'
  rw [d] at d'
  injection d' with d1 _
  have : its = its' := by simpa using congrArg Array.toList d1
  subst this
  exact r.inj r'
theorem Inv.tuple_inj (I : Inv X pins σ H s) (h : SqT X.K H a xs) (h' : SqT X.K H a ys) : xs = ys := by
  obtain ⟨its, r, ⟨o, e, _, n, d⟩, _⟩ := I.tuple h
  obtain ⟨its', r', ⟨o', e', _, n', d'⟩, _⟩ := I.tuple h'
  rw [e] at e'; cases e'
  rw [d] at d'
  injection d' with d1 _
  have : its = its' := by simpa using congrArg Array.toList d1
  subst this
  exact r.inj r'
end

/-! ### another wish about exceptions -/
abbrev Cx.wish (X : Cx) (E : Value → Shared → Prop) : Cx := { X with xe := E }
/-- no exception leaves -/
abbrev Cx.nox (X : Cx) : Cx := X.wish fun _ _ => False
theorem Cx.Ok.wish {X : Cx} (ok : X.Ok) (E : Value → Shared → Prop) : (X.wish E).Ok :=
  ⟨ok.mod, ok.kind, ok.glob, ok.blt, ok.above, ok.inj, ok.has, ok.cab, ok.hd, ok.frames, ok.stk, ok.exf, ok.bs, ok.bsz, ok.noex, ok.exfs, ok.funs, ok.frf⟩
theorem Cx.Ok.unwish {X : Cx} {E : Value → Shared → Prop} (ok : (X.wish E).Ok) : X.Ok :=
  ⟨ok.mod, ok.kind, ok.glob, ok.blt, ok.above, ok.inj, ok.has, ok.cab, ok.hd, ok.frames, ok.stk, ok.exf, ok.bs, ok.bsz, ok.noex, ok.exfs, ok.funs, ok.frf⟩
section
variable {X : Cx} {pins : List (Addr × Obj)} {σ : St} {H : Hp} {s : Shared} {E : Value → Shared → Prop}
theorem Inv.wish (I : Inv X pins σ H s) (E : Value → Shared → Prop) : Inv (X.wish E) pins σ H s := ⟨I.ok.wish E, I.os, I.bare, I.base, I.loc, I.cell, I.free, I.freeC, I.pin, I.hok, I.len⟩
theorem Inv.unwish (I : Inv (X.wish E) pins σ H s) : Inv X pins σ H s := ⟨I.ok.unwish, I.os, I.bare, I.base, I.loc, I.cell, I.free, I.freeC, I.pin, I.hok, I.len⟩
theorem SP.unwish {D : Ends} {f : Flow} {s' : Shared} (h : SP (X.wish E) pins D f s') : SP X pins D f s' := by
  cases f with
  | next => obtain ⟨σ', H', I, q⟩ := h; exact ⟨σ', H', I.unwish, q⟩
  | brk => obtain ⟨σ', H', I, q⟩ := h; exact ⟨σ', H', I.unwish, q⟩
  | cont => obtain ⟨σ', H', I, q⟩ := h; exact ⟨σ', H', I.unwish, q⟩
  | ret u => obtain ⟨v, σ', H', I, r, q⟩ := h; exact ⟨v, σ', H', I.unwish, r, q⟩
theorem PE.nox {e : Expr} {t : TE} (h : PE X.nox e t) : PE X e t := fun pins s σ H Q I hw =>
  wpAny_mono (h pins s σ H Q (I.wish _) hw) (fun _ _ ⟨v, H', I', r, q⟩ => ⟨v, H', I'.unwish, r, q⟩) fun _ _ z => False.elim z
theorem PT.nox {e : Expr} {t : TT} (h : PT X.nox e t) : PT X e t := fun pins s σ H Q I hw =>
  wpAny_mono (h pins s σ H Q (I.wish _) hw) (fun _ _ ⟨H', I', q⟩ => ⟨H', I'.unwish, q⟩) fun _ _ z => False.elim z
theorem PSs.nox {st : List Stmt} {t : TS} (h : PSs X.nox st t) : PSs X st t := fun pins s σ H D I hw =>
  wpAny_mono (h pins s σ H D (I.wish _) hw) (fun _ _ q => q.unwish) fun _ _ z => False.elim z
end

/-! ### blocks and small statements -/
section
variable {X : Cx} {st : Stmt} {rest : List Stmt} {t u : TS} {e : Expr} {te : TE} {pos : Pos}
def tNext : TS := fun D σ H => D.nx σ H
def tSeq (t u : TS) : TS := fun D σ H => t { D with nx := u D } σ H
theorem pss_nil : PSs X [] tNext := fun _ _ σ H _ I h => wpAny_execs_nil ⟨σ, H, I, h⟩
theorem pss_cons (h1 : PS X st t) (h2 : PSs X rest u) : PSs X (st :: rest) (tSeq t u) := by
  intro pins s σ H D I h
  refine wpAny_execs_cons (thn (h1 pins s σ H { D with nx := u D } I h) fun f s1 q => ?_)
  cases f with
  | next =>
    obtain ⟨σ', H', I', q⟩ := q
    exact h2 pins s1 σ' H' D I' q
  | ret v => exact q
  | brk => exact q
  | cont => exact q
theorem pss_one (h1 : PS X st t) : PSs X [st] t := by
  intro pins s σ H D I h
  refine wpAny_execs_cons (thn (h1 pins s σ H D I h) fun f s1 q => ?_)
  cases f with
  | next => exact wpAny_execs_nil q
  | ret v => exact q
  | brk => exact q
  | cont => exact q
def tBreak : TS := fun D σ H => D.bk σ H
def tCont : TS := fun D σ H => D.ct σ H
theorem ps_pass : PS X (.Pass pos) tNext := fun _ _ σ H _ I h => wpAny_Pass ⟨σ, H, I, h⟩
theorem ps_break : PS X (.Break pos) tBreak := fun _ _ σ H _ I h => wpAny_Break ⟨σ, H, I, h⟩
theorem ps_continue : PS X (.Continue pos) tCont := fun _ _ σ H _ I h => wpAny_Continue ⟨σ, H, I, h⟩
/-- in a def's body nothing is shown -/
theorem Inv.quiet {pins : List (Addr × Obj)} {σ : St} {H : Hp} {s : Shared} (I : Inv X pins σ H s) : interactive X.env = false := by simp [interactive, I.ok.kind]
/-- a docstring -/
theorem ps_doc {x j pos pos'} : PS X (.Expr (.Constant (.str x) j pos) pos') tNext := fun _ s σ H _ I h => wpAny_Expr (Calls.Constant_str (show SP X _ _ .next { s with toks := s.toks + 1 } from ⟨σ, H, I.tok _, h⟩)) I.quiet
/-- an expression whose value is dropped -/
def tDrop (te : TE) : TS := fun D σ H => te σ H fun _ H1 => D.nx σ H1
theorem ps_expr (he : PE X e te) (hs : swapsWith e none pos.line X.env = pure false := by rfl) : PS X (.Expr e pos) (tDrop te) := by
  intro pins s σ H D I h
  exact wpAny_Expr_any (thn (he pins s σ H _ I h) fun v s1 ⟨x, H1, I1, r1, q1⟩ => ⟨σ, H1, I1, q1⟩) I.quiet hs
def tRet (te : TE) : TS := fun D σ H => te σ H D.rt
theorem ps_ret (he : PE X e te) : PS X (.Return (some e) pos) (tRet te) := by
  intro pins s σ H D I h
  exact wpAny_Return_some (thn (he pins s σ H _ I h) fun v s1 ⟨x, H1, I1, r1, q1⟩ => ⟨x, σ, H1, I1, r1, q1⟩)
def tRetN : TS := fun D _ H => D.rt .non H
theorem ps_retN : PS X (.Return none pos) tRetN := fun _ _ σ H _ I h => wpAny_Return_none ⟨.non, σ, H, I, rfl, h⟩
def tIfS (c : TT) (t u : TS) : TS := fun D σ H => c σ H fun b H1 => if b = true then t D σ H1 else u D σ H1
theorem ps_if {c : Expr} {a b : List Stmt} {tc : TT} (hc : PT X c tc) (ha : PSs X a t) (hb : PSs X b u) : PS X (.If c a b pos) (tIfS tc t u) := by
  intro pins s σ H D I h
  refine wpAny_If (thn (hc pins s σ H _ I h) fun d s1 ⟨H1, I1, q1⟩ => ?_)
  cases d with
  | true => exact ha pins s1 σ H1 D I1 q1
  | false => exact hb pins s1 σ H1 D I1 q1
/-- code that the proof never comes to -/
def tNever : TS := fun _ _ _ => False
theorem ps_never : PS X st tNever := fun _ _ _ _ _ _ h => h.elim
theorem pss_never {sts : List Stmt} : PSs X sts tNever := fun _ _ _ _ _ _ h => h.elim
end

/-! ### targets -/
abbrev TG := V → St → Hp → (St → Hp → Prop) → Prop
abbrev TGs := List V → St → Hp → (St → Hp → Prop) → Prop
def PG (X : Cx) (target : Expr) (t : TG) : Prop :=
  ∀ (pins : List (Addr × Obj)) (s : Shared) (σ : St) (H : Hp) (v : V) (u : Value) (Q : St → Hp → Prop), Inv X pins σ H s → RelV v u → t v σ H Q →
    wpAny (model X.prog X.w) X.A (assign target X.env u) (fun _ s' => ∃ σ' H', Inv X pins σ' H' s' ∧ Q σ' H') X.xe s
/-- several targets, one after another -/
def PGs (X : Cx) (ts : List Expr) (t : TGs) : Prop :=
  ∀ (pins : List (Addr × Obj)) (s : Shared) (σ : St) (H : Hp) (vs : List V) (us : List Value) (Q : St → Hp → Prop), Inv X pins σ H s → Vals vs us → t vs σ H Q →
    wpAny (model X.prog X.w) X.A (assignInOrder ((assignEach ts X.env).map (·.2)) us) (fun _ s' => ∃ σ' H', Inv X pins σ' H' s' ∧ Q σ' H') X.xe s
/-- o[i] = v, by values -/
abbrev TSet := V → V → V → Hp → (Hp → Prop) → Prop
def PSet (X : Cx) (t : TSet) : Prop :=
  ∀ (pins : List (Addr × Obj)) (s : Shared) (σ : St) (H : Hp) (o i v : V) (ov iv u : Value) (Q : Hp → Prop), Inv X pins σ H s → RelV o ov → RelV i iv → RelV v u → t o i v H Q →
    wpAny (model X.prog X.w) X.A (setItem ov iv u) (fun _ s' => ∃ H', Inv X pins σ H' s' ∧ Q H') X.xe s
/-- a op= b, by values -/
abbrev TIp := V → V → Hp → VK → Prop
def PIp (X : Cx) (op : Operator) (t : TIp) : Prop :=
  ∀ (pins : List (Addr × Obj)) (s : Shared) (σ : St) (H : Hp) (x y : V) (v u : Value) (Q : VK), Inv X pins σ H s → RelV x v → RelV y u → t x y H Q →
    wpAny (model X.prog X.w) X.A (inplaceOp op v u) (EP X pins σ Q) X.xe s
section
variable {X : Cx} {pos : Pos}
def gName (i : Nat) : TG := fun v σ H Q => Q (σ.set i (some v)) H
theorem pg_name {i : Nat} {x : Str} (hN : X.N.Nodup) (hi : X.N[i]? = some x) (hx : Loc X.env.scope x) (hf : X.fn x = true ∨ X.env.scope.names.lookup x = some .local := by first | exact .inl rfl | exact .inr rfl | assumption) : PG X (.Name x pos) (gName i) := by
  intro pins s σ H v u Q I r h
  exact wpAny_assign_Name (store_ok I hN hi hx r (fun s' I' => ⟨_, H, I', h⟩) hf)
def gNil : TGs := fun vs σ H Q => vs = [] ∧ Q σ H
def gCons (t : TG) (u : TGs) : TGs := fun vs σ H Q => ∃ v r, vs = v :: r ∧ t v σ H fun σ' H' => u r σ' H' Q
theorem pgs_nil : PGs X [] gNil := by
  intro pins s σ H vs us Q I r h
  obtain ⟨e, h⟩ := h
  subst e
  cases r
  exact assignInOrder_nil ⟨σ, H, I, h⟩
theorem pgs_cons {e : Expr} {es : List Expr} {t : TG} {u : TGs} (h1 : PG X e t) (h2 : PGs X es u)
    (hs : (assignEach (e :: es) X.env).map (·.2) = assign e X.env :: (assignEach es X.env).map (·.2) := by rfl) : PGs X (e :: es) (gCons t u) := by
  intro pins s σ H vs us Q I r h
  obtain ⟨v, vr, e1, h⟩ := h
  subst e1
  cases r with
  | cons r rr =>
    rw [hs]
    refine assignInOrder_cons (thn (h1 pins s σ H _ _ _ I r h) fun _ s1 ⟨σ1, H1, I1, q1⟩ => ?_)
    exact h2 pins s1 σ1 H1 _ _ Q I1 rr q1
/-- (a, b, ..) = a tuple of that length -/
def gTup (K : PySem.W.Frag) (n : Nat) (t : TGs) : TG := fun v σ H Q => ∃ a xs, v = .ref a ∧ SqT K H a xs ∧ xs.length = n ∧ t xs σ H Q
theorem pg_tup {es : List Expr} {k : Nat} {t : TGs} {n : Nat} (hc : X.calm = true) (h : PGs X es t)
    (hn : (assignEach es X.env).length = n := by rfl) (hst : (assignEach es X.env).findIdx? (·.1) = none := by rfl) : PG X (.Tuple es k pos) (gTup X.K n t) := by
  intro pins s σ H v u Q I r hw
  obtain ⟨a, xs, e1, hq, hl, hw⟩ := hw
  subst e1
  cases r
  obtain ⟨its, rv, ht, hz⟩ := I.tuple hq
  refine assign_Tuple_tuple (I.ok.hd hc) ht (by simp [hn, ← hl, rv.length]) hst fun h' hx => ?_
  have I1 : Inv X pins σ H { s with heap := h' } := I.kept (t' := s.toks) fun b o e => hx b o (Nat.ne_of_lt (Heap.lt_size e)) e
  exact h pins _ σ H xs _ Q I1 (by simpa using rv) hw
/-- o[i] = .. -/
def gSub (to ti : TE) (t : TSet) : TG := fun v σ H Q => to σ H fun o H1 => ti σ H1 fun i H2 => t o i v H2 fun H3 => Q σ H3
theorem pg_sub {o i : Expr} {to ti : TE} {t : TSet} (ho : PE X o to) (hi : PE X i ti) (hs : PSet X t)
    (ha : ∀ v, assign (.Subscript o i pos) X.env v = (do
      let ov ← holding [v] (eval o X.env)
      let iv ← holding [v, ov] (eval i X.env)
      standAt pos
      holding [v, ov, iv] (setItem ov iv v)
      release [v, ov, iv] []) := by intro _; rfl) : PG X (.Subscript o i pos) (gSub to ti t) := by
  intro pins s σ H v u Q I r h
  rw [ha]
  refine wpAny_bind (wpAny_holding (thn (ho pins s σ H _ I h) fun ov s1 ⟨x, H1, I1, r1, q1⟩ => ?_))
  refine wpAny_bind (wpAny_holding (thn (hi pins s1 σ H1 _ I1 q1) fun iv s2 ⟨y, H2, I2, r2, q2⟩ => ?_))
  refine wpAny_bind (wpAny_standAt (wpAny_bind (wpAny_holding (thn (hs pins s2 σ H2 x y v ov iv u _ I2 r1 r2 r q2) fun _ s3 ⟨H3, I3, q3⟩ => ?_))))
  exact wpAny_release ⟨σ, H3, I3, q3⟩
/-- target = value -/
def tAsg (te : TE) (g : TG) : TS := fun D σ H => te σ H fun x H1 => g x σ H1 D.nx
theorem ps_asg {tg e : Expr} {te : TE} {g : TG} (he : PE X e te) (hg : PG X tg g) (hs : swapsWithSole [tg] e pos.line X.env = pure false := by rfl) (hw : swappedStores [tg] e X.env = pure none := by rfl)
    (h1 : (assignEach [tg] X.env).map (·.2) = [assign tg X.env] := by rfl) : PS X (.Assign [tg] e pos) (tAsg te g) := by
  intro pins s σ H D I h
  refine wpAny_Assign_stores (thn (he pins s σ H _ I h) fun v s1 ⟨x, H1, I1, r1, q1⟩ => ?_) hs hw
  rw [h1]
  exact thn (hg pins s1 σ H1 x v _ I1 r1 q1) fun _ s2 q => q
/-- name = value -/
theorem ps_set {i : Nat} {x : Str} {e : Expr} {te : TE} {pos' : Pos} (hN : X.N.Nodup) (hi : X.N[i]? = some x) (hx : Loc X.env.scope x) (he : PE X e te) (hs : swapsWith e (some (.Name x pos')) pos.line X.env = pure false := by rfl) (hf : X.fn x = true ∨ X.env.scope.names.lookup x = some .local := by first | exact .inl rfl | exact .inr rfl | assumption) :
    PS X (.Assign [.Name x pos'] e pos) (tAsg te (gName i)) := by
  intro pins s σ H D I h
  refine wpAny_Assign_Name (thn (he pins s σ H _ I h) fun v s1 ⟨y, H1, I1, r1, q1⟩ => ?_) hs
  exact store_ok I1 hN hi hx r1 (fun s2 I2 => ⟨_, H1, I2, q1⟩) hf
/-- a, b = x, y with plain local names: stored from the right; the pair itself is not tracked (the opening rows as in PyProof/Rows/TupAssign.lean:23) -/
def tPar (i j : Nat) (ta : TA) : TS := fun D σ H => ta σ H fun vs H1 => ∃ v w, vs = [v, w] ∧ D.nx ((σ.set i (some v)).set j (some w)) H1
theorem ps_par {i j : Nat} {x y : Str} {a b : Expr} {ta : TA} {px py pt : Pos} {kt k2 pt2} (hc : X.calm = true) (hN : X.N.Nodup) (hi : X.N[i]? = some x) (hj : X.N[j]? = some y) (hij : i ≠ j)
    (hx : X.env.scope.names.lookup x = some .local) (hy : X.env.scope.names.lookup y = some .local) (ha : PA X [a, b] ta)
    (hw : swappedStores [.Tuple [.Name x px, .Name y py] kt pt] (.Tuple [a, b] k2 pt2) X.env = pure (some [x, y]))
    (hs : swapsWithSole [.Tuple [.Name x px, .Name y py] kt pt] (.Tuple [a, b] k2 pt2) pos.line X.env = pure false := by rfl) :
    PS X (.Assign [.Tuple [.Name x px, .Name y py] kt pt] (.Tuple [a, b] k2 pt2) pos) (tPar i j ta) := by
  intro pins s σ H D I h
  rw [exec_Assign_arm]
  refine wpAny_bind (wpAny_standAt ?_)
  rw [hs]
  refine wpAny_bind (wpAny_pure ?_)
  rw [if_neg (by decide)]
  refine wpAny_bind (Tuple_ (thn (ha _ pins s σ H _ I h) fun us s1 ⟨vs, H1, I1, r1, q1⟩ => ?_))
  obtain ⟨v, w, e1, q1⟩ := q1
  subst e1
  obtain ⟨u1, u2, rfl, rv, rw'⟩ : ∃ u1 u2, us = [u1, u2] ∧ RelV v u1 ∧ RelV w u2 := by
    cases r1 with
    | cons p q =>
      cases q with
      | cons p' q' =>
        cases q'
        exact ⟨_, _, rfl, p, p'⟩
  refine wpAny_newObj_type ?_ (by show 2 ≤ sizeLine; decide)
  have I2 : Inv X pins σ H1 { s1 with heap := s1.heap.push { cls := .type "tuple", data := .seq [u1, u2].toArray } } := I1.kept (t' := s1.toks) fun b o e => Heap.get?_push_of_some _ e
  rw [hw]
  refine wpAny_bind (wpAny_pure ?_)
  show wpAny (model X.prog X.w) X.A (do rule "assign.swapped-stores"; let items ← unpackItems (.ref s1.heap.objs.size) 2 none; assignInOrder [fun v => bindName X.env y v, fun v => bindName X.env x v] items.reverse; pure Flow.next) _ _ _
  refine wpAny_bind (wpAny_rule (wpAny_bind (unpackItems_tuple (items := #[u1, u2]) (I.ok.hd hc) (IsTup.new s1.heap _) fun h' hx' => ?_)))
  have I3 := I2.kept (h' := h') (t' := s1.toks) fun b o e => hx' b o (Nat.ne_of_lt (Heap.lt_size e)) e
  show wpAny _ _ (assignInOrder [fun v => bindName X.env y v, fun v => bindName X.env x v] [u2, u1] >>= fun _ => pure Flow.next) _ _ _
  refine wpAny_bind (assignInOrder_cons (wpAny_bindName (store_ok I3 hN hj (.inl hy) rw' (fun s2 I4 => ?_) (.inr hy))))
  refine assignInOrder_cons (wpAny_bindName (store_ok I4 hN hi (.inl hx) rv (fun s3 I5 => assignInOrder_nil (wpAny_pure ?_)) (.inr hx)))
  rw [List.set_comm _ _ (Ne.symm hij)] at I5
  exact ⟨_, H1, I5, q1⟩
/-- name op= e -/
def tAug (i : Nat) (te : TE) (ti : TIp) : TS := fun D σ H => ∃ x, σ[i]? = some (some x) ∧ te σ H fun y H1 => ti x y H1 fun z H2 => D.nx (σ.set i (some z)) H2
theorem ps_aug {i : Nat} {x : Str} {e : Expr} {te : TE} {op : Operator} {ti : TIp} {pos' : Pos} (hN : X.N.Nodup) (hi : X.N[i]? = some x) (hx : Loc X.env.scope x) (he : PE X e te) (ho : PIp X op ti) (hf : X.fn x = true ∨ X.env.scope.names.lookup x = some .local := by first | exact .inl rfl | exact .inr rfl | assumption) :
    PS X (.AugAssign (.Name x pos') op e pos) (tAug i te ti) := by
  intro pins s σ H D I h
  obtain ⟨v, e1, h⟩ := h
  obtain ⟨m, hn, hl⟩ := I.loc
  have vis : Vis X.env.scope x := by rcases hx with k | k; exact .inl k; exact .inr (.inl k)
  obtain ⟨u, r, l⟩ := hl i x v hi e1 vis
  refine wpAny_AugAssign_Name ?_
  have go : wpAny (model X.prog X.w) X.A (eval e X.env) (fun w s₂ => wpAny (model X.prog X.w) X.A (inplaceOp op u w) (fun r s₃ => wpAny (model X.prog X.w) X.A (storeName X.env x r) (fun _ => SP X pins D .next) X.xe s₃) X.xe s₂) X.xe s := by
    refine thn (he pins s σ H _ I h) fun w s1 ⟨y, H1, I1, r1, q1⟩ => ?_
    refine thn (ho pins s1 σ H1 v y u w _ I1 r r1 q1) fun z s2 ⟨zv, H2, I2, r2, q2⟩ => ?_
    exact store_ok I2 hN hi hx r2 (fun s3 I3 => ⟨_, H2, I3, q2⟩) hf
  rcases l with ⟨hk, hm⟩ | ⟨hk, c, hc, hcell⟩
  · exact wpAny_loadName_local I.ok.kind hk hn hm go
  · rcases hk with hk | hk
    · exact wpAny_loadName_cell I.ok.kind hk hc hcell go
    · rcases hx with k | k
      · have : X.env.scope.names.lookup x = some .free := hk
        rw [k] at this; cases this
      · have : X.env.scope.names.lookup x = some .free := hk
        rw [k] at this; cases this
/-- o[i] op= e -/
def tAugS (to ti te : TE) (tget : V → V → Hp → VK → Prop) (tip : TIp) (tset : TSet) : TS := fun D σ H => to σ H fun o H1 => ti σ H1 fun i H2 => tget o i H2 fun x H3 => te σ H3 fun y H4 => tip x y H4 fun z H5 => tset o i z H5 fun H6 => D.nx σ H6
/-- o[i], by values -/
def PGet (X : Cx) (t : V → V → Hp → VK → Prop) : Prop :=
  ∀ (pins : List (Addr × Obj)) (s : Shared) (σ : St) (H : Hp) (o i : V) (ov iv : Value) (Q : VK), Inv X pins σ H s → RelV o ov → RelV i iv → t o i H Q →
    wpAny (model X.prog X.w) X.A (getItem ov iv) (EP X pins σ Q) X.xe s
theorem ps_augS {o i e : Expr} {to ti te : TE} {tget : V → V → Hp → VK → Prop} {tip : TIp} {tset : TSet} {op : Operator} {tpos : Pos} (ho : PE X o to) (hi : PE X i ti) (hg : PGet X tget) (he : PE X e te) (hp : PIp X op tip) (hs : PSet X tset)
    (ha : ∀ ov iv new, augStore i ov iv new = (do holding [new, ov, iv] (setItem ov iv new); release [new, ov, iv] []; pure .next) := by intros; rfl) : PS X (.AugAssign (.Subscript o i tpos) op e pos) (tAugS to ti te tget tip tset) := by
  intro pins s σ H D I h
  refine wpAny_AugAssign_SubscriptAny (thn (ho pins s σ H _ I h) fun ov s1 ⟨x1, H1, I1, r1, q1⟩ => ?_) ha
  refine thn (hi pins s1 σ H1 _ I1 q1) fun iv s2 ⟨x2, H2, I2, r2, q2⟩ => ?_
  refine thn (hg pins s2 σ H2 x1 x2 ov iv _ I2 r1 r2 q2) fun old s3 ⟨x3, H3, I3, r3, q3⟩ => ?_
  refine thn (he pins s3 σ H3 _ I3 q3) fun v s4 ⟨x4, H4, I4, r4, q4⟩ => ?_
  refine thn (hp pins s4 σ H4 x3 x4 old v _ I4 r3 r4 q4) fun new s5 ⟨x5, H5, I5, r5, q5⟩ => ?_
  exact thn (hs pins s5 σ H5 x1 x2 x5 ov iv new _ I5 r1 r2 r5 q5) fun _ s6 ⟨H6, I6, q6⟩ => ⟨σ, H6, I6, q6⟩
/-- ints -/
def ipI (f : Int → Int → Int) : TIp := fun x y H Q => ∃ i j, x = .int i ∧ y = .int j ∧ Q (.int (f i j)) H
theorem ip_add : PIp X .Add (ipI fun i j => i + j) := by
  intro pins s σ H x y v u Q I r1 r2 h
  obtain ⟨i, j, e1, e2, q⟩ := h
  subst e1; subst e2
  obtain ⟨t, rfl⟩ := r1
  obtain ⟨t', rfl⟩ := r2
  exact iadd_int ⟨.int _, H, I.tok _, ⟨_, rfl⟩, q⟩
theorem ip_sub : PIp X .Sub (ipI fun i j => i - j) := by
  intro pins s σ H x y v u Q I r1 r2 h
  obtain ⟨i, j, e1, e2, q⟩ := h
  subst e1; subst e2
  obtain ⟨t, rfl⟩ := r1
  obtain ⟨t', rfl⟩ := r2
  exact isub_int ⟨.int _, H, I.tok _, ⟨_, rfl⟩, q⟩
end

/-! ### while -/
section
variable {X : Cx} {pos : Pos}
/-- the invariant W with its measure -/
def tWhile (c : TT) (tb : TS) : TS := fun D σ H => ∃ W : Nat → St → Hp → Prop, (∃ m, W m σ H) ∧ ∀ m σ H, W m σ H →
  c σ H fun b H1 => if b = true then ∃ N : St → Hp → Prop, (∀ σ' H', N σ' H' → ∃ m', m' < m ∧ W m' σ' H') ∧ tb { D with nx := N, ct := N, bk := D.nx } σ H1 else D.nx σ H1
theorem ps_while {c : Expr} {body : List Stmt} {tc : TT} {tb : TS} (hp : PassesOwn (model X.prog X.w) X.A X.env X.xe) (hc : PT X c tc) (hb : PSs X body tb) : PS X (.While c body [] pos) (tWhile tc tb) := by
  intro pins s σ H D I h
  obtain ⟨W, ⟨m0, w0⟩, turn⟩ := h
  refine wpAny_While (codeAny_whileLoop (fun n s' => ∃ σ' H', Inv X pins σ' H' s' ∧ W n σ' H') ?_ m0 ⟨σ, H, I, w0⟩)
  rintro n s1 ⟨σ1, H1, I1, w1⟩
  refine wpAny_passesOwn hp (thn (hc pins s1 σ1 H1 _ I1 (turn n σ1 H1 w1)) fun b s2 ⟨H2, I2, q2⟩ => ?_)
  cases b with
  | true =>
    obtain ⟨N, hN, q2⟩ := q2
    rw [if_pos rfl]
    refine wpAny_passesOwn hp (thn (hb pins s2 σ1 H2 _ I2 q2) fun f s3 q3 => ?_)
    cases f with
    | next =>
      obtain ⟨σ3, H3, I3, n3⟩ := q3
      obtain ⟨m', hm, w3⟩ := hN σ3 H3 n3
      exact ⟨m', hm, σ3, H3, I3, w3⟩
    | cont =>
      obtain ⟨σ3, H3, I3, n3⟩ := q3
      obtain ⟨m', hm, w3⟩ := hN σ3 H3 n3
      exact ⟨m', hm, σ3, H3, I3, w3⟩
    | brk => exact q3
    | ret v => exact q3
  | false =>
    rw [if_neg Bool.false_ne_true]
    exact wpAny_execs_nil ⟨σ1, H2, I2, q2⟩
end

/-! ### what a loop or a comprehension walks -/
/-- at turn i: it yields x (the heap may grow), or it stops -/
structure It where
  go : Nat → Hp → Prop
  yld : Nat → Hp → V → Hp → Prop
  stop : Nat → Hp → Prop
/-- the iterator's own objects may turn: they are not the frame's, not pinned, younger than the entry (or a comprehension's own) -/
def FpOk (X : Cx) (pins : List (Addr × Obj)) (H : Hp) (b : Addr) : Prop :=
  H b = none ∧ b ≠ X.env.locals ∧ b ∉ X.fs ∧ (b ∈ X.ex ∨ X.s₀.heap.objs.size ≤ b) ∧ (∀ x c, X.env.cells.lookup x = some c → c ≠ b) ∧ ∀ p ∈ X.pn ++ pins, p.1 ≠ b
theorem Inv.fpOk {X : Cx} {pins : List (Addr × Obj)} {σ : St} {H H' : Hp} {s : Shared} {b : Addr} (I : Inv X pins σ H s) (hb : s.heap.objs.size ≤ b) (hn : H' b = none) : FpOk X pins H' b := by
  refine ⟨hn, Nat.ne_of_gt (Nat.lt_of_lt_of_le I.lt hb), I.nofs hb, .inr (Nat.le_trans I.sz hb), fun x c e z => ?_, fun p hp z => ?_⟩
  · obtain ⟨v, q⟩ := I.cell x c e
    exact absurd (Nat.lt_of_lt_of_le q.lt (by rw [z]; exact hb)) (Nat.lt_irrefl _)
  · exact absurd (Nat.lt_of_lt_of_le (Heap.lt_size (I.pin p hp).1) (by rw [z]; exact hb)) (Nat.lt_irrefl _)
structure Turn (P : Program) (w : World) (K : PySem.W.Frag) (tg : Expr) (J : It) (fp : List Addr) (it : Addr) (tn : Nat → Heap → Prop) : Prop where
  mem : it ∈ fp
  obj : ∀ i h, tn i h → ∀ b ∈ fp, ∃ o, h.get? b = some o ∧ ∀ v, o.data ≠ .cell v
  keep : ∀ i h h', tn i h → (∀ b ∈ fp, ∀ o, h.get? b = some o → h'.get? b = some o) → tn i h'
  item : ∀ (X : Cx), X.prog = P → X.w = w → X.K = K → X.calm = true → ∀ (i : Nat) (pins : List (Addr × Obj)) (s : Shared) (σ : St) (H : Hp) (E : Value → Shared → Prop), Inv X pins σ H s → (∀ b ∈ fp, FpOk X pins H b) → tn i s.heap → J.go i H →
    wpAny (model P w) X.A (pyNext (.ref it)) (fun r s1 => ∃ u, r = some u ∧
      wpAny (model P w) X.A (letOwnedTupleGo tg (.ref it) u) (fun _ s2 => ∃ x H', Inv X pins σ H' s2 ∧ RelV x u ∧ J.yld i H x H' ∧ tn (i + 1) s2.heap ∧ ∀ b ∈ fp, H' b = none) E s1) E s
  done : ∀ (X : Cx), X.prog = P → X.w = w → X.K = K → X.calm = true → ∀ (i : Nat) (pins : List (Addr × Obj)) (s : Shared) (σ : St) (H : Hp) (E : Value → Shared → Prop), Inv X pins σ H s → (∀ b ∈ fp, FpOk X pins H b) → tn i s.heap → J.stop i H →
    wpAny (model P w) X.A (pyNext (.ref it)) (fun r s1 => r = none ∧ Inv X pins σ H s1) E s
  self : ∀ (A : Around) (i : Nat) (s : Shared) (Q : Value → Shared → Prop) (E : Value → Shared → Prop), tn i s.heap → Q (.ref it) s → wpAny (model P w) A (pyIter (.ref it)) Q E s
abbrev TI := St → Hp → (It → Hp → Prop) → Prop
/-- an iterator has come -/
def PIE (X : Cx) (pins : List (Addr × Obj)) (σ : St) (tg : Expr) (R : It → Hp → Prop) (itv : Value) (s2 : Shared) : Prop :=
  ∃ (it : Addr) (fp : List Addr) (tn : Nat → Heap → Prop) (J : It) (H' : Hp), itv = .ref it ∧ Inv X pins σ H' s2 ∧ Turn X.prog X.w X.K tg J fp it tn ∧ tn 0 s2.heap ∧ (∀ b ∈ fp, FpOk X pins H' b) ∧ R J H'
def PI (X : Cx) (tg iter : Expr) (wi : TI) : Prop :=
  ∀ (pins : List (Addr × Obj)) (s : Shared) (σ : St) (H : Hp) (R : It → Hp → Prop), Inv X pins σ H s → wi σ H R →
    wpAny (model X.prog X.w) X.A (eval iter X.env) (fun v s1 => wpAny (model X.prog X.w) X.A (pyIter v) (PIE X pins σ tg R) X.xe s1) X.xe s

/-- the step ahead of the store is nothing for an iterator that keeps no tuple -/
theorem go_of {M : Model} {A : Around} {E : Value → Shared → Prop} {s : Shared} {tg : Expr} {it : Addr} {u : Value} {o : Obj} {n : String} {vs : Array Value} {Q : Unit → Shared → Prop} (ho : s.heap.get? it = some o) (hc : o.cls = .type n) (hd : o.data = .fields vs)
    (hn : ["enumerate", "zip", "dict_itemiterator", "dict_reverseitemiterator", "odict_iterator", "itertools.zip_longest", "itertools.pairwise"].contains n = false) (hQ : Q () s) : wpAny M A (letOwnedTupleGo tg (.ref it) u) Q E s := by
  unfold letOwnedTupleGo
  cases tg <;> first
    | exact wpAny_pure hQ
    | (cases u <;> first
        | exact wpAny_pure hQ
        | (refine wpAny_bind (wpAny_load ho ?_)
           rw [hc, hd]
           show wpAny M A (if (["enumerate", "zip", "dict_itemiterator", "dict_reverseitemiterator", "odict_iterator", "itertools.zip_longest", "itertools.pairwise"].contains n && vs[0]? == some (rawInt _)) = true then _ else _) Q E s
           rw [if_neg (by intro h; rw [hn, Bool.false_and] at h; cases h)]
           exact wpAny_pure hQ))

/-- the list at a, as it stands at each turn (a loop may append to it) -/
def Itl (K : PySem.W.Frag) (a : Addr) : It :=
  ⟨fun i H => ∃ xs x, SqL K H a xs ∧ xs[i]? = some x, fun i H x H' => H' = H ∧ ∀ xs, SqL K H a xs → xs[i]? = some x, fun i H => ∃ xs, SqL K H a xs ∧ xs.length ≤ i⟩
def Itt (K : PySem.W.Frag) (a : Addr) : It :=
  ⟨fun i H => ∃ xs x, SqT K H a xs ∧ xs[i]? = some x, fun i H x H' => H' = H ∧ ∀ xs, SqT K H a xs → xs[i]? = some x, fun i H => ∃ xs, SqT K H a xs ∧ xs.length ≤ i⟩
/-- lo, lo + 1, .. (n of them) -/
def Itr (lo : Int) (n : Nat) : It := ⟨fun i _ => i < n, fun i H x H' => H' = H ∧ x = .int (lo + i), fun i _ => n ≤ i⟩
theorem turn_list {P : Program} {w : World} {K : PySem.W.Frag} {tg : Expr} (a it : Addr) : Turn P w K tg (Itl K a) [it] it (fun i h => h.IsListIter it a i) where
  mem := by simp
  obj := fun i h st b hb => by
    have e : b = it := by simpa using hb
    subst e
    obtain ⟨o, e, c, d⟩ := st
    exact ⟨o, e, fun v z => by rw [d] at z; cases z⟩
  keep := fun i h h' st k => st.at fun o e => k it (by simp) o e
  item := by
    intro X hP hw hK hc i pins s σ H E I hf st hg
    subst hP hw hK
    obtain ⟨xs, x, hq, hx⟩ := hg
    obtain ⟨its, rv, p, hz⟩ := I.list hq
    obtain ⟨u, hu, ru⟩ := rv.get hx
    obtain ⟨f0, f1, f2, f3, f4, f5⟩ := hf it (by simp)
    refine wpAny_pyNext_list_item st p.isList (x := u) (by simpa using hu) fun h' st' sb => ?_
    have I1 : Inv X pins σ H { s with heap := h' } := I.turned (t' := s.toks) (fun b o hb e => (sb.2 b hb).trans e) f0 f1 f3 f4 f5
    obtain ⟨o, e, c, d⟩ := id st'
    exact ⟨u, rfl, go_of (s := { s with heap := h' }) e c d (by decide) ⟨x, H, I1, ru, ⟨rfl, fun ys hy => by rw [I.list_inj hy hq]; exact hx⟩, st', fun b hb => (hf b hb).1⟩⟩
  done := by
    intro X hP hw hK hc i pins s σ H E I hf st hg
    subst hP hw hK
    obtain ⟨xs, hq, hx⟩ := hg
    obtain ⟨its, rv, p, hz⟩ := I.list hq
    obtain ⟨f0, f1, f2, f3, f4, f5⟩ := hf it (by simp)
    have hl := rv.length
    exact wpAny_pyNext_list_end (I.ok.hd hc) st p.isList (by simp; omega) fun h' eb => ⟨rfl, I.turned (t' := s.toks) (fun b o hb e => eb b o hb e) f0 f1 f3 f4 f5⟩
  self := fun _ _ _ _ _ st h => wpAny_pyIter_listiter st h
theorem turn_tuple {P : Program} {w : World} {K : PySem.W.Frag} {tg : Expr} (a it : Addr) : Turn P w K tg (Itt K a) [it] it (fun i h => h.IsTupleIter it a i) where
  mem := by simp
  obj := fun i h st b hb => by
    have e : b = it := by simpa using hb
    subst e
    obtain ⟨o, e, c, d⟩ := st
    exact ⟨o, e, fun v z => by rw [d] at z; cases z⟩
  keep := fun i h h' st k => st.at fun o e => k it (by simp) o e
  item := by
    intro X hP hw hK hc i pins s σ H E I hf st hg
    subst hP hw hK
    obtain ⟨xs, x, hq, hx⟩ := hg
    obtain ⟨its, rv, p, hz⟩ := I.tuple hq
    obtain ⟨u, hu, ru⟩ := rv.get hx
    obtain ⟨f0, f1, f2, f3, f4, f5⟩ := hf it (by simp)
    refine wpAny_pyNext_tuple_item st (show s.heap.IsTuple a its.toArray from p) (x := u) (by simpa using hu) fun h' st' sb => ?_
    have I1 : Inv X pins σ H { s with heap := h' } := I.turned (t' := s.toks) (fun b o hb e => (sb.2 b hb).trans e) f0 f1 f3 f4 f5
    obtain ⟨o, e, c, d⟩ := id st'
    exact ⟨u, rfl, go_of (s := { s with heap := h' }) e c d (by decide) ⟨x, H, I1, ru, ⟨rfl, fun ys hy => by rw [I.tuple_inj hy hq]; exact hx⟩, st', fun b hb => (hf b hb).1⟩⟩
  done := by
    intro X hP hw hK hc i pins s σ H E I hf st hg
    subst hP hw hK
    obtain ⟨xs, hq, hx⟩ := hg
    obtain ⟨its, rv, p, hz⟩ := I.tuple hq
    obtain ⟨f0, f1, f2, f3, f4, f5⟩ := hf it (by simp)
    have hl := rv.length
    exact wpAny_pyNext_tuple_end (I.ok.hd hc) st (show s.heap.IsTuple a its.toArray from p) (by simp; omega) fun h' eb => ⟨rfl, I.turned (t' := s.toks) (fun b o hb e => eb b o hb e) f0 f1 f3 f4 f5⟩
  self := fun _ _ _ _ _ st h => wpAny_pyIter_tupleiter st h
theorem turn_range {P : Program} {w : World} {K : PySem.W.Frag} {tg : Expr} (it : Addr) (lo : Int) (n : Nat) : Turn P w K tg (Itr lo n) [it] it (fun i h => IsRangeIter h it (lo + (i : Nat) * 1) ((n : Int) - (i : Nat)) 1) where
  mem := by simp
  obj := fun i h st b hb => by
    have e : b = it := by simpa using hb
    subst e
    exact ⟨_, st, fun v z => by
      have z' : Data.fields _ = Data.cell v := z
      cases z'⟩
  keep := fun i h h' st k => k it (by simp) _ st
  item := by
    intro X hP hw hK hc i pins s σ H E I hf st hg
    subst hP hw hK
    obtain ⟨f0, f1, f2, f3, f4, f5⟩ := hf it (by simp)
    have W := Walks.range (prog := X.prog) (w := X.w) (I.ok.hd hc) it lo 1 n
    refine W.item i s _ _ hg st fun v h' tk hv st' kk => ?_
    obtain ⟨t, rfl⟩ := hv
    have I1 : Inv X pins σ H { s with heap := h', toks := tk } := I.turned (fun b o hb e => kk b o (by simpa using hb) e) f0 f1 f3 f4 f5
    refine ⟨_, rfl, go_of (s := { s with heap := h', toks := tk }) (n := "range_iterator") st' rfl rfl (by decide) ⟨.int (lo + i), H, I1, ⟨t, ?_⟩, ⟨rfl, rfl⟩, st', fun b hb => (hf b hb).1⟩⟩
    rw [Int.mul_one]
  done := by
    intro X hP hw hK hc i pins s σ H E I hf st hg
    subst hP hw hK
    obtain ⟨f0, f1, f2, f3, f4, f5⟩ := hf it (by simp)
    exact wpAny_pyNext_range_end (I.ok.hd hc) st (by have : n ≤ i := hg; omega) fun h' eb => ⟨rfl, I.turned (t' := s.toks) (fun b o hb e => eb b o hb e) f0 f1 f3 f4 f5⟩
  self := fun _ _ _ _ _ st h => wpAny_pyIter_rangeiter st h
end L2

namespace L2
open PySem PySem.Spec PyProof.Rows
section
variable {X : Cx} {tg : Expr}
def iList (K : PySem.W.Frag) (tl : TE) : TI := fun σ H R => tl σ H fun x H1 => ∃ a, x = .ref a ∧ (∃ xs, SqL K H1 a xs) ∧ R (Itl K a) H1
def iTup (K : PySem.W.Frag) (tl : TE) : TI := fun σ H R => tl σ H fun x H1 => ∃ a, x = .ref a ∧ (∃ xs, SqT K H1 a xs) ∧ R (Itt K a) H1
theorem pi_list {l : Expr} {tl : TE} (hl : PE X l tl) : PI X tg l (iList X.K tl) := by
  intro pins s σ H R I h
  refine thn (hl pins s σ H _ I h) fun v s1 ⟨x, H1, I1, r1, q1⟩ => ?_
  obtain ⟨a, e, ⟨xs, hq⟩, q⟩ := q1
  subst e
  cases r1
  obtain ⟨its, rv, p, hz⟩ := I1.list hq
  refine wpAny_pyIter_list p.isList ?_
  refine ⟨s1.heap.objs.size, [s1.heap.objs.size], _, _, H1, rfl, I1.kept (t' := s1.toks) fun b o e => Heap.get?_push_of_some _ e, turn_list a _, ⟨_, Heap.get?_push_size _ rfl, rfl, rfl⟩, fun b hb => ?_, q⟩
  have e : b = s1.heap.objs.size := by simpa using hb
  subst e
  exact I1.fpOk (Nat.le_refl _) (I1.hok.fresh (Nat.le_refl _))
theorem pi_tup {l : Expr} {tl : TE} (hl : PE X l tl) : PI X tg l (iTup X.K tl) := by
  intro pins s σ H R I h
  refine thn (hl pins s σ H _ I h) fun v s1 ⟨x, H1, I1, r1, q1⟩ => ?_
  obtain ⟨a, e, ⟨xs, hq⟩, q⟩ := q1
  subst e
  cases r1
  obtain ⟨its, rv, p, hz⟩ := I1.tuple hq
  refine wpAny_pyIter_tuple (show s1.heap.IsTuple a its.toArray from p) ?_
  refine ⟨s1.heap.objs.size, [s1.heap.objs.size], _, _, H1, rfl, I1.kept (t' := s1.toks) fun b o e => Heap.get?_push_of_some _ e, turn_tuple a _, ⟨_, Heap.get?_push_size _ rfl, rfl, rfl⟩, fun b hb => ?_, q⟩
  have e : b = s1.heap.objs.size := by simpa using hb
  subst e
  exact I1.fpOk (Nat.le_refl _) (I1.hok.fresh (Nat.le_refl _))
/-- a range object just made, walked -/
theorem range_it {pins : List (Addr × Obj)} {σ : St} {H : Hp} {s : Shared} {R : It → Hp → Prop} {E : Value → Shared → Prop} {lo hi : Int} {t u v : Tok} {tk : Nat} (I : Inv X pins σ H s) (h1 : -(2 ^ 62) ≤ lo) (h2 : lo < 2 ^ 62) (h3 : -(2 ^ 62) ≤ hi) (h4 : hi < 2 ^ 62)
    (q : R (Itr lo (hi - lo).toNat) H) : wpAny (model X.prog X.w) X.A (pyIter (.ref s.heap.objs.size)) (PIE X pins σ tg R) E { s with heap := s.heap.push { cls := .type "range", data := .fields #[.int lo t, .int hi u, .int 1 v] }, toks := tk } := by
  refine wpAny_pyIter_range (IsRange.new ..) (small_one h1 h2 h3 h4) ?_
  have I1 : Inv X pins σ H { s with heap := s.heap.push { cls := .type "range", data := .fields #[.int lo t, .int hi u, .int 1 v] }, toks := tk } := I.kept fun b o e => Heap.get?_push_of_some _ e
  refine ⟨(s.heap.push { cls := .type "range", data := .fields #[.int lo t, .int hi u, .int 1 v] }).objs.size, [(s.heap.push { cls := .type "range", data := .fields #[.int lo t, .int hi u, .int 1 v] }).objs.size], _, _, H, rfl,
    I1.kept (t' := tk) fun b o e => Heap.get?_push_of_some _ e, turn_range _ lo (hi - lo).toNat, ?_, fun b hb => ?_, q⟩
  · have e1 : lo + ((0 : Nat) : Int) * 1 = lo := by simp
    have e2 : (((hi - lo).toNat : Nat) : Int) - ((0 : Nat) : Int) = Builtin.Range.rangeSize lo hi 1 := by rw [rangeSize_one]; split <;> omega
    show IsRangeIter _ _ (lo + ((0 : Nat) : Int) * 1) ((((hi - lo).toNat : Nat) : Int) - ((0 : Nat) : Int)) 1
    rw [e1, e2]
    exact Heap.get?_push_size _ rfl
  · have e : b = (s.heap.push { cls := .type "range", data := .fields #[.int lo t, .int hi u, .int 1 v] }).objs.size := by simpa using hb
    subst e
    exact I1.fpOk (Nat.le_refl _) (I1.hok.fresh (Nat.le_refl _))
def iRng1 (ta : TA) : TI := fun σ H R => ta σ H fun vs H1 => ∃ j : Int, vs = [.int j] ∧ -(2 ^ 62) ≤ j ∧ j < 2 ^ 62 ∧ R (Itr 0 j.toNat) H1
def iRng2 (ta : TA) : TI := fun σ H R => ta σ H fun vs H1 => ∃ i j : Int, vs = [.int i, .int j] ∧ (-(2 ^ 62) ≤ i ∧ i < 2 ^ 62 ∧ -(2 ^ 62) ≤ j ∧ j < 2 ^ 62) ∧ R (Itr i (j - i).toNat) H1
theorem pi_range1 {a : Expr} {ta : TA} {p pos : Pos} (hg : Gl X "range") (hm : X.mg "range" = none) (ha : PA X [a] ta) (hs : starEach [a] X.env = [(false, eval a X.env)] := by rfl) : PI X tg (.Call (.Name "range" p) [a] [] pos) (iRng1 ta) := by
  intro pins s σ H R I h
  refine Call_ (ld_blt I hg hm boot_range (PyProof.Rows.callWith_type1 (thn (ha pos pins s σ H _ I h) fun us s1 ⟨vs, H1, I1, r1, q1⟩ => ?_) hs rfl))
  obtain ⟨j, e, q1, q2, q⟩ := q1
  subst e
  cases r1 with
  | cons r rr =>
    cases rr
    obtain ⟨t, rfl⟩ := r
    exact call_range_1 (range_it I1 (by omega) (by omega) q1 q2 (by simpa using q))
theorem pi_range2 {a b : Expr} {ta : TA} {p pos : Pos} (hg : Gl X "range") (hm : X.mg "range" = none) (ha : PA X [a, b] ta) (hs : starEach [a, b] X.env = [(false, eval a X.env), (false, eval b X.env)] := by rfl) (hs2 : starEach [b] X.env = [(false, eval b X.env)] := by rfl) :
    PI X tg (.Call (.Name "range" p) [a, b] [] pos) (iRng2 ta) := by
  intro pins s σ H R I h
  refine Call_ (ld_blt I hg hm boot_range (PyProof.Rows.callWith_type1 (thn (ha pos pins s σ H _ I h) fun us s1 ⟨vs, H1, I1, r1, q1⟩ => ?_) (by rw [hs, hs2]) (by rw [hs2]; rfl)))
  obtain ⟨i, j, e, ⟨q1, q2, q3, q4⟩, q⟩ := q1
  subst e
  cases r1 with
  | cons r rr =>
    cases rr with
    | cons r' rr =>
      cases rr
      obtain ⟨t, rfl⟩ := r
      obtain ⟨t', rfl⟩ := r'
      exact call_range_2 (range_it I1 q1 q2 q3 q4 q)

/-! ### for -/
/-- W: the invariant by the turn and a measure; N: what the body is to reach -/
def tFor (wi : TI) (g : TG) (tb : TS) : TS := fun D σ H => wi σ H fun J H1 => ∃ W : Nat → Nat → St → Hp → Prop, (∃ m, W 0 m σ H1) ∧ ∀ i m σ H, W i m σ H →
  (J.stop i H ∧ D.nx σ H) ∨ (J.go i H ∧ ∃ N : St → Hp → Prop, (∀ σ' H', N σ' H' → ∃ m', m' < m ∧ W (i + 1) m' σ' H') ∧ ∀ x H', J.yld i H x H' → g x σ H' fun σ2 H2 => tb { D with nx := N, ct := N, bk := D.nx } σ2 H2)
/-- the records at fp as they stand -/
def pinsAt (fp : List Addr) (h : Heap) : List (Addr × Obj) := fp.filterMap fun b => (h.get? b).map fun o => (b, o)
theorem mem_pinsAt {fp : List Addr} {h : Heap} {b : Addr} {o : Obj} (hb : b ∈ fp) (e : h.get? b = some o) : (b, o) ∈ pinsAt fp h := List.mem_filterMap.mpr ⟨b, hb, by rw [e]; rfl⟩
theorem of_pinsAt {fp : List Addr} {h : Heap} {p : Addr × Obj} (hp : p ∈ pinsAt fp h) : p.1 ∈ fp ∧ h.get? p.1 = some p.2 := by
  obtain ⟨b, hb, e⟩ := List.mem_filterMap.mp hp
  cases q : h.get? b with
  | none => rw [q] at e; cases e
  | some o =>
    rw [q] at e
    have e' : (b, o) = p := Option.some.inj e
    subst e'
    exact ⟨hb, q⟩
theorem Inv.pinned {pins : List (Addr × Obj)} {σ : St} {H : Hp} {s : Shared} {fp : List Addr} (I : Inv X pins σ H s) (hf : ∀ b ∈ fp, FpOk X pins H b) (ho : ∀ b ∈ fp, ∃ o, s.heap.get? b = some o ∧ ∀ v, o.data ≠ .cell v) : Inv X (pins ++ pinsAt fp s.heap) σ H s :=
  I.pins_of fun p hp => (List.mem_append.mp hp).elim (fun z => I.pin p (List.mem_append_right _ z)) fun z => by
    obtain ⟨hb, e⟩ := of_pinsAt z
    obtain ⟨f0, f1, f2, _⟩ := hf p.1 hb
    obtain ⟨o, e', d⟩ := ho p.1 hb
    rw [e] at e'; cases e'
    exact ⟨e, f0, f1, f2, d⟩
theorem Inv.unpinned {pins pl : List (Addr × Obj)} {σ : St} {H : Hp} {s : Shared} (I : Inv X (pins ++ pl) σ H s) : Inv X pins σ H s := I.pins_of fun p hp => I.pin p (List.mem_append_right _ (List.mem_append_left _ hp))
theorem ps_for {iter : Expr} {body : List Stmt} {wi : TI} {g : TG} {tb : TS} {pos : Pos} (hp : PassesOwn (model X.prog X.w) X.A X.env X.xe) (hc : X.calm = true) (hi : PI X tg iter wi) (hg : PG X tg g) (hb : PSs X body tb)
    (hs : ∀ x, foldedSetIterable iter X.env x = pure x := by intro _; rfl) : PS X (.For tg iter body [] pos) (tFor wi g tb) := by
  intro pins s σ H D I h
  refine wpAny_For (thn (hi pins s σ H _ I h) fun v s1 h1 => thn h1 fun itv s2 h2 => ?_) hs
  obtain ⟨it, fp, tn, J, H2, e, I2, T, st2, f2, W, ⟨m0, w0⟩, turn⟩ := h2
  subst e
  -- what stays true of the iterator's objects through the loop
  have stat : ∀ {H' : Hp}, (∀ b ∈ fp, H' b = none) → ∀ b ∈ fp, FpOk X pins H' b := fun hn b hb => ⟨hn b hb, (f2 b hb).2⟩
  refine codeAny_forLoop_any (fun n s' => ∃ i σ' H', Inv X pins σ' H' s' ∧ tn i s'.heap ∧ (∀ b ∈ fp, H' b = none) ∧ W i n σ' H') ?_ m0 ⟨0, σ, H2, I2, st2, fun b hb => (f2 b hb).1, w0⟩
  rintro n s3 ⟨i, σ3, H3, I3, st3, fr3, w3⟩
  rcases turn i n σ3 H3 w3 with ⟨stop, qn⟩ | ⟨go, N, hN, step⟩
  · refine wpAny_passesOwn hp (thn (T.done X rfl rfl rfl hc i pins s3 σ3 H3 X.xe I3 (stat fr3) st3 stop) fun r s4 ⟨hr, I4⟩ => ?_)
    subst hr
    exact wpAny_execs_nil ⟨σ3, H3, I4, qn⟩
  · refine wpAny_passesOwn hp (thn (T.item X rfl rfl rfl hc i pins s3 σ3 H3 X.xe I3 (stat fr3) st3 go) fun r s4 ⟨u, hr, h4⟩ => ?_)
    subst hr
    refine wpAny_passesOwn hp (thn h4 fun _ s5 ⟨x, H5, I5, r5, y5, st5, fr5⟩ => ?_)
    have I5' := I5.pinned (stat fr5) (T.obj _ _ st5)
    refine wpAny_passesOwn hp (thn (hg _ s5 σ3 H5 x u _ I5' r5 (step x H5 y5)) fun _ s6 ⟨σ6, H6, I6, q6⟩ => ?_)
    refine wpAny_passesOwn hp (thn (hb _ s6 σ6 H6 _ I6 q6) fun f s7 q7 => ?_)
    have again : ∀ {σ7 : St} {H7 : Hp}, Inv X (pins ++ pinsAt fp s5.heap) σ7 H7 s7 → N σ7 H7 → ∃ m, m < n ∧ ∃ i σ' H', Inv X pins σ' H' s7 ∧ tn i s7.heap ∧ (∀ b ∈ fp, H' b = none) ∧ W i m σ' H' := fun {σ7 H7} I7 n7 => by
      obtain ⟨m', hm, w7⟩ := hN σ7 H7 n7
      refine ⟨m', hm, i + 1, σ7, H7, I7.unpinned, T.keep _ _ _ st5 fun b hb o e => (I7.pin (b, o) (List.mem_append_right _ (List.mem_append_right _ (mem_pinsAt hb e)))).1, fun b hb => ?_, w7⟩
      obtain ⟨o, e, d⟩ := T.obj _ _ st5 b hb
      exact (I7.pin (b, o) (List.mem_append_right _ (List.mem_append_right _ (mem_pinsAt hb e)))).2.1
    cases f with
    | next => obtain ⟨σ7, H7, I7, n7⟩ := q7; exact again I7 n7
    | cont => obtain ⟨σ7, H7, I7, n7⟩ := q7; exact again I7 n7
    | brk => obtain ⟨σ7, H7, I7, q7⟩ := q7; exact ⟨σ7, H7, I7.unpinned, q7⟩
    | ret v => obtain ⟨x7, σ7, H7, I7, r7, q7⟩ := q7; exact ⟨x7, σ7, H7, I7.unpinned, r7, q7⟩
end

/-! ### the forms one uses -/
/-- over a list that the body leaves as it is -/
theorem for_list {K : PySem.W.Frag} {a : Addr} {xs : List V} {g : TG} {tb : TS} {D : Ends} {σ : St} {H : Hp} (Pv : Nat → St → Hp → Prop) (h0 : Pv 0 σ H) (hl : ∀ i σ H, i ≤ xs.length → Pv i σ H → SqL K H a xs)
    (hs : ∀ i x σ H, xs[i]? = some x → Pv i σ H → g x σ H fun σ2 H2 => tb { D with nx := Pv (i + 1), ct := Pv (i + 1), bk := D.nx } σ2 H2) (hd : ∀ σ H, Pv xs.length σ H → D.nx σ H) :
    ∃ W : Nat → Nat → St → Hp → Prop, (∃ m, W 0 m σ H) ∧ ∀ i m σ H, W i m σ H →
      ((Itl K a).stop i H ∧ D.nx σ H) ∨ ((Itl K a).go i H ∧ ∃ N : St → Hp → Prop, (∀ σ' H', N σ' H' → ∃ m', m' < m ∧ W (i + 1) m' σ' H') ∧ ∀ x H', (Itl K a).yld i H x H' → g x σ H' fun σ2 H2 => tb { D with nx := N, ct := N, bk := D.nx } σ2 H2) := by
  refine ⟨fun i m σ H => m = xs.length - i ∧ i ≤ xs.length ∧ Pv i σ H, ⟨xs.length, by simp, Nat.zero_le _, h0⟩, ?_⟩
  rintro i m σ H ⟨rfl, hi, p⟩
  have q := hl i σ H hi p
  by_cases hlt : i < xs.length
  · refine .inr ⟨⟨xs, xs[i], q, by simp [hlt]⟩, Pv (i + 1), fun σ' H' p' => ⟨xs.length - (i + 1), by omega, rfl, hlt, p'⟩, fun x H' y => ?_⟩
    obtain ⟨e, y⟩ := y
    subst e
    exact hs i x σ _ (y xs q) p
  · have e : i = xs.length := by omega
    subst e
    exact .inl ⟨⟨xs, q, Nat.le_refl _⟩, hd σ H p⟩
theorem for_tup {K : PySem.W.Frag} {a : Addr} {xs : List V} {g : TG} {tb : TS} {D : Ends} {σ : St} {H : Hp} (Pv : Nat → St → Hp → Prop) (h0 : Pv 0 σ H) (hl : ∀ i σ H, i ≤ xs.length → Pv i σ H → SqT K H a xs)
    (hs : ∀ i x σ H, xs[i]? = some x → Pv i σ H → g x σ H fun σ2 H2 => tb { D with nx := Pv (i + 1), ct := Pv (i + 1), bk := D.nx } σ2 H2) (hd : ∀ σ H, Pv xs.length σ H → D.nx σ H) :
    ∃ W : Nat → Nat → St → Hp → Prop, (∃ m, W 0 m σ H) ∧ ∀ i m σ H, W i m σ H →
      ((Itt K a).stop i H ∧ D.nx σ H) ∨ ((Itt K a).go i H ∧ ∃ N : St → Hp → Prop, (∀ σ' H', N σ' H' → ∃ m', m' < m ∧ W (i + 1) m' σ' H') ∧ ∀ x H', (Itt K a).yld i H x H' → g x σ H' fun σ2 H2 => tb { D with nx := N, ct := N, bk := D.nx } σ2 H2) := by
  refine ⟨fun i m σ H => m = xs.length - i ∧ i ≤ xs.length ∧ Pv i σ H, ⟨xs.length, by simp, Nat.zero_le _, h0⟩, ?_⟩
  rintro i m σ H ⟨rfl, hi, p⟩
  have q := hl i σ H hi p
  by_cases hlt : i < xs.length
  · refine .inr ⟨⟨xs, xs[i], q, by simp [hlt]⟩, Pv (i + 1), fun σ' H' p' => ⟨xs.length - (i + 1), by omega, rfl, hlt, p'⟩, fun x H' y => ?_⟩
    obtain ⟨e, y⟩ := y
    subst e
    exact hs i x σ _ (y xs q) p
  · have e : i = xs.length := by omega
    subst e
    exact .inl ⟨⟨xs, q, Nat.le_refl _⟩, hd σ H p⟩
theorem for_range {lo : Int} {n : Nat} {g : TG} {tb : TS} {D : Ends} {σ : St} {H : Hp} (Pv : Nat → St → Hp → Prop) (h0 : Pv 0 σ H)
    (hs : ∀ i σ H, i < n → Pv i σ H → g (.int (lo + i)) σ H fun σ2 H2 => tb { D with nx := Pv (i + 1), ct := Pv (i + 1), bk := D.nx } σ2 H2) (hd : ∀ σ H, Pv n σ H → D.nx σ H) :
    ∃ W : Nat → Nat → St → Hp → Prop, (∃ m, W 0 m σ H) ∧ ∀ i m σ H, W i m σ H →
      ((Itr lo n).stop i H ∧ D.nx σ H) ∨ ((Itr lo n).go i H ∧ ∃ N : St → Hp → Prop, (∀ σ' H', N σ' H' → ∃ m', m' < m ∧ W (i + 1) m' σ' H') ∧ ∀ x H', (Itr lo n).yld i H x H' → g x σ H' fun σ2 H2 => tb { D with nx := N, ct := N, bk := D.nx } σ2 H2) := by
  refine ⟨fun i m σ H => m = n - i ∧ i ≤ n ∧ Pv i σ H, ⟨n, by simp, Nat.zero_le _, h0⟩, ?_⟩
  rintro i m σ H ⟨rfl, hi, p⟩
  by_cases hlt : i < n
  · refine .inr ⟨hlt, Pv (i + 1), fun σ' H' p' => ⟨n - (i + 1), by omega, rfl, hlt, p'⟩, fun x H' y => ?_⟩
    obtain ⟨e, y⟩ := y
    subst e y
    exact hs i σ _ hlt p
  · have e : i = n := by omega
    subst e
    exact .inl ⟨Nat.le_refl _, hd σ H p⟩
/-- while, by a word and a measure of the state -/
theorem while_by {c : TT} {tb : TS} {D : Ends} {σ : St} {H : Hp} (Pv : St → Hp → Prop) (μ : St → Hp → Nat) (h0 : Pv σ H)
    (hs : ∀ σ H, Pv σ H → c σ H fun b H1 => if b = true then tb { D with nx := fun σ' H' => Pv σ' H' ∧ μ σ' H' < μ σ H, ct := fun σ' H' => Pv σ' H' ∧ μ σ' H' < μ σ H, bk := D.nx } σ H1 else D.nx σ H1)
    (mono : ∀ σ H Q Q', (∀ b H1, Q b H1 → Q' b H1) → c σ H Q → c σ H Q') : tWhile c tb D σ H := by
  refine ⟨fun m σ H => m = μ σ H ∧ Pv σ H, ⟨_, rfl, h0⟩, ?_⟩
  rintro m σ H ⟨rfl, p⟩
  refine mono σ H _ _ (fun b H1 q => ?_) (hs σ H p)
  cases b with
  | true => exact ⟨_, fun σ' H' ⟨p', l⟩ => ⟨_, l, rfl, p'⟩, q⟩
  | false => exact q
end L2

namespace L2
open PySem PySem.Spec PyProof.Rows

abbrev R2 := V → V → Hp → VK → Prop
/-- a two-place operation on values: f is binaryOp op, inplaceOp op or compareOp op -/
def OpR (X : Cx) (f : Value → Value → Sem Value) (r : R2) : Prop :=
  ∀ (pins : List (Addr × Obj)) (s : Shared) (σ : St) (H : Hp) (x y : V) (v u : Value) (Q : VK), Inv X pins σ H s → RelV x v → RelV y u → r x y H Q →
    wpAny (model X.prog X.w) X.A (f v u) (EP X pins σ Q) X.xe s
/-- a one-place operation -/
def UnR (X : Cx) (f : Value → Sem Value) (r : V → Hp → VK → Prop) : Prop :=
  ∀ (pins : List (Addr × Obj)) (s : Shared) (σ : St) (H : Hp) (x : V) (v : Value) (Q : VK), Inv X pins σ H s → RelV x v → r x H Q →
    wpAny (model X.prog X.w) X.A (f v) (EP X pins σ Q) X.xe s
/-- a call of a value that is known (a builtin, a type) with values -/
def CallR (X : Cx) (f : Value) (r : List V → Hp → VK → Prop) : Prop :=
  ∀ (pins : List (Addr × Obj)) (s : Shared) (σ : St) (H : Hp) (xs : List V) (us : List Value) (Q : VK), Inv X pins σ H s → Vals xs us → r xs H Q →
    wpAny (model X.prog X.w) X.A (call f us) (EP X pins σ Q) X.xe s
/-- a value's truth -/
def TruR (X : Cx) (r : V → Hp → (Bool → Hp → Prop) → Prop) : Prop :=
  ∀ (pins : List (Addr × Obj)) (s : Shared) (σ : St) (H : Hp) (x : V) (v : Value) (Q : Bool → Hp → Prop), Inv X pins σ H s → RelV x v → r x H Q →
    wpAny (model X.prog X.w) X.A (truthy v) (TP X pins σ Q) X.xe s

def tOp (r : R2) (ta tb : TE) : TE := fun σ H Q => ta σ H fun x H1 => tb σ H1 fun y H2 => r x y H2 Q
def tUn (r : V → Hp → VK → Prop) (ta : TE) : TE := fun σ H Q => ta σ H fun x H1 => r x H1 Q
/-- ints in, under C, and a value out -/
def rI (C : Int → Int → Prop) (g : Int → Int → V) : R2 := fun x y H Q => ∃ i j, x = .int i ∧ y = .int j ∧ C i j ∧ Q (g i j) H
def rI0 (g : Int → Int → V) : R2 := fun x y H Q => ∃ i j, x = .int i ∧ y = .int j ∧ Q (g i j) H
def rU (g : Int → V) : V → Hp → VK → Prop := fun x H Q => ∃ i, x = .int i ∧ Q (g i) H

section
variable {X : Cx} {a b c : Expr} {ta tb tc : TE} {pos : Pos}

theorem binT (ha : PE X a ta) (hb : PE X b tb) {pins : List (Addr × Obj)} {s : Shared} {σ : St} {H : Hp} {R : V → V → Hp → Prop} (I : Inv X pins σ H s)
    (h : ta σ H fun x H1 => tb σ H1 fun y H2 => R x y H2) {Q : Value → Shared → Prop} {f : Value → Value → Sem Value}
    (hf : ∀ v u s2 x y H2, Inv X pins σ H2 s2 → RelV x v → RelV y u → R x y H2 → wpAny (model X.prog X.w) X.A (f v u) Q X.xe s2) :
    wpAny (model X.prog X.w) X.A (eval a X.env) (fun v s₁ => wpAny (model X.prog X.w) X.A (eval b X.env) (fun u s₂ => wpAny (model X.prog X.w) X.A (f v u) Q X.xe s₂) X.xe s₁) X.xe s := by
  refine thn (ha pins s σ H _ I h) fun v s1 ⟨x, H1, I1, r1, q1⟩ => ?_
  refine thn (hb pins s1 σ H1 _ I1 q1) fun u s2 ⟨y, H2, I2, r2, q2⟩ => ?_
  exact hf v u s2 x y H2 I2 r1 r2 q2

theorem pe_op {op : Operator} {r : R2} (ho : OpR X (binaryOp op) r) (ha : PE X a ta) (hb : PE X b tb) : PE X (.BinOp a op b pos) (tOp r ta tb) := by
  intro pins s σ H Q I h
  exact wpAny_BinOp (binT ha hb I h fun v u s2 x y H2 I2 rx ry q => ho pins s2 σ H2 x y v u Q I2 rx ry q)
theorem pe_un {op : UnaryOp} {r : V → Hp → VK → Prop} (ho : UnR X (unaryOp op) r) (ha : PE X a ta) : PE X (.UnaryOp op a pos) (tUn r ta) := by
  intro pins s σ H Q I h
  exact UnaryOp_ (thn (ha pins s σ H _ I h) fun v s1 ⟨x, H1, I1, r1, q1⟩ => ho pins s1 σ H1 x v Q I1 r1 q1)
/-- a op= e at a name: the name's slot i -/
theorem augR {op : Operator} {r : R2} (ho : OpR X (inplaceOp op) r) {pins : List (Addr × Obj)} {s : Shared} {σ : St} {H : Hp} {x y : V} {v u : Value} {Q : VK} (I : Inv X pins σ H s)
    (rx : RelV x v) (ry : RelV y u) (q : r x y H Q) : wpAny (model X.prog X.w) X.A (inplaceOp op v u) (EP X pins σ Q) X.xe s := ho pins s σ H x y v u Q I rx ry q

/-! ### ints -/
theorem opI {f : Value → Value → Sem Value} {C : Int → Int → Prop} {g : Int → Int → Int}
    (rule : ∀ (i j : Int) (t u : Tok) (s : Shared) (Q : Value → Shared → Prop) (E : Value → Shared → Prop), C i j → Q (.int (g i j) s.toks) { s with toks := s.toks + 1 } → wpAny (model X.prog X.w) X.A (f (.int i t) (.int j u)) Q E s) :
    OpR X f (rI C fun i j => .int (g i j)) := by
  intro pins s σ H x y v u Q I rx ry h
  obtain ⟨i, j, rfl, rfl, hc, q⟩ := h
  obtain ⟨t, rfl⟩ := rx
  obtain ⟨t', rfl⟩ := ry
  exact rule i j t t' s _ _ hc ⟨.int (g i j), H, I.tok _, ⟨_, rfl⟩, q⟩
theorem opI0 {f : Value → Value → Sem Value} {g : Int → Int → Int}
    (rule : ∀ (i j : Int) (t u : Tok) (s : Shared) (Q : Value → Shared → Prop) (E : Value → Shared → Prop), Q (.int (g i j) s.toks) { s with toks := s.toks + 1 } → wpAny (model X.prog X.w) X.A (f (.int i t) (.int j u)) Q E s) :
    OpR X f (rI0 fun i j => .int (g i j)) := by
  intro pins s σ H x y v u Q I rx ry h
  obtain ⟨i, j, rfl, rfl, q⟩ := h
  obtain ⟨t, rfl⟩ := rx
  obtain ⟨t', rfl⟩ := ry
  exact rule i j t t' s _ _ ⟨.int (g i j), H, I.tok _, ⟨_, rfl⟩, q⟩
theorem opB0 {f : Value → Value → Sem Value} {g : Int → Int → Bool}
    (rule : ∀ (i j : Int) (t u : Tok) (s : Shared) (Q : Value → Shared → Prop) (E : Value → Shared → Prop), Q (.bool (g i j)) s → wpAny (model X.prog X.w) X.A (f (.int i t) (.int j u)) Q E s) :
    OpR X f (rI0 fun i j => .bl (g i j)) := by
  intro pins s σ H x y v u Q I rx ry h
  obtain ⟨i, j, rfl, rfl, q⟩ := h
  obtain ⟨t, rfl⟩ := rx
  obtain ⟨t', rfl⟩ := ry
  exact rule i j t t' s _ _ ⟨.bl (g i j), H, I, rfl, q⟩

def CDiv (i j : Int) : Prop := 0 < j ∧ j < 1073741824
def CDivN (i j : Int) : Prop := j ≠ 0 ∧ j.natAbs < 1073741824
def CPow (i j : Int) : Prop := 0 ≤ j ∧ j ≤ 1000000 ∧ i.natAbs < 2 ^ 64
def CMul (i j : Int) : Prop := (-(2 ^ 64) < i ∧ i < 2 ^ 64) ∨ (-(2 ^ 64) < j ∧ j < 2 ^ 64)
theorem CMul.ok {i j : Int} (h : CMul i j) : IntMulOk i j := by
  rcases h with ⟨h1, h2⟩ | ⟨h1, h2⟩
  · exact .of_left (intBits_le_64 h1 h2)
  · exact .of_right (intBits_le_64 h1 h2)
theorem two_pow_nn (k : Nat) : (0 : Int) ≤ 2 ^ k := by
  rw [two_pow_cast]
  exact Int.natCast_nonneg _

theorem op_add : OpR X (binaryOp .Add) (rI0 fun i j => .int (i + j)) := opI0 fun _ _ _ _ _ _ _ q => add_int q
theorem op_sub : OpR X (binaryOp .Sub) (rI0 fun i j => .int (i - j)) := opI0 fun _ _ _ _ _ _ _ q => sub_int q
theorem op_mul : OpR X (binaryOp .Mult) (rI CMul fun i j => .int (i * j)) := opI fun _ _ _ _ _ _ _ hc q => mul_int q hc.ok
/-- // by a positive divisor -/
theorem op_fdiv : OpR X (binaryOp .FloorDiv) (rI CDiv fun i j => .int (i / j)) := opI fun i j _ _ _ _ _ hc q => by
  have h1 : (0 : Int) < j := hc.1
  have h2 : j < 1073741824 := hc.2
  exact floordiv_int (by omega) (by rw [Int.fdiv_eq_ediv_of_nonneg i (by omega)]; exact q) (.inl (PyProof.noPylong_small (by omega)))
theorem op_fdivN : OpR X (binaryOp .FloorDiv) (rI CDivN fun i j => .int (i.fdiv j)) := opI fun _ _ _ _ _ _ _ hc q => floordiv_int hc.1 q (.inl (PyProof.noPylong_small hc.2))
/-- % by a positive divisor of any size -/
theorem op_mod : OpR X (binaryOp .Mod) (rI (fun _ j => 0 < j) fun i j => .int (i % j)) := opI fun i j _ _ _ _ _ hc q => by
  have h1 : (0 : Int) < j := hc
  exact mod_int' (by omega) (by rw [Int.fmod_eq_emod_of_nonneg i (by omega)]; exact q)
theorem op_modN : OpR X (binaryOp .Mod) (rI (fun _ j => j ≠ 0) fun i j => .int (i.fmod j)) := opI fun _ _ _ _ _ _ _ hc q => mod_int' hc q
theorem op_pow : OpR X (binaryOp .Pow) (rI CPow fun i j => .int (i ^ j.toNat)) := opI fun _ _ _ _ _ _ _ hc q => pow_int_small hc.1 hc.2.1 hc.2.2 q
theorem op_shl : OpR X (binaryOp .LShift) (rI CPow fun i j => .int (i * 2 ^ j.toNat)) := opI fun _ _ _ _ _ _ _ hc q => lshift_int_small hc.1 hc.2.1 hc.2.2 q
theorem op_shr : OpR X (binaryOp .RShift) (rI (fun _ j => 0 ≤ j) fun i j => .int (i / 2 ^ j.toNat)) := opI fun i j _ _ _ _ _ hc q =>
  rshift_int hc (by rw [Int.fdiv_eq_ediv_of_nonneg i (two_pow_nn _)]; exact q)
theorem op_and : OpR X (binaryOp .BitAnd) (rI0 fun i j => .int (Builtin.bitAnd i j)) := opI0 fun _ _ _ _ _ _ _ q => and_int q
theorem op_or : OpR X (binaryOp .BitOr) (rI0 fun i j => .int (Builtin.bitOr i j)) := opI0 fun _ _ _ _ _ _ _ q => or_int q
theorem op_xor : OpR X (binaryOp .BitXor) (rI0 fun i j => .int (Builtin.bitXor i j)) := opI0 fun _ _ _ _ _ _ _ q => xor_int q

theorem iop_add : OpR X (inplaceOp .Add) (rI0 fun i j => .int (i + j)) := opI0 fun _ _ _ _ _ _ _ q => iadd_int q
theorem iop_sub : OpR X (inplaceOp .Sub) (rI0 fun i j => .int (i - j)) := opI0 fun _ _ _ _ _ _ _ q => isub_int q
theorem iop_mul : OpR X (inplaceOp .Mult) (rI CMul fun i j => .int (i * j)) := opI fun _ _ _ _ _ _ _ hc q => imul_int q hc.ok
theorem iop_fdiv : OpR X (inplaceOp .FloorDiv) (rI CDiv fun i j => .int (i / j)) := opI fun i j _ _ _ _ _ hc q => by
  have h1 : (0 : Int) < j := hc.1
  have h2 : j < 1073741824 := hc.2
  exact ifloordiv_int (by omega) (by rw [Int.fdiv_eq_ediv_of_nonneg i (by omega)]; exact q) (.inl (PyProof.noPylong_small (by omega)))
theorem iop_mod : OpR X (inplaceOp .Mod) (rI (fun _ j => 0 < j) fun i j => .int (i % j)) := opI fun i j _ _ _ _ _ hc q => by
  have h1 : (0 : Int) < j := hc
  exact imod_int (by omega) (by rw [Int.fmod_eq_emod_of_nonneg i (by omega)]; exact q)
theorem iop_shl : OpR X (inplaceOp .LShift) (rI CPow fun i j => .int (i * 2 ^ j.toNat)) := opI fun _ _ _ _ _ _ _ hc q => ilshift_int_small hc.1 hc.2.1 hc.2.2 q
theorem iop_shr : OpR X (inplaceOp .RShift) (rI (fun _ j => 0 ≤ j) fun i j => .int (i / 2 ^ j.toNat)) := opI fun i j _ _ _ _ _ hc q =>
  irshift_int hc (by rw [Int.fdiv_eq_ediv_of_nonneg i (two_pow_nn _)]; exact q)
theorem iop_and : OpR X (inplaceOp .BitAnd) (rI0 fun i j => .int (Builtin.bitAnd i j)) := opI0 fun _ _ _ _ _ _ _ q => iand_int q
theorem iop_or : OpR X (inplaceOp .BitOr) (rI0 fun i j => .int (Builtin.bitOr i j)) := opI0 fun _ _ _ _ _ _ _ q => ior_int q
theorem iop_xor : OpR X (inplaceOp .BitXor) (rI0 fun i j => .int (Builtin.bitXor i j)) := opI0 fun _ _ _ _ _ _ _ q => ixor_int q

theorem unI {f : Value → Sem Value} {g : Int → Int}
    (rule : ∀ (i : Int) (t : Tok) (s : Shared) (Q : Value → Shared → Prop) (E : Value → Shared → Prop), Q (.int (g i) s.toks) { s with toks := s.toks + 1 } → wpAny (model X.prog X.w) X.A (f (.int i t)) Q E s) :
    UnR X f (rU fun i => .int (g i)) := by
  intro pins s σ H x v Q I rx h
  obtain ⟨i, rfl, q⟩ := h
  obtain ⟨t, rfl⟩ := rx
  exact rule i t s _ _ ⟨.int (g i), H, I.tok _, ⟨_, rfl⟩, q⟩
theorem un_neg : UnR X (unaryOp .USub) (rU fun i => .int (-i)) := unI fun _ _ _ _ _ q => neg_int q
theorem un_inv : UnR X (unaryOp .Invert) (rU fun i => .int (Builtin.bitNot i)) := unI fun _ _ _ _ _ q => invert_int q

/-! ### bools among ints: n += (a < b) -/
theorem op_add_ib : OpR X (binaryOp .Add) (fun x y H Q => ∃ i k, x = .int i ∧ y = .bl k ∧ Q (.int (i + b2i k)) H) := by
  intro pins s σ H x y v u Q I rx ry h
  obtain ⟨i, k, rfl, rfl, q⟩ := h
  obtain ⟨t, rfl⟩ := rx
  cases ry
  exact add_int_bool ⟨.int (i + b2i k), H, I.tok _, ⟨_, rfl⟩, q⟩
end

/-! ### comparisons -/
/-- the scalars that == tells apart as data does -/
def scal : V → V → Bool
  | .non, .non => true | .non, .int _ => true | .int _, .non => true | .non, .bl _ => true | .bl _, .non => true | .non, .str _ => true | .str _, .non => true
  | .int _, .int _ => true | .bl _, .bl _ => true | .str _, .str _ => true | .byt _, .byt _ => true
  | .int _, .str _ => true | .str _, .int _ => true | .bl _, .str _ => true | .str _, .bl _ => true
  | _, _ => false
def rEq : R2 := fun x y H Q => scal x y = true ∧ Q (.bl (decide (x = y))) H
def rNe : R2 := fun x y H Q => scal x y = true ∧ Q (.bl (!decide (x = y))) H

theorem dec_int {i j : Int} : decide (V.int i = V.int j) = (i == j) := by
  rw [Bool.eq_iff_iff]
  simp
theorem dec_bl {i j : Bool} : decide (V.bl i = V.bl j) = (i == j) := by
  rw [Bool.eq_iff_iff]
  simp
theorem dec_str {i j : Str} : decide (V.str i = V.str j) = (i == j) := by
  rw [Bool.eq_iff_iff]
  simp
theorem dec_byt {i j : Array UInt8} : decide (V.byt i = V.byt j) = (i.toList == j.toList) := by
  rw [Bool.eq_iff_iff]
  cases i
  cases j
  simp

section
variable {X : Cx} {a b c : Expr} {ta tb tc : TE} {pos : Pos}
theorem fin_bl {pins : List (Addr × Obj)} {σ : St} {H : Hp} {s : Shared} {Q : VK} {k k' : Bool} (I : Inv X pins σ H s) (q : Q (.bl k) H) (e : k = k') : EP X pins σ Q (.bool k') s := by
  subst e
  exact ⟨.bl k, H, I, rfl, q⟩
theorem op_eq : OpR X (compareOp .Eq) rEq := by
  intro pins s σ H x y v u Q I rx ry h
  obtain ⟨hs, q⟩ := h
  cases x with
  | non =>
    cases rx
    cases y with
    | non => cases ry; exact PySem.EqNone.eq_none_none (fin_bl I q (by simp))
    | bl j => cases ry; exact PySem.EqNone.eq_none_bool (fin_bl I q (by simp))
    | int j => obtain ⟨t', rfl⟩ := ry; exact PySem.EqNone.eq_none_int (fin_bl I q (by simp))
    | str j => obtain ⟨t', rfl⟩ := ry; exact PySem.EqNone.eq_none_str (fin_bl I q (by simp))
    | _ => exact absurd (show false = true from hs) Bool.false_ne_true
  | bl i =>
    cases rx
    cases y with
    | non => cases ry; exact PySem.EqNone.eq_bool_none (fin_bl I q (by simp))
    | bl j => cases ry; exact eq_bool (fin_bl I q dec_bl)
    | str j => obtain ⟨t', rfl⟩ := ry; exact PySem.EqMixed.eq_bool_str (fin_bl I q (by simp))
    | _ => exact absurd (show false = true from hs) Bool.false_ne_true
  | int i =>
    obtain ⟨t, rfl⟩ := rx
    cases y with
    | non => cases ry; exact PySem.EqNone.eq_int_none (fin_bl I q (by simp))
    | int j => obtain ⟨t', rfl⟩ := ry; exact eq_int (fin_bl I q dec_int)
    | str j => obtain ⟨t', rfl⟩ := ry; exact PySem.EqMixed.eq_int_str (fin_bl I q (by simp))
    | _ => exact absurd (show false = true from hs) Bool.false_ne_true
  | str i =>
    obtain ⟨t, rfl⟩ := rx
    cases y with
    | non => cases ry; exact PySem.EqNone.eq_str_none (fin_bl I q (by simp))
    | bl j => cases ry; exact PySem.EqMixed.eq_str_bool (fin_bl I q (by simp))
    | int j => obtain ⟨t', rfl⟩ := ry; exact PySem.EqMixed.eq_str_int (fin_bl I q (by simp))
    | str j => obtain ⟨t', rfl⟩ := ry; exact eq_str (fin_bl I q dec_str)
    | _ => exact absurd (show false = true from hs) Bool.false_ne_true
  | byt i =>
    obtain ⟨t, rfl⟩ := rx
    cases y with
    | byt j => obtain ⟨t', rfl⟩ := ry; exact PySem.W.eq_bytes (fin_bl I q dec_byt)
    | _ => exact absurd (show false = true from hs) Bool.false_ne_true
  | _ => cases y <;> exact absurd (show false = true from hs) Bool.false_ne_true
theorem op_ne : OpR X (compareOp .NotEq) rNe := by
  intro pins s σ H x y v u Q I rx ry h
  obtain ⟨hs, q⟩ := h
  cases x with
  | non =>
    cases rx
    cases y with
    | non => cases ry; exact PySem.EqNone.ne_none_none (fin_bl I q (by simp))
    | bl j => cases ry; exact PySem.EqNone.ne_none_bool (fin_bl I q (by simp))
    | int j => obtain ⟨t', rfl⟩ := ry; exact PySem.EqNone.ne_none_int (fin_bl I q (by simp))
    | str j => obtain ⟨t', rfl⟩ := ry; exact PySem.EqNone.ne_none_str (fin_bl I q (by simp))
    | _ => exact absurd (show false = true from hs) Bool.false_ne_true
  | bl i =>
    cases rx
    cases y with
    | non => cases ry; exact PySem.EqNone.ne_bool_none (fin_bl I q (by simp))
    | bl j => cases ry; exact ne_bool (fin_bl I q (congrArg not dec_bl))
    | str j => obtain ⟨t', rfl⟩ := ry; exact PySem.EqMixed.ne_bool_str (fin_bl I q (by simp))
    | _ => exact absurd (show false = true from hs) Bool.false_ne_true
  | int i =>
    obtain ⟨t, rfl⟩ := rx
    cases y with
    | non => cases ry; exact PySem.EqNone.ne_int_none (fin_bl I q (by simp))
    | int j => obtain ⟨t', rfl⟩ := ry; exact ne_int (fin_bl I q (congrArg not dec_int))
    | str j => obtain ⟨t', rfl⟩ := ry; exact PySem.EqMixed.ne_int_str (fin_bl I q (by simp))
    | _ => exact absurd (show false = true from hs) Bool.false_ne_true
  | str i =>
    obtain ⟨t, rfl⟩ := rx
    cases y with
    | non => cases ry; exact PySem.EqNone.ne_str_none (fin_bl I q (by simp))
    | bl j => cases ry; exact PySem.EqMixed.ne_str_bool (fin_bl I q (by simp))
    | int j => obtain ⟨t', rfl⟩ := ry; exact PySem.EqMixed.ne_str_int (fin_bl I q (by simp))
    | str j => obtain ⟨t', rfl⟩ := ry; exact ne_str (fin_bl I q (congrArg not dec_str))
    | _ => exact absurd (show false = true from hs) Bool.false_ne_true
  | byt i =>
    obtain ⟨t, rfl⟩ := rx
    cases y with
    | byt j => obtain ⟨t', rfl⟩ := ry; exact PySem.W.ne_bytes (fin_bl I q (congrArg not dec_byt))
    | _ => exact absurd (show false = true from hs) Bool.false_ne_true
  | _ => cases y <;> exact absurd (show false = true from hs) Bool.false_ne_true

theorem op_lt : OpR X (compareOp .Lt) (rI0 fun i j => .bl (decide (i < j))) := opB0 fun _ _ _ _ _ _ _ q => lt_int q
theorem op_le : OpR X (compareOp .LtE) (rI0 fun i j => .bl (decide (i ≤ j))) := opB0 fun _ _ _ _ _ _ _ q => le_int q
theorem op_gt : OpR X (compareOp .Gt) (rI0 fun i j => .bl (decide (j < i))) := opB0 fun _ _ _ _ _ _ _ q => gt_int q
theorem op_ge : OpR X (compareOp .GtE) (rI0 fun i j => .bl (decide (j ≤ i))) := opB0 fun _ _ _ _ _ _ _ q => ge_int q
theorem op_lt_str : OpR X (compareOp .Lt) (fun x y H Q => ∃ i j, x = .str i ∧ y = .str j ∧ Q (.bl (decide (i.cps.toList < j.cps.toList))) H) := by
  intro pins s σ H x y v u Q I rx ry h
  obtain ⟨i, j, rfl, rfl, q⟩ := h
  obtain ⟨t, rfl⟩ := rx
  obtain ⟨t', rfl⟩ := ry
  exact lt_str (fin_bl I q rfl)
/-- the one string within the other -/
theorem op_in_str : OpR X (compareOp .In) (fun x y H Q => ∃ i j, x = .str i ∧ y = .str j ∧ Q (.bl (!(Builtin.Str.occurrences j i 0 j.length 1).isEmpty)) H) := by
  intro pins s σ H x y v u Q I rx ry h
  obtain ⟨i, j, rfl, rfl, q⟩ := h
  obtain ⟨t, rfl⟩ := rx
  obtain ⟨t', rfl⟩ := ry
  exact in_str (fin_bl I q rfl)

/-- is None, is not None: the right side a value none -/
theorem op_isN : OpR X (compareOp .Is) (fun x y H Q => y = .non ∧ Q (.bl (decide (x = .non))) H) := by
  intro pins s σ H x y v u Q I rx ry h
  obtain ⟨rfl, q⟩ := h
  cases ry
  refine is_none_gen (fin_bl I q ?_)
  cases x <;> first
    | (cases rx; rfl)
    | (obtain ⟨t, rfl⟩ := rx; rfl)
theorem op_notN : OpR X (compareOp .IsNot) (fun x y H Q => y = .non ∧ Q (.bl (!decide (x = .non))) H) := by
  intro pins s σ H x y v u Q I rx ry h
  obtain ⟨rfl, q⟩ := h
  cases ry
  refine isnot_none_gen (fin_bl I q ?_)
  cases x <;> first
    | (cases rx; rfl)
    | (obtain ⟨t, rfl⟩ := rx; rfl)

theorem op_notin_str : OpR X (compareOp .NotIn) (fun x y H Q => ∃ i j, x = .str i ∧ y = .str j ∧ Q (.bl (!(!(Builtin.Str.occurrences j i 0 j.length 1).isEmpty))) H) := by
  intro pins s σ H x y v u Q I rx ry h
  obtain ⟨i, j, rfl, rfl, q⟩ := h
  obtain ⟨t, rfl⟩ := rx
  obtain ⟨t', rfl⟩ := ry
  exact notIn_str (fin_bl I q rfl)
/-- is, is not of two objects that are tracked lists or instances -/
def isObj : HO → Bool
  | .lst _ => true
  | .ins _ _ _ => true
  | _ => false
theorem obj_there {pins : List (Addr × Obj)} {s : Shared} {σ : St} {H : Hp} {a : Addr} {o : HO} (I : Inv X pins σ H s) (h : H a = some o) (p : isObj o = true) : ∃ ob, s.heap.get? a = some ob ∧ ob.cls ≠ .type "tuple" := by
  cases o with
  | lst xs =>
    obtain ⟨_, its, n, _, e⟩ : xs.length ≤ sizeLine ∧ ∃ (its : List Value) (n : Nat), Vals xs its ∧ s.heap.get? a = some { cls := .type "list", data := .seq its.toArray n } := I.hok a _ h
    exact ⟨_, e, (by show Value.type "list" ≠ .type "tuple"; decide +kernel)⟩
  | ins C dx fs =>
    have x := I.hok a _ h
    obtain ⟨_, _, _, e, _⟩ := x
    exact ⟨_, e, (by show Value.ref C ≠ .type "tuple"; exact fun z => by cases z)⟩
  | _ => exact absurd (show false = true from p) Bool.false_ne_true
theorem op_is_ref : OpR X (compareOp .Is) (fun x y H Q => ∃ a b oa ob, x = .ref a ∧ y = .ref b ∧ H a = some oa ∧ isObj oa = true ∧ H b = some ob ∧ isObj ob = true ∧ Q (.bl (decide (a = b))) H) := by
  intro pins s σ H x y v u Q I rx ry h
  obtain ⟨a, b, oa, ob, rfl, rfl, ha, pa, hb, pb, q⟩ := h
  cases rx
  cases ry
  obtain ⟨o1, e1, n1⟩ := obj_there I ha pa
  obtain ⟨o2, e2, _⟩ := obj_there I hb pb
  by_cases z : a = b
  · subst z
    exact wpAny_is_ref_self (fin_bl I q (by simp))
  · exact wpAny_is_ref_other z e1 e2 n1 (fin_bl I q (by simp [z]))
theorem op_isnot_ref : OpR X (compareOp .IsNot) (fun x y H Q => ∃ a b oa ob, x = .ref a ∧ y = .ref b ∧ H a = some oa ∧ isObj oa = true ∧ H b = some ob ∧ isObj ob = true ∧ Q (.bl (!decide (a = b))) H) := by
  intro pins s σ H x y v u Q I rx ry h
  obtain ⟨a, b, oa, ob, rfl, rfl, ha, pa, hb, pb, q⟩ := h
  cases rx
  cases ry
  obtain ⟨o1, e1, n1⟩ := obj_there I ha pa
  obtain ⟨o2, e2, _⟩ := obj_there I hb pb
  by_cases z : a = b
  · subst z
    exact wpAny_isNot_ref_self (fin_bl I q (by simp))
  · exact wpAny_isNot_ref_other z e1 e2 n1 (fin_bl I q (by simp [z]))

/-- two rules for one operation: by cases -/
theorem OpR.or {f : Value → Value → Sem Value} {r r' : R2} (h : OpR X f r) (h' : OpR X f r') : OpR X f (fun x y H Q => r x y H Q ∨ r' x y H Q) := by
  intro pins s σ H x y v u Q I rx ry q
  rcases q with q | q
  · exact h pins s σ H x y v u Q I rx ry q
  · exact h' pins s σ H x y v u Q I rx ry q

theorem nomark (b : Expr) {op : CmpOp} (h : op ≠ .In := by decide) (h2 : op ≠ .NotIn := by decide) : behindInMarks op b = false := by
  have e1 : (op == CmpOp.In) = false := by cases op <;> first | rfl | exact absurd rfl h
  have e2 : (op == CmpOp.NotIn) = false := by cases op <;> first | rfl | exact absurd rfl h2
  cases b <;> simp [behindInMarks, e1, e2]
/-- a comparison as a value; hm: nomark b, or (for in, not in) by with_unfolding_all rfl -/
theorem pe_cmpR {op : CmpOp} {r : R2} (ho : OpR X (compareOp op) r) (ha : PE X a ta) (hb : PE X b tb) (hm : behindInMarks op b = false) : PE X (.Compare a [op] [b] pos) (tOp r ta tb) := by
  intro pins s σ H Q I h
  exact wpAny_Compare1 (binT ha hb I h fun v u s2 x y H2 I2 rx ry q => ho pins s2 σ H2 x y v u Q I2 rx ry q) hm
/-- a reading of a value as a test -/
def tTest (t : TE) : TT := fun σ H Q => t σ H fun x H' => ∃ k, x = .bl k ∧ Q k H'
theorem pt_cmpR {op : CmpOp} {r : R2} (ho : OpR X (compareOp op) r) (ha : PE X a ta) (hb : PE X b tb) (hm : behindInMarks op b = false) : PT X (.Compare a [op] [b] pos) (tTest (tOp r ta tb)) := by
  intro pins s σ H Q I h
  refine wpAny_isTrue_Compare1 (thn (ha pins s σ H _ I h) fun v s1 ⟨x, H1, I1, r1, q1⟩ => thn (hb pins s1 σ H1 _ I1 q1) fun u s2 ⟨y, H2, I2, r2, q2⟩ =>
    thn (ho pins s2 σ H2 x y v u _ I2 r1 r2 q2) fun c s3 ⟨z, H3, I3, r3, k, e, q3⟩ => ?_) hm
  subst e
  cases r3
  exact wpAny_truthy_bool ⟨H3, I3, q3⟩
/-- a op1 b op2 c -/
def tChain (r r' : R2) (ta tb tc : TE) : TE := fun σ H Q => ta σ H fun x H1 => tb σ H1 fun y H2 => r x y H2 fun z H3 => ∃ k, z = .bl k ∧
  (if k = true then tc σ H3 fun w' H4 => r' y w' H4 Q else Q (.bl false) H3)
theorem pe_chain {op op' : CmpOp} {r r' : R2} (ho : OpR X (compareOp op) r) (ho' : OpR X (compareOp op') r') (ha : PE X a ta) (hb : PE X b tb) (hc : PE X c tc)
    (hm : lastMarks [op, op'] [b, c] = false := by with_unfolding_all rfl) : PE X (.Compare a [op, op'] [b, c] pos) (tChain r r' ta tb tc) := by
  intro pins s σ H Q I h
  refine Compare_chain (thn (ha pins s σ H _ I h) fun v s1 ⟨x, H1, I1, r1, q1⟩ => chain_link (thn (hb pins s1 σ H1 _ I1 q1) fun u s2 ⟨y, H2, I2, r2, q2⟩ =>
    thn (ho pins s2 σ H2 x y v u _ I2 r1 r2 q2) fun d s3 ⟨z, H3, I3, r3, k, e, q3⟩ => ?_)) hm
  subst e
  cases r3
  refine wpAny_truthy_bool ?_
  cases k with
  | false => exact ite_ff ⟨.bl false, H3, I3, rfl, q3⟩
  | true => exact ite_tt (chain_last (thn (hc pins s3 σ H3 _ I3 q3) fun w' s4 ⟨z', H4, I4, r4, q4⟩ => ho' pins s4 σ H4 y z' u w' Q I4 r2 r4 q4))
theorem pt_chain {op op' : CmpOp} {r r' : R2} (ho : OpR X (compareOp op) r) (ho' : OpR X (compareOp op') r') (ha : PE X a ta) (hb : PE X b tb) (hc : PE X c tc)
    (hm : lastMarks [op, op'] [b, c] = false := by with_unfolding_all rfl) : PT X (.Compare a [op, op'] [b, c] pos) (tTest (tChain r r' ta tb tc)) := by
  intro pins s σ H Q I h
  refine isTrue_chain (thn (ha pins s σ H _ I h) fun v s1 ⟨x, H1, I1, r1, q1⟩ => test_link (thn (hb pins s1 σ H1 _ I1 q1) fun u s2 ⟨y, H2, I2, r2, q2⟩ =>
    thn (ho pins s2 σ H2 x y v u _ I2 r1 r2 q2) fun d s3 ⟨z, H3, I3, r3, k, e, q3⟩ => ?_)) hm
  subst e
  cases r3
  refine wpAny_truthy_bool ?_
  cases k with
  | false =>
    obtain ⟨k', e', q'⟩ := q3
    cases e'
    exact ite_ff ⟨H3, I3, q'⟩
  | true =>
    refine ite_tt (test_last (thn (hc pins s3 σ H3 _ I3 q3) fun w' s4 ⟨z', H4, I4, r4, q4⟩ => thn (ho' pins s4 σ H4 y z' u w' _ I4 r2 r4 q4) fun d' s5 ⟨z2, H5, I5, r5, k2, e2, q5⟩ => ?_))
    subst e2
    cases r5
    exact wpAny_truthy_bool ⟨H5, I5, q5⟩

/-! ### truth -/
/-- a value's truth by the abstract heap -/
def TruV (K : PySem.W.Frag) (x : V) (H : Hp) (k : Bool) : Prop :=
  match x with
  | .non => k = false
  | .bl b => k = b
  | .int i => k = (i != 0)
  | .str y => y.length ≤ sizeLine ∧ k = ((y.length : Int) != 0)
  | .byt y => y.size ≤ sizeLine ∧ k = ((y.size : Int) != 0)
  | .ref p => (∃ xs, SqL K H p xs ∧ k = !xs.isEmpty) ∨ (∃ xs, SqT K H p xs ∧ k = !xs.isEmpty) ∨ ∃ kvs, H p = some (.dK kvs) ∧ k = !kvs.isEmpty
  | _ => False
theorem isEmpty_kv {κ : Type} {kvs : List (κ × V)} {vs : List (κ × Value)} (r : KV kvs vs) : (!vs.isEmpty) = !kvs.isEmpty := by
  cases r <;> rfl
theorem isEmpty_of {xs : List V} {its : List Value} (r : Vals xs its) : (!its.toArray.isEmpty) = !xs.isEmpty := by
  cases r <;> simp
theorem line63 : (sizeLine : Nat) < 2 ^ 63 := by rw [sizeLine_eq]; decide
theorem tru_ok : TruR X (fun x H Q => ∃ k, TruV X.K x H k ∧ Q k H) := by
  intro pins s σ H x v Q I rx h
  obtain ⟨k, e, q⟩ := h
  have hl := line63
  have hs : sizeLine = 16777216 := sizeLine_eq
  cases x with
  | non =>
    cases rx
    have e' : k = false := e
    subst e'
    exact truthy_none ⟨H, I, q⟩
  | bl b =>
    cases rx
    have e' : k = b := e
    subst e'
    exact wpAny_truthy_bool ⟨H, I, q⟩
  | int i =>
    obtain ⟨t, rfl⟩ := rx
    have e' : k = (i != 0) := e
    subst e'
    exact PySem.P.truthy_int ⟨H, I, q⟩
  | str y =>
    obtain ⟨t, rfl⟩ := rx
    obtain ⟨hy, e'⟩ : y.length ≤ sizeLine ∧ k = ((y.length : Int) != 0) := e
    subst e'
    exact PySem.P.truthy_str (by omega) ⟨H, I.tok _, q⟩
  | byt y =>
    obtain ⟨t, rfl⟩ := rx
    obtain ⟨hy, e'⟩ : y.size ≤ sizeLine ∧ k = ((y.size : Int) != 0) := e
    subst e'
    exact PySem.W.truthy_bytes (by omega) ⟨H, I.tok _, q⟩
  | ref p =>
    cases rx
    have e' : (∃ xs, SqL X.K H p xs ∧ k = !xs.isEmpty) ∨ (∃ xs, SqT X.K H p xs ∧ k = !xs.isEmpty) ∨ ∃ kvs, H p = some (.dK kvs) ∧ k = !kvs.isEmpty := e
    rcases e' with ⟨xs, hx, e'⟩ | ⟨xs, hx, e'⟩ | ⟨kvs, hx, e'⟩
    · subst e'
      obtain ⟨its, r, pl, hz⟩ := I.list hx
      have hlen := r.length
      exact wpAny_truthy_list pl.isList (by simp only [List.size_toArray]; omega) ⟨H, I.tok _, by rw [isEmpty_of r]; exact q⟩
    · subst e'
      obtain ⟨its, r, pl, hz⟩ := I.tuple hx
      have hlen := r.length
      exact truthy_tuple pl (by simp only [List.size_toArray]; omega) ⟨H, I.tok _, by rw [isEmpty_of r]; exact q⟩
    · subst e'
      obtain ⟨hz, hS, vs, r, m⟩ : kvs.length ≤ sizeLine ∧ (p == sysModules) = false ∧ ∃ vs, KV kvs vs ∧ s.heap.DictOf (mixKind X.prog X.w) p vs := I.hok p _ hx
      have hlen : kvs.length = vs.length := Paired.length r
      exact wpAny_truthy_dict hS m (by omega) ⟨H, I.tok _, by rw [isEmpty_kv r]; exact q⟩
  | _ => exact (show False from e).elim
/-- any expression whose test is its value's truth (a name, a call, a subscript, a field ..: he by fun _ => rfl) -/
theorem pt_truth (ha : PE X a ta) (he : ∀ whole, isTrue a X.env whole = (do let v ← whole; standAt a.pos; holding [v] (truthy v))) :
    PT X a (fun σ H Q => ta σ H fun x H' => ∃ k, TruV X.K x H' k ∧ Q k H') := by
  intro pins s σ H Q I h
  exact isTrue_plain (thn (ha pins s σ H _ I h) fun v s1 ⟨x, H1, I1, r1, q1⟩ => tru_ok pins s1 σ H1 x v Q I1 r1 q1) (he _)

/-! ### strs and bytes -/
theorem pe_byt {x : List UInt8} {k : Nat} : PE X (.Constant (.bytes x) k pos) (fun _ H Q => Q (.byt x.toArray) H) := fun _ _ _ H _ I h => PySem.W.Constant_bytes ⟨.byt x.toArray, H, I.tok _, ⟨_, rfl⟩, h⟩
theorem op_add_str : OpR X (binaryOp .Add) (fun x y H Q => ∃ i j, x = .str i ∧ y = .str j ∧ i.length + j.length ≤ sizeLine ∧ Q (.str (i ++ j)) H) := by
  intro pins s σ H x y v u Q I rx ry h
  obtain ⟨i, j, rfl, rfl, hz, q⟩ := h
  obtain ⟨t, rfl⟩ := rx
  obtain ⟨t', rfl⟩ := ry
  exact add_str (fun t' tk => ⟨.str (i ++ j), H, I.tok _, ⟨_, rfl⟩, q⟩) hz
theorem iop_add_str : OpR X (inplaceOp .Add) (fun x y H Q => ∃ i j, x = .str i ∧ y = .str j ∧ i.length + j.length ≤ sizeLine ∧ Q (.str (i ++ j)) H) := by
  intro pins s σ H x y v u Q I rx ry h
  obtain ⟨i, j, rfl, rfl, hz, q⟩ := h
  obtain ⟨t, rfl⟩ := rx
  obtain ⟨t', rfl⟩ := ry
  exact iadd_str (fun t' tk => ⟨.str (i ++ j), H, I.tok _, ⟨_, rfl⟩, q⟩) hz
theorem op_add_byt : OpR X (binaryOp .Add) (fun x y H Q => ∃ i j, x = .byt i ∧ y = .byt j ∧ i.size + j.size ≤ 16777216 ∧ Q (.byt (i ++ j)) H) := by
  intro pins s σ H x y v u Q I rx ry h
  obtain ⟨i, j, rfl, rfl, hz, q⟩ := h
  obtain ⟨t, rfl⟩ := rx
  obtain ⟨t', rfl⟩ := ry
  exact PySem.W.KBy.add_bytes hz (fun t' tk => ⟨.byt (i ++ j), H, I.tok _, ⟨_, rfl⟩, q⟩)

def PlainIxT (b : Expr) : Prop := ∀ o i, subscripted b false o i = operate [o, i] (getItem o i)
/-- s[i], 0 ≤ i < len -/
theorem pe_item_str (ha : PE X a ta) (hb : PE X b tb) (hs : PlainIxT b) :
    PE X (.Subscript a b pos) (tOp (fun x y H Q => ∃ z i c, x = .str z ∧ y = .int i ∧ 0 ≤ i ∧ i < 2 ^ 63 ∧ i < z.length ∧ z.cps[i.toNat]? = some c ∧ Q (.str ⟨#[c]⟩) H) ta tb) := by
  intro pins s σ H Q I h
  refine Subscript_ (binT ha hb I h fun v u s2 x y H2 I2 rx ry q => ?_)
  obtain ⟨z, i, c, rfl, rfl, h0, h63, h1, hc, q⟩ := q
  obtain ⟨t, rfl⟩ := rx
  obtain ⟨t', rfl⟩ := ry
  have e : seqIndex? i z.length = some i.toNat := PySem.StrLaws.seqIndex_nonneg h0 h1
  exact tail_any (typeIs_str s2 z t) slot_str_getitem.lookup (getItem_str (c := c) (by
    have e1 : decide (i < -(2 ^ 63 : Int)) = false := decide_eq_false (by omega)
    have e2 : decide (i ≥ 2 ^ 63) = false := decide_eq_false (by omega)
    rw [e1, e2] <;> rfl) (by rw [e]; exact hc) ⟨.str ⟨#[c]⟩, H2, I2.tok _, ⟨_, rfl⟩, q⟩) (hs _ _)
/-- b[i], 0 ≤ i < len -/
theorem pe_item_byt (ha : PE X a ta) (hb : PE X b tb) (hs : PlainIxT b) :
    PE X (.Subscript a b pos) (tOp (fun x y H Q => ∃ (z : List UInt8) (i : Int), x = .byt z.toArray ∧ y = .int i ∧ z.length ≤ sizeLine ∧ 0 ≤ i ∧ i < z.length ∧ Q (.int ((z.getD i.toNat 0).toNat : Nat)) H) ta tb) := by
  intro pins s σ H Q I h
  refine Subscript_ (binT ha hb I h fun v u s2 x y H2 I2 rx ry q => ?_)
  obtain ⟨z, i, rfl, rfl, hz, h0, h1, q⟩ := q
  obtain ⟨t, rfl⟩ := rx
  obtain ⟨t', rfl⟩ := ry
  have hl : sizeLine = 16777216 := sizeLine_eq
  exact tail_any (PySem.W.typeIs_bytes s2 z.toArray t) PySem.W.FB.slot_bytes_getitem.lookup (PySem.W.getItem_bytes (by omega) h0 h1 ⟨.int ((z.getD i.toNat 0).toNat : Nat), H2, I2.tok _, ⟨_, rfl⟩, q⟩) (hs _ _)

/-! ### scalar builtins, by CallR -/
theorem vals1 {x : V} {us : List Value} (r : Vals [x] us) : ∃ u, us = [u] ∧ RelV x u := by
  cases r with
  | cons r1 r2 => cases r2; exact ⟨_, rfl, r1⟩
theorem vals2 {x y : V} {us : List Value} (r : Vals [x, y] us) : ∃ u w', us = [u, w'] ∧ RelV x u ∧ RelV y w' := by
  cases r with
  | cons r1 r2 =>
    cases r2 with
    | cons r3 r4 => cases r4; exact ⟨_, _, rfl, r1, r3⟩
theorem call_abs : CallR X (.builtin "abs") (fun xs H Q => ∃ i, xs = [.int i] ∧ Q (.int (if i < 0 then -i else i)) H) := by
  intro pins s σ H xs us Q I r h
  obtain ⟨i, rfl, q⟩ := h
  obtain ⟨u, rfl, t, rfl⟩ := vals1 r
  exact call_abs_int fun u tk => ⟨.int (if i < 0 then -i else i), H, I.tok _, ⟨_, rfl⟩, q⟩
theorem call_max2 (hc : X.calm = true) : CallR X (.builtin "max") (fun xs H Q => ∃ i j, xs = [.int i, .int j] ∧ Q (.int (if j > i then j else i)) H) := by
  intro pins s σ H xs us Q I r h
  obtain ⟨i, j, rfl, q⟩ := h
  obtain ⟨u, w', rfl, ⟨t, rfl⟩, ⟨t', rfl⟩⟩ := vals2 r
  refine max_two_ints (I.ok.hd hc) fun h' tk k => ⟨_, H, I.kept k, ?_, q⟩
  by_cases hj : j > i
  · rw [if_pos hj, if_pos hj]; exact ⟨_, rfl⟩
  · rw [if_neg hj, if_neg hj]; exact ⟨_, rfl⟩
theorem call_min2 (hc : X.calm = true) : CallR X (.builtin "min") (fun xs H Q => ∃ i j, xs = [.int i, .int j] ∧ Q (.int (if j < i then j else i)) H) := by
  intro pins s σ H xs us Q I r h
  obtain ⟨i, j, rfl, q⟩ := h
  obtain ⟨u, w', rfl, ⟨t, rfl⟩, ⟨t', rfl⟩⟩ := vals2 r
  refine min_two_ints (I.ok.hd hc) fun h' tk k => ⟨_, H, I.kept k, ?_, q⟩
  by_cases hj : j < i
  · rw [if_pos hj, if_pos hj]; exact ⟨_, rfl⟩
  · rw [if_neg hj, if_neg hj]; exact ⟨_, rfl⟩
theorem call_int1 : CallR X (.type "int") (fun xs H Q => (∃ i, xs = [.int i] ∧ Q (.int i) H) ∨ ∃ k, xs = [.bl k] ∧ Q (.int (if k then 1 else 0)) H) := by
  intro pins s σ H xs us Q I r h
  rcases h with ⟨i, rfl, q⟩ | ⟨k, rfl, q⟩
  · obtain ⟨u, rfl, t, rfl⟩ := vals1 r
    exact call_int_int ⟨.int i, H, I, ⟨_, rfl⟩, q⟩
  · obtain ⟨u, rfl, r1⟩ := vals1 r
    cases r1
    exact call_int_bool ⟨.int (if k then 1 else 0), H, I.tok _, ⟨_, rfl⟩, q⟩
theorem call_bool1 : CallR X (.type "bool") (fun xs H Q => (∃ i, xs = [.int i] ∧ Q (.bl (i != 0)) H) ∨ ∃ k, xs = [.bl k] ∧ Q (.bl k) H) := by
  intro pins s σ H xs us Q I r h
  rcases h with ⟨i, rfl, q⟩ | ⟨k, rfl, q⟩
  · obtain ⟨u, rfl, t, rfl⟩ := vals1 r
    exact call_bool_int ⟨.bl (i != 0), H, I, rfl, q⟩
  · obtain ⟨u, rfl, r1⟩ := vals1 r
    cases r1
    exact call_bool_bool ⟨.bl k, H, I, rfl, q⟩
theorem call_str_int : CallR X (.type "str") (fun xs H Q => ∃ i, xs = [.int i] ∧ i.natAbs.log2 < 1920 ∧ Q (.str (toString i)) H) := by
  intro pins s σ H xs us Q I r h
  obtain ⟨i, rfl, hz, q⟩ := h
  obtain ⟨u, rfl, t, rfl⟩ := vals1 r
  exact PySem.P.str_of_int hz ⟨.str _, H, I.tok _, ⟨_, rfl⟩, q⟩
theorem call_ord : CallR X (.builtin "ord") (fun xs H Q => ∃ x, xs = [.str x] ∧ x.length = 1 ∧ Q (.int (x.cps.getD 0 0 : Nat)) H) := by
  intro pins s σ H xs us Q I r h
  obtain ⟨x, rfl, hz, q⟩ := h
  obtain ⟨u, rfl, t, rfl⟩ := vals1 r
  exact ord_of_one hz ⟨.int _, H, I.tok _, ⟨_, rfl⟩, q⟩
theorem call_chr : CallR X (.builtin "chr") (fun xs H Q => ∃ i, xs = [.int i] ∧ 0 ≤ i ∧ i ≤ 1114111 ∧ Q (.str ⟨#[i.toNat]⟩) H) := by
  intro pins s σ H xs us Q I r h
  obtain ⟨i, rfl, h0, h1, q⟩ := h
  obtain ⟨u, rfl, t, rfl⟩ := vals1 r
  exact chr_of_range h0 h1 ⟨.str _, H, I.tok _, ⟨_, rfl⟩, q⟩
/-- len of a str, a bytes, a list, a tuple -/
def LenV (K : PySem.W.Frag) (x : V) (H : Hp) (n : Nat) : Prop :=
  match x with
  | .str y => y.length ≤ sizeLine ∧ n = y.length
  | .byt y => y.size ≤ sizeLine ∧ n = y.size
  | .ref p => (∃ xs, SqL K H p xs ∧ n = xs.length) ∨ ∃ xs, SqT K H p xs ∧ n = xs.length
  | _ => False
theorem call_len : CallR X (.builtin "len") (fun xs H Q => ∃ x n, xs = [x] ∧ LenV X.K x H n ∧ Q (.int n) H) := by
  intro pins s σ H xs us Q I r h
  obtain ⟨x, n, rfl, e, q⟩ := h
  obtain ⟨u, rfl, rx⟩ := vals1 r
  have hl := line63
  have hs : sizeLine = 16777216 := sizeLine_eq
  cases x with
  | str y =>
    obtain ⟨t, rfl⟩ := rx
    obtain ⟨hy, e'⟩ : y.length ≤ sizeLine ∧ n = y.length := e
    subst e'
    exact len_str (by omega) ⟨.int _, H, I.tok _, ⟨_, rfl⟩, q⟩
  | byt y =>
    obtain ⟨t, rfl⟩ := rx
    obtain ⟨hy, e'⟩ : y.size ≤ sizeLine ∧ n = y.size := e
    subst e'
    exact PySem.W.len_bytes (by omega) ⟨.int _, H, I.tok _, ⟨_, rfl⟩, q⟩
  | ref p =>
    cases rx
    have e' : (∃ xs, SqL X.K H p xs ∧ n = xs.length) ∨ ∃ xs, SqT X.K H p xs ∧ n = xs.length := e
    rcases e' with ⟨xs, hx, e'⟩ | ⟨xs, hx, e'⟩
    · subst e'
      obtain ⟨its, r', pl, hz⟩ := I.list hx
      have hlen := r'.length
      exact Calls.call_len_list pl.isList (by simp only [List.size_toArray]; omega) ⟨.int xs.length, H, I.tok _, ⟨_, by simp only [List.size_toArray]; rw [hlen]⟩, q⟩
    · subst e'
      obtain ⟨its, r', pl, hz⟩ := I.tuple hx
      have hlen := r'.length
      exact len_tuple pl (by simp only [List.size_toArray]; omega) ⟨.int xs.length, H, I.tok _, ⟨_, by simp only [List.size_toArray]; rw [hlen]⟩, q⟩
  | _ => exact (show False from e).elim
/-- divmod: a new tuple -/
theorem call_divmod : CallR X (.builtin "divmod") (fun xs H Q => ∃ i j, xs = [.int i, .int j] ∧ CDiv i j ∧ ∀ p, H p = none → Q (.ref p) (upd H p (.tup [.int (i / j), .int (i % j)]))) := by
  intro pins s σ H xs us Q I r h
  obtain ⟨i, j, rfl, ⟨h1, h2⟩, q⟩ := h
  obtain ⟨u, w', rfl, ⟨t, rfl⟩, ⟨t', rfl⟩⟩ := vals2 r
  refine divmod_int (by omega) ?_ (.inl (PyProof.noPylong_small (by omega)))
  rw [Int.fdiv_eq_ediv_of_nonneg i (by omega), Int.fmod_eq_emod_of_nonneg i (by omega)]
  have hn : H s.heap.objs.size = none := I.hok.fresh (Nat.le_refl _)
  refine ⟨.ref s.heap.objs.size, _, ?_, rfl, q _ hn⟩
  refine I.laid (fun b o e => Heap.get?_push_of_some _ e) (Nat.le_refl _) ⟨by simp only [List.length_cons, List.length_nil]; rw [sizeLine_eq]; decide, [.int (i / j) s.toks, .int (i % j) (s.toks + 1)], .cons ⟨_, rfl⟩ (.cons ⟨_, rfl⟩ .nil), ?_⟩
  exact ⟨_, Heap.get?_push_size s.heap rfl, rfl, 0, rfl⟩
end
end L2

namespace L2
open PySem PySem.Spec PyProof.Rows

/-! ### an instance, its attributes a map -/
structure ObjM (h : Heap) (x dx C : Addr) (mA : Str → Option Value) : Prop where
  obj : h.get? x = some (PySem.W.instObj C dx)
  ns : h.Ns1 dx mA
  ne : dx ≠ x

theorem lookIn_ns {h : Heap} {dx : Addr} {mA : Str → Option Value} (n : h.Ns1 dx mA) : ∃ od, h.get? dx = some od ∧ ∀ name, PySem.W.lookIn name od = some (mA name) := by
  obtain ⟨o, es, ep, ho, hd, hk, _, hm⟩ := n
  refine ⟨o, ho, fun name => ?_⟩
  have e := hm name
  unfold nsFind findBy at e
  rw [← Array.find?_toList] at e
  unfold PySem.W.lookIn
  rw [hd]
  dsimp only
  split
  · rename_i y q
    rw [q] at e
    exact congrArg some e
  · rename_i q
    rw [q] at e
    have a : es.toList.any (·.refKey) = false := by
      rw [List.any_eq_false]
      intro y hy
      obtain ⟨z, t, hkey⟩ := hk y (Array.mem_toList_iff.mp hy)
      simp [DictEntry.refKey, hkey]
    have a' : ¬ es.toList.any (·.refKey) = true := by rw [a]; exact Bool.false_ne_true
    rw [if_neg a']
    exact congrArg some e

theorem ObjM.look {h : Heap} {x dx C : Addr} {mA : Str → Option Value} (I : ObjM h x dx C mA) : ∃ od, PySem.W.InstAt h x (PySem.W.instObj C dx) C (some od) ∧ ∀ name, PySem.W.lookIn name od = some (mA name) :=
  let ⟨od, ho, hl⟩ := lookIn_ns I.ns
  ⟨od, ⟨I.obj, rfl, rfl, ho⟩, hl⟩

section
variable {prog : Program} {w : World} {A : Around} {E : Value → Shared → Prop} {s : Shared} {K : PySem.W.Frag} {x dx C f : Addr} {mA : Str → Option Value} {name : Str} {v : Value}

theorem get_map {expr : Bool} {Q : Value → Shared → Prop} (X : K.In s.heap) (I : ObjM s.heap x dx C mA) (hg : PySem.W.plainGet K C name = true) (hh : PySem.W.hasDictIn K C = true)
    (ha : PySem.W.findIn K (.ref C) name = some none) (hv : mA name = some v) (hv' : PySem.W.handedIn v = true) (h : Q v { s with toks := s.toks + 1 }) :
    wpAny (model prog w) A (getAttr (.ref x) name expr) Q E s := by
  obtain ⟨od, J, hl⟩ := I.look
  exact PySem.W.get_value X J (PySem.W.plainGet_of hg).1 (PySem.W.findObj_own hh ha rfl (by rw [hl, hv])) hv' h

theorem get_const {expr : Bool} {a : Value} {Q : Value → Shared → Prop} (X : K.In s.heap) (I : ObjM s.heap x dx C mA) (hg : PySem.W.plainGet K C name = true) (hh : PySem.W.hasDictIn K C = true)
    (ha : PySem.W.findIn K (.ref C) name = some (some a)) (hn : PySem.W.specialIn K a "__get__" = some none) (hc : PySem.W.copiedNames.contains name = false) (hv : mA name = none) (hv' : PySem.W.handedIn a = true)
    (h : Q a { s with toks := s.toks + 1 }) : wpAny (model prog w) A (getAttr (.ref x) name expr) Q E s := by
  obtain ⟨od, J, hl⟩ := I.look
  exact PySem.W.get_value X J (PySem.W.plainGet_of hg).1 (PySem.W.findObj_cls hh ha hn hv' hc (by rw [hl, hv])) hv' h

theorem get_meth {pl : Sem Bool} {Q : Value × List Value → Shared → Prop} (X : K.In s.heap) (I : ObjM s.heap x dx C mA) (hg : PySem.W.plainGet K C name = true)
    (hf : PySem.W.findIn K (.ref C) name = some (some (.ref f))) (ht : PySem.W.isFn K (.ref f) = true) (hv : mA name = none) (h : Q (.ref f, [.ref x]) s) :
    wpAny (model prog w) A (getMethod (.ref x) name pl) Q E s := by
  obtain ⟨od, J, hl⟩ := I.look
  exact PySem.W.method_fn X J (PySem.W.plainGet_of hg).1 (PySem.W.plainGet_of hg).2 hf (beq_iff_eq.mp ht) (by show (PySem.W.lookIn name od).map (·.isSome) = some false; rw [hl, hv]; rfl) h

theorem set_map {ns : List Str} {Q : Unit → Shared → Prop} (X : K.In s.heap) (I : ObjM s.heap x dx C mA)
    (hs : PySem.W.findIn K (.ref C) "__setattr__" = some (some (.builtin "object.__setattr__"))) (hp : PySem.W.plainOver K C = true) (ht : PySem.W.takerIn K C name = some none) (hh : PySem.W.hasDictIn K C = true)
    (hw : PySem.Within mA ns) (hsz : ns.length ≤ sizeLine)
    (h : ∀ h', ObjM h' x dx C (fun y => if y = name then some v else mA y) → Heap.SameBut dx s.heap h' → Q () { s with heap := h', toks := s.toks + 2 }) :
    wpAny (model prog w) A (setAttr (.ref x) name v) Q E s := by
  obtain ⟨od, J, hl⟩ := I.look
  refine PySem.W.set_plain X J hs (PySem.W.osa_open (s := { s with toks := s.toks + 1 }) (r := none) X J hp ht fun b => ?_)
  obtain ⟨cd, hc, hd'⟩ := PySem.W.any_some hh
  have hx : s.heap.get? x = some ⟨.ref C, some dx, .plain, #[]⟩ := I.obj
  refine wpAny_bind (wpAny_pure (wpAny_bind (wpAny_bind (wpAny_loadPart hx (wpAny_bind (PySem.W.Looks.here (s := { s with toks := s.toks + 1 }) (PySem.W.looks_clsIn X hc) ?_))))))
  rw [hd']
  refine wpAny_pure (a := some dx) (wpAny_bind (wpAny_pure (wpAny_bind ?_)))
  refine wpAny_nsSet1 (s := { s with toks := s.toks + 1 }) I.ns fun h' hn2 hs2 => ?_
  obtain ⟨oD, esD, epD, hoD, hdD, hcD⟩ := hn2.count (PySem.Within.cons name v hw)
  refine wpAny_bind (wpAny_lookBehind hoD (by rw [hdD]; exact pastItsLine_dict (Nat.le_trans hcD (by rw [List.length_cons]; omega))) ?_)
  exact wpAny_pure (h _ ⟨(hs2.2 _ (Ne.symm I.ne)).trans I.obj, hn2, I.ne⟩ hs2)

/-- C(..): the dict at the heap's end, the instance behind it; then its __init__ -/
theorem make_map {R : Result → Shared → Prop} {vs : List Value} {kw : List (Str × Value)} (X : K.In s.heap) (hm : PySem.W.makesIn K C = true)
    (hi : PySem.W.findIn K (.ref C) "__init__" = some (some (.ref f))) (hf : PySem.W.typeIn K (.ref f) = some (.type "function"))
    (h : codeAny (model prog w) (A.under (.builtin "type.__call__" ⟨.ref C :: vs, kw⟩)) (.call (.ref f) ⟨.ref (s.heap.objs.size + 1) :: vs, kw⟩) (PySem.W.InitBack (s.heap.objs.size + 1) R)
      { s with heap := (s.heap.push PySem.W.emptyDict).push (PySem.W.instObj C s.heap.objs.size) }) :
    codeAny (model prog w) A (.call (.ref C) ⟨vs, kw⟩) R s := by
  obtain ⟨hh, g, d, t, os⟩ := s
  exact PySem.W.make_core (PySem.W.makes_of X hm) (PySem.W.looks_findIn X hi) (fun self => PySem.W.bind_fn X self hf) (.inl rfl) h
/-- C() where there is no __init__ but object's -/
theorem make_map0 {R : Result → Shared → Prop} (X : K.In s.heap) (hm : PySem.W.makesIn K C = true)
    (hi : PySem.W.findIn K (.ref C) "__init__" = some (some (.builtin "object.__init__")))
    (hb : ∀ self, PySem.W.Looks (model prog w) s.heap (bindSpecial (.builtin "object.__init__") self) (.builtin "object.__init__", [self]))
    (h : codeAny (model prog w) (A.under (.builtin "type.__call__" ⟨[.ref C], []⟩)) (.call (.builtin "object.__init__") ⟨[.ref (s.heap.objs.size + 1)], []⟩) (PySem.W.InitBack (s.heap.objs.size + 1) R)
      { s with heap := (s.heap.push PySem.W.emptyDict).push (PySem.W.instObj C s.heap.objs.size) }) :
    codeAny (model prog w) A (.call (.ref C) ⟨[], []⟩) R s := by
  obtain ⟨hh, g, d, t, os⟩ := s
  exact PySem.W.make_core (PySem.W.makes_of X hm) (PySem.W.looks_findIn X hi) hb (.inr ⟨rfl, rfl⟩) h
end

/-! ### the attributes as a list of pairs -/
def putF (f : Str) (v : V) : List (Str × V) → List (Str × V)
  | [] => [(f, v)]
  | (g, x) :: r => if g = f then (g, v) :: r else (g, x) :: putF f v r
theorem lookup_putF (f g : Str) (v : V) : ∀ fs : List (Str × V), (putF f v fs).lookup g = if g = f then some v else fs.lookup g
  | [] => by
    show List.lookup g [(f, v)] = _
    by_cases h : g = f
    · have hb : (g == f) = true := beq_iff_eq.mpr h
      simp only [List.lookup, hb, if_pos h]
    · have hb : (g == f) = false := beq_eq_false_iff_ne.mpr h
      simp only [List.lookup, hb, if_neg h]
  | (k, x) :: r => by
    have ih := lookup_putF f g v r
    rw [show putF f v ((k, x) :: r) = (if k = f then (k, v) :: r else (k, x) :: putF f v r) from rfl]
    by_cases hk : k = f
    · rw [if_pos hk]
      by_cases h : g = k
      · have hb : (g == k) = true := beq_iff_eq.mpr h
        simp only [List.lookup, hb, if_pos (h.trans hk)]
      · have hb : (g == k) = false := beq_eq_false_iff_ne.mpr h
        simp only [List.lookup, hb, if_neg (fun e : g = f => h (e.trans hk.symm))]
    · rw [if_neg hk]
      by_cases h : g = k
      · have hb : (g == k) = true := beq_iff_eq.mpr h
        simp only [List.lookup, hb, if_neg (fun e : g = f => hk (h.symm.trans e))]
      · have hb : (g == k) = false := beq_eq_false_iff_ne.mpr h
        simp only [List.lookup, hb]
        exact ih
theorem keys_putF (f : Str) (v : V) : ∀ fs : List (Str × V), f ∈ (putF f v fs).map (·.1) ∧ ∀ g, g ∈ fs.map (·.1) → g ∈ (putF f v fs).map (·.1)
  | [] => ⟨by simp [putF], fun g h => by simp at h⟩
  | (k, x) :: r => by
    obtain ⟨i1, i2⟩ := keys_putF f v r
    rw [show putF f v ((k, x) :: r) = (if k = f then (k, v) :: r else (k, x) :: putF f v r) from rfl]
    by_cases hk : k = f
    · rw [if_pos hk]
      subst hk
      exact ⟨by simp, fun g h => by simpa using h⟩
    · rw [if_neg hk]
      refine ⟨?_, fun g h => ?_⟩
      · rw [List.map_cons]
        exact List.mem_cons_of_mem _ i1
      · rw [List.map_cons] at h ⊢
        rcases List.mem_cons.mp h with e | e
        · exact List.mem_cons.mpr (.inl e)
        · exact List.mem_cons_of_mem _ (i2 g e)
theorem length_putF (f : Str) (v : V) : ∀ fs : List (Str × V), (putF f v fs).length ≤ fs.length + 1
  | [] => by simp [putF]
  | (k, x) :: r => by
    have ih := length_putF f v r
    rw [show putF f v ((k, x) :: r) = (if k = f then (k, v) :: r else (k, x) :: putF f v r) from rfl]
    by_cases hk : k = f
    · rw [if_pos hk, List.length_cons, List.length_cons]; omega
    · rw [if_neg hk, List.length_cons, List.length_cons]; omega

theorem RelO.some_of {v : V} {o : Option Value} (r : RelO (some v) o) : ∃ u, o = some u ∧ RelV v u := by
  cases o with
  | none => exact (show False from r).elim
  | some u => exact ⟨u, rfl, r⟩
theorem RelO.none_of {o : Option Value} (r : RelO none o) : o = none := by
  cases o with
  | none => rfl
  | some u => exact (show False from r).elim
theorem handed_of {v : V} {u : Value} (r : RelV v u) : PySem.W.handedIn u = true := by
  cases v with
  | non => cases (show u = Value.none from r); rfl
  | bl b => cases (show u = Value.bool b from r); rfl
  | int i => obtain ⟨t, e⟩ := (show ∃ t, u = Value.int i t from r); cases e; rfl
  | str x => obtain ⟨t, e⟩ := (show ∃ t, u = Value.str x t from r); cases e; rfl
  | byt b => obtain ⟨t, e⟩ := (show ∃ t, u = Value.bytes b t from r); cases e; rfl
  | flt b => obtain ⟨t, e⟩ := (show ∃ t, u = Value.float b t from r); cases e; rfl
  | ref a => cases (show u = Value.ref a from r); rfl
  | ty n => cases (show u = Value.type n from r); rfl

section
variable {P : Program} {w : World} {H H' : Hp} {h h' : Heap} {a C dx : Addr} {fs fs' : List (Str × V)}
theorem ins_get (hok : HOk P w H h) (e : H a = some (.ins C dx fs)) : ∃ mA, ObjM h a dx C mA ∧ (∀ f, RelO (fs.lookup f) (mA f)) ∧ PySem.Within mA (fs.map (·.1)) ∧ fs.length ≤ 1000 ∧ H dx = some (.own a) := by
  obtain ⟨d, z, ne, ob, mA, n, r, q⟩ := (show ObjOk P w H h a (.ins C dx fs) from hok a _ e)
  exact ⟨mA, ⟨ob, n, ne⟩, r, q, z, d⟩
end

/-! ### what of the text a class must have -/
structure Cls (K : PySem.W.Frag) (C : Addr) : Prop where
  pg : PySem.W.plainGet K C Str.empty = true
  hd : PySem.W.hasDictIn K C = true
  po : PySem.W.plainOver K C = true
  sa : PySem.W.findIn K (.ref C) "__setattr__" = some (some (.builtin "object.__setattr__"))
theorem Cls.get {K : PySem.W.Frag} {C : Addr} (c : Cls K C) (f : Str) : PySem.W.plainGet K C f = true := c.pg
/-- no class of it has the name -/
def NoAttr (K : PySem.W.Frag) (C : Addr) (f : Str) : Prop := PySem.W.findIn K (.ref C) f = some none
theorem NoAttr.taker {K : PySem.W.Frag} {C : Addr} {f : Str} (n : NoAttr K C f) : PySem.W.takerIn K C f = some none := by
  unfold PySem.W.takerIn
  rw [show PySem.W.findIn K (.ref C) f = some none from n]
  rfl
/-- a constant of the class -/
structure Con (K : PySem.W.Frag) (C : Addr) (f : Str) (v : V) (u : Value) : Prop where
  at_ : PySem.W.findIn K (.ref C) f = some (some u)
  rel : RelV v u
  get : PySem.W.specialIn K u "__get__" = some none
  cp : PySem.W.copiedNames.contains f = false
/-- a method: a plain def of the class or of one above it -/
structure Meth (K : PySem.W.Frag) (C : Addr) (m : Str) (f : Addr) : Prop where
  at_ : PySem.W.findIn K (.ref C) m = some (some (.ref f))
  fn : PySem.W.isFn K (.ref f) = true
  kp : PySem.W.keepIn K (.ref f) = true

section
variable {X : Cx} {pins : List (Addr × Obj)} {σ : St} {H : Hp} {s : Shared} {a C dx : Addr} {fs : List (Str × V)} {f : Str} {v : V} {A : Around} {E : Value → Shared → Prop}

theorem getattr_ok {b : Bool} {Q : Value → Shared → Prop} (I : Inv X pins σ H s) (e : H a = some (.ins C dx fs)) (c : Cls X.K C) (n : NoAttr X.K C f) (l : fs.lookup f = some v)
    (h : ∀ u s', Inv X pins σ H s' → RelV v u → Q u s') : wpAny (model X.prog X.w) A (getAttr (.ref a) f b) Q E s := by
  obtain ⟨mA, O, r, _, _, _⟩ := ins_get I.hok e
  obtain ⟨u, hu, ru⟩ := RelO.some_of (v := v) (o := mA f) (by rw [← l]; exact r f)
  exact get_map I.kIn O (c.get f) c.hd n hu (handed_of ru) (h u _ (I.tok _) ru)

theorem getcon_ok {b : Bool} {u : Value} {Q : Value → Shared → Prop} (I : Inv X pins σ H s) (e : H a = some (.ins C dx fs)) (c : Cls X.K C) (k : Con X.K C f v u) (l : fs.lookup f = none)
    (h : ∀ s', Inv X pins σ H s' → Q u s') : wpAny (model X.prog X.w) A (getAttr (.ref a) f b) Q E s := by
  obtain ⟨mA, O, r, _, _, _⟩ := ins_get I.hok e
  have hn : mA f = none := RelO.none_of (by rw [← l]; exact r f)
  exact get_const I.kIn O (c.get f) c.hd k.at_ k.get k.cp hn (handed_of k.rel) (h _ (I.tok _))

theorem getmeth_ok {m : Str} {g : Addr} {pl : Sem Bool} {Q : Value × List Value → Shared → Prop} (I : Inv X pins σ H s) (e : H a = some (.ins C dx fs)) (c : Cls X.K C) (k : Meth X.K C m g) (l : fs.lookup m = none)
    (h : Q (.ref g, [.ref a]) s) : wpAny (model X.prog X.w) A (getMethod (.ref a) m pl) Q E s := by
  obtain ⟨mA, O, r, _, _, _⟩ := ins_get I.hok e
  have hn : mA m = none := RelO.none_of (by rw [← l]; exact r m)
  exact get_meth I.kIn O (c.get m) k.at_ k.fn hn h

theorem setattr_ok {y : V} {u : Value} {Q : Unit → Shared → Prop} (I : Inv X pins σ H s) (e : H a = some (.ins C dx fs)) (c : Cls X.K C) (n : NoAttr X.K C f) (hl : fs.length < 1000) (ry : RelV y u)
    (h : ∀ s', Inv X pins σ (upd H a (.ins C dx (putF f y fs))) s' → Q () s') : wpAny (model X.prog X.w) A (setAttr (.ref a) f u) Q E s := by
  obtain ⟨mA, O, r, wi, _, ho⟩ := ins_get I.hok e
  have hz : (fs.map (·.1)).length ≤ sizeLine := by rw [List.length_map, sizeLine_eq]; omega
  refine set_map I.kIn O c.sa c.po n.taker c.hd wi hz fun h' O' sb => h _ ?_
  have hd : ∃ o, h'.get? dx = some o := let ⟨o, _, _, e', _⟩ := O'.ns; ⟨o, e'⟩
  refine I.write (x := a) (e := dx) (by rw [e]; exact True.intro) (.inr ho) (fun b q hb z => (sb.2 b hb).trans z) hd ?_
  refine ⟨by rw [upd_ne O.ne]; exact ho, ?_, O.ne, O'.obj, _, O'.ns, fun g => ?_, fun g hg => ?_⟩
  · have := length_putF f y fs; omega
  · show RelO ((putF f y fs).lookup g) (if g = f then some u else mA g)
    rw [lookup_putF]
    by_cases q : g = f
    · rw [if_pos q, if_pos q]; exact ry
    · rw [if_neg q, if_neg q]; exact r g
  · by_cases q : g = f
    · rw [q]; exact (keys_putF f y fs).1
    · refine (keys_putF f y fs).2 g (wi g fun z => hg ?_)
      show (if g = f then some u else mA g) = none
      rw [if_neg q]; exact z

/-- a new instance, tracked, without attributes -/
theorem Inv.made (I : Inv X pins σ H s) : Inv X pins σ (upd (upd H s.heap.objs.size (.own (s.heap.objs.size + 1))) (s.heap.objs.size + 1) (.ins C s.heap.objs.size []))
    { s with heap := (s.heap.push PySem.W.emptyDict).push (PySem.W.instObj C s.heap.objs.size) } := by
  have e1 : (s.heap.push PySem.W.emptyDict).get? s.heap.objs.size = some PySem.W.emptyDict := Heap.get?_push_size s.heap rfl
  have e2 : ((s.heap.push PySem.W.emptyDict).push (PySem.W.instObj C s.heap.objs.size)).get? (s.heap.objs.size + 1) = some (PySem.W.instObj C s.heap.objs.size) := by
    have := Heap.get?_push_size (s.heap.push PySem.W.emptyDict) (o := PySem.W.instObj C s.heap.objs.size) rfl
    rwa [Heap.size_push] at this
  have e3 : (s.heap.push PySem.W.emptyDict).Ns s.heap.objs.size (fun _ => none) := ⟨PySem.W.emptyDict, #[], _, e1, rfl, (fun e he => absurd he (by simp)), fun _ => rfl⟩
  have I1 := I.laid (a := s.heap.objs.size) (o := .own (s.heap.objs.size + 1)) (h' := s.heap.push PySem.W.emptyDict) (t' := s.toks) (fun b u q => Heap.get?_push_of_some _ q) (Nat.le_refl _) ⟨_, e1⟩
  refine I1.laid (a := s.heap.objs.size + 1) (o := .ins C s.heap.objs.size []) (t' := s.toks) (fun b u q => Heap.get?_push_of_some _ q) (Nat.le_of_eq (Heap.size_push _ _)) ?_
  have ne : s.heap.objs.size ≠ s.heap.objs.size + 1 := Nat.ne_of_lt (Nat.lt_succ_self _)
  refine ⟨by rw [upd_ne ne, upd_same], Nat.zero_le _, ne, e2, fun _ => none, (Heap.Ns1.of_empty e3).at fun o q => Heap.get?_push_of_some _ q, fun _ => True.intro, fun y hy => absurd rfl hy⟩

/-- e.f where nothing but the object is asked: through attributeBase (super) and the last hold -/
theorem attr_of {prog : Program} {w : World} {env : Env} {e : Expr} {f : Str} {pos : Pos} {s : Shared} {Q : Value → Shared → Prop} (hb : attributeBase e f env (eval e env) = eval e env)
    (h : wpAny (model prog w) A (eval e env) (fun o s₁ => wpAny (model prog w) A (getAttr o f true) Q E s₁) E s) : wpAny (model prog w) A (eval (.Attribute e f pos) env) Q E s :=
  Attribute_any_ h (by rw [arm_eval_Attribute, hb])
end

/-! ### readings and rules -/
/-- e.f, an attribute of the instance -/
def tFld (K : PySem.W.Frag) (ta : TE) (f : Str) : TE := fun σ H Q => ta σ H fun x H1 => ∃ a C dx fs v, x = .ref a ∧ H1 a = some (.ins C dx fs) ∧ Cls K C ∧ NoAttr K C f ∧ fs.lookup f = some v ∧ Q v H1
/-- e.f, a constant of the class -/
def tCon (K : PySem.W.Frag) (ta : TE) (f : Str) : TE := fun σ H Q => ta σ H fun x H1 => ∃ a C dx fs v u, x = .ref a ∧ H1 a = some (.ins C dx fs) ∧ Cls K C ∧ Con K C f v u ∧ fs.lookup f = none ∧ Q v H1
/-- e.f = value -/
def sFld (K : PySem.W.Frag) (ta tv : TE) (f : Str) : TS := fun D σ H => tv σ H fun y H1 => ta σ H1 fun x H2 => ∃ a C dx fs, x = .ref a ∧ H2 a = some (.ins C dx fs) ∧ Cls K C ∧ NoAttr K C f ∧ fs.length < 1000 ∧
  D.nx σ (upd H2 a (.ins C dx (putF f y fs)))
/-- an augmented operator on two values -/
def InOp (X : Cx) (op : Operator) (rd : V → V → Hp → VK → Prop) : Prop :=
  ∀ (pins : List (Addr × Obj)) (s : Shared) (σ : St) (H : Hp) (x y : V) (u v : Value) (Q : VK), Inv X pins σ H s → RelV x u → RelV y v → rd x y H Q → wpAny (model X.prog X.w) X.A (inplaceOp op u v) (EP X pins σ Q) X.xe s
/-- e.f op= value -/
def sFldAug (K : PySem.W.Frag) (ta tv : TE) (rd : V → V → Hp → VK → Prop) (f : Str) : TS := fun D σ H => ta σ H fun x H1 => ∃ a C dx fs v, x = .ref a ∧ H1 a = some (.ins C dx fs) ∧ Cls K C ∧ NoAttr K C f ∧ fs.lookup f = some v ∧
  tv σ H1 fun y H2 => rd v y H2 fun z H3 => ∃ dx' fs', H3 a = some (.ins C dx' fs') ∧ fs'.length < 1000 ∧ D.nx σ (upd H3 a (.ins C dx' (putF f z fs')))

section
variable {X : Cx} {o e value : Expr} {f : Str} {pos pos' tpos : Pos} {ta tv : TE}
theorem pe_fld (he : PE X e ta) (hb : attributeBase e f X.env (eval e X.env) = eval e X.env) : PE X (.Attribute e f pos) (tFld X.K ta f) := by
  intro pins s σ H Q I h
  refine attr_of hb (thn (he pins s σ H _ I h) fun u s1 ⟨x, H1, I1, rx, a, C, dx, fs, v, ex, ea, c, n, l, q⟩ => ?_)
  subst ex
  obtain rfl : u = Value.ref a := rx
  exact getattr_ok I1 ea c n l fun u' s2 I2 ru => ⟨v, H1, I2, ru, q⟩
theorem pe_con (he : PE X e ta) (hb : attributeBase e f X.env (eval e X.env) = eval e X.env) : PE X (.Attribute e f pos) (tCon X.K ta f) := by
  intro pins s σ H Q I h
  refine attr_of hb (thn (he pins s σ H _ I h) fun u s1 ⟨x, H1, I1, rx, a, C, dx, fs, v, u0, ex, ea, c, k, l, q⟩ => ?_)
  subst ex
  obtain rfl : u = Value.ref a := rx
  exact getcon_ok I1 ea c k l fun s2 I2 => ⟨v, H1, I2, k.rel, q⟩
theorem ps_fld (ha : PE X o ta) (hv : PE X value tv) (hs : swapsWith value (some (.Attribute o f pos')) pos.line X.env = pure false) : PS X (.Assign [.Attribute o f pos'] value pos) (sFld X.K ta tv f) := by
  intro pins s σ H D I h
  refine plainObj_wpAny_Assign_Attribute (thn (hv pins s σ H _ I h) fun u s1 ⟨y, H1, I1, ry, q⟩ => thn (ha pins s1 σ H1 _ I1 q) fun ov s2 ⟨x, H2, I2, rx, a, C, dx, fs, ex, ea, c, n, l, q2⟩ => ?_) hs
  subst ex
  obtain rfl : ov = Value.ref a := rx
  exact setattr_ok I2 ea c n l ry fun s3 I3 => ⟨σ, _, I3, q2⟩
theorem ps_fldaug {op : Operator} {rd : V → V → Hp → VK → Prop} (ha : PE X o ta) (hv : PE X value tv) (hop : InOp X op rd) : PS X (.AugAssign (.Attribute o f tpos) op value pos) (sFldAug X.K ta tv rd f) := by
  intro pins s σ H D I h
  refine wpAny_AugAssign_AttributeAny (thn (ha pins s σ H _ I h) fun ov s1 ⟨x, H1, I1, rx, a, C, dx, fs, v, ex, ea, c, n, l, q⟩ => ?_)
  subst ex
  obtain rfl : ov = Value.ref a := rx
  refine getattr_ok I1 ea c n l fun u s2 I2 ru => thn (hv pins s2 σ H1 _ I2 q) fun w3 s3 ⟨y, H2, I3, ry, q3⟩ => thn (hop pins s3 σ H2 v y u w3 _ I3 ru ry q3) fun w4 s4 ⟨z, H3, I4, rz, dx', fs', ea', l', q4⟩ => ?_
  exact setattr_ok I4 ea' c n l' rz fun s5 I5 => ⟨σ, _, I5, q4⟩
def rAdd : V → V → Hp → VK → Prop := fun x y H Q => ∃ i j, x = .int i ∧ y = .int j ∧ Q (.int (i + j)) H
def rSub : V → V → Hp → VK → Prop := fun x y H Q => ∃ i j, x = .int i ∧ y = .int j ∧ Q (.int (i - j)) H
theorem in_add : InOp X .Add rAdd := by
  rintro pins s σ H x y u v Q I rx ry ⟨i, j, rfl, rfl, q⟩
  obtain ⟨t, rfl⟩ := (show ∃ t, u = Value.int i t from rx)
  obtain ⟨t', rfl⟩ := (show ∃ t', v = Value.int j t' from ry)
  exact PyProof.Rows.iadd_int ⟨.int (i + j), H, I.tok _, ⟨_, rfl⟩, q⟩
theorem in_sub : InOp X .Sub rSub := by
  rintro pins s σ H x y u v Q I rx ry ⟨i, j, rfl, rfl, q⟩
  obtain ⟨t, rfl⟩ := (show ∃ t, u = Value.int i t from rx)
  obtain ⟨t', rfl⟩ := (show ∃ t', v = Value.int j t' from ry)
  exact PyProof.Rows.isub_int ⟨.int (i - j), H, I.tok _, ⟨_, rfl⟩, q⟩

/-- what is between an instance and its method: the tree of a method call -/
theorem methcall_of {pl : Sem Bool} {m : Str} {apos : Pos} {args : List Expr} {pins : List (Addr × Obj)} {s : Shared} {σ : St} {H : Hp} {Q : Value → Shared → Prop} {te : TE} (he : PE X e te) (I : Inv X pins σ H s)
    (h : te σ H fun x H1 => ∃ a C dx fs g, x = .ref a ∧ H1 a = some (.ins C dx fs) ∧ Cls X.K C ∧ Meth X.K C m g ∧ fs.lookup m = none ∧
      ∀ s1, Inv X pins σ H1 s1 → wpAny (model X.prog X.w) X.A (callWith pos (.ref g) [.ref a] (backTo pos (starEach args X.env)) (backToKw pos (keywordEach [] X.env))) Q X.xe s1)
    (ht : eval (.Call (.Attribute e m apos) args [] pos) X.env = (do
      let ov ← eval e X.env
      standAt apos.atName
      let (f, first) ← holding [ov] (getMethod ov m pl)
      callWith pos f first (backTo pos (starEach args X.env)) (backToKw pos (keywordEach [] X.env)))) :
    wpAny (model X.prog X.w) X.A (eval (.Call (.Attribute e m apos) args [] pos) X.env) Q X.xe s := by
  refine PySem.W.methodCall_KW (pl := pl) (thn (he pins s σ H _ I h) fun u s1 ⟨x, H1, I1, rx, a, C, dx, fs, g, ex, ea, c, k, l, q⟩ => ?_) ht
  subst ex
  obtain rfl : u = Value.ref a := rx
  exact getmeth_ok I1 ea c k l (q s1 I1)
end

/-! ### isinstance -/
section
variable {X : Cx} {pins : List (Addr × Obj)} {σ : St} {H : Hp} {s : Shared} {A : Around} {E : Value → Shared → Prop} {Q : Value → Shared → Prop} {c : Value} {b : Bool}
/-- the type of a value, as the fragment's deciders take it; for an instance its class -/
inductive TyOf (K : PySem.W.Frag) (H : Hp) : V → Value → Prop where
  | non : TyOf K H .non (.type "NoneType")
  | bl (x : Bool) : TyOf K H (.bl x) (.type "bool")
  | int (i : Int) : TyOf K H (.int i) (.type "int")
  | str (x : Str) : TyOf K H (.str x) (.type "str")
  | flt (x : UInt64) : TyOf K H (.flt x) (.type "float")
  | lst {a : Addr} {xs : List V} (e : H a = some (.lst xs)) : TyOf K H (.ref a) (.type "list")
  | frz {a : Addr} {o : Obj} {xs : List V} (e : H a = some (.frz o (.lst xs))) : TyOf K H (.ref a) (.type "list")
  | tup {a : Addr} {xs : List V} (e : H a = some (.tup xs)) : TyOf K H (.ref a) (.type "tuple")
  | dK {a : Addr} {kvs : List (Key × V)} (e : H a = some (.dK kvs)) : TyOf K H (.ref a) (.type "dict")
  | ins {a C dx : Addr} {fs : List (Str × V)} (e : H a = some (.ins C dx fs)) (cl : Cls K C) (ha : PySem.W.findIn K (.ref C) "__class__" = some (some (.builtin "object.__class__")))
      (hn : PySem.W.specialIn K (.builtin "object.__class__") "__get__" = some (some (.builtin "getset_descriptor.__get__"))) (htk : PySem.W.takesIn K (.builtin "object.__class__") = some true)
      (hm : PySem.W.mroIn K C (.type "object") = some true) : TyOf K H (.ref a) (.ref C)
/-- isinstance(x, c) for one class c, a built-in or an own one: kitOne's answer -/
theorem isinst_ok {x : V} {u t : Value} (I : Inv X pins σ H s) (rx : RelV x u) (ty : TyOf X.K H x t) (e : PySem.W.kitOne X.K t c = some b) (h : ∀ tk, Q (.bool b) { s with toks := tk }) :
    wpAny (model X.prog X.w) A (call (.builtin "isinstance") [u, c]) Q E s := by
  cases ty with
  | non => cases (show u = Value.none from rx); exact PySem.W.kia_one PySem.W.kitx_none I.kIn True.intro e (fun z => nomatch z) h
  | bl y => cases (show u = Value.bool y from rx); exact PySem.W.kia_one PySem.W.kitx_bool I.kIn True.intro e (fun z => nomatch z) h
  | int i => obtain ⟨t, q⟩ := (show ∃ t, u = Value.int i t from rx); cases q; exact PySem.W.kia_one PySem.W.kitx_int I.kIn True.intro e (fun z => nomatch z) h
  | str y => obtain ⟨t, q⟩ := (show ∃ t, u = Value.str y t from rx); cases q; exact PySem.W.kia_one PySem.W.kitx_str I.kIn True.intro e (fun z => nomatch z) h
  | flt y => obtain ⟨t, q⟩ := (show ∃ t, u = Value.float y t from rx); cases q; exact PySem.W.kia_one PySem.W.kitx_float I.kIn True.intro e (fun z => nomatch z) h
  | @lst a xs ea =>
    cases (show u = Value.ref a from rx)
    obtain ⟨_, _, n, _, h1⟩ := (show ObjOk X.prog X.w H s.heap a (.lst xs) from I.hok a _ ea)
    exact PySem.W.kia_one PySem.W.kitx_list I.kIn ⟨_, h1, rfl⟩ e (fun z => nomatch z) h
  | @frz a ob xs ea =>
    cases (show u = Value.ref a from rx)
    obtain ⟨_, _, _, n, _, h1⟩ := (show ObjOk X.prog X.w H s.heap a (.frz ob (.lst xs)) from I.hok a _ ea)
    exact PySem.W.kia_one PySem.W.kitx_list I.kIn ⟨_, h1, rfl⟩ e (fun z => nomatch z) h
  | @tup a xs ea =>
    cases (show u = Value.ref a from rx)
    obtain ⟨_, _, _, p⟩ := (show ObjOk X.prog X.w H s.heap a (.tup xs) from I.hok a _ ea)
    obtain ⟨o, h1, h2, _⟩ := p
    exact PySem.W.kia_one PySem.W.kitx_tuple I.kIn ⟨o, h1, h2⟩ e (fun z => nomatch z) h
  | @dK a kvs ea =>
    cases (show u = Value.ref a from rx)
    obtain ⟨_, _, vs, _, p⟩ := (show ObjOk X.prog X.w H s.heap a (.dK kvs) from I.hok a _ ea)
    obtain ⟨o, es, ep, h1, h2, _⟩ := p
    exact PySem.W.kia_one PySem.W.kitx_dict I.kIn ⟨o, h1, h2.1⟩ e (fun z => nomatch z) h
  | @ins a C dx fs ea cl ha hn htk hm =>
    cases (show u = Value.ref a from rx)
    obtain ⟨mA, O, _⟩ := ins_get I.hok ea
    obtain ⟨od, J, _⟩ := O.look
    exact PySem.W.kia_one (PySem.W.kitx_own (cl.get _) cl.hd ha hn htk hm) I.kIn J e (fun z => nomatch z) h
end
end L2

namespace L2
open PySem PySem.Spec PyProof.Rows

/-! ### room -/
structure Room (k : Nat) (A : Around) : Prop where
  hd : A.handled = none
  dp : A.depth + 3 * k + 5 < recursionLimit
  un : A.units + 16 * k + 200 < cLine
theorem Room.mono {j k : Nat} {A : Around} (r : Room k A) (h : j ≤ k) : Room j A := ⟨r.hd, by have := r.dp; omega, by have := r.un; omega⟩
theorem Room.deeper {k : Nat} {A : Around} (r : Room (k + 1) A) (env : Env) : Room k (A.deeper env) :=
  ⟨r.hd, by have := r.dp; show A.depth + 1 + 3 * k + 5 < _; omega, by have := r.un; show A.units + 3 + 16 * k + 200 < _; omega⟩
theorem Room.in1 {k : Nat} {A : Around} (r : Room (k + 1) A) : Room k A.in1 :=
  ⟨r.hd, by have := r.dp; show A.depth + 3 * k + 5 < _; omega, by have := r.un; show A.units + 1 + 16 * k + 200 < _; omega⟩
theorem make_depth {A : Around} {C : Addr} {us : List Value} {kw : List (Str × Value)} : (A.under (.builtin "type.__call__" ⟨.ref C :: us, kw⟩)).depth = A.depth + 1 := by
  first | rfl | simp [Around.under, Code.weight, Code.isCreation, Code.isGuard, Code.isCaller, Code.frames, Code.isFrame, guardIds]
theorem make_units {A : Around} {C : Addr} {us : List Value} {kw : List (Str × Value)} : (A.under (.builtin "type.__call__" ⟨.ref C :: us, kw⟩)).units = A.units + 1 := by
  first | rfl | simp [Around.under, Code.cUnits, Code.frames, Code.isFrame]
theorem Room.make {k : Nat} {A : Around} (r : Room (k + 1) A) (C : Addr) (us : List Value) (kw : List (Str × Value)) : Room k (A.under (.builtin "type.__call__" ⟨.ref C :: us, kw⟩)) :=
  ⟨r.hd, by have := r.dp; rw [make_depth]; omega, by have := r.un; rw [make_units]; omega⟩
theorem Room.depth {k : Nat} {A : Around} (r : Room k A) : A.depth < recursionLimit := by have := r.dp; omega
theorem Room.units {k : Nat} {A : Around} (r : Room k A) : A.units + 64 < cLine := by have := r.un; omega
theorem Room.units0 {k : Nat} {A : Around} (r : Room k A) : A.units < cLine := by have := r.un; omega

/-! ### argument lists and displays -/
def tNil : TA := fun _ H Q => Q [] H
def tCons (ta : TE) (tr : TA) : TA := fun σ H Q => ta σ H fun x H1 => tr σ H1 fun xs H2 => Q (x :: xs) H2
section
variable {X : Cx} {e : Expr} {es : List Expr} {te : TE} {t : TA} {pos : Pos}
theorem pa_nil : PA X [] tNil := fun _ _ _ _ H Q I h => Calls.spliced_nil ⟨[], H, I, .nil, h⟩
theorem pa_cons (ha : PE X e te) (hr : PA X es t) (hs : starEach (e :: es) X.env = (false, eval e X.env) :: starEach es X.env := by rfl) : PA X (e :: es) (tCons te t) := by
  intro pos pins s σ H Q I h
  rw [hs]
  show wpAny _ _ (spliced ((false, eval e X.env) :: backTo pos (starEach es X.env))) _ _ s
  refine Calls.spliced_cons (thn (ha pins s σ H _ I h) fun u s1 ⟨x, H1, I1, r1, q1⟩ => ?_)
  exact thn (hr pos pins s1 σ H1 _ I1 q1) fun us s2 ⟨xs, H2, I2, r2, q2⟩ => ⟨x :: xs, H2, I2, .cons r1 r2, q2⟩

/-- a tuple, a list of written items -/
def tTup (t : TA) : TE := fun σ H Q => t σ H fun xs H1 => xs.length ≤ sizeLine ∧ ∀ p, H1 p = none → Q (.ref p) (upd H1 p (.tup xs))
def tLst (t : TA) : TE := fun σ H Q => t σ H fun xs H1 => xs.length ≤ sizeLine ∧ ∀ p, H1 p = none → Q (.ref p) (upd H1 p (.lst xs))
theorem pe_tup {x1} (h : PA X es t) : PE X (.Tuple es x1 pos) (tTup t) := by
  intro pins s σ H Q I hq
  refine wpAny_Tuple_spliced (thn (h pos pins s σ H _ I hq) fun us s1 ⟨xs, H1, I1, r, z, q⟩ => ⟨by rw [← r.length]; exact z, ?_⟩)
  have hf : H1 s1.heap.objs.size = none := I1.hok.fresh (Nat.le_refl _)
  refine ⟨.ref s1.heap.objs.size, upd H1 s1.heap.objs.size (.tup xs), I1.laid (t' := s1.toks) (fun b u e => Heap.get?_push_of_some _ e) (Nat.le_refl _) ?_, rfl, q _ hf⟩
  exact ⟨z, us, r, ⟨_, Heap.get?_push_size _ rfl, rfl, _, rfl⟩⟩
theorem pe_lst (h : PA X es t) : PE X (.List es pos) (tLst t) := by
  intro pins s σ H Q I hq
  refine wpAny_List_spliced (thn (h pos pins s σ H _ I hq) fun us s1 ⟨xs, H1, I1, r, z, q⟩ => ⟨by rw [← r.length]; exact z, ?_⟩)
  have hf : H1 s1.heap.objs.size = none := I1.hok.fresh (Nat.le_refl _)
  refine ⟨.ref s1.heap.objs.size, upd H1 s1.heap.objs.size (.lst xs), I1.laid (t' := s1.toks) (fun b u e => Heap.get?_push_of_some _ e) (Nat.le_refl _) ?_, rfl, q _ hf⟩
  exact ⟨z, us, 0, r, Heap.get?_push_size _ rfl⟩
end

/-! ### what a def promises -/
/-- a def's promise: the bound arguments in the parameters' order, the heap, the wanted end, the wanted exception -/
abbrev Sp := List V → Hp → VK → XK → Prop
/-- how an exception lies behind a call (file 08 gives it): the callers' frames, abstract heap and state ahead of the call, the wish, the exception, the state -/
abbrev CXT := List Env → Hp → Shared → XK → Value → Shared → Prop

/-- the state at a call -/
structure Env0 (P : Program) (w : World) (K : PySem.W.Frag) (mg : Str → Option Value) (base : Heap) (A : Around) (outer : List Env) (s : Shared) (H : Hp) : Prop where
  frames : A.frames = some outer
  mod : Mod K mg base
  bs : ∀ b o, base.get? b = some o → s.heap.get? b = some o ∧ H b = none
  bsz : base.objs.size ≤ s.heap.objs.size
  funs : s.heap.FunFrames base outer
  frf : ∀ b ∈ frs outer, H b = none
  hok : HOk P w H s.heap
  bare : AllBare s.gens
/-- a call's end -/
def CE (outer : List Env) (P : Program) (w : World) (H : Hp) (s : Shared) (Q : VK) (u : Value) (s' : Shared) : Prop :=
  ∃ v H', s'.os = s.os ∧ AllBare s'.gens ∧ Un (frs outer) [] H H' s.heap s'.heap ∧ HOk P w H' s'.heap ∧ RelV v u ∧ Q v H'
def CR (CX : CXT) (outer : List Env) (P : Program) (w : World) (H : Hp) (s : Shared) (Q : VK) (E : XK) (r : Result) (s' : Shared) : Prop :=
  match r with
  | .ok (.ret u) => CE outer P w H s Q u s'
  | .ok _ => False
  | .error e => CX outer H s E e s'
structure FnOk (P : Program) (w : World) (K : PySem.W.Frag) (mg : Str → Option Value) (base : Heap) (CX : CXT) (k : Nat) (f : Addr) (fd : FuncData) (ps : List Str) (sp : Sp) : Prop where
  len : ∀ vs H Q E, sp vs H Q E → vs.length = ps.length
  run : ∀ (A : Around) (outer : List Env) (s : Shared) (H : Hp) (args : Args) (us : List Value) (vs : List V) (Q : VK) (E : XK), Room k A → Env0 P w K mg base A outer s H → BindsTo s fd args (ps.zip us) → Vals vs us → sp vs H Q E →
    codeAny (model P w) A (.call (.ref f) args) (CR CX outer P w H s Q E) s
theorem FnOk.mono {P : Program} {w : World} {K : PySem.W.Frag} {mg : Str → Option Value} {base : Heap} {CX : CXT} {j k : Nat} {f : Addr} {fd : FuncData} {ps : List Str} {sp : Sp} (F : FnOk P w K mg base CX j f fd ps sp) (h : j ≤ k) :
    FnOk P w K mg base CX k f fd ps sp := ⟨F.len, fun A outer s H args us vs Q E hr => F.run A outer s H args us vs Q E (hr.mono h)⟩
/-- a weaker promise -/
theorem FnOk.imp {P : Program} {w : World} {K : PySem.W.Frag} {mg : Str → Option Value} {base : Heap} {CX : CXT} {k : Nat} {f : Addr} {fd : FuncData} {ps : List Str} {sp sp' : Sp} (F : FnOk P w K mg base CX k f fd ps sp)
    (h : ∀ vs H Q E, sp' vs H Q E → sp vs H Q E) : FnOk P w K mg base CX k f fd ps sp' :=
  ⟨fun vs H Q E q => F.len vs H Q E (h _ _ _ _ q), fun A outer s H args us vs Q E hr he hb hv hs => F.run A outer s H args us vs Q E hr he hb hv (h _ _ _ _ hs)⟩

theorem Env0.make {P : Program} {w : World} {K : PySem.W.Frag} {mg : Str → Option Value} {base : Heap} {A : Around} {outer : List Env} {s : Shared} {H : Hp} (e : Env0 P w K mg base A outer s H) (C : Addr) (us : List Value) (kw : List (Str × Value)) :
    Env0 P w K mg base (A.under (.builtin "type.__call__" ⟨.ref C :: us, kw⟩)) outer s H := ⟨by first | exact e.frames | (simpa [Around.under, Code.envs, Code.isFrame, pushEnvs] using e.frames), e.mod, e.bs, e.bsz, e.funs, e.frf, e.hok, e.bare⟩
theorem Env0.in1 {P : Program} {w : World} {K : PySem.W.Frag} {mg : Str → Option Value} {base : Heap} {A : Around} {outer : List Env} {s : Shared} {H : Hp} (e : Env0 P w K mg base A outer s H) :
    Env0 P w K mg base A.in1 outer s H := ⟨e.frames, e.mod, e.bs, e.bsz, e.funs, e.frf, e.hok, e.bare⟩

section
variable {X : Cx} {pins : List (Addr × Obj)} {σ : St} {H : Hp} {s s' : Shared}
/-- from a body: what a callee wants -/
theorem Inv.env0 (I : Inv X pins σ H s) : Env0 X.prog X.w X.K X.mg X.base X.A X.stack s H :=
  ⟨I.ok.frames, I.ok.mod, I.bs, Nat.le_trans I.ok.bsz I.sz, I.stack, I.stkFree, I.hok, I.bare⟩
/-- behind a call -/
theorem Inv.after {Q : VK} {u : Value} (I : Inv X pins σ H s) (h : CE X.stack X.prog X.w H s Q u s') : EP X pins σ Q u s' := by
  obtain ⟨v, H', os, bare, un, hok, r, q⟩ := h
  obtain ⟨hh, g, d, t, os'⟩ := s'
  obtain rfl : os' = s.os := os
  exact ⟨v, H', I.call (h' := hh) (g' := g) (d' := d) (t' := t) (ch := []) un hok bare (fun b z => absurd z (by simp)), r, q⟩
end

/-! ### calls -/
/-- f(..): the written arguments, then the defaults dvs; E: what is wanted of an exception -/
def tCall (sp : Sp) (dvs : List V) (E : XK) (t : TA) : TE := fun σ H Q => t σ H fun vs H1 => sp (vs ++ dvs) H1 Q E
/-- o.m(..) of an instance of the class at C -/
def tMeth (C : Addr) (m : Str) (sp : Sp) (dvs : List V) (E : XK) (ta : TE) (t : TA) : TE := fun σ H Q => ta σ H fun x H1 => ∃ a dx fs, x = .ref a ∧ H1 a = some (.ins C dx fs) ∧ fs.lookup m = none ∧
  t σ H1 fun vs H2 => sp (x :: (vs ++ dvs)) H2 Q E
/-- C(..): a new instance and its dict, then __init__ -/
def tMake (C : Addr) (sp : Sp) (dvs : List V) (E : XK) (t : TA) : TE := fun σ H Q => t σ H fun vs H1 => ∀ x dx, H1 x = none → H1 dx = none → dx ≠ x →
  sp (.ref x :: (vs ++ dvs)) (upd (upd H1 dx (.own x)) x (.ins C dx [])) (fun v H2 => v = .non ∧ Q (.ref x) H2) E

/-- how the parameters are bound: us the positional arguments, kw the keywords' values by name, ds the defaults that fill up -/
def Binds (K : PySem.W.Frag) (fd : FuncData) (ps : List Str) (ds : List Value) : Prop :=
  ∀ (s : Shared) (us : List Value), K.In s.heap → (us ++ ds).length = ps.length → BindsTo s fd ⟨us, []⟩ (ps.zip (us ++ ds))
/-- every parameter is given -/
theorem Binds.all {K : PySem.W.Frag} {fd : FuncData} {ps : List Str} (h : ∀ us : List Value, us.length = ps.length → bindArgs fd ⟨us, []⟩ = pure (ps.zip us)) : Binds K fd ps [] := fun s us _ hl => by
  rw [List.append_nil] at hl ⊢
  exact .of_eq (h us hl)

/-- an exception of a callee reaches what this body wants of exceptions -/
def Passes (CX : CXT) (X : Cx) (E : XK) : Prop := ∀ (pins : List (Addr × Obj)) (σ : St) (H : Hp) (s : Shared) (e : Value) (s' : Shared), Inv X pins σ H s → CX X.stack H s E e s' → X.xe e s'

section
variable {X : Cx} {CX : CXT} {k : Nat} {f C : Addr} {fd : FuncData} {ps : List Str} {sp : Sp} {dvs : List V} {ds : List Value} {E : XK} {x m : Str} {p pos apos : Pos} {e o : Expr} {es : List Expr} {ta : TE} {t : TA}

/-- the callee runs -/
theorem run_fn {pins : List (Addr × Obj)} {σ : St} {H : Hp} {s : Shared} {Q : VK} {us : List Value} {vs : List V} (F : FnOk X.prog X.w X.K X.mg X.base CX k f fd ps sp) (hr : Room k X.A) (hb : Binds X.K fd ps ds) (hd : Vals dvs ds) (hx : Passes CX X E)
    (I : Inv X pins σ H s) (r : Vals vs us) (h : sp (vs ++ dvs) H Q E) : wpAny (model X.prog X.w) X.A (call (.ref f) us) (EP X pins σ Q) X.xe s := by
  have r2 : Vals (vs ++ dvs) (us ++ ds) := r.append hd
  have hl : (us ++ ds).length = ps.length := by rw [← r2.length]; exact F.len _ _ _ _ h
  refine wpAny_call (codeAny_mono (F.run X.A X.stack s H ⟨us, []⟩ (us ++ ds) (vs ++ dvs) Q E hr I.env0 (hb s us I.kIn hl) r2 h) fun r s' hq => ?_)
  cases r with
  | error e => exact hx pins σ H s e s' I hq
  | ok fl =>
    cases fl with
    | ret u => exact I.after hq
    | next => exact False.elim hq
    | brk => exact False.elim hq
    | cont => exact False.elim hq

theorem pe_call (F : FnOk X.prog X.w X.K X.mg X.base CX k f fd ps sp) (hr : Room k X.A) (hg : Gl X x) (hm : X.mg x = some (.ref f)) (hk : PySem.W.keepIn X.K (.ref f) = true) (hb : Binds X.K fd ps ds) (hd : Vals dvs ds) (hx : Passes CX X E)
    (ha : PA X (e :: es) t) (hdb : (x == ("__debug__" : Str)) = false := by decide) (he : starEach (e :: es) X.env = (false, eval e X.env) :: starEach es X.env := by rfl) (hpl : (backTo pos (starEach es X.env)).any (·.1) = false := by rfl) :
    PE X (.Call (.Name x p) (e :: es) [] pos) (tCall sp dvs E t) := by
  intro pins s σ H Q I h
  refine wpAny_Call_Name_kw (ld_glob I hg hm ?_ hdb)
  refine PySem.W.callWith_K (h₀ := X.base) I.ok.mod.kin hk (thn (ha pos pins s σ H _ I h) fun us s1 ⟨vs, H1, I1, r, q⟩ => ⟨I1.kIn, ?_⟩) he hpl
  exact run_fn F hr hb hd hx I1 r q
theorem pe_call0 (F : FnOk X.prog X.w X.K X.mg X.base CX k f fd ps sp) (hr : Room k X.A) (hg : Gl X x) (hm : X.mg x = some (.ref f)) (hk : PySem.W.keepIn X.K (.ref f) = true) (hb : Binds X.K fd ps ds) (hd : Vals dvs ds) (hx : Passes CX X E)
    (hdb : (x == ("__debug__" : Str)) = false := by decide) : PE X (.Call (.Name x p) [] [] pos) (tCall sp dvs E tNil) := by
  intro pins s σ H Q I h
  refine wpAny_Call_Name_kw (ld_glob I hg hm ?_ hdb)
  exact PySem.W.callWith_K0 I.kIn hk (run_fn (us := []) F hr hb hd hx I .nil h)

/-- o.m(e, ..) -/
theorem pe_meth {pl : Sem Bool} (he : PE X o ta) (c : Cls X.K C) (hm : Meth X.K C m f) (F : FnOk X.prog X.w X.K X.mg X.base CX k f fd ps sp) (hr : Room k X.A) (hb : Binds X.K fd ps ds) (hd : Vals dvs ds) (hx : Passes CX X E) (ha : PA X (e :: es) t)
    (hst : starEach (e :: es) X.env = (false, eval e X.env) :: starEach es X.env := by rfl) (hpl : (backTo pos (starEach es X.env)).any (·.1) = false := by rfl)
    (ht : eval (.Call (.Attribute o m apos) (e :: es) [] pos) X.env = (do
      let ov ← eval o X.env
      standAt apos.atName
      let (f, first) ← holding [ov] (getMethod ov m pl)
      callWith pos f first (backTo pos (starEach (e :: es) X.env)) (backToKw pos (keywordEach [] X.env))) := by rfl) :
    PE X (.Call (.Attribute o m apos) (e :: es) [] pos) (tMeth C m sp dvs E ta t) := by
  intro pins s σ H Q I h
  refine PySem.W.methodCall_KW (pl := pl) (thn (he pins s σ H _ I h) fun u s1 ⟨x, H1, I1, rx, a, dx, fs, ex, ea, l, q⟩ => ?_) ht
  subst ex
  obtain rfl : u = Value.ref a := rx
  refine getmeth_ok I1 ea c hm l ?_
  refine PySem.W.callWith_K (first := [.ref a]) (h₀ := X.base) I.ok.mod.kin hm.kp (thn (ha pos pins s1 σ H1 _ I1 q) fun us s2 ⟨vs, H2, I2, r, q2⟩ => ⟨I2.kIn, ?_⟩) hst hpl
  exact run_fn (us := .ref a :: us) (vs := .ref a :: vs) F hr hb hd hx I2 (.cons rfl r) q2
/-- o.m() -/
theorem pe_meth0 {pl : Sem Bool} (he : PE X o ta) (c : Cls X.K C) (hm : Meth X.K C m f) (F : FnOk X.prog X.w X.K X.mg X.base CX k f fd ps sp) (hr : Room k X.A) (hb : Binds X.K fd ps ds) (hd : Vals dvs ds) (hx : Passes CX X E)
    (ht : eval (.Call (.Attribute o m apos) [] [] pos) X.env = (do
      let ov ← eval o X.env
      standAt apos.atName
      let (f, first) ← holding [ov] (getMethod ov m pl)
      callWith pos f first (backTo pos (starEach [] X.env)) (backToKw pos (keywordEach [] X.env))) := by rfl) :
    PE X (.Call (.Attribute o m apos) [] [] pos) (tMeth C m sp dvs E ta tNil) := by
  intro pins s σ H Q I h
  refine PySem.W.methodCall_KW (pl := pl) (thn (he pins s σ H _ I h) fun u s1 ⟨x, H1, I1, rx, a, dx, fs, ex, ea, l, q⟩ => ?_) ht
  subst ex
  obtain rfl : u = Value.ref a := rx
  refine getmeth_ok I1 ea c hm l ?_
  exact PySem.W.callWith_K0 (first := [.ref a]) I1.kIn hm.kp (run_fn (us := [.ref a]) (vs := [.ref a]) F hr hb hd hx I1 (.cons rfl .nil) q)

/-- what a class must have to be made -/
structure Mk (K : PySem.W.Frag) (C f : Addr) : Prop where
  makes : PySem.W.makesIn K C = true
  init : PySem.W.findIn K (.ref C) "__init__" = some (some (.ref f))
  fn : PySem.W.isFn K (.ref f) = true
  kp : PySem.W.keepIn K (.ref C) = true

theorem run_make {pins : List (Addr × Obj)} {σ : St} {H : Hp} {s : Shared} {Q : VK} {us : List Value} {vs : List V} (M : Mk X.K C f) (F : FnOk X.prog X.w X.K X.mg X.base CX k f fd ps sp) (hr : Room (k + 1) X.A) (hb : Binds X.K fd ps ds) (hd : Vals dvs ds)
    (hx : Passes CX X E) (I : Inv X pins σ H s) (r : Vals vs us)
    (h : ∀ x dx, H x = none → H dx = none → dx ≠ x → sp (.ref x :: (vs ++ dvs)) (upd (upd H dx (.own x)) x (.ins C dx [])) (fun v H2 => v = .non ∧ Q (.ref x) H2) E) :
    wpAny (model X.prog X.w) X.A (call (.ref C) us) (EP X pins σ Q) X.xe s := by
  have hq := h (s.heap.objs.size + 1) s.heap.objs.size (I.hok.fresh (Nat.le_succ _)) (I.hok.fresh (Nat.le_refl _)) (Nat.ne_of_lt (Nat.lt_succ_self _))
  have I2 := Inv.made (C := C) I
  have r2 : Vals (V.ref (s.heap.objs.size + 1) :: (vs ++ dvs)) (Value.ref (s.heap.objs.size + 1) :: (us ++ ds)) := .cons rfl (r.append hd)
  have hl : (Value.ref (s.heap.objs.size + 1) :: us ++ ds).length = ps.length := by
    have e := r2.length
    rw [F.len _ _ _ _ hq] at e
    exact e.symm
  refine wpAny_call (make_map (f := f) I.kIn M.makes M.init (beq_iff_eq.mp M.fn) (codeAny_mono (F.run _ X.stack _ _ ⟨Value.ref (s.heap.objs.size + 1) :: us, []⟩ (Value.ref (s.heap.objs.size + 1) :: (us ++ ds)) _ _ E (hr.make C us [])
    (I2.env0.make C us []) (hb _ (Value.ref (s.heap.objs.size + 1) :: us) I2.kIn hl) r2 hq) fun r s' hq' => ?_))
  cases r with
  | error e => exact hx pins σ _ _ e s' I2 hq'
  | ok fl =>
    cases fl with
    | ret u =>
      obtain ⟨v, H', I3, rv, ev, q3⟩ := I2.after hq'
      subst ev
      exact ⟨rv, ⟨V.ref (s.heap.objs.size + 1), H', I3, rfl, q3⟩⟩
    | next => exact False.elim hq'
    | brk => exact False.elim hq'
    | cont => exact False.elim hq'
theorem pe_make (M : Mk X.K C f) (F : FnOk X.prog X.w X.K X.mg X.base CX k f fd ps sp) (hr : Room (k + 1) X.A) (hg : Gl X x) (hm : X.mg x = some (.ref C)) (hb : Binds X.K fd ps ds) (hd : Vals dvs ds) (hx : Passes CX X E)
    (ha : PA X (e :: es) t) (hdb : (x == ("__debug__" : Str)) = false := by decide) (he : starEach (e :: es) X.env = (false, eval e X.env) :: starEach es X.env := by rfl) (hpl : (backTo pos (starEach es X.env)).any (·.1) = false := by rfl) :
    PE X (.Call (.Name x p) (e :: es) [] pos) (tMake C sp dvs E t) := by
  intro pins s σ H Q I h
  refine wpAny_Call_Name_kw (ld_glob I hg hm ?_ hdb)
  refine PySem.W.callWith_K (h₀ := X.base) I.ok.mod.kin M.kp (thn (ha pos pins s σ H _ I h) fun us s1 ⟨vs, H1, I1, r, q⟩ => ⟨I1.kIn, ?_⟩) he hpl
  exact run_make M F hr hb hd hx I1 r q
theorem pe_make0 (M : Mk X.K C f) (F : FnOk X.prog X.w X.K X.mg X.base CX k f fd ps sp) (hr : Room (k + 1) X.A) (hg : Gl X x) (hm : X.mg x = some (.ref C)) (hb : Binds X.K fd ps ds) (hd : Vals dvs ds) (hx : Passes CX X E)
    (hdb : (x == ("__debug__" : Str)) = false := by decide) : PE X (.Call (.Name x p) [] [] pos) (tMake C sp dvs E tNil) := by
  intro pins s σ H Q I h
  refine wpAny_Call_Name_kw (ld_glob I hg hm ?_ hdb)
  exact PySem.W.callWith_K0 I.kIn M.kp (run_make (us := []) M F hr hb hd hx I .nil h)
end

/-! ### keywords -/
/-- the values of the keywords, from the left -/
def PK (X : Cx) (kws : List Keyword) (t : TA) : Prop :=
  ∀ (pos : Pos) (pins : List (Addr × Obj)) (s : Shared) (σ : St) (H : Hp) (Q : List V → Hp → Prop), Inv X pins σ H s → t σ H Q → wpAny (model X.prog X.w) X.A (evalAll ((backToKw pos (keywordEach kws X.env)).map (·.2))) (AP X pins σ Q) X.xe s
section
variable {X : Cx} {CX : CXT} {k : Nat} {f C : Addr} {fd : FuncData} {ps ks : List Str} {sp : Sp} {E : XK} {x m : Str} {p pos apos kpos : Pos} {e o : Expr} {es : List Expr} {kws : List Keyword} {te ta : TE} {t tk : TA} {nm : Option Str}
theorem pk_nil : PK X [] tNil := fun _ _ _ _ H Q I h => wpAny_evalAll_nil ⟨[], H, I, .nil, h⟩
theorem pk_cons (ha : PE X e te) (hr : PK X kws t) : PK X (⟨nm, e, kpos⟩ :: kws) (tCons te t) := by
  intro pos pins s σ H Q I h
  show wpAny _ _ (evalAll ((do let v ← eval e X.env; standAt pos; pure v) :: (backToKw pos (keywordEach kws X.env)).map (·.2))) _ _ s
  refine wpAny_evalAll_cons (wpAny_bind (thn (ha pins s σ H _ I h) fun u s1 ⟨x, H1, I1, r1, q1⟩ => wpAny_bind (wpAny_standAt (wpAny_pure ?_))))
  exact thn (hr pos pins s1 σ H1 _ I1 q1) fun us s2 ⟨xs, H2, I2, r2, q2⟩ => ⟨x :: xs, H2, I2, .cons r1 r2, q2⟩

/-- how a call with keywords binds: g puts the positional values us and the keywords' values ws (names ks) in the parameters' order, defaults among them -/
structure KBinds (K : PySem.W.Frag) (fd : FuncData) (ps ks : List Str) (g : List Value → List Value → List Value) (gV : List V → List V → List V) : Prop where
  to : ∀ (s : Shared) (us ws : List Value), K.In s.heap → (g us ws).length = ps.length → BindsTo s fd ⟨us, ks.zip ws⟩ (ps.zip (g us ws))
  rel : ∀ {vs : List V} {us : List Value} {zs : List V} {ws : List Value}, Vals vs us → Vals zs ws → Vals (gV vs zs) (g us ws)
def tCallK (sp : Sp) (gV : List V → List V → List V) (E : XK) (t tk : TA) : TE := fun σ H Q => t σ H fun vs H1 => tk σ H1 fun zs H2 => sp (gV vs zs) H2 Q E
variable {g : List Value → List Value → List Value} {gV : List V → List V → List V}
theorem run_fnk {pins : List (Addr × Obj)} {σ : St} {H : Hp} {s : Shared} {Q : VK} {us ws : List Value} {vs zs : List V} (F : FnOk X.prog X.w X.K X.mg X.base CX k f fd ps sp) (hr : Room k X.A) (hb : KBinds X.K fd ps ks g gV) (hx : Passes CX X E)
    (I : Inv X pins σ H s) (r : Vals vs us) (rz : Vals zs ws) (h : sp (gV vs zs) H Q E) : wpAny (model X.prog X.w) X.A (call (.ref f) us (ks.zip ws)) (EP X pins σ Q) X.xe s := by
  have r2 := hb.rel r rz
  have hl : (g us ws).length = ps.length := by rw [← r2.length]; exact F.len _ _ _ _ h
  refine wpAny_call (codeAny_mono (F.run X.A X.stack s H ⟨us, ks.zip ws⟩ (g us ws) (gV vs zs) Q E hr I.env0 (hb.to s us ws I.kIn hl) r2 h) fun r s' hq => ?_)
  cases r with
  | error e => exact hx pins σ H s e s' I hq
  | ok fl =>
    cases fl with
    | ret u => exact I.after hq
    | next => exact False.elim hq
    | brk => exact False.elim hq
    | cont => exact False.elim hq
/-- f(e, .., k = v, ..) -/
theorem pe_callK (F : FnOk X.prog X.w X.K X.mg X.base CX k f fd ps sp) (hr : Room k X.A) (hg : Gl X x) (hm : X.mg x = some (.ref f)) (hk : PySem.W.keepIn X.K (.ref f) = true) (hb : KBinds X.K fd ps ks g gV) (hx : Passes CX X E)
    (ha : PA X (e :: es) t) (hkw : PK X kws tk) (hall : (backToKw pos (keywordEach kws X.env)).all (·.1.isSome) = true := by rfl) (hks : (backToKw pos (keywordEach kws X.env)).filterMap (·.1) = ks := by rfl)
    (hdb : (x == ("__debug__" : Str)) = false := by decide) (he : starEach (e :: es) X.env = (false, eval e X.env) :: starEach es X.env := by rfl)
    (hpl : ((backTo pos (starEach (e :: es) X.env)).any (·.1) || (backToKw pos (keywordEach kws X.env)).any (·.1.isNone)) = false := by rfl) :
    PE X (.Call (.Name x p) (e :: es) kws pos) (tCallK sp gV E t tk) := by
  intro pins s σ H Q I h
  refine wpAny_Call_Name_kw (ld_glob I hg hm ?_ hdb)
  refine PySem.W.callWith_KW (h₀ := X.base) I.ok.mod.kin hk hall (thn (ha pos pins s σ H _ I h) fun us s1 ⟨vs, H1, I1, r, q⟩ => ?_) hpl he
  refine thn (hkw pos pins s1 σ H1 _ I1 q) fun ws s2 ⟨zs, H2, I2, rz, q2⟩ => ⟨I2.kIn, ?_⟩
  rw [hks]
  exact run_fnk F hr hb hx I2 r rz q2
end

/-! ### a def's body keeps its promise -/
/-- names: the parameters first -/
structure FnScope (N P : List Str) (sc : Scope) : Prop where
  kind : sc.kind = .function
  co : sc.isCoroutine = false
  gen : sc.isGenerator = false
  nd : N.Nodup
  pre : N.take P.length = P
  par : ∀ x ∈ P, sc.names.lookup x = some .local ∨ sc.names.lookup x = some .cell
  nofree : ∀ y ∈ sc.names, y.2 ≠ .free

theorem bindL_out {kindOf : Str → Option NameKind} {x : Str} : ∀ {binds : List (Str × Value)} {m : Str → Option Value}, (∀ v, (x, v) ∉ binds) → bindL kindOf binds m x = m x
  | [], _, _ => rfl
  | (n, v) :: r, m, h => by
    unfold bindL
    rw [bindL_out fun w hw => h w (List.mem_cons_of_mem _ hw)]
    split
    · have : x ≠ n := by rintro rfl; exact h v List.mem_cons_self
      simp [this]
    · rfl
theorem bindC_out {kindOf : Str → Option NameKind} {x : Str} : ∀ {binds : List (Str × Value)} {m : Str → Option Value}, (∀ v, (x, v) ∉ binds) → bindC kindOf binds m x = m x
  | [], _, _ => rfl
  | (n, v) :: r, m, h => by
    unfold bindC
    rw [bindC_out fun w hw => h w (List.mem_cons_of_mem _ hw)]
    split
    · rfl
    · have : x ≠ n := by rintro rfl; exact h v List.mem_cons_self
      simp [this]
theorem bindL_get {kindOf : Str → Option NameKind} {x : Str} {v : Value} : ∀ {P : List Str} {vs : List Value} {i : Nat} {m : Str → Option Value}, P.Nodup → P[i]? = some x → vs[i]? = some v → kindOf x = some .local →
    bindL kindOf (P.zip vs) m x = some v
  | [], _, _, _, _, h, _, _ => by simp at h
  | _ :: _, [], _, _, _, _, h, _ => by simp at h
  | p :: P, w :: vs, 0, m, nd, h1, h2, hk => by
    simp at h1 h2; subst h1; subst h2
    show bindL kindOf ((p, w) :: P.zip vs) m p = _
    unfold bindL
    rw [bindL_out fun v hv => (List.nodup_cons.mp nd).1 (List.of_mem_zip hv).1, if_pos hk]
    simp
  | p :: P, w :: vs, i + 1, m, nd, h1, h2, hk => by
    show bindL kindOf ((p, w) :: P.zip vs) m x = _
    unfold bindL
    exact bindL_get (i := i) (List.nodup_cons.mp nd).2 (by simpa using h1) (by simpa using h2) hk
theorem bindC_get {kindOf : Str → Option NameKind} {x : Str} {v : Value} : ∀ {P : List Str} {vs : List Value} {i : Nat} {m : Str → Option Value}, P.Nodup → P[i]? = some x → vs[i]? = some v → kindOf x ≠ some .local →
    bindC kindOf (P.zip vs) m x = some v
  | [], _, _, _, _, h, _, _ => by simp at h
  | _ :: _, [], _, _, _, _, h, _ => by simp at h
  | p :: P, w :: vs, 0, m, nd, h1, h2, hk => by
    simp at h1 h2; subst h1; subst h2
    show bindC kindOf ((p, w) :: P.zip vs) m p = _
    unfold bindC
    rw [bindC_out fun v hv => (List.nodup_cons.mp nd).1 (List.of_mem_zip hv).1, if_neg hk]
    simp
  | p :: P, w :: vs, i + 1, m, nd, h1, h2, hk => by
    show bindC kindOf ((p, w) :: P.zip vs) m x = _
    unfold bindC
    exact bindC_get (i := i) (List.nodup_cons.mp nd).2 (by simpa using h1) (by simpa using h2) hk

/-- the names' values at the entry -/
def start (N : List Str) (vs : List V) : St := vs.map some ++ List.replicate (N.length - vs.length) none

/-- the context of a def's body, at its entry; an exception leaves the frame, then lies as CX says -/
def cxOf (CX : CXT) (P : Program) (w : World) (K : PySem.W.Frag) (mg : Str → Option Value) (base : Heap) (N : List Str) (qual : Str) (scope : Scope) (f : Addr) (cd : Value) (A : Around) (outer : List Env) (s : Shared) (H : Hp) (E : XK) : Cx where
  prog := P
  w := w
  K := K
  mg := mg
  base := base
  A := A.deeper (envOfC qual scope s.heap.objs.size f cd)
  N := N
  s₀ := s
  H₀ := H
  env := envOfC qual scope s.heap.objs.size f cd
  outer := outer
  stack := envOfC qual scope s.heap.objs.size f cd :: outer
  ex := []
  calm := true
  fn := fun _ => true
  pn := []
  xe := fun e s' => wpAny (model P w) (A.deeper (envOfC qual scope s.heap.objs.size f cd)) (leaving (envOfC qual scope s.heap.objs.size f cd) e) (fun _ s'' => CX outer H s E e s'') (fun e' s'' => CX outer H s E e' s'') s'

theorem cell_has {sc : Scope} {n : Nat} {x : Str} (h : sc.names.lookup x = some .cell) : ∃ c, (cellsFrom n sc.names []).lookup x = some c := by
  have q := PySem.W.cellsFrom_some sc.names n [] (.inl h)
  exact Option.isSome_iff_exists.mp q

theorem inv_start {CX : CXT} {P : Program} {w : World} {K : PySem.W.Frag} {mg : Str → Option Value} {base : Heap} {N ps : List Str} {qual : Str} {scope : Scope} {f : Addr} {cd : Value} {A : Around} {outer : List Env} {s s1 : Shared} {H : Hp} {E : XK} {us : List Value} {vs : List V}
    (S : FnScope N ps scope) (hd : A.handled = none) (e0 : Env0 P w K mg base A outer s H) (hl : vs.length = ps.length) (r : Vals vs us)
    (x : InCallC s s.heap.objs.size (bindL (envOfC qual scope s.heap.objs.size f cd).kindOf (ps.zip us) fun _ => none) (cellsFrom (s.heap.objs.size + 1) scope.names []) (bindC (envOfC qual scope s.heap.objs.size f cd).kindOf (ps.zip us) fun _ => none) s1) :
    Inv (cxOf CX P w K mg base N qual scope f cd A outer s H E) [] (start N vs) H s1 := by
  have hpl : ps.length ≤ N.length := by have := congrArg List.length S.pre; rw [List.length_take] at this; omega
  obtain ⟨h1, tk, rfl, hk⟩ := x.done
  have noA : ∀ b : Addr, b ∉ (cxOf CX P w K mg base N qual scope f cd A outer s H E).ex := fun b z => absurd (show b ∈ ([] : List Addr) from z) (by simp)
  refine ⟨⟨e0.mod, S.kind, rfl, rfl, Nat.le_refl _, fun y z c h1 h2 => ?_, fun y hy => ?_, fun y c _ h => ?_, fun _ => hd, Around.frames_deeper e0.frames, .inr ⟨rfl, rfl⟩, fun b z => absurd z (noA b), e0.bs, e0.bsz, fun b _ _ => noA b, fun b z => absurd z (noA b), e0.funs, e0.frf⟩,
    rfl, e0.bare, Un.kept hk, ⟨_, x.toInCall.ns, fun i y v h1 h2 h3 => ?_⟩, fun y c h => ⟨_, x.cell y c h⟩, e0.hok.fresh (Nat.le_refl _), fun y c h => ?_, fun p hp => absurd (show p ∈ ([] : List (Addr × Obj)) from hp) (by simp), e0.hok.kept hk, ?_⟩
  · exact name_of_addr x.apart (PySem.mem_of_lookup h1) (PySem.mem_of_lookup h2)
  · have hy : scope.names.lookup y = some .cell ∨ scope.names.lookup y = some .free := hy
    rcases hy with hy | hy
    · exact cell_has hy
    · exact absurd rfl (S.nofree _ (PySem.mem_of_lookup hy))
  · exact Nat.le_of_lt (x.above y c (PySem.mem_of_lookup h))
  · have hi : i < vs.length := by
      unfold start at h2
      by_cases hi : i < vs.length
      · exact hi
      · rw [List.getElem?_append_right (by simpa using hi)] at h2
        rw [List.getElem?_replicate] at h2
        split at h2 <;> cases h2
    have ha : vs[i]? = some v := by
      unfold start at h2
      rw [List.getElem?_append_left (by simpa using hi), List.getElem?_map] at h2
      cases e : vs[i]? with
      | none => rw [e] at h2; cases h2
      | some a => rw [e] at h2; cases h2; rfl
    obtain ⟨u, hu, rv⟩ := r.get ha
    have hp : ps[i]? = some y := by
      rw [← S.pre, List.getElem?_take_of_lt (by omega)]; exact h1
    have ndP : ps.Nodup := by rw [← S.pre]; exact S.nd.sublist (List.take_sublist _ _)
    refine ⟨u, rv, ?_⟩
    rcases S.par y (List.mem_of_getElem? hp) with k | k
    · exact .inl ⟨k, bindL_get ndP hp hu k⟩
    · obtain ⟨c, e⟩ := cell_has (n := s.heap.objs.size + 1) k
      refine .inr ⟨.inl k, c, e, ?_⟩
      have q := x.cell y c e
      rw [bindC_get ndP hp hu (by show scope.names.lookup y ≠ _; rw [k]; decide)] at q
      exact q
  · exact e0.hok.fresh (Nat.le_of_lt (x.above y c (PySem.mem_of_lookup h)))
  · unfold start
    show _ = N.length
    rw [List.length_append, List.length_map, List.length_replicate]
    omega

/-- THE RULE: a def (or a method) of the text, by its body. The body's reading t is chosen for each entry; it is run at the parameters' values -/
theorem fn_of {CX : CXT} {P : Program} {w : World} {K : PySem.W.Frag} {mg : Str → Option Value} {base : Heap} {k : Nat} {f : Addr} {name qual : Str} {params : Arguments} {body : List Stmt} {scope : Scope} {dV kV doc pm cdv ct oc : Value} {an od : Option Addr}
    {osl : Array (Option Value)} {N ps : List Str} {sp : Sp} (lk : K.lookup f = some ⟨oc, od, .func (PySem.W.fnOf name qual params body scope dV kV doc pm an cdv ct), osl⟩) (hcd : PySem.W.codeIn K cdv qual = true) (S : FnScope N ps scope)
    (len : ∀ vs H Q E, sp vs H Q E → vs.length = ps.length)
    (hbody : ∀ (A : Around) (outer : List Env) (s : Shared) (H : Hp) (vs : List V) (Q : VK) (E : XK), Room k (A.deeper (envOfC qual scope s.heap.objs.size f cdv)) → sp vs H Q E →
      ∃ t, PSs (cxOf CX P w K mg base N qual scope f cdv A outer s H E) body t ∧ t { nx := fun _ H' => Q .non H', rt := Q } (start N vs) H) :
    FnOk P w K mg base CX (k + 1) f (PySem.W.fnOf name qual params body scope dV kV doc pm an cdv ct) ps sp := by
  refine ⟨len, fun A outer s H args us vs Q E hr e0 hb r hsp => ?_⟩
  have hl := len _ _ _ _ hsp
  have KX : K.In s.heap := e0.mod.kin.keeps fun b o e => (e0.bs b o e).1
  have lim : s.heap.NoLimit := e0.mod.nolimit.keeps fun b o e => (e0.bs b o e).1
  have hkind : ∀ y ∈ ps.zip us, scope.names.lookup y.1 = some .local ∨ (scope.names.lookup y.1 = some .cell ∧ ((cellsFrom (s.heap.objs.size + 1) scope.names []).lookup y.1).isSome = true) := fun ⟨n, v⟩ hy => by
    rcases S.par n (List.of_mem_zip hy).1 with q | q
    · exact .inl q
    · exact .inr ⟨q, PySem.W.cellsFrom_some _ _ _ (.inl q)⟩
  refine codeAny_call_function hr.depth (KX _ _ lk) rfl S.co S.gen rfl (PySem.W.codeRec_of KX hcd) (hb _ _ _ _ ?_)
  refine wpAny_newFunctionEnv_cells S.kind hkind fun env he s1 x => ?_
  subst he
  refine ⟨lim.keeps x.toInCall.keep, codeAny_func ?_⟩
  obtain ⟨t, ht, hq⟩ := hbody A outer s H vs Q E (hr.deeper _) hsp
  have I : Inv (cxOf CX P w K mg base N qual scope f cdv A outer s H E) [] (start N vs) H s1 := inv_start S hr.hd e0 hl r x
  refine wpAny_mono (ht [] s1 (start N vs) H _ I hq) (fun fl s' hs => ?_) fun e s' hs => hs
  have fin : ∀ {σ' : St} {H' : Hp} {v : V} {u : Value}, Inv (cxOf CX P w K mg base N qual scope f cdv A outer s H E) [] σ' H' s' → RelV v u → Q v H' → CE outer P w H s Q u s' :=
    fun {σ' H' v u} J rv q => ⟨v, H', J.os, J.bare, J.base, J.hok, rv, q⟩
  cases fl with
  | ret u =>
    obtain ⟨v, σ', H', J, rv, q⟩ := hs
    exact fin J rv q
  | next =>
    obtain ⟨σ', H', J, q⟩ := hs
    exact fin (v := V.non) (u := Value.none) J rfl q
  | brk =>
    obtain ⟨_, _, _, q⟩ := hs
    exact False.elim q
  | cont =>
    obtain ⟨_, _, _, q⟩ := hs
    exact False.elim q
end L2

namespace L2
open PySem PySem.Spec PyProof.Rows
section
variable {X : Cx} {x : Str} {p pos : Pos} {e : Expr} {es : List Expr} {t : TA} {id T : String} {r : List V → Hp → VK → Prop}

def tCB (r : List V → Hp → VK → Prop) (t : TA) : TE := fun σ H Q => t σ H fun vs H1 => r vs H1 Q
/-- f(e, ..), f a built-in function -/
theorem pe_callB (hc : CallR X (.builtin id) r) (hg : Gl X x) (hm : X.mg x = none) (hv : bootBuiltins x = some (.builtin id)) (ha : PA X (e :: es) t) (hn : x ≠ "__name__" := by decide) (hdb : (x == ("__debug__" : Str)) = false := by decide)
    (he : starEach (e :: es) X.env = (false, eval e X.env) :: starEach es X.env := by rfl) (hpl : (backTo pos (starEach es X.env)).any (·.1) = false := by rfl) : PE X (.Call (.Name x p) (e :: es) [] pos) (tCB r t) := by
  intro pins s σ H Q I h
  refine wpAny_Call_Name_kw (ld_blt I hg hm hv ?_ hn hdb)
  exact PyProof.Rows.callWith_builtin1 (thn (ha pos pins s σ H _ I h) fun us s1 ⟨vs, H1, I1, r1, q1⟩ => hc pins s1 σ H1 vs us Q I1 r1 q1) he hpl
/-- T(e, ..), T a built-in type -/
theorem pe_callTy (hc : CallR X (.type T) r) (hg : Gl X x) (hm : X.mg x = none) (hv : bootBuiltins x = some (.type T)) (ha : PA X (e :: es) t) (hn : x ≠ "__name__" := by decide) (hdb : (x == ("__debug__" : Str)) = false := by decide)
    (he : starEach (e :: es) X.env = (false, eval e X.env) :: starEach es X.env := by rfl) (hpl : (backTo pos (starEach es X.env)).any (·.1) = false := by rfl) : PE X (.Call (.Name x p) (e :: es) [] pos) (tCB r t) := by
  intro pins s σ H Q I h
  refine wpAny_Call_Name_kw (ld_blt I hg hm hv ?_ hn hdb)
  exact PyProof.Rows.callWith_type1 (thn (ha pos pins s σ H _ I h) fun us s1 ⟨vs, H1, I1, r1, q1⟩ => hc pins s1 σ H1 vs us Q I1 r1 q1) he hpl
/-- T() -/
theorem pe_callTy0 (hc : CallR X (.type T) r) (hg : Gl X x) (hm : X.mg x = none) (hv : bootBuiltins x = some (.type T)) (hn : x ≠ "__name__" := by decide) (hdb : (x == ("__debug__" : Str)) = false := by decide) :
    PE X (.Call (.Name x p) [] [] pos) (tCB r tNil) := by
  intro pins s σ H Q I h
  refine wpAny_Call_Name_kw (ld_blt I hg hm hv ?_ hn hdb)
  exact PyProof.Rows.callWith_type0 (hc pins s σ H [] [] Q I .nil h)
end
end L2

namespace HT
open PySem PyProof.Rows

/-- t < u of tuples of ints -/
def lexLt : List Int → List Int → Bool
  | [], [] => false
  | [], _ :: _ => true
  | _ :: _, [] => false
  | x :: xs, y :: ys => if x = y then lexLt xs ys else decide (x < y)
theorem lexLt_cons (x y : Int) (xs ys : List Int) : lexLt (x :: xs) (y :: ys) = if x = y then lexLt xs ys else decide (x < y) := rfl
theorem lexLt_nil_nil : lexLt [] [] = false := rfl
theorem lexLt_nil_cons (y : Int) (ys : List Int) : lexLt [] (y :: ys) = true := rfl
theorem lexLt_cons_nil (x : Int) (xs : List Int) : lexLt (x :: xs) [] = false := rfl

theorem eqAt_int (A : Around) (s : Shared) (a : Int) (t : Tok) (c : Int) (u : Tok) : ∃ e, SeqAt.EqAt A s (.int a t) (.int c u) e ∧ (e = true ↔ a = c) :=
  ⟨(a == c), SeqAt.EqAt.int_int a t c u, by simp⟩
theorem rcLt_int (A : Around) (s : Shared) (a : Int) (t : Tok) (c : Int) (u : Tok) (prog : Program) (w : World) (E : Value → Shared → Prop) (Q : Value → Shared → Prop) (h : Q (.bool (decide (a < c))) s) :
    wpAny (model prog w) A (richCompare .Lt (.int a t) (.int c u)) Q E s :=
  (PyProof.Rows.lt_int h : wpAny (model prog w) A (compareOp .Lt (.int a t) (.int c u)) Q E s)

section
open PySem.SeqAt
open PySem.AutoSeq1 (wpAny_loadPart')
open PySem.MeetsSeq PySem.MeetsSeq2 PySem.MeetsSeq3

theorem tuple_lt_ints (l b : Addr) (items items2 : Array Value) (n n2 : Nat) (dd dd2 : Option Addr) (sl sl2 : Array (Option Value)) (ns ms : List Int) (hi : IntsAre items.toList ns) (hj : IntsAre items2.toList ms) :
    Meets (Builtin.«tuple.__lt__» ⟨[.ref l, .ref b], []⟩)
      (fun _ R s => s.heap.get? l = some { cls := .type "tuple", dict := dd, data := .seq items n, slots := sl } ∧ s.heap.get? b = some { cls := .type "tuple", dict := dd2, data := .seq items2 n2, slots := sl2 } ∧
        R (.ok (.ret (.bool (lexLt ns ms)))) s) :=
  .of_wp fun prog w A R s h => by
    obtain ⟨hp, g, d, tk, os⟩ := s; obtain ⟨hl, hb, h⟩ := h
    have f2 := AutoSeq1.sub_tuple_tuple
    have z1 : items.size = ns.length := by rw [← hi.length]; simp
    have z2 : items2.size = ms.length := by rw [← hj.length]; simp
    wp_walk using wpAny_loadPart' hl, wpAny_loadPart' hb, wpAny_forIn_list _ (fun rest b s' => b.1 = none ∧ s' = ⟨hp, g, d, tk, os⟩ ∧ ∃ (vs ws : List Value) (ns' ms' : List Int), rest = vs.zip ws ∧
      IntsAre vs ns' ∧ IntsAre ws ms' ∧ ns'.length + items2.size = ms'.length + items.size ∧ R (.ok (.ret (.bool (lexLt ns' ms')))) ⟨hp, g, d, tk, os⟩) _
    case turn =>
      rintro ⟨y, x⟩ rest b s' ⟨hb', rfl, vs, ws, ns', ms', hz, hvi, hwi, hlen, hR⟩
      cases hvi with
      | nil => rw [List.zip_nil_left] at hz; cases hz
      | cons a t hvi' =>
        cases hwi with
        | nil => rw [List.zip_nil_right] at hz; cases hz
        | cons c u hwi' =>
          rw [List.zip_cons_cons] at hz
          injection hz with hyx hrest
          injection hyx with hy hx
          subst hy hx
          rw [lexLt_cons] at hR
          simp only [List.length_cons] at hlen
          obtain ⟨e, he, hiff⟩ := eqAt_int A.in1 ⟨hp, g, d, tk, os⟩ a t c u
          refine wpAny_bind (he prog w _ _ ?_)
          cases e with
          | true =>
            rw [if_pos (hiff.mp rfl)] at hR
            wp_walk
            exact ⟨rfl, rfl, _, _, _, _, hrest, hvi', hwi', by omega, hR⟩
          | false =>
            rw [if_neg (fun q => absurd (hiff.mpr q) Bool.false_ne_true)] at hR
            have hri := rcLt_int A.in1 ⟨hp, g, d, tk, os⟩ a t c u prog w
            wp_walk using hri
            exact ⟨_, rfl, by simpa using hR⟩
    case fin =>
      rintro ⟨b1, b2⟩ s' ⟨hb', rfl, vs, ws, ns', ms', hz, hvi, hwi, hlen, hR⟩
      simp only at hb'
      subst hb'
      have hv : lexLt ns' ms' = decide (items.size < items2.size) := by
        cases hvi with
        | nil =>
          cases hwi with
          | nil =>
            simp only [List.length_nil] at hlen
            rw [lexLt_nil_nil]
            exact (decide_eq_false (by omega)).symm
          | cons c u hw =>
            simp only [List.length_nil, List.length_cons] at hlen
            rw [lexLt_nil_cons]
            exact (decide_eq_true (by omega)).symm
        | cons a t hv =>
          cases hwi with
          | nil =>
            simp only [List.length_nil, List.length_cons] at hlen
            rw [lexLt_cons_nil]
            exact (decide_eq_false (by omega)).symm
          | cons c u hw =>
            rw [List.zip_cons_cons] at hz
            cases hz
      rw [hv] at hR
      wp_walk
      exact ⟨_, rfl, by simpa [Builtin.Tuple.tupleCompareSizes] using hR⟩
    case h =>
      exact ⟨rfl, rfl, items.toList, items2.toList, ns, ms, rfl, hi, hj, by omega, h⟩
end

section
variable {prog : Program} {w : World} {A : Around} {E : Value → Shared → Prop} {s : Shared}

theorem lt_tupInts {l b : Addr} {items items2 : Array Value} {ns ms : List Int} {Q : Value → Shared → Prop} (hl : IsTup s.heap l items) (hb : IsTup s.heap b items2) (hi : IntsAre items.toList ns) (hj : IntsAre items2.toList ms)
    (hu : A.units < cLine) (h : Q (.bool (lexLt ns ms)) s) : wpAny (model prog w) A (compareOp .Lt (.ref l) (.ref b)) Q E s := by
  obtain ⟨⟨cls, dd, data, sl⟩, ho, hc, n, hd⟩ := id hl
  obtain ⟨⟨cls2, dd2, data2, sl2⟩, ho2, hc2, n2, hd2⟩ := id hb
  simp only at hc hd hc2 hd2
  subst hc hd hc2 hd2
  exact richCompare_meets_room (op := .Lt) ⟨_, ho, rfl⟩ ⟨_, ho2, rfl⟩ PySem.F.slot_tuple_lt PySem.F.entry_tuple_lt (PySem.F.args_tuple_lt_2 _ _) (tuple_lt_ints l b items items2 n n2 dd dd2 sl sl2 ns ms hi hj)
    ⟨ho, ho2, show Value.bool (lexLt ns ms) ≠ Value.notImplemented ∧ Q (.bool (lexLt ns ms)) s from ⟨(fun x => nomatch x), h⟩⟩ hu

/-- t + u, t not empty -/
theorem cat_tup {t b : Addr} {vs ws : List Value} {Q : Value → Shared → Prop} (ht : IsTup s.heap t vs.toArray) (hb : IsTup s.heap b ws.toArray) (hv : vs ≠ [])
    (h1 : ws = [] → Q (.ref t) s) (h2 : ws ≠ [] → Q (.ref s.heap.objs.size) { s with heap := s.heap.push { cls := .type "tuple", data := .seq (vs ++ ws).toArray } })
    (hsz : vs.length + ws.length ≤ sizeLine) : wpAny (model prog w) A (binaryOp .Add (.ref t) (.ref b)) Q E s := by
  obtain ⟨⟨cls, dd, data, sl⟩, ho, hc, n, hd⟩ := id ht
  obtain ⟨⟨cls2, dd2, data2, sl2⟩, ho2, hc2, n2, hd2⟩ := id hb
  simp only at hc hd hc2 hd2
  subst hc hd hc2 hd2
  have e : vs.toArray ++ ws.toArray = (vs ++ ws).toArray := by simp
  by_cases hw : ws = []
  · exact concat_meets ⟨_, ho, rfl⟩ ⟨_, ho2, rfl⟩ noFill_tuple_add seq_tuple_add PySem.F.slot_tuple_add PySem.F.entry_tuple_add (PySem.F.args_tuple_add_2 _ _)
      (tuple_addW1 t b vs.toArray ws.toArray n n2 dd dd2 sl sl2 (by simpa using hv) (by simp [hw])) ⟨ho, ho2, h1 hw⟩
  · refine concat_meets ⟨_, ho, rfl⟩ ⟨_, ho2, rfl⟩ noFill_tuple_add seq_tuple_add PySem.F.slot_tuple_add PySem.F.entry_tuple_add (PySem.F.args_tuple_add_2 _ _)
      (tuple_addW2 t b vs.toArray ws.toArray n n2 dd dd2 sl sl2 (by simpa using hv) (by simpa using hw) (by rw [List.size_toArray, List.size_toArray]; exact hsz)) ⟨ho, ho2, ?_⟩
    rw [e]
    exact h2 hw

/-! ### t[a:b], not the whole -/
/-- a slice's bound as a place among n (d where it is left out) -/
def sIx (n d : Nat) : Option Int → Nat
  | none => d
  | some v => if v < 0 then (v + (n : Int)).toNat else min v.toNat n
theorem sIx_none (n d : Nat) : sIx n d none = d := rfl
theorem sIx_nat (n d k : Nat) : sIx n d (some (k : Int)) = min k n := by
  show (if (k : Int) < 0 then ((k : Int) + (n : Int)).toNat else min (k : Int).toNat n) = min k n
  rw [if_neg (by omega), Int.toNat_natCast]
theorem sIx_le (n d : Nat) (hd : d ≤ n) (o : Option Int) : sIx n d o ≤ n := by
  cases o with
  | none => exact hd
  | some v =>
    show (if v < 0 then (v + (n : Int)).toNat else min v.toNat n) ≤ n
    by_cases hv : v < 0
    · rw [if_pos hv]; omega
    · rw [if_neg hv]; exact Nat.min_le_right _ _
theorem clip_eq (v : Int) (n d : Nat) : (if v < 0 then max (v + (n : Int)) 0 else min v (n : Int)) = ((sIx n d (some v) : Nat) : Int) := by
  show (if v < 0 then max (v + (n : Int)) 0 else min v (n : Int)) = (((if v < 0 then (v + (n : Int)).toNat else min v.toNat n) : Nat) : Int)
  by_cases hv : v < 0
  · simp only [if_pos hv]; omega
  · simp only [if_neg hv]; omega
theorem adjust_gen (lo hi : Option Int) (n : Nat) : Builtin.Slice.sliceAdjust lo hi 1 (n : Int) = (((sIx n 0 lo : Nat) : Int), ((sIx n n hi : Nat) : Int)) := by
  have h1 : ¬ ((1 : Int) < 0) := by omega
  unfold Builtin.Slice.sliceAdjust
  simp only [h1, if_false]
  refine Prod.ext ?_ ?_
  · cases lo with
    | none => rfl
    | some v => exact clip_eq v n 0
  · cases hi with
    | none => rfl
    | some v => exact clip_eq v n n
theorem places_gen (i j : Nat) : Builtin.Slice.slicePlaces (i : Int) (j : Int) 1 = j - i := by
  unfold Builtin.Slice.slicePlaces
  have h1 : (1 : Int) > 0 := by omega
  simp only [h1, if_true, Int.ediv_one]
  split <;> omega
theorem slicePart_ {v : Value} {o : Option Int} {Q : Option Int → Shared → Prop} (p : IsPart v o) (h : Q o s) : wpAny (model prog w) A (Builtin.Slice.slicePartIndex v) Q E s := by
  cases p with
  | none => exact slicePart_none h
  | int i t => exact slicePart_int h
theorem sliceApplied_gen {sl : Addr} {vl vu : Value} {lo hi : Option Int} {n : Nat} {Q : Int × Int × Nat → Shared → Prop} (hs : s.heap.IsSliceOf sl vl vu .none) (pl : IsPart vl lo) (pu : IsPart vu hi)
    (h : Q (((sIx n 0 lo : Nat) : Int), 1, sIx n n hi - sIx n 0 lo) s) : wpAny (model prog w) A (Builtin.Slice.sliceApplied (.ref sl) (pure (n : Int))) Q E s := by
  obtain ⟨os, hos, hcs, hds⟩ := id hs
  unfold Builtin.Slice.sliceApplied Builtin.Slice.sliceFields
  refine wpAny_bind (wpAny_bind (wpAny_field hos hds (x := vl) rfl (wpAny_bind (wpAny_field hos hds (x := vu) rfl (wpAny_bind (wpAny_field hos hds (x := .none) rfl (wpAny_pure ?_)))))))
  refine wpAny_bind (slicePart_none ?_)
  show wpAny _ _ (if ((1 : Int) == 0) = true then _ else _) _ _ s
  rw [if_neg (by decide)]
  refine wpAny_bind (slicePart_ pl (wpAny_bind (slicePart_ pu (wpAny_bind (wpAny_pure ?_)))))
  show wpAny _ _ (match Builtin.Slice.sliceAdjust lo hi 1 (n : Int) with | (lo, hi) => pure (lo, (1 : Int), Builtin.Slice.slicePlaces lo hi 1)) _ _ s
  rw [adjust_gen lo hi n]
  show wpAny _ _ (pure (((sIx n 0 lo : Nat) : Int), (1 : Int), Builtin.Slice.slicePlaces ((sIx n 0 lo : Nat) : Int) ((sIx n n hi : Nat) : Int) 1)) _ _ s
  rw [places_gen]
  exact wpAny_pure h
theorem pick_gen (xs : Array Value) (i k : Nat) : ((List.range k).filterMap fun (m : Nat) => xs[((i : Int) + (m : Int) * 1).toNat]?).toArray = ((xs.toList.drop i).take k).toArray := by
  have e : (fun (m : Nat) => xs[((i : Int) + (m : Int) * 1).toNat]?) = fun m => xs[i + m]? := by
    funext m
    have : ((i : Int) + (m : Int) * 1).toNat = i + m := by omega
    rw [this]
  rw [e]
  have := pick_run xs i k
  rw [List.filterMap_map] at this
  have e2 : ((fun x => xs[x]?) ∘ fun x => i + x) = fun m => xs[i + m]? := rfl
  rw [e2] at this
  rw [this]

theorem getItem_tuple_cut {t sl : Addr} {items : Array Value} {vl vu : Value} {lo hi : Option Int} {Q : Value → Shared → Prop} (ht : IsTup s.heap t items) (hs : s.heap.IsSliceOf sl vl vu .none) (pl : IsPart vl lo) (pu : IsPart vu hi)
    (hw : ¬ (sIx items.size 0 lo = 0 ∧ sIx items.size items.size hi = items.size))
    (h : Q (.ref s.heap.objs.size) { s with heap := s.heap.push { cls := .type "tuple", data := .seq ((items.toList.drop (sIx items.size 0 lo)).take (sIx items.size items.size hi - sIx items.size 0 lo)).toArray } })
    (hsz : items.size ≤ sizeLine) : wpAny (model prog w) A (getItem (.ref t) (.ref sl)) Q E s := by
  have htake : sizeOk (.seq ((items.toList.drop (sIx items.size 0 lo)).take (sIx items.size items.size hi - sIx items.size 0 lo)).toArray) := by
    show ((items.toList.drop (sIx items.size 0 lo)).take (sIx items.size items.size hi - sIx items.size 0 lo)).toArray.size ≤ sizeLine
    rw [List.size_toArray, List.length_take, List.length_drop, Array.length_toList]
    omega
  have hj : sIx items.size items.size hi ≤ items.size := sIx_le _ _ (Nat.le_refl _) hi
  obtain ⟨os, hos, hcs, hds⟩ := id hs
  have hTs : s.TypeIs (.ref sl) "slice" := ⟨os, hos, hcs⟩
  unfold getItem
  try with_reducible refine wpAny_holding ?_
  first | refine wpAny_bind (wpAny_pure ?_) | skip
  refine wpAny_bind (wpAny_sequenceKey ht.typeIs (by decide) ?_)
  refine wpAny_bind (wpAny_callSpecial?_slot (name := Str.ofString "__getitem__") ht.typeIs PyProof.Rows.slot_tuple_getitem
    (wpAny_call_entry PyProof.Rows.slot_tuple_getitem ht.typeIs entry_tuple_getitem ?_ (args_tuple_getitem _ _)))
  show wpAny _ _ (Builtin.Tuple.tupleItemsOf (.ref t) >>= _) _ _ s
  refine wpAny_bind (tupleItemsOf_ ht ?_)
  refine wpAny_bind (wpAny_typeOf hTs ?_)
  rw [if_pos (by decide)]
  refine wpAny_bind (sliceApplied_gen hs pl pu ?_)
  have hno : ¬ ((((sIx items.size 0 lo : Nat) : Int) == 0 && (1 : Int) == 1 && (sIx items.size items.size hi - sIx items.size 0 lo) == items.size) = true) := by
    intro q
    rw [Bool.and_eq_true, Bool.and_eq_true] at q
    have q1 : ((sIx items.size 0 lo : Nat) : Int) = 0 := eq_of_beq q.1.1
    have q2 : sIx items.size items.size hi - sIx items.size 0 lo = items.size := eq_of_beq q.2
    exact hw ⟨by omega, by omega⟩
  show wpAny _ _ (if (((sIx items.size 0 lo : Nat) : Int) == 0 && (1 : Int) == 1 && (sIx items.size items.size hi - sIx items.size 0 lo) == items.size) = true then _ else _) _ _ s
  rw [if_neg hno, pick_gen]
  first
    | exact wpAny_bind (m := Builtin.Tuple.tupleExact _) (wpAny_newObj_type (wpAny_pure ⟨_, rfl, wpAny_pure h⟩) htake)
    | exact wpAny_bind (m := Builtin.Tuple.tupleExact _) (wpAny_newObj_type (wpAny_bind (wpAny_pure (wpAny_pure ⟨_, rfl, wpAny_pure h⟩))) htake)
    | exact wpAny_bind (wpAny_bind (m := Builtin.Tuple.tupleExact _) (wpAny_newObj_type (wpAny_pure (wpAny_pure ⟨_, rfl, wpAny_pure h⟩)) htake))
    | exact wpAny_bind (wpAny_bind (m := Builtin.Tuple.tupleExact _) (wpAny_newObj_type (wpAny_pure ⟨_, rfl, wpAny_pure h⟩) htake))
end
end HT

namespace L2
open PySem PySem.Spec PyProof.Rows

/-! ### the parts of a slice -/
abbrev TO := St → Hp → (Option Int → Hp → Prop) → Prop
/-- a slice's part (left out, or an int) -/
def PO (X : Cx) (e : Option Expr) (t : TO) : Prop :=
  ∀ (pins : List (Addr × Obj)) (s : Shared) (σ : St) (H : Hp) (Q : Option Int → Hp → Prop), Inv X pins σ H s → t σ H Q →
    wpAny (model X.prog X.w) X.A (evalPart e X.env) (fun u s' => ∃ o H', Inv X pins σ H' s' ∧ IsPart u o ∧ Q o H') X.xe s
def tNoPart : TO := fun _ H Q => Q none H
def tPart (t : TE) : TO := fun σ H Q => t σ H fun x H1 => ∃ i, x = .int i ∧ Q (some i) H1

theorem intsAre_of {ns : List Int} : ∀ {us : List Value}, Vals (ns.map V.int) us → IntsAre us ns := by
  induction ns with
  | nil => intro us r; rw [List.map_nil] at r; cases r; exact .nil
  | cons n ns ih =>
    intro us r
    rw [List.map_cons] at r
    cases r with
    | cons r1 r2 =>
      obtain ⟨t, e⟩ := r1
      subst e
      exact .cons n t (ih r2)

section
variable {X : Cx} {e : Expr} {te : TE} {lo hi : Option Expr} {tl th : TO} {pos p2 : Pos}

theorem po_none : PO X none tNoPart := by
  intro pins s σ H Q I h
  rw [evalPart_none]
  exact wpAny_pure ⟨none, H, I, .none, h⟩
theorem po_some (h : PE X e te) : PO X (some e) (tPart te) := by
  intro pins s σ H Q I hw
  rw [evalPart_some]
  refine thn (h pins s σ H _ I hw) fun u s1 ⟨x, H1, I1, r1, q1⟩ => ?_
  obtain ⟨i, rfl, q⟩ := q1
  obtain ⟨t, rfl⟩ := r1
  exact ⟨some i, H1, I1, .int i t, q⟩

/-- what a slice of a value is, by values: the slice object stands at sl -/
def SlR (X : Cx) (r : V → Option Int → Option Int → Hp → VK → Prop) : Prop :=
  ∀ (pins : List (Addr × Obj)) (s : Shared) (σ : St) (H : Hp) (x : V) (v vl vu : Value) (lo hi : Option Int) (sl : Addr) (Q : VK), Inv X pins σ H s → RelV x v → s.heap.IsSliceOf sl vl vu .none → IsPart vl lo → IsPart vu hi → r x lo hi H Q →
    ∃ T id, typeLookup (.type T) "__getitem__" = pure (some (.builtin id)) ∧ s.TypeIs v T ∧ wpAny (model X.prog X.w) X.A (getItem v (.ref sl)) (EP X pins σ Q) X.xe s
theorem SlR.or {r r' : V → Option Int → Option Int → Hp → VK → Prop} (h : SlR X r) (h' : SlR X r') : SlR X (fun x lo hi H Q => r x lo hi H Q ∨ r' x lo hi H Q) := by
  intro pins s σ H x v vl vu lo hi sl Q I rx hs pl pu q
  rcases q with q | q
  · exact h pins s σ H x v vl vu lo hi sl Q I rx hs pl pu q
  · exact h' pins s σ H x v vl vu lo hi sl Q I rx hs pl pu q
def tSl (r : V → Option Int → Option Int → Hp → VK → Prop) (te : TE) (tl th : TO) : TE := fun σ H Q => te σ H fun x H1 => tl σ H1 fun l H2 => th σ H2 fun u H3 => r x l u H3 Q
/-- a[lo:hi], any a -/
theorem pe_slice {r : V → Option Int → Option Int → Hp → VK → Prop} (hr : SlR X r) (he : PE X e te) (hl : PO X lo tl) (hu : PO X hi th) : PE X (.Subscript e (.Slice lo hi none p2) pos) (tSl r te tl th) := by
  intro pins s σ H Q I h
  refine Subscript_ (thn (he pins s σ H _ I h) fun v s1 ⟨x, H1, I1, r1, q1⟩ => ?_)
  refine wpAny_Slice (thn (hl pins s1 σ H1 _ I1 q1) fun vl s2 ⟨l, H2, I2, pl, q2⟩ => thn (hu pins s2 σ H2 _ I2 q2) fun vu s3 ⟨u, H3, I3, pu, q3⟩ => ?_)
  rw [evalPart_none]
  refine wpAny_pure ?_
  have I4 : Inv X pins σ H3 { s3 with heap := s3.heap.push { cls := .type "slice", data := .fields #[vl, vu, .none] } } := I3.kept (t' := s3.toks) fun b ob q => Heap.get?_push_of_some _ q
  obtain ⟨T, id, hT, ht, hg⟩ := hr pins { s3 with heap := s3.heap.push { cls := .type "slice", data := .fields #[vl, vu, .none] } } σ H3 x v vl vu l u s3.heap.objs.size Q I4 r1 (Heap.IsSliceOf.new ..) pl pu q3
  show wpAny (model X.prog X.w) X.A (subscriptTail e (.Slice lo hi none p2) v (.ref s3.heap.objs.size)) (EP X pins σ Q) X.xe { s3 with heap := s3.heap.push { cls := .type "slice", data := .fields #[vl, vu, .none] } }
  exact tail_any (ops := [.ref s3.heap.objs.size, v]) ht hT hg (by with_unfolding_all rfl)

/-- the items of xs[lo:hi] -/
def cutV (xs : List V) (lo hi : Option Int) : List V := (xs.drop (HT.sIx xs.length 0 lo)).take (HT.sIx xs.length xs.length hi - HT.sIx xs.length 0 lo)
theorem cutV_length (xs : List V) (lo hi : Option Int) : (cutV xs lo hi).length ≤ xs.length := by
  unfold cutV
  rw [List.length_take, List.length_drop]
  omega
/-- t[lo:hi], not the whole of it (the whole would be t itself) -/
def rSlT (K : PySem.W.Frag) : V → Option Int → Option Int → Hp → VK → Prop := fun x lo hi H Q => ∃ a xs, x = .ref a ∧ SqT K H a xs ∧
  ¬ (HT.sIx xs.length 0 lo = 0 ∧ HT.sIx xs.length xs.length hi = xs.length) ∧ ∀ p, H p = none → Q (.ref p) (upd H p (.tup (cutV xs lo hi)))
theorem sl_tup : SlR X (rSlT X.K) := by
  intro pins s σ H x v vl vu lo hi sl Q I rx hs pl pu h
  obtain ⟨a, xs, rfl, hx, hw, q⟩ := h
  cases rx
  obtain ⟨its, r, ht, hz⟩ := I.tuple hx
  have hlen : its.toArray.size = xs.length := by rw [List.size_toArray]; exact r.length.symm
  refine ⟨"tuple", _, PyProof.Rows.slot_tuple_getitem.lookup, ht.typeIs, ?_⟩
  refine HT.getItem_tuple_cut ht hs pl pu (by rw [hlen]; exact hw) ?_ (by rw [hlen]; exact hz)
  rw [hlen]
  refine ⟨.ref s.heap.objs.size, _, I.laid (t' := s.toks) (o := .tup (cutV xs lo hi)) (fun b ob q => Heap.get?_push_of_some _ q) (Nat.le_refl _) ?_, rfl, q _ (I.hok.fresh (Nat.le_refl _))⟩
  exact ⟨Nat.le_trans (cutV_length xs lo hi) hz, _, (r.drop (HT.sIx xs.length 0 lo)).take (HT.sIx xs.length xs.length hi - HT.sIx xs.length 0 lo), IsTup.new _ _⟩

/-! ### t < u, t + u -/
def rLtT (K : PySem.W.Frag) : R2 := fun x y H Q => ∃ a b ns ms, x = .ref a ∧ y = .ref b ∧ SqT K H a (ns.map V.int) ∧ SqT K H b (ms.map V.int) ∧ Q (.bl (HT.lexLt ns ms)) H
theorem op_ltT (hu : X.A.units < cLine) : OpR X (compareOp .Lt) (rLtT X.K) := by
  intro pins s σ H x y v u Q I rx ry h
  obtain ⟨a, b, ns, ms, rfl, rfl, ha, hb, q⟩ := h
  cases rx
  cases ry
  obtain ⟨its, r1, p1, _⟩ := I.tuple ha
  obtain ⟨its2, r2, p2, _⟩ := I.tuple hb
  have i1 : IntsAre its.toArray.toList ns := intsAre_of r1
  have i2 : IntsAre its2.toArray.toList ms := intsAre_of r2
  exact HT.lt_tupInts p1 p2 i1 i2 hu ⟨.bl (HT.lexLt ns ms), H, I, rfl, q⟩
/-- t + u, t not empty: u empty gives t itself -/
def rCatT (K : PySem.W.Frag) : R2 := fun x y H Q => ∃ a b xs ys, x = .ref a ∧ y = .ref b ∧ SqT K H a xs ∧ SqT K H b ys ∧ xs ≠ [] ∧ xs.length + ys.length ≤ sizeLine ∧
  (ys = [] → Q (.ref a) H) ∧ (ys ≠ [] → ∀ p, H p = none → Q (.ref p) (upd H p (.tup (xs ++ ys))))
theorem Vals.nil_iff {xs : List V} {us : List Value} (r : Vals xs us) : us = [] ↔ xs = [] := by
  cases r with
  | nil => simp
  | cons _ _ => simp
theorem op_catT : OpR X (binaryOp .Add) (rCatT X.K) := by
  intro pins s σ H x y v u Q I rx ry h
  obtain ⟨a, b, xs, ys, rfl, rfl, ha, hb, hx, hz, q1, q2⟩ := h
  cases rx
  cases ry
  obtain ⟨its, r1, p1, _⟩ := I.tuple ha
  obtain ⟨its2, r2, p2, _⟩ := I.tuple hb
  refine HT.cat_tup p1 p2 (fun z => hx (r1.nil_iff.mp z)) (fun z => ⟨.ref a, H, I, rfl, q1 (r2.nil_iff.mp z)⟩) (fun z => ?_) (by rw [← r1.length, ← r2.length]; exact hz)
  refine ⟨.ref s.heap.objs.size, _, I.laid (t' := s.toks) (o := .tup (xs ++ ys)) (fun b ob q => Heap.get?_push_of_some _ q) (Nat.le_refl _) ?_, rfl, q2 (fun w => z (r2.nil_iff.mpr w)) _ (I.hok.fresh (Nat.le_refl _))⟩
  exact ⟨by rw [List.length_append]; exact hz, _, r1.append r2, IsTup.new _ _⟩
/-- tuple(t) -/
theorem call_tupleT : CallR X (.type "tuple") (fun xs H Q => ∃ a ys, xs = [.ref a] ∧ SqT X.K H a ys ∧ Q (.ref a) H) := by
  intro pins s σ H xs us Q I r h
  obtain ⟨a, ys, rfl, ha, q⟩ := h
  obtain ⟨u, rfl, ru⟩ := vals1 r
  cases ru
  obtain ⟨its, _, p1, _⟩ := I.tuple ha
  exact call_tuple_same (items := its.toArray) p1 ⟨.ref a, H, I, rfl, q⟩
end
end L2

namespace L2
open PySem PySem.Spec PyProof.Rows

/-! ### places -/
/-- the place that an index of any sign means -/
def ixN (n : Nat) (i : Int) : Option Nat := if 0 ≤ i then (if i < n then some i.toNat else none) else if -(n : Int) ≤ i then some (i + n).toNat else none
def atI {α : Type} (xs : List α) (i : Int) : Option α := (ixN xs.length i).bind fun j => xs[j]?
theorem ixN_seq {n : Nat} {i : Int} {j : Nat} (h : ixN n i = some j) : seqIndex? i n = some j ∧ j < n ∧ -(n : Int) ≤ i ∧ i < n := by
  unfold ixN at h
  by_cases h0 : 0 ≤ i
  · rw [if_pos h0] at h
    by_cases h1 : i < n
    · rw [if_pos h1] at h
      have e : i.toNat = j := Option.some.inj h
      exact ⟨by rw [seqIndex_of h0 h1, e], by omega, by omega, h1⟩
    · rw [if_neg h1] at h; cases h
  · rw [if_neg h0] at h
    by_cases h1 : -(n : Int) ≤ i
    · rw [if_pos h1] at h
      have e : (i + n).toNat = j := Option.some.inj h
      exact ⟨by rw [seqIndex_neg (by omega) h1, e], by omega, h1, by omega⟩
    · rw [if_neg h1] at h; cases h
theorem atI_get {α : Type} {xs : List α} {i : Int} {v : α} (h : atI xs i = some v) : ∃ j, seqIndex? i xs.length = some j ∧ xs[j]? = some v ∧ j < xs.length ∧ -(xs.length : Int) ≤ i ∧ i < xs.length := by
  unfold atI at h
  cases e : ixN xs.length i with
  | none => rw [e] at h; cases h
  | some j =>
    rw [e] at h
    obtain ⟨h1, h2, h3, h4⟩ := ixN_seq e
    exact ⟨j, h1, h, h2, h3, h4⟩
theorem atI_nat {α : Type} {xs : List α} {j : Nat} {v : α} (h : xs[j]? = some v) : atI xs (j : Int) = some v := by
  have hj : j < xs.length := (List.getElem?_eq_some_iff.mp h).1
  have e : ixN xs.length (j : Int) = some j := by
    unfold ixN
    rw [if_pos (by omega), if_pos (by omega)]; simp
  unfold atI; rw [e]; exact h
theorem atI_last {α : Type} (xs : List α) (v : α) : atI (xs ++ [v]) (-1) = some v := by
  have hl : (xs ++ [v]).length = xs.length + 1 := by simp
  have e : ixN (xs ++ [v]).length (-1) = some xs.length := by
    unfold ixN
    rw [hl, if_neg (by decide), if_pos (by omega)]
    congr 1
    omega
  unfold atI
  rw [e]
  show (xs ++ [v])[xs.length]? = some v
  simp

/-! ### what may be subscripted -/
/-- what stands as an index of a plain subscript -/
def PlainIx (b : Expr) : Prop := ∀ o i, subscripted b false o i = operate [o, i] (getItem o i)
/-- a subscript by values -/
def IxR (X : Cx) (r : R2) : Prop :=
  ∀ (value slice : Expr) (pins : List (Addr × Obj)) (s : Shared) (σ : St) (H : Hp) (x y : V) (v u : Value) (Q : VK), Inv X pins σ H s → RelV x v → RelV y u → r x y H Q →
    subscripted slice false v u = operate [v, u] (getItem v u) → wpAny (model X.prog X.w) X.A (subscriptTail value slice v u) (EP X pins σ Q) X.xe s
/-- a call of a builtin's method by values: the receiver, the arguments -/
def MtR (X : Cx) (id : String) (r : V → List V → Hp → VK → Prop) : Prop :=
  ∀ (pins : List (Addr × Obj)) (s : Shared) (σ : St) (H : Hp) (x : V) (xs : List V) (v : Value) (us : List Value) (Q : VK), Inv X pins σ H s → RelV x v → Vals xs us → r x xs H Q →
    wpAny (model X.prog X.w) X.A (call (.builtin id) (v :: us)) (EP X pins σ Q) X.xe s
section
variable {X : Cx} {a b : Expr} {ta tb : TE} {pos : Pos}
theorem IxR.or {r r' : R2} (h : IxR X r) (h' : IxR X r') : IxR X (fun x y H Q => r x y H Q ∨ r' x y H Q) := by
  intro value slice pins s σ H x y v u Q I rx ry q hs
  rcases q with q | q
  · exact h value slice pins s σ H x y v u Q I rx ry q hs
  · exact h' value slice pins s σ H x y v u Q I rx ry q hs
theorem MtR.or {id : String} {r r' : V → List V → Hp → VK → Prop} (h : MtR X id r) (h' : MtR X id r') : MtR X id (fun x xs H Q => r x xs H Q ∨ r' x xs H Q) := by
  intro pins s σ H x xs v us Q I rx rs q
  rcases q with q | q
  · exact h pins s σ H x xs v us Q I rx rs q
  · exact h' pins s σ H x xs v us Q I rx rs q
/-- a[b] -/
theorem pe_ix {r : R2} (hr : IxR X r) (ha : PE X a ta) (hb : PE X b tb) (hs : PlainIx b) : PE X (.Subscript a b pos) (tOp r ta tb) := by
  intro pins s σ H Q I h
  exact Subscript_ (binT ha hb I h fun v u s2 x y H2 I2 rx ry q => hr a b pins s2 σ H2 x y v u Q I2 rx ry q (hs _ _))

def rIxL (K : PySem.W.Frag) : R2 := fun x y H Q => ∃ p xs i v, x = .ref p ∧ y = .int i ∧ SqL K H p xs ∧ atI xs i = some v ∧ Q v H
def rIxT (K : PySem.W.Frag) : R2 := fun x y H Q => ∃ p xs i v, x = .ref p ∧ y = .int i ∧ SqT K H p xs ∧ atI xs i = some v ∧ Q v H
def rIxS : R2 := fun x y H Q => ∃ z i c, x = .str z ∧ y = .int i ∧ z.length ≤ sizeLine ∧ atI z.cps.toList i = some c ∧ Q (.str ⟨#[c]⟩) H
theorem ix_list : IxR X (rIxL X.K) := by
  intro value slice pins s σ H x y v u Q I rx ry h hs
  obtain ⟨p, xs, i, z, rfl, rfl, hq, he, q⟩ := h
  cases rx
  obtain ⟨t, rfl⟩ := ry
  obtain ⟨its, r, pl, hz⟩ := I.list hq
  obtain ⟨j, h1, h2, h3, h4, h5⟩ := atI_get he
  obtain ⟨w, ew, rw'⟩ := r.get h2
  have hl := r.length
  have hn := line63
  have fin : EP X pins σ Q w s := ⟨z, H, I, rw', q⟩
  by_cases h0 : 0 ≤ i
  · have hj : i.toNat = j := by
      rw [seqIndex_of h0 h5] at h1
      exact Option.some.inj h1
    exact item_listR pl.isList h0 (by omega) (by rw [hj]; simpa using ew) fin hs
  · have hj : (i + (its.toArray.size : Int)).toNat = j := by
      rw [seqIndex_neg (by omega) h4] at h1
      rw [List.size_toArray, ← hl]
      exact Option.some.inj h1
    exact subscriptTail_builtinR (x := w) pl.isList.typeIs slot_list_getitem.lookup
      (wpAny_getItem_list_neg (Q := fun r s' => r = w ∧ EP X pins σ Q r s') pl.isList (by omega) (by rw [List.size_toArray] <;> omega) (by omega) (by rw [hj]; simpa using ew) ⟨rfl, fin⟩) hs
theorem ix_tup : IxR X (rIxT X.K) := by
  intro value slice pins s σ H x y v u Q I rx ry h hs
  obtain ⟨p, xs, i, z, rfl, rfl, hq, he, q⟩ := h
  cases rx
  obtain ⟨t, rfl⟩ := ry
  obtain ⟨its, r, pl, hz⟩ := I.tuple hq
  obtain ⟨j, h1, h2, h3, h4, h5⟩ := atI_get he
  obtain ⟨w, ew, rw'⟩ := r.get h2
  have hl := r.length
  have hn := line63
  have fin : EP X pins σ Q w s := ⟨z, H, I, rw', q⟩
  exact subscriptTail_builtinR (x := w) pl.typeIs slot_tuple_getitem.lookup
    (getItem_tuple (j := j) (Q := fun r s' => r = w ∧ EP X pins σ Q r s') pl (by omega) (by omega) (by rw [List.size_toArray, ← hl]; exact h1) (by simpa using ew) ⟨rfl, fin⟩) hs
theorem ix_str : IxR X rIxS := by
  intro value slice pins s σ H x y v u Q I rx ry h hs
  obtain ⟨z, i, c, rfl, rfl, hz, he, q⟩ := h
  obtain ⟨t, rfl⟩ := rx
  obtain ⟨t', rfl⟩ := ry
  obtain ⟨j, h1, h2, h3, h4, h5⟩ := atI_get he
  have hl : z.cps.toList.length = z.length := by simp [Str.length]
  rw [hl] at h1 h4 h5
  have hn := line63
  exact tail_any (typeIs_str s z t) slot_str_getitem.lookup (getItem_str (c := c) (by
    have e1 : decide (i < -(2 ^ 63 : Int)) = false := decide_eq_false (by omega)
    have e2 : decide (i ≥ 2 ^ 63) = false := decide_eq_false (by omega)
    rw [e1, e2, Bool.or_false]) (by rw [h1]; simpa using h2) ⟨.str ⟨#[c]⟩, H, I.tok _, ⟨_, rfl⟩, q⟩) hs
/-- list, tuple or str -/
def rIx (K : PySem.W.Frag) : R2 := fun x y H Q => rIxL K x y H Q ∨ rIxT K x y H Q ∨ rIxS x y H Q
theorem ix_seq : IxR X (rIx X.K) := ix_list.or (ix_tup.or ix_str)

/-! ### xs[i] = v, any sign -/
/-- the list's object behind a store -/
theorem mapSeq_set (its : List Value) (n j : Nat) (u : Value) : Obj.mapSeq (·.setIfInBounds j u) { cls := .type "list", data := .seq its.toArray n } = { cls := .type "list", data := .seq (its.set j u).toArray n } := by
  simp [Obj.mapSeq]
theorem Inv.lst {pins : List (Addr × Obj)} {σ : St} {H : Hp} {s : Shared} {p : Addr} {xs : List V} (I : Inv X pins σ H s) (h : H p = some (.lst xs)) :
    ∃ (its : List Value) (n : Nat), Vals xs its ∧ s.heap.get? p = some { cls := .type "list", data := .seq its.toArray n } ∧ xs.length ≤ sizeLine := by
  obtain ⟨z, its, n, r, e⟩ := I.hok p _ h
  exact ⟨its, n, r, e, z⟩
/-- the list at p is written by an update of its object -/
theorem Inv.lstUpd {pins : List (Addr × Obj)} {σ : St} {H : Hp} {s : Shared} {p : Addr} {xs ys : List V} {its its' : List Value} {n n' : Nat} {f : Obj → Obj} (I : Inv X pins σ H s) (h : H p = some (.lst xs))
    (ho : s.heap.get? p = some { cls := .type "list", data := .seq its.toArray n }) (hf : f { cls := .type "list", data := .seq its.toArray n } = { cls := .type "list", data := .seq its'.toArray n' }) (r : Vals ys its') (hz : ys.length ≤ sizeLine) (t : Nat) :
    Inv X pins σ (upd H p (.lst ys)) { s with heap := s.heap.update p f, toks := t } := by
  have e : (s.heap.update p f).get? p = some { cls := .type "list", data := .seq its'.toArray n' } := by
    rw [Heap.get?_update_self f ho (by rw [hf] <;> rfl), hf]
  refine I.write (x := p) (e := p) (by rw [h]; trivial) (.inl rfl) (fun b u hb q => (Heap.get?_update_other _ _ (Ne.symm hb)).trans q) ⟨_, e⟩ ?_
  exact ⟨hz, its', n', r, e⟩
def rSetL : V → V → V → Hp → (Hp → Prop) → Prop := fun o i v H Q => ∃ p xs k j, o = .ref p ∧ i = .int k ∧ H p = some (.lst xs) ∧ ixN xs.length k = some j ∧ Q (upd H p (.lst (xs.set j v)))
theorem set_list : PSet X rSetL := by
  intro pins s σ H o i v ov iv u Q I ro ri rv h
  obtain ⟨p, xs, k, j, rfl, rfl, hp, hj, q⟩ := h
  cases ro
  obtain ⟨t, rfl⟩ := ri
  obtain ⟨its, n, r, ho, hz⟩ := I.lst hp
  obtain ⟨h1, h2, h3, h4⟩ := ixN_seq hj
  have hl := r.length
  have hn := line63
  have I' : Inv X pins σ (upd H p (.lst (xs.set j v))) { s with heap := s.heap.update p (Obj.mapSeq (·.setIfInBounds j u)) } :=
    I.lstUpd hp ho (mapSeq_set its n j u) (r.set rv j) (by rw [List.length_set]; exact hz) s.toks
  by_cases h0 : 0 ≤ k
  · have hk : k.toNat = j := by
      rw [seqIndex_of h0 h4] at h1
      exact Option.some.inj h1
    exact PySem.W.ki_setAt ho h0 (by omega) (by rw [List.size_toArray, ← hl]; exact h4) (by rw [hk]; exact ⟨_, I', q⟩)
  · have hk : (k + (its.toArray.size : Int)).toNat = j := by
      rw [seqIndex_neg (by omega) h3] at h1
      rw [List.size_toArray, ← hl]
      exact Option.some.inj h1
    exact PySem.W.ki_setBack ho (by omega) (by rw [List.size_toArray, ← hl]; exact h3) (by omega) (by rw [hk]; exact ⟨_, I', q⟩)

/-! ### slices -/
theorem slice_bounds (lo hi : Option Int) (n : Nat) : (sliceBounds lo hi none n).1 = ((HT.sIx n 0 lo : Nat) : Int) ∧ (sliceBounds lo hi none n).2.1 = ((HT.sIx n n hi : Nat) : Int) ∧ (sliceBounds lo hi none n).2.2 = 1 := by
  refine ⟨?_, ?_, rfl⟩
  · cases lo with
    | none => simp [sliceBounds, HT.sIx]
    | some i =>
      simp only [sliceBounds, HT.sIx, Option.getD_none, show (1 : Int) > 0 by decide, if_true]
      by_cases h : i < 0
      · simp only [h, if_true] <;> omega
      · simp only [h, if_false] <;> omega
  · cases hi with
    | none => simp [sliceBounds, HT.sIx]
    | some i =>
      simp only [sliceBounds, HT.sIx, Option.getD_none, show (1 : Int) > 0 by decide, if_true]
      by_cases h : i < 0
      · simp only [h, if_true] <;> omega
      · simp only [h, if_false] <;> omega
theorem slicePick_cut (its : List Value) (lo hi : Option Int) : slicePick its.toArray lo hi none = ((its.drop (HT.sIx its.length 0 lo)).take (HT.sIx its.length its.length hi - HT.sIx its.length 0 lo)).toArray := by
  obtain ⟨h1, h2, h3⟩ := slice_bounds lo hi its.toArray.size
  unfold slicePick
  rw [h1, h2, h3]
  simp only [sliceRange_one, pick_run, List.size_toArray] <;> rfl
/-- xs[lo:hi] of a list: a new list -/
def rSlL (K : PySem.W.Frag) : V → Option Int → Option Int → Hp → VK → Prop := fun x lo hi H Q => ∃ a xs, x = .ref a ∧ SqL K H a xs ∧ ∀ p, H p = none → Q (.ref p) (upd H p (.lst (cutV xs lo hi)))
theorem sl_list : SlR X (rSlL X.K) := by
  intro pins s σ H x v vl vu lo hi sl Q I rx hs pl pu h
  obtain ⟨a, xs, rfl, hx, q⟩ := h
  cases rx
  obtain ⟨its, r, ht, hz⟩ := I.list hx
  have hlen := r.length
  refine ⟨"list", _, slot_list_getitem.lookup, ht.isList.typeIs, ?_⟩
  refine wpAny_getItem_list_slice ht.isList hs pl pu .none (by simp) ?_ (by rw [List.size_toArray] <;> omega)
  rw [slicePick_cut, ← hlen]
  refine ⟨.ref s.heap.objs.size, _, I.laid (t' := s.toks) (o := .lst (cutV xs lo hi)) (fun b ob q => Heap.get?_push_of_some _ q) (Nat.le_refl _) ?_, rfl, q _ (I.hok.fresh (Nat.le_refl _))⟩
  exact ⟨Nat.le_trans (cutV_length xs lo hi) hz, _, 0, (r.drop (HT.sIx xs.length 0 lo)).take (HT.sIx xs.length xs.length hi - HT.sIx xs.length 0 lo), Heap.get?_push_size _ rfl⟩

/-! ### in, not in: flat items -/
def flatV : V → Bool
  | .non => true
  | .bl _ => true
  | .int _ => true
  | .str _ => true
  | _ => false
/-- == of flat values -/
def eqV : V → V → Bool
  | .non, .non => true
  | .bl a, .bl b => a == b
  | .bl a, .int b => (if a then 1 else 0) == b
  | .int a, .bl b => a == (if b then 1 else 0)
  | .int a, .int b => a == b
  | .str a, .str b => a == b
  | _, _ => false
theorem eqAt_V {A : Around} {s : Shared} {y x : V} {u v : Value} (ry : RelV y u) (rx : RelV x v) (fy : flatV y = true) (fx : flatV x = true) : SeqAt.EqAt A s u v (eqV y x) := by
  cases y with
  | non =>
    cases ry
    cases x with
    | non => cases rx; exact SeqAt.EqAt.same _
    | bl b => cases rx; exact SeqAt.EqAt.none_bool b
    | int b => obtain ⟨t, rfl⟩ := rx; exact SeqAt.EqAt.none_int b t
    | str b => obtain ⟨t, rfl⟩ := rx; exact SeqAt.EqAt.none_str b t
    | _ => exact absurd (show false = true from fx) Bool.false_ne_true
  | bl a =>
    cases ry
    cases x with
    | non => cases rx; exact SeqAt.EqAt.bool_none a
    | bl b => cases rx; exact SeqAt.EqAt.bool_bool a b
    | int b => obtain ⟨t, rfl⟩ := rx; exact SeqAt.EqAt.bool_int a b t
    | str b => obtain ⟨t, rfl⟩ := rx; exact SeqAt.EqAt.bool_str a b t
    | _ => exact absurd (show false = true from fx) Bool.false_ne_true
  | int a =>
    obtain ⟨t', rfl⟩ := ry
    cases x with
    | non => cases rx; exact SeqAt.EqAt.int_none a t'
    | bl b => cases rx; exact SeqAt.EqAt.int_bool a t' b
    | int b => obtain ⟨t, rfl⟩ := rx; exact SeqAt.EqAt.int_int a t' b t
    | str b => obtain ⟨t, rfl⟩ := rx; exact SeqAt.EqAt.int_str a t' b t
    | _ => exact absurd (show false = true from fx) Bool.false_ne_true
  | str a =>
    obtain ⟨t', rfl⟩ := ry
    cases x with
    | non => cases rx; exact SeqAt.EqAt.str_none a t'
    | bl b => cases rx; exact SeqAt.EqAt.str_bool a t' b
    | int b => obtain ⟨t, rfl⟩ := rx; exact SeqAt.EqAt.str_int a t' b t
    | str b => obtain ⟨t, rfl⟩ := rx; exact SeqAt.EqAt.str_str a t' b t
    | _ => exact absurd (show false = true from fx) Bool.false_ne_true
  | _ => exact absurd (show false = true from fy) Bool.false_ne_true
/-- the items' answers, read off the values (a value's own answer does not lean on its token) -/
def eqU (x : V) (u : Value) : Bool := match u with
  | .none => eqV .non x
  | .bool b => eqV (.bl b) x
  | .int i _ => eqV (.int i) x
  | .str z _ => eqV (.str z) x
  | _ => false
theorem eqU_of {x y : V} {u : Value} (r : RelV y u) (f : flatV y = true) : eqU x u = eqV y x := by
  cases y with
  | non => cases r; rfl
  | bl b => cases r; rfl
  | int i => obtain ⟨t, rfl⟩ := r; rfl
  | str z => obtain ⟨t, rfl⟩ := r; rfl
  | _ => exact absurd (show false = true from f) Bool.false_ne_true
theorem any_eqU {x : V} : ∀ {xs : List V} {us : List Value}, Vals xs us → xs.all flatV = true → us.any (eqU x) = xs.any fun y => eqV y x
  | _, _, .nil, _ => rfl
  | y :: xs, u :: us, .cons r t, f => by
    rw [List.all_cons, Bool.and_eq_true] at f
    rw [List.any_cons, List.any_cons, eqU_of r f.1, any_eqU t f.2]
theorem mem_eqAt {A : Around} {s : Shared} {x : V} {v : Value} (rx : RelV x v) (fx : flatV x = true) : ∀ {xs : List V} {us : List Value}, Vals xs us → xs.all flatV = true → ∀ u ∈ us, SeqAt.EqAt A s u v (eqU x u)
  | _, _, .nil, _ => fun u hu => by cases hu
  | y :: xs, u :: us, .cons r t, f => fun u' hu => by
    rw [List.all_cons, Bool.and_eq_true] at f
    rcases List.mem_cons.mp hu with rfl | hu
    · rw [eqU_of r f.1]; exact eqAt_V r rx f.1 fx
    · exact mem_eqAt rx fx t f.2 u' hu
def inV (x : V) (xs : List V) : Bool := xs.any fun y => eqV y x
/-- x in a list or tuple of flat items -/
def rIn (K : PySem.W.Frag) (neg : Bool) : R2 := fun x y H Q => ∃ p xs, y = .ref p ∧ (SqL K H p xs ∨ SqT K H p xs) ∧ flatV x = true ∧ xs.all flatV = true ∧ Q (.bl (if neg then !inV x xs else inV x xs)) H
theorem op_in_seq : OpR X (compareOp .In) (rIn X.K false) := by
  intro pins s σ H x y v u Q I rx ry h
  obtain ⟨p, xs, rfl, hq, fx, fs, q⟩ := h
  cases ry
  rcases hq with hq | hq
  · obtain ⟨its, r, pl, hz⟩ := I.list hq
    refine SeqAt.in_listAt (eqU x) pl.isList (fun w hw => mem_eqAt rx fx r fs w (by simpa using hw)) ⟨.bl _, H, I, rfl, ?_⟩
    rw [show its.toArray.any (eqU x) = its.any (eqU x) by simp, any_eqU r fs]
    exact q
  · obtain ⟨its, r, pl, hz⟩ := I.tuple hq
    refine SeqAt.in_tupleAt (eqU x) pl (fun w hw => mem_eqAt rx fx r fs w (by simpa using hw)) ⟨.bl _, H, I, rfl, ?_⟩
    rw [show its.toArray.any (eqU x) = its.any (eqU x) by simp, any_eqU r fs]
    exact q
theorem op_notIn_seq : OpR X (compareOp .NotIn) (rIn X.K true) := by
  intro pins s σ H x y v u Q I rx ry h
  obtain ⟨p, xs, rfl, hq, fx, fs, q⟩ := h
  cases ry
  rcases hq with hq | hq
  · obtain ⟨its, r, pl, hz⟩ := I.list hq
    refine SeqAt.notIn_listAt (eqU x) pl.isList (fun w hw => mem_eqAt rx fx r fs w (by simpa using hw)) ⟨.bl _, H, I, rfl, ?_⟩
    rw [show its.toArray.any (eqU x) = its.any (eqU x) by simp, any_eqU r fs]
    exact q
  · obtain ⟨its, r, pl, hz⟩ := I.tuple hq
    refine SeqAt.notIn_tupleAt (eqU x) pl (fun w hw => mem_eqAt rx fx r fs w (by simpa using hw)) ⟨.bl _, H, I, rfl, ?_⟩
    rw [show its.toArray.any (eqU x) = its.any (eqU x) by simp, any_eqU r fs]
    exact q
theorem op_notIn_str : OpR X (compareOp .NotIn) (fun x y H Q => ∃ i j, x = .str i ∧ y = .str j ∧ Q (.bl (!(!(Builtin.Str.occurrences j i 0 j.length 1).isEmpty))) H) := by
  intro pins s σ H x y v u Q I rx ry h
  obtain ⟨i, j, rfl, rfl, q⟩ := h
  obtain ⟨t, rfl⟩ := rx
  obtain ⟨t', rfl⟩ := ry
  exact notIn_str ⟨.bl _, H, I, rfl, q⟩

/-! ### len, list(x), tuple(x) of any list or tuple that is read -/
theorem call_len_seq : CallR X (.builtin "len") (fun xs H Q => ∃ p ys, xs = [.ref p] ∧ (SqL X.K H p ys ∨ SqT X.K H p ys) ∧ Q (.int ys.length) H) := by
  intro pins s σ H xs us Q I r h
  obtain ⟨p, ys, rfl, hq, q⟩ := h
  obtain ⟨u, rfl, rx⟩ := vals1 r
  cases rx
  have hn := line63
  rcases hq with hq | hq
  · obtain ⟨its, r', pl, hz⟩ := I.list hq
    have hlen := r'.length
    exact Calls.call_len_list pl.isList (by simp only [List.size_toArray] <;> omega) ⟨.int ys.length, H, I.tok _, ⟨s.toks + 1, by rw [List.size_toArray, hlen]⟩, q⟩
  · obtain ⟨its, r', pl, hz⟩ := I.tuple hq
    have hlen := r'.length
    exact len_tuple pl (by simp only [List.size_toArray] <;> omega) ⟨.int ys.length, H, I.tok _, ⟨s.toks + 1, by rw [List.size_toArray, hlen]⟩, q⟩
theorem call_len_str : CallR X (.builtin "len") (fun xs H Q => ∃ z, xs = [.str z] ∧ z.length ≤ sizeLine ∧ Q (.int z.length) H) := by
  intro pins s σ H xs us Q I r h
  obtain ⟨z, rfl, hz, q⟩ := h
  obtain ⟨u, rfl, t, rfl⟩ := vals1 r
  have hn := line63
  exact len_str (by omega) ⟨.int z.length, H, I.tok _, ⟨_, rfl⟩, q⟩
theorem CallR.or {f : Value} {r r' : List V → Hp → VK → Prop} (h : CallR X f r) (h' : CallR X f r') : CallR X f (fun xs H Q => r xs H Q ∨ r' xs H Q) := by
  intro pins s σ H xs us Q I rs q
  rcases q with q | q
  · exact h pins s σ H xs us Q I rs q
  · exact h' pins s σ H xs us Q I rs q
theorem call_list_of : CallR X (.type "list") (fun xs H Q => ∃ p ys, xs = [.ref p] ∧ (SqL X.K H p ys ∨ SqT X.K H p ys) ∧ ∀ l, H l = none → Q (.ref l) (upd H l (.lst ys))) := by
  intro pins s σ H xs us Q I r h
  obtain ⟨p, ys, rfl, hq, q⟩ := h
  obtain ⟨u, rfl, rx⟩ := vals1 r
  cases rx
  have fin : ∀ (its : List Value), Vals ys its → ys.length ≤ sizeLine → ∀ (h' : Heap) (c' : Nat), (∀ b o', s.heap.get? b = some o' → h'.get? b = some o') →
      h'.get? s.heap.objs.size = some { cls := .type "list", dict := none, data := .seq its.toArray c', slots := #[] } → EP X pins σ Q (.ref s.heap.objs.size) { s with heap := h' } := fun its r' hz h' c' kp e =>
    ⟨.ref s.heap.objs.size, _, I.laid (t' := s.toks) kp (Nat.le_refl _) (show ObjOk X.prog X.w _ h' _ (.lst ys) from ⟨hz, its, c', r', e⟩), rfl, q _ (I.hok.fresh (Nat.le_refl _))⟩
  rcases hq with hq | hq
  · obtain ⟨its, r', pl, hz⟩ := I.list hq
    have hlen := r'.length
    obtain ⟨o, ho, hc, n, hd⟩ := pl.isList
    exact call_list_seq p (.inl rfl) ho hc hd (fun h' c' kp e => fin its r' hz h' c' kp e) (by simp only [List.size_toArray] <;> omega)
  · obtain ⟨its, r', pl, hz⟩ := I.tuple hq
    have hlen := r'.length
    obtain ⟨o, ho, hc, n, hd⟩ := pl
    exact call_list_seq p (.inr rfl) ho hc hd (fun h' c' kp e => fin its r' hz h' c' kp e) (by simp only [List.size_toArray] <;> omega)
theorem call_tuple_of : CallR X (.type "tuple") (fun xs H Q => ∃ p ys, xs = [.ref p] ∧ ((SqL X.K H p ys ∧ ∀ l, H l = none → Q (.ref l) (upd H l (.tup ys))) ∨ (SqT X.K H p ys ∧ Q (.ref p) H))) := by
  intro pins s σ H xs us Q I r h
  obtain ⟨p, ys, rfl, h⟩ := h
  obtain ⟨u, rfl, rx⟩ := vals1 r
  cases rx
  rcases h with ⟨hq, q⟩ | ⟨hq, q⟩
  · obtain ⟨its, r', pl, hz⟩ := I.list hq
    have hlen := r'.length
    refine call_tuple_list pl.isList (fun h' kp => ?_) (by simp only [List.size_toArray] <;> omega)
    have I1 : Inv X pins σ H { s with heap := h' } := I.kept (t' := s.toks) kp
    have I2 : Inv X pins σ (upd H h'.objs.size (.tup ys)) { s with heap := h'.push { cls := .type "tuple", data := .seq its.toArray } } :=
      I1.laid (t' := s.toks) (fun b o e => Heap.get?_push_of_some _ e) (Nat.le_refl _) (show ObjOk X.prog X.w _ _ _ (.tup ys) from ⟨hz, its, r', IsTup.new _ _⟩)
    exact ⟨.ref h'.objs.size, _, I2, rfl, q _ (I1.hok.fresh (Nat.le_refl _))⟩
  · obtain ⟨its, r', pl, hz⟩ := I.tuple hq
    exact call_tuple_same pl ⟨.ref p, H, I, rfl, q⟩

/-! ### the call of a builtin's method: o.m(..) -/
/-- the value is of that builtin type -/
def tyV (K : PySem.W.Frag) (T : String) (x : V) (H : Hp) : Prop := match x with
  | .str _ => T = "str"
  | .int _ => T = "int"
  | .ref p => (T = "list" ∧ ∃ xs, SqL K H p xs) ∨ (T = "tuple" ∧ ∃ o, K.lookup p = some o ∧ o.cls = .type "tuple" ∧ o.dict = none) ∨
      (T = "dict" ∧ (∃ kvs, H p = some (.dK kvs))) ∨ (T = "set" ∧ ∃ S n, H p = some (.set S n))
  | _ => False
theorem tyV_is {pins : List (Addr × Obj)} {σ : St} {H : Hp} {s : Shared} {T : String} {x : V} {v : Value} (I : Inv X pins σ H s) (r : RelV x v) (ty : tyV X.K T x H) :
    s.TypeIs v T ∧ ∀ a, v = .ref a → ∃ ob, s.heap.get? a = some ob ∧ ob.dict = none := by
  cases x with
  | str z =>
    obtain ⟨t, rfl⟩ := r
    cases (show T = "str" from ty)
    exact ⟨typeIs_str s z t, fun _ e => nomatch e⟩
  | int i =>
    obtain ⟨t, rfl⟩ := r
    cases (show T = "int" from ty)
    exact ⟨typeIs_int s i t, fun _ e => nomatch e⟩
  | ref p =>
    cases r
    rcases ty with ⟨rfl, xs, hq⟩ | ⟨rfl, o, hk, hc, hd⟩ | ⟨rfl, hk⟩ | ⟨rfl, S, n, hk⟩
    · obtain ⟨its, _, pl, _⟩ := I.list hq
      refine ⟨pl.isList.typeIs, fun a e => ?_⟩
      cases e
      obtain ⟨o, n, e, c, hd, _⟩ := pl
      exact ⟨o, e, hd⟩
    · refine ⟨⟨o, I.kIn p o hk, hc⟩, fun a e => ?_⟩
      cases e
      exact ⟨o, I.kIn _ o hk, hd⟩
    · have z : ∃ o, s.heap.get? p = some o ∧ o.ExactDict := by
        obtain ⟨kvs, hk⟩ := hk
        obtain ⟨_, _, _, _, o, _, _, e, ex, _⟩ := I.hok p _ hk
        exact ⟨o, e, ex⟩
      obtain ⟨o, e, ex⟩ := z
      refine ⟨⟨o, e, ex.1⟩, fun a e2 => ?_⟩
      cases e2
      exact ⟨o, e, ex.2.1⟩
    · obtain ⟨o, _, _, _, e, ex, _⟩ := I.hok p _ hk
      refine ⟨⟨o, e, ex.1⟩, fun a e2 => ?_⟩
      cases e2
      exact ⟨o, e, ex.2.1⟩
  | _ => exact False.elim ty
def tBM0 (K : PySem.W.Frag) (T : String) (r : V → List V → Hp → VK → Prop) (to : TE) : TE := fun σ H Q => to σ H fun x H1 => tyV K T x H1 ∧ r x [] H1 Q
def tBM (K : PySem.W.Frag) (T : String) (r : V → List V → Hp → VK → Prop) (to : TE) (t : TA) : TE := fun σ H Q => to σ H fun x H1 => tyV K T x H1 ∧ t σ H1 fun xs H2 => r x xs H2 Q
variable {o e : Expr} {es : List Expr} {to : TE} {t : TA} {name : Str} {apos cpos : Pos} {T id : String} {r : V → List V → Hp → VK → Prop}
theorem pe_bm0 (pa : PlainAttrs T) (slot : Slot T name id) (hty : typeOf (.builtin id) = pure (.type "method_descriptor")) (hm : MtR X id r) (ho : PE X o to)
    (hbase : attributeBase o name X.env (eval o X.env) = eval o X.env := by rfl) (hline : (apos.endLine == cpos.line) = true := by rfl) : PE X (.Call (.Attribute o name apos) [] [] cpos) (tBM0 X.K T r to) := by
  intro pins s σ H Q I h
  refine wpAny_Call_method0_late hbase hline (thn (ho pins s σ H _ I h) fun v s1 ⟨x, H1, I1, r1, ty, q1⟩ => ?_)
  obtain ⟨h1, h2⟩ := tyV_is I1 r1 ty
  exact ⟨T, id, pa, slot, hty, h1, h2, Calls.callWith_builtin rfl (PySem.evalArgs_none (hm pins s1 σ H1 x [] v [] Q I1 r1 .nil q1))⟩
theorem pe_bm (pa : PlainAttrs T) (slot : Slot T name id) (hty : typeOf (.builtin id) = pure (.type "method_descriptor")) (hm : MtR X id r) (ho : PE X o to) (ha : PA X (e :: es) t)
    (hbase : attributeBase o name X.env (eval o X.env) = eval o X.env := by rfl)
    (hfew : ((backTo cpos (starEach (e :: es) X.env)).all (fun x => !x.1) && (backToKw cpos (keywordEach [] X.env)).all (fun x => x.1.isSome)
      && decide ((e :: es).length + ([] : List Keyword).length + (if ([] : List Keyword).isEmpty then 0 else 1) < 30)) = true := by rfl)
    (hline : (apos.endLine == cpos.line) = true := by rfl) (hs : starEach (e :: es) X.env = (false, eval e X.env) :: starEach es X.env := by rfl) (hplain : (backTo cpos (starEach es X.env)).any (·.1) = false := by rfl) :
    PE X (.Call (.Attribute o name apos) (e :: es) [] cpos) (tBM X.K T r to t) := by
  intro pins s σ H Q I h
  refine wpAny_Call_method_late hbase hfew hline rfl (thn (ho pins s σ H _ I h) fun v s1 ⟨x, H1, I1, r1, ty, q1⟩ => ?_)
  obtain ⟨h1, h2⟩ := tyV_is I1 r1 ty
  refine ⟨T, id, pa, slot, hty, h1, h2, ?_⟩
  have hA := ha cpos pins s1 σ H1 _ I1 q1
  rw [hs] at hA ⊢
  refine Calls.callWith_builtin (by show (false || (backTo cpos (starEach es X.env)).any (·.1)) = false; rw [hplain] <;> rfl) (Calls.evalArgs_plain ?_)
  exact thn hA fun us s2 ⟨vs, H2, I2, r2, q2⟩ => hm pins s2 σ H2 x vs v us Q I2 r1 r2 q2
/- xs.append(e), list.index on a module's tuple .. are MtR facts of 06m -/
end
end L2

namespace L2
open PySem PySem.Spec PyProof.Rows

def MtM (X : Cx) (id : String) (r : V → List V → Hp → VK → Prop) : Prop :=
  ∀ (pins : List (Addr × Obj)) (s : Shared) (σ : St) (H : Hp) (x : V) (xs : List V) (v : Value) (us : List Value) (Q : VK), Inv X pins σ H s → RelV x v → Vals xs us → r x xs H Q →
    wpAny (model X.prog X.w) X.A (call (.builtin id) (v :: us)) (EP X pins σ Q) X.xe s

/-! ### lists of values -/
theorem Vals.one : ∀ {x : V} {us : List Value}, Vals [x] us → ∃ u, us = [u] ∧ RelV x u
  | _, _, .cons r .nil => ⟨_, rfl, r⟩
theorem Vals.two : ∀ {x y : V} {us : List Value}, Vals [x, y] us → ∃ u v, us = [u, v] ∧ RelV x u ∧ RelV y v
  | _, _, _, .cons r (.cons q .nil) => ⟨_, _, rfl, r, q⟩
theorem Vals.zero : ∀ {us : List Value}, Vals [] us → us = []
  | _, .nil => rfl
theorem Vals.dropLast {xs : List V} {us : List Value} (h : Vals xs us) : Vals xs.dropLast us.dropLast := by
  induction h with
  | nil => exact .nil
  | cons r t ih =>
    cases t with
    | nil => exact .nil
    | cons q t' => exact .cons r ih
theorem Vals.eraseIdx : ∀ {xs : List V} {us : List Value} (i : Nat), Vals xs us → Vals (xs.eraseIdx i) (us.eraseIdx i)
  | _, _, _, .nil => .nil
  | _, _, 0, .cons _ t => t
  | _, _, i + 1, .cons r t => .cons r (Vals.eraseIdx i t)
theorem Vals.reverse {xs : List V} {us : List Value} (h : Vals xs us) : Vals xs.reverse us.reverse := by
  induction h with
  | nil => exact .nil
  | cons r t ih => rw [List.reverse_cons, List.reverse_cons]; exact Vals.append ih (.cons r .nil)
theorem Vals.rep {xs : List V} {us : List Value} (h : Vals xs us) : ∀ k : Nat, Vals (List.replicate k xs).flatten (List.replicate k us).flatten
  | 0 => .nil
  | k + 1 => by
    rw [List.replicate_succ, List.replicate_succ, List.flatten_cons, List.flatten_cons]
    exact Vals.append h (Vals.rep h k)
theorem erase_last {α : Type} (l : List α) : l.eraseIdx (l.length - 1) = l.dropLast := by
  induction l with
  | nil => rfl
  | cons a r ih =>
    cases r with
    | nil => rfl
    | cons b r =>
      have e : (a :: b :: r).length - 1 = ((b :: r).length - 1) + 1 := by
        have h1 : (a :: b :: r).length = r.length + 2 := rfl
        have h2 : (b :: r).length = r.length + 1 := rfl
        omega
      rw [e, List.eraseIdx_cons_succ, ih]
      all_goals rfl
theorem len_erase {α : Type} : ∀ (l : List α) (i : Nat), (l.eraseIdx i).length ≤ l.length
  | [], _ => Nat.le_refl _
  | _ :: _, 0 => Nat.le_succ _
  | _ :: r, i + 1 => Nat.succ_le_succ (len_erase r i)
theorem foldl_rep (its : List Value) : ∀ (k : Nat) (acc : List Value),
    List.foldl (fun x1 x2 => x1 ++ x2) acc.toArray (List.replicate k its.toArray) = (acc ++ (List.replicate k its).flatten).toArray
  | 0, acc => by simp
  | k + 1, acc => by
    have e : acc.toArray ++ its.toArray = (acc ++ its).toArray := by simp
    have e2 : (acc ++ its) ++ (List.replicate k its).flatten = acc ++ (List.replicate (k + 1) its).flatten := by
      rw [List.replicate_succ, List.flatten_cons, List.append_assoc]
    rw [← e2, ← foldl_rep its k (acc ++ its), ← e, List.replicate_succ, List.foldl_cons]

section
variable {X : Cx} {pins : List (Addr × Obj)} {σ : St} {H : Hp} {s : Shared} {l b : Addr} {xs ys zs : List V}

/-! ### the two steps: a tracked list is rewritten, a new list is laid -/
theorem Inv.lset {its its' : List Value} {n : Nat} {f : Array Value → Array Value} {t' : Nat} (I : Inv X pins σ H s) (hH : H l = some (.lst xs))
    (e : s.heap.get? l = some { cls := .type "list", data := .seq its.toArray n }) (hf : f its.toArray = its'.toArray) (hv : Vals ys its') (hz : ys.length ≤ sizeLine) :
    Inv X pins σ (upd H l (.lst ys)) { s with heap := s.heap.update l (Obj.mapSeq f), toks := t' } := by
  have q := PySem.IsL.update e f
  rw [hf] at q
  refine I.write (x := l) (e := l) (by rw [hH]; exact trivial) (.inl rfl) (fun b' u hb hu => (Heap.get?_update_other s.heap (Obj.mapSeq f) (Ne.symm hb)).trans hu) ⟨_, q⟩ ?_
  exact ⟨hz, its', _, hv, q⟩
theorem Inv.lnew {its : List Value} {t' : Nat} (I : Inv X pins σ H s) (hv : Vals ys its) (hz : ys.length ≤ sizeLine) :
    Inv X pins σ (upd H s.heap.objs.size (.lst ys)) { s with heap := s.heap.push { cls := .type "list", data := .seq its.toArray }, toks := t' } :=
  I.laid (fun _ _ q => Heap.get?_push_of_some _ q) (Nat.le_refl _) ⟨hz, its, 0, hv, Heap.get?_push_size _ rfl⟩
theorem Inv.fresh (I : Inv X pins σ H s) : H s.heap.objs.size = none := I.hok.fresh (Nat.le_refl _)
theorem Inv.lstM (I : Inv X pins σ H s) (hH : H l = some (.lst xs)) : xs.length ≤ sizeLine ∧ ∃ (its : List Value) (n : Nat), Vals xs its ∧ xs.length = its.length ∧ s.heap.get? l = some { cls := .type "list", data := .seq its.toArray n } := by
  obtain ⟨z, its, n, r, e⟩ := I.hok l _ hH
  exact ⟨z, its, n, r, r.length, e⟩

theorem notLongL {n : Nat} (h : n ≤ sizeLine) : Builtin.List.listTooLong n = false := by
  unfold Builtin.List.listTooLong
  exact decide_eq_false (by omega)
end

section
variable {X : Cx}

/-! ### methods -/
def rAppend : V → List V → Hp → VK → Prop := fun x vs H Q => ∃ l xs y, x = .ref l ∧ vs = [y] ∧ H l = some (.lst xs) ∧ xs.length < sizeLine ∧ Q .non (upd H l (.lst (xs ++ [y])))
theorem mt_append : MtM X "list.append" rAppend := by
  intro pins s σ H x vs v us Q I rx rv h
  obtain ⟨l, xs, y, rfl, rfl, hH, hz, q⟩ := h
  cases rx
  obtain ⟨u, rfl, ru⟩ := rv.one
  obtain ⟨z, its, n, r, hl, e⟩ := I.lstM hH
  refine call_meets F.slot_list_append ⟨_, e, rfl⟩ F.entry_list_append (F.args_list_append_2 _ _) (PySem.list_append l its.toArray n u (by rw [List.size_toArray]; omega)) ⟨e, ?_⟩
  refine ⟨.non, _, I.lset (its' := its ++ [u]) hH e (by simp) (r.append (.cons ru .nil)) ?_, rfl, q⟩
  rw [List.length_append, List.length_singleton]
  omega

def rExtend : V → List V → Hp → VK → Prop := fun x vs H Q => ∃ l b xs zs, x = .ref l ∧ vs = [.ref b] ∧ H l = some (.lst xs) ∧ H b = some (.lst zs) ∧ xs.length + zs.length ≤ sizeLine ∧ Q .non (upd H l (.lst (xs ++ zs)))
theorem mt_extend : MtM X "list.extend" rExtend := by
  intro pins s σ H x vs v us Q I rx rv h
  obtain ⟨l, b, xs, zs, rfl, rfl, hH, hB, hz, q⟩ := h
  cases rx
  obtain ⟨u, rfl, ru⟩ := rv.one
  cases ru
  obtain ⟨z, its, n, r, hl, e⟩ := I.lstM hH
  obtain ⟨z2, its2, n2, r2, hl2, e2⟩ := I.lstM hB
  have hsz : its.toArray.size + its2.toArray.size ≤ sizeLine := by rw [List.size_toArray, List.size_toArray]; omega
  have hlong : ¬ (!its.toArray.isEmpty && Builtin.List.listTooLong (its.toArray.size + its2.toArray.size)) = true := by
    rw [notLongL hsz, Bool.and_false]
    exact Bool.false_ne_true
  refine call_meets F.slot_list_extend ⟨_, e, rfl⟩ F.entry_list_extend (F.args_list_extend_2 _ _)
    (AutoSeq1.list_extend_list_list_0 l its.toArray n b its2.toArray n2 hlong (by rw [List.size_toArray]; omega) (by omega)) ⟨e, e2, ?_⟩
  refine ⟨.non, _, I.lset (its' := its ++ its2) hH e (by simp) (r.append r2) ?_, rfl, q⟩
  rw [List.length_append]
  omega

def rPop : V → List V → Hp → VK → Prop := fun x vs H Q => ∃ l xs y, x = .ref l ∧ vs = [] ∧ H l = some (.lst xs) ∧ xs[xs.length - 1]? = some y ∧ Q y (upd H l (.lst xs.dropLast))
theorem mt_pop : MtM X "list.pop" rPop := by
  intro pins s σ H x vs v us Q I rx rv h
  obtain ⟨l, xs, y, rfl, rfl, hH, hy, q⟩ := h
  cases rx
  have hus := rv.zero
  subst hus
  obtain ⟨z, its, n, r, hl, e⟩ := I.lstM hH
  obtain ⟨u, hu, ru⟩ := r.get hy
  have hy' : its.toArray[its.toArray.size - 1]? = some u := by
    show its.toArray[its.length - 1]? = some u
    rw [← Array.getElem?_toList, ← hl]
    exact hu
  refine call_meets F.slot_list_pop ⟨_, e, rfl⟩ F.entry_list_pop (F.args_list_pop_1 _) (MeetsSeq.list_pop_last l its.toArray n u hy' (by rw [List.size_toArray]; omega)) ⟨e, ?_⟩
  refine ⟨y, _, I.lset (its' := its.dropLast) hH e ?_ r.dropLast ?_, ru, q⟩
  · show its.toArray.eraseIdxIfInBounds (its.toArray.size - 1) = its.dropLast.toArray
    rw [List.size_toArray, List.eraseIdxIfInBounds_toArray, erase_last]
  · rw [List.length_dropLast]
    omega

def rPopAt : V → List V → Hp → VK → Prop := fun x vs H Q => ∃ l xs i k y, x = .ref l ∧ vs = [.int i] ∧ H l = some (.lst xs) ∧ -(2 ^ 63) ≤ i ∧ i < 2 ^ 63 ∧ seqIndex? i xs.length = some k ∧ xs[k]? = some y ∧ Q y (upd H l (.lst (xs.eraseIdx k)))
theorem mt_popAt : MtM X "list.pop" rPopAt := by
  intro pins s σ H x vs v us Q I rx rv h
  obtain ⟨l, xs, i, k, y, rfl, rfl, hH, h1, h2, hk, hy, q⟩ := h
  cases rx
  obtain ⟨u, rfl, ru⟩ := rv.one
  obtain ⟨t, rfl⟩ := ru
  obtain ⟨z, its, n, r, hl, e⟩ := I.lstM hH
  obtain ⟨w, hw, rw'⟩ := r.get hy
  refine call_meets F.slot_list_pop ⟨_, e, rfl⟩ F.entry_list_pop (F.args_list_pop_2 _ _)
    (MeetsSeq.list_pop_at l its.toArray n i t k w (fitsIndex_both h1 h2) (by rw [List.size_toArray, ← hl]; exact hk) (by rw [← Array.getElem?_toList]; exact hw) (by rw [List.size_toArray]; omega)) ⟨e, ?_⟩
  refine ⟨y, _, I.lset (its' := its.eraseIdx k) hH e ?_ (r.eraseIdx k) ?_, rw', q⟩
  · show its.toArray.eraseIdxIfInBounds k = (its.eraseIdx k).toArray
    rw [List.eraseIdxIfInBounds_toArray]
  · have := len_erase xs k
    omega

def rReverse : V → List V → Hp → VK → Prop := fun x vs H Q => ∃ l xs, x = .ref l ∧ vs = [] ∧ H l = some (.lst xs) ∧ Q .non (upd H l (.lst xs.reverse))
theorem mt_reverse : MtM X "list.reverse" rReverse := by
  intro pins s σ H x vs v us Q I rx rv h
  obtain ⟨l, xs, rfl, rfl, hH, q⟩ := h
  cases rx
  have hus := rv.zero
  subst hus
  obtain ⟨z, its, n, r, hl, e⟩ := I.lstM hH
  refine call_meets F.slot_list_reverse ⟨_, e, rfl⟩ F.entry_list_reverse (F.args_list_reverse_1 _) (AutoSeq1.list_reverse_list_0 l its.toArray n (by rw [List.size_toArray]; omega)) ⟨e, ?_⟩
  refine ⟨.non, _, I.lset (its' := its.reverse) hH e (by simp) r.reverse ?_, rfl, q⟩
  rw [List.length_reverse]
  omega

def rClear : V → List V → Hp → VK → Prop := fun x vs H Q => ∃ l xs, x = .ref l ∧ vs = [] ∧ H l = some (.lst xs) ∧ Q .non (upd H l (.lst []))
theorem mt_clear : MtM X "list.clear" rClear := by
  intro pins s σ H x vs v us Q I rx rv h
  obtain ⟨l, xs, rfl, rfl, hH, q⟩ := h
  cases rx
  have hus := rv.zero
  subst hus
  obtain ⟨z, its, n, r, hl, e⟩ := I.lstM hH
  refine call_meets F.slot_list_clear ⟨_, e, rfl⟩ F.entry_list_clear (F.args_list_clear_1 _) (AutoSeq1.list_clear_list_0 l its.toArray n (by rw [List.size_toArray]; omega)) ⟨e, ?_⟩
  exact ⟨.non, _, I.lset (its' := []) (ys := []) hH e rfl .nil (Nat.zero_le _), rfl, q⟩

/-! ### list + list, list += list, list * int -/
def rCat : R2 := fun x y H Q => ∃ l b xs zs, x = .ref l ∧ y = .ref b ∧ H l = some (.lst xs) ∧ H b = some (.lst zs) ∧ xs.length + zs.length ≤ sizeLine ∧ ∀ p, H p = none → Q (.ref p) (upd H p (.lst (xs ++ zs)))
theorem op_cat : OpR X (binaryOp .Add) rCat := by
  intro pins s σ H x y v u Q I rx ry h
  obtain ⟨l, b, xs, zs, rfl, rfl, hH, hB, hz, q⟩ := h
  cases rx
  cases ry
  obtain ⟨z, its, n, r, hl, e⟩ := I.lstM hH
  obtain ⟨z2, its2, n2, r2, hl2, e2⟩ := I.lstM hB
  refine PySem.P.add_list e e2 ?_ (by rw [List.size_toArray, List.size_toArray]; omega)
  have ea : its.toArray ++ its2.toArray = (its ++ its2).toArray := by simp
  rw [ea]
  exact ⟨.ref _, _, I.lnew (t' := s.toks) (r.append r2) (by rw [List.length_append]; omega), rfl, q _ I.fresh⟩
/-- a list times an int (a negative one is nothing) -/
def rRep : R2 := fun x y H Q => ∃ l k xs, x = .ref l ∧ y = .int k ∧ H l = some (.lst xs) ∧ -(2 ^ 63) ≤ k ∧ k < 2 ^ 63 ∧ xs.length * k.toNat ≤ sizeLine ∧
  ∀ p, H p = none → Q (.ref p) (upd H p (.lst (List.replicate k.toNat xs).flatten))
theorem len_rep {α : Type} (xs : List α) (k : Nat) : (List.replicate k xs).flatten.length = k * xs.length := by
  induction k with
  | zero => simp
  | succ k ih => rw [List.replicate_succ, List.flatten_cons, List.length_append, ih, Nat.succ_mul, Nat.add_comm]
theorem op_rep : OpR X (binaryOp .Mult) rRep := by
  intro pins s σ H x y v u Q I rx ry h
  obtain ⟨l, k, xs, rfl, rfl, hH, h1, h2, hz, q⟩ := h
  cases rx
  obtain ⟨t, rfl⟩ := ry
  obtain ⟨z, its, n, r, hl, e⟩ := I.lstM hH
  have hlen : its.toArray.size * k.toNat ≤ sizeLine := by rw [List.size_toArray, ← hl]; exact hz
  have hcap : ¬ its.toArray.size * k.toNat > (2 ^ 63 - 1) / 8 := by
    have : (sizeLine : Nat) ≤ (2 ^ 63 - 1) / 8 := by decide
    omega
  have hfit : ¬ (!Builtin.List.listFitsIndex k) = true := by
    rw [fitsIndex_both h1 h2]
    exact Bool.false_ne_true
  have hlong : ¬ Builtin.List.listTooLong (its.toArray.size * k.toNat) = true := by
    rw [notLongL hlen]
    exact Bool.false_ne_true
  have hnew : List.foldl (fun x1 x2 => x1 ++ x2) #[] (List.replicate (if its.toArray.isEmpty = true then 0 else k.toNat) its.toArray) = (List.replicate k.toNat its).flatten.toArray := by
    have f0 : ∀ m : Nat, List.foldl (fun x1 x2 => x1 ++ x2) #[] (List.replicate m its.toArray) = (List.replicate m its).flatten.toArray := fun m => by
      have := foldl_rep its m []
      rw [List.nil_append] at this
      exact this
    rw [f0]
    cases its with
    | nil => simp
    | cons a r' => rw [if_neg (by simp)]
  refine wpAny_binaryOp_repeat_ref (T := "list") (U := "int") (by decide) ⟨_, e, rfl⟩ (fun s' => typeIs_int s' k t) noFill_list_mul F.fills_int_mul F.slot_int_rmul repeat_list F.slot_int_index.lookup
    (call_meets F.slot_int_rmul (typeIs_int s k t) F.entry_int_rmul (F.args_int_rmul_2 _ _) (int___rmul___int_list k t l its.toArray n)
      ⟨e, rfl, ⟨_, e, rfl⟩, call_meets F.slot_list_mul ⟨_, e, rfl⟩ F.entry_list_mul (F.args_list_mul_2 _ _) (AutoListH.list___mul___list_int_3 l its.toArray n k t hfit hcap hlong) ⟨e, ?_⟩⟩)
  rw [hnew]
  exact ⟨.ref _, _, I.lnew (t' := s.toks) (r.rep k.toNat) (by rw [len_rep, Nat.mul_comm]; exact hz), rfl, q _ I.fresh⟩

/-! ### del xs[i] -/
theorem del_list {pins : List (Addr × Obj)} {s : Shared} {σ : St} {H : Hp} {l : Addr} {xs : List V} {i : Int} {t : Tok} {k : Nat} {Q : Unit → Shared → Prop} (I : Inv X pins σ H s) (hH : H l = some (.lst xs))
    (h1 : -(2 ^ 63) ≤ i) (h2 : i < 2 ^ 63) (hk : seqIndex? i xs.length = some k) (h : ∀ s', Inv X pins σ (upd H l (.lst (xs.eraseIdx k))) s' → Q () s') :
    wpAny (model X.prog X.w) X.A (delItem (.ref l) (.int i t)) Q X.xe s := by
  obtain ⟨z, its, n, r, hl, e⟩ := I.lstM hH
  refine PySem.P.delItem_list (k := k) e (fitsIndex_both h1 h2) (by rw [List.size_toArray, ← hl]; exact hk) (h _ ?_) (by rw [List.size_toArray]; omega)
  refine I.lset (its' := its.eraseIdx k) (t' := s.toks) hH e ?_ (r.eraseIdx k) ?_
  · show its.toArray.eraseIdxIfInBounds k = (its.eraseIdx k).toArray
    rw [List.eraseIdxIfInBounds_toArray]
  · have := len_erase xs k
    omega
end

/-! ### xs[a:b] = ys -/
section
variable {prog : Program} {w : World} {A : Around} {E : Value → Shared → Prop} {s : Shared}
theorem splice_eq (its its2 : List Value) (a c : Nat) : its.toArray.extract 0 a ++ its2.toArray ++ its.toArray.extract c its.toArray.size = (its.take a ++ its2 ++ its.drop c).toArray := by
  apply Array.toList_inj.mp
  first
    | (simp
       exact List.take_of_length_le (by simp))
    | simp [List.take_of_length_le]
    | simp
theorem bounds_run {a c n : Nat} (hac : a ≤ c) (hc : c ≤ n) : sliceBounds (some (a : Int)) (some (c : Int)) none n = ((a : Int), (c : Int), 1) := by
  simp only [sliceBounds, Option.getD_none]
  have h1 : ¬ ((a : Int) < 0) := by omega
  have h2 : ¬ ((c : Int) < 0) := by omega
  simp only [h1, h2, if_false, show (1 : Int) > 0 by decide, if_true]
  congr 1
  · omega
  · congr 1; omega
set_option maxRecDepth 100000 in
/-- list.__setitem__ with a slice of step one and another list -/
theorem setItem_slice {l b sl : Addr} {items new : Array Value} {n n2 : Nat} {vl vu : Value} {a c : Nat} {Q : Unit → Shared → Prop}
    (e : s.heap.get? l = some { cls := .type "list", data := .seq items n }) (e2 : s.heap.get? b = some { cls := .type "list", data := .seq new n2 }) (hne : l ≠ b)
    (hs : s.heap.IsSliceOf sl vl vu .none) (pl : IsPart vl (some (a : Int))) (pu : IsPart vu (some (c : Int))) (hac : a ≤ c) (hc : c ≤ items.size)
    (hsz : items.size + new.size ≤ sizeLine) (h : Q () { s with heap := s.heap.update l (Obj.mapSeq fun xs => xs.extract 0 a ++ new ++ xs.extract c xs.size) }) :
    wpAny (model prog w) A (setItem (.ref l) (.ref sl) (.ref b)) Q E s := by
  have hl : s.heap.IsList l items := PySem.IsL.isList e
  have hb : s.heap.IsList b new := PySem.IsL.isList e2
  obtain ⟨os, hos, hcs, hds⟩ := id hs
  have hTs : s.TypeIs (.ref sl) "slice" := ⟨os, hos, hcs⟩
  have hstep : ¬ ((rawPart none == rawInt 0) = true) := Bool.false_ne_true
  have hsame : Builtin.List.listSameRef (.ref l) (.ref b) = false := by
    unfold Builtin.List.listSameRef
    exact beq_eq_false_iff_ne.mpr hne
  have hmax : (max (a : Int) (c : Int)).toNat = c := by omega
  have hz' : ((fun xs : Array Value => xs.extract 0 a ++ new ++ xs.extract c xs.size) items).size ≤ sizeLine + 1 := by
    simp only [Array.size_append, Array.size_extract]
    omega
  unfold setItem
  try with_reducible refine wpAny_holding ?_
  first | refine wpAny_bind (wpAny_pure ?_) | skip
  refine wpAny_bind (wpAny_sequenceKey hl.typeIs (by decide) ?_)
  refine wpAny_bind (wpAny_callSpecial?_slot (name := Str.ofString "__setitem__") hl.typeIs slot_list_setitem
    (wpAny_call_entry slot_list_setitem hl.typeIs entry_list_setitem ?_ (args_list_setitem _ _ _)))
  show wpAny _ _ (Builtin.List.listSubscript? (.ref sl) >>= _) _ _ s
  refine wpAny_bind ?_
  unfold Builtin.List.listSubscript?
  refine wpAny_bind (wpAny_specialOf hTs slice_no_index ?_)
  simp only [Option.isNone_none, if_true]
  refine wpAny_pure ?_
  show wpAny _ _ (typeOf (.ref sl) >>= _) _ _ s
  refine wpAny_bind (wpAny_typeOf hTs ?_)
  first
    | rw [if_neg (by decide)]
    | refine PySem.W.KFB.if_not (by decide) ?_
  rw [listSliceParts_eq]
  refine wpAny_bind (wpAny_bind (wpAny_field hos hds (x := .none) rfl (wpAny_bind (wpAny_listPart .none ?_))))
  rw [if_neg hstep]
  refine wpAny_bind (wpAny_field hos hds (x := vl) rfl (wpAny_bind (wpAny_listPart pl ?_)))
  refine wpAny_bind (wpAny_field hos hds (x := vu) rfl (wpAny_bind (wpAny_listPart pu (wpAny_pure ?_))))
  first
    | simp only [hsame, Bool.false_eq_true, if_false]
    | refine PySem.W.KFB.if_not hsame ?_
    | (dsimp only
       rw [if_neg (by rw [hsame]; exact Bool.false_ne_true)])
  refine wpAny_bind (m := Builtin.List.listAllItems (.ref b) "must assign iterable to extended slice") ?_
  unfold Builtin.List.listAllItems
  refine wpAny_bind (wpAny_typeOf hb.typeIs ?_)
  first
    | refine PySem.W.KFB.if_so (by decide) ?_
    | rw [if_pos (by decide)]
    | simp only [beq_self_eq_true, Bool.true_or, if_true]
  unfold Builtin.List.listItems
  refine wpAny_bind (wpAny_seqItems e2 rfl (wpAny_pure ?_))
  refine wpAny_bind (wpAny_bind (wpAny_seqItems e rfl (wpAny_pure ?_)))
  refine wpAny_bind (wpAny_of_eq ((sliceIndices_raw (some (a : Int)) (some (c : Int)) none items.size (by simp)).trans (congrArg (pure : Int × Int × Int → Sem (Int × Int × Int)) (bounds_run hac hc))) ?_)
  show wpAny _ _ (if ((1 : Int) == 1) = true then _ else _) _ _ s
  rw [if_pos (by decide)]
  refine wpAny_bind (wpAny_rule ?_)
  first
    | simp only [notLongL hsz, Bool.false_eq_true, if_false]
    | refine PySem.W.KFB.if_not (notLongL hsz) ?_
  first | refine wpAny_bind (wpAny_pure ?_) | skip
  show wpAny _ _ (updateSeq l (fun xs => xs.extract 0 ((a : Int)).toNat ++ new ++ xs.extract (max (a : Int) (c : Int)).toNat xs.size) >>= _) _ _ s
  rw [hmax, Int.toNat_natCast]
  refine wpAny_bind (wpAny_updateSeq (hz := Nat.le_trans (Nat.le_add_right _ _) hsz) (_hz' := hz') e rfl ?_)
  refine wpAny_bind (wpAny_letGo ?_)
  first
    | exact wpAny_bind (wpAny_pure (wpAny_pure ⟨.none, rfl, wpAny_pure h⟩))
    | exact wpAny_pure ⟨.none, rfl, wpAny_pure h⟩
end

section
variable {X : Cx}
/-- xs[a:c] = ys of another list, at the value level: sl is the slice object that was just made -/
theorem set_slice {pins : List (Addr × Obj)} {s : Shared} {σ : St} {H : Hp} {l b sl : Addr} {xs ys : List V} {a c : Int} {vl vu : Value} {Q : Unit → Shared → Prop} (I : Inv X pins σ H s)
    (hH : H l = some (.lst xs)) (hB : H b = some (.lst ys)) (hne : l ≠ b) (hs : s.heap.IsSliceOf sl vl vu .none) (ra : RelV (.int a) vl) (rc : RelV (.int c) vu) (h0 : 0 ≤ a) (hac : a ≤ c) (hc : c ≤ xs.length)
    (hz : xs.length + ys.length ≤ sizeLine) (h : ∀ s', Inv X pins σ (upd H l (.lst (xs.take a.toNat ++ ys ++ xs.drop c.toNat))) s' → Q () s') :
    wpAny (model X.prog X.w) X.A (setItem (.ref l) (.ref sl) (.ref b)) Q X.xe s := by
  obtain ⟨ta, rfl⟩ := ra
  obtain ⟨tc, rfl⟩ := rc
  obtain ⟨z, its, n, r, hl, e⟩ := I.lstM hH
  obtain ⟨z2, its2, n2, r2, hl2, e2⟩ := I.lstM hB
  obtain ⟨a', rfl⟩ := Int.eq_ofNat_of_zero_le h0
  obtain ⟨c', rfl⟩ := Int.eq_ofNat_of_zero_le (Int.le_trans h0 hac)
  simp only [Int.toNat_natCast] at h
  refine setItem_slice (a := a') (c := c') e e2 hne hs (.int _ _) (.int _ _) (by omega) (by rw [List.size_toArray]; omega) (by rw [List.size_toArray, List.size_toArray]; omega) (h _ ?_)
  refine I.lset (its' := its.take a' ++ its2 ++ its.drop c') (t' := s.toks) hH e ?_ (Vals.append (Vals.append (r.take _) r2) (r.drop _)) ?_
  · exact splice_eq its its2 a' c'
  · rw [List.length_append, List.length_append, List.length_take, List.length_drop]
    omega
end
end L2

namespace Att
open PySem PySem.W PySem.Calls PyProof.Rows

/-! ### the script -/
theorem ints_of_wellAll {P : Params} {h : Heap} : ∀ (ns : List Int) (vs : List Value), WellAll P h vs (ns.map WData.int) → IntsAre vs ns := by
  intro ns
  induction ns with
  | nil =>
    intro vs w
    rw [List.map_nil] at w
    cases w
    exact .nil
  | cons n ns ih =>
    intro vs w
    rw [List.map_cons] at w
    cases w with
    | cons a b =>
      cases a
      exact .cons _ _ (ih _ b)

theorem script_of {l : OpenLaw} {n : Nat} (hn : l.most = some n) {P : Params} {h : Heap} {args : List WData} {vals : List Value}
    (hpre : l.row.toRowW.claim.pre args = true) (hwl : WellAll P h vals args) :
    ∃ a vs ns, vals = [Value.ref a] ∧ args = [WData.list (ns.map WData.int)] ∧ h.get? a = some { cls := .type "list", data := .seq vs.toArray } ∧ IntsAre vs ns ∧ ns.length ≤ n := by
  have hsh : WShape.hasAll [] args [.list .int] = true := (pre_splitW hpre).1
  have hc : l.pre.holds [] { args := args } = true := (pre_splitW hpre).2
  obtain ⟨d, r, rfl, h1, h2⟩ := hasAllW_cons hsh
  obtain rfl := hasAllW_nil h2
  obtain ⟨xs, rfl, h3⟩ := hasW_list h1
  obtain ⟨ns, rfl⟩ := items_int h3
  have hlen : ns.length ≤ n := by
    unfold OpenLaw.pre at hc
    have h4 : (WTm.not (.lt (.lit (.int (n : Int))) (.len (.arg 0)))).holds [] { args := [.list (ns.map .int)] } = true := by
      have h4 := (holds_andW hc).1
      rw [hn] at h4
      exact h4
    have h5 := condW_of h4 (w_not (w_lt w_lit (w_len_list (w_arg rfl))))
    rw [List.length_map] at h5
    refine Nat.le_of_not_lt fun q => ?_
    have q' : (n : Int) < ((ns.length : Nat) : Int) := by omega
    first
      | (rw [decide_eq_true q'] at h5; exact absurd h5 (by decide))
      | (simp at h5; omega)
  cases hwl with
  | cons w1 w2 =>
    cases w2
    cases w1 with
    | list ho hall => exact ⟨_, _, ns, rfl, rfl, ho, ints_of_wellAll ns _ hall, hlen⟩

theorem post_true (l : OpenLaw) (args : List WData) : l.row.toRowW.claim.post args (.bool true) args = true :=
  postW_of (r := l.row.toRowW) (X := (true == true))
    (show WShape.has [] (.bool true) .bool = true by first | rfl | decide | simp [WShape.has, WShape.arms, WShape.armsAll])
    (show (WTm.eq .res (.lit (.bool true))).value [] { args := args, res := some (.bool true), after := args } = some (.bool (true == true)) from w_eq_bool (w_res rfl) w_lit) rfl

/-! ### the attachment: holds_open's last premise (the goal 'hc' behind k_head) from a wpAny of the law's body -/
theorem attach {l : OpenLaw} {n : Nat} {q : Program} {loose : List Str} {XP : (Str → Option Value) → Heap → Prop} {YP : World → Heap → Prop} {d : DefRec} {x : Str}
    (hn : l.most = some n) (hdf : d.params.defaults = [])
    (hbind : ∀ pm cd doc v : Value, bindArgs (docDef d.name d.params d.body d.scope pm cd doc) ⟨[v], []⟩ = pure [(x, v)])
    (hx : d.scope.names.lookup x = some .local ∨ d.scope.names.lookup x = some .cell)
    (hk : d.scope.kind = .function) (hco : d.scope.isCoroutine = false) (hgen : d.scope.isGenerator = false)
    (body : ∀ (w : World) (s₀ s₁ s : Shared) (mg mb : Str → Option Value) (fa : Addr) (o : Obj) (pm cd doc : Value) (a : Addr) (vs : List Value) (ns : List Int),
      Ground q loose [] XP w s₀ mg mb s₁.heap → YP w s₁.heap →
      s₁.heap.get? fa = some o → o.data = .func (docDef d.name d.params d.body d.scope pm cd doc) → s₁.heap.CodeRec cd d.name → mg d.name = some (.ref fa) →
      s₁.heap.get? a = some { cls := .type "list", data := .seq vs.toArray } → IntsAre vs ns → ns.length ≤ n →
      s.gens = #[] → s.os = s₁.os →
      Fr s₁.heap s₁.heap.objs.size s.heap (bindL (envOfC d.name d.scope s₁.heap.objs.size fa cd).kindOf [(x, .ref a)] fun _ => none) →
      Cl s₁.heap.objs.size (cellsFrom (s₁.heap.objs.size + 1) d.scope.names []) s.heap (bindC (envOfC d.name d.scope s₁.heap.objs.size fa cd).kindOf [(x, .ref a)] fun _ => none) →
      wpAny (model l.prog w) (callerA.deeper (envOfC d.name d.scope s₁.heap.objs.size fa cd)) (execs d.body (envOfC d.name d.scope s₁.heap.objs.size fa cd))
        (fun f s' => f = .ret (.bool true) ∧ OldK s₁.heap s'.heap ∧ s'.os = s₁.os ∧ AllBare s'.gens) (fun _ _ => False) s) :
    WalkO q loose XP YP l.row.toRowW d [] (fun f vs => PySem.call f vs) := by
  intro w s₀ s₁ mg mb G Y fa o pm cd doc dV kV ho hd hcd hD hmg hg args vals as hpre hlay hrd hwl hlo
  obtain rfl : dV = .none := Dflts.none hD hdf
  obtain rfl : kV = .none := Dflts.noKw hD
  obtain ⟨a, vs, ns, rfl, rfl, hobj, hints, hlen⟩ := script_of hn hpre hwl
  refine enter_call ?_
  refine call_cells_ret (o := o) (by rw [depth_caller]; decide) ho (fd_plain hd) G.T.nolimit hcd (hbind pm cd doc (.ref a)) (fun y hy => ?_) (fun h₁ tk F X => ?_) hco hgen hk
  · obtain rfl : y = (x, Value.ref a) := List.mem_singleton.mp hy
    rcases hx with e | e
    · exact .inl e
    · exact .inr ⟨e, cellsFrom_some _ _ _ (.inl e)⟩
  · refine wpAny_mono (body w s₀ s₁ { s₁ with heap := h₁, toks := tk } mg mb fa o pm cd doc a vs ns G Y ho (fd_plain hd) hcd hmg hobj hints hlen hg rfl F X) (fun f s' hq => ?_) (fun _ _ hq => hq)
    obtain ⟨rfl, h2, h3, h4⟩ := hq
    exact ⟨.inl ⟨.bool true, .bool true, [], rfl, fun _ => rfl, .bool true, post_true l _, fun _ => ⟨List.Pairwise.nil, fun _ hm => (nomatch hm)⟩⟩, h2, h3, h4⟩

/-- the same from a codeAny of the CALL (for a layer whose function contracts speak of calls) -/
theorem attach_call {l : OpenLaw} {n : Nat} {q : Program} {loose : List Str} {XP : (Str → Option Value) → Heap → Prop} {YP : World → Heap → Prop} {d : DefRec}
    (hn : l.most = some n) (hdf : d.params.defaults = [])
    (call : ∀ (w : World) (s₀ s₁ : Shared) (mg mb : Str → Option Value) (fa : Addr) (o : Obj) (pm cd doc : Value) (a : Addr) (vs : List Value) (ns : List Int),
      Ground q loose [] XP w s₀ mg mb s₁.heap → YP w s₁.heap →
      s₁.heap.get? fa = some o → o.data = .func (docDef d.name d.params d.body d.scope pm cd doc) → s₁.heap.CodeRec cd d.name → mg d.name = some (.ref fa) →
      s₁.heap.get? a = some { cls := .type "list", data := .seq vs.toArray } → IntsAre vs ns → ns.length ≤ n → s₁.gens = #[] →
      codeAny (model l.prog w) callerA (.call (.ref fa) ⟨[.ref a], []⟩) (fun r s' => r = .ok (.ret (.bool true)) ∧ OldK s₁.heap s'.heap ∧ s'.os = s₁.os ∧ AllBare s'.gens) s₁) :
    WalkO q loose XP YP l.row.toRowW d [] (fun f vs => PySem.call f vs) := by
  intro w s₀ s₁ mg mb G Y fa o pm cd doc dV kV ho hd hcd hD hmg hg args vals as hpre hlay hrd hwl hlo
  obtain rfl : dV = .none := Dflts.none hD hdf
  obtain rfl : kV = .none := Dflts.noKw hD
  obtain ⟨a, vs, ns, rfl, rfl, hobj, hints, hlen⟩ := script_of hn hpre hwl
  refine enter_call (codeAny_mono (call w s₀ s₁ mg mb fa o pm cd doc a vs ns G Y ho (fd_plain hd) hcd hmg hobj hints hlen hg) fun r s' hq => ?_)
  obtain ⟨rfl, h2, h3, h4⟩ := hq
  exact ⟨.inl ⟨.bool true, .bool true, [], rfl, fun _ => rfl, .bool true, post_true l _, fun _ => ⟨List.Pairwise.nil, fun _ hm => (nomatch hm)⟩⟩, h2, h3, h4⟩

/-- the same where the top left finished generators (o_head chose holds_openN): nothing may have changed at all and no generator may be left -/
theorem attachN {l : OpenLaw} {n : Nat} {q : Program} {loose : List Str} {XP : (Str → Option Value) → Heap → Prop} {YP : World → Heap → Prop} {d : DefRec} {x : Str}
    (hn : l.most = some n) (hdf : d.params.defaults = [])
    (hbind : ∀ pm cd doc v : Value, bindArgs (docDef d.name d.params d.body d.scope pm cd doc) ⟨[v], []⟩ = pure [(x, v)])
    (hx : d.scope.names.lookup x = some .local ∨ d.scope.names.lookup x = some .cell)
    (hk : d.scope.kind = .function) (hco : d.scope.isCoroutine = false) (hgen : d.scope.isGenerator = false)
    (body : ∀ (w : World) (s₀ s₁ s : Shared) (mg mb : Str → Option Value) (fa : Addr) (o : Obj) (pm cd doc : Value) (a : Addr) (vs : List Value) (ns : List Int),
      Ground q loose [] XP w s₀ mg mb s₁.heap → YP w s₁.heap →
      s₁.heap.get? fa = some o → o.data = .func (docDef d.name d.params d.body d.scope pm cd doc) → s₁.heap.CodeRec cd d.name → mg d.name = some (.ref fa) →
      s₁.heap.get? a = some { cls := .type "list", data := .seq vs.toArray } → IntsAre vs ns → ns.length ≤ n →
      s.gens = #[] → s.os = s₁.os →
      Fr s₁.heap s₁.heap.objs.size s.heap (bindL (envOfC d.name d.scope s₁.heap.objs.size fa cd).kindOf [(x, .ref a)] fun _ => none) →
      Cl s₁.heap.objs.size (cellsFrom (s₁.heap.objs.size + 1) d.scope.names []) s.heap (bindC (envOfC d.name d.scope s₁.heap.objs.size fa cd).kindOf [(x, .ref a)] fun _ => none) →
      wpAny (model l.prog w) (callerA.deeper (envOfC d.name d.scope s₁.heap.objs.size fa cd)) (execs d.body (envOfC d.name d.scope s₁.heap.objs.size fa cd))
        (fun f s' => f = .ret (.bool true) ∧ (∀ b o, s₁.heap.get? b = some o → s'.heap.get? b = some o) ∧ s'.os = s₁.os ∧ s'.gens = #[]) (fun _ _ => False) s) :
    WalkN q loose XP YP l.row.toRowW d [] (fun f vs => PySem.call f vs) := by
  intro w s₀ s₁ mg mb G Y fa o pm cd doc dV kV ho hd hcd hD hmg hg args vals as hpre hlay hrd hwl hlo
  obtain rfl : dV = .none := Dflts.none hD hdf
  obtain rfl : kV = .none := Dflts.noKw hD
  obtain ⟨a, vs, ns, rfl, rfl, hobj, hints, hlen⟩ := script_of hn hpre hwl
  refine enter_callW ?_
  refine call_cells_ret (o := o) (by rw [depth_caller]; decide) ho (fd_plain hd) G.T.nolimit hcd (hbind pm cd doc (.ref a)) (fun y hy => ?_) (fun h₁ tk F X => ?_) hco hgen hk
  · obtain rfl : y = (x, Value.ref a) := List.mem_singleton.mp hy
    rcases hx with e | e
    · exact .inl e
    · exact .inr ⟨e, cellsFrom_some _ _ _ (.inl e)⟩
  · refine wpAny_mono (body w s₀ s₁ { s₁ with heap := h₁, toks := tk } mg mb fa o pm cd doc a vs ns G Y ho (fd_plain hd) hcd hmg hobj hints hlen hg rfl F X) (fun f s' hq => ?_) (fun _ _ hq => hq)
    obtain ⟨rfl, h2, h3, h4⟩ := hq
    exact ⟨.inl ⟨.bool true, .bool true, [], rfl, fun _ => rfl, .bool true, post_true l _, fun _ => ⟨List.Pairwise.nil, fun _ hm => (nomatch hm)⟩⟩, h2, h3, h4⟩

/-! ### rules over ANY heap (no ledger) from facts about the written part K: the library's own take a ledger (News) for what they write -/
section
variable {prog : Program} {w : World} {A : Around} {E : Value → Shared → Prop} {s : Shared} {K : Frag}

/-- a def of the module, or a method (qual 'C.m'), entered: the frame is the next address; cells behind it -/
theorem call_fn {R : Result → Shared → Prop} {name qual : Str} {params : Arguments} {body : List Stmt} {scope : Scope} {dV kV doc pm cdv ct oc : Value} {an od : Option Addr} {osl : Array (Option Value)} {f : Addr} {args : Args} {binds : List (Str × Value)}
    (X : K.In s.heap) (hlim : s.heap.NoLimit) (ho : K.lookup f = some ⟨oc, od, .func (fnOf name qual params body scope dV kV doc pm an cdv ct), osl⟩) (hcd : codeIn K cdv qual = true) (hroom : A.depth < recursionLimit)
    (hbind : BindsTo s (fnOf name qual params body scope dV kV doc pm an cdv ct) args binds)
    (hkind : (binds.all fun y => scope.names.lookup y.1 == some .local || scope.names.lookup y.1 == some .cell) = true)
    (h : ∀ s₁, InCallC s s.heap.objs.size (bindL (envOfC qual scope s.heap.objs.size f cdv).kindOf binds fun _ => none) (cellsFrom (s.heap.objs.size + 1) scope.names [])
        (bindC (envOfC qual scope s.heap.objs.size f cdv).kindOf binds fun _ => none) s₁ →
      wpAny (model prog w) (A.deeper (envOfC qual scope s.heap.objs.size f cdv)) (execs body (envOfC qual scope s.heap.objs.size f cdv))
        (fun fl s' => R (.ok (.ret (match fl with | .ret v => v | _ => .none))) s')
        (fun e s' => wpAny (model prog w) (A.deeper (envOfC qual scope s.heap.objs.size f cdv)) (leaving (envOfC qual scope s.heap.objs.size f cdv) e) (fun _ s'' => R (.error e) s'') (fun e' s'' => R (.error e') s'') s') s₁)
    (hco : scope.isCoroutine = false) (hgen : scope.isGenerator = false) (hk : scope.kind = .function) : codeAny (model prog w) A (.call (.ref f) args) R s := by
  refine codeAny_call_function hroom (X _ _ ho) rfl hco hgen rfl (codeRec_of X hcd) (hbind _ _ _ _ ?_)
  refine wpAny_newFunctionEnv_cells hk (kindsX hkind _) fun env he s₁ x => ?_
  subst he
  exact ⟨hlim.keeps x.toInCall.keep, codeAny_func (h s₁ x)⟩

/-- C(..): dict at size, instance at size + 1, then __init__ -/
theorem make_obj {R : Result → Shared → Prop} {C fI : Addr} {rest : List Value} {kw : List (Str × Value)}
    (X : K.In s.heap) (hm : makesIn K C = true) (hi : findIn K (.ref C) "__init__" = some (some (.ref fI))) (hf : isFn K (.ref fI) = true)
    (h : codeAny (model prog w) (A.under (.builtin "type.__call__" ⟨.ref C :: rest, kw⟩)) (.call (.ref fI) ⟨.ref (s.heap.objs.size + 1) :: rest, kw⟩) (InitBack (s.heap.objs.size + 1) R)
      { s with heap := (s.heap.push emptyDict).push (instObj C s.heap.objs.size) }) : codeAny (model prog w) A (.call (.ref C) ⟨rest, kw⟩) R s := by
  obtain ⟨hh, g, d, t, os⟩ := s
  exact make_core (makes_of X hm) (looks_findIn X hi) (fun self => bind_fn X self (beq_iff_eq.mp hf)) (.inl rfl) h

/-- x.name where the instance's dict holds the name and the class does not -/
theorem get_field {x C : Addr} {ox : Obj} {es : List DictEntry} {n : Nat} {name : Str} {expr : Bool} {v : Value} {Q : Value → Shared → Prop}
    (X : K.In s.heap) (I : PySem.W.InstAt s.heap x ox C (some (dictOf es n))) (hg : plainGet K C name = true) (hh : hasDictIn K C = true) (ha : findIn K (.ref C) name = some none)
    (hl : getL name es = some (some v)) (hv : handedIn v = true) (h : Q v { s with toks := s.toks + 1 }) : wpAny (model prog w) A (getAttr (.ref x) name expr) Q E s :=
  get_value X I (plainGet_of hg).1 (findObj_own hh ha rfl hl) hv h

/-- x.m(..): the method found in the class -/
theorem get_method {x C f : Addr} {ox : Obj} {es : List DictEntry} {n : Nat} {name : Str} {pl : Sem Bool} {Q : Value × List Value → Shared → Prop}
    (X : K.In s.heap) (I : PySem.W.InstAt s.heap x ox C (some (dictOf es n))) (hg : plainGet K C name = true) (hf : findIn K (.ref C) name = some (some (.ref f))) (ht : isFn K (.ref f) = true)
    (hl : getL name es = some none) (h : Q (.ref f, [.ref x]) s) : wpAny (model prog w) A (getMethod (.ref x) name pl) Q E s :=
  method_fn X I (plainGet_of hg).1 (plainGet_of hg).2 hf (beq_iff_eq.mp ht) (by show (lookIn name (dictOf es n)).map _ = _; rw [lookIn_dict, hl]; rfl) h

/-! the whole heap as the ledger: makes every rule that writes through a ledger a rule over any heap -/
def noObjs (h : Heap) : Heap := { h with objs := #[] }
theorem noObjs_get (h : Heap) (b : Addr) : (noObjs h).get? b = none := by
  cases e : (noObjs h).get? b with
  | none => rfl
  | some o => exact absurd (Heap.lt_size e) (Nat.not_lt_zero _)
def ledger (h : Heap) (L d : Addr) : List (Addr × Obj) := (List.range h.objs.size).filterMap fun a => if a = L ∨ a = d then none else (h.get? a).map fun o => (a, o)
theorem mem_ledger {h : Heap} {L d a : Addr} {o : Obj} : (a, o) ∈ ledger h L d ↔ a ≠ L ∧ a ≠ d ∧ h.get? a = some o := by
  unfold ledger
  rw [List.mem_filterMap]
  constructor
  · rintro ⟨b, _, e⟩
    split at e
    · cases e
    · rename_i hb
      obtain ⟨o', ho, e'⟩ := Option.map_eq_some_iff.mp e
      cases e'
      exact ⟨fun q => hb (.inl q), fun q => hb (.inr q), ho⟩
  · rintro ⟨n1, n2, ho⟩
    refine ⟨a, List.mem_range.mpr (Heap.lt_size ho), ?_⟩
    rw [if_neg (show ¬ (a = L ∨ a = d) from fun q => q.elim n1 n2), ho] <;> rfl
theorem news_ledger {h : Heap} {L d : Addr} {od : Obj} (hne : d ≠ L) (ho : h.get? d = some od) : News (noObjs h) L h ([] ++ (d, od) :: ledger h L d) := by
  rintro ⟨a, o⟩ hp
  rcases List.mem_cons.mp hp with e | hp
  · cases e
    exact ⟨ho, hne, noObjs_get _ _⟩
  · obtain ⟨n1, n2, e⟩ := mem_ledger.mp hp
    exact ⟨e, n1, noObjs_get _ _⟩
theorem fr_all {h : Heap} {L : Addr} {m : Str → Option Value} (n : h.Ns L m) : Fr (noObjs h) L h m :=
  ⟨n, fun b o e => (by rw [noObjs_get] at e; cases e), Nat.zero_le _⟩
/-- Upd of the head entry (for append_K, setItem_K ..) -/
theorem upd_ledger {h : Heap} {L d : Addr} {o o' : Obj} : Upd d o o' ((d, o) :: ledger h L d) ((d, o') :: ledger h L d) :=
  .head fun ⟨_, _⟩ hp => (mem_ledger.mp hp).2.1

/-- x.name = v over any heap: L is any namespace of the heap (the frame's, say): its map stays, its object is not told; all else but the dict stays -/
theorem set_field {x C dx L : Addr} {ox : Obj} {m : Str → Option Value} {es es' : List DictEntry} {n n' : Nat} {name : Str} {v : Value} {Q : Unit → Shared → Prop}
    (X : K.In s.heap) (I : PySem.W.InstAt s.heap x ox C (some (dictOf es n))) (hd : ox.dict = some dx) (hL : s.heap.Ns L m) (hne : dx ≠ L)
    (hs : findIn K (.ref C) "__setattr__" = some (some (.builtin "object.__setattr__"))) (hp : plainOver K C = true) (ht : takerIn K C name = some none) (hh : hasDictIn K C = true) (hl : (getL name es).isSome = true)
    (e : (putL name (PyData.keyHash w.params name) (.str name (s.toks + 1)) v es, putN name es n) = (es', n')) (hz : es'.length ≤ 1000)
    (h : ∀ h' : Heap, h'.Ns L m → h'.get? dx = some (dictOf es' n') → (∀ b o, b ≠ dx → b ≠ L → s.heap.get? b = some o → h'.get? b = some o) → Q () { s with heap := h', toks := s.toks + 2 }) :
    wpAny (model prog w) A (setAttr (.ref x) name v) Q E s := by
  obtain ⟨e1, e2⟩ := Prod.mk.inj e
  have hdx : s.heap.get? dx = some (dictOf es n) := by
    have := I.dict
    rw [hd] at this
    exact this
  refine set_plain X I hs (osa_dict (s := { s with toks := s.toks + 1 }) (h₀ := noObjs s.heap) (L := L) (m := m) (od := dictOf es n) (od' := dictOf es' n') (es := es') (n := n') (pre := []) (post := ledger s.heap L dx)
    (fr_all hL) (news_ledger hne hdx) X I hd hp ht hh hl (fun _ q => nomatch q) (fun ⟨_, _⟩ q => (mem_ledger.mp q).2.1) (by rw [putName_dict, e1, e2]) rfl hz fun h' F' N' => ?_)
  exact h h' F'.ns (N'.get (List.Mem.head _)) fun b o n1 n2 ho => N'.get (List.Mem.tail _ (mem_ledger.mpr ⟨n2, n1, ho⟩))
end
end Att

namespace L2
open PySem PySem.Spec PyProof.Rows

theorem vals_ints : ∀ {vs : List Value} {ns : List Int}, IntsAre vs ns → Vals (ns.map V.int) vs
  | _, _, .nil => .nil
  | _, _, .cons n t h => .cons ⟨t, rfl⟩ (vals_ints h)

/-- nothing is tracked but the script, known to the object (or it is an object of the module) -/
def Only (H : Hp) : Prop := ∀ b, H b = none ∨ ∃ o xs, H b = some (.frz o (.lst xs))

/-- THE HEAD: the law's promise, at the heap behind the top. F, the promise of the law's def, may use that base is part of the heap (so K.In base, base.Ns mainGlobals mg stand in Mod) -/
theorem law_call {P : Program} {w : World} {K : PySem.W.Frag} {mg mb : Str → Option Value} {CX : CXT} {k : Nat} {fa a : Addr} {fd : FuncData} {x : Str} {sp : Sp} {s₁ : Shared} {vs : List Value} {ns : List Int}
    (KX : K.In s₁.heap) (hns : s₁.heap.Ns mainGlobals mg) (hb : s₁.heap.Ns builtinsNs mb) (hbb : ∀ x : Str, x ≠ "__name__" → mb x = bootBuiltins x) (hlim : s₁.heap.NoLimit) (hg : s₁.gens = #[])
    (ha : s₁.heap.get? a = some { cls := .type "list", data := .seq vs.toArray }) (hi : IntsAre vs ns) (hl : ns.length ≤ sizeLine) (hr : Room k callerA)
    (F : ∀ base : Heap, K.In base → base.Ns mainGlobals mg → FnOk P w K mg base CX k fa fd [x] sp) (hbind : ∀ (s : Shared) (u : Value), BindsTo s fd ⟨[u], []⟩ [(x, u)])
    (hsp : ∀ H : Hp, Only H → SqL K H a (ns.map V.int) → sp [.ref a] H (fun v _ => v = .bl true) fun _ _ _ => False)
    (hCX : ∀ H e s', CX [] H s₁ (fun _ _ _ => False) e s' → False) :
    codeAny (model P w) callerA (.call (.ref fa) ⟨[.ref a], []⟩) (fun r s' => r = .ok (.ret (.bool true)) ∧ OldK s₁.heap s'.heap ∧ s'.os = s₁.os ∧ AllBare s'.gens) s₁ := by
  have rv := vals_ints hi
  have lenV := hi.length
  -- from an abstract heap in which nothing but the script may be tracked
  have core : ∀ H : Hp, Only H → SqL K H a (ns.map V.int) → HOk P w H s₁.heap → (∀ b, H b ≠ none → b = a) → (H a ≠ none → K.lookup a = none) →
      codeAny (model P w) callerA (.call (.ref fa) ⟨[.ref a], []⟩) (fun r s' => r = .ok (.ret (.bool true)) ∧ OldK s₁.heap s'.heap ∧ s'.os = s₁.os ∧ AllBare s'.gens) s₁ := by
    intro H hO hS hok hA hK
    have base_of : ∀ {b : Addr} {o : Obj}, s₁.heap.get? b = some o → H b = none → (hidT s₁.heap H).get? b = some o := fun e n => hidT_get e n
    have noA : ∀ {b : Addr} {o : Obj} {es : Array DictEntry} {ep : Nat}, s₁.heap.get? b = some o → o.data = .dict es ep → H b = none := fun {b o es ep} e d => by
      cases q : H b with
      | none => rfl
      | some u =>
        have e' : b = a := hA b (by rw [q]; simp)
        subst e'
        rw [ha] at e; cases e
        have d' : Data.seq vs.toArray _ = Data.dict es ep := d
        cases d'
    have nsK : ∀ {b : Addr} {m : Str → Option Value}, s₁.heap.Ns b m → (hidT s₁.heap H).Ns b m := fun {b m} ⟨o, es, ep, e, d, r⟩ => ⟨o, es, ep, base_of e (noA e d), d, r⟩
    have hKb : K.In (hidT s₁.heap H) := fun b o e => base_of (KX b o e) (by
      cases q : H b with
      | none => rfl
      | some u =>
        have e' : b = a := hA b (by rw [q]; simp)
        subst e'
        rw [hK (by rw [q]; simp)] at e; cases e)
    have hM : Mod K mg (hidT s₁.heap H) := ⟨hKb, nsK hns, ⟨mb, nsK hb, hbb⟩, let ⟨mc, h1, h2⟩ := hlim; ⟨mc, nsK h1, h2⟩⟩
    have e0 : Env0 P w K mg (hidT s₁.heap H) callerA [] s₁ H := ⟨rfl, hM, fun b o e => of_hidT e, Nat.le_of_eq (hidT_size _ _), trivial, fun b hb => absurd (show b ∈ ([] : List Addr) from hb) (by simp), hok, .of_eq hg⟩
    refine codeAny_mono ((F _ hKb (nsK hns)).run callerA [] s₁ H ⟨[.ref a], []⟩ [.ref a] [.ref a] _ _ hr e0 (hbind s₁ (.ref a)) (.cons rfl .nil) (hsp H hO hS)) fun r s' h => ?_
    cases r with
    | error e => exact (hCX H e s' h).elim
    | ok fl =>
      cases fl with
      | next => exact False.elim h
      | brk => exact False.elim h
      | cont => exact False.elim h
      | ret u =>
        obtain ⟨v, H', os, bare, un, hok', r', q⟩ := h
        have q' : v = .bl true := q
        subst q'
        obtain rfl : u = Value.bool true := r'
        refine ⟨rfl, OldK.of_keep fun b o e => ?_, os, bare⟩
        cases q : H b with
        | none => exact un.keep b o e q (by intro z; exact absurd (show b ∈ ([] : List Addr) from z) (by simp)) (by simp)
        | some u =>
          rcases hO b with z | ⟨ob, xs, z⟩
          · rw [q] at z; cases z
          · have z2 := un.frzs b ob _ z
            obtain ⟨e1, _⟩ := hok b _ z
            obtain ⟨e2, _⟩ := hok' b _ z2
            rw [e] at e1; cases e1
            exact e2
  cases hk : K.lookup a with
  | some o =>
    -- the script is one of the module's own objects
    have e := KX a o hk
    rw [ha] at e
    cases e
    refine core (fun _ => none) (fun _ => .inl rfl) (.inr ⟨_, vs.toArray, _, hk, rfl, rfl, rfl, by rw [List.size_toArray, lenV]; exact hl, by simpa using rv⟩) (fun b u z => by have z' : (none : Option HO) = some u := z; cases z') (fun b z => absurd rfl z) fun z => absurd rfl z
  | none =>
    refine core (fun b => if b = a then some (.frz { cls := .type "list", data := .seq vs.toArray } (.lst (ns.map V.int))) else none) (fun b => ?_) (.inl (.inr ⟨{ cls := .type "list", data := .seq vs.toArray }, if_pos rfl⟩)) (fun b u z => ?_) (fun b z => ?_) fun _ => hk
    · by_cases hb : b = a
      · exact .inr ⟨_, _, if_pos hb⟩
      · exact .inl (if_neg hb)
    · by_cases hb : b = a
      · have z' := (if_pos hb).symm.trans z
        cases z'
        subst hb
        exact ⟨ha, by rw [List.length_map]; exact hl, vs, _, rv, ha⟩
      · have z' := (if_neg hb).symm.trans z
        cases z'
    · by_cases hb : b = a
      · exact hb
      · exact absurd (if_neg hb) z
end L2

namespace L2
open PySem PySem.Spec PyProof.Rows

abbrev KOf {K : PySem.W.Frag} {h : Heap} (_ : K.In h) : PySem.W.Frag := K

/-- the goal that k_head leaves (case hc), from the law's promise. F gives the function object fd (K's own) once, then the promise over every base -/
theorem walk_of {l : PySem.W.OpenLaw} {n k : Nat} {q : Program} {loose : List Str} {XP : (Str → Option Value) → Heap → Prop} {YP : World → Heap → Prop} {d : DefRec} {K : Params → PySem.W.Frag} {CX : World → CXT} {sp : World → Sp} {x : Str}
    (hn : l.most = some n) (hn2 : n ≤ sizeLine) (hdf : d.params.defaults = []) (hr : Room k callerA)
    (hY : ∀ (w : World) (h : Heap), YP w h → (K w.params).In h)
    (F : ∀ (w : World) (mg : Str → Option Value) (fa : Addr) (h : Heap), (K w.params).In h → h.Ns mainGlobals mg → mg d.name = some (.ref fa) →
      ∃ fd : FuncData, (∀ (s : Shared) (u : Value), BindsTo s fd ⟨[u], []⟩ [(x, u)]) ∧
        ∀ base : Heap, (K w.params).In base → base.Ns mainGlobals mg → FnOk l.prog w (K w.params) mg base (CX w) k fa fd [x] (sp w))
    (hsp : ∀ (w : World) (H : Hp) (a : Addr) (ns : List Int), ns.length ≤ n → Only H → SqL (K w.params) H a (ns.map V.int) → sp w [.ref a] H (fun v _ => v = .bl true) fun _ _ _ => False)
    (hCX : ∀ (w : World) (H : Hp) (s : Shared) (e : Value) (s' : Shared), CX w [] H s (fun _ _ _ => False) e s' → False) :
    PySem.W.WalkO q loose XP YP l.row.toRowW d [] (fun f vs => PySem.call f vs) := by
  refine Att.attach_call hn hdf fun w s₀ s₁ mg mb fa o pm cd doc a vs ns G Y ho hd hcd hmg hobj hints hlen hg => ?_
  have KX := hY w _ Y
  obtain ⟨fd, hb, hF⟩ := F w mg fa _ KX G.T.g hmg
  exact law_call KX G.T.g G.T.b G.T.builtins G.T.nolimit hg hobj hints (Nat.le_trans hlen hn2) hr hF hb (fun H hO hS => hsp w H a ns hlen hO hS) fun H e s' => hCX w H s₁ e s'
/-- the same where the promise hangs on the written part alone: (sp := My.sp_law), no hole under a binder -/
theorem walk_ofK {l : PySem.W.OpenLaw} {n k : Nat} {q : Program} {loose : List Str} {XP : (Str → Option Value) → Heap → Prop} {YP : World → Heap → Prop} {d : DefRec} {K : Params → PySem.W.Frag} {CX : CXT} {sp : PySem.W.Frag → Sp} {x : Str}
    (hn : l.most = some n) (hn2 : n ≤ sizeLine) (hdf : d.params.defaults = []) (hr : Room k callerA)
    (hY : ∀ (w : World) (h : Heap), YP w h → (K w.params).In h)
    (F : ∀ (w : World) (mg : Str → Option Value) (fa : Addr) (h : Heap), (K w.params).In h → h.Ns mainGlobals mg → mg d.name = some (.ref fa) →
      ∃ fd : FuncData, (∀ (s : Shared) (u : Value), BindsTo s fd ⟨[u], []⟩ [(x, u)]) ∧
        ∀ base : Heap, (K w.params).In base → base.Ns mainGlobals mg → FnOk l.prog w (K w.params) mg base CX k fa fd [x] (sp (K w.params)))
    (hsp : ∀ (K : PySem.W.Frag) (H : Hp) (a : Addr) (ns : List Int), ns.length ≤ n → Only H → SqL K H a (ns.map V.int) → sp K [.ref a] H (fun v _ => v = .bl true) fun _ _ _ => False)
    (hCX : ∀ (H : Hp) (s : Shared) (e : Value) (s' : Shared), CX [] H s (fun _ _ _ => False) e s' → False) :
    PySem.W.WalkO q loose XP YP l.row.toRowW d [] (fun f vs => PySem.call f vs) :=
  walk_of (K := K) (CX := fun _ => CX) (sp := fun w => sp (K w.params)) hn hn2 hdf hr hY F (fun w H a ns h1 h2 h3 => hsp (K w.params) H a ns h1 h2 h3) fun _ H s e s' => hCX H s e s'
end L2

/- THE LAST THEOREM (shape; LID, My.* are yours):
   My.Adr: a structure of the addresses that your layer names (classes, functions); My.Txt K t: a structure (Prop) of the equations over K;
   My.txt_mk : {K} {implicit addresses ..} (e1 : nsIn K mainGlobals "law" = some (some (.ref f))) (e2 : K.lookup f = some ⟨oc, od, .func (fnOf "law" "law" params body scope dV kV doc pm an cdv ct), sl⟩) (e3 : codeIn K cdv "law" = true) .. : ∃ t, My.Txt K t

set_option maxRecDepth 100000 in
set_option maxHeartbeats 0 in
theorem PySem.Challenge.cw_LID_holds : PySem.Challenge.rw_LID.Holds := by
  w_on; o_law; k_head; (case hw => w_witness2)
  k_fill
  refine L2.walk_of (l := PySem.Challenge.rw_LID) (n := 63) (k := 40) (x := "script") (CX := fun w => ..) (sp := fun _ => My.sp_law) rfl (by decide) rfl ⟨rfl, by decide, by decide⟩ (fun w h Y => PySem.W.kIn_of Y) ?F ?S ?C
  case F =>
    intro w mg fa h KX G hmg
    have T : ∃ t, My.Txt (L2.KOf KX) t := by
      dsimp only [L2.KOf]                          -- K must stand as «<heap const> w.params» for k_is
      refine' My.txt_mk ?e1 ?e2 ?e3 ..
      (case e1 => PySem.W.k_is)                    -- in the order: a name -> its address -> its object -> its parts
      (case e2 => PySem.W.k_is)
      ..
    obtain ⟨t, T⟩ := T
    have e0 := hmg.symm.trans (PySem.W.mg_of KX G T.law)
    cases e0                                       -- fa is the law's own address
    exact ⟨_, fun s u => .of_eq rfl, fun base kb nb => My.law_fn T kb nb⟩     -- if «.of_eq rfl» comes too early: refine' ⟨_, ?b, fun base kb nb => My.law_fn T kb nb⟩; exact fun s u => .of_eq rfl
  case S => exact fun w H a ns hl hO hS => ..
  case C => exact ..
(the tactic k_is has no namespace: write k_is) -/

/-! SHORT WORDS over the layer: a def of the text, its body, what a loop and a test want. -/
namespace L2
open PySem PySem.Spec PyProof.Rows

/-! ### the text by places -/
/-- the j-th statement of a class's body -/
def inClass (s : Stmt) (j : Nat) : Stmt := match s with
  | .ClassDef _ _ _ body _ _ _ _ _ _ _ => body.getD j (.Pass ⟨0, 0, 0, 0⟩)
  | _ => .Pass ⟨0, 0, 0, 0⟩
def defArgs (s : Stmt) : Arguments := match s with
  | .FunctionDef _ a _ _ _ _ _ _ _ _ => a
  | _ => { posonlyargs := [], args := [], vararg := none, kwonlyargs := [], kw_defaults := [], kwarg := none, defaults := [] }
def defBody (s : Stmt) : List Stmt := match s with
  | .FunctionDef _ _ b _ _ _ _ _ _ _ => b
  | _ => []
def defScope (s : Stmt) : Scope := match s with
  | .FunctionDef _ _ _ _ _ _ sc _ _ _ => sc
  | _ => { kind := .function, names := [], isGenerator := false, isCoroutine := false }

/-! ### no exception leaves a def -/
abbrev CX0 : CXT := fun _ _ _ _ _ _ => False
abbrev E0 : XK := fun _ _ _ => False
theorem pass0 {X : Cx} : Passes CX0 X E0 := fun _ _ _ _ _ _ _ h => h.elim

/-! ### a def (or method) of the text as it stands behind the top -/
structure Fun (K : PySem.W.Frag) (x qual : Str) (st : Stmt) (f : Addr) (fd : FuncData) : Prop where
  ex : ∃ (oc : Value) (od : Option Addr) (kV doc pm : Value) (an : Option Addr) (cdv ct : Value) (osl : Array (Option Value)),
    fd = PySem.W.fnOf x qual (defArgs st) (defBody st) (defScope st) .none kV doc pm an cdv ct ∧ K.lookup f = some ⟨oc, od, .func fd, osl⟩ ∧ PySem.W.codeIn K cdv qual = true
  kp : PySem.W.keepIn K (.ref f) = true
section
variable {P : Program} {w : World} {K : PySem.W.Frag} {mg : Str → Option Value} {base : Heap}
/-- THE RULE for a def: its body as a term of rules, and the reading of that term -/
theorem Fun.ok {x qual : Str} {st : Stmt} {f : Addr} {fd : FuncData} {N ps : List Str} {k : Nat} {sp : Sp} (F : Fun K x qual st f fd) (S : FnScope N ps (defScope st)) (len : ∀ vs H Q E, sp vs H Q E → vs.length = ps.length)
    (hbody : ∀ (cdv : Value) (A : Around) (outer : List Env) (s : Shared) (H : Hp) (vs : List V) (Q : VK) (E : XK), Room k (A.deeper (envOfC qual (defScope st) s.heap.objs.size f cdv)) → sp vs H Q E →
      ∃ t, PSs (cxOf CX0 P w K mg base N qual (defScope st) f cdv A outer s H E).nox (defBody st) t ∧ t { nx := fun _ H' => Q .non H', rt := Q } (start N vs) H) : FnOk P w K mg base CX0 (k + 1) f fd ps sp := by
  obtain ⟨oc, od, kV, doc, pm, an, cdv, ct, osl, rfl, lk, hcd⟩ := F.ex
  refine fn_of lk hcd S len fun A outer s H vs Q E hr hsp => ?_
  obtain ⟨t, h, q⟩ := hbody cdv A outer s H vs Q E hr hsp
  exact ⟨t, h.nox, q⟩
/-- how its arguments bind (no defaults): h is «fun _ _ _ _ _ _ us hl => match us, hl with | [_, _], _ => rfl», one _ a parameter -/
theorem Fun.binds {x qual : Str} {st : Stmt} {f : Addr} {fd : FuncData} {ps : List Str} (F : Fun K x qual st f fd)
    (h : ∀ (kV doc pm : Value) (an : Option Addr) (cdv ct : Value) (us : List Value), us.length = ps.length → bindArgs (PySem.W.fnOf x qual (defArgs st) (defBody st) (defScope st) .none kV doc pm an cdv ct) ⟨us, []⟩ = pure (ps.zip us)) : Binds K fd ps [] := by
  obtain ⟨oc, od, kV, doc, pm, an, cdv, ct, osl, rfl, lk, hcd⟩ := F.ex
  exact .all (h kV doc pm an cdv ct)
theorem fun_mk {x qual : Str} {st : Stmt} {f : Addr} {oc : Value} {od an : Option Addr} {osl : Array (Option Value)} {kV doc pm cdv ct : Value} (l : K.lookup f = some ⟨oc, od, .func (PySem.W.fnOf x qual (defArgs st) (defBody st) (defScope st) .none kV doc pm an cdv ct), osl⟩)
    (c : PySem.W.codeIn K cdv qual = true) (k : PySem.W.keepIn K (.ref f) = true) : Fun K x qual st f (PySem.W.fnOf x qual (defArgs st) (defBody st) (defScope st) .none kV doc pm an cdv ct) := ⟨⟨oc, od, kV, doc, pm, an, cdv, ct, osl, rfl, l, c⟩, k⟩
end
theorem hu_of {A : Around} {k : Nat} (hr : Room k A) : A.units + 1 < cLine := Nat.lt_of_le_of_lt (Nat.add_le_add_left (by decide : 1 ≤ 64) _) hr.units
theorem small1000 {n : Nat} (h : n ≤ 1000) : n < sizeLine := Nat.lt_of_le_of_lt h (by decide)

/-! ### expressions in short: the name that stands in the i-th slot -/
section
variable {X : Cx}
theorem pv (i : Nat) {x : Str} {pos : Pos} (hN : X.N[i]? = some x := by rfl) (hv : Vis X.env.scope x := by first | exact Or.inl rfl | exact Or.inr (Or.inl rfl) | exact Or.inr (Or.inr rfl)) (hd : (x == ("__debug__" : Str)) = false := by decide)
    (hcd : (x == ("__classdict__" : Str)) = false := by decide) : PE X (.Name x pos) (tVar i) := pe_var hN hv hd hcd
end

/-! ### tests -/
theorem iteF {A B : Prop} (h : B) : if false = true then A else B := by
  rw [if_neg Bool.false_ne_true]
  exact h
theorem iteT {A B : Prop} (h : A) : if true = true then A else B := by
  rw [if_pos rfl]
  exact h
theorem ite2 {c A B : Prop} [Decidable c] (h1 : c → A) (h2 : ¬ c → B) : if c then A else B := by
  by_cases h : c
  · rw [if_pos h]
    exact h1 h
  · rw [if_neg h]
    exact h2 h
theorem iteNS {c A B : Prop} [Decidable c] (hc : c) (h : B) : if (!decide c) = true then A else B := by
  rw [decide_eq_true hc]
  exact iteF h

/-! ### heaps -/
/-- all that was tracked is as it was -/
def Same (H H' : Hp) : Prop := ∀ b o, H b = some o → H' b = some o
theorem Same.refl (H : Hp) : Same H H := fun _ _ h => h
theorem Same.trans {H H1 H2 : Hp} (a : Same H H1) (b : Same H1 H2) : Same H H2 := fun c o h => b c o (a c o h)
theorem Same.free {H H' : Hp} (e : Same H H') {l : Addr} (h : H' l = Option.none) : H l = Option.none := by
  cases q : H l with
  | none => rfl
  | some o =>
    rw [e l o q] at h
    cases h
theorem Same.seq {K : PySem.W.Frag} {H H' : Hp} {a : Addr} {xs : List V} (e : Same H H') (h : SqL K H a xs) : SqL K H' a xs := by
  rcases h with (h | ⟨o, h⟩) | h
  · exact .inl (.inl (e _ _ h))
  · exact .inl (.inr ⟨o, e _ _ h⟩)
  · exact .inr h

end L2

set_option Elab.async false
set_option linter.all false
set_option maxRecDepth 100000
/-! ### what is tracked may be forgotten -/
namespace L2
open PySem PySem.Spec PyProof.Rows

/-- an instance's dict stands with it -/
def ClAt (H : Hp) (a : Addr) : HO → Prop
  | .ins _ dx _ => H dx = some (.own a)
  | .frz _ u => ClAt H a u
  | _ => True
def Cl (H : Hp) : Prop := ∀ a o, H a = some o → ClAt H a o
def Imm : HO → Prop
  | .tup _ => True
  | .frz _ _ => True
  | _ => False
/-- from the entry's H₀ the heap has come to H; H' is left of it -/
structure Gc (H₀ H H' : Hp) : Prop where
  sub : ∀ b o, H' b = some o → H b = some o
  cl : Cl H'
  imm : ∀ b o, Imm o → H₀ b = some o → H b = some o → H' b = some o

section
variable {P : Program} {w : World} {H H' H₀ : Hp} {h : Heap} {a l : Addr} {o : HO} {xs : List V}
theorem ObjOk.clAt (x : ObjOk P w H h a o) : ClAt H a o := by
  induction o with
  | ins C dx fs => exact x.1
  | frz ob u ih => exact ih x.2
  | _ => trivial
theorem HOk.cl (x : HOk P w H h) : Cl H := fun a o e => (x a o e).clAt
theorem ObjOk.less (x : ObjOk P w H h a o) (c : ClAt H' a o) : ObjOk P w H' h a o := by
  induction o with
  | ins C dx fs => exact ⟨c, x.2⟩
  | frz ob u ih => exact ⟨x.1, ih x.2 c⟩
  | _ => exact x
theorem HOk.less (x : HOk P w H h) (sub : ∀ b o, H' b = some o → H b = some o) (cl : Cl H') : HOk P w H' h := fun a o e => (x a o (sub a o e)).less (cl a o e)
theorem ClAt.upd (c : ClAt H a o) (n : H l = none) : ∀ u, ClAt (upd H l u) a o := by
  intro u
  induction o with
  | ins C dx fs =>
    have c' : H dx = some (.own a) := c
    show L2.upd H l u dx = _
    rw [upd_ne (ne_of_none c' n)]
    exact c'
  | frz ob v ih => exact ih c
  | _ => trivial
theorem Cl.upd {u : HO} (c : Cl H) (n : H l = none) (hu : ClAt (upd H l u) l u) : Cl (upd H l u) := fun a o e => by
  by_cases ha : a = l
  · subst ha
    rw [upd_same] at e
    cases e
    exact hu
  · rw [upd_ne ha] at e
    exact (c a o e).upd n u
theorem free_of_sub (sub : ∀ b o, H' b = some o → H b = some o) {b : Addr} (n : H b = none) : H' b = none := by
  cases q : H' b with
  | none => rfl
  | some u => rw [sub b u q] at n; cases n
/-- all that came is forgotten -/
theorem Gc.back (c : Cl H₀) (e : Same H₀ H) : Gc H₀ H H₀ := ⟨e, c, fun _ _ _ h _ => h⟩
/-- all that came but a list -/
theorem Gc.one {u : HO} (c : Cl H₀) (e : Same H₀ H) (n : H₀ l = none) (h : H l = some u) (hu : ClAt (upd H₀ l u) l u) : Gc H₀ H (upd H₀ l u) := by
  refine ⟨fun b o q => ?_, c.upd n hu, fun b o _ h0 _ => ?_⟩
  · by_cases hb : b = l
    · subst hb; rw [upd_same] at q; cases q; exact h
    · rw [upd_ne hb] at q; exact e b o q
  · rw [upd_ne (ne_of_none h0 n)]; exact h0
theorem Gc.refl (c : Cl H) : Gc H₀ H H := ⟨fun _ _ h => h, c, fun _ _ _ _ h => h⟩
end

section
variable {X : Cx} {pins : List (Addr × Obj)} {σ : St} {H H' : Hp} {s : Shared}
theorem Un.gc {fs ex : List Addr} {H₀ : Hp} {h h' : Heap} (u : Un fs ex H₀ H h h') (ok : HOk X.prog X.w H h') (g : Gc H₀ H H') : Un fs ex H₀ H' h h' :=
  ⟨u.keep, u.slot, fun b o e n hx => free_of_sub g.sub (u.free b o e n hx), u.there, fun b xs e => g.imm b _ trivial e (u.tups b xs e), fun b o v e => g.imm b _ trivial e (u.frzs b o v e), fun b ps e => by
    obtain ⟨more, q⟩ := u.tbls b ps e
    exact (show False from ok b _ q).elim⟩
theorem Inv.gc (I : Inv X pins σ H s) (g : Gc X.H₀ H H') : Inv X pins σ H' s :=
  ⟨I.ok, I.os, I.bare, I.base.gc (X := X) I.hok g, I.loc, I.cell, free_of_sub g.sub I.free, fun x c e => free_of_sub g.sub (I.freeC x c e), fun p hp => let ⟨a, b, c⟩ := I.pin p hp; ⟨a, free_of_sub g.sub b, c⟩, I.hok.less g.sub g.cl, I.len⟩
end
end L2

set_option Elab.async false
set_option linter.all false
set_option maxRecDepth 100000
/-! ### list comprehensions: [elt for x in iter] -/
namespace L2
open PySem PySem.Spec PyProof.Rows

/-- a comprehension's free names with their cells -/
def freesOf (names : List (Str × NameKind)) (cells : List (Str × Addr)) (acc : List (Str × Addr)) : List (Str × Addr) :=
  match names with
  | [] => acc
  | (n, k) :: r => freesOf r cells (if k == .free then (n, (cells.lookup n).getD 0) :: acc else acc)
theorem clos_go {env : Env} : ∀ (names : List (Str × NameKind)) (acc : List (Str × Addr)), names.all (fun y => y.2 != .free || (env.cells.lookup y.1).isSome) = true →
    (forIn names acc fun (x : Str × NameKind) cs => (do
      if x.2 == .free then do
        let c ← cellOf env x.1
        pure (ForInStep.yield ((x.1, c) :: cs))
      else pure (ForInStep.yield cs) : Sem (ForInStep (List (Str × Addr))))) = pure (freesOf names env.cells acc)
  | [], acc, _ => rfl
  | (n, k) :: r, acc, h => by
    have h1 : (k != .free || (env.cells.lookup n).isSome) = true := by
      have := List.all_eq_true.mp h (n, k) List.mem_cons_self
      exact this
    have h2 : r.all (fun y => y.2 != .free || (env.cells.lookup y.1).isSome) = true := List.all_eq_true.mpr fun y hy => List.all_eq_true.mp h y (List.mem_cons_of_mem _ hy)
    rw [List.forIn_cons]
    by_cases hk : k = .free
    · subst hk
      obtain ⟨c, hc⟩ := Option.isSome_iff_exists.mp (show (env.cells.lookup n).isSome = true from h1)
      have e : cellOf env n = pure c := by unfold cellOf; rw [hc]
      simp only [beq_self_eq_true, if_true, e, pure_bind]
      rw [clos_go r _ h2]
      simp only [freesOf, beq_self_eq_true, if_true, hc, Option.getD_some]
    · have hb : (k == NameKind.free) = false := by simpa using hk
      simp only [hb, Bool.false_eq_true, if_false, pure_bind]
      rw [clos_go r _ h2]
      simp only [freesOf, hb, Bool.false_eq_true, if_false]
theorem clos_eq {env : Env} {scope : Scope} (h : scope.names.all (fun y => y.2 != .free || (env.cells.lookup y.1).isSome) = true) : closureFor scope env = pure (freesOf scope.names env.cells []) := by
  unfold closureFor
  have := clos_go (env := env) scope.names [] h
  first
    | exact this
    | (simp only [bind_pure]; exact this)
    | (rw [this]; rfl)
theorem frees_sub {cells : List (Str × Addr)} : ∀ (names : List (Str × NameKind)) (acc : List (Str × Addr)), names.all (fun y => y.2 != .free || (cells.lookup y.1).isSome) = true → (∀ y c, acc.lookup y = some c → cells.lookup y = some c) →
    ∀ y c, (freesOf names cells acc).lookup y = some c → cells.lookup y = some c
  | [], acc, _, ha => ha
  | (n, k) :: r, acc, h, ha => by
    have h1 : (k != .free || (cells.lookup n).isSome) = true := List.all_eq_true.mp h (n, k) List.mem_cons_self
    have h2 : r.all (fun y => y.2 != .free || (cells.lookup y.1).isSome) = true := List.all_eq_true.mpr fun y hy => List.all_eq_true.mp h y (List.mem_cons_of_mem _ hy)
    unfold freesOf
    refine frees_sub r _ h2 ?_
    by_cases hk : k = .free
    · subst hk
      obtain ⟨c, hc⟩ := Option.isSome_iff_exists.mp (show (cells.lookup n).isSome = true from h1)
      rw [if_pos (by rfl)]
      intro y d hd
      rw [List.lookup_cons] at hd
      cases hyn : y == n with
      | true =>
        rw [hyn] at hd
        have : y = n := by simpa using hyn
        subst this
        rw [hc] at hd ⊢
        simpa using hd
      | false => rw [hyn] at hd; exact ha y d hd
    · rw [if_neg (by simpa using hk)]
      exact ha
theorem frees_has {cells : List (Str × Addr)} : ∀ (names : List (Str × NameKind)) (acc : List (Str × Addr)) (y : Str), ((y, NameKind.free) ∈ names ∨ ∃ c, acc.lookup y = some c) → ∃ c, (freesOf names cells acc).lookup y = some c
  | [], acc, y, h => by
    rcases h with h | h
    · simp at h
    · exact h
  | (n, k) :: r, acc, y, h => by
    unfold freesOf
    refine frees_has r _ y ?_
    rcases h with h | ⟨c, h⟩
    · rcases List.mem_cons.mp h with e | h
      · cases e
        refine .inr ⟨(cells.lookup n).getD 0, ?_⟩
        rw [if_pos (by rfl), List.lookup_cons, beq_self_eq_true]
      · exact .inl h
    · refine .inr ?_
      split
      · rw [List.lookup_cons]
        cases y == n with
        | true => exact ⟨_, rfl⟩
        | false => exact ⟨c, h⟩
      · exact ⟨c, h⟩
theorem lookup_relabel_free {env : Env} : ∀ {names : List (Str × NameKind)} {x : Str}, names.lookup x = some .free →
    (names.map fun (n, k) => if (k == NameKind.free && env.scope.kind == .function && env.kindOf n == some .cell) then (n, NameKind.cell) else (n, k)).lookup x = some .cell ∨
    (names.map fun (n, k) => if (k == NameKind.free && env.scope.kind == .function && env.kindOf n == some .cell) then (n, NameKind.cell) else (n, k)).lookup x = some .free
  | [], _, h => by simp at h
  | (n, k) :: r, x, h => by
    have ih := @lookup_relabel_free env r x
    simp only [List.map_cons]
    cases hx : x == n with
    | true =>
      simp only [List.lookup_cons, hx] at h
      cases h
      split <;> simp [List.lookup_cons, hx]
    | false =>
      simp only [List.lookup_cons, hx] at h
      split
      · simp only [List.lookup_cons, hx]; exact ih h
      · simp only [List.lookup_cons, hx]; exact ih h
theorem relabel_of_cell {env : Env} : ∀ {names : List (Str × NameKind)} {x : Str}, (∀ y ∈ names, y.2 ≠ .cell) →
    ((names.map fun (n, k) => if (k == NameKind.free && env.scope.kind == .function && env.kindOf n == some .cell) then (n, NameKind.cell) else (n, k)).lookup x = some .cell ∨
    (names.map fun (n, k) => if (k == NameKind.free && env.scope.kind == .function && env.kindOf n == some .cell) then (n, NameKind.cell) else (n, k)).lookup x = some .free) → (x, NameKind.free) ∈ names
  | [], _, _, h => by simp at h
  | (n, k) :: r, x, hc, h => by
    have ih := @relabel_of_cell env r x fun y hy => hc y (List.mem_cons_of_mem _ hy)
    have hk := hc (n, k) List.mem_cons_self
    simp only [List.map_cons] at h
    cases hx : x == n with
    | true =>
      have e : x = n := by simpa using hx
      subst e
      by_cases c : (k == NameKind.free && env.scope.kind == .function && env.kindOf x == some .cell) = true
      · have : k = .free := by
          simp only [Bool.and_eq_true] at c
          simpa using c.1.1
        subst this
        exact List.mem_cons_self
      · rw [if_neg c] at h
        simp only [List.lookup_cons, hx] at h
        rcases h with h | h
        · cases h; exact absurd rfl hk
        · cases h; exact List.mem_cons_self
    | false =>
      refine List.mem_cons_of_mem _ (ih ?_)
      split at h
      · simp only [List.lookup_cons, hx] at h; exact h
      · simp only [List.lookup_cons, hx] at h; exact h

/-- the outer names that the element reads: their slots -/
def lcNames (N : List Str) (sc scope : Scope) : List Nat → List Str → Bool
  | [], [] => true
  | j :: js, y :: ys => (N[j]? == some y) && (sc.names.lookup y == some .cell) && (scope.names.lookup y == some .free) && lcNames N sc scope js ys
  | _, _ => false
theorem lcNames.at {N : List Str} {sc scope : Scope} : ∀ {js : List Nat} {ys : List Str} {k : Nat} {y : Str}, lcNames N sc scope js ys = true → ys[k]? = some y →
    ∃ j, js[k]? = some j ∧ N[j]? = some y ∧ sc.names.lookup y = some .cell ∧ scope.names.lookup y = some .free
  | [], [], k, y, _, e => by simp at e
  | j :: js, y' :: ys, 0, y, h, e => by
    simp only [lcNames, Bool.and_eq_true, beq_iff_eq] at h
    simp at e; subst e
    exact ⟨j, rfl, h.1.1.1, h.1.1.2, h.1.2⟩
  | j :: js, y' :: ys, k + 1, y, h, e => by
    simp only [lcNames, Bool.and_eq_true] at h
    obtain ⟨i, h1, h2⟩ := lcNames.at (k := k) h.2 (by simpa using e)
    exact ⟨i, by simpa using h1, h2⟩
  | [], y' :: ys, k, y, h, e => by simp [lcNames] at h
  | j :: js, [], k, y, h, e => by simp at e
theorem lcNames.len {N : List Str} {sc scope : Scope} : ∀ {js : List Nat} {ys : List Str}, lcNames N sc scope js ys = true → js.length = ys.length
  | [], [], _ => rfl
  | j :: js, y :: ys, h => by
    simp only [lcNames, Bool.and_eq_true] at h
    simp [lcNames.len h.2]
  | [], y' :: ys, h => by simp [lcNames] at h
  | j :: js, [], h => by simp [lcNames] at h

/-- the comprehension's context -/
def lcCx (X : Cx) (scope : Scope) (N : List Str) (C : Addr) (s₂ : Shared) (H₁ : Hp) (fp : List Addr) : Cx where
  prog := X.prog
  w := X.w
  K := X.K
  mg := X.mg
  base := X.base
  A := X.A
  N := N
  s₀ := s₂
  H₀ := H₁
  env := compEnvC scope (freesOf scope.names X.env.cells []) C X.env
  outer := X.stack
  stack := X.stack
  ex := fp
  fn := fun _ => false
  calm := X.calm
  pn := []
  xe := fun _ _ => False

def tLC (wi : TI) (js : List Nat) (te : TE) : TE := fun σ H Q => wi σ H fun J H1 => ∃ W : Nat → Nat → List V → Hp → Prop, (∃ m, W 0 m [] H1) ∧ ∀ i m acc H, W i m acc H →
  (J.stop i H ∧ ∀ D, H D = none → Q (.ref D) (upd H D (.lst acc))) ∨
  (J.go i H ∧ acc.length < sizeLine ∧ ∀ x H', J.yld i H x H' → te (some x :: js.map fun j => σ.getD j none) H' fun y H'' => ∃ m', m' < m ∧ W (i + 1) m' (acc ++ [y]) H'')

section
variable {prog : Program} {w : World} {A : Around} {R : Result → Shared → Prop} {s : Shared}
theorem compLoop_any {elt target iter : Expr} {scope : Scope} {pos : Pos} {it acc : Value} {env : Env} (I : Nat → Shared → Prop)
    (turn : ∀ n s, I n s → wpAny (model prog w) A (pyNext it) (fun r s₁ => match r with
      | none => R (.ok .next) s₁
      | some v => wpAny (model prog w) A (letOwnedTupleGo target it v) (fun _ s₁' => wpAny (model prog w) A (assign target env v) (fun _ s₂ => wpAny (model prog w) A (eval elt env) (fun x s₃ =>
          wpAny (model prog w) A (call (.builtin "list.append") [acc, x]) (fun _ s₄ => ∃ m, m < n ∧ I m s₄) (fun _ _ => False) s₃)
          (fun _ _ => False) s₂) (fun _ _ => False) s₁') (fun _ _ => False) s₁) (fun _ _ => False) s)
    (n : Nat) (h : I n s) :
    codeAny (model prog w) A (.compLoop (.ListComp elt [⟨target, iter, [], 0⟩] scope pos) 0 it acc env) R s := by
  refine codeAny_loop rfl I (fun n s hI => ?_) n h
  show wpAny _ _ ((compTurn (.ListComp elt [⟨target, iter, [], 0⟩] scope pos) 0 it acc env).onRaise (fun x => do noteFrame x env; theTreesLotGoes x)) _ _ s
  refine wpAny_noted ?_
  rw [compTurn_list1]
  refine wpAny_bind (wpAny_standAt (wpAny_bind (wpAny_mono (turn n s hI) (fun r s₁ h₁ => ?_) fun _ _ h' => h'.elim)))
  cases r with
  | none => exact wpAny_pure h₁
  | some v =>
    refine wpAny_bind (wpAny_mono h₁ (fun _ s₁' h₁' => ?_) fun _ _ h' => h'.elim)
    exact wpAny_bind (wpAny_mono h₁' (fun _ s₂ h₂ => wpAny_bind (wpAny_bind (wpAny_mono h₂ (fun x s₃ h₃ => wpAny_bind (wpAny_mono h₃
      (fun _ s₄ h₄ => wpAny_pure (wpAny_pure ⟨rfl, h₄⟩)) fun _ _ h' => h'.elim)) fun _ _ h' => h'.elim))) fun _ _ h' => h'.elim)
end

section
variable {X : Cx}

/-- what is known of a comprehension's frame C when its list D is done -/
structure LcEnd (X : Cx) (pins : List (Addr × Obj)) (σ : St) (Q : VK) (D C : Addr) (s4 : Shared) : Prop where
  run : ∃ (H4 : Hp) (acc : List V) (oC : Obj), Inv X pins σ (upd H4 D (.lst acc)) s4 ∧ Q (.ref D) (upd H4 D (.lst acc)) ∧ upd H4 D (.lst acc) C = none ∧ s4.heap.get? C = some oC ∧ ∀ v, oC.data ≠ .cell v
  ns : ∃ m, s4.heap.Ns C m
  loc : C ≠ X.env.locals
  fs : C ∉ X.fs
  new : X.s₀.heap.objs.size ≤ C
  cell : ∀ x c, X.env.cells.lookup x = some c → c ≠ C
  pin : ∀ p ∈ X.pn ++ pins, p.1 ≠ C
theorem lc_core {elt iter : Expr} {x : Str} {px pos : Pos} {scope : Scope} {ys : List Str} {js : List Nat} {wi : TI} {te : TE} (use : Option (Value → Sem Unit)) {pins : List (Addr × Obj)} {s : Shared} {σ : St} {H : Hp} {Q : VK} {Qv : Value → Shared → Prop}
    (hc : X.calm = true) (hi : PI X (.Name x px) iter wi)
    (hkind : scope.kind = .function) (hcell : ∀ y ∈ scope.names, y.2 ≠ .cell) (hloc : ∀ y ∈ scope.names, y.2 = .local → scope.names.lookup y.1 = some .local) (hx : scope.names.lookup x = some .local)
    (hfree : scope.names.all (fun y => y.2 != .free || (X.env.cells.lookup y.1).isSome) = true) (hys : lcNames X.N X.env.scope scope js ys = true) (hnd : (x :: ys).Nodup)
    (he : ∀ (C : Addr) (s₂ : Shared) (H₁ : Hp) (fp : List Addr), PE (lcCx X scope (x :: ys) C s₂ H₁ fp) elt te)
    (hs : ∀ v, foldedSetIterable iter X.env v = pure v) (I : Inv X pins σ H s) (h : tLC wi js te σ H Q)
    (hfin : ∀ D C s4, LcEnd X pins σ Q D C s4 → compPost (model X.prog X.w) X.A X.xe use Qv (.ref D) C (.ok .next) s4) :
    wpAny (model X.prog X.w) X.A (comprehension (.ListComp elt [⟨.Name x px, iter, [], 0⟩] scope pos) scope X.env (firstIterPos [⟨.Name x px, iter, [], 0⟩] pos) (newList []) (firstAsync [⟨.Name x px, iter, [], 0⟩]) (firstIter [⟨.Name x px, iter, [], 0⟩] X.env) use) Qv X.xe s := by
  refine wpAny_comprehension_free (use := use) rfl hs (clos_eq hfree) hkind hloc ?_
  refine thn (hi pins s σ H _ I h) fun v s1 h1 => thn h1 fun itv s2 h2 => ?_
  obtain ⟨it, fp, tn, J, H1, e, I2, T, st2, f2, W, ⟨m0, w0⟩, turn⟩ := h2
  subst e
  refine wpAny_newObj_type (wpAny_newFunctionEnv hcell (by intro y hy; simp at hy) (fun h₁ hns₁ hsb₁ => ?_) hkind)
  dsimp only at hns₁ hsb₁ ⊢
  generalize hD : s2.heap.objs.size = D at hns₁ hsb₁ ⊢
  generalize hH2 : s2.heap.push { cls := .type "list", dict := none, data := .seq ([] : List Value).toArray } = H2 at hns₁ hsb₁ ⊢
  generalize hCC : H2.objs.size = C at hns₁ hsb₁ ⊢
  have hC : C = D + 1 := by rw [← hCC, ← hH2, Heap.size_push, hD]
  have hDlt : D < C := by rw [hC]; exact Nat.lt_succ_self _
  have hDC : D ≠ C := Nat.ne_of_lt hDlt
  have below : ∀ b o, s2.heap.get? b = some o → b < D := fun b o q => by rw [← hD]; exact Heap.lt_size q
  have old : ∀ b o, s2.heap.get? b = some o → h₁.get? b = some o := fun b o q => hsb₁.extBut b o (Nat.ne_of_lt (Nat.lt_trans (below b o q) hDlt)) (Heap.get?_push_of_some _ (hH2 ▸ Heap.get?_push_of_some _ q))
  have hDobj : h₁.get? D = some { cls := .type "list", data := .seq ([] : List Value).toArray } := by
    refine hsb₁.extBut _ _ hDC (Heap.get?_push_of_some _ ?_)
    rw [← hH2, ← hD]
    exact Heap.get?_push_size _ rfl
  have fpD : ∀ b ∈ fp, b < D := fun b hb => by
    obtain ⟨o, q, _⟩ := T.obj 0 _ st2 b hb
    exact below b o q
  have hsub := frees_sub (cells := X.env.cells) scope.names [] hfree (by intro y c z; simp at z)
  have cellLt : ∀ y c, X.env.cells.lookup y = some c → c < D := fun y c q => by
    obtain ⟨v, o, ho, _⟩ := I2.cell y c q
    exact below c o ho
  generalize hY : lcCx X scope (x :: ys) C s2 H1 fp = Y
  have yok : Y.Ok := by
    subst hY
    refine ⟨I2.ok.mod, by simp [lcCx, compEnvC, relabel, hkind], I2.ok.glob, I2.ok.blt, ?_, fun a b c q1 q2 => I2.ok.inj a b c (hsub _ _ q1) (hsub _ _ q2), fun y hy => ?_, fun _ _ q => (Bool.false_ne_true q).elim, I2.ok.hd, I2.ok.frames, .inl rfl, fun b hb => ⟨?_, fun y c q => ?_⟩,
      I2.bs, Nat.le_trans I2.ok.bsz I2.sz, fun b o q hb => ?_, fun b hb hz => ?_, I2.stack, I2.stkFree⟩
    · show s2.heap.objs.size ≤ C
      omega
    · exact frees_has scope.names [] y (.inl (relabel_of_cell hcell hy))
    · exact Nat.ne_of_lt (Nat.lt_trans (fpD b hb) hDlt)
    · exact (f2 b hb).2.2.2.2.1 y c (hsub _ _ q)
    · rcases (f2 b hb).2.2.2.1 with z | z
      · exact I2.ok.noex b o q z
      · exact absurd (Nat.lt_of_lt_of_le (Heap.lt_size q) (Nat.le_trans I2.ok.bsz z)) (Nat.lt_irrefl _)
    · rcases List.mem_cons.mp (I2.stkSub b hz) with z | z
      · exact (f2 b hb).2.1 z
      · exact (f2 b hb).2.2.1 z
  have hnoneD : ∀ {b : Addr}, D ≤ b → H1 b = none := fun {b} hb => I2.hok.fresh (by rw [hD]; exact hb)
  have tlLen := lcNames.len hys
  generalize htl : (js.map fun j => σ.getD j none) = tl
  have start : Inv Y [(D, { cls := .type "list", data := .seq ([] : List Value).toArray })] (none :: tl) H1 { s2 with heap := h₁, toks := s2.toks + ([] : List (Str × Value)).length } := by
    subst hY
    refine ⟨yok, rfl, I2.bare, Un.kept old, ⟨_, hns₁, fun i y v q1 q2 q3 => ?_⟩, fun y c q => ?_, hnoneD (by show D ≤ C; omega), fun y c q => I2.freeC y c (hsub _ _ q), fun p hp => ?_, I2.hok.kept old, ?_⟩
    · cases i with
      | zero => simp at q2
      | succ k =>
        have q1' : ys[k]? = some y := by simpa [lcCx] using q1
        have q2' : tl[k]? = some (some v) := by simpa using q2
        obtain ⟨j, j1, j2, j3, j4⟩ := lcNames.at hys q1'
        have hv : σ[j]? = some (some v) := by
          rw [← htl, List.getElem?_map, j1] at q2'
          simp only [Option.map_some, Option.some.injEq] at q2'
          rw [List.getD_eq_getElem?_getD] at q2'
          cases e : σ[j]? with
          | none => rw [e] at q2'; simp at q2'
          | some z => rw [e] at q2'; simp at q2'; rw [q2']
        obtain ⟨m, hm, hl⟩ := I2.loc
        obtain ⟨u, ru, l⟩ := hl j y v j2 hv (.inr (.inl j3))
        refine ⟨u, ru, .inr ⟨lookup_relabel_free j4, ?_⟩⟩
        rcases l with ⟨l, _⟩ | ⟨_, c, lc, ic⟩
        · have l' : X.env.scope.names.lookup y = some .local := l
          rw [j3] at l'; cases l'
        · obtain ⟨c', hc'⟩ := frees_has (cells := X.env.cells) scope.names [] y (.inl (PySem.mem_of_lookup j4))
          have e := hsub _ _ hc'
          rw [lc] at e; cases e
          obtain ⟨o, io, id⟩ := ic
          exact ⟨c, hc', o, old c o io, id⟩
    · obtain ⟨v, o, io, id⟩ := I2.cell y c (hsub _ _ q)
      exact ⟨v, o, old c o io, id⟩
    · have e : p = (D, { cls := .type "list", data := .seq ([] : List Value).toArray }) := by simpa [lcCx] using hp
      subst e
      refine ⟨hDobj, hnoneD (Nat.le_refl _), hDC, fun z => ?_, fun v z => by cases z⟩
      obtain ⟨_, o, ho, _⟩ := I2.stack.mem z
      exact absurd (below D o ho) (Nat.lt_irrefl _)
    · show (none :: tl).length = (x :: ys).length
      rw [List.length_cons, List.length_cons, ← htl, List.length_map, tlLen]
  have stat : ∀ {pl : List (Addr × Obj)} {H' : Hp}, (∀ p ∈ pl, p.1 = D) → (∀ b ∈ fp, H' b = none) → ∀ b ∈ fp, FpOk Y pl H' b := fun {pl H'} hp hn b hb => by
    subst hY
    refine ⟨hn b hb, (yok.exf b hb).1, yok.exfs b hb, .inl hb, (yok.exf b hb).2, fun p q z => ?_⟩
    have q' : p ∈ pl := by simpa [lcCx] using q
    have e1 := hp p q'
    have e2 := fpD b hb
    rw [← z, e1] at e2
    exact Nat.lt_irrefl _ e2
  have loop : ∀ s₃ : Shared, s₃ = { s2 with heap := h₁, toks := s2.toks + ([] : List (Str × Value)).length } →
      codeAny (model X.prog X.w) X.A (.compLoop (.ListComp elt [⟨.Name x px, iter, [], 0⟩] scope pos) 0 (.ref it) (.ref D) (compEnvC scope (freesOf scope.names X.env.cells []) C X.env))
        (compPost (model X.prog X.w) X.A X.xe use Qv (.ref D) C) s₃ := by
    intro s₃ e3
    subst e3
    have hYp : Y.prog = X.prog := by subst hY; rfl
    have hYw : Y.w = X.w := by subst hY; rfl
    have hYK : Y.K = X.K := by subst hY; rfl
    have hYc : Y.calm = true := by subst hY; exact hc
    have hYA : Y.A = X.A := by subst hY; rfl
    have hYe : Y.env = compEnvC scope (freesOf scope.names X.env.cells []) C X.env := by subst hY; rfl
    have hYx : Y.xe = fun _ _ => False := by subst hY; rfl
    refine compLoop_any (fun n s' => ∃ (i k : Nat) (acc : List V) (its : List Value) (b : Option V) (H' : Hp), Inv Y [(D, { cls := .type "list", data := .seq its.toArray k })] (b :: tl) H' s' ∧ tn i s'.heap ∧ (∀ c ∈ fp, H' c = none) ∧ Vals acc its ∧ acc.length ≤ sizeLine ∧ W i n acc H') ?_ m0
      ⟨0, 0, [], [], none, H1, start, T.keep 0 _ _ st2 fun b hb o q => old b o q, fun b hb => (f2 b hb).1, .nil, Nat.zero_le _, w0⟩
    rintro n s3 ⟨i, k, acc, its, b, H3, I3, st3, fr3, va, la, w3⟩
    have pD : ∀ p ∈ [((D, { cls := .type "list", data := .seq its.toArray k }) : Addr × Obj)], p.1 = D := fun p hp => by
      have e : p = (D, { cls := .type "list", data := .seq its.toArray k }) := by simpa using hp
      rw [e]
    have pinD := I3.pin (D, { cls := .type "list", data := .seq its.toArray k }) (by simp)
    rcases turn i n acc H3 w3 with ⟨stop, qn⟩ | ⟨go, lt, step⟩
    · have t := T.done Y hYp hYw hYK hYc i _ s3 _ H3 (fun _ _ => False) I3 (stat pD fr3) st3 stop
      rw [hYA] at t
      refine thn t fun r s4 ⟨hr, I4⟩ => ?_
      subst hr
      obtain ⟨m, hm, _⟩ := I4.loc
      rw [hYe] at hm
      have p4 := I4.pin (D, { cls := .type "list", data := .seq its.toArray k }) (by simp)
      have hfs : Y.fs = frs X.stack := by subst hY; rfl
      have hex : Y.ex = fp := by subst hY; rfl
      have hH0 : Y.H₀ = H1 := by subst hY; rfl
      have hs0 : Y.s₀ = s2 := by subst hY; rfl
      have u4 := I4.base
      rw [hfs, hex, hH0, hs0] at u4
      have neD : ∀ c o, s2.heap.get? c = some o → c ≠ D := fun c o q => Nat.ne_of_lt (below c o q)
      have freeC : H3 C = none := by
        have := I4.free
        rw [hYe] at this
        exact this
      have hokD : HOk X.prog X.w (upd H3 D (.lst acc)) s4.heap := by
        have hk4 := I4.hok
        rw [hYp, hYw] at hk4
        intro a o q
        by_cases ha : a = D
        · subst ha
          rw [upd_same] at q
          cases q
          exact ⟨la, its, k, va, p4.1⟩
        · rw [upd_ne ha] at q
          exact (hk4 a o q).stay (fun c v hcv z => z) (fun c z => by rw [upd_ne (ne_of_none z p4.2.1)]; exact z) (fun c xs z => by rw [upd_ne (ne_of_none z p4.2.1)]; exact z)
      have I9 : Inv X pins σ (upd H3 D (.lst acc)) s4 := by
        refine I2.call' (s' := s4) (ch := fp) ?_ ⟨fun c o q nn hb hx => u4.keep c o q nn hb hx, fun c o q nn hb hx => u4.slot c o q nn hb hx, fun c o q nn hx => ?_, fun c o q hx => u4.there c o q hx, fun c xs q => ?_, fun c o u q => ?_, fun c ps q => ?_⟩ hokD I4.bare (fun c hb => ⟨(f2 c hb).2.2.2.1, (f2 c hb).2.1, (f2 c hb).2.2.2.2.1, (f2 c hb).2.2.2.2.2⟩)
        · have := I4.os
          rw [hs0] at this
          exact this
        · rw [upd_ne (neD c o q)]
          exact u4.free c o q nn hx
        · have z := u4.tups c xs q
          rw [upd_ne (ne_of_none z p4.2.1)]; exact z
        · have z := u4.frzs c o u q
          rw [upd_ne (ne_of_none z p4.2.1)]; exact z
        · obtain ⟨more, z⟩ := u4.tbls c ps q
          exact ⟨more, by rw [upd_ne (ne_of_none z p4.2.1)]; exact z⟩
      have atC : ∀ b o, s2.heap.get? b = some o → b ≠ C := fun b o q => Nat.ne_of_lt (Nat.lt_trans (below b o q) hDlt)
      refine hfin D C s4 ⟨?_, ⟨m, hm⟩, ?_, fun z => ?_, ?_, fun y c q => ?_, fun p hp => ?_⟩
      · obtain ⟨oC, es, ep, h1', h2', _⟩ := hm
        exact ⟨H3, acc, oC, I9, qn D p4.2.1, by rw [upd_ne (Ne.symm hDC)]; exact freeC, h1', fun v z => by rw [h2'] at z; cases z⟩
      · have := I2.lt
        rw [hD] at this
        exact Nat.ne_of_gt (Nat.lt_trans this hDlt)
      · obtain ⟨_, o, ho, _⟩ := I2.funs.mem z
        exact atC _ o ho rfl
      · have := I2.sz
        rw [hD] at this
        omega
      · exact Nat.ne_of_lt (Nat.lt_trans (cellLt y c q) hDlt)
      · exact atC _ _ (I2.pin p hp).1
    · have t := T.item Y hYp hYw hYK hYc i _ s3 _ H3 (fun _ _ => False) I3 (stat pD fr3) st3 go
      rw [hYA] at t
      refine thn t fun r s4 ⟨u, hr, h4⟩ => ?_
      subst hr
      refine thn h4 fun _ s5 ⟨xv, H5, I5, r5, y5, st5, fr5⟩ => ?_
      have I5' := I5.pinned (stat pD fr5) (T.obj _ _ st5)
      have hN : Y.N = x :: ys := by subst hY; rfl
      have stx : wpAny (model X.prog X.w) X.A (storeName (compEnvC scope (freesOf scope.names X.env.cells []) C X.env) x u) (fun _ s' => Inv Y ([(D, { cls := .type "list", data := .seq its.toArray k })] ++ pinsAt fp s5.heap) (some xv :: tl) H5 s') (fun _ _ => False) s5 := by
        rw [← hYe]
        refine store_ok (i := 0) I5' (by rw [hN]; exact hnd) (by rw [hN]; rfl) ?_ r5 (fun s' I' => I') ?_
        · rw [hYe]; exact .inl (lookup_relabel_local hx)
        · rw [hYe]; exact .inr (lookup_relabel_local hx)
      refine wpAny_assign_Name (thn stx fun _ s6 I6 => ?_)
      have el := he C s2 H1 fp
      rw [hY] at el
      have q6 := step xv H5 y5
      rw [htl] at q6
      have ev := el _ s6 _ H5 _ I6 q6
      rw [hYp, hYw, hYA, hYe, hYx] at ev
      refine thn ev fun yv s7 ⟨y, H7, I7, r7, m', hm, w7⟩ => ?_
      have p7 := I7.pin (D, { cls := .type "list", data := .seq its.toArray k }) (by simp)
      refine wpAny_list_append_plain ⟨k, p7.1⟩ (fun h8 pl8 sb8 => ?_) (by rw [List.size_toArray, ← va.length]; exact la)
      obtain ⟨k8, e8⟩ := pl8
      refine ⟨m', hm, i + 1, k8, acc ++ [y], its ++ [yv], some xv, H7, ?_, ?_, fun c hb => ?_, va.append (.cons r7 .nil), ?_, w7⟩
      · have J7 : Inv Y [] (some xv :: tl) H7 s7 := I7.pins_of (pins' := []) fun p hp => absurd hp (by simp)
        have hDs : Y.s₀.heap.objs.size ≤ D := by subst hY; show s2.heap.objs.size ≤ D; omega
        have J8 : Inv Y [] (some xv :: tl) H7 { s7 with heap := h8, toks := s7.toks } := J7.turned (it := D) (fun c o hcD q => sb8.extBut c o hcD q) p7.2.1 p7.2.2.1 (.inr hDs) (fun z c q => by
          have := hsub z c (by rw [hYe] at q; exact q)
          exact Nat.ne_of_lt (cellLt _ _ this)) (fun p hp => by
            subst hY
            have hp' : p ∈ ([] : List (Addr × Obj)) := hp
            simp at hp')
        refine J8.pins_of fun p hp => ?_
        have e : p = (D, { cls := .type "list", data := .seq (its ++ [yv]).toArray k8 }) := by simpa using hp
        subst e
        refine ⟨?_, p7.2.1, p7.2.2.1, p7.2.2.2.1, fun v z => by cases z⟩
        show h8.get? D = _
        rw [e8]
        simp
      · refine T.keep _ _ _ st5 fun c hb o q => ?_
        have z := (I7.pin (c, o) (List.mem_append_right _ (List.mem_append_right _ (mem_pinsAt hb q)))).1
        exact sb8.extBut c o (Nat.ne_of_lt (fpD c hb)) z
      · obtain ⟨o, q, d⟩ := T.obj _ _ st5 c hb
        exact (I7.pin (c, o) (List.mem_append_right _ (List.mem_append_right _ (mem_pinsAt hb q)))).2.1
      · rw [List.length_append, List.length_singleton]; omega
  exact codeAny_compStart_list (loop _ rfl) (T.self _ 0 _ _ _ (T.keep 0 _ _ st2 fun b hb o q => old b o q) (loop _ rfl))

theorem pe_lc {elt iter : Expr} {x : Str} {px pos : Pos} {scope : Scope} {ys : List Str} {js : List Nat} {wi : TI} {te : TE} (hc : X.calm = true) (hi : PI X (.Name x px) iter wi)
    (hkind : scope.kind = .function) (hcell : ∀ y ∈ scope.names, y.2 ≠ .cell) (hloc : ∀ y ∈ scope.names, y.2 = .local → scope.names.lookup y.1 = some .local) (hx : scope.names.lookup x = some .local)
    (hfree : scope.names.all (fun y => y.2 != .free || (X.env.cells.lookup y.1).isSome) = true) (hys : lcNames X.N X.env.scope scope js ys = true) (hnd : (x :: ys).Nodup)
    (he : ∀ (C : Addr) (s₂ : Shared) (H₁ : Hp) (fp : List Addr), PE (lcCx X scope (x :: ys) C s₂ H₁ fp) elt te)
    (hs : ∀ v, foldedSetIterable iter X.env v = pure v := by intro _; rfl) : PE X (.ListComp elt [⟨.Name x px, iter, [], 0⟩] scope pos) (tLC wi js te) := by
  intro pins s σ H Q I h
  rw [eval_ListComp]
  refine lc_core none hc hi hkind hcell hloc hx hfree hys hnd he hs I h fun D C s4 L => ?_
  obtain ⟨H4, acc, oC, I4, q, fc, gC, _⟩ := L.run
  obtain ⟨m, hm⟩ := L.ns
  refine ⟨m, hm, fun h' sb => ⟨.ref D, _, I4.turned (t' := s4.toks) (it := C) (fun b o hb e => sb.extBut b o hb e) fc L.loc (.inr L.new) L.cell L.pin, rfl, q⟩⟩
/-- name = [elt for x in iter] -/
theorem ps_lcset {elt iter : Expr} {x y : Str} {i : Nat} {px pos py spos : Pos} {scope : Scope} {ys : List Str} {js : List Nat} {wi : TI} {te : TE} (hN : X.N.Nodup) (hyi : X.N[i]? = some y) (hyl : X.env.scope.names.lookup y = some .local) (hc : X.calm = true) (hi : PI X (.Name x px) iter wi)
    (hkind : scope.kind = .function) (hcell : ∀ y ∈ scope.names, y.2 ≠ .cell) (hloc : ∀ y ∈ scope.names, y.2 = .local → scope.names.lookup y.1 = some .local) (hx : scope.names.lookup x = some .local)
    (hfree : scope.names.all (fun y => y.2 != .free || (X.env.cells.lookup y.1).isSome) = true) (hys : lcNames X.N X.env.scope scope js ys = true) (hnd : (x :: ys).Nodup)
    (he : ∀ (C : Addr) (s₂ : Shared) (H₁ : Hp) (fp : List Addr), PE (lcCx X scope (x :: ys) C s₂ H₁ fp) elt te)
    (hsw : swapsWith (.ListComp elt [⟨.Name x px, iter, [], 0⟩] scope pos) (some (.Name y py)) spos.line X.env = pure true := by rfl)
    (hs : ∀ v, foldedSetIterable iter X.env v = pure v := by intro _; rfl) : PS X (.Assign [.Name y py] (.ListComp elt [⟨.Name x px, iter, [], 0⟩] scope pos) spos) (tAsg (tLC wi js te) (gName i)) := by
  intro pins s σ H D0 I h
  rw [exec_Assign_Name_used _ _ _ _ hsw]
  refine wpAny_bind (wpAny_standAt (wpAny_bind ?_))
  show wpAny _ X.A (do let _ ← comprehension (.ListComp elt [⟨.Name x px, iter, [], 0⟩] scope pos) scope X.env _ (newList []) false (eval iter X.env) (some (assign (.Name y py) X.env))) _ _ s
  refine wpAny_bind (wpAny_mono (lc_core (Qv := fun _ s' => SP X pins D0 .next s') (some (assign (.Name y py) X.env)) hc hi hkind hcell hloc hx hfree hys hnd he hs I h fun D C s4 L => ?_) (fun _ s' hq => wpAny_pure (wpAny_pure hq)) fun _ _ e => e)
  obtain ⟨H4, acc, oC, I4, q, fc, gC, nc⟩ := L.run
  obtain ⟨m, hm⟩ := L.ns
  have I5 : Inv X (pins ++ [(C, oC)]) σ (upd H4 D (.lst acc)) s4 := I4.pins_of fun p hp => (List.mem_append.mp hp).elim (fun z => I4.pin p (List.mem_append_right _ z)) fun z => by
    have e : p = (C, oC) := by simpa using z
    subst e
    exact ⟨gC, fc, L.loc, L.fs, nc⟩
  show wpAny _ X.A (assign (.Name y py) X.env (.ref D)) _ _ s4
  refine wpAny_assign_Name (store_ok I5 hN hyi (.inl hyl) (v := .ref D) rfl (fun s5 I6 => ?_) (.inr hyl))
  have pc := I6.pin (C, oC) (by simp)
  have hm5 : s5.heap.Ns C m := by
    obtain ⟨o, es, ep, h1, h2⟩ := hm
    rw [gC] at h1
    cases h1
    exact ⟨oC, es, ep, pc.1, h2⟩
  refine ⟨m, hm5, fun h' sb => ?_⟩
  exact ⟨_, _, I6.unpinned.turned (t' := s5.toks) (it := C) (fun b o hb e => sb.extBut b o hb e) fc L.loc (.inr L.new) L.cell L.pin, q⟩
end
end L2

set_option Elab.async false
set_option linter.all false
set_option maxRecDepth 100000
namespace L2
open PySem PySem.Spec PyProof.Rows
section
variable {X : Cx}

/-! ### ranges as values -/
def rngO (p : Addr) (i j k : Int) : HO := .ext fun h => ∃ t u v, IsRange h p i j k t u v
theorem rngO_ok {P : Program} {w : World} {H : Hp} {h : Heap} {p : Addr} {i j k : Int} {t u v : Tok} (hr : IsRange h p i j k t u v) : ObjOk P w H h p (rngO p i j k) :=
  ⟨⟨t, u, v, hr⟩, ⟨_, hr⟩, fun _ _ ⟨t, u, v, e⟩ hk => ⟨t, u, v, hk _ e⟩⟩
theorem call_rng1 : CallR X (.type "range") (fun xs H Q => ∃ j : Int, xs = [.int j] ∧ ∀ p, H p = none → Q (.ref p) (upd H p (rngO p 0 j 1))) := by
  intro pins s σ H xs us Q I r h
  obtain ⟨j, rfl, q⟩ := h
  obtain ⟨u, rfl, t, rfl⟩ := vals1 r
  refine call_range_1 ⟨.ref s.heap.objs.size, _, I.laid (fun b o e => Heap.get?_push_of_some _ e) (Nat.le_refl _) (rngO_ok (Heap.get?_push_size _ rfl)), rfl, q _ I.fresh⟩
theorem call_rng2 : CallR X (.type "range") (fun xs H Q => ∃ i j : Int, xs = [.int i, .int j] ∧ ∀ p, H p = none → Q (.ref p) (upd H p (rngO p i j 1))) := by
  intro pins s σ H xs us Q I r h
  obtain ⟨i, j, rfl, q⟩ := h
  obtain ⟨u, v, rfl, ⟨t, rfl⟩, t', rfl⟩ := vals2 r
  refine call_range_2 ⟨.ref s.heap.objs.size, _, I.laid (fun b o e => Heap.get?_push_of_some _ e) (Nat.le_refl _) (rngO_ok (Heap.get?_push_size _ rfl)), rfl, q _ I.fresh⟩
theorem vals3 {x y z : V} {us : List Value} (r : Vals [x, y, z] us) : ∃ u v w, us = [u, v, w] ∧ RelV x u ∧ RelV y v ∧ RelV z w := by
  cases r with
  | cons r1 r => cases r with
    | cons r2 r => cases r with
      | cons r3 r => cases r; exact ⟨_, _, _, rfl, r1, r2, r3⟩
theorem call_rng3 : CallR X (.type "range") (fun xs H Q => ∃ i j k : Int, xs = [.int i, .int j, .int k] ∧ k ≠ 0 ∧ k.natAbs < 1073741824 ∧ ∀ p, H p = none → Q (.ref p) (upd H p (rngO p i j k))) := by
  intro pins s σ H xs us Q I r h
  obtain ⟨i, j, k, rfl, hk, hk2, q⟩ := h
  obtain ⟨u, v, w, rfl, ⟨t, rfl⟩, ⟨t', rfl⟩, t'', rfl⟩ := vals3 r
  refine call_range_3 hk ⟨.ref s.heap.objs.size, _, I.laid (t' := s.toks) (fun b o e => Heap.get?_push_of_some _ e) (Nat.le_refl _) (rngO_ok (Heap.get?_push_size _ rfl)), rfl, q _ I.fresh⟩ (Or.inl (PyProof.noPylong_small hk2))
/-- the ints of a range -/
def rngV (i k : Int) (n : Nat) : List V := (List.range n).map fun (m : Nat) => V.int (i + (m : Int) * k)
theorem rngV_length (i k : Int) (n : Nat) : (rngV i k n).length = n := by simp [rngV]
theorem vals_of {xs : List V} {us : List Value} (hl : xs.length = us.length) (h : ∀ (i : Nat) (x : V) (u : Value), xs[i]? = some x → us[i]? = some u → RelV x u) : Vals xs us := by
  induction xs generalizing us with
  | nil => cases us with
    | nil => exact .nil
    | cons _ _ => simp at hl
  | cons x xs ih => cases us with
    | nil => simp at hl
    | cons u us =>
      refine .cons (h 0 x u rfl rfl) (ih (by simpa using hl) fun i y v h1 h2 => h (i + 1) y v (by simpa using h1) (by simpa using h2))
theorem rngV_vals {i k : Int} {n : Nat} {acc : Array Value} (h : ItemsOf (fun m v => ∃ t, v = .int (i + m * k) t) acc n) : Vals (rngV i k n) acc.toList := by
  refine vals_of (by rw [rngV_length]; simpa using h.1.symm) fun m x u h1 h2 => ?_
  obtain ⟨t, rfl⟩ := h.2 m u (by simpa using h2)
  have hm : m < n := by
    have := (List.getElem?_eq_some_iff.mp h1).1
    rwa [rngV_length] at this
  simp [rngV, hm] at h1
  subst h1
  exact ⟨t, rfl⟩
theorem call_list_rng (hc : X.calm = true) : CallR X (.type "list") (fun xs H Q => ∃ p i j k n, xs = [.ref p] ∧ H p = some (rngO p i j k) ∧ Builtin.Range.small i j k = true ∧ Builtin.Range.rangeSize i j k = (n : Nat) ∧ n ≤ 2 ^ 20 ∧
    ∀ l, H l = none → Q (.ref l) (upd H l (.lst (rngV i k n)))) := by
  intro pins s σ H xs us Q I r h
  obtain ⟨p, i, j, k, n, rfl, hp, hs, hn, hb, q⟩ := h
  obtain ⟨u, rfl, rx⟩ := vals1 r
  cases rx
  obtain ⟨⟨t, u, v, hr⟩, _⟩ := I.hok p _ hp
  refine call_list_range (I.ok.hd hc) hr hs hn (Nat.le_trans hb (by decide)) fun h' tk acc' c' hk hl ha => ?_
  refine ⟨.ref s.heap.objs.size, _, I.laid (t' := tk) (o := .lst (rngV i k n)) hk (Nat.le_refl _) ⟨?_, acc'.toList, c', rngV_vals ha, by simpa using hl⟩, rfl, q _ I.fresh⟩
  rw [rngV_length]
  exact Nat.le_trans hb (by decide)
/-- lo, lo + st, .. (n of them) -/
def Itr3 (lo st : Int) (n : Nat) : It := ⟨fun i _ => i < n, fun i H x H' => H' = H ∧ x = .int (lo + i * st), fun i _ => n ≤ i⟩
theorem turn_range3 {P : Program} {w : World} {K : PySem.W.Frag} {tg : Expr} (it : Addr) (lo st : Int) (n : Nat) : Turn P w K tg (Itr3 lo st n) [it] it (fun i h => IsRangeIter h it (lo + (i : Nat) * st) ((n : Int) - (i : Nat)) st) where
  mem := by simp
  obj := fun i h st b hb => by
    have e : b = it := by simpa using hb
    subst e
    exact ⟨_, st, fun v z => by
      have z' : Data.fields _ = Data.cell v := z
      cases z'⟩
  keep := fun i h h' st k => k it (by simp) _ st
  item := by
    intro X hP hw hK hc i pins s σ H E I hf sti hg
    subst hP hw hK
    obtain ⟨f0, f1, f2, f3, f4, f5⟩ := hf it (by simp)
    have W := Walks.range (prog := X.prog) (w := X.w) (I.ok.hd hc) it lo st n
    refine W.item i s _ _ hg sti fun v h' tk hv st' kk => ?_
    obtain ⟨t, rfl⟩ := hv
    have I1 : Inv X pins σ H { s with heap := h', toks := tk } := I.turned (fun b o hb e => kk b o (by simpa using hb) e) f0 f1 f3 f4 f5
    exact ⟨_, rfl, go_of (s := { s with heap := h', toks := tk }) (n := "range_iterator") st' rfl rfl (by decide) ⟨.int (lo + i * st), H, I1, ⟨t, rfl⟩, ⟨rfl, rfl⟩, st', fun b hb => (hf b hb).1⟩⟩
  done := by
    intro X hP hw hK hc i pins s σ H E I hf st hg
    subst hP hw hK
    obtain ⟨f0, f1, f2, f3, f4, f5⟩ := hf it (by simp)
    exact wpAny_pyNext_range_end (I.ok.hd hc) st (by have : n ≤ i := hg; omega) fun h' eb => ⟨rfl, I.turned (t' := s.toks) (fun b o hb e => eb b o hb e) f0 f1 f3 f4 f5⟩
  self := fun _ _ _ _ _ st h => wpAny_pyIter_rangeiter st h
def iRngV (tl : TE) : TI := fun σ H R => tl σ H fun x H1 => ∃ p i j k n, x = .ref p ∧ H1 p = some (rngO p i j k) ∧ Builtin.Range.small i j k = true ∧ Builtin.Range.rangeSize i j k = (n : Nat) ∧ R (Itr3 i k n) H1
theorem pi_rng {tg l : Expr} {tl : TE} (hl : PE X l tl) : PI X tg l (iRngV tl) := by
  intro pins s σ H R I h
  refine thn (hl pins s σ H _ I h) fun v s1 ⟨x, H1, I1, r1, q1⟩ => ?_
  obtain ⟨p, i, j, k, n, e, hp, hs, hn, q⟩ := q1
  subst e
  cases r1
  obtain ⟨⟨t, u, v, hr⟩, _⟩ := I1.hok p _ hp
  refine wpAny_pyIter_range hr hs ?_
  refine ⟨s1.heap.objs.size, [s1.heap.objs.size], _, _, H1, rfl, I1.kept (t' := s1.toks) fun b o e => Heap.get?_push_of_some _ e, turn_range3 _ i k n, ?_, fun b hb => ?_, q⟩
  · show IsRangeIter _ _ (i + ((0 : Nat) : Int) * k) ((n : Int) - ((0 : Nat) : Int)) k
    rw [hn]
    simpa using Heap.get?_push_size _ rfl
  · have e : b = s1.heap.objs.size := by simpa using hb
    subst e
    exact I1.fpOk (Nat.le_refl _) (I1.hok.fresh (Nat.le_refl _))
theorem for_range3 {lo st : Int} {n : Nat} {g : TG} {tb : TS} {D : Ends} {σ : St} {H : Hp} (Pv : Nat → St → Hp → Prop) (h0 : Pv 0 σ H)
    (hs : ∀ i σ H, i < n → Pv i σ H → g (.int (lo + i * st)) σ H fun σ2 H2 => tb { D with nx := Pv (i + 1), ct := Pv (i + 1), bk := D.nx } σ2 H2) (hd : ∀ σ H, Pv n σ H → D.nx σ H) :
    ∃ W : Nat → Nat → St → Hp → Prop, (∃ m, W 0 m σ H) ∧ ∀ i m σ H, W i m σ H →
      ((Itr3 lo st n).stop i H ∧ D.nx σ H) ∨ ((Itr3 lo st n).go i H ∧ ∃ N : St → Hp → Prop, (∀ σ' H', N σ' H' → ∃ m', m' < m ∧ W (i + 1) m' σ' H') ∧ ∀ x H', (Itr3 lo st n).yld i H x H' → g x σ H' fun σ2 H2 => tb { D with nx := N, ct := N, bk := D.nx } σ2 H2) := by
  refine ⟨fun i m σ H => m = n - i ∧ i ≤ n ∧ Pv i σ H, ⟨n, by simp, Nat.zero_le _, h0⟩, ?_⟩
  rintro i m σ H ⟨rfl, hi, p⟩
  by_cases hlt : i < n
  · refine .inr ⟨hlt, Pv (i + 1), fun σ' H' p' => ⟨n - (i + 1), by omega, rfl, hlt, p'⟩, fun x H' y => ?_⟩
    obtain ⟨e, y⟩ := y
    subst e y
    exact hs i σ _ hlt p
  · have e : i = n := by omega
    subst e
    exact .inl ⟨Nat.le_refl _, hd σ H p⟩
/-- numbers of the size that packs have -/
theorem rng_small {i j k : Int} (hi : -1000000 ≤ i ∧ i ≤ 1000000) (hj : -1000000 ≤ j ∧ j ≤ 1000000) (hk : k ≠ 0) (hk2 : -1000000 ≤ k ∧ k ≤ 1000000) : Builtin.Range.small i j k = true := by
  have hf : ∀ z : Int, -4000000 ≤ z → z ≤ 4000000 → Builtin.Range.rangeFitsLong z = true := fun z h1 h2 => by
    unfold Builtin.Range.rangeFitsLong
    simp only [Bool.and_eq_true, decide_eq_true_eq]
    omega
  have hsz : 0 ≤ Builtin.Range.rangeSize i j k ∧ Builtin.Range.rangeSize i j k ≤ 3000000 := by
    unfold Builtin.Range.rangeSize
    have dv : ∀ a c : Int, 0 ≤ a → 0 < c → 0 ≤ a / c ∧ a / c ≤ a := fun a c ha hc => ⟨Int.ediv_nonneg ha (by omega), Int.ediv_le_self _ ha⟩
    split
    · split
      · have := dv (j - i - 1) k (by omega) (by omega); omega
      · omega
    · split
      · have := dv (i - j - 1) (-k) (by omega) (by omega); omega
      · omega
  unfold Builtin.Range.small
  rw [hf i (by omega) (by omega), hf j (by omega) (by omega), hf k (by omega) (by omega), hf _ (by omega) (by omega)]
  simp only [Bool.true_and, Bool.or_eq_true]
  refine .inr ?_
  split
  · exact hf _ (by omega) (by omega)
  · exact hf _ (by omega) (by omega)
theorem rng_up {i j : Int} : Builtin.Range.rangeSize i j 1 = ((j - i).toNat : Nat) := by
  unfold Builtin.Range.rangeSize
  simp only [show (1 : Int) > 0 by omega, if_true, Int.ediv_one]
  split <;> omega
theorem rng_down {n : Nat} : Builtin.Range.rangeSize ((n : Int) - 1) (-1) (-1) = (n : Nat) := by
  unfold Builtin.Range.rangeSize
  simp only [show ¬ ((-1 : Int) > 0) by omega, if_false, Int.neg_neg, Int.ediv_one]
  split <;> omega
theorem rng_step {j n p : Nat} (hp : 0 < p) : Builtin.Range.rangeSize (j : Int) (n : Int) (p : Int) = (((n - j + p - 1) / p : Nat) : Int) := by
  unfold Builtin.Range.rangeSize
  rw [if_pos (by omega)]
  split
  · rename_i h
    have e : (n : Int) - j - 1 = ((n - j - 1 : Nat) : Int) := by omega
    have e2 : n - j + p - 1 = (n - j - 1) + p := by omega
    rw [e, e2, Nat.add_div_right _ hp]
    rfl
  · have e2 : (n - j + p - 1) / p = 0 := Nat.div_eq_of_lt (by omega)
    rw [e2]; rfl
end
end L2

set_option Elab.async false
set_option linter.all false
set_option maxRecDepth 100000
namespace L2
open PySem PySem.Spec PyProof.Rows
section
variable {X : Cx}

/-! ### for i, x in enumerate(xs) -/
def Ite (K : PySem.W.Frag) (a : Addr) : It :=
  ⟨fun i H => ∃ xs x, SqL K H a xs ∧ xs[i]? = some x, fun i H x H' => ∃ p v, x = .ref p ∧ H p = none ∧ H' = upd H p (.tup [.int i, v]) ∧ ∀ xs, SqL K H a xs → xs[i]? = some v, fun i H => ∃ xs, SqL K H a xs ∧ xs.length ≤ i⟩
theorem turn_enum {P : Program} {w : World} {K : PySem.W.Frag} {es : List Expr} {k1} {pt : Pos} (a e it : Addr) (hne : e ≠ it) :
    Turn P w K (.Tuple es k1 pt) (Ite K a) [e, it] e (fun i h => (∃ old, IsEnum h e it ((i : Nat) : Int) old) ∧ h.IsListIter it a i) where
  mem := by simp
  obj := fun i h st b hb => by
    obtain ⟨⟨old, st1⟩, o, st2, c, d⟩ := st
    rcases List.mem_cons.mp hb with z | z
    · subst z
      exact ⟨_, st1, fun v z => by
        have z' : Data.fields _ = Data.cell v := z
        cases z'⟩
    · have z' : b = it := by simpa using z
      subst z'
      exact ⟨o, st2, fun v z => by rw [d] at z; cases z⟩
  keep := fun i h h' st k => ⟨let ⟨old, st1⟩ := st.1; ⟨old, k e (by simp) _ st1⟩, st.2.at fun o q => k it (by simp) o q⟩
  item := by
    intro X hP hw hK hc i pins s σ H E I hf st hg
    subst hP hw hK
    obtain ⟨xs, x, hq, hx⟩ := hg
    obtain ⟨its, rv, p, hz⟩ := I.list hq
    obtain ⟨u, hu, ru⟩ := rv.get hx
    obtain ⟨⟨old, st1⟩, st2⟩ := st
    obtain ⟨f0, f1, f2, f3, f4, f5⟩ := hf e (by simp)
    obtain ⟨g0, g1, g2, g3, g4, g5⟩ := hf it (by simp)
    refine wpAny_pyNext_enum_item st1 st2 p.isList (x := u) (by simpa using hu) hne fun h' he' hit' ht' hz' hk' => ?_
    refine ⟨_, rfl, ?_⟩
    refine wpAny_letOwnedTupleGo_enum he' fun h2 he2 hs2 => ?_
    have hlt : e < s.heap.objs.size := Heap.lt_size st1
    have hlt2 : it < s.heap.objs.size := let ⟨o, q, _⟩ := st2; Heap.lt_size q
    have up : ∀ b o, b ≠ e → b ≠ it → s.heap.get? b = some o → h2.get? b = some o := fun b o h1 h3 q => (hs2.2 b h1).trans (hk' b o h1 h3 q)
    have I1 : Inv X pins σ H { s with heap := h2, toks := s.toks + 1 } := by
      refine I.step (g' := s.gens) (d' := s.drawn) (ch := [e, it]) (fun b hb => ?_) (fun b o _ _ hcb q _ => up b o (fun z => hcb (by simp [z])) (fun z => hcb (by simp [z])) q) (fun b o _ _ hcb q _ => ⟨o.slots, up b o (fun z => hcb (by simp [z])) (fun z => hcb (by simp [z])) q⟩)
        (fun _ _ _ _ n => n) (fun b o hcb q => ⟨o, up b o (fun z => hcb (by simp [z])) (fun z => hcb (by simp [z])) q⟩) (fun _ _ q => q) (fun _ _ _ q => q) (fun b ps q => ⟨#[], by rw [q]; simp⟩) (fun m hm => ?_) (fun b o q => ?_) I.bare
      · rcases List.mem_cons.mp hb with z | z
        · subst z; exact ⟨f3, f1, f4, f5⟩
        · have z' : b = it := by simpa using z
          subst z'; exact ⟨g3, g1, g4, g5⟩
      · obtain ⟨o, es', ep, ho, r⟩ := hm
        exact ⟨o, es', ep, up _ o (Ne.symm f1) (Ne.symm g1) ho, r⟩
      · refine (I.hok b o q).stay (fun c v hcv z => up c v ?_ ?_ z) (fun _ z => z) fun _ _ z => z
        · rcases hcv with z | z
          · rw [z]; exact ne_of_none q f0
          · exact ne_of_none z f0
        · rcases hcv with z | z
          · rw [z]; exact ne_of_none q g0
          · exact ne_of_none z g0
    have hp : h2.get? s.heap.objs.size = some { cls := .type "tuple", data := .seq #[.int i s.toks, u] } := (hs2.2 _ (Nat.ne_of_gt hlt)).trans ht'
    have fr : H s.heap.objs.size = none := I.fresh
    have hok2 : HOk X.prog X.w (upd H s.heap.objs.size (.tup [.int i, x])) h2 := by
      intro b o q
      by_cases hb : b = s.heap.objs.size
      · subst hb
        rw [upd_same] at q
        cases q
        refine ⟨?_, [.int i s.toks, u], .cons ⟨_, rfl⟩ (.cons ru .nil), ⟨_, hp, rfl, _, rfl⟩⟩
        show 2 ≤ sizeLine
        decide
      · rw [upd_ne hb] at q
        exact (I1.hok b o q).stay (fun c v _ z => z) (fun c z => by rw [upd_ne (ne_of_none z fr)]; exact z) fun c ys z => by rw [upd_ne (ne_of_none z fr)]; exact z
    have I2 : Inv X pins σ (upd H s.heap.objs.size (.tup [.int i, x])) { s with heap := h2, toks := s.toks + 1 } := by
      have nb : ∀ b o, X.s₀.heap.get? b = some o → b ≠ s.heap.objs.size := fun b o q => Nat.ne_of_lt (Nat.lt_of_lt_of_le (Heap.lt_size q) I.sz)
      refine ⟨I1.ok, I1.os, I1.bare, ⟨I1.base.keep, I1.base.slot, fun b o q n hx' => by rw [upd_ne (nb b o q)]; exact I1.base.free b o q n hx', I1.base.there, fun b ys q => ?_, fun b o v q => ?_, fun b ps q => ?_⟩, I1.loc, I1.cell, ?_, fun y c q => ?_, fun pp hpp => ?_, hok2, I1.len⟩
      · have z := I1.base.tups b ys q
        rw [upd_ne (ne_of_none z fr)]; exact z
      · have z := I1.base.frzs b o v q
        rw [upd_ne (ne_of_none z fr)]; exact z
      · obtain ⟨more, z⟩ := I1.base.tbls b ps q
        exact ⟨more, by rw [upd_ne (ne_of_none z fr)]; exact z⟩
      · rw [upd_ne (Nat.ne_of_lt I.lt)]; exact I1.free
      · obtain ⟨v, o, ho, _⟩ := I.cell y c q
        rw [upd_ne (Nat.ne_of_lt (Heap.lt_size ho))]; exact I1.freeC y c q
      · obtain ⟨a1, a2, a3⟩ := I1.pin pp hpp
        refine ⟨a1, ?_, a3⟩
        rw [upd_ne (Nat.ne_of_lt (Heap.lt_size (I.pin pp hpp).1))]
        exact a2
    refine ⟨.ref s.heap.objs.size, _, I2, rfl, ⟨_, x, rfl, fr, rfl, fun ys hy => by rw [I.list_inj hy hq]; exact hx⟩, ⟨⟨u, by simpa using he2⟩, ?_⟩, fun b hb => ?_⟩
    · exact hit'.at fun o q => (hs2.2 it (Ne.symm hne)).trans q
    · rcases List.mem_cons.mp hb with z | z
      · subst z; rw [upd_ne (Nat.ne_of_lt hlt)]; exact f0
      · have z' : b = it := by simpa using z
        subst z'; rw [upd_ne (Nat.ne_of_lt hlt2)]; exact g0
  done := by
    intro X hP hw hK hc i pins s σ H E I hf st hg
    subst hP hw hK
    obtain ⟨xs, hq, hx⟩ := hg
    obtain ⟨its, rv, p, hz⟩ := I.list hq
    obtain ⟨⟨old, st1⟩, st2⟩ := st
    obtain ⟨g0, g1, g2, g3, g4, g5⟩ := hf it (by simp)
    have hl := rv.length
    exact wpAny_pyNext_enum_end (I.ok.hd hc) st1 st2 p.isList (by simp; omega) fun h' eb => ⟨rfl, I.turned (t' := s.toks) (fun b o hb q => eb b o hb q) g0 g1 g3 g4 g5⟩
  self := fun _ _ _ _ _ st h => let ⟨⟨old, st1⟩, _⟩ := st; wpAny_pyIter_enum st1 h
def iEnum (K : PySem.W.Frag) (ta : TA) : TI := fun σ H R => ta σ H fun vs H1 => ∃ a, vs = [.ref a] ∧ (∃ xs, SqL K H1 a xs) ∧ R (Ite K a) H1
theorem pi_enum {es : List Expr} {k1} {pt : Pos} {a : Expr} {ta : TA} {p pos : Pos} (hg : Gl X "enumerate") (hm : X.mg "enumerate" = none) (ha : PA X [a] ta) (hs : starEach [a] X.env = [(false, eval a X.env)] := by rfl) :
    PI X (.Tuple es k1 pt) (.Call (.Name "enumerate" p) [a] [] pos) (iEnum X.K ta) := by
  intro pins s σ H R I h
  refine Call_ (ld_blt I hg hm (show bootBuiltins "enumerate" = some (.type "enumerate") by decide +kernel) (PyProof.Rows.callWith_type1 (thn (ha pos pins s σ H _ I h) fun us s1 ⟨vs, H1, I1, r1, q1⟩ => ?_) hs rfl))
  obtain ⟨l, e, ⟨xs, hq⟩, q⟩ := q1
  subst e
  obtain ⟨u, rfl, rx⟩ := vals1 r1
  cases rx
  obtain ⟨its, rv, pl, hz⟩ := I1.list hq
  refine call_enumerate_list pl.isList fun h' he hi hsz hk => ?_
  refine wpAny_pyIter_enum he ?_
  refine ⟨s1.heap.objs.size + 1, [s1.heap.objs.size + 1, s1.heap.objs.size], _, _, H1, rfl, I1.kept (t' := s1.toks) hk, turn_enum l _ _ (Nat.ne_of_gt (Nat.lt_succ_self _)), ⟨⟨_, he⟩, hi⟩, fun b hb => ?_, q⟩
  rcases List.mem_cons.mp hb with z | z
  · subst z; exact I1.fpOk (by omega) (I1.hok.fresh (by omega))
  · have z' : b = s1.heap.objs.size := by simpa using z
    subst z'; exact I1.fpOk (Nat.le_refl _) (I1.hok.fresh (Nat.le_refl _))
theorem for_enum {K : PySem.W.Frag} {a : Addr} {xs : List V} {g : TG} {tb : TS} {D : Ends} {σ : St} {H : Hp} (Pv : Nat → St → Hp → Prop) (h0 : Pv 0 σ H) (hl : ∀ i σ H, i ≤ xs.length → Pv i σ H → SqL K H a xs)
    (hs : ∀ i v σ H p, xs[i]? = some v → Pv i σ H → H p = none → g (.ref p) σ (upd H p (.tup [.int i, v])) fun σ2 H2 => tb { D with nx := Pv (i + 1), ct := Pv (i + 1), bk := D.nx } σ2 H2) (hd : ∀ σ H, Pv xs.length σ H → D.nx σ H) :
    ∃ W : Nat → Nat → St → Hp → Prop, (∃ m, W 0 m σ H) ∧ ∀ i m σ H, W i m σ H →
      ((Ite K a).stop i H ∧ D.nx σ H) ∨ ((Ite K a).go i H ∧ ∃ N : St → Hp → Prop, (∀ σ' H', N σ' H' → ∃ m', m' < m ∧ W (i + 1) m' σ' H') ∧ ∀ x H', (Ite K a).yld i H x H' → g x σ H' fun σ2 H2 => tb { D with nx := N, ct := N, bk := D.nx } σ2 H2) := by
  refine ⟨fun i m σ H => m = xs.length - i ∧ i ≤ xs.length ∧ Pv i σ H, ⟨xs.length, by simp, Nat.zero_le _, h0⟩, ?_⟩
  rintro i m σ H ⟨rfl, hi, p⟩
  have q := hl i σ H hi p
  by_cases hlt : i < xs.length
  · refine .inr ⟨⟨xs, xs[i], q, by simp [hlt]⟩, Pv (i + 1), fun σ' H' p' => ⟨xs.length - (i + 1), by omega, rfl, hlt, p'⟩, fun x H' y => ?_⟩
    obtain ⟨pp, v, rfl, hn, rfl, y⟩ := y
    exact hs i v σ H pp (y xs q) p hn
  · have e : i = xs.length := by omega
    subst e
    exact .inl ⟨⟨xs, q, Nat.le_refl _⟩, hd σ H p⟩

/-! ### for c in a text -/
def Its (z : Str) : It := ⟨fun i _ => i < z.cps.size, fun i H x H' => H' = H ∧ ∃ c, z.cps[i]? = some c ∧ x = .str ⟨#[c]⟩, fun i _ => z.cps.size ≤ i⟩
theorem turn_str {P : Program} {w : World} {K : PySem.W.Frag} {tg : Expr} {ty : String} {t : Tok} (it : Addr) (z : Str) (hty : ty = "str_ascii_iterator" ∨ ty = "str_iterator") : Turn P w K tg (Its z) [it] it (fun i h => i ≤ z.cps.size ∧ h.IsStrIter it ty z t i) where
  mem := by simp
  obj := fun i h st b hb => by
    have e : b = it := by simpa using hb
    subst e
    obtain ⟨_, o, e, c, d⟩ := st
    exact ⟨o, e, fun v z => by rw [d] at z; cases z⟩
  keep := fun i h h' st k => ⟨st.1, let ⟨o, ho, r⟩ := st.2; ⟨o, k it (by simp) o ho, r⟩⟩
  item := by
    intro X hP hw hK hc i pins s σ H E I hf st hg
    subst hP hw hK
    obtain ⟨f0, f1, f2, f3, f4, f5⟩ := hf it (by simp)
    have hlt : i < z.cps.size := hg
    have fin : ∀ (h' : Heap) (tk : Nat) (c : Nat) (u : Tok), z.cps[i]? = some c → h'.IsStrIter it ty z t (i + 1) → (∀ b o, b ∉ [it] → s.heap.get? b = some o → h'.get? b = some o) →
        (∃ uu, some (Value.str ⟨#[c]⟩ u) = some uu ∧ wpAny (model X.prog X.w) X.A (letOwnedTupleGo tg (.ref it) uu) (fun _ s2 => ∃ x H', Inv X pins σ H' s2 ∧ RelV x uu ∧ (Its z).yld i H x H' ∧ (i + 1 ≤ z.cps.size ∧ s2.heap.IsStrIter it ty z t (i + 1)) ∧ ∀ b ∈ [it], H' b = none) E { s with heap := h', toks := tk }) := by
      intro h' tk c u hcx st' kk
      have I1 : Inv X pins σ H { s with heap := h', toks := tk } := I.turned (fun b o hb e => kk b o (by simpa using hb) e) f0 f1 f3 f4 f5
      obtain ⟨o, e, cc, d⟩ := id st'
      exact ⟨_, rfl, go_of (s := { s with heap := h', toks := tk }) (n := ty) e cc d (by rcases hty with q | q <;> (rw [q]; decide)) ⟨.str ⟨#[c]⟩, H, I1, ⟨u, rfl⟩, ⟨rfl, c, hcx, rfl⟩, ⟨hlt, st'⟩, fun b hb => (hf b hb).1⟩⟩
    rcases hty with q | q
    · subst q
      refine (Walks.strAscii (prog := X.prog) (w := X.w) (I.ok.hd hc) it z t).item i s _ _ hlt st.2 fun v h' tk hv st' kk => ?_
      obtain ⟨c, u, hcx, rfl⟩ := hv
      exact fin h' tk c u hcx st' kk
    · subst q
      refine (Walks.strWide (prog := X.prog) (w := X.w) (I.ok.hd hc) it z t).item i s _ _ hlt st.2 fun v h' tk hv st' kk => ?_
      obtain ⟨c, u, hcx, rfl⟩ := hv
      exact fin h' tk c u hcx st' kk
  done := by
    intro X hP hw hK hc i pins s σ H E I hf st hg
    subst hP hw hK
    obtain ⟨f0, f1, f2, f3, f4, f5⟩ := hf it (by simp)
    have hi : i = z.cps.size := Nat.le_antisymm st.1 hg
    have st2 := st.2
    rw [hi] at st2
    rcases hty with q | q
    · subst q
      exact (Walks.strAscii (prog := X.prog) (w := X.w) (I.ok.hd hc) it z t).done s _ _ st2 fun h' tk kk => ⟨rfl, I.turned (fun b o hb e => kk b o (by simpa using hb) e) f0 f1 f3 f4 f5⟩
    · subst q
      exact (Walks.strWide (prog := X.prog) (w := X.w) (I.ok.hd hc) it z t).done s _ _ st2 fun h' tk kk => ⟨rfl, I.turned (fun b o hb e => kk b o (by simpa using hb) e) f0 f1 f3 f4 f5⟩
  self := fun A i s Q E st h => by
    rcases hty with q | q
    · subst q
      exact wpAny_pyIter_striter_ascii st.2 h
    · subst q
      exact wpAny_pyIter_striter_wide st.2 h
def iStr (tl : TE) : TI := fun σ H R => tl σ H fun x H1 => ∃ z, x = .str z ∧ R (Its z) H1
theorem pi_str {tg l : Expr} {tl : TE} (hl : PE X l tl) : PI X tg l (iStr tl) := by
  intro pins s σ H R I h
  refine thn (hl pins s σ H _ I h) fun v s1 ⟨x, H1, I1, r1, q1⟩ => ?_
  obtain ⟨z, e, q⟩ := q1
  subst e
  obtain ⟨t, rfl⟩ := r1
  refine wpAny_pyIter_strU ?_
  refine ⟨s1.heap.objs.size, [s1.heap.objs.size], _, _, H1, rfl, I1.kept (t' := s1.toks) fun b o e => Heap.get?_push_of_some _ e, turn_str (ty := strIterType z) (t := t) _ z (by unfold strIterType; split <;> simp), ⟨Nat.zero_le _, ⟨_, Heap.get?_push_size _ rfl, rfl, rfl⟩⟩, fun b hb => ?_, q⟩
  have e : b = s1.heap.objs.size := by simpa using hb
  subst e
  exact I1.fpOk (Nat.le_refl _) (I1.hok.fresh (Nat.le_refl _))
theorem for_str {z : Str} {g : TG} {tb : TS} {D : Ends} {σ : St} {H : Hp} (Pv : Nat → St → Hp → Prop) (h0 : Pv 0 σ H)
    (hs : ∀ i c σ H, z.cps[i]? = some c → Pv i σ H → g (.str ⟨#[c]⟩) σ H fun σ2 H2 => tb { D with nx := Pv (i + 1), ct := Pv (i + 1), bk := D.nx } σ2 H2) (hd : ∀ σ H, Pv z.cps.size σ H → D.nx σ H) :
    ∃ W : Nat → Nat → St → Hp → Prop, (∃ m, W 0 m σ H) ∧ ∀ i m σ H, W i m σ H →
      ((Its z).stop i H ∧ D.nx σ H) ∨ ((Its z).go i H ∧ ∃ N : St → Hp → Prop, (∀ σ' H', N σ' H' → ∃ m', m' < m ∧ W (i + 1) m' σ' H') ∧ ∀ x H', (Its z).yld i H x H' → g x σ H' fun σ2 H2 => tb { D with nx := N, ct := N, bk := D.nx } σ2 H2) := by
  refine ⟨fun i m σ H => m = z.cps.size - i ∧ i ≤ z.cps.size ∧ Pv i σ H, ⟨z.cps.size, by simp, Nat.zero_le _, h0⟩, ?_⟩
  rintro i m σ H ⟨rfl, hi, p⟩
  by_cases hlt : i < z.cps.size
  · refine .inr ⟨hlt, Pv (i + 1), fun σ' H' p' => ⟨z.cps.size - (i + 1), by omega, rfl, hlt, p'⟩, fun x H' y => ?_⟩
    obtain ⟨e, c, hc, rfl⟩ := y
    subst e
    exact hs i c σ _ hc p
  · have e : i = z.cps.size := by omega
    subst e
    exact .inl ⟨Nat.le_refl _, hd σ H p⟩

/-! ### all, any of a list of bools -/
theorem range_all_map (bs : List Bool) : (List.range bs.length).all (fun i => bs.getD i false) = bs.all id := by
  rw [Bool.eq_iff_iff, List.all_eq_true, List.all_eq_true]
  constructor
  · intro h x hx
    obtain ⟨i, hi, e⟩ := List.getElem_of_mem hx
    have := h i (List.mem_range.mpr hi)
    simp [List.getD_eq_getElem?_getD, hi, e] at this
    exact this
  · intro h i hi
    have hi' := List.mem_range.mp hi
    simp [List.getD_eq_getElem?_getD, hi']
    exact h _ (List.getElem_mem hi')
theorem range_any_map (bs : List Bool) : (List.range bs.length).any (fun i => bs.getD i false) = bs.any id := by
  rw [Bool.eq_iff_iff, List.any_eq_true, List.any_eq_true]
  constructor
  · rintro ⟨i, hi, h⟩
    have hi' := List.mem_range.mp hi
    simp [List.getD_eq_getElem?_getD, hi'] at h
    exact ⟨_, List.getElem_mem hi', h⟩
  · rintro ⟨x, hx, h⟩
    obtain ⟨i, hi, e⟩ := List.getElem_of_mem hx
    exact ⟨i, List.mem_range.mpr hi, by simp [List.getD_eq_getElem?_getD, hi, e]; exact h⟩
theorem vals_bls {bs : List Bool} {its : List Value} (r : Vals (bs.map V.bl) its) : its = bs.map Value.bool := by
  induction bs generalizing its with
  | nil => cases r; rfl
  | cons b bs ih => cases r with
    | cons r1 r2 => cases r1; rw [ih r2]; rfl
theorem call_all (hc : X.calm = true) : CallR X (.builtin "all") (fun xs H Q => ∃ (p : Addr) (bs : List Bool), xs = [.ref p] ∧ SqL X.K H p (bs.map V.bl) ∧ Q (.bl (bs.all id)) H) := by
  intro pins s σ H xs us Q I r h
  obtain ⟨p, bs, rfl, hq, q⟩ := h
  obtain ⟨u, rfl, rx⟩ := vals1 r
  cases rx
  obtain ⟨its, rv, pl, hz⟩ := I.list hq
  have e := vals_bls rv
  have hd : X.A.in1.handled = none := I.ok.hd hc
  refine call_all_walk (wpAny_pyIter_list pl.isList ?_)
  have hpne : p ≠ s.heap.objs.size := let ⟨o, _, q, _⟩ := pl; Nat.ne_of_lt (Heap.lt_size q)
  refine ⟨s.heap.objs.size, _, _, _, _, _, fun i => bs.getD i false, rfl, Walks.list hd s.heap.objs.size p hpne its.toArray, ⟨⟨_, Heap.get?_push_size _ rfl, rfl, rfl⟩, ?_⟩, ?_, fun h' tk hk => ?_⟩
  · exact pl.isList.at fun o q => Heap.get?_push_of_some _ q
  · intro i v s' Q' E' hv hq'
    have hv' : its[i]? = some v := by simpa using hv
    rw [e, List.getElem?_map] at hv'
    cases hb : bs[i]? with
    | none => rw [hb] at hv'; simp at hv'
    | some b =>
      rw [hb] at hv'
      simp at hv'
      subst hv'
      have : bs.getD i false = b := by simp [List.getD_eq_getElem?_getD, hb]
      dsimp only at hq'
      rw [this] at hq'
      exact wpAny_truthy_bool hq'
  · have hlen : its.toArray.size = bs.length := by rw [e]; simp
    rw [hlen, range_all_map]
    refine ⟨.bl _, H, ?_, rfl, q⟩
    exact I.kept fun b o z => hk b o (by simp; exact Nat.ne_of_lt (Heap.lt_size z)) (Heap.get?_push_of_some _ z)
theorem call_any (hc : X.calm = true) : CallR X (.builtin "any") (fun xs H Q => ∃ (p : Addr) (bs : List Bool), xs = [.ref p] ∧ SqL X.K H p (bs.map V.bl) ∧ Q (.bl (bs.any id)) H) := by
  intro pins s σ H xs us Q I r h
  obtain ⟨p, bs, rfl, hq, q⟩ := h
  obtain ⟨u, rfl, rx⟩ := vals1 r
  cases rx
  obtain ⟨its, rv, pl, hz⟩ := I.list hq
  have e := vals_bls rv
  have hd : X.A.in1.handled = none := I.ok.hd hc
  refine call_any_walk (wpAny_pyIter_list pl.isList ?_)
  have hpne : p ≠ s.heap.objs.size := let ⟨o, _, q, _⟩ := pl; Nat.ne_of_lt (Heap.lt_size q)
  refine ⟨s.heap.objs.size, _, _, _, _, _, fun i => bs.getD i false, rfl, Walks.list hd s.heap.objs.size p hpne its.toArray, ⟨⟨_, Heap.get?_push_size _ rfl, rfl, rfl⟩, ?_⟩, ?_, fun h' tk hk => ?_⟩
  · exact pl.isList.at fun o q => Heap.get?_push_of_some _ q
  · intro i v s' Q' E' hv hq'
    have hv' : its[i]? = some v := by simpa using hv
    rw [e, List.getElem?_map] at hv'
    cases hb : bs[i]? with
    | none => rw [hb] at hv'; simp at hv'
    | some b =>
      rw [hb] at hv'
      simp at hv'
      subst hv'
      have : bs.getD i false = b := by simp [List.getD_eq_getElem?_getD, hb]
      dsimp only at hq'
      rw [this] at hq'
      exact wpAny_truthy_bool hq'
  · have hlen : its.toArray.size = bs.length := by rw [e]; simp
    rw [hlen, range_any_map]
    refine ⟨.bl _, H, ?_, rfl, q⟩
    exact I.kept fun b o z => hk b o (by simp; exact Nat.ne_of_lt (Heap.lt_size z)) (Heap.get?_push_of_some _ z)
end
end L2

set_option Elab.async false
set_option linter.all false
set_option maxRecDepth 100000
namespace L2
open PySem PySem.Spec PyProof.Rows
section
variable {X : Cx}

/-! ### sets of ints -/
theorem ints_vals {ns : List Int} {its : List Value} (r : Vals (ns.map V.int) its) : IntsAre its ns := by
  induction ns generalizing its with
  | nil => cases r; exact .nil
  | cons n ns ih => cases r with
    | cons r1 r2 =>
      obtain ⟨t, rfl⟩ := r1
      exact .cons n t (ih r2)
/-- how many different ones -/
def setN (ns : List Int) : Nat := (firstMet (fun i => ns.getD i 0) ns.length).length
def setS (ns : List Int) (k : Int) : Bool := (firstMet (fun i => ns.getD i 0) ns.length).any (· == k)
theorem call_set_ints (hc : X.calm = true) : CallR X (.type "set") (fun xs H Q => ∃ p ns, xs = [.ref p] ∧ SqL X.K H p (ns.map V.int) ∧ ns.length ≤ 1000 ∧ ∀ l, H l = none → Q (.ref l) (upd H l (.set (setS ns) (setN ns)))) := by
  intro pins s σ H xs us Q I r h
  obtain ⟨p, ns, rfl, hq, hz, q⟩ := h
  obtain ⟨u, rfl, rx⟩ := vals1 r
  cases rx
  obtain ⟨its, rv, pl, _⟩ := I.list hq
  have hl := rv.length
  rw [List.length_map] at hl
  refine call_set_list (I.ok.hd hc) pl.isList (ns := ns) (by simpa using ints_vals rv) (by rw [List.size_toArray, ← hl]; have : scanBound = 4096 := rfl; omega) fun h' tk hs hk => ?_
  have e : its.toArray.size = ns.length := by rw [List.size_toArray, ← hl]
  rw [e] at hs
  refine ⟨.ref s.heap.objs.size, _, I.laid (t' := tk) (fun b o e => hk b o (Heap.lt_size e) e) (Nat.le_refl _) ?_, rfl, q _ I.fresh⟩
  exact hs
theorem call_len_setO : CallR X (.builtin "len") (fun xs H Q => ∃ p S n, xs = [.ref p] ∧ H p = some (.set S n) ∧ Q (.int n) H) := by
  intro pins s σ H xs us Q I r h
  obtain ⟨p, S, n, rfl, hp, q⟩ := h
  obtain ⟨u, rfl, rx⟩ := vals1 r
  cases rx
  obtain ⟨o, es, ep, t, ho, hex, hd, _, _, hb, hf, hn⟩ := I.hok p _ hp
  have : scanBound = 4096 := rfl
  refine call_len_set ho hex hd hf (by omega) ⟨.int n, H, I.tok _, ⟨_, by rw [hn]⟩, q⟩
theorem firstMet_nodup (val : Nat → Int) : ∀ n, (∀ i j, i < n → j < n → val i = val j → i = j) → firstMet val n = (List.range n).map val
  | 0, _ => rfl
  | n + 1, h => by
    have ih := firstMet_nodup val n fun i j hi hj => h i j (by omega) (by omega)
    rw [firstMet_succ, ih, List.range_succ, List.map_append, step_dedup, if_neg]
    · rfl
    · intro hx
      rw [List.any_eq_true] at hx
      obtain ⟨y, hy, e⟩ := hx
      obtain ⟨i, hi, rfl⟩ := List.mem_map.mp hy
      have := h i n (by have := List.mem_range.mp hi; omega) (by omega) (by simpa using e)
      have := List.mem_range.mp hi
      omega
theorem setN_nodup {ns : List Int} (h : ns.Nodup) : setN ns = ns.length := by
  unfold setN
  rw [firstMet_nodup, List.length_map, List.length_range]
  intro i j hi hj e
  simp only [List.getD_eq_getElem?_getD, List.getElem?_eq_getElem hi, List.getElem?_eq_getElem hj, Option.getD_some] at e
  exact (List.getElem_inj h).mp e

/-! ### == and != of flat lists -/
def eqVs (xs ys : List V) : Bool := xs.length == ys.length && (List.range xs.length).all fun i => eqV (xs.getD i .non) (ys.getD i .non)
def rEqL (K : PySem.W.Frag) (neg : Bool) : R2 := fun x y H Q => ∃ p q xs ys, x = .ref p ∧ y = .ref q ∧ SqL K H p xs ∧ SqL K H q ys ∧ xs.all flatV = true ∧ ys.all flatV = true ∧ Q (.bl (if neg then !eqVs xs ys else eqVs xs ys)) H
theorem eqVs_at {A : Around} {s : Shared} {xs ys : List V} {us ws : List Value} (rx : Vals xs us) (ry : Vals ys ws) (fx : xs.all flatV = true) (fy : ys.all flatV = true) :
    ∀ j (h1 : j < us.toArray.size) (h2 : j < ws.toArray.size), SeqAt.EqAt A s us.toArray[j] ws.toArray[j] (eqV (xs.getD j .non) (ys.getD j .non)) := by
  intro j h1 h2
  have l1 := rx.length
  have l2 := ry.length
  have h1' : j < us.length := by simpa using h1
  have h2' : j < ws.length := by simpa using h2
  have e1 : xs[j]? = some (xs[j]'(by omega)) := List.getElem?_eq_getElem _
  have e2 : ys[j]? = some (ys[j]'(by omega)) := List.getElem?_eq_getElem _
  obtain ⟨u, hu, ru⟩ := rx.get e1
  obtain ⟨w, hw, rw'⟩ := ry.get e2
  have eu : us.toArray[j] = u := by
    have : us[j]? = some us[j] := List.getElem?_eq_getElem h1'
    rw [this] at hu
    simpa using hu
  have ew : ws.toArray[j] = w := by
    have : ws[j]? = some ws[j] := List.getElem?_eq_getElem h2'
    rw [this] at hw
    simpa using hw
  rw [eu, ew]
  have g1 : xs.getD j .non = xs[j]'(by omega) := by rw [List.getD_eq_getElem?_getD, e1]; rfl
  have g2 : ys.getD j .non = ys[j]'(by omega) := by rw [List.getD_eq_getElem?_getD, e2]; rfl
  rw [g1, g2]
  exact eqAt_V ru rw' (List.all_eq_true.mp fx _ (List.getElem_mem _)) (List.all_eq_true.mp fy _ (List.getElem_mem _))
theorem op_eqL (hu : X.A.units < cLine) : OpR X (compareOp .Eq) (rEqL X.K false) := by
  intro pins s σ H x y v u Q I rx ry h
  obtain ⟨p, q, xs, ys, rfl, rfl, hp, hq, fx, fy, k⟩ := h
  cases rx
  cases ry
  obtain ⟨its, r, pl, hz⟩ := I.list hp
  obtain ⟨its2, r2, pl2, hz2⟩ := I.list hq
  have l1 := r.length
  have l2 := r2.length
  by_cases hl : xs.length = ys.length
  · refine SeqAt.eq_listAt pl.isList pl2.isList (by simp; omega) hu (eqVs_at r r2 fx fy) ⟨.bl _, H, I, rfl, ?_⟩
    have : eqVs xs ys = (List.range its.toArray.size).all fun i => eqV (xs.getD i .non) (ys.getD i .non) := by
      unfold eqVs
      rw [hl, beq_self_eq_true, Bool.true_and, List.size_toArray, ← l1, hl]
    rw [← this]
    exact k
  · refine SeqAt.eq_list_lengthsAt pl.isList pl2.isList (by simp; omega) hu ⟨.bl _, H, I, rfl, ?_⟩
    have : eqVs xs ys = false := by
      unfold eqVs
      rw [beq_eq_false_iff_ne.mpr hl, Bool.false_and]
    rw [← this]
    exact k
theorem op_neL (hu : X.A.units < cLine) : OpR X (compareOp .NotEq) (rEqL X.K true) := by
  intro pins s σ H x y v u Q I rx ry h
  obtain ⟨p, q, xs, ys, rfl, rfl, hp, hq, fx, fy, k⟩ := h
  cases rx
  cases ry
  obtain ⟨its, r, pl, hz⟩ := I.list hp
  obtain ⟨its2, r2, pl2, hz2⟩ := I.list hq
  have l1 := r.length
  have l2 := r2.length
  by_cases hl : xs.length = ys.length
  · refine SeqAt.RcNeAt.lists pl.isList pl2.isList (by simp; omega) hu (eqVs_at r r2 fx fy) X.prog X.w X.xe (EP X pins σ Q) ⟨.bl _, H, I, rfl, ?_⟩
    have : eqVs xs ys = (List.range its.toArray.size).all fun i => eqV (xs.getD i .non) (ys.getD i .non) := by
      unfold eqVs
      rw [hl, beq_self_eq_true, Bool.true_and, List.size_toArray, ← l1, hl]
    rw [← this]
    exact k
  · refine SeqAt.RcNeAt.lists_lengths pl.isList pl2.isList (by simp; omega) hu X.prog X.w X.xe (EP X pins σ Q) ⟨.bl _, H, I, rfl, ?_⟩
    have : eqVs xs ys = false := by
      unfold eqVs
      rw [beq_eq_false_iff_ne.mpr hl, Bool.false_and]
    have k' := k
    rw [this] at k'
    exact k'

/-! ### isinstance -/
def valOf : V → Value
  | .ty n => .type n
  | .ref a => .ref a
  | _ => .none
theorem call_isi : CallR X (.builtin "isinstance") (fun xs H Q => ∃ x c t b, xs = [x, c] ∧ TyOf X.K H x t ∧ ((∃ n, c = .ty n) ∨ ∃ a, c = .ref a) ∧ PySem.W.kitOne X.K t (valOf c) = some b ∧ Q (.bl b) H) := by
  intro pins s σ H xs us Q I r h
  obtain ⟨x, c, t, b, rfl, ty, hc, hk, q⟩ := h
  obtain ⟨u, v, rfl, rx, rc⟩ := vals2 r
  have e : v = valOf c := by
    rcases hc with ⟨n, rfl⟩ | ⟨a, rfl⟩
    · exact rc
    · exact rc
  subst e
  exact isinst_ok I rx ty hk fun tk => ⟨.bl b, H, I.tok tk, rfl, q⟩

/-! ### the end of a def: what it made may be forgotten -/
variable {P : Program} {w : World} {K : PySem.W.Frag} {mg : Str → Option Value} {base : Heap}
theorem FnOk.gc {CX : CXT} {k : Nat} {f : Addr} {fd : FuncData} {ps : List Str} {sp sp' : Sp} (F : FnOk P w K mg base CX k f fd ps sp) (len : ∀ vs H Q E, sp' vs H Q E → vs.length = ps.length)
    (h : ∀ vs H Q E, sp' vs H Q E → sp vs H (fun v H' => ∃ H'', (Cl H → Cl H' → Gc H H' H'') ∧ Q v H'') E) : FnOk P w K mg base CX k f fd ps sp' := by
  refine ⟨len, fun A outer s H args us vs Q E hr e0 hb rv hs => ?_⟩
  refine codeAny_mono (F.run A outer s H args us vs _ E hr e0 hb rv (h vs H Q E hs)) fun r s' hq => ?_
  cases r with
  | error e => exact hq
  | ok fl =>
    cases fl with
    | next => exact hq
    | brk => exact hq
    | cont => exact hq
    | ret u =>
      obtain ⟨v, H', os, bare, un, hok, r, H'', g, q⟩ := hq
      have g' := g e0.hok.cl hok.cl
      refine ⟨v, H'', os, bare, ?_, hok.less g'.sub g'.cl, r, q⟩
      exact ⟨un.keep, un.slot, fun b o e n hx => free_of_sub g'.sub (un.free b o e n hx), un.there, fun b xs e => g'.imm b _ trivial e (un.tups b xs e), fun b o v e => g'.imm b _ trivial e (un.frzs b o v e), fun b ps e => by
        obtain ⟨more, q⟩ := un.tbls b ps e
        exact (show False from hok b _ q).elim⟩
/-- a def by its body, what it made forgotten -/
theorem Fun.okG {x qual : Str} {st : Stmt} {f : Addr} {fd : FuncData} {N ps : List Str} {k : Nat} {sp : Sp} (F : Fun K x qual st f fd) (S : FnScope N ps (defScope st)) (len : ∀ vs H Q E, sp vs H Q E → vs.length = ps.length)
    (hbody : ∀ (cdv : Value) (A : Around) (outer : List Env) (s : Shared) (H : Hp) (vs : List V) (Q : VK) (E : XK), Room k (A.deeper (envOfC qual (defScope st) s.heap.objs.size f cdv)) → sp vs H Q E →
      ∃ t, PSs (cxOf CX0 P w K mg base N qual (defScope st) f cdv A outer s H E).nox (defBody st) t ∧
        t { nx := fun _ H' => ∃ H'', (Cl H → Cl H' → Gc H H' H'') ∧ Q .non H'', rt := fun v H' => ∃ H'', (Cl H → Cl H' → Gc H H' H'') ∧ Q v H'' } (start N vs) H) : FnOk P w K mg base CX0 (k + 1) f fd ps sp := by
  have G : FnOk P w K mg base CX0 (k + 1) f fd ps (fun vs H Q' E => ∃ Q, sp vs H Q E ∧ Q' = fun v H' => ∃ H'', (Cl H → Cl H' → Gc H H' H'') ∧ Q v H'') := by
    refine F.ok S (fun vs H Q E ⟨Q0, h, _⟩ => len vs H Q0 E h) fun cdv A outer s H vs Q' E hr ⟨Q0, h, e⟩ => ?_
    subst e
    exact hbody cdv A outer s H vs Q0 E hr h
  exact G.gc len fun vs H Q E h => ⟨Q, h, rfl⟩
/-- the two usual ends -/
theorem end_same {H H' : Hp} {v : V} {Q : VK} (e : Same H H') (q : Q v H) : ∃ H'', (Cl H → Cl H' → Gc H H' H'') ∧ Q v H'' := ⟨H, fun c _ => Gc.back c e, q⟩
theorem end_lst {H H' : Hp} {l : Addr} {xs : List V} {Q : VK} (e : Same H H') (n : H l = none) (h : H' l = some (.lst xs)) (q : ∀ p, H p = none → Q (.ref p) (upd H p (.lst xs))) : ∃ H'', (Cl H → Cl H' → Gc H H' H'') ∧ Q (.ref l) H'' :=
  ⟨upd H l (.lst xs), fun c _ => Gc.one c e n h trivial, q l n⟩
theorem end_tup {H H' : Hp} {l : Addr} {xs : List V} {Q : VK} (e : Same H H') (n : H l = none) (h : H' l = some (.tup xs)) (q : ∀ p, H p = none → Q (.ref p) (upd H p (.tup xs))) : ∃ H'', (Cl H → Cl H' → Gc H H' H'') ∧ Q (.ref l) H'' :=
  ⟨upd H l (.tup xs), fun c _ => Gc.one c e n h trivial, q l n⟩
theorem Same.upd {H H' : Hp} {p : Addr} {o : HO} (e : Same H H') (n : H p = none) : Same H (upd H' p o) := fun b u h => by
  rw [upd_ne (ne_of_none h n)]
  exact e b u h
theorem Same.new {H H' : Hp} {p : Addr} {o : HO} (e : Same H H') (n : H' p = none) : Same H (L2.upd H' p o) := e.upd (e.free n)
end
end L2

set_option Elab.async false
set_option linter.all false
set_option maxRecDepth 100000
namespace L2
open PySem PySem.Spec PyProof.Rows
theorem nolen_lri : typeLookup (.type "list_reverseiterator") "__len__" = pure none := by rw [typeLookup_type, builtinLookup_eq_fast]; kernel_rfl
theorem hint_lri : typeLookup (.type "list_reverseiterator") "__length_hint__" = pure (some (.builtin "list_reverseiterator.__length_hint__")) := by rw [typeLookup_type, builtinLookup_eq_fast]; kernel_rfl
section
variable {prog : Program} {w : World} {A : Around} {s : Shared} {R : Result → Shared → Prop}
variable {I : Addr} {fp wr : List Addr} {G : Array GenState → Array GenState → Prop} {n : Nat} {P : Nat → Value → Prop} {St : Nat → Shared → Prop}
theorem extend_rev (W : WalksS prog w A.in1 I fp wr G n P St) (hT : ∀ i s, St i s → s.TypeIs (.ref I) "list_reverseiterator") (S : Addr) (res : Value) (c₀ : Nat) (hst : St 0 s) (hSf : S ∉ fp) (hI : I ∈ fp)
    (hS : s.heap.get? S = some { cls := .type "list", data := .seq #[] c₀ })
    (hR : ∀ s' acc' c', Moved (S :: wr) G s s' → s'.heap.get? S = some { cls := .type "list", dict := none, data := .seq acc' c', slots := #[] } → ItemsOf P acc' n → R (.ok (.ret res)) s') (hn : n ≤ sizeLine) :
    wpAny (model prog w) A.in1 (Builtin.List.listExtendWith (.ref S) (.ref I) res)
      (fun fin s' => match fin with | .done f => R (.ok f) s' | .again c' => c'.quiet = true ∧ codeAny (model prog w) A c' R s') (fun e s' => R (.error e) s') s := by
  have hSI : S ≠ I := fun e => hSf (e ▸ hI)
  unfold Builtin.List.listExtendWith
  refine wpAny_bind (wpAny_typeOf (hT 0 _ hst) ?_)
  have h1 : Builtin.List.listSameRef (.ref S) (.ref I) = false := by simp [Builtin.List.listSameRef, hSI]
  rw [if_neg (by rw [h1]; decide)]
  refine wpAny_bind (W.self 0 _ _ _ hst ?_)
  refine wpAny_bind (wpAny_holding ?_)
  unfold Builtin.List.listLengthHint
  refine wpAny_bind (wpAny_specialOf (hT 0 _ hst) nolen_lri ?_)
  show wpAny _ A.in1 (specialOf (Value.ref I) (Str.ofString "__length_hint__") >>= _) _ _ _
  refine wpAny_bind (wpAny_specialOf (hT 0 _ hst) hint_lri ?_)
  (generalize hid : ("list_reverseiterator.__length_hint__" : String) = id0; (fail_if_success (clear hid id0)); wp_delta; rw [show splitId id0 = some ("list_reverseiterator", "__length_hint__") from by subst hid; decide +kernel]; subst hid)
  refine wpAny_bind (wpAny_isInstance (b := true) (hT 0 _ hst) (by rw [isSubtype_type]; kernel_rfl) ?_)
  refine wpAny_pure ?_
  rw [if_neg (by decide)]
  exact wpAny_pure ⟨plainId_quiet F.plain_extend_loop _, codeAny_extend_loopS W hn _ hSf _ n 0 _ _ _ rfl (Nat.zero_le _) hst hS (ItemsOf.nil P) hR⟩
theorem list_init_rev (W : WalksS prog w A.in1 I fp wr G n P St) (hT : ∀ i s, St i s → s.TypeIs (.ref I) "list_reverseiterator") (S : Addr) (hst : St 0 s) (hSf : S ∉ fp) (hI : I ∈ fp)
    (hS : s.heap.get? S = some { cls := .type "list", data := .seq #[] })
    (hR : ∀ s' acc' c', Moved (S :: wr) G s s' → s'.heap.get? S = some { cls := .type "list", dict := none, data := .seq acc' c', slots := #[] } → ItemsOf P acc' n → R (.ok (.ret .none)) s') (hn : n ≤ sizeLine) :
    wpAny (model prog w) A.in1 (Builtin.«list.__init__» ⟨[.ref S, .ref I], []⟩)
      (fun fin s' => match fin with | .done f => R (.ok f) s' | .again c' => c'.quiet = true ∧ codeAny (model prog w) A c' R s') (fun e s' => R (.error e) s') s := by
  show wpAny _ A.in1 (do let old ← Builtin.List.listItems (.ref S); Builtin.List.listUpdate (.ref S) (fun _ => #[]); letGo old.toList.reverse; Builtin.List.listExtendWith (.ref S) (.ref I) .none) _ _ s
  refine wpAny_bind ?_
  unfold Builtin.List.listItems
  refine wpAny_bind (wpAny_seqItems hS rfl (wpAny_pure ?_))
  show wpAny _ A.in1 (updateSeq S (fun _ => #[]) >>= fun _ => letGo (#[] : Array Value).toList.reverse >>= fun _ => Builtin.List.listExtendWith (.ref S) (.ref I) .none) _ _ s
  refine wpAny_bind (wpAny_updateSeq hS rfl ?_)
  have hS₂ := Heap.get?_update_self (Obj.mapSeq (fun _ => (#[] : Array Value))) hS rfl
  have oth : ∀ b o, b ≠ S → s.heap.get? b = some o → (s.heap.update S (Obj.mapSeq (fun _ => (#[] : Array Value)))).get? b = some o :=
    fun b o hb e => (Heap.get?_update_other _ _ (Ne.symm hb)).trans e
  refine wpAny_bind (wpAny_letGo ?_)
  refine extend_rev W hT S .none _ (W.frame 0 s _ s.toks hst (Nat.le_refl _) fun b hb o e => oth b o (fun h => hSf (h ▸ hb)) e) hSf hI hS₂ (fun s' acc' c' hm hS' hacc => ?_) hn
  exact hR s' acc' c' (Moved.trans W.gtrans ((Moved.refl W.grefl).then_heap (Nat.le_refl _) fun b o hb e => oth b o (fun h => hb (h ▸ List.mem_cons_self)) e) hm) hS' hacc
end
section
variable {prog : Program} {w : World} {A : Around} {E : Value → Shared → Prop} {s : Shared}
variable {I : Addr} {fp wr : List Addr} {G : Array GenState → Array GenState → Prop} {n : Nat} {P : Nat → Value → Prop} {St : Nat → Shared → Prop}
theorem list_of_rev {Q : Value → Shared → Prop} (W : WalksS prog w A.in1.in1 I fp wr G n P St) (hT : ∀ i s, St i s → s.TypeIs (.ref I) "list_reverseiterator") (hst : St 0 s) (hfp : ∀ b ∈ fp, b < s.heap.objs.size) (hI : I ∈ fp)
    (hQ : ∀ s' acc' c', Moved (s.heap.objs.size :: wr) G { s with heap := s.heap.push { cls := .type "list", data := .seq #[] } } s' →
      s'.heap.get? s.heap.objs.size = some { cls := .type "list", dict := none, data := .seq acc' c', slots := #[] } → ItemsOf P acc' n → Q (.ref s.heap.objs.size) s') (hn : n ≤ sizeLine) :
    wpAny (model prog w) A (call (.type "list") [.ref I]) Q E s := by
  have hSf : s.heap.objs.size ∉ fp := fun hm => Nat.lt_irrefl _ (hfp _ hm)
  refine callType_codes (Q₁ := fun obj s₁ => obj = .ref s.heap.objs.size ∧ s₁ = { s with heap := s.heap.push { cls := .type "list", data := .seq #[] } }) F.called_list (F.typeCall_list_1 _) F.entry_list_init
    (code_list_new _ ⟨rfl, rfl⟩) fun obj s₁ h₁ => ?_
  obtain ⟨rfl, rfl⟩ := h₁
  have hS : (s.heap.push { cls := .type "list", data := .seq #[] }).get? s.heap.objs.size = some { cls := .type "list", data := .seq #[] } := Heap.get?_push_size _ rfl
  refine ⟨⟨_, hS, rfl⟩, F.args_list_init_2 _ _, list_init_rev W hT _ (W.frame 0 s _ s.toks hst (Nat.le_refl _) fun b _ o e => Heap.get?_push_of_some _ e) hSf hI hS (fun s' acc' c' hm hS' hacc => ?_) hn⟩
  exact ⟨rfl, hQ s' acc' c' hm hS' hacc⟩
end

section
variable {X : Cx}
/-! ### list(reversed(xs)) -/
def tLRev (K : PySem.W.Frag) (ta : TA) : TE := fun σ H Q => ta σ H fun vs H1 => ∃ a ys, vs = [.ref a] ∧ SqL K H1 a ys ∧ ∀ l, H1 l = none → Q (.ref l) (upd H1 l (.lst ys.reverse))
theorem pe_lrev {a : Expr} {ta : TA} {p pos p' pos' : Pos} (hc : X.calm = true) (hg : Gl X "list") (hm : X.mg "list" = none) (hg' : Gl X "reversed") (hm' : X.mg "reversed" = none) (ha : PA X [a] ta) (hs : starEach [a] X.env = [(false, eval a X.env)] := by rfl)
    (hs' : starEach [.Call (.Name "reversed" p') [a] [] pos'] X.env = [(false, eval (.Call (.Name "reversed" p') [a] [] pos') X.env)] := by rfl) : PE X (.Call (.Name "list" p) [.Call (.Name "reversed" p') [a] [] pos'] [] pos) (tLRev X.K ta) := by
  intro pins s σ H Q I h
  refine Call_ (ld_blt I hg hm (show bootBuiltins "list" = some (.type "list") by decide +kernel) (PyProof.Rows.callWith_type1 ?_ hs' rfl))
  rw [hs']
  show wpAny _ _ (spliced ((false, eval (.Call (.Name "reversed" p') [a] [] pos') X.env) :: backTo pos [])) _ _ s
  refine Calls.spliced_cons (Call_ (ld_blt I hg' hm' (show bootBuiltins "reversed" = some (.type "reversed") by decide +kernel) (PyProof.Rows.callWith_type1 (thn (ha pos' pins s σ H _ I h) fun us s1 ⟨vs, H1, I1, r1, q1⟩ => ?_) hs rfl)))
  obtain ⟨b, ys, rfl, hq, q⟩ := q1
  obtain ⟨u, rfl, rx⟩ := vals1 r1
  cases rx
  obtain ⟨its, rv, pl, hz⟩ := I1.list hq
  have hl := rv.length
  refine call_reversed_list pl.isList ?_
  refine Calls.spliced_nil ?_
  generalize hpp : s1.heap.objs.size = pp
  have I2 : Inv X pins σ H1 { s1 with heap := s1.heap.push (revObj b ((its.toArray.size : Int) - 1)) } := I1.kept (t' := s1.toks) fun c o e => Heap.get?_push_of_some _ e
  have hrev : (s1.heap.push (revObj b ((its.toArray.size : Int) - 1))).IsRevIter pp b ((its.toArray.size : Int) - 1) := by rw [← hpp]; exact ⟨_, Heap.get?_push_size _ rfl, rfl, rfl⟩
  have hd : X.A.in1.in1.handled = none := I.ok.hd hc
  have hblt : b < s1.heap.objs.size := let ⟨o, n, e, _⟩ := pl; Heap.lt_size e
  have hbp : b ≠ pp := by rw [← hpp]; exact Nat.ne_of_lt hblt
  have pl2 : (s1.heap.push (revObj b ((its.toArray.size : Int) - 1))).IsList b its.toArray := pl.isList.at fun o e => Heap.get?_push_of_some _ e
  have W := (Walks.listRev (prog := X.prog) (w := X.w) hd pp b hbp its.toArray).toS
  have hsz : (s1.heap.push (revObj b ((its.toArray.size : Int) - 1))).objs.size = pp + 1 := by rw [Heap.size_push, hpp]
  refine list_of_rev W (fun i s st => st.2.1.typeIs) ⟨Nat.zero_le _, ?_, pl2⟩ (fun c hb => ?_) (by simp) (fun s' acc' c' hmv hS' hacc => ?_) (by rw [List.size_toArray, ← hl]; exact hz)
  · have e : ((its.toArray.size : Nat) : Int) - 1 - ((0 : Nat) : Int) = (its.toArray.size : Int) - 1 := by omega
    rw [e]
    exact hrev
  · show c < (s1.heap.push (revObj b ((its.toArray.size : Int) - 1))).objs.size
    rw [hsz]
    rcases List.mem_cons.mp hb with z | z
    · rw [z]; exact Nat.lt_succ_self _
    · have z' : c = b := by simpa using z
      rw [z', ← hpp]; exact Nat.lt_succ_of_lt hblt
  · have hk : ∀ c o, c ≠ pp → (s1.heap.push (revObj b ((its.toArray.size : Int) - 1))).get? c = some o → s'.heap.get? c = some o := fun c o hb e => by
      refine hmv.heap c o (fun z => ?_) (Heap.get?_push_of_some _ e)
      rcases List.mem_cons.mp z with z | z
      · exact absurd (Heap.lt_size e) (by rw [z]; exact Nat.lt_irrefl _)
      · exact hb (by simpa using z)
    have fr : H1 pp = none := by rw [← hpp]; exact I1.fresh
    have ppl : ∀ c o, s1.heap.get? c = some o → c ≠ pp := fun c o e => by rw [← hpp]; exact Nat.ne_of_lt (Heap.lt_size e)
    have I3 : Inv X pins σ H1 { s1 with heap := s'.heap, toks := s'.toks } := Inv.turned (s := { s1 with heap := s1.heap.push (revObj b ((its.toArray.size : Int) - 1)) }) (h' := s'.heap) (t' := s'.toks) (it := pp) I2 hk fr (by rw [← hpp]; exact Nat.ne_of_gt I1.lt) (.inr (by rw [← hpp]; exact I1.sz)) (fun x c e => by
      obtain ⟨v, o, ho, _⟩ := I1.cell x c e
      exact ppl c o ho) (fun pn hp => ppl _ _ (I1.pin pn hp).1)
    have es : s' = { s1 with heap := s'.heap, toks := s'.toks } := by
      obtain ⟨h', g', d', tk', os'⟩ := s'
      have e1 : g' = s1.gens := hmv.gens
      have e2 : d' = s1.drawn := hmv.drawn
      have e3 : os' = s1.os := hmv.os
      subst e1 e2 e3
      rfl
    rw [es]
    have fD : H1 (s1.heap.push (revObj b ((its.toArray.size : Int) - 1))).objs.size = none := I2.fresh
    have ha' : Vals ys.reverse acc'.toList := by
      have rr := rv.reverse
      have e : acc'.toList = its.reverse := by
        apply List.ext_getElem?
        intro i
        by_cases hi : i < its.length
        · have hi' : i < acc'.size := by rw [hacc.1, List.size_toArray]; exact hi
          have e1 : acc'[i]? = some acc'[i] := Array.getElem?_eq_getElem hi'
          have e2 := hacc.2 i _ e1
          rw [Array.getElem?_toList, e1, List.getElem?_reverse hi, ← e2]
          simp
        · have hi' : acc'.size ≤ i := by rw [hacc.1, List.size_toArray]; omega
          rw [List.getElem?_eq_none (by simpa using hi'), List.getElem?_eq_none (by simpa using hi)]
      rw [e]
      exact rr
    have okD : HOk X.prog X.w (upd H1 (s1.heap.push (revObj b ((its.toArray.size : Int) - 1))).objs.size (.lst ys.reverse)) s'.heap := by
      intro c o e
      by_cases hcD : c = (s1.heap.push (revObj b ((its.toArray.size : Int) - 1))).objs.size
      · subst hcD
        rw [upd_same] at e
        cases e
        exact ⟨by rw [List.length_reverse]; exact hz, acc'.toList, c', ha', by simpa using hS'⟩
      · rw [upd_ne hcD] at e
        exact (I3.hok c o e).stay (fun d v _ z => z) (fun d z => by rw [upd_ne (ne_of_none z fD)]; exact z) fun d zs z => by rw [upd_ne (ne_of_none z fD)]; exact z
    have ltD : ∀ c o, s1.heap.get? c = some o → c ≠ (s1.heap.push (revObj b ((its.toArray.size : Int) - 1))).objs.size := fun c o e => Nat.ne_of_lt (Heap.lt_size (Heap.get?_push_of_some _ e))
    refine ⟨.ref _, _, I1.call' (s' := { s1 with heap := s'.heap, toks := s'.toks }) (ch := []) rfl ⟨fun c o e n hb hx => hk c o (ppl c o e) (Heap.get?_push_of_some _ e), fun c o e n hb hx => ⟨o.slots, hk c o (ppl c o e) (Heap.get?_push_of_some _ e)⟩, fun c o e n hx => by rw [upd_ne (ltD c o e)]; exact n,
      fun c o e hx => ⟨o, hk c o (ppl c o e) (Heap.get?_push_of_some _ e)⟩, fun c xs e => by rw [upd_ne (ne_of_none e fD)]; exact e, fun c o u e => by rw [upd_ne (ne_of_none e fD)]; exact e, fun c ps e => ⟨#[], by rw [upd_ne (ne_of_none e fD), e]; simp⟩⟩ okD I1.bare (fun c z => absurd z (by simp)), rfl, q _ fD⟩

/-! ### xs[::-1] -/
theorem slicePick_rev (its : List Value) : slicePick its.toArray none none (some (-1)) = its.reverse.toArray := by
  unfold slicePick sliceBounds sliceRange
  simp only [Option.getD_some, show ¬ ((-1 : Int) > 0) by omega, if_false, List.size_toArray]
  have e : ((if (its.length : Int) - 1 > -1 then ((its.length : Int) - 1 - -1 - -1 - 1) / (- -1) else 0)).toNat = its.length := by
    split <;> (try simp) <;> omega
  rw [e]
  congr 1
  apply List.ext_getElem?
  intro i
  have key : ∀ (n : Nat), n ≤ its.length → (List.filterMap (fun x => its.toArray[x]?) (List.map (fun k : Nat => ((its.length : Int) - 1 + -1 * (k : Int)).toNat) (List.range n))) = (its.reverse).take n := by
    intro n
    induction n with
    | zero => intro _; simp
    | succ n ih =>
      intro hn
      rw [List.range_succ, List.map_append, List.filterMap_append, ih (by omega), List.take_add_one]
      congr 1
      have e1 : ((its.length : Int) - 1 + -1 * (n : Int)).toNat = its.length - 1 - n := by omega
      have hlt : its.length - 1 - n < its.length := by omega
      simp only [List.map_cons, List.map_nil, e1, List.filterMap_cons, List.filterMap_nil]
      rw [List.getElem?_reverse (by omega)]
      simp [hlt]
  rw [key its.length (Nat.le_refl _), List.take_of_length_le (by simp)]
def tRev (K : PySem.W.Frag) (te : TE) : TE := fun σ H Q => te σ H fun x H1 => ∃ a xs, x = .ref a ∧ SqL K H1 a xs ∧ ∀ p, H1 p = none → Q (.ref p) (upd H1 p (.lst xs.reverse))
theorem pe_rev {e st : Expr} {te : TE} {p2 pos : Pos} (he : PE X e te) (hst : PE X st (tC (.int (-1)))) : PE X (.Subscript e (.Slice none none (some st) p2) pos) (tRev X.K te) := by
  intro pins s σ H Q I h
  refine Subscript_ (thn (he pins s σ H _ I h) fun v s1 ⟨x, H1, I1, r1, q1⟩ => ?_)
  obtain ⟨a, xs, rfl, hq, q⟩ := q1
  cases r1
  refine wpAny_Slice ?_
  rw [evalPart_none]
  refine wpAny_pure (wpAny_pure ?_)
  show wpAny _ _ (evalPart (some st) X.env) _ _ s1
  refine thn (hst pins s1 σ H1 (fun v H2 => v = .int (-1) ∧ H2 = H1) I1 ⟨rfl, rfl⟩) fun vs s2 ⟨y, H2, I2, r2, e2, e3⟩ => ?_
  subst e2 e3
  obtain ⟨t, rfl⟩ := r2
  obtain ⟨its, rv, pl, hz⟩ := I2.list hq
  have hl := rv.length
  have I3 : Inv X pins σ H2 { s2 with heap := s2.heap.push { cls := .type "slice", data := .fields #[.none, .none, .int (-1) t] } } := I2.kept (t' := s2.toks) fun b ob q => Heap.get?_push_of_some _ q
  obtain ⟨its', rv', pl', _⟩ := I3.list hq
  have hl' := rv'.length
  show wpAny (model X.prog X.w) X.A (subscriptTail e (.Slice none none (some st) p2) (.ref a) (.ref s2.heap.objs.size)) (EP X pins σ Q) X.xe { s2 with heap := s2.heap.push { cls := .type "slice", data := .fields #[.none, .none, .int (-1) t] } }
  refine tail_any (ops := [.ref a, .ref s2.heap.objs.size]) pl'.isList.typeIs slot_list_getitem.lookup ?_ (by with_unfolding_all rfl)
  refine wpAny_getItem_list_slice pl'.isList (Heap.IsSliceOf.new ..) .none .none (.int (-1) t) (by simp) ?_ (by rw [List.size_toArray]; omega)
  rw [slicePick_rev]
  refine ⟨.ref _, _, I3.laid (t' := s2.toks) (o := .lst xs.reverse) (fun b ob q => Heap.get?_push_of_some _ q) (Nat.le_refl _) ⟨by rw [List.length_reverse]; exact hz, _, 0, rv'.reverse, Heap.get?_push_size _ rfl⟩, rfl, q _ I3.fresh⟩
end
end L2

set_option Elab.async false
set_option linter.all false
set_option maxRecDepth 100000
namespace L2
open PySem PySem.Spec PyProof.Rows
/-! ### a sign counted in a text; a text repeated -/
def occStep (z : Str) (c : Nat) (i : Nat) (r : Array Nat × Nat) : Id (ForInStep (Array Nat × Nat)) :=
  if ((r.fst.size < z.length + 1 ∧ r.snd ≤ i) ∧ i + (Str.mk #[c]).length ≤ z.length) ∧ Builtin.Str.subAt z ⟨#[c]⟩ i = true then pure (ForInStep.yield (r.fst.push i, i + (Str.mk #[c]).length)) else pure (ForInStep.yield (r.fst, r.snd))
theorem subAt_one (z : Str) (c i d : Nat) (hi : z.cps.toList[i]? = some d) : Builtin.Str.subAt z ⟨#[c]⟩ i = (d == c) := by
  unfold Builtin.Str.subAt
  have hlt : i < z.cps.size := by simpa using (List.getElem?_eq_some_iff.mp hi).1
  have e : z.cps.extract i (i + (Str.mk #[c]).length) = #[d] := by
    apply Array.ext
    · simp [Str.length]; omega
    · intro j h1 h2
      have : j = 0 := by simp at h2; omega
      subst this
      have := (List.getElem?_eq_some_iff.mp hi).2
      simpa using this
  rw [e, Bool.eq_iff_iff]
  simp
theorem occ_go (z : Str) (c : Nat) : ∀ (k i : Nat) (found : Array Nat) (free : Nat), i + k = z.length + 1 → free ≤ i → found.size ≤ i →
    (forIn (List.range' i k) (found, free) (occStep z c) : Id _).run.fst.size = found.size + (z.cps.toList.drop i).count c
  | 0, i, found, free, h, _, _ => by
    have : z.cps.toList.drop i = [] := List.drop_of_length_le (by simp [Str.length] at h ⊢; omega)
    rw [this]
    rfl
  | k + 1, i, found, free, h, hf, hs => by
    rw [List.range'_succ, List.forIn_cons]
    cases hi : z.cps.toList[i]? with
    | some d =>
      have hlt : i < z.cps.size := by simpa using (List.getElem?_eq_some_iff.mp hi).1
      have hd : z.cps.toList.drop i = d :: z.cps.toList.drop (i + 1) := by
        rw [List.drop_eq_getElem_cons (by simpa using hlt)]
        congr 1
        exact (List.getElem?_eq_some_iff.mp hi).2
      have h1 : found.size < z.length + 1 := by show found.size < z.cps.size + 1; omega
      have h2 : i + (Str.mk #[c]).length ≤ z.length := by show i + 1 ≤ z.cps.size; omega
      unfold occStep
      by_cases hc : d = c
      · rw [if_pos ⟨⟨⟨h1, hf⟩, h2⟩, by rw [subAt_one z c i d hi]; simpa using hc⟩]
        have ih := occ_go z c k (i + 1) (found.push i) (i + (Str.mk #[c]).length) (by omega) (by show i + 1 ≤ i + 1; omega) (by rw [Array.size_push]; omega)
        simp only [pure_bind]
        refine ih.trans ?_
        rw [hd, hc, List.count_cons_self, Array.size_push]
        omega
      · rw [if_neg (by rintro ⟨_, h⟩; rw [subAt_one z c i d hi] at h; exact hc (by simpa using h))]
        have ih := occ_go z c k (i + 1) found free (by omega) (by omega) (by omega)
        simp only [pure_bind]
        refine ih.trans ?_
        rw [hd, List.count_cons_of_ne hc]
    | none =>
      have hge : z.cps.size ≤ i := by simpa using hi
      have e1 : z.cps.toList.drop i = [] := List.drop_of_length_le (by simp; omega)
      have e2 : z.cps.toList.drop (i + 1) = [] := List.drop_of_length_le (by simp; omega)
      unfold occStep
      rw [if_neg (by rintro ⟨⟨_, h⟩, _⟩; have h' : i + 1 ≤ z.cps.size := h; omega)]
      have ih := occ_go z c k (i + 1) found free (by omega) (by omega) (by omega)
      simp only [pure_bind]
      refine ih.trans ?_
      rw [e1, e2]
theorem occ_one (z : Str) (c : Nat) : (Builtin.Str.occurrences z ⟨#[c]⟩ 0 z.length (z.length + 1)).length = z.cps.toList.count c := by
  have h := occ_go z c (z.length + 1) 0 #[] 0 (by omega) (by omega) (by simp)
  rw [List.drop_zero] at h
  simp only [Array.size_empty, Nat.zero_add] at h
  rw [← h]
  unfold Builtin.Str.occurrences
  simp
  rfl
/-- a text k times -/
def repS (z : Str) (k : Nat) : Str := ⟨(List.replicate k z.cps.toList).flatten.toArray⟩
theorem rep_fold (z : Str) : ∀ (k : Nat) (acc : List Nat), (List.replicate k z.cps).foldl (· ++ ·) acc.toArray = (acc ++ (List.replicate k z.cps.toList).flatten).toArray
  | 0, acc => by simp
  | k + 1, acc => by
    have e : acc.toArray ++ z.cps = (acc ++ z.cps.toList).toArray := by simp
    rw [List.replicate_succ, List.foldl_cons, e, rep_fold z k, List.replicate_succ, List.flatten_cons, List.append_assoc]
theorem mul_repS (z : Str) (k : Nat) : Txt.mul z (k : Int) = repS z k := by
  unfold Txt.mul repS
  split
  · have : k = 0 := by omega
    subst this
    rfl
  · split
    · rename_i h1 h2
      simp only [Bool.or_eq_true, beq_iff_eq] at h2
      rcases h2 with h2 | h2
      · have : k = 1 := by omega
        subst this
        simp
      · have hz : z.cps = #[] := Array.eq_empty_of_size_eq_zero h2
        have : z = ⟨#[]⟩ := by cases z; simp at hz; rw [hz]
        subst this
        simp
    · have := rep_fold z k []
      simp only [List.nil_append, Int.toNat_natCast] at this ⊢
      rw [← this]
section
variable {X : Cx}
theorem mt_count : MtM X "str.count" (fun x xs H Q => ∃ z c, x = .str z ∧ xs = [.str ⟨#[c]⟩] ∧ Q (.int (z.cps.toList.count c : Nat)) H) := by
  intro pins s σ H x xs v us Q I rx rv h
  obtain ⟨z, c, rfl, rfl, q⟩ := h
  obtain ⟨t, rfl⟩ := rx
  obtain ⟨u, rfl, t', rfl⟩ := rv.one
  refine call_gives F.slot_str_count (typeIs_str _ _ _) F.entry_str_count (F.args_str_count_2 _ _) (gives_str_count z ⟨#[c]⟩ t t') ?_
  exact ⟨.int _, H, I.tok _, ⟨_, by rw [occ_one]⟩, q⟩
theorem op_mulS : OpR X (binaryOp .Mult) (fun x y H Q => ∃ (z : Str) (k : Nat), x = .str z ∧ y = .int k ∧ z.length ≤ 1000 ∧ k ≤ 1000 ∧ Q (.str (repS z k)) H) := by
  intro pins s σ H x y v u Q I rx ry h
  obtain ⟨z, k, rfl, rfl, hz, hk, q⟩ := h
  obtain ⟨t, rfl⟩ := rx
  obtain ⟨t', rfl⟩ := ry
  refine SB.mul ⟨?_, ?_, ?_⟩ fun t'' k' => ⟨.str _, H, I.tok _, ⟨t'', by rw [mul_repS]⟩, q⟩
  · simp only [Bool.or_eq_false_iff, decide_eq_false_iff_not]; omega
  · intro h1 _ h2
    have : (2 ^ 63 - 1 : Int) / (k : Int) ≥ 1000000 := by
      have hk' : (0 : Int) < k := by omega
      exact Int.le_ediv_of_mul_le hk' (by omega)
    omega
  · intro h1 _
    have : z.length * (k : Int).toNat ≤ 1000 * 1000 := Nat.mul_le_mul hz (by omega)
    unfold Builtin.Str.tooLong
    simp only [decide_eq_false_iff_not]
    have h3 : sizeLine ≥ 1000000 := by decide
    omega
end
end L2

set_option Elab.async false
set_option linter.all false
set_option maxRecDepth 100000
namespace L2
open PySem PySem.Spec PyProof.Rows
section
variable (P : Program) (w : World) (K : PySem.W.Frag) (mg : Str → Option Value) (base : Heap)
/-- a def of the text under its name, with its promise -/
structure Fn1 (k : Nat) (x : Str) (sp : Sp) : Prop where
  ex : ∃ (f : Addr) (fd : FuncData) (ps : List Str), FnOk P w K mg base CX0 k f fd ps sp ∧ mg x = some (.ref f) ∧ PySem.W.keepIn K (.ref f) = true ∧ Binds K fd ps []
/-- a method of a class, with its promise -/
structure Mth (k : Nat) (C : Addr) (m : Str) (sp : Sp) : Prop where
  cls : Cls K C
  ex : ∃ (f : Addr) (fd : FuncData) (ps : List Str), Meth K C m f ∧ FnOk P w K mg base CX0 k f fd ps sp ∧ Binds K fd ps []
/-- a class that is made under its name, with the promise of its __init__ -/
structure Mk1 (k : Nat) (x : Str) (C : Addr) (sp : Sp) : Prop where
  ex : ∃ (f : Addr) (fd : FuncData) (ps : List Str), Mk K C f ∧ FnOk P w K mg base CX0 k f fd ps sp ∧ Binds K fd ps [] ∧ mg x = some (.ref C)
end
section
variable {X : Cx} {k j : Nat} {x m : Str} {sp : Sp} {C : Addr} {p pos apos : Pos} {e o : Expr} {es : List Expr} {ta : TE} {t : TA}
theorem pe_fn (F : Fn1 X.prog X.w X.K X.mg X.base k x sp) (hr : Room j X.A) (hg : Gl X x) (ha : PA X (e :: es) t) (hk : k ≤ j := by decide) (hdb : (x == ("__debug__" : Str)) = false := by decide) (he : starEach (e :: es) X.env = (false, eval e X.env) :: starEach es X.env := by rfl)
    (hpl : (backTo pos (starEach es X.env)).any (·.1) = false := by rfl) : PE X (.Call (.Name x p) (e :: es) [] pos) (tCall sp [] E0 t) := by
  obtain ⟨f, fd, ps, G, hm, kp, b⟩ := F.ex
  exact pe_call G (hr.mono hk) hg hm kp b .nil pass0 ha hdb he hpl
theorem pe_mk (F : Mk1 X.prog X.w X.K X.mg X.base k x C sp) (hr : Room j X.A) (hg : Gl X x) (ha : PA X (e :: es) t) (hk : k + 1 ≤ j := by decide) (hdb : (x == ("__debug__" : Str)) = false := by decide) (he : starEach (e :: es) X.env = (false, eval e X.env) :: starEach es X.env := by rfl)
    (hpl : (backTo pos (starEach es X.env)).any (·.1) = false := by rfl) : PE X (.Call (.Name x p) (e :: es) [] pos) (tMake C sp [] E0 t) := by
  obtain ⟨f, fd, ps, M, G, b, hm⟩ := F.ex
  exact pe_make M G (hr.mono hk) hg hm b .nil pass0 ha hdb he hpl
theorem pe_mk0 (F : Mk1 X.prog X.w X.K X.mg X.base k x C sp) (hr : Room j X.A) (hg : Gl X x) (hk : k + 1 ≤ j := by decide) (hdb : (x == ("__debug__" : Str)) = false := by decide) : PE X (.Call (.Name x p) [] [] pos) (tMake C sp [] E0 tNil) := by
  obtain ⟨f, fd, ps, M, G, b, hm⟩ := F.ex
  exact pe_make0 M G (hr.mono hk) hg hm b .nil pass0 hdb
/-- o.m(e, ..): the class is told in the reading -/
def tMethD (P : Program) (w : World) (K : PySem.W.Frag) (mg : Str → Option Value) (base : Heap) (k : Nat) (m : Str) (ta : TE) (t : TA) : TE := fun σ H Q => ta σ H fun x H1 => ∃ a C dx fs sp, x = .ref a ∧ H1 a = some (.ins C dx fs) ∧ fs.lookup m = none ∧ Mth P w K mg base k C m sp ∧
  t σ H1 fun vs H2 => sp (x :: vs) H2 Q E0
theorem pe_mtD {pl : Sem Bool} (k : Nat) (hr : Room j X.A) (he : PE X o ta) (ha : PA X (e :: es) t) (hk : k ≤ j := by decide)
    (hst : starEach (e :: es) X.env = (false, eval e X.env) :: starEach es X.env := by rfl) (hpl : (backTo pos (starEach es X.env)).any (·.1) = false := by rfl)
    (ht : eval (.Call (.Attribute o m apos) (e :: es) [] pos) X.env = (do
      let ov ← eval o X.env
      standAt apos.atName
      let (f, first) ← holding [ov] (getMethod ov m pl)
      callWith pos f first (backTo pos (starEach (e :: es) X.env)) (backToKw pos (keywordEach [] X.env))) := by rfl) :
    PE X (.Call (.Attribute o m apos) (e :: es) [] pos) (tMethD X.prog X.w X.K X.mg X.base k m ta t) := by
  intro pins s σ H Q I h
  refine PySem.W.methodCall_KW (pl := pl) (thn (he pins s σ H _ I h) fun u s1 ⟨x, H1, I1, rx, a, C, dx, fs, sp, ex, ea, l, M, q⟩ => ?_) ht
  subst ex
  obtain rfl : u = Value.ref a := rx
  obtain ⟨f, fd, ps, hm, F, hb⟩ := M.ex
  refine getmeth_ok I1 ea M.cls hm l ?_
  refine PySem.W.callWith_K (first := [.ref a]) (h₀ := X.base) I.ok.mod.kin hm.kp (thn (ha pos pins s1 σ H1 _ I1 q) fun us s2 ⟨vs, H2, I2, r, q2⟩ => ⟨I2.kIn, ?_⟩) hst hpl
  exact run_fn (us := .ref a :: us) (vs := .ref a :: vs) (dvs := []) F (hr.mono hk) hb .nil pass0 I2 (.cons rfl r) (by rw [List.append_nil]; exact q2)
theorem pe_globI {i : Int} (hg : Gl X x) (hm : ∃ t, X.mg x = some (.int i t)) (hd : (x == ("__debug__" : Str)) = false := by decide) : PE X (.Name x pos) (tC (.int i)) := by
  obtain ⟨t, hm⟩ := hm
  exact pe_glob hg hm ⟨t, rfl⟩ hd
theorem pe_neg {i : Int} {c p1 p2} : PE X (.UnaryOp .USub (.Constant (.int i) c p1) p2) (tC (.int (-i))) := by
  intro pins s σ H Q I h
  exact pe_un un_neg pe_int pins s σ H Q I ⟨i, rfl, h⟩
theorem pe_bm0M {T id : String} {name : Str} {cpos : Pos} {r : V → List V → Hp → VK → Prop} {to : TE} (pa : PlainAttrs T) (slot : Slot T name id) (hty : typeOf (.builtin id) = pure (.type "method_descriptor")) (hm : MtM X id r) (ho : PE X o to)
    (hbase : attributeBase o name X.env (eval o X.env) = eval o X.env := by rfl) (hline : (apos.endLine == cpos.line) = true := by rfl) : PE X (.Call (.Attribute o name apos) [] [] cpos) (tBM0 X.K T r to) := by
  refine pe_bm0 pa slot hty ?_ ho hbase hline
  first
    | exact hm
    | exact fun pins s σ H x xs v us Q I r1 r2 h => hm pins s σ H x xs v us Q I r1 r2 h
end
end L2
namespace L2
open PySem PySem.Spec PyProof.Rows
section
variable {X : Cx} {K : PySem.W.Frag}
/-! ### inside a comprehension: the written part is told -/
theorem call_len_seqK (h : X.K = K) : CallR X (.builtin "len") (fun xs H Q => ∃ p ys, xs = [.ref p] ∧ (SqL K H p ys ∨ SqT K H p ys) ∧ Q (.int ys.length) H) := by subst h; exact call_len_seq
theorem ix_listK (h : X.K = K) : IxR X (rIxL K) := by subst h; exact ix_list
theorem ix_tupK (h : X.K = K) : IxR X (rIxT K) := by subst h; exact ix_tup
theorem call_isiK (h : X.K = K) : CallR X (.builtin "isinstance") (fun xs H Q => ∃ x c t b, xs = [x, c] ∧ TyOf K H x t ∧ ((∃ n, c = .ty n) ∨ ∃ a, c = .ref a) ∧ PySem.W.kitOne K t (valOf c) = some b ∧ Q (.bl b) H) := by subst h; exact call_isi
end
end L2
namespace L2
open PySem PySem.Spec PyProof.Rows
/-! ### a tuple of written ints -/
def isInts : List Expr → Option (List Int)
  | [] => some []
  | .Constant (.int i) _ _ :: r => match isInts r with
    | some is => some (i :: is)
    | none => none
  | _ :: _ => none
def tK (vs : List V) : TA := fun _ H Q => Q vs H
theorem pa_ints {X : Cx} : ∀ {es : List Expr} {is : List Int}, isInts es = some is → PA X es (tK (is.map V.int))
  | [], is, h => by
    have e : is = [] := by simpa [isInts] using h.symm
    subst e
    exact pa_nil
  | .Constant (.int i) c p :: r, is, h => by
    cases hr : isInts r with
    | none => simp [isInts, hr] at h
    | some js =>
      have e : is = i :: js := by simpa [isInts, hr] using h.symm
      subst e
      intro pos pins s σ H Q I q
      exact pa_cons (X := X) pe_int (pa_ints hr) rfl pos pins s σ H Q I q
theorem pe_tupI {X : Cx} {es : List Expr} {is : List Int} {x1} {pos : Pos} (h : isInts es = some is) : PE X (.Tuple es x1 pos) (tTup (tK (is.map V.int))) := pe_tup (pa_ints h)
end L2

set_option Elab.async false
set_option linter.all false
set_option maxRecDepth 100000
namespace L2
open PySem PySem.Spec PyProof.Rows
/-! ### lists of pairs as tables -/
section
variable {κ : Type} [DecidableEq κ]
def valV (kvs : List (κ × V)) (k : κ) : Option V := (kvs.find? fun kv => decide (kv.1 = k)).map (·.2)
/-- in its place, or at the end -/
def putK (kvs : List (κ × V)) (k : κ) (v : V) : List (κ × V) :=
  if (kvs.any fun kv => decide (kv.1 = k)) = true then kvs.map (fun kv => if kv.1 = k then (kv.1, v) else kv) else kvs ++ [(k, v)]

theorem valV_nil {k : κ} : valV ([] : List (κ × V)) k = none := rfl
theorem valV_pos {p : κ × V} {r : List (κ × V)} {k : κ} (e : p.1 = k) : valV (p :: r) k = some p.2 := by simp [valV, List.find?_cons, e]
theorem valV_neg {p : κ × V} {r : List (κ × V)} {k : κ} (e : ¬ p.1 = k) : valV (p :: r) k = valV r k := by simp [valV, List.find?_cons, e]
theorem valV_any (k : κ) : ∀ kvs : List (κ × V), (kvs.any fun kv => decide (kv.1 = k)) = (valV kvs k).isSome
  | [] => rfl
  | p :: r => by
    rw [List.any_cons]
    by_cases e : p.1 = k
    · simp only [valV_pos e, decide_eq_true e, Bool.true_or, Option.isSome_some]
    · rw [valV_neg e, decide_eq_false e, Bool.false_or]; exact valV_any k r
theorem valV_map (k j : κ) (y : V) : ∀ kvs : List (κ × V), valV (kvs.map fun kv => if kv.1 = k then (kv.1, y) else kv) j = (valV kvs j).map fun x => if j = k then y else x
  | [] => rfl
  | p :: r => by
    have ih := valV_map k j y r
    rw [List.map_cons]
    by_cases h : p.1 = k
    · rw [if_pos h]
      by_cases e : p.1 = j
      · rw [valV_pos (p := (p.1, y)) e, valV_pos e, Option.map_some, if_pos (e.symm.trans h)]
      · rw [valV_neg (p := (p.1, y)) e, valV_neg e, ih]
    · rw [if_neg h]
      by_cases e : p.1 = j
      · rw [valV_pos (p := p) e, valV_pos e, Option.map_some, if_neg (fun z => h (e.trans z))]
      · rw [valV_neg (p := p) e, valV_neg e, ih]
theorem valV_snoc (k j : κ) (y : V) : ∀ kvs : List (κ × V), valV kvs k = none → valV (kvs ++ [(k, y)]) j = if j = k then some y else valV kvs j
  | [], _ => by
    by_cases e : k = j
    · rw [if_pos e.symm]; exact valV_pos (p := (k, y)) e
    · rw [if_neg (fun z => e z.symm)]; exact valV_neg (p := (k, y)) e
  | p :: r, hn => by
    rw [List.cons_append]
    have hk : ¬ p.1 = k := fun z => by rw [valV_pos z] at hn; cases hn
    rw [valV_neg hk] at hn
    have ih := valV_snoc k j y r hn
    by_cases e : p.1 = j
    · rw [valV_pos e, valV_pos e, if_neg (fun z => hk (e.trans z))]
    · rw [valV_neg e, valV_neg e, ih]
theorem valV_put (kvs : List (κ × V)) (k j : κ) (y : V) : valV (putK kvs k y) j = if j = k then some y else valV kvs j := by
  unfold putK
  by_cases a : (kvs.any fun kv => decide (kv.1 = k)) = true
  · rw [if_pos a, valV_map]
    rw [valV_any] at a
    by_cases e : j = k
    · obtain ⟨x, hx⟩ := Option.isSome_iff_exists.mp a
      rw [if_pos e, e, hx, Option.map_some, if_pos rfl]
    · rw [if_neg e]
      cases valV kvs j with
      | none => rfl
      | some x => rw [Option.map_some, if_neg e]
  · rw [if_neg a]
    refine valV_snoc k j y kvs ?_
    rw [valV_any] at a
    cases q : valV kvs k with
    | none => rfl
    | some x => rw [q] at a; exact (a rfl).elim
theorem length_putK (kvs : List (κ × V)) (k : κ) (v : V) : (putK kvs k v).length ≤ kvs.length + 1 := by
  unfold putK
  split
  · rw [List.length_map]; omega
  · rw [List.length_append, List.length_cons, List.length_nil]; omega
theorem putK_new {kvs : List (κ × V)} {k : κ} (v : V) (h : valV kvs k = none) : putK kvs k v = kvs ++ [(k, v)] := by
  unfold putK
  rw [valV_any, h]
  exact if_neg (by decide)

theorem RelO.isSome_eq {o : Option V} {u : Option Value} (r : RelO o u) : o.isSome = u.isSome := by
  cases o with
  | none => cases u with
    | none => rfl
    | some _ => exact (show False from r).elim
  | some _ => cases u with
    | none => exact (show False from r).elim
    | some _ => rfl
/-- raw tables of the same keys -/
theorem KV.val {kvs : List (κ × V)} {vs : List (κ × Value)} (r : KV kvs vs) (k : κ) : RelO (valV kvs k) (valueAt vs k) := by
  unfold KV at r
  induction r with
  | nil => exact True.intro
  | @cons p q ps qs h t ih =>
    obtain ⟨h1, h2⟩ := h
    by_cases e : p.1 = k
    · have e' : q.1 = k := h1.symm.trans e
      have b : valueAt (q :: qs) k = some q.2 := by simp [valueAt, List.find?_cons, e']
      rw [valV_pos e, b]; exact h2
    · have e' : ¬ q.1 = k := fun z => e (h1.trans z)
      have b : valueAt (q :: qs) k = valueAt qs k := by simp [valueAt, List.find?_cons, e']
      rw [valV_neg e, b]; exact ih
theorem KV.any {kvs : List (κ × V)} {vs : List (κ × Value)} (r : KV kvs vs) (k : κ) : (kvs.any fun kv => decide (kv.1 = k)) = vs.any fun kv => decide (kv.1 = k) := by
  unfold KV at r
  induction r with
  | nil => rfl
  | cons h t ih => rw [List.any_cons, List.any_cons, ih, h.1]
theorem KV.repl {kvs : List (κ × V)} {vs : List (κ × Value)} (r : KV kvs vs) (k : κ) {y : V} {u : Value} (ry : RelV y u) :
    KV (kvs.map fun kv => if kv.1 = k then (kv.1, y) else kv) (vs.map fun kv => if kv.1 = k then (kv.1, u) else kv) := by
  unfold KV at r ⊢
  induction r with
  | nil => exact .nil
  | @cons p q ps qs h t ih =>
    rw [List.map_cons, List.map_cons]
    refine .cons ?_ ih
    obtain ⟨h1, h2⟩ := h
    by_cases e : p.1 = k
    · rw [if_pos e, if_pos (h1.symm.trans e)]; exact ⟨h1, ry⟩
    · rw [if_neg e, if_neg (fun z => e (h1.trans z))]; exact ⟨h1, h2⟩
theorem KV.put {kvs : List (κ × V)} {vs : List (κ × Value)} (r : KV kvs vs) (k : κ) {y : V} {u : Value} (ry : RelV y u) : KV (putK kvs k y) (stored vs k u) := by
  unfold putK stored
  rw [r.any k]
  by_cases e : (vs.any fun kv => decide (kv.1 = k)) = true
  · rw [if_pos e, if_pos e]; exact r.repl k ry
  · rw [if_neg e, if_neg e]; exact Paired.snoc r ⟨rfl, ry⟩
theorem KV.length {kvs : List (κ × V)} {vs : List (κ × Value)} (r : KV kvs vs) : kvs.length = vs.length := Paired.length r
end


/-! ### a tracked dict, its keys ints and texts or tuples of these -/
theorem kV_is {P : Program} {w : World} {k : Key} {u : Value} (r : RelV (kV k) u) : (mixKind P w).is k u = true := by
  cases k with
  | inl i => obtain ⟨t, e⟩ := (show ∃ t, u = Value.int i t from r); subst e; exact mixKind_int P w i t
  | inr x => obtain ⟨t, e⟩ := (show ∃ t, u = Value.str x t from r); subst e; exact mixKind_str P w x t

section
variable {X : Cx} {pins : List (Addr × Obj)} {σ : St} {H : Hp} {s : Shared} {a : Addr}
theorem Inv.big (I : Inv X pins σ H s) : sysModules < s.heap.objs.size := by
  have h : mainGlobals < s.heap.objs.size := (I.mod.glob.keeps I.bk).lt
  exact Nat.lt_trans (by decide) h

/-- a dict's object is replaced -/
theorem d_write {h' : Heap} {t' : Nat} {ob : HO} (I : Inv X pins σ H s) (mu : Mut (H a)) (hs : Heap.SameBut a s.heap h') (he : ∃ q, h'.get? a = some q) (new : ObjOk X.prog X.w (upd H a ob) h' a ob) :
    Inv X pins σ (upd H a ob) { s with heap := h', toks := t' } :=
  I.write (x := a) (e := a) mu (.inl rfl) (fun b q hb z => (hs.2 b hb).trans z) he new
theorem dk_new {P : Program} {w : World} {H' : Hp} {h' : Heap} {kvs : List (Key × V)} {vs : List (Key × Value)} (z : kvs.length ≤ sizeLine) (hd : (a == sysModules) = false) (rel : KV kvs vs) (dd : h'.DictOf (mixKind P w) a vs) :
    ObjOk P w H' h' a (.dK kvs) := ⟨z, hd, vs, rel, dd⟩

end
end L2

set_option Elab.async false
set_option linter.all false
set_option maxRecDepth 100000
namespace L2
open PySem PySem.Spec PyProof.Rows
section
variable {X : Cx}
/-! ### a dict of int keys: {}, not in, d[k] = v -/
def tDNew : TE := fun _ H Q => ∀ p, H p = none → Q (.ref p) (upd H p (.dK []))
theorem pe_dnew {pos : Pos} : PE X (.Dict [] [] pos) tDNew := fun pins s σ H Q I h =>
  wpAny_Dict_empty ⟨.ref s.heap.objs.size, _, I.laid (a := s.heap.objs.size) (o := .dK []) (t' := s.toks) (fun _ _ q => Heap.get?_push_of_some _ q) (Nat.le_refl _)
    ⟨Nat.zero_le _, beq_eq_false_iff_ne.mpr (Ne.symm (Nat.ne_of_lt I.big)), [], .nil, Heap.DictOf.new s.heap⟩, rfl, h _ (I.hok.fresh (Nat.le_refl _))⟩
def rNotInD : R2 := fun x y H Q => ∃ (i : Int) (d : Addr) (kvs : List (Key × V)), x = .int i ∧ y = .ref d ∧ H d = some (.dK kvs) ∧ Q (.bl (!(valV kvs (.inl i)).isSome)) H
theorem op_notin_d : OpR X (compareOp .NotIn) rNotInD := by
  intro pins s σ H x y v u Q I rx ry h
  obtain ⟨i, d, kvs, rfl, rfl, e, q⟩ := h
  obtain rfl : u = Value.ref d := ry
  obtain ⟨z, hd, vs, rel, dd⟩ := (show ObjOk X.prog X.w H s.heap d (.dK kvs) from I.hok d _ e)
  refine wpAny_notIn_of (kV_is (k := .inl i) rx) hd dd.mapOf ?_
  rw [← (rel.val (.inl i)).isSome_eq]
  exact ⟨.bl _, H, I.tok _, rfl, q⟩
def rSetD : V → V → V → Hp → (Hp → Prop) → Prop := fun o i v H Q => ∃ d k kvs, o = .ref d ∧ i = .int k ∧ H d = some (.dK kvs) ∧ kvs.length < sizeLine ∧ Q (upd H d (.dK (putK kvs (.inl k) v)))
theorem set_d : PSet X rSetD := by
  intro pins s σ H o i v ov iv u Q I ro ri rv h
  obtain ⟨d, k, kvs, rfl, rfl, e, l, q⟩ := h
  obtain rfl : ov = Value.ref d := ro
  obtain ⟨z, hd, vs, rel, dd⟩ := (show ObjOk X.prog X.w H s.heap d (.dK kvs) from I.hok d _ e)
  have hz : vs.length ≤ sizeLine := by rw [← rel.length]; exact z
  have hl : (putK kvs (.inl k) v).length ≤ sizeLine := by have := length_putK kvs (.inl k) v; omega
  refine wpAny_setItem_pairs (hsz := hz) (kV_is (k := .inl k) ri) dd fun h' dd' hs => ?_
  have he : ∃ q, h'.get? d = some q := let ⟨q, _, _, hq, _⟩ := dd'; ⟨q, hq⟩
  exact ⟨_, d_write I (by rw [e]; exact True.intro) hs he (dk_new hl hd (rel.put (.inl k) rv) dd'), q⟩
/-! ### // by any divisor below 2 ** 64 -/
theorem op_fdivB : OpR X (binaryOp .FloorDiv) (rI (fun _ j => 0 < j ∧ j < 2 ^ 64) fun i j => .int (i / j)) := opI fun i j _ _ _ _ _ hc q => by
  have h1 : (0 : Int) < j := hc.1
  have h2 : j < 2 ^ 64 := hc.2
  refine floordiv_int (by omega) (by rw [Int.fdiv_eq_ediv_of_nonneg i (by omega)]; exact q) (.inl (PyProof.noPylong_of_log2 ?_))
  have h3 : j.natAbs < 2 ^ 64 := by omega
  have h4 : j.natAbs.log2 < 64 := (Nat.log2_lt (by omega)).mpr h3
  omega
/-! ### list.index of ints -/
def rIndex (K : PySem.W.Frag) : V → List V → Hp → VK → Prop := fun x vs H Q => ∃ l xs y j, x = .ref l ∧ vs = [y] ∧ SqL K H l xs ∧ flatV y = true ∧ xs.all flatV = true ∧ j < xs.length ∧ eqV (xs.getD j .non) y = true ∧ (∀ m, m < j → eqV (xs.getD m .non) y = false) ∧ Q (.int (j : Nat)) H
theorem mt_index : MtM X "list.index" (rIndex X.K) := by
  intro pins s σ H x vs v us Q I rx rv h
  obtain ⟨l, xs, y, j, rfl, rfl, hq, fy, fs, hj, h1, h2, q⟩ := h
  cases rx
  obtain ⟨u, rfl, ru⟩ := rv.one
  obtain ⟨its, r, pl, hz⟩ := I.list hq
  have hl := r.length
  have line := line63
  have tI := pl.isList.typeIs
  obtain ⟨o, n, ho, hc, hd, hs⟩ := pl
  obtain ⟨oc, od, oda, osl⟩ := o
  simp only at hc hd hs
  subst hc hd hs
  have hj' : j < its.toArray.size := by rw [List.size_toArray, ← hl]; exact hj
  have at_ : ∀ m (hm : m < its.toArray.size), eqU y its.toArray[m] = eqV (xs.getD m .non) y := fun m hm => by
    have hm' : m < xs.length := by rw [List.size_toArray, ← hl] at hm; exact hm
    have e1 : xs[m]? = some xs[m] := List.getElem?_eq_getElem hm'
    obtain ⟨w, hw, rw'⟩ := r.get e1
    have hm2 : m < its.length := by omega
    rw [List.getElem?_eq_getElem hm2] at hw
    have ew : its.toArray[m] = w := by simpa using hw
    rw [ew, eqU_of rw' (List.all_eq_true.mp fs _ (List.getElem_mem _)), List.getD_eq_getElem?_getD, e1]
    rfl
  refine call_meets F.slot_list_index tI F.entry_list_index (F.args_list_index_2 _ _)
    (SeqAt.list_indexAt l its.toArray n none osl u (eqU y) j hj' (by omega) (by rw [at_ j hj']; exact h1) (fun m hm hmj => by rw [at_ m hm]; exact h2 m hmj)) ⟨ho, fun w hw => mem_eqAt ru fy r fs w (by simpa using hw), ?_⟩
  exact ⟨.int (j : Nat), H, I.tok _, ⟨_, rfl⟩, q⟩
/-! ### != of lists of lists: the same numbers in each -/
def rNeLL (K : PySem.W.Frag) : R2 := fun x y H Q => ∃ (p q : Addr) (rs ss : List Addr), x = .ref p ∧ y = .ref q ∧ SqL K H p (rs.map V.ref) ∧ SqL K H q (ss.map V.ref) ∧ rs.length = ss.length ∧
  (∀ (i : Nat) (a b : Addr), rs[i]? = some a → ss[i]? = some b → a ≠ b ∧ ∃ xs, SqL K H a xs ∧ SqL K H b xs ∧ xs.all flatV = true ∧ eqVs xs xs = true) ∧ Q (.bl false) H
theorem op_neLL (hu : X.A.units + 1 < cLine) : OpR X (compareOp .NotEq) (rNeLL X.K) := by
  intro pins s σ H x y v u Q I rx ry h
  obtain ⟨p, q, rs, ss, rfl, rfl, hp, hq, hl, hall, k⟩ := h
  cases rx
  cases ry
  obtain ⟨its, r, pl, hz⟩ := I.list hp
  obtain ⟨its2, r2, pl2, hz2⟩ := I.list hq
  have l1 := r.length
  have l2 := r2.length
  rw [List.length_map] at l1 l2
  refine SeqAt.RcNeAt.lists (e := fun _ => true) pl.isList pl2.isList (by simp; omega) (by omega) (fun j h1 h2 => ?_) X.prog X.w X.xe (EP X pins σ Q) ⟨.bl _, H, I, rfl, ?_⟩
  · have h1' : j < its.length := by simpa using h1
    have h2' : j < its2.length := by simpa using h2
    have e1 : rs[j]? = some (rs[j]'(by omega)) := List.getElem?_eq_getElem _
    have e2 : ss[j]? = some (ss[j]'(by omega)) := List.getElem?_eq_getElem _
    obtain ⟨u, hu1, ru⟩ := r.get (i := j) (x := .ref (rs[j]'(by omega))) (by rw [List.getElem?_map, e1]; rfl)
    obtain ⟨w, hw1, rw'⟩ := r2.get (i := j) (x := .ref (ss[j]'(by omega))) (by rw [List.getElem?_map, e2]; rfl)
    cases ru
    cases rw'
    have eu : its.toArray[j] = Value.ref (rs[j]'(by omega)) := by
      rw [List.getElem?_eq_getElem h1'] at hu1
      simpa using hu1
    have ew : its2.toArray[j] = Value.ref (ss[j]'(by omega)) := by
      rw [List.getElem?_eq_getElem h2'] at hw1
      simpa using hw1
    rw [eu, ew]
    obtain ⟨hne, xs, ha, hb, fx, hxx⟩ := hall j _ _ e1 e2
    obtain ⟨ia, ra, pa, za⟩ := I.list ha
    obtain ⟨ib, rb, pb, zb⟩ := I.list hb
    have la := ra.length
    have lb := rb.length
    refine SeqAt.EqAt.of_refs hne ?_
    have := SeqAt.RcAt.lists (A := X.A.in1) pa.isList pb.isList (by simp; omega) (by show X.A.units + 1 < cLine; exact hu) (eqVs_at ra rb fx fx)
    have e3 : eqVs xs xs = (List.range ia.toArray.size).all fun i => eqV (xs.getD i .non) (xs.getD i .non) := by
      unfold eqVs
      rw [beq_self_eq_true, Bool.true_and, List.size_toArray, ← la]
    rw [← e3, hxx] at this
    exact this
  · rw [show ((List.range its.toArray.size).all fun _ => true) = true from List.all_eq_true.mpr (fun _ _ => rfl)]
    exact k
end
section
variable {X : Cx} {K : PySem.W.Frag}
theorem op_in_seqK (h : X.K = K) : OpR X (compareOp .In) (rIn K false) := by subst h; exact op_in_seq
end
end L2

set_option Elab.async false
set_option linter.all false
set_option maxRecDepth 100000
namespace L2
open PySem PySem.Spec PyProof.Rows
theorem seq_gen {t u : TS} {D : Ends} {σ : St} {H : Hp} (I : St → Hp → Prop) (h : ∀ N : St → Hp → Prop, (∀ σ' H', I σ' H' → N σ' H') → t { D with nx := N } σ H) (hu : ∀ σ' H', I σ' H' → u D σ' H') : tSeq t u D σ H := h _ hu
/-! ### comprehensions whose elements may lay things -/
theorem lc_gen {K : PySem.W.Frag} {js : List Nat} {te : TE} {σ : St} {H : Hp} {S : Addr → Hp → List V → Prop} {a : Addr} {xs : List V} (I : Nat → List V → Hp → Prop) (h0 : I 0 [] H) (hz : xs.length ≤ 100000) (hl : ∀ i acc H', I i acc H' → SqL K H' a xs)
    (he : ∀ i x acc H' R, xs[i]? = some x → I i acc H' → (∀ y H'', I (i + 1) (acc ++ [y]) H'' → R y H'') → te (some x :: js.map fun j => σ.getD j none) H' R) (q : ∀ acc H', I xs.length acc H' → ∀ D, H' D = none → S D H' acc) :
    ∃ W : Nat → Nat → List V → Hp → Prop, (∃ m, W 0 m [] H) ∧ ∀ i m acc H, W i m acc H → ((Itl K a).stop i H ∧ ∀ D, H D = none → S D H acc) ∨
      ((Itl K a).go i H ∧ acc.length < sizeLine ∧ ∀ x H', (Itl K a).yld i H x H' → te (some x :: js.map fun j => σ.getD j none) H' fun y H'' => ∃ m', m' < m ∧ W (i + 1) m' (acc ++ [y]) H'') := by
  refine ⟨fun i m acc H' => I i acc H' ∧ m = xs.length - i ∧ i ≤ xs.length ∧ acc.length = i, ⟨xs.length, h0, rfl, Nat.zero_le _, rfl⟩, ?_⟩
  rintro i m acc H' ⟨hI, rfl, hi, hacc⟩
  have hx := hl i acc H' hI
  by_cases hlt : i < xs.length
  · refine .inr ⟨⟨xs, xs[i], hx, by simp [hlt]⟩, ?_, fun x H'' y => ?_⟩
    · have : (100000 : Nat) < sizeLine := by decide
      omega
    · obtain ⟨e, y⟩ := y
      subst e
      have hxi := y xs hx
      exact he i x acc _ _ hxi hI fun y H'' hI' => ⟨xs.length - (i + 1), by omega, hI', rfl, hlt, by rw [List.length_append, hacc]; rfl⟩
  · have e : i = xs.length := by omega
    subst e
    exact .inl ⟨⟨xs, hx, Nat.le_refl _⟩, q acc H' hI⟩
theorem lc_genR {lo st : Int} {n : Nat} {js : List Nat} {te : TE} {σ : St} {H : Hp} {S : Addr → Hp → List V → Prop} (I : Nat → List V → Hp → Prop) (h0 : I 0 [] H) (hz : n ≤ 100000)
    (he : ∀ i acc H' R, i < n → I i acc H' → (∀ y H'', I (i + 1) (acc ++ [y]) H'' → R y H'') → te (some (.int (lo + i * st)) :: js.map fun j => σ.getD j none) H' R) (q : ∀ acc H', I n acc H' → ∀ D, H' D = none → S D H' acc) :
    ∃ W : Nat → Nat → List V → Hp → Prop, (∃ m, W 0 m [] H) ∧ ∀ i m acc H, W i m acc H → ((Itr3 lo st n).stop i H ∧ ∀ D, H D = none → S D H acc) ∨
      ((Itr3 lo st n).go i H ∧ acc.length < sizeLine ∧ ∀ x H', (Itr3 lo st n).yld i H x H' → te (some x :: js.map fun j => σ.getD j none) H' fun y H'' => ∃ m', m' < m ∧ W (i + 1) m' (acc ++ [y]) H'') := by
  refine ⟨fun i m acc H' => I i acc H' ∧ m = n - i ∧ i ≤ n ∧ acc.length = i, ⟨n, h0, rfl, Nat.zero_le _, rfl⟩, ?_⟩
  rintro i m acc H' ⟨hI, rfl, hi, hacc⟩
  by_cases hlt : i < n
  · refine .inr ⟨hlt, ?_, fun x H'' y => ?_⟩
    · have : (100000 : Nat) < sizeLine := by decide
      omega
    · obtain ⟨e, rfl⟩ := y
      subst e
      exact he i acc _ _ hlt hI fun y H'' hI' => ⟨n - (i + 1), by omega, hI', rfl, hlt, by rw [List.length_append, hacc]; rfl⟩
  · have e : i = n := by omega
    subst e
    exact .inl ⟨Nat.le_refl _, q acc H' hI⟩
section
variable {X : Cx}
theorem sl_listK {K : PySem.W.Frag} (h : X.K = K) : SlR X (rSlL K) := by subst h; exact sl_list
/-! ### list.insert(0, y) -/
def rIns0 : V → List V → Hp → VK → Prop := fun x vs H Q => ∃ l xs y, x = .ref l ∧ vs = [.int 0, y] ∧ H l = some (.lst xs) ∧ xs.length < sizeLine ∧ Q .non (upd H l (.lst (y :: xs)))
theorem mt_insert0 : MtM X "list.insert" rIns0 := by
  intro pins s σ H x vs v us Q I rx rv h
  obtain ⟨l, xs, y, rfl, rfl, hH, hz, q⟩ := h
  cases rx
  obtain ⟨u0, u, rfl, r0, ru⟩ := rv.two
  obtain ⟨t0, rfl⟩ := r0
  obtain ⟨z, its, n, r, hl, e⟩ := I.lstM hH
  refine call_meets F.slot_list_insert ⟨_, e, rfl⟩ F.entry_list_insert (F.args_list_insert_3 _ _ _) (AutoSeq1.list_insert_list_int_val_1 l its.toArray n 0 t0 u (by decide) (by rw [List.size_toArray]; omega)) ⟨e, ?_⟩
  refine ⟨.non, _, I.lset (its' := u :: its) hH e (by simp) (.cons ru r) ?_, rfl, q⟩
  rw [List.length_cons]
  omega
/-! ### text.join(list of texts) -/
theorem vals_strs : ∀ {ys : List Str} {its : List Value}, Vals (ys.map V.str) its → StrsAre its ys
  | [], _, .nil => .nil
  | y :: ys, _, .cons ⟨t, e⟩ r => by subst e; exact .cons y t (vals_strs r)
def rJoin (K : PySem.W.Frag) : V → List V → Hp → VK → Prop := fun x vs H Q => ∃ z l ys, x = .str z ∧ vs = [.ref l] ∧ SqL K H l (ys.map V.str) ∧ (ys.map (·.length)).sum + ys.length * z.length ≤ 16777216 ∧ Q (.str (Str.join z ys)) H
theorem mt_join : MtM X "str.join" (rJoin X.K) := by
  intro pins s σ H x vs v us Q I rx rv h
  obtain ⟨z, l, ys, rfl, rfl, hq, hok, q⟩ := h
  obtain ⟨t, rfl⟩ := rx
  obtain ⟨u, rfl, ru⟩ := rv.one
  cases ru
  obtain ⟨its, r, pl, hz⟩ := I.list hq
  refine join_list pl.isList (vals_strs r) hok fun t' k => ?_
  refine ⟨.str _, H, I.tok _, ⟨t', ?_⟩, q⟩
  show Value.str (Builtin.Str.glued z ys) t' = _
  rw [StrLaws.glued_eq_join]
/-! ### max, min, sum of a list of ints -/
theorem ints_items {ns : List Int} {its : List Value} (r : Vals (ns.map V.int) its) : ∃ xs : Array (Int × Tok), its.toArray = intItems xs ∧ ns = xs.toList.map (·.1) := by
  have hi := ints_vals r
  obtain ⟨xs, e⟩ := hi.allInts.items
  refine ⟨xs, e, ?_⟩
  rw [← nums_intItems, ← e]
  exact hi.numsOf.symm
def rMax (K : PySem.W.Frag) : List V → Hp → VK → Prop := fun xs H Q => ∃ p ns, xs = [.ref p] ∧ SqL K H p (ns.map V.int) ∧ ns ≠ [] ∧ ∀ M, M ∈ ns → (∀ a ∈ ns, a ≤ M) → Q (.int M) H
theorem call_maxL (hc : X.calm = true) : CallR X (.builtin "max") (rMax X.K) := by
  intro pins s σ H xs us Q I r h
  obtain ⟨p, ns, rfl, hq, hne, q⟩ := h
  obtain ⟨u, rfl, rx⟩ := vals1 r
  cases rx
  obtain ⟨its, rv, pl, hz⟩ := I.list hq
  obtain ⟨ys, e, hns⟩ := ints_items rv
  have hd : X.A.handled = none := I.ok.hd hc
  have hl := pl.isList
  rw [e] at hl
  have hsz : 0 < ys.size := by
    have := List.length_pos_iff.mpr hne
    rw [hns, List.length_map, Array.length_toList] at this
    exact this
  refine max_intList hd hl hsz fun v h' tk hv hk => ?_
  obtain ⟨t, rfl⟩ := intItems_at hv
  obtain ⟨h1, h2⟩ := argBest_gt (numAt ys) (ys.size - 1)
  refine ⟨.int _, H, I.kept hk, ⟨_, rfl⟩, q _ ?_ fun a ha => ?_⟩
  · rw [hns, numAt_eq]; exact PySem.getD_mem (by rw [List.length_map, Array.length_toList]; omega)
  · rw [hns] at ha
    obtain ⟨j, hj, rfl⟩ := PySem.mem_getD ha
    rw [List.length_map, Array.length_toList] at hj
    rw [← numAt_eq]; exact h2 j (by omega)
def rMin (K : PySem.W.Frag) : List V → Hp → VK → Prop := fun xs H Q => ∃ p ns, xs = [.ref p] ∧ SqL K H p (ns.map V.int) ∧ ns ≠ [] ∧ ∀ M, M ∈ ns → (∀ a ∈ ns, M ≤ a) → Q (.int M) H
theorem call_minL (hc : X.calm = true) : CallR X (.builtin "min") (rMin X.K) := by
  intro pins s σ H xs us Q I r h
  obtain ⟨p, ns, rfl, hq, hne, q⟩ := h
  obtain ⟨u, rfl, rx⟩ := vals1 r
  cases rx
  obtain ⟨its, rv, pl, hz⟩ := I.list hq
  obtain ⟨ys, e, hns⟩ := ints_items rv
  have hd : X.A.handled = none := I.ok.hd hc
  have hl := pl.isList
  rw [e] at hl
  have hsz : 0 < ys.size := by
    have := List.length_pos_iff.mpr hne
    rw [hns, List.length_map, Array.length_toList] at this
    exact this
  refine min_intList hd hl hsz fun v h' tk hv hk => ?_
  obtain ⟨t, rfl⟩ := intItems_at hv
  obtain ⟨h1, h2⟩ := argBest_lt (numAt ys) (ys.size - 1)
  refine ⟨.int _, H, I.kept hk, ⟨_, rfl⟩, q _ ?_ fun a ha => ?_⟩
  · rw [hns, numAt_eq]; exact PySem.getD_mem (by rw [List.length_map, Array.length_toList]; omega)
  · rw [hns] at ha
    obtain ⟨j, hj, rfl⟩ := PySem.mem_getD ha
    rw [List.length_map, Array.length_toList] at hj
    rw [← numAt_eq]; exact h2 j (by omega)
def rSum (K : PySem.W.Frag) : List V → Hp → VK → Prop := fun xs H Q => ∃ (p : Addr) (ns : List Int), xs = [.ref p] ∧ SqL K H p (ns.map V.int) ∧ Q (.int ns.sum) H
theorem call_sumL (hc : X.calm = true) : CallR X (.builtin "sum") (rSum X.K) := by
  intro pins s σ H xs us Q I r h
  obtain ⟨p, ns, rfl, hq, q⟩ := h
  obtain ⟨u, rfl, rx⟩ := vals1 r
  cases rx
  obtain ⟨its, rv, pl, hz⟩ := I.list hq
  obtain ⟨ys, e, hns⟩ := ints_items rv
  have hd : X.A.handled = none := I.ok.hd hc
  have hl := pl.isList
  rw [e] at hl
  refine sum_intListG hd hl fun h' tk t' hk => ?_
  refine ⟨.int _, H, I.kept hk, ⟨t', ?_⟩, q⟩
  rw [preSum_eq, List.take_of_length_le (by simp), ← hns]
/-! ### list.count -/
def rCount (K : PySem.W.Frag) : V → List V → Hp → VK → Prop := fun x vs H Q => ∃ l xs y, x = .ref l ∧ vs = [y] ∧ SqL K H l xs ∧ flatV y = true ∧ xs.all flatV = true ∧ Q (.int (xs.countP (fun z => eqV z y) : Nat)) H
theorem mt_countL : MtM X "list.count" (rCount X.K) := by
  intro pins s σ H x vs v us Q I rx rv h
  obtain ⟨l, xs, y, rfl, rfl, hq, fy, fs, q⟩ := h
  cases rx
  obtain ⟨u, rfl, ru⟩ := rv.one
  obtain ⟨its, r, pl, hz⟩ := I.list hq
  have tI := pl.isList.typeIs
  obtain ⟨o, n, ho, hc, hd, hs⟩ := pl
  obtain ⟨oc, od, oda, osl⟩ := o
  simp only at hc hd hs
  subst hc hd hs
  have hcnt : ∀ {xs : List V} {its : List Value}, Vals xs its → xs.all flatV = true → its.countP (eqU y) = xs.countP (fun z => eqV z y) := by
    intro xs its r
    induction r with
    | nil => intro _; rfl
    | cons r1 r2 ih =>
      intro f
      rw [List.all_cons, Bool.and_eq_true] at f
      rw [List.countP_cons, List.countP_cons, ih f.2, eqU_of r1 f.1]
  refine call_meets F.slot_list_count tI F.entry_list_count (F.args_list_count_2 _ _)
    (SeqAt.list_countAt l its.toArray n none osl u (eqU y)) ⟨ho, fun w hw => mem_eqAt ru fy r fs w (by simpa using hw), ?_⟩
  refine ⟨.int _, H, I.tok _, ⟨s.toks, ?_⟩, q⟩
  show Value.int ((its.toArray.toList.countP (eqU y) : Nat) : Int) _ = _
  rw [hcnt r fs]
/-! ### text.strip(signs): nothing is left where all signs are of these -/
theorem mt_stripAll : MtM X "str.strip" (fun x xs H Q => ∃ z c : Str, x = .str z ∧ xs = [.str c] ∧ (∀ d ∈ z.cps.toList, c.cps.contains d = true) ∧ z.length ≤ sizeLine ∧ Q (.str Str.empty) H) := by
  intro pins s σ H x xs v us Q I rx rv h
  obtain ⟨z, c, rfl, rfl, hall, hz, q⟩ := h
  obtain ⟨t, rfl⟩ := rx
  obtain ⟨u, rfl, t', rfl⟩ := rv.one
  refine call_gives F.slot_str_strip (typeIs_str _ _ _) F.entry_str_strip (F.args_str_strip_2 _ _) (gives_str_strip_chars z c t t') ?_
  have hlo : stripLo c.cps.contains true z = z.length := by
    unfold stripLo
    have tw : ∀ l : List Nat, (∀ d ∈ l, c.cps.contains d = true) → l.takeWhile c.cps.contains = l := by
      intro l
      induction l with
      | nil => intro _; rfl
      | cons d l ih =>
        intro h
        rw [List.takeWhile_cons, h d List.mem_cons_self, if_pos rfl, ih fun e he => h e (List.mem_cons_of_mem _ he)]
    rw [if_pos rfl, tw _ hall]
    rfl
  have hlen : z.length = z.cps.toList.length := rfl
  have hhi : stripHi c.cps.contains true z z.length = z.length := by
    unfold stripHi
    rw [if_pos rfl, hlen, List.drop_length]
    simp
  refine post_val_or_made (fun _ => fits_stripped _ _ _ hz) fun t2 k => ?_
  have hres : (if stripSame c.cps.contains true true z = true then z else stripped c.cps.contains true true z) = Str.empty := by
    by_cases h0 : z.length = 0
    · have ez : z = Str.empty := by
        obtain ⟨cp⟩ := z
        have : cp = #[] := Array.eq_empty_of_size_eq_zero h0
        subst this
        rfl
      have hs : stripSame c.cps.contains true true z = true := by
        unfold stripSame
        rw [hlo, hhi, h0]
        rfl
      rw [if_pos hs, ez]
    · have hs : ¬ stripSame c.cps.contains true true z = true := by
        unfold stripSame
        rw [hlo]
        simp [h0]
      rw [if_neg hs]
      unfold stripped
      rw [hlo, hhi]
      unfold Builtin.Str.strSub
      simp [Str.empty]
      exact Nat.min_le_left _ _
  rw [hres]
  exact ⟨.str _, H, I.tok _, ⟨_, rfl⟩, q⟩
end
end L2

set_option Elab.async false
set_option linter.all false
set_option maxRecDepth 100000
namespace L2
open PySem PySem.Spec PyProof.Rows
section
variable {A : Around} {E : Value → Shared → Prop} {s : Shared} {K : PySem.W.Frag} {p C dx : Addr} {i : Int} {t : Tok} {prog : Program} {w : World}
theorem sub_int_ref : isSubtype (.type "int") (.ref C) = pure false := by
  rw [isSubtype_type]
  have : fastBuiltinMro "int" = some [.type "int", .type "object"] := by kernel_rfl
  rw [this]
  rfl
theorem chk_slot {id owner n : String} (hk : builtinKind id = some .slot) (hs : splitId id = some (owner, n)) (x : K.In s.heap) (hx : s.heap.get? p = some (PySem.W.instObj C dx)) (hm : PySem.W.mroIn K C (.type owner) = some true) {rest : List Value} {Q : Unit → Shared → Prop} (ha : argsOk id ⟨.ref p :: rest, []⟩) (hq : Q () s) :
    wpAny (model prog w) A (checkBuiltinCall id ⟨.ref p :: rest, []⟩) Q E s := by
  simp only [checkBuiltinCall, hk, hs]
  obtain ⟨hp, g, d, tk, os⟩ := s
  have lm := PySem.W.looks_mroIn (M := model prog w) x hm
  refine wpAny_bind ?_
  unfold isInstance
  repeat (first | (with_reducible refine wpAny_loadPart_at hx ?_) | (with_reducible refine PySem.W.Looks.at lm ?_) | wp_step)
  cases hsig : Manifest.signature? id with
  | none => exact wpAny_pure hq
  | some sig =>
    simp only [argsOk, hsig] at ha
    have h2 : Bind.checkArgs id sig ⟨.ref p :: rest, []⟩ = pure () := ha
    show wpAny _ A (Bind.checkArgs id sig ⟨.ref p :: rest, []⟩) Q E _
    rw [h2]; exact wpAny_pure hq
theorem call_objeq_int (x : K.In s.heap) (hx : s.heap.get? p = some (PySem.W.instObj C dx)) (hm : PySem.W.mroIn K C (.type "object") = some true) {Q : Value → Shared → Prop} (hq : Q .notImplemented s) :
    wpAny (model prog w) A (call (.builtin "object.__eq__") [.ref p, .int i t]) Q E s := by
  refine wpAny_call (codeAny_call_builtin F.cmp_object.eq.plain F.cmpEntry_eq (chk_slot F.cmpKind_eq F.cmpSplit_eq x hx hm (F.cmpArgs_eq _ _) ?_))
  unfold Builtin.«object.__eq__»
  obtain ⟨hp, g, d, tk, os⟩ := s
  repeat (first | (with_reducible refine wpAny_isSame_plain (by rfl) ?_) | wp_step)
  exact hq
theorem special_find {name : Str} {r : Option Value} (x : K.In s.heap) (hx : s.heap.get? p = some (PySem.W.instObj C dx)) (he : PySem.W.findIn K (.ref C) name = some r) {Q : Option Value → Shared → Prop} (hq : Q r s) : wpAny (model prog w) A (specialOf (.ref p) name) Q E s := by
  unfold specialOf
  obtain ⟨hp, g, d, tk, os⟩ := s
  have lf := PySem.W.looks_findIn (M := model prog w) x he
  repeat (first | (with_reducible refine wpAny_loadPart_at hx ?_) | (with_reducible refine PySem.W.Looks.at lf ?_) | wp_step)
  exact hq
theorem try_eq_int (x : K.In s.heap) (hx : s.heap.get? p = some (PySem.W.instObj C dx)) (he : PySem.W.findIn K (.ref C) "__eq__" = some (some (.builtin "object.__eq__"))) (hm : PySem.W.mroIn K C (.type "object") = some true) {Q : Option Value → Shared → Prop} (hq : Q none s) :
    wpAny (model prog w) A (tryCompare (.ref p) "__eq__" (.int i t)) Q E s := by
  simp only [tryCompare, callSpecialIfBound?, bindSpecialIfBound?]
  refine wpAny_bind (wpAny_holding (wpAny_bind (wpAny_bind (special_find x hx he ?_))))
  simp only [F.cmp_object.eq.bind]
  refine wpAny_bind (wpAny_askSetting (wpAny_ite ?_))
  have fin : wpAny (model prog w) A (call (.builtin "object.__eq__") ([.ref p] ++ [.int i t]) >>= fun v => pure (some v)) (fun r s' => wpAny (model prog w) A (match r with | some Value.notImplemented => pure none | none => pure none | some v => pure (some v)) Q E s') E s :=
    wpAny_bind (call_objeq_int x hx hm (wpAny_pure (wpAny_pure hq)))
  split
  · exact wpAny_bind (wpAny_pure (wpAny_pure fin))
  · exact wpAny_tryCatch (wpAny_bind (wpAny_pure (wpAny_pure fin)))
theorem inteq_ref (x : K.In s.heap) (hx : s.heap.get? p = some (PySem.W.instObj C dx)) (hm : PySem.W.mroIn K C (.type "int") = some false) {Q : Fin → Shared → Prop} (hq : Q (.done (.ret .notImplemented)) s) :
    wpAny (model prog w) A (Builtin.«int.__eq__» ⟨[.int i t, .ref p], []⟩) Q E s := by
  obtain ⟨hp, g, d, tk, os⟩ := s
  have lm := PySem.W.looks_mroIn (M := model prog w) x hm
  repeat (first | (with_reducible refine wpAny_loadPart_at hx ?_) | (with_reducible refine PySem.W.Looks.at lm ?_) | wp_step)
  exact hq
theorem try_int_eq (x : K.In s.heap) (hx : s.heap.get? p = some (PySem.W.instObj C dx)) (hm : PySem.W.mroIn K C (.type "int") = some false) {Q : Option Value → Shared → Prop} (hq : Q none s) :
    wpAny (model prog w) A (tryCompare (.int i t) "__eq__" (.ref p)) Q E s := by
  simp only [tryCompare]
  refine wpAny_bind (wpAny_callSpecialIfBound?_slot (typeIs_int _ _ _) (show Slot "int" "__eq__" "int.__eq__" from F.slot_int_eq_refl) ?_)
  refine wpAny_call (codeAny_call_builtin F.slot_int_eq_refl.plain F.entry_int_eq (F.slot_int_eq_refl.check _ _ _ _ _ _ _ _ (typeIs_int _ _ _) (F.args_int_eq_2 _ _) ?_))
  exact inteq_ref x hx hm (wpAny_pure hq)
theorem rc_ins_int (x : K.In s.heap) (hx : s.heap.get? p = some (PySem.W.instObj C dx)) (he : PySem.W.findIn K (.ref C) "__eq__" = some (some (.builtin "object.__eq__"))) (hm : PySem.W.mroIn K C (.type "object") = some true) (hi : PySem.W.mroIn K C (.type "int") = some false) (hu : A.units < cLine) {Q : Value → Shared → Prop} (hq : Q (.bool false) s) :
    wpAny (model prog w) A (richCompare .Eq (.ref p) (.int i t)) Q E s := by
  simp only [richCompare, cmpInfo_Eq]
  obtain ⟨hp, g, d, tk, os⟩ := s
  repeat (first | with_reducible refine wpAny_cRoomFor hu ?_ | (with_reducible refine wpAny_loadPart_at hx ?_) | (with_reducible refine wpAny_of_eq sub_int_ref ?_) | with_reducible refine try_eq_int x hx he hm ?_ | with_reducible refine try_int_eq x hx hi ?_ | (with_reducible refine wpAny_isSame_plain (by rfl) ?_) | wp_step)
  exact hq
theorem eqAt_ins (x : K.In s.heap) (hx : s.heap.get? p = some (PySem.W.instObj C dx)) (he : PySem.W.findIn K (.ref C) "__eq__" = some (some (.builtin "object.__eq__"))) (hm : PySem.W.mroIn K C (.type "object") = some true) (hi : PySem.W.mroIn K C (.type "int") = some false) (hu : A.units < cLine) : SeqAt.EqAt A s (.ref p) (.int i t) false := fun prog w E Q hq => by
  unfold eqBool
  refine wpAny_holding ?_
  refine wpAny_ite_split (fun hab => absurd (eq_of_beq hab) (by intro z; cases z)) (fun _ => ?_)
  exact wpAny_bind (rc_ins_int x hx he hm hi hu (wpAny_truthy_bool hq))
end
section
variable {X : Cx}
/-- an int among objects of a plain class: not there -/
def rInObj (K : PySem.W.Frag) : R2 := fun x y H Q => ∃ (l : Addr) (i : Int) (ms : List Addr), x = .int i ∧ y = .ref l ∧ H l = some (.lst (ms.map V.ref)) ∧
  (∀ p ∈ ms, ∃ C dx fs, H p = some (.ins C dx fs) ∧ PySem.W.findIn K (.ref C) "__eq__" = some (some (.builtin "object.__eq__")) ∧ PySem.W.mroIn K C (.type "object") = some true ∧ PySem.W.mroIn K C (.type "int") = some false) ∧ Q (.bl false) H
theorem op_in_obj (hu : X.A.units + 1 < cLine) : OpR X (compareOp .In) (rInObj X.K) := by
  intro pins s σ H x y v u Q I rx ry h
  obtain ⟨l, i, ms, rfl, rfl, hl, hms, q⟩ := h
  obtain ⟨t, rfl⟩ := rx
  cases ry
  obtain ⟨its, r, pl, hz⟩ := I.list (SqL.of hl)
  have KX : X.K.In s.heap := I.kIn
  have heq : ∀ y, y ∈ its.toArray → SeqAt.EqAt X.A.in1 s y (.int i t) false := fun y hy => by
    have hy' : y ∈ its := by simpa using hy
    obtain ⟨j, hj⟩ := List.mem_iff_getElem?.mp hy'
    have hjl : j < ms.length := by
      have h1 := (List.getElem?_eq_some_iff.mp hj).1
      have h2 := r.length
      rw [List.length_map] at h2
      omega
    obtain ⟨u, hu', ru⟩ := r.get (i := j) (x := V.ref ms[j]) (by simp [hjl])
    rw [hj] at hu'
    cases hu'
    cases ru
    obtain ⟨C, dx, fs, hp, c1, c2, c3⟩ := hms ms[j] (List.getElem_mem hjl)
    obtain ⟨_, _, _, ob, _⟩ := (show ObjOk X.prog X.w H s.heap ms[j] (.ins C dx fs) from I.hok _ _ hp)
    exact eqAt_ins KX ob c1 c2 c3 hu
  refine SeqAt.in_listAt (fun _ => false) pl.isList heq ?_
  have : its.toArray.any (fun _ => false) = false := by simp
  rw [this]
  exact ⟨.bl false, H, I, rfl, q⟩
/-! ### int(a text of a figure) -/
theorem call_int_str : CallR X (.type "int") (fun xs H Q => ∃ (z : Str) (n : Int), xs = [.str z] ∧ PySem.intText? z = some n ∧ z.length ≤ 640 ∧ Q (.int n) H) := by
  intro pins s σ H xs us Q I r h
  obtain ⟨z, n, rfl, hn, hl, q⟩ := h
  obtain ⟨u, rfl, t, rfl⟩ := vals1 r
  exact PySem.W.KIN.call_text hn hl ⟨.int n, H, I.tok _, ⟨_, rfl⟩, q⟩
end
end L2

namespace Rf
open List

/-- an order: all numbers below its length, once each -/
def IsOrd (xs : List Nat) : Prop := xs.Perm (range xs.length)
theorem IsOrd.lt {xs : List Nat} (h : IsOrd xs) : ∀ x ∈ xs, x < xs.length := fun _ hx => mem_range.mp (h.mem_iff.mp hx)
theorem IsOrd.nodup {xs : List Nat} (h : IsOrd xs) : xs.Nodup := h.nodup_iff.mpr nodup_range
theorem isOrd_range (n : Nat) : IsOrd (range n) := by unfold IsOrd; simp
theorem IsOrd.of_perm {xs ys : List Nat} (h : IsOrd xs) (p : ys.Perm xs) : IsOrd ys := by
  unfold IsOrd at *; rw [p.length_eq]; exact p.trans h

/-- what done makes -/
def pick (xs src : List Nat) : List Nat := src.map fun i => xs.getD i 0
/-- one turn of undone -/
def putAt (xs : List Nat) (b : List Nat) (i s : Nat) : List Nat := b.set s (xs.getD i 0)
/-- undone's loop from place i on -/
def unGo (xs : List Nat) : List Nat → Nat → List Nat → List Nat
  | [], _, b => b
  | s :: r, i, b => unGo xs r (i + 1) (b.set s (xs.getD i 0))
def unpick (xs src : List Nat) : List Nat := unGo xs src 0 xs

theorem pick_length (xs src : List Nat) : (pick xs src).length = src.length := by simp [pick]
theorem unGo_length (xs : List Nat) : ∀ (src : List Nat) (i : Nat) (b : List Nat), (unGo xs src i b).length = b.length
  | [], _, _ => rfl
  | s :: r, i, b => by simp [unGo, unGo_length xs r]
theorem unpick_length (xs src : List Nat) : (unpick xs src).length = xs.length := unGo_length ..
theorem unGo_out (xs : List Nat) : ∀ (src : List Nat) (i : Nat) (b : List Nat) (j : Nat), j ∉ src → (unGo xs src i b)[j]? = b[j]?
  | [], _, _, _, _ => rfl
  | s :: r, i, b, j, h => by
    rw [unGo, unGo_out xs r _ _ j (fun z => h (mem_cons_of_mem _ z)), getElem?_set_ne]
    intro e; exact h (by rw [e]; exact mem_cons_self)
theorem unGo_in (xs : List Nat) : ∀ (src : List Nat) (i : Nat) (b : List Nat) (k j : Nat), src.Nodup → (∀ s ∈ src, s < b.length) → src[k]? = some j → (unGo xs src i b)[j]? = some (xs.getD (i + k) 0)
  | [], _, _, _, _, _, _, h => by simp at h
  | s :: r, i, b, 0, j, nd, hl, h => by
    simp at h; subst h
    rw [unGo, unGo_out xs r _ _ s (nodup_cons.mp nd).1]
    simp [hl s mem_cons_self]
  | s :: r, i, b, k + 1, j, nd, hl, h => by
    rw [unGo, unGo_in xs r (i + 1) _ k j (nodup_cons.mp nd).2 (fun t ht => by simpa using hl t (mem_cons_of_mem _ ht)) (by simpa using h)]
    congr 2; omega

theorem perm_lt {src : List Nat} {n : Nat} (p : src.Perm (range n)) : ∀ s ∈ src, s < n := fun _ hs => mem_range.mp (p.mem_iff.mp hs)
theorem perm_len {src : List Nat} {n : Nat} (p : src.Perm (range n)) : src.length = n := by simpa using p.length_eq
theorem perm_nodup {src : List Nat} {n : Nat} (p : src.Perm (range n)) : src.Nodup := p.nodup_iff.mpr nodup_range

theorem pick_unpick {xs src : List Nat} (p : src.Perm (range xs.length)) : pick (unpick xs src) src = xs := by
  apply ext_getElem?
  intro k
  have hl := perm_len p
  by_cases hk : k < src.length
  · have e : src[k]? = some src[k] := by simp [hk]
    have h := unGo_in xs src 0 xs k src[k] (perm_nodup p) (perm_lt p) e
    have h2 : (unpick xs src).getD src[k] 0 = xs.getD k 0 := by
      unfold unpick; rw [getD_eq_getElem?_getD, h]; simp
    rw [pick, getElem?_map, e]
    simp only [Option.map_some, h2]
    have : k < xs.length := by omega
    simp [getD_eq_getElem?_getD, this]
  · rw [getElem?_eq_none (by rw [pick_length]; omega), getElem?_eq_none (by omega)]
theorem unpick_pick {xs src : List Nat} (p : src.Perm (range xs.length)) : unpick (pick xs src) src = xs := by
  apply ext_getElem?
  intro j
  have hl := perm_len p
  by_cases hj : j < xs.length
  · have hm : j ∈ src := p.mem_iff.mpr (mem_range.mpr hj)
    obtain ⟨k, hk, e⟩ := getElem_of_mem hm
    have h := unGo_in (pick xs src) src 0 (pick xs src) k j (perm_nodup p) (fun s hs => by rw [pick_length, hl]; exact perm_lt p s hs) (by simp [hk, e])
    unfold unpick
    rw [h, Nat.zero_add]
    simp [pick, getD_eq_getElem?_getD, hk, e, hj]
  · rw [getElem?_eq_none (by rw [unpick_length, pick_length]; omega), getElem?_eq_none (by omega)]
theorem pick_map_range (xs : List Nat) : pick xs (range xs.length) = xs := by
  apply ext_getElem?
  intro j
  by_cases hj : j < xs.length
  · simp [pick, hj, getD_eq_getElem?_getD]
  · rw [getElem?_eq_none (by rw [pick_length, length_range]; omega), getElem?_eq_none (by omega)]
theorem pick_ord {xs src : List Nat} (h : IsOrd xs) (p : src.Perm (range xs.length)) : IsOrd (pick xs src) := by
  refine h.of_perm ?_
  have := p.map (fun i => xs.getD i 0)
  exact this.trans (by rw [show (range xs.length).map (fun i => xs.getD i 0) = xs from pick_map_range xs])
theorem unpick_ord {xs src : List Nat} (h : IsOrd xs) (p : src.Perm (range xs.length)) : IsOrd (unpick xs src) := by
  have e := pick_unpick p
  have l : (unpick xs src).length = xs.length := unpick_length ..
  have p' : src.Perm (range (unpick xs src).length) := by rw [l]; exact p
  have q : (pick (unpick xs src) src).Perm (unpick xs src) := by
    have := p'.map (fun i => (unpick xs src).getD i 0)
    exact this.trans (by rw [show (range (unpick xs src).length).map (fun i => (unpick xs src).getD i 0) = unpick xs src from pick_map_range _])
  rw [e] at q
  exact h.of_perm q.symm

/-! the six -/
def srcCut (m n : Nat) : List Nat := range' m (n - m) ++ range m
def srcTurn (n : Nat) : List Nat := (range n).reverse
theorem srcCut_perm {m n : Nat} (h : m ≤ n) : (srcCut m n).Perm (range n) := by
  unfold srcCut
  refine perm_append_comm.trans ?_
  have : range n = range m ++ range' m (n - m) := by
    rw [range_eq_range', range_eq_range', show n = m + (n - m) by omega, ← range'_append_1]
    simp
  rw [this]
theorem srcTurn_perm (n : Nat) : (srcTurn n).Perm (range n) := reverse_perm _

def cutL {α} (xs : List α) (m : Nat) : List α := xs.drop m ++ xs.take m
theorem getD_range' (xs : List Nat) (m k : Nat) (h : m + k ≤ xs.length) : (range' m k).map (fun i => xs.getD i 0) = (xs.drop m).take k := by
  apply ext_getElem?
  intro j
  by_cases hj : j < k
  · have : m + j < xs.length := by omega
    simp [hj, getD_eq_getElem?_getD, this]
  · rw [getElem?_eq_none (by simp; omega), getElem?_eq_none (by simp; omega)]
theorem pick_cut {xs : List Nat} {m : Nat} (h : m ≤ xs.length) : pick xs (srcCut m xs.length) = cutL xs m := by
  unfold pick srcCut cutL
  rw [map_append, getD_range' xs m _ (by omega), range_eq_range', getD_range' xs 0 m (by omega)]
  rw [drop_zero, take_of_length_le (by simp)]
theorem pick_turn (xs : List Nat) : pick xs (srcTurn xs.length) = xs.reverse := by
  unfold srcTurn
  have := pick_map_range xs
  unfold pick at *
  rw [map_reverse, this]

/-! under -/
def underGo {α} : List α → List α → List α
  | [], laid => laid
  | [x], laid => laid ++ [x]
  | x :: y :: r, laid => underGo (r ++ [y]) (laid ++ [x])
termination_by pack _ => pack.length
decreasing_by simp
def under {α} (xs : List α) : List α := (underGo xs []).reverse
theorem underGo_perm {α} (pack laid : List α) : (underGo pack laid).Perm (laid ++ pack) := by
  induction pack, laid using underGo.induct with
  | case1 laid => simp [underGo]
  | case2 x laid => simp [underGo]
  | case3 x y r laid ih =>
    rw [underGo]
    refine ih.trans ?_
    rw [append_assoc]
    refine (Perm.append_left _ ?_)
    simp only [cons_append, nil_append]
    exact (Perm.cons _ (perm_append_comm (l₁ := r) (l₂ := [y])))
theorem underGo_map {α β} (f : α → β) (pack laid : List α) : underGo (pack.map f) (laid.map f) = (underGo pack laid).map f := by
  induction pack, laid using underGo.induct with
  | case1 laid => simp [underGo]
  | case2 x laid => simp [underGo]
  | case3 x y r laid ih =>
    rw [underGo, ← ih]
    simp [underGo]
theorem under_map {α β} (f : α → β) (xs : List α) : under (xs.map f) = (under xs).map f := by
  unfold under
  have := underGo_map f xs []
  rw [map_nil] at this
  rw [this, map_reverse]
theorem under_perm {α} (xs : List α) : (under xs).Perm xs := (reverse_perm _).trans (by simpa using underGo_perm xs [])
theorem pick_under (xs : List Nat) : pick xs (under (range xs.length)) = under xs := by
  have := under_map (fun i => xs.getD i 0) (range xs.length)
  rw [show (range xs.length).map (fun i => xs.getD i 0) = xs from pick_map_range xs] at this
  exact this.symm

/-! riffle -/
def rif {α} : List Bool → List α → List α → List α
  | true :: w, x :: u, l => x :: rif w u l
  | false :: w, u, y :: l => y :: rif w u l
  | _, _, _ => []
/-- the sources by two counters -/
def ruf : List Bool → Nat → Nat → List Nat
  | [], _, _ => []
  | true :: w, i, j => i :: ruf w (i + 1) j
  | false :: w, i, j => j :: ruf w i (j + 1)
def cntA (w : List Bool) : Nat := w.count true
def cntB (w : List Bool) : Nat := w.count false
theorem cnt_len (w : List Bool) : cntA w + cntB w = w.length := by
  induction w with
  | nil => rfl
  | cons b w ih =>
    unfold cntA cntB at *
    cases b <;> simp <;> omega
theorem ruf_rif : ∀ (w : List Bool) (i j : Nat), ruf w i j = rif w (range' i (cntA w)) (range' j (cntB w))
  | [], _, _ => by simp [ruf, rif]
  | true :: w, i, j => by
    have := ruf_rif w (i + 1) j
    have e : cntA (true :: w) = cntA w + 1 := by simp [cntA]
    have e2 : cntB (true :: w) = cntB w := by simp [cntB]
    rw [ruf, this, e, e2, range'_succ, rif]
  | false :: w, i, j => by
    have := ruf_rif w i (j + 1)
    have e : cntA (false :: w) = cntA w := by simp [cntA]
    have e2 : cntB (false :: w) = cntB w + 1 := by simp [cntB]
    rw [ruf, this, e, e2, range'_succ]
    cases h : range' i (cntA w) <;> simp [rif]
theorem rif_map {α β} (f : α → β) : ∀ (w : List Bool) (u l : List α), rif w (u.map f) (l.map f) = (rif w u l).map f
  | [], u, l => by simp [rif]
  | true :: w, [], l => by simp [rif]
  | true :: w, x :: u, l => by simp [rif, rif_map f w u l]
  | false :: w, [], [] => by simp [rif]
  | false :: w, x :: u, [] => by simp [rif]
  | false :: w, [], y :: l => by
    have := rif_map f w [] l
    simp only [map_nil] at this
    simp [rif, this]
  | false :: w, x :: u, y :: l => by
    have := rif_map f w (x :: u) l
    simp only [map_cons] at this
    simp [rif, this]
theorem rif_perm {α} : ∀ (w : List Bool) (u l : List α), u.length = cntA w → l.length = cntB w → (rif w u l).Perm (u ++ l)
  | [], u, l, hu, hl => by
    simp [cntA, cntB] at hu hl
    simp [rif, hu, hl]
  | true :: w, [], l, hu, _ => by simp [cntA] at hu
  | true :: w, x :: u, l, hu, hl => by
    rw [rif]
    exact (rif_perm w u l (by simp [cntA] at hu ⊢; omega) (by simp [cntB] at hl ⊢; omega)).cons x
  | false :: w, u, [], _, hl => by simp [cntB] at hl
  | false :: w, u, y :: l, hu, hl => by
    have h := rif_perm w u l (by simp [cntA] at hu ⊢; omega) (by simp [cntB] at hl ⊢; omega)
    have e : rif (false :: w) u (y :: l) = y :: rif w u l := by cases u <;> simp [rif]
    rw [e]
    exact (h.cons y).trans perm_middle.symm
theorem rif_length {α} (w : List Bool) (u l : List α) (hu : u.length = cntA w) (hl : l.length = cntB w) : (rif w u l).length = w.length := by
  rw [(rif_perm w u l hu hl).length_eq, length_append, hu, hl, cnt_len]
def srcRif (w : List Bool) : List Nat := ruf w 0 (cntA w)
theorem range_split (a b : Nat) : range' 0 a ++ range' a b = range (a + b) := by
  rw [range_eq_range', ← range'_append_1]; simp
theorem srcRif_perm (w : List Bool) : (srcRif w).Perm (range w.length) := by
  unfold srcRif
  rw [ruf_rif]
  refine (rif_perm w _ _ (by simp) (by simp)).trans ?_
  rw [range_split, cnt_len]
/-- the law's riffle -/
def rifL {α} (xs : List α) (w : List Bool) : List α := rif w (xs.take (cntA w)) (xs.drop (cntA w))
theorem pick_rif {xs : List Nat} {w : List Bool} (h : w.length = xs.length) : pick xs (srcRif w) = rifL xs w := by
  unfold pick srcRif rifL
  have hc := cnt_len w
  rw [ruf_rif, ← rif_map, getD_range' xs 0 _ (by omega), getD_range' xs _ _ (by omega)]
  rw [drop_zero, take_of_length_le (l := drop _ xs) (by rw [length_drop]; omega)]

/-! deal -/
def stepsOf (j n p : Nat) : List Nat := (range n).filter fun i => i % p == j
theorem stepsOf_succ (j n p : Nat) : stepsOf j (n + 1) p = stepsOf j n p ++ if n % p = j then [n] else [] := by
  unfold stepsOf
  rw [range_succ, filter_append]
  by_cases h : n % p = j <;> simp [h]
theorem cnt_step {j n p : Nat} (hj : j < p) : (n + 1 - j + p - 1) / p = (n - j + p - 1) / p + if n % p = j then 1 else 0 := by
  have hp : 0 < p := by omega
  by_cases hnj : n < j
  · have e1 : n + 1 - j = 0 := by omega
    have e2 : n - j = 0 := by omega
    have e3 : n % p = n := Nat.mod_eq_of_lt (by omega)
    rw [e1, e2, e3, if_neg (by omega)]; simp
  · obtain ⟨d, rfl⟩ : ∃ d, n = j + d := ⟨n - j, by omega⟩
    have e1 : j + d + 1 - j + p - 1 = d + p := by omega
    have e2 : j + d - j + p - 1 = d + p - 1 := by omega
    rw [e1, e2, Nat.add_div_right _ hp]
    have hd := Nat.div_add_mod d p
    have hlt := Nat.mod_lt d hp
    by_cases hm : d % p = 0
    · have : (j + d) % p = j := by
        rw [Nat.add_mod, hm, Nat.add_zero, Nat.mod_mod, Nat.mod_eq_of_lt hj]
      rw [if_pos this]
      have : d + p - 1 = (p - 1) + p * (d / p) := by omega
      rw [this, Nat.add_mul_div_left _ _ hp, Nat.div_eq_of_lt (show p - 1 < p by omega)]; omega
    · have hne : (j + d) % p ≠ j := by
        intro h
        have h2 : (j + d) % p = (j + d % p) % p := by rw [Nat.add_mod, Nat.mod_eq_of_lt hj]
        rw [h2] at h
        by_cases hs : j + d % p < p
        · rw [Nat.mod_eq_of_lt hs] at h; omega
        · rw [Nat.mod_eq_sub_mod (by omega), Nat.mod_eq_of_lt (by omega)] at h; omega
      rw [if_neg hne]
      have : d + p - 1 = (d % p - 1) + p * (d / p + 1) := by rw [Nat.mul_add]; omega
      rw [this, Nat.add_mul_div_left _ _ hp, Nat.div_eq_of_lt (show d % p - 1 < p by omega)]; omega
theorem last_step {j n p : Nat} (hj : j < p) (h : n % p = j) : j + p * ((n - j + p - 1) / p) = n := by
  have hp : 0 < p := by omega
  have hd := Nat.div_add_mod n p
  have e : n - j = p * (n / p) := by omega
  have : n - j + p - 1 = (p - 1) + p * (n / p) := by omega
  rw [this, Nat.add_mul_div_left _ _ hp, Nat.div_eq_of_lt (show p - 1 < p by omega), Nat.zero_add]
  omega
/-- range(j, n, p) -/
def rng3 (j n p : Nat) : List Nat := range' j ((n - j + p - 1) / p) p
theorem rng3_steps {j p : Nat} (hj : j < p) : ∀ n, rng3 j n p = stepsOf j n p
  | 0 => by
    unfold rng3 stepsOf
    have : (0 - j + p - 1) / p = 0 := Nat.div_eq_of_lt (by omega)
    rw [this]; rfl
  | n + 1 => by
    have ih := rng3_steps hj n
    unfold rng3 at *
    rw [stepsOf_succ, ← ih, cnt_step hj]
    by_cases h : n % p = j
    · rw [if_pos h, if_pos h, range'_concat, last_step hj h]
    · rw [if_neg h, if_neg h]; simp
/-- the heaps behind k cards: heap j -/
def heapAt {α} [Inhabited α] (xs : List α) (p k j : Nat) : List α := ((stepsOf j k p).map fun i => xs.getD i default).reverse
def heaps {α} [Inhabited α] (xs : List α) (p k : Nat) : List (List α) := (range p).map (heapAt xs p k)
def srcDeal (p n : Nat) : List Nat := ((range p).reverse.map fun j => (rng3 j n p).reverse).flatten
theorem heaps_zero {α} [Inhabited α] (xs : List α) (p : Nat) : heaps xs p 0 = replicate p [] := by
  apply ext_getElem?
  intro j
  by_cases h : j < p <;> simp [heaps, heapAt, stepsOf, h]
theorem heaps_succ {α} [Inhabited α] (xs : List α) (p k : Nat) (hp : 0 < p) : heaps xs p (k + 1) = (heaps xs p k).set (k % p) (xs.getD k default :: (heaps xs p k).getD (k % p) []) := by
  apply ext_getElem?
  intro j
  have hk := Nat.mod_lt k hp
  by_cases h : j < p
  · by_cases e : k % p = j
    · subst e
      rw [getElem?_set_self (by simp [heaps]; exact hk)]
      simp [heaps, heapAt, hk, stepsOf_succ, getD_eq_getElem?_getD]
    · rw [getElem?_set_ne e]
      simp [heaps, heapAt, h, stepsOf_succ, e]
  · simp [heaps, h]
/-- the law's stacking -/
def stack {α} : List (List α) → List α → List α
  | [], m => m
  | h :: r, m => stack r (h ++ m)
theorem stack_eq {α} : ∀ (hs : List (List α)) (m : List α), stack hs m = hs.reverse.flatten ++ m
  | [], m => by simp [stack]
  | h :: r, m => by rw [stack, stack_eq r]; simp
def dealL {α} [Inhabited α] (xs : List α) (p : Nat) : List α := stack (heaps xs p xs.length) []
theorem pick_deal {xs : List Nat} {p : Nat} : pick xs (srcDeal p xs.length) = dealL xs p := by
  unfold pick srcDeal dealL
  rw [stack_eq, append_nil, map_flatten, map_map, heaps, ← map_reverse]
  congr 1
  apply map_congr_left
  intro j hj
  have hj' : j < p := by simpa using hj
  simp only [Function.comp, heapAt, rng3_steps hj', map_reverse]
  rfl
theorem filter_parts (p : Nat) (hp : 0 < p) : ∀ n, ((range p).map fun j => stepsOf j n p).flatten.Perm (range n) := by
  intro n
  rw [perm_iff_count]
  intro a
  rw [count_flatten, map_map]
  have h1 : ∀ j, ((fun l => count a l) ∘ fun j => stepsOf j n p) j = if a % p = j then (if a < n then 1 else 0) else 0 := by
    intro j
    simp only [Function.comp, stepsOf]
    by_cases hj : a % p = j
    · rw [if_pos hj, count_filter (by simpa using hj), count_range]
    · rw [if_neg hj]
      apply count_eq_zero.mpr
      simp [hj]
  rw [show ((range p).map ((fun l => count a l) ∘ fun j => stepsOf j n p)) = (range p).map (fun j => if a % p = j then (if a < n then 1 else 0) else 0) from map_congr_left (fun j _ => h1 j)]
  have h2 : ∀ (m v : Nat) (c : Nat), ((range m).map (fun j => if c = j then v else 0)).sum = if c < m then v else 0 := by
    intro m v c
    induction m with
    | zero => simp
    | succ m ih =>
      rw [range_succ, map_append, sum_append, ih]
      by_cases hc : c = m
      · subst hc; simp
      · by_cases hlt : c < m
        · simp [hlt, hc, show c < m + 1 by omega]
        · simp [hlt, hc, show ¬ c < m + 1 by omega]
  rw [h2, if_pos (Nat.mod_lt a hp), count_range]
theorem flatten_map_perm {α β} (f g : α → List β) : ∀ (l : List α), (∀ a ∈ l, (f a).Perm (g a)) → (l.map f).flatten.Perm (l.map g).flatten
  | [], _ => by simp
  | a :: l, h => by
    simp only [map_cons, flatten_cons]
    exact (h a mem_cons_self).append (flatten_map_perm f g l fun b hb => h b (mem_cons_of_mem _ hb))
theorem srcDeal_perm {p n : Nat} (hp : 0 < p) : (srcDeal p n).Perm (range n) := by
  refine Perm.trans ?_ (filter_parts p hp n)
  unfold srcDeal
  refine Perm.trans ?_ (Perm.flatten ((reverse_perm (range p)).map _))
  refine flatten_map_perm _ _ _ fun j hj => ?_
  have hj' : j < p := by simpa using hj
  rw [rng3_steps hj']
  exact reverse_perm _
end Rf

namespace Rf
open List
/-! rings -/
def it (g : Nat → Nat) : Nat → Nat → Nat
  | 0, s => s
  | k + 1, s => g (it g k s)
structure PermF (g : Nat → Nat) (n : Nat) : Prop where
  lt : ∀ x, x < n → g x < n
  inj : ∀ x y, x < n → y < n → g x = g y → x = y
theorem it_add (g : Nat → Nat) (a b s : Nat) : it g (a + b) s = it g a (it g b s) := by
  induction a with
  | zero => rw [Nat.zero_add]; rfl
  | succ a ih => rw [Nat.succ_add]; show g (it g (a + b) s) = g (it g a (it g b s)); rw [ih]
section
variable {g : Nat → Nat} {n : Nat} (P : PermF g n)
include P
theorem it_lt (k : Nat) {s : Nat} (hs : s < n) : it g k s < n := by
  induction k with
  | zero => exact hs
  | succ k ih => exact P.lt _ ih
theorem it_inj (k : Nat) {x y : Nat} (hx : x < n) (hy : y < n) (h : it g k x = it g k y) : x = y := by
  induction k with
  | zero => exact h
  | succ k ih => exact ih (P.inj _ _ (it_lt P k hx) (it_lt P k hy) h)
theorem it_back {i j s : Nat} (hij : i < j) (hs : s < n) (h : it g i s = it g j s) : it g (j - i) s = s := by
  have e : j = i + (j - i) := by omega
  rw [e, it_add] at h
  exact (it_inj P i hs (it_lt P _ hs) h).symm
theorem it_returns {s : Nat} (hs : s < n) : ∃ k, 1 ≤ k ∧ k ≤ n ∧ it g k s = s := by
  apply Classical.byContradiction
  intro hno
  have nd : ((range (n + 1)).map fun i => it g i s).Nodup := by
    unfold Nodup
    rw [pairwise_map]
    refine Pairwise.imp_of_mem ?_ (nodup_range (n := n + 1))
    intro a b ha hb hab e
    have ha' := mem_range.mp ha
    have hb' := mem_range.mp hb
    rcases Nat.lt_or_gt_of_ne hab with h | h
    · exact hno ⟨b - a, by omega, by omega, it_back P h hs e⟩
    · exact hno ⟨a - b, by omega, by omega, it_back P h hs e.symm⟩
  have hsub : ((range (n + 1)).map fun i => it g i s) ⊆ range n := by
    intro x hx
    obtain ⟨i, _, rfl⟩ := mem_map.mp hx
    exact mem_range.mpr (it_lt P i hs)
  have := nd.length_le_of_subset hsub
  rw [length_map, length_range, length_range] at this
  omega
end
def clenGo (g : Nat → Nat) (s : Nat) : Nat → Nat → Nat
  | 0, k => k
  | f + 1, k => if it g k s = s then k else clenGo g s f (k + 1)
def clen (g : Nat → Nat) (n s : Nat) : Nat := clenGo g s n 1
theorem clenGo_spec (g : Nat → Nat) (s : Nat) : ∀ (f k m : Nat), 1 ≤ k → k ≤ m → m ≤ k + f → it g m s = s → (∀ j, 1 ≤ j → j < k → it g j s ≠ s) →
    1 ≤ clenGo g s f k ∧ clenGo g s f k ≤ m ∧ it g (clenGo g s f k) s = s ∧ ∀ j, 1 ≤ j → j < clenGo g s f k → it g j s ≠ s
  | 0, k, m, h1, hk, hm, e, hj => by
    have : k = m := by omega
    subst this
    exact ⟨h1, Nat.le_refl _, e, hj⟩
  | f + 1, k, m, h1, hk, hm, e, hj => by
    unfold clenGo
    by_cases h : it g k s = s
    · rw [if_pos h]; exact ⟨h1, hk, h, hj⟩
    · rw [if_neg h]
      have hkm : k ≠ m := fun z => h (z ▸ e)
      exact clenGo_spec g s f (k + 1) m (by omega) (by omega) (by omega) e fun j a b => by
        by_cases hjk : j = k
        · rw [hjk]; exact h
        · exact hj j a (by omega)
section
variable {g : Nat → Nat} {n : Nat} (P : PermF g n)
include P
theorem clen_spec {s : Nat} (hs : s < n) : 1 ≤ clen g n s ∧ clen g n s ≤ n ∧ it g (clen g n s) s = s ∧ ∀ j, 1 ≤ j → j < clen g n s → it g j s ≠ s := by
  obtain ⟨k, h1, hk, e⟩ := it_returns P hs
  have := clenGo_spec g s n 1 k (Nat.le_refl _) h1 (by omega) e (fun j a b => by omega)
  exact ⟨this.1, Nat.le_trans this.2.1 hk, this.2.2⟩
end
def ring (g : Nat → Nat) (n s : Nat) : List Nat := (range (clen g n s)).map fun i => it g i s
theorem ring_length (g : Nat → Nat) (n s : Nat) : (ring g n s).length = clen g n s := by simp [ring]
section
variable {g : Nat → Nat} {n : Nat} (P : PermF g n)
include P
theorem it_mul {s : Nat} (hs : s < n) (m : Nat) : it g (m * clen g n s) s = s := by
  induction m with
  | zero => rw [Nat.zero_mul]; rfl
  | succ m ih => rw [Nat.succ_mul, it_add, (clen_spec P hs).2.2.1, ih]
theorem it_mod {s : Nat} (hs : s < n) (k : Nat) : it g (k % clen g n s) s = it g k s := by
  have e : k = k % clen g n s + (k / clen g n s) * clen g n s := by
    have := Nat.mod_add_div k (clen g n s)
    rw [Nat.mul_comm] at this
    omega
  conv => rhs; rw [e, it_add, it_mul P hs]
theorem mem_ring {s x : Nat} (hs : s < n) : x ∈ ring g n s ↔ ∃ j, x = it g j s := by
  constructor
  · intro h
    obtain ⟨i, _, rfl⟩ := mem_map.mp h
    exact ⟨i, rfl⟩
  · rintro ⟨j, rfl⟩
    rw [← it_mod P hs]
    exact mem_map.mpr ⟨_, mem_range.mpr (Nat.mod_lt _ (clen_spec P hs).1), rfl⟩
theorem ring_lt {s : Nat} (hs : s < n) : ∀ x ∈ ring g n s, x < n := fun x h => by
  obtain ⟨j, rfl⟩ := (mem_ring P hs).mp h
  exact it_lt P j hs
theorem ring_nodup {s : Nat} (hs : s < n) : (ring g n s).Nodup := by
  unfold ring Nodup
  rw [pairwise_map]
  refine Pairwise.imp_of_mem ?_ (nodup_range (n := clen g n s))
  intro a b ha hb hab e
  have ha' := mem_range.mp ha
  have hb' := mem_range.mp hb
  have sp := (clen_spec P hs).2.2.2
  rcases Nat.lt_or_gt_of_ne hab with h | h
  · exact sp (b - a) (by omega) (by omega) (it_back P h hs e)
  · exact sp (a - b) (by omega) (by omega) (it_back P h hs e.symm)
/-- two rings that meet are of the same places -/
theorem ring_meets {s u x : Nat} (hs : s < n) (hu : u < n) (h1 : x ∈ ring g n s) (h2 : x ∈ ring g n u) : u ∈ ring g n s := by
  obtain ⟨i, rfl⟩ := (mem_ring P hs).mp h1
  obtain ⟨j, e⟩ := (mem_ring P hu).mp h2
  -- from x go on round u's ring to u
  have hc := (clen_spec P hu).1
  refine (mem_ring P hs).mpr ⟨(j * clen g n u - j) + i, ?_⟩
  rw [it_add, e, ← it_add]
  have hj : j ≤ j * clen g n u := Nat.le_mul_of_pos_right j hc
  rw [show j * clen g n u - j + j = j * clen g n u by omega]
  exact (it_mul P hu j).symm
end
/-- the rings of the first i places -/
def ringsTo (g : Nat → Nat) (n : Nat) : Nat → List (List Nat)
  | 0 => []
  | i + 1 => if i ∈ (ringsTo g n i).flatten then ringsTo g n i else ringsTo g n i ++ [ring g n i]
section
variable {g : Nat → Nat} {n : Nat} (P : PermF g n)
include P
theorem ringsTo_all : ∀ i, i ≤ n → (∀ r ∈ ringsTo g n i, ∃ s, s < i ∧ r = ring g n s) ∧ (∀ s, s < i → s ∈ (ringsTo g n i).flatten) ∧ (ringsTo g n i).flatten.Nodup
  | 0, _ => by
    refine ⟨?_, ?_, ?_⟩
    · intro r h; simp [ringsTo] at h
    · intro s h; omega
    · simp [ringsTo]
  | i + 1, hi => by
    obtain ⟨h1, h2, h3⟩ := ringsTo_all i (by omega)
    unfold ringsTo
    by_cases hm : i ∈ (ringsTo g n i).flatten
    · rw [if_pos hm]
      refine ⟨fun r hr => ?_, fun s hs => ?_, h3⟩
      · obtain ⟨s, a, b⟩ := h1 r hr
        exact ⟨s, by omega, b⟩
      · by_cases e : s = i
        · rw [e]; exact hm
        · exact h2 s (by omega)
    · rw [if_neg hm]
      have hself : i ∈ ring g n i := (mem_ring P (by omega)).mpr ⟨0, rfl⟩
      refine ⟨fun r hr => ?_, fun s hs => ?_, ?_⟩
      · rcases mem_append.mp hr with hr | hr
        · obtain ⟨s, a, b⟩ := h1 r hr
          exact ⟨s, by omega, b⟩
        · exact ⟨i, by omega, by simpa using hr⟩
      · rw [flatten_append, mem_append]
        by_cases e : s = i
        · rw [e]; right; simpa using hself
        · left; exact h2 s (by omega)
      · rw [flatten_append]
        simp only [flatten_cons, flatten_nil, append_nil]
        rw [nodup_append]
        refine ⟨h3, ring_nodup P (by omega), fun a ha b hb e => ?_⟩
        subst e
        obtain ⟨r, hr, har⟩ := mem_flatten.mp ha
        obtain ⟨s, hs, rfl⟩ := h1 r hr
        exact hm (mem_flatten.mpr ⟨_, hr, ring_meets P (by omega) (by omega) har hb⟩)
end
def ringsOf (g : Nat → Nat) (n : Nat) : List (List Nat) := ringsTo g n n
section
variable {g : Nat → Nat} {n : Nat} (P : PermF g n)
include P
theorem rings_is : ∀ r ∈ ringsOf g n, ∃ s, s < n ∧ r = ring g n s := (ringsTo_all P n (Nat.le_refl _)).1
theorem rings_flat : (ringsOf g n).flatten.Perm (range n) := by
  obtain ⟨h1, h2, h3⟩ := ringsTo_all P n (Nat.le_refl _)
  show (ringsTo g n n).flatten.Perm (range n)
  rw [perm_ext_iff_of_nodup h3 nodup_range]
  intro a
  constructor
  · intro ha
    obtain ⟨r, hr, har⟩ := mem_flatten.mp ha
    obtain ⟨s, hs, rfl⟩ := h1 r hr
    exact mem_range.mpr (ring_lt P hs a har)
  · intro ha
    exact h2 a (mem_range.mp ha)
end
/-! done again and again -/
def iter {α} (f : α → α) : Nat → α → α
  | 0, x => x
  | k + 1, x => f (iter f k x)
/-- each card at p put at the place behind t turns -/
def putAll (g : Nat → Nat) (t : Nat) (xs : List Nat) : List Nat → List Nat → List Nat
  | [], b => b
  | p :: ps, b => putAll g t xs ps (b.set (it g t p) (xs.getD p 0))
theorem putAll_length (g : Nat → Nat) (t : Nat) (xs : List Nat) : ∀ ps b, (putAll g t xs ps b).length = b.length
  | [], _ => rfl
  | p :: ps, b => by rw [putAll, putAll_length g t xs ps]; simp
theorem putAll_append (g : Nat → Nat) (t : Nat) (xs : List Nat) : ∀ ps qs b, putAll g t xs (ps ++ qs) b = putAll g t xs qs (putAll g t xs ps b)
  | [], _, _ => rfl
  | p :: ps, qs, b => by rw [cons_append, putAll, putAll, putAll_append g t xs ps]
section
variable {g : Nat → Nat} {n : Nat} (P : PermF g n)
include P
theorem putAll_out (t : Nat) (xs : List Nat) : ∀ (ps b : List Nat) (p : Nat), p < n → (∀ q ∈ ps, q < n) → p ∉ ps → (putAll g t xs ps b)[it g t p]? = b[it g t p]?
  | [], _, _, _, _, _ => rfl
  | q :: ps, b, p, hp, hq, h => by
    rw [putAll, putAll_out t xs ps _ p hp (fun z hz => hq z (mem_cons_of_mem _ hz)) (fun z => h (mem_cons_of_mem _ z)), getElem?_set_ne]
    intro e
    exact h (by rw [it_inj P t (hq q mem_cons_self) hp e]; exact mem_cons_self)
theorem putAll_in (t : Nat) (xs : List Nat) : ∀ (ps b : List Nat) (p : Nat), ps.Nodup → (∀ q ∈ ps, q < n) → b.length = n → p ∈ ps → (putAll g t xs ps b)[it g t p]? = some (xs.getD p 0)
  | [], _, _, _, _, _, h => by simp at h
  | q :: ps, b, p, nd, hq, hb, h => by
    rw [putAll]
    have hqn := hq q mem_cons_self
    rcases mem_cons.mp h with e | h
    · subst e
      rw [putAll_out P t xs ps _ p hqn (fun z hz => hq z (mem_cons_of_mem _ hz)) (nodup_cons.mp nd).1, getElem?_set_self (by rw [hb]; exact it_lt P t hqn)]
    · exact putAll_in t xs ps _ p (nodup_cons.mp nd).2 (fun z hz => hq z (mem_cons_of_mem _ hz)) (by simpa using hb) h
theorem it_surj (t : Nat) {q : Nat} (hq : q < n) : ∃ p, p < n ∧ it g t p = q := by
  have nd : ((range n).map fun i => it g t i).Nodup := by
    unfold Nodup
    rw [pairwise_map]
    refine Pairwise.imp_of_mem ?_ (nodup_range (n := n))
    intro a b ha hb hab e
    exact hab (it_inj P t (mem_range.mp ha) (mem_range.mp hb) e)
  apply Classical.byContradiction
  intro hno
  have nd2 : (q :: (range n).map fun i => it g t i).Nodup := nodup_cons.mpr ⟨fun h => by
    obtain ⟨p, hp, e⟩ := mem_map.mp h
    exact hno ⟨p, mem_range.mp hp, e⟩, nd⟩
  have hsub : (q :: (range n).map fun i => it g t i) ⊆ range n := by
    intro x hx
    rcases mem_cons.mp hx with e | hx
    · rw [e]; exact mem_range.mpr hq
    · obtain ⟨i, hi, rfl⟩ := mem_map.mp hx
      exact mem_range.mpr (it_lt P t (mem_range.mp hi))
  have := nd2.length_le_of_subset hsub
  rw [length_cons, length_map, length_range] at this
  omega
end
/-- the move by its sources, and where each card goes -/
def goes (src : List Nat) (n : Nat) : List Nat := unGo (range n) src 0 src
def gOf (src : List Nat) (n : Nat) (x : Nat) : Nat := (goes src n).getD x 0
theorem goes_length (src : List Nat) (n : Nat) : (goes src n).length = src.length := unGo_length ..
theorem goes_at {src : List Nat} {n : Nat} (p : src.Perm (range n)) {k s : Nat} (h : src[k]? = some s) : (goes src n)[s]? = some k := by
  have hl := perm_len p
  have hk := (List.getElem?_eq_some_iff.mp h).1
  have := unGo_in (range n) src 0 src k s (perm_nodup p) (fun z hz => by rw [hl]; exact perm_lt p z hz) h
  rw [hl] at hk
  rw [goes, this, Nat.zero_add, getD_eq_getElem?_getD, getElem?_range hk]
  rfl
theorem gOf_at {src : List Nat} {n : Nat} (p : src.Perm (range n)) {k s : Nat} (h : src[k]? = some s) : gOf src n s = k := by
  unfold gOf
  rw [getD_eq_getElem?_getD, goes_at p h]
  rfl
theorem src_of {src : List Nat} {n : Nat} (p : src.Perm (range n)) {x : Nat} (hx : x < n) : ∃ k, k < n ∧ src[k]? = some x ∧ gOf src n x = k := by
  have hm : x ∈ src := p.mem_iff.mpr (mem_range.mpr hx)
  obtain ⟨k, hk, e⟩ := getElem_of_mem hm
  have h : src[k]? = some x := by simp [hk, e]
  exact ⟨k, by rw [perm_len p] at hk; exact hk, h, gOf_at p h⟩
theorem gOf_perm {src : List Nat} {n : Nat} (p : src.Perm (range n)) : PermF (gOf src n) n := by
  refine ⟨fun x hx => ?_, fun x y hx hy e => ?_⟩
  · obtain ⟨k, hk, _, e⟩ := src_of p hx
    rw [e]; exact hk
  · obtain ⟨k, hk, h1, e1⟩ := src_of p hx
    obtain ⟨j, hj, h2, e2⟩ := src_of p hy
    rw [e1, e2] at e
    subst e
    rw [h1] at h2
    exact Option.some.inj h2
/-- n cards moved t times -/
def movedN (src xs : List Nat) (t : Nat) : List Nat := iter (fun ys => pick ys src) t xs
theorem movedN_length {src xs : List Nat} {n : Nat} (p : src.Perm (range n)) (hx : xs.length = n) : ∀ t, (movedN src xs t).length = n
  | 0 => hx
  | t + 1 => by show (pick _ src).length = n; rw [pick_length, perm_len p]
theorem movedN_at {src xs : List Nat} {n : Nat} (p : src.Perm (range n)) (hx : xs.length = n) (t : Nat) {q : Nat} (hq : q < n) : (movedN src xs t)[it (gOf src n) t q]? = xs[q]? := by
  have P := gOf_perm p
  induction t with
  | zero => rfl
  | succ t ih =>
    show (pick (movedN src xs t) src)[gOf src n (it (gOf src n) t q)]? = _
    obtain ⟨k, hk, h, e⟩ := src_of p (it_lt P t hq)
    rw [e, pick, getElem?_map, h, Option.map_some, ← ih, getD_eq_getElem?_getD]
    have : it (gOf src n) t q < (movedN src xs t).length := by rw [movedN_length p hx]; exact it_lt P t hq
    simp [this]
/-- repeated, by the rings -/
def repOf (src xs : List Nat) (t : Nat) : List Nat := putAll (gOf src xs.length) t xs (ringsOf (gOf src xs.length) xs.length).flatten xs
theorem rep_moved {src xs : List Nat} (p : src.Perm (range xs.length)) (t : Nat) : repOf src xs t = movedN src xs t := by
  have P := gOf_perm p
  have hp := rings_flat P
  apply ext_getElem?
  intro j
  by_cases hj : j < xs.length
  · obtain ⟨q, hq, rfl⟩ := it_surj P t hj
    rw [movedN_at p rfl t hq, repOf, putAll_in P t xs _ _ q (hp.nodup_iff.mpr nodup_range) (fun z hz => mem_range.mp (hp.mem_iff.mp hz)) rfl (hp.mem_iff.mpr (mem_range.mpr hq))]
    simp [getD_eq_getElem?_getD, hq]
  · rw [getElem?_eq_none (by rw [repOf, putAll_length]; omega), getElem?_eq_none (by rw [movedN_length p rfl]; omega)]
/-! the period -/
def perOf (rs : List (List Nat)) : Nat := rs.foldl (fun t r => Nat.lcm t r.length) 1
theorem perOf_dvd_go : ∀ (rs : List (List Nat)) (t : Nat), t ∣ rs.foldl (fun t r => Nat.lcm t r.length) t ∧ ∀ r ∈ rs, r.length ∣ rs.foldl (fun t r => Nat.lcm t r.length) t
  | [], t => ⟨Nat.dvd_refl _, by simp⟩
  | r :: rs, t => by
    obtain ⟨h1, h2⟩ := perOf_dvd_go rs (Nat.lcm t r.length)
    refine ⟨Nat.dvd_trans (Nat.dvd_lcm_left _ _) h1, fun u hu => ?_⟩
    rcases mem_cons.mp hu with e | hu
    · rw [e]; exact Nat.dvd_trans (Nat.dvd_lcm_right _ _) h1
    · exact h2 u hu
theorem perOf_dvd (rs : List (List Nat)) : ∀ r ∈ rs, r.length ∣ perOf rs := (perOf_dvd_go rs 1).2
theorem it_per {g : Nat → Nat} {n : Nat} (P : PermF g n) (m : Nat) {q : Nat} (hq : q < n) : it g (m * perOf (ringsOf g n)) q = q := by
  have hm := (rings_flat P).mem_iff.mpr (mem_range.mpr hq)
  obtain ⟨r, hr, hqr⟩ := mem_flatten.mp hm
  obtain ⟨s, hs, rfl⟩ := rings_is P r hr
  obtain ⟨c, hc⟩ := perOf_dvd _ _ hr
  rw [ring_length] at hc
  obtain ⟨j, rfl⟩ := (mem_ring P hs).mp hqr
  rw [← it_add, Nat.add_comm, it_add, hc, ← Nat.mul_assoc, Nat.mul_comm m, Nat.mul_assoc, Nat.mul_comm, it_mul P hs]
theorem moved_per {src xs : List Nat} (p : src.Perm (range xs.length)) (t m : Nat) : movedN src xs (t + m * perOf (ringsOf (gOf src xs.length) xs.length)) = movedN src xs t := by
  have P := gOf_perm p
  apply ext_getElem?
  intro j
  by_cases hj : j < xs.length
  · obtain ⟨q, hq, rfl⟩ := it_surj P t hj
    rw [movedN_at p rfl t hq, ← movedN_at p rfl (t + m * perOf (ringsOf (gOf src xs.length) xs.length)) hq, it_add, it_per P m hq]
  · rw [getElem?_eq_none (by rw [movedN_length p rfl]; omega), getElem?_eq_none (by rw [movedN_length p rfl]; omega)]
end Rf

namespace Rf
open List
/-! the least number into which two go -/
theorem lcm_le_of {a b m : Nat} (ha : 0 < a) (hb : 0 < b) (hl : ∀ j, 1 ≤ j → j < m → ¬ b ∣ a * j) : a * m ≤ Nat.lcm a b := by
  obtain ⟨j, hj⟩ := Nat.dvd_lcm_left a b
  have hp : 0 < Nat.lcm a b := Nat.lcm_pos ha hb
  have hj1 : 1 ≤ j := by
    rcases Nat.eq_zero_or_pos j with z | z
    · rw [z, Nat.mul_zero] at hj; omega
    · exact z
  have hbj : b ∣ a * j := by rw [← hj]; exact Nat.dvd_lcm_right a b
  have : m ≤ j := Nat.le_of_not_lt fun h => hl j hj1 h hbj
  rw [hj]
  exact Nat.mul_le_mul_left a this
theorem lcm_of_least {a b m : Nat} (ha : 0 < a) (hb : 0 < b) (hm : 1 ≤ m) (hd : b ∣ a * m) (hl : ∀ j, 1 ≤ j → j < m → ¬ b ∣ a * j) : a * m = Nat.lcm a b :=
  Nat.le_antisymm (lcm_le_of ha hb hl) (Nat.le_of_dvd (Nat.mul_pos ha hm) (Nat.lcm_dvd (Nat.dvd_mul_right a m) hd))
theorem le_two_pow : ∀ l : Nat, 1 ≤ l → l ≤ 2 ^ (l - 1)
  | 1, _ => by decide
  | l + 2, _ => by
    have ih := le_two_pow (l + 1) (by omega)
    have e : 2 ^ (l + 2 - 1) = 2 ^ (l + 1 - 1) * 2 := by rw [show l + 2 - 1 = (l + 1 - 1) + 1 by omega, Nat.pow_succ]
    omega
theorem lcm_le_mul (a b : Nat) (ha : 0 < a) (hb : 0 < b) : Nat.lcm a b ≤ a * b :=
  Nat.le_of_dvd (Nat.mul_pos ha hb) (Nat.lcm_dvd (Nat.dvd_mul_right a b) (Nat.dvd_mul_left b a))
theorem per_le_go : ∀ (rs : List (List Nat)) (t e : Nat), 0 < t → t ≤ 2 ^ e → (∀ r ∈ rs, 1 ≤ r.length) → 0 < rs.foldl (fun t r => Nat.lcm t r.length) t ∧ rs.foldl (fun t r => Nat.lcm t r.length) t * 2 ^ rs.length ≤ 2 ^ (e + rs.flatten.length)
  | [], t, e, h0, ht, _ => ⟨h0, by simpa using ht⟩
  | r :: rs, t, e, h0, ht, hr => by
    have h1 := hr r mem_cons_self
    have hl := le_two_pow r.length h1
    have hp := Nat.lcm_pos h0 h1
    have hle : Nat.lcm t r.length ≤ 2 ^ (e + (r.length - 1)) := by
      rw [Nat.pow_add]
      exact Nat.le_trans (lcm_le_mul _ _ h0 h1) (Nat.mul_le_mul ht hl)
    obtain ⟨i1, i2⟩ := per_le_go rs (Nat.lcm t r.length) (e + (r.length - 1)) hp hle fun x hx => hr x (mem_cons_of_mem _ hx)
    refine ⟨i1, ?_⟩
    rw [foldl_cons, length_cons, Nat.pow_succ, ← Nat.mul_assoc, flatten_cons, length_append, show e + (r.length + rs.flatten.length) = (e + (r.length - 1) + rs.flatten.length) + 1 by omega, Nat.pow_succ]
    exact Nat.mul_le_mul_right 2 i2
theorem per_pos {rs : List (List Nat)} (h : ∀ r ∈ rs, 1 ≤ r.length) : 0 < perOf rs := (per_le_go rs 1 0 (by decide) (by decide) h).1
theorem per_le {rs : List (List Nat)} (h : ∀ r ∈ rs, 1 ≤ r.length) (h1 : 1 ≤ rs.length) (h60 : rs.flatten.length ≤ 60) : perOf rs ≤ 2 ^ 59 := by
  have := (per_le_go rs 1 0 (by decide) (by decide) h).2
  rw [Nat.zero_add] at this
  have h2 : (2 : Nat) ^ rs.flatten.length ≤ 2 ^ 60 := Nat.pow_le_pow_right (by decide) h60
  have h3 : (2 : Nat) ^ 1 ≤ 2 ^ rs.length := Nat.pow_le_pow_right (by decide) h1
  have h4 : perOf rs * 2 ^ 1 ≤ perOf rs * 2 ^ rs.length := Nat.mul_le_mul_left _ h3
  have h5 : perOf rs * 2 ^ 1 ≤ 2 ^ 60 := Nat.le_trans h4 (Nat.le_trans this h2)
  omega
theorem per_succ {rs : List (List Nat)} {i : Nat} {r : List Nat} (h : rs[i]? = some r) : perOf (rs.take (i + 1)) = Nat.lcm (perOf (rs.take i)) r.length := by
  rw [perOf, take_add_one, h]
  simp [perOf, foldl_append]
theorem per_take_le {rs : List (List Nat)} (h : ∀ r ∈ rs, 1 ≤ r.length) (i : Nat) : perOf (rs.take i) ≤ perOf rs := by
  refine Nat.le_of_dvd (per_pos h) ?_
  have e : perOf rs = (rs.drop i).foldl (fun t r => Nat.lcm t r.length) (perOf (rs.take i)) := by
    unfold perOf
    rw [← foldl_append, take_append_drop]
  rw [e]
  exact (perOf_dvd_go _ _).1
theorem per_take_pos {rs : List (List Nat)} (h : ∀ r ∈ rs, 1 ≤ r.length) (i : Nat) : 0 < perOf (rs.take i) := per_pos fun r hr => h r (mem_of_mem_take hr)
/-! the rings of n places -/
section
variable {g : Nat → Nat} {n : Nat} (P : PermF g n)
include P
theorem rings_len : ∀ r ∈ ringsOf g n, 1 ≤ r.length ∧ r.length ≤ n := fun r hr => by
  obtain ⟨s, hs, rfl⟩ := rings_is P r hr
  rw [ring_length]
  have := clen_spec P hs
  exact ⟨this.1, this.2.1⟩
theorem rings_sum : (ringsOf g n).flatten.length = n := by rw [(rings_flat P).length_eq, length_range]
theorem rings_some (h : 1 ≤ n) : 1 ≤ (ringsOf g n).length := by
  rcases Nat.eq_zero_or_pos (ringsOf g n).length with z | z
  · have e : ringsOf g n = [] := List.eq_nil_of_length_eq_zero z
    have := rings_sum P
    rw [e] at this
    simp at this
    omega
  · exact z
theorem ring_at {s k : Nat} (hs : s < n) (hk : k < clen g n s) : (ring g n s)[k]? = some (it g k s) := by simp [ring, hk]
theorem ring_turn {s k t : Nat} (hs : s < n) (hk : k < clen g n s) : (ring g n s)[(k + t) % (ring g n s).length]? = some (it g t (it g k s)) := by
  rw [ring_length, ring_at P hs (Nat.mod_lt _ (clen_spec P hs).1), it_mod P hs, Nat.add_comm, it_add]
theorem ringsTo_len (i : Nat) (hi : i ≤ n) : (ringsTo g n i).length ≤ i := by
  induction i with
  | zero => simp [ringsTo]
  | succ i ih =>
    unfold ringsTo
    split
    · exact Nat.le_succ_of_le (ih (by omega))
    · rw [length_append]; have := ih (by omega); simp; omega
theorem per_le60 (h : 1 ≤ n) (h60 : n ≤ 60) : perOf (ringsOf g n) ≤ 2 ^ 59 := per_le (fun r hr => (rings_len P r hr).1) (rings_some P h) (by rw [rings_sum P]; exact h60)
end
theorem pick_range {n : Nat} {src : List Nat} (h : ∀ x ∈ src, x < n) : pick (range n) src = src := by
  unfold pick
  have : ∀ x ∈ src, (range n).getD x 0 = id x := fun x hx => by
    rw [getD_eq_getElem?_getD, getElem?_range (h x hx)]
    rfl
  rw [map_congr_left this, map_id]
theorem movedN_zero (src xs : List Nat) : movedN src xs 0 = xs := rfl
theorem movedN_succ (src xs : List Nat) (t : Nat) : movedN src xs (t + 1) = pick (movedN src xs t) src := rfl
theorem moved_whole {src xs : List Nat} (p : src.Perm (range xs.length)) : movedN src xs (perOf (ringsOf (gOf src xs.length) xs.length)) = xs := by
  have := moved_per p 0 1
  rw [Nat.zero_add, Nat.one_mul] at this
  exact this
theorem moved_one {src xs : List Nat} (p : src.Perm (range xs.length)) : movedN src xs (perOf (ringsOf (gOf src xs.length) xs.length) + 1) = pick xs src := by
  rw [movedN_succ, moved_whole p]
end Rf

namespace Rf
open List
/-! rows -/
def addRow (L : List (List Nat)) (b : Bool) (c : Nat) : List (List Nat) := if b then L.dropLast ++ [L.getLastD [] ++ [c]] else L ++ [[c]]
def rowsTo (xs : List Nat) : Nat → List (List Nat)
  | 0 => [[0]]
  | k + 1 => addRow (rowsTo xs k) (decide (xs.idxOf k < xs.idxOf (k + 1))) (k + 1)
def rowsOf (xs : List Nat) : List (List Nat) := rowsTo xs (xs.length - 1)
theorem rowsTo_ne (xs : List Nat) : ∀ k, rowsTo xs k ≠ []
  | 0 => by simp [rowsTo]
  | k + 1 => by
    rw [rowsTo, addRow]
    split <;> simp
theorem addRow_len {L : List (List Nat)} (h : L ≠ []) (b : Bool) (c : Nat) : (addRow L b c).length = L.length + if b then 0 else 1 := by
  cases b
  · simp [addRow]
  · have := length_pos_iff.mpr h
    simp [addRow]
    omega
theorem rowsTo_len (xs : List Nat) (k : Nat) : (rowsTo xs (k + 1)).length = (rowsTo xs k).length + if xs.idxOf k < xs.idxOf (k + 1) then 0 else 1 := by
  rw [rowsTo, addRow_len (rowsTo_ne xs k)]
  by_cases h : xs.idxOf k < xs.idxOf (k + 1) <;> simp [h]
theorem dropLast_last {L : List (List Nat)} (h : L ≠ []) : L.dropLast ++ [L.getLastD []] = L := by
  rw [getLastD_eq_getLast?, getLast?_eq_some_getLast h]
  exact dropLast_concat_getLast h
theorem addRow_flat {L : List (List Nat)} (h : L ≠ []) (b : Bool) (c : Nat) : (addRow L b c).flatten = L.flatten ++ [c] := by
  cases b
  · simp [addRow]
  · conv => rhs; rw [← dropLast_last h]
    simp [addRow]
theorem rowsTo_flat (xs : List Nat) : ∀ k, (rowsTo xs k).flatten = range (k + 1)
  | 0 => by simp [rowsTo]
  | k + 1 => by rw [rowsTo, addRow_flat (rowsTo_ne xs k), rowsTo_flat xs k, ← range_succ]
theorem rowsTo_le (xs : List Nat) : ∀ k, (rowsTo xs k).length ≤ k + 1
  | 0 => by simp [rowsTo]
  | k + 1 => by
    rw [rowsTo_len]
    have := rowsTo_le xs k
    split <;> omega
theorem rowsTo_pos (xs : List Nat) (k : Nat) : 1 ≤ (rowsTo xs k).length := length_pos_iff.mpr (rowsTo_ne xs k)
theorem row_le (xs : List Nat) (k : Nat) : ∀ r ∈ rowsTo xs k, r.length ≤ k + 1 := fun r hr => by
  have h : r.length ≤ (rowsTo xs k).flatten.length := by
    have := (sublist_flatten_of_mem hr).length_le
    exact this
  rw [rowsTo_flat, length_range] at h
  exact h
/-! one ahead of the other -/
theorem idx_ne {a x : Nat} {r : List Nat} (h : a ≠ x) : (a :: r).idxOf x = r.idxOf x + 1 := by
  rw [idxOf_cons, (beq_eq_false_iff_ne.mpr h), cond_false]
theorem bef_iff {r : List Nat} (nd : r.Nodup) (x y : Nat) : [x, y].Sublist r ↔ r.idxOf x < r.idxOf y ∧ y ∈ r := by
  induction r with
  | nil => simp
  | cons a r ih =>
    have nd' := (nodup_cons.mp nd)
    by_cases hx : a = x
    · subst hx
      rw [cons_sublist_cons, singleton_sublist]
      have hself : (a :: r).idxOf a = 0 := by simp
      rw [hself]
      constructor
      · intro hy
        have hne : a ≠ y := fun e => nd'.1 (e ▸ hy)
        rw [idx_ne hne]
        exact ⟨by omega, mem_cons_of_mem _ hy⟩
      · rintro ⟨h1, h2⟩
        rcases mem_cons.mp h2 with e | h
        · subst e; rw [hself] at h1; omega
        · exact h
    · have hx' : x ≠ a := fun e => hx e.symm
      have : [x, y].Sublist (a :: r) ↔ [x, y].Sublist r := by
        constructor
        · intro h
          cases h with
          | cons _ h => exact h
          | cons_cons _ h => exact absurd rfl hx
        · intro h; exact h.cons a
      rw [this, ih nd'.2, idx_ne hx]
      by_cases hy : a = y
      · subst hy
        have : (a :: r).idxOf a = 0 := by simp
        rw [this]
        constructor
        · rintro ⟨_, h⟩; exact absurd h nd'.1
        · rintro ⟨h, _⟩; omega
      · rw [idx_ne hy]
        constructor
        · rintro ⟨h1, h2⟩; exact ⟨by omega, mem_cons_of_mem _ h2⟩
        · rintro ⟨h1, h2⟩
          rcases mem_cons.mp h2 with e | h
          · exact absurd e.symm hy
          · exact ⟨by omega, h⟩
theorem rif_sub {α} : ∀ (w : List Bool) (u l : List α), u.length = cntA w → l.length = cntB w → u.Sublist (rif w u l) ∧ l.Sublist (rif w u l)
  | [], u, l, hu, hl => by
    simp [cntA, cntB] at hu hl
    simp [hu, hl]
  | true :: w, [], l, hu, _ => by simp [cntA] at hu
  | true :: w, x :: u, l, hu, hl => by
    have h := rif_sub w u l (by simp [cntA] at hu ⊢; omega) (by simp [cntB] at hl ⊢; omega)
    rw [rif]
    exact ⟨h.1.cons_cons x, h.2.cons x⟩
  | false :: w, u, [], _, hl => by simp [cntB] at hl
  | false :: w, u, y :: l, hu, hl => by
    have h := rif_sub w u l (by simp [cntA] at hu ⊢; omega) (by simp [cntB] at hl ⊢; omega)
    have e : rif (false :: w) u (y :: l) = y :: rif w u l := by cases u <;> simp [rif]
    rw [e]
    exact ⟨h.1.cons y, h.2.cons_cons y⟩
theorem rifL_sub {xs : List Nat} {w : List Bool} (h : w.length = xs.length) : (xs.take (cntA w)).Sublist (rifL xs w) ∧ (xs.drop (cntA w)).Sublist (rifL xs w) := by
  have hc := cnt_len w
  exact rif_sub w _ _ (by rw [length_take]; omega) (by rw [length_drop]; omega)
theorem rifL_perm {xs : List Nat} {w : List Bool} (h : w.length = xs.length) : (rifL xs w).Perm xs := by
  have hc := cnt_len w
  have := rif_perm w (xs.take (cntA w)) (xs.drop (cntA w)) (by rw [length_take]; omega) (by rw [length_drop]; omega)
  rw [take_append_drop] at this
  exact this
theorem rifL_rows {xs : List Nat} {w : List Bool} (ho : IsOrd xs) (h : w.length = xs.length) : ∀ k, k < xs.length →
    (rowsTo (rifL xs w) k).length + 1 ≤ 2 * (rowsTo xs k).length + if k ∈ xs.drop (cntA w) then 1 else 0
  | 0, _ => by simp [rowsTo]
  | k + 1, hk => by
    have ih := rifL_rows ho h k (by omega)
    have nd := ho.nodup
    have P := rifL_perm h
    have nd' : (rifL xs w).Nodup := P.nodup_iff.mpr nd
    have mk : k ∈ xs := (ho.mem_iff.mpr (mem_range.mpr (by omega)))
    have mk1 : k + 1 ∈ xs := (ho.mem_iff.mpr (mem_range.mpr hk))
    obtain ⟨s1, s2⟩ := rifL_sub h
    rw [rowsTo_len, rowsTo_len]
    by_cases d : xs.idxOf k < xs.idxOf (k + 1)
    · rw [if_pos d]
      have sub : [k, k + 1].Sublist xs := (bef_iff nd _ _).mpr ⟨d, mk1⟩
      rw [← take_append_drop (cntA w) xs] at sub mk mk1
      have dj : ∀ z, z ∈ xs.take (cntA w) → z ∉ xs.drop (cntA w) := by
        rw [← take_append_drop (cntA w) xs] at nd
        intro z h1 h2
        exact (nodup_append.mp nd).2.2 z h1 z h2 rfl
      by_cases m1 : k ∈ xs.drop (cntA w)
      · rw [if_pos m1] at ih
        have sd : [k, k + 1].Sublist (xs.drop (cntA w)) := by
          rcases sublist_append_iff.mp sub with ⟨a, b, e, ha, hb⟩
          cases a with
          | nil => simp at e; rw [e]; exact hb
          | cons z a =>
            have : z = k := by simp at e; exact e.1.symm
            subst this
            exact absurd m1 (dj _ (ha.subset mem_cons_self))
        have m2 : k + 1 ∈ xs.drop (cntA w) := sd.subset (by simp)
        have := ((bef_iff nd' _ _).mp (sd.trans s2)).1
        rw [if_pos this, if_pos m2]
        omega
      · rw [if_neg m1] at ih
        by_cases m2 : k + 1 ∈ xs.drop (cntA w)
        · rw [if_pos m2]
          split <;> omega
        · have st : [k, k + 1].Sublist (xs.take (cntA w)) := by
            rcases sublist_append_iff.mp sub with ⟨a, b, e, ha, hb⟩
            cases b with
            | nil => simp at e; rw [e]; exact ha
            | cons z b =>
              exfalso
              have hin : k + 1 ∈ z :: b := by
                cases a with
                | nil => simp at e; rw [← e.2]; simp
                | cons y a =>
                  cases a with
                  | nil => simp at e; rw [← e.2.1]; simp
                  | cons y2 a => simp at e
              exact m2 (hb.subset hin)
          have := ((bef_iff nd' _ _).mp (st.trans s1)).1
          rw [if_pos this, if_neg m2]
          omega
    · rw [if_neg d]
      split <;> split <;> split at ih <;> omega
theorem rif_rows {xs : List Nat} {w : List Bool} (ho : IsOrd xs) (h : w.length = xs.length) (h1 : 1 ≤ xs.length) : (rowsOf (rifL xs w)).length ≤ 2 * (rowsOf xs).length := by
  have := rifL_rows ho h (xs.length - 1) (by omega)
  unfold rowsOf
  rw [(rifL_perm h).length_eq]
  split at this <;> omega
def wordsL : Nat → List (List Bool)
  | 0 => [[]]
  | k + 1 => (wordsL k).map (· ++ [true]) ++ (wordsL k).map (· ++ [false])
theorem wordsL_len : ∀ k, ∀ w ∈ wordsL k, w.length = k
  | 0, w, h => by simp [wordsL] at h; subst h; rfl
  | k + 1, w, h => by
    simp only [wordsL, mem_append, mem_map] at h
    rcases h with ⟨v, hv, rfl⟩ | ⟨v, hv, rfl⟩ <;> simp [wordsL_len k v hv]
theorem wordsL_mem : ∀ (k : Nat) (w : List Bool), w.length = k → w ∈ wordsL k
  | 0, w, h => by rw [length_eq_zero_iff.mp h]; simp [wordsL]
  | k + 1, w, h => by
    rcases eq_nil_or_concat w with e | ⟨v, b, e⟩
    · subst e; simp at h
    · rw [concat_eq_append] at e
      subst e
      have ih := wordsL_mem k v (by simpa using h)
      simp only [wordsL, mem_append, mem_map]
      cases b
      · right; exact ⟨v, ih, rfl⟩
      · left; exact ⟨v, ih, rfl⟩
theorem wordsL_count : ∀ k, (wordsL k).length = 2 ^ k
  | 0 => rfl
  | k + 1 => by rw [wordsL, length_append, length_map, length_map, wordsL_count k, Nat.pow_succ]; omega
end Rf

namespace Rf
open List
/-! two halves woven, pair by pair -/
def pairW (f : Nat) (xs : List Nat) (h i : Nat) : List Nat := if f = 0 then [xs.getD i 0, xs.getD (h + i) 0] else [xs.getD (h + i) 0, xs.getD i 0]
def wov (f : Nat) (xs : List Nat) (h k : Nat) : List Nat := (range k).flatMap (pairW f xs h)
theorem wov_succ (f : Nat) (xs : List Nat) (h k : Nat) : wov f xs h (k + 1) = wov f xs h k ++ pairW f xs h k := by simp [wov, range_succ]
theorem pairW_len (f : Nat) (xs : List Nat) (h i : Nat) : (pairW f xs h i).length = 2 := by unfold pairW; split <;> rfl
theorem wov_len (f : Nat) (xs : List Nat) (h : Nat) : ∀ k, (wov f xs h k).length = 2 * k
  | 0 => rfl
  | k + 1 => by rw [wov_succ, length_append, wov_len f xs h k, pairW_len]; omega
theorem wov_at {f : Nat} (xs : List Nat) (h : Nat) (hf : f ≤ 1) : ∀ k p, p < k → (wov f xs h k).getD (2 * p + f) 0 = xs.getD p 0
  | k + 1, p, hp => by
    rw [wov_succ]
    by_cases e : p = k
    · subst e
      rw [List.getD_eq_getElem?_getD, getElem?_append_right (by rw [wov_len]; omega), wov_len]
      have : 2 * p + f - 2 * p = f := by omega
      rw [this]
      unfold pairW
      match f, hf with
      | 0, _ => simp
      | 1, _ => simp
    · have := wov_at xs h hf k p (by omega)
      rw [List.getD_eq_getElem?_getD] at this ⊢
      rw [getElem?_append_left (by rw [wov_len]; omega)]
      exact this
theorem rif_pairs (f : Nat) : ∀ (k : Nat) (u l : List Nat), u.length = k → l.length = k → rif (replicate k (if f = 0 then [true, false] else [false, true])).flatten u l = (range k).flatMap fun i => if f = 0 then [u.getD i 0, l.getD i 0] else [l.getD i 0, u.getD i 0]
  | 0, u, l, _, _ => by simp [rif]
  | k + 1, [], l, h, _ => by simp at h
  | k + 1, x :: u, [], _, h => by simp at h
  | k + 1, x :: u, y :: l, h1, h2 => by
    have ih := rif_pairs f k u l (by simpa using h1) (by simpa using h2)
    rw [replicate_succ, flatten_cons, range_succ_eq_map, flatMap_cons, flatMap_map]
    by_cases hf : f = 0
    · simp only [hf, if_true] at ih ⊢
      show x :: y :: rif (replicate k [true, false]).flatten u l = _
      rw [ih]
      rfl
    · simp only [hf, if_false] at ih ⊢
      show y :: x :: rif (replicate k [false, true]).flatten u l = _
      rw [ih]
      rfl
theorem wov_rif {f h : Nat} {xs : List Nat} (hx : xs.length = 2 * h) : rifL xs (replicate h (if f = 0 then [true, false] else [false, true])).flatten = wov f xs h h := by
  have hc : cntA (replicate h (if f = 0 then [true, false] else [false, true])).flatten = h := by
    have : ∀ k, cntA (replicate k (if f = 0 then [true, false] else [false, true])).flatten = k := by
      intro k
      induction k with
      | zero => rfl
      | succ k ih =>
        rw [replicate_succ, flatten_cons]
        unfold cntA at ih ⊢
        rw [count_append, ih]
        split <;> simp <;> omega
    exact this h
  unfold rifL
  rw [hc, rif_pairs f h _ _ (by rw [length_take]; omega) (by rw [length_drop]; omega)]
  unfold wov
  rw [flatMap_def, flatMap_def]
  congr 1
  apply map_congr_left
  intro i hi
  have hi' := mem_range.mp hi
  unfold pairW
  have e1 : (xs.take h).getD i 0 = xs.getD i 0 := by simp [List.getD_eq_getElem?_getD, getElem?_take, hi']
  have e2 : (xs.drop h).getD i 0 = xs.getD (h + i) 0 := by simp [List.getD_eq_getElem?_getD]
  rw [e1, e2]
/-! a place's figures -/
def bitsOf (p : Nat) : List Nat := if h : p = 0 then [] else bitsOf (p / 2) ++ [p % 2]
termination_by p
decreasing_by omega
theorem bitsOf_pos {p : Nat} (h : 0 < p) : bitsOf p = bitsOf (p / 2) ++ [p % 2] := by
  rw [bitsOf, dif_neg (by omega)]
theorem bitsOf_zero : bitsOf 0 = [] := by rw [bitsOf, dif_pos rfl]
theorem bitsOf_le (p : Nat) : ∀ b ∈ bitsOf p, b ≤ 1 := by
  induction p using Nat.strongRecOn with
  | _ p ih =>
    by_cases h : 0 < p
    · rw [bitsOf_pos h]
      intro b hb
      rcases mem_append.mp hb with hb | hb
      · exact ih (p / 2) (by omega) b hb
      · have : b = p % 2 := by simpa using hb
        omega
    · have : p = 0 := by omega
      subst this
      rw [bitsOf_zero]
      simp
def valOf (bs : List Nat) : Nat := bs.foldl (fun v b => 2 * v + b) 0
theorem valOf_snoc (bs : List Nat) (b : Nat) : valOf (bs ++ [b]) = 2 * valOf bs + b := by simp [valOf]
theorem val_bits (p : Nat) : valOf (bitsOf p) = p := by
  induction p using Nat.strongRecOn with
  | _ p ih =>
    by_cases h : 0 < p
    · rw [bitsOf_pos h, valOf_snoc, ih (p / 2) (by omega)]; omega
    · have : p = 0 := by omega
      subst this
      rw [bitsOf_zero]; rfl
theorem bitsOf_len (p : Nat) : ∀ k, p < 2 ^ k → (bitsOf p).length ≤ k
  | 0, h => by
    have : p = 0 := by simpa using h
    subst this
    rw [bitsOf_zero]; simp
  | k + 1, h => by
    by_cases h0 : 0 < p
    · rw [bitsOf_pos h0, length_append]
      have := bitsOf_len (p / 2) k (by rw [Nat.pow_succ] at h; omega)
      simp
      omega
    · have : p = 0 := by omega
      subst this
      rw [bitsOf_zero]; simp
def nowAt (n : Nat) (bs : List Nat) : List Nat := bs.foldl (fun xs b => wov b xs (n / 2) (n / 2)) (range n)
theorem nowAt_snoc (n : Nat) (bs : List Nat) (b : Nat) : nowAt n (bs ++ [b]) = wov b (nowAt n bs) (n / 2) (n / 2) := by simp [nowAt]
theorem nowAt_len {n : Nat} (hn : n % 2 = 0) (bs : List Nat) : (nowAt n bs).length = n := by
  rcases eq_nil_or_concat bs with h | ⟨bs', b, h⟩
  · subst h; simp [nowAt]
  · rw [h, concat_eq_append, nowAt_snoc, wov_len]; omega
theorem val_le : ∀ (r l : List Nat), valOf l ≤ valOf (l ++ r)
  | [], l => by simp
  | b :: r, l => by
    have := val_le r (l ++ [b])
    rw [valOf_snoc] at this
    rw [show l ++ b :: r = l ++ [b] ++ r by simp]
    omega
theorem nowAt_top {n : Nat} (hn : n % 2 = 0) (h0 : 0 < n) (bs : List Nat) (hb : ∀ b ∈ bs, b ≤ 1) (hv : valOf bs < n) : (nowAt n bs).getD (valOf bs) 0 = 0 := by
  generalize hk : bs.length = k
  induction k generalizing bs with
  | zero =>
    have : bs = [] := length_eq_zero_iff.mp hk
    subst this
    show (range n).getD 0 0 = 0
    simp [List.getD_eq_getElem?_getD, h0]
  | succ k ih =>
    rcases eq_nil_or_concat bs with h | ⟨bs', b, h⟩
    · subst h; simp at hk
    · rw [concat_eq_append] at h
      subst h
      rw [valOf_snoc] at hv ⊢
      have hb1 : b ≤ 1 := hb b (by simp)
      rw [nowAt_snoc, wov_at _ _ hb1 (n / 2) _ (by omega)]
      exact ih bs' (fun c hc => hb c (by simp [hc])) (by omega) (by simpa using hk)
theorem nowAt_ord {n : Nat} (hn : n % 2 = 0) (bs : List Nat) : IsOrd (nowAt n bs) := by
  generalize hk : bs.length = k
  induction k generalizing bs with
  | zero =>
    have : bs = [] := length_eq_zero_iff.mp hk
    subst this
    exact isOrd_range n
  | succ k ih =>
    rcases eq_nil_or_concat bs with h | ⟨bs', b, h⟩
    · subst h; simp at hk
    · rw [concat_eq_append] at h
      subst h
      have := ih bs' (by simpa using hk)
      have hl := nowAt_len hn bs'
      rw [nowAt_snoc, ← wov_rif (h := n / 2) (by rw [hl]; omega)]
      refine this.of_perm (rifL_perm ?_)
      rw [hl]
      have : ∀ k, (replicate k (if b = 0 then [true, false] else [false, true])).flatten.length = 2 * k := by
        intro k
        induction k with
        | zero => rfl
        | succ k ih => rw [replicate_succ, flatten_cons, length_append, ih]; split <;> simp <;> omega
      rw [this]
      omega
end Rf

set_option Elab.async false
set_option linter.all false
set_option maxRecDepth 100000
namespace Rf
open PySem L2
def top (i : Nat) : Stmt := PySem.Challenge.pw_riffles_k07_brought.main.body.getD i (.Pass ⟨0, 0, 0, 0⟩)
abbrev s__wall : Stmt := top 0
abbrev s_is_number : Stmt := top 8
abbrev s_is_order : Stmt := top 9
abbrev s_check_order : Stmt := top 10
abbrev s_Move___init__ : Stmt := inClass (top 12) 0
abbrev s_Move_sources : Stmt := inClass (top 12) 1
abbrev s_Move_done : Stmt := inClass (top 12) 2
abbrev s_Move_undone : Stmt := inClass (top 12) 3
abbrev s_Cut___init__ : Stmt := inClass (top 13) 0
abbrev s_Cut_sources : Stmt := inClass (top 13) 1
abbrev s_Turn___init__ : Stmt := inClass (top 14) 0
abbrev s_Turn_sources : Stmt := inClass (top 14) 1
abbrev s_Deal___init__ : Stmt := inClass (top 15) 0
abbrev s_Deal_sources : Stmt := inClass (top 15) 1
abbrev s_Under___init__ : Stmt := inClass (top 16) 0
abbrev s_Under_sources : Stmt := inClass (top 16) 1
abbrev s_Weave___init__ : Stmt := inClass (top 17) 0
abbrev s_Weave_sources : Stmt := inClass (top 17) 1
abbrev s_Riffle___init__ : Stmt := inClass (top 18) 0
abbrev s_Riffle_sources : Stmt := inClass (top 18) 1
abbrev s_is_word : Stmt := top 19
abbrev s_riffle_sources : Stmt := top 20
abbrev s_check_move : Stmt := top 21
abbrev s_check_moves : Stmt := top 22
abbrev s_brought : Stmt := top 24
abbrev s_written : Stmt := top 26
abbrev s_move_written : Stmt := top 27
abbrev s__law_cell_at : Stmt := top 29
abbrev s__law_draw : Stmt := top 30
abbrev s__law_woven : Stmt := top 31
abbrev s_law : Stmt := top 32
theorem sc__wall : FnScope ["k"] ["k"] (defScope s__wall) := ⟨rfl, rfl, rfl, by decide +kernel, rfl, by decide +kernel, by decide +kernel⟩
theorem sc_is_number : FnScope ["value", "least", "most"] ["value", "least", "most"] (defScope s_is_number) := ⟨rfl, rfl, rfl, by decide +kernel, rfl, by decide +kernel, by decide +kernel⟩
theorem sc_is_order : FnScope ["value"] ["value"] (defScope s_is_order) := ⟨rfl, rfl, rfl, by decide +kernel, rfl, by decide +kernel, by decide +kernel⟩
theorem sc_check_order : FnScope ["value"] ["value"] (defScope s_check_order) := ⟨rfl, rfl, rfl, by decide +kernel, rfl, by decide +kernel, by decide +kernel⟩
theorem sc_Move___init__ : FnScope ["self"] ["self"] (defScope s_Move___init__) := ⟨rfl, rfl, rfl, by decide +kernel, rfl, by decide +kernel, by decide +kernel⟩
theorem sc_Move_sources : FnScope ["self", "cards"] ["self", "cards"] (defScope s_Move_sources) := ⟨rfl, rfl, rfl, by decide +kernel, rfl, by decide +kernel, by decide +kernel⟩
theorem sc_Move_done : FnScope ["self", "order"] ["self", "order"] (defScope s_Move_done) := ⟨rfl, rfl, rfl, by decide +kernel, rfl, by decide +kernel, by decide +kernel⟩
theorem sc_Move_undone : FnScope ["self", "order"] ["self", "order"] (defScope s_Move_undone) := ⟨rfl, rfl, rfl, by decide +kernel, rfl, by decide +kernel, by decide +kernel⟩
theorem sc_Cut___init__ : FnScope ["self", "many"] ["self", "many"] (defScope s_Cut___init__) := ⟨rfl, rfl, rfl, by decide +kernel, rfl, by decide +kernel, by decide +kernel⟩
theorem sc_Cut_sources : FnScope ["self", "cards"] ["self", "cards"] (defScope s_Cut_sources) := ⟨rfl, rfl, rfl, by decide +kernel, rfl, by decide +kernel, by decide +kernel⟩
theorem sc_Turn___init__ : FnScope ["self"] ["self"] (defScope s_Turn___init__) := ⟨rfl, rfl, rfl, by decide +kernel, rfl, by decide +kernel, by decide +kernel⟩
theorem sc_Turn_sources : FnScope ["self", "cards"] ["self", "cards"] (defScope s_Turn_sources) := ⟨rfl, rfl, rfl, by decide +kernel, rfl, by decide +kernel, by decide +kernel⟩
theorem sc_Deal___init__ : FnScope ["self", "piles"] ["self", "piles"] (defScope s_Deal___init__) := ⟨rfl, rfl, rfl, by decide +kernel, rfl, by decide +kernel, by decide +kernel⟩
theorem sc_Deal_sources : FnScope ["self", "cards", "places", "pile", "dealt"] ["self", "cards"] (defScope s_Deal_sources) := ⟨rfl, rfl, rfl, by decide +kernel, rfl, by decide +kernel, by decide +kernel⟩
theorem sc_Under___init__ : FnScope ["self"] ["self"] (defScope s_Under___init__) := ⟨rfl, rfl, rfl, by decide +kernel, rfl, by decide +kernel, by decide +kernel⟩
theorem sc_Under_sources : FnScope ["self", "cards", "pack", "laid"] ["self", "cards"] (defScope s_Under_sources) := ⟨rfl, rfl, rfl, by decide +kernel, rfl, by decide +kernel, by decide +kernel⟩
theorem sc_Weave___init__ : FnScope ["self", "first"] ["self", "first"] (defScope s_Weave___init__) := ⟨rfl, rfl, rfl, by decide +kernel, rfl, by decide +kernel, by decide +kernel⟩
theorem sc_Weave_sources : FnScope ["self", "cards", "turn"] ["self", "cards"] (defScope s_Weave_sources) := ⟨rfl, rfl, rfl, by decide +kernel, rfl, by decide +kernel, by decide +kernel⟩
theorem sc_Riffle___init__ : FnScope ["self", "word"] ["self", "word"] (defScope s_Riffle___init__) := ⟨rfl, rfl, rfl, by decide +kernel, rfl, by decide +kernel, by decide +kernel⟩
theorem sc_Riffle_sources : FnScope ["self", "cards"] ["self", "cards"] (defScope s_Riffle_sources) := ⟨rfl, rfl, rfl, by decide +kernel, rfl, by decide +kernel, by decide +kernel⟩
theorem sc_is_word : FnScope ["value"] ["value"] (defScope s_is_word) := ⟨rfl, rfl, rfl, by decide +kernel, rfl, by decide +kernel, by decide +kernel⟩
theorem sc_riffle_sources : FnScope ["word", "upper", "lower", "places", "sign"] ["word"] (defScope s_riffle_sources) := ⟨rfl, rfl, rfl, by decide +kernel, rfl, by decide +kernel, by decide +kernel⟩
theorem sc_check_move : FnScope ["value"] ["value"] (defScope s_check_move) := ⟨rfl, rfl, rfl, by decide +kernel, rfl, by decide +kernel, by decide +kernel⟩
theorem sc_check_moves : FnScope ["value", "move"] ["value"] (defScope s_check_moves) := ⟨rfl, rfl, rfl, by decide +kernel, rfl, by decide +kernel, by decide +kernel⟩
theorem sc_brought : FnScope ["cards", "place", "weaves", "left"] ["cards", "place"] (defScope s_brought) := ⟨rfl, rfl, rfl, by decide +kernel, rfl, by decide +kernel, by decide +kernel⟩
theorem sc_written : FnScope ["moves"] ["moves"] (defScope s_written) := ⟨rfl, rfl, rfl, by decide +kernel, rfl, by decide +kernel, by decide +kernel⟩
theorem sc_move_written : FnScope ["move"] ["move"] (defScope s_move_written) := ⟨rfl, rfl, rfl, by decide +kernel, rfl, by decide +kernel, by decide +kernel⟩
theorem sc__law_cell_at : FnScope ["_law_script", "_law_k"] ["_law_script", "_law_k"] (defScope s__law_cell_at) := ⟨rfl, rfl, rfl, by decide +kernel, rfl, by decide +kernel, by decide +kernel⟩
theorem sc__law_draw : FnScope ["_law_cell", "_law_k", "_law_many", "_law_primes"] ["_law_cell", "_law_k", "_law_many"] (defScope s__law_draw) := ⟨rfl, rfl, rfl, by decide +kernel, rfl, by decide +kernel, by decide +kernel⟩
theorem sc__law_woven : FnScope ["_law_order", "_law_first", "_law_half", "_law_made", "_law_k", "_law_pair"] ["_law_order", "_law_first"] (defScope s__law_woven) := ⟨rfl, rfl, rfl, by decide +kernel, rfl, by decide +kernel, by decide +kernel⟩
theorem sc_law : FnScope ["_law_script", "_law_cards", "_law_place", "_law_found", "_law_now", "_law_move", "_law_text"] ["_law_script"] (defScope s_law) := ⟨rfl, rfl, rfl, by decide +kernel, rfl, by decide +kernel, by decide +kernel⟩
/-! ### moves -/
abbrev nv (xs : List Nat) : List V := xs.map fun (n : Nat) => V.int (n : Int)
def wordOf (w : List Bool) : Str := ⟨(w.map fun b => if b then 97 else 98).toArray⟩
inductive Mv where
  | cut (m : Nat) | turn | deal (p : Nat) | under | weave (f : Nat) | riffle (w : List Bool)
def weaveWord (f n : Nat) : List Bool := (List.replicate (n / 2) (if f = 0 then [true, false] else [false, true])).flatten
namespace Mv
def ok : Mv → Prop
  | cut m => m ≤ 60
  | deal p => 1 ≤ p ∧ p ≤ 60
  | weave f => f ≤ 1
  | riffle w => 1 ≤ w.length ∧ w.length ≤ 60
  | _ => True
def fits : Mv → Nat → Prop
  | cut m, n => m ≤ n
  | weave _, n => n % 2 = 0
  | riffle w, n => w.length = n
  | _, _ => True
def src : Mv → Nat → List Nat
  | cut m, n => srcCut m n
  | turn, n => srcTurn n
  | deal p, n => srcDeal p n
  | under, n => Rf.under (List.range n)
  | weave f, n => srcRif (weaveWord f n)
  | riffle w, _ => srcRif w
end Mv
theorem weaveWord_length (f n : Nat) (h : n % 2 = 0) : (weaveWord f n).length = n := by
  unfold weaveWord
  have : ∀ (k : Nat) (l : List Bool), l.length = 2 → (List.replicate k l).flatten.length = 2 * k := by
    intro k l hl
    induction k with
    | zero => rfl
    | succ k ih => rw [List.replicate_succ, List.flatten_cons, List.length_append, ih, hl]; omega
  rw [this _ _ (by split <;> rfl)]
  omega
theorem Mv.src_perm {mv : Mv} {n : Nat} (o : mv.ok) (f : mv.fits n) : (mv.src n).Perm (List.range n) := by
  cases mv with
  | cut m => exact srcCut_perm f
  | turn => exact srcTurn_perm n
  | deal p => exact srcDeal_perm o.1
  | under => exact under_perm _
  | weave k =>
    have := srcRif_perm (weaveWord k n)
    rw [weaveWord_length k n f] at this
    exact this
  | riffle w =>
    have := srcRif_perm w
    rw [show w.length = n from f] at this
    exact this
structure Adr where
  (move cut turn deal under weave riffle ans mix flt : Addr)
def Mv.cls (t : Adr) : Mv → Addr
  | .cut _ => t.cut | .turn => t.turn | .deal _ => t.deal | .under => t.under | .weave _ => t.weave | .riffle _ => t.riffle
def Mv.flds : Mv → List (Str × V)
  | .cut m => [("many", .int (m : Int))] | .turn => [] | .deal p => [("piles", .int (p : Int))] | .under => [] | .weave f => [("first", .int (f : Int))] | .riffle w => [("word", .str (wordOf w))]
def IsMv (t : Adr) (H : Hp) (p : Addr) (mv : Mv) : Prop := ∃ dx, H p = some (.ins (mv.cls t) dx mv.flds)
/-- what the walk asks of the top -/
structure Txt (K : PySem.W.Frag) (mg : Str → Option Value) (t : Adr) : Prop where
  no_isinstance : mg "isinstance" = none
  no_bool : mg "bool" = none
  no_int : mg "int" = none
  no_list : mg "list" = none
  no_str : mg "str" = none
  no_len : mg "len" = none
  no_all : mg "all" = none
  no_any : mg "any" = none
  no_min : mg "min" = none
  no_max : mg "max" = none
  no_sum : mg "sum" = none
  no_range : mg "range" = none
  no_set : mg "set" = none
  no_reversed : mg "reversed" = none
  no_enumerate : mg "enumerate" = none
  mg_MOST_CARDS : ∃ k, mg "MOST_CARDS" = some (.int 60 k)
  mg_Move : mg "Move" = some (.ref t.move)
  cl : ∀ mv : Mv, Cls K (mv.cls t)
  na_many : NoAttr K t.cut "many"
  na_piles : NoAttr K t.deal "piles"
  na_first : NoAttr K t.weave "first"
  na_word : NoAttr K t.riffle "word"
  mg_Cut : mg "Cut" = some (.ref t.cut)
  mg_Turn : mg "Turn" = some (.ref t.turn)
  mg_Deal : mg "Deal" = some (.ref t.deal)
  mg_Under : mg "Under" = some (.ref t.under)
  mg_Weave : mg "Weave" = some (.ref t.weave)
  mg_Riffle : mg "Riffle" = some (.ref t.riffle)
/-! ### promises -/
/-- is_number of an int -/
def spNum : Sp := fun vs H Q _ => ∃ (i a b : Int), vs = [.int i, .int a, .int b] ∧ Q (.bl (decide (a ≤ i) && decide (i ≤ b))) H
def Good (xs : List Nat) : Prop := IsOrd xs ∧ 1 ≤ xs.length ∧ xs.length ≤ 60
def spIsOrder : Sp := fun vs H Q _ => ∃ (a : Addr) (xs : List Nat), vs = [.ref a] ∧ H a = some (.lst (nv xs)) ∧ Good xs ∧ Q (.bl true) H
def spCheckOrder : Sp := fun vs H Q _ => ∃ (a : Addr) (xs : List Nat), vs = [.ref a] ∧ H a = some (.lst (nv xs)) ∧ Good xs ∧ Q .non H
def spSrc (t : Adr) (mv : Mv) : Sp := fun vs H Q _ => ∃ (p : Addr) (n : Nat), vs = [.ref p, .int (n : Int)] ∧ IsMv t H p mv ∧ mv.ok ∧ mv.fits n ∧ 1 ≤ n ∧ n ≤ 60 ∧ ∀ l, H l = none → Q (.ref l) (upd H l (.lst (nv (mv.src n))))
def spDone (t : Adr) (mv : Mv) : Sp := fun vs H Q _ => ∃ (p a : Addr) (xs : List Nat), vs = [.ref p, .ref a] ∧ IsMv t H p mv ∧ mv.ok ∧ mv.fits xs.length ∧ H a = some (.lst (nv xs)) ∧ Good xs ∧ ∀ l, H l = none → Q (.ref l) (upd H l (.lst (nv (pick xs (mv.src xs.length)))))
def spUndone (t : Adr) (mv : Mv) : Sp := fun vs H Q _ => ∃ (p a : Addr) (xs : List Nat), vs = [.ref p, .ref a] ∧ IsMv t H p mv ∧ mv.ok ∧ mv.fits xs.length ∧ H a = some (.lst (nv xs)) ∧ Good xs ∧ ∀ l, H l = none → Q (.ref l) (upd H l (.lst (nv (unpick xs (mv.src xs.length)))))
/-- __init__ with one value -/
def spInit1 (t : Adr) (v : Mv → V) (is : Mv → Prop) : Sp := fun vs H Q _ => ∃ (p dx : Addr) (mv : Mv), is mv ∧ vs = [.ref p, v mv] ∧ mv.ok ∧ H p = some (.ins (mv.cls t) dx []) ∧ Q .non (upd H p (.ins (mv.cls t) dx mv.flds))
theorem nv_length (xs : List Nat) : (nv xs).length = xs.length := by simp [nv]
theorem nv_get {xs : List Nat} {i x : Nat} (h : xs[i]? = some x) : (nv xs)[i]? = some (.int (x : Int)) := by simp [nv, h]
theorem rngV_nv (i : Nat) : ∀ n, rngV (i : Int) 1 n = nv (List.range' i n) := by
  intro n
  apply List.ext_getElem?
  intro j
  by_cases h : j < n <;> simp [rngV, nv, h]
end Rf

set_option Elab.async false
set_option linter.all false
set_option maxRecDepth 100000
namespace Rf
open PySem L2
section
variable {P : Program} {w : World} {K : PySem.W.Frag} {mg : Str → Option Value} {base : Heap} {t : Adr}
theorem kit_int_bool : PySem.W.kitOne K (.type "int") (.type "bool") = some false := rfl
theorem kit_int_int : PySem.W.kitOne K (.type "int") (.type "int") = some true := rfl
theorem kit_list_list : PySem.W.kitOne K (.type "list") (.type "list") = some true := rfl
theorem kit_str_str : PySem.W.kitOne K (.type "str") (.type "str") = some true := rfl
theorem ok_is_number {f : Addr} {fd : FuncData} (F : Fun K "is_number" "is_number" s_is_number f fd) (T : Txt K mg t) : FnOk P w K mg base CX0 1 f fd ["value", "least", "most"] spNum := by
  refine F.okG sc_is_number (fun vs H Q E h => ?_) (fun cdv A outer s H vs Q E hr h => ?_)
  · obtain ⟨i, a, b, rfl, _⟩ := h
    rfl
  · obtain ⟨i, a, b, rfl, q⟩ := h
    refine ⟨_, (pss_cons (ps_if (PW.pt (pw_or (pt_val (pe_callB call_isi (by rfl) T.no_isinstance (show bootBuiltins "isinstance" = some (.builtin "isinstance") by decide +kernel) (pa_cons (pv 0) (pa_cons (pe_bltn (v := .ty "bool") rfl T.no_bool (show bootBuiltins "bool" = some (.type "bool") by decide +kernel) rfl) pa_nil)))) (pw_or1 (pt_not (pt_val (pe_callB call_isi (by rfl) T.no_isinstance (show bootBuiltins "isinstance" = some (.builtin "isinstance") by decide +kernel) (pa_cons (pv 0) (pa_cons (pe_bltn (v := .ty "int") rfl T.no_int (show bootBuiltins "int" = some (.type "int") by decide +kernel) rfl) pa_nil))))))))
 (pss_one (ps_ret pe_bl))
 pss_nil)
 (pss_one (ps_ret (pe_and (pe_cmpR op_ge (pv 0) (pv 1) (nomark _)) (pe_one (pe_cmpR op_le (pv 0) (pv 2) (nomark _))))))), ?_⟩
    refine ⟨_, rfl, _, _, _, _, rfl, .int i, .inl ⟨_, rfl⟩, kit_int_bool, _, rfl, ?_⟩
    refine iteF ?_
    refine ⟨_, rfl, _, _, _, _, rfl, .int i, .inl ⟨_, rfl⟩, kit_int_int, _, rfl, ?_⟩
    refine iteF ?_
    refine ⟨_, rfl, _, rfl, _, _, rfl, rfl, _, rfl, ?_⟩
    refine ite2 (fun c => ?_) fun c => ?_
    · refine ⟨_, rfl, _, rfl, _, _, rfl, rfl, ?_⟩
      refine end_same (Same.refl H) ?_
      rw [c, Bool.true_and] at q
      exact q
    · refine end_same (Same.refl H) ?_
      rw [Bool.not_eq_true] at c
      rw [c, Bool.false_and] at q
      exact q
theorem nodup_cast : ∀ {xs : List Nat}, xs.Nodup → (xs.map fun (n : Nat) => (n : Int)).Nodup
  | [], _ => List.nodup_nil
  | x :: xs, h => by
    rw [List.map_cons, List.nodup_cons]
    refine ⟨fun hm => ?_, nodup_cast (List.nodup_cons.mp h).2⟩
    obtain ⟨y, hy, e⟩ := List.mem_map.mp hm
    have e' : y = x := by omega
    exact (List.nodup_cons.mp h).1 (e' ▸ hy)
theorem all_true {bs : List Bool} (h : ∀ b ∈ bs, b = true) : bs.all id = true := by
  rw [List.all_eq_true]
  exact h
/-- a comprehension over a list whose elements leave the heap alone -/
theorem lc_list {K : PySem.W.Frag} {tl : TE} {js : List Nat} {te : TE} {σ : St} {H : Hp} {Q : VK} {a : Addr} {xs : List V} (f : Nat → V → V) (hl : tl σ H fun x H1 => x = .ref a ∧ H1 = H) (mono : ∀ R : VK, (tl σ H fun x H1 => x = .ref a ∧ H1 = H) → R (.ref a) H → tl σ H R)
    (hx : SqL K H a xs) (hz : xs.length ≤ 1000) (he : ∀ i x R, xs[i]? = some x → R (f i x) H → te (some x :: js.map fun j => σ.getD j none) H R) (q : ∀ D, H D = none → Q (.ref D) (upd H D (.lst (xs.mapIdx f)))) : tLC (iList K tl) js te σ H Q := by
  refine mono _ hl ⟨a, rfl, ⟨xs, hx⟩, fun i m acc H' => H' = H ∧ m = xs.length - i ∧ i ≤ xs.length ∧ acc = (xs.mapIdx f).take i, ⟨xs.length, rfl, rfl, Nat.zero_le _, by simp⟩, ?_⟩
  rintro i m acc H' ⟨rfl, rfl, hi, rfl⟩
  by_cases hlt : i < xs.length
  · refine .inr ⟨⟨xs, xs[i], hx, by simp [hlt]⟩, ?_, fun x H'' y => ?_⟩
    · have : (1000 : Nat) < sizeLine := by decide
      rw [List.length_take]
      omega
    · obtain ⟨e, y⟩ := y
      subst e
      have hxi := y xs hx
      refine he i x _ hxi ⟨xs.length - (i + 1), by omega, rfl, rfl, hlt, ?_⟩
      rw [List.take_add_one]
      simp [hxi]
  · have e : i = xs.length := by omega
    subst e
    refine .inl ⟨⟨xs, hx, Nat.le_refl _⟩, ?_⟩
    have e2 : (xs.mapIdx f).take xs.length = xs.mapIdx f := List.take_of_length_le (by simp)
    rw [e2]
    exact q
theorem ok_is_order {f : Addr} {fd : FuncData} (F : Fun K "is_order" "is_order" s_is_order f fd) (T : Txt K mg t) (f_is_number : Fn1 P w K mg base 1 "is_number" spNum) : FnOk P w K mg base CX0 2 f fd ["value"] spIsOrder := by
  refine F.okG sc_is_order (fun vs H Q E h => ?_) (fun cdv A outer s H vs Q E hr h => ?_)
  · obtain ⟨a, xs, rfl, _⟩ := h
    rfl
  · obtain ⟨a, xs, rfl, ha, ⟨ho, h1, h60⟩, q⟩ := h
    have hl : (nv xs).length = xs.length := nv_length xs
    refine ⟨_, (pss_cons (ps_if (PW.pt (pw_or (pt_not (pt_val (pe_callB call_isi (by rfl) T.no_isinstance (show bootBuiltins "isinstance" = some (.builtin "isinstance") by decide +kernel) (pa_cons (pv 0) (pa_cons (pe_bltn (v := .ty "list") rfl T.no_list (show bootBuiltins "list" = some (.type "list") by decide +kernel) rfl) pa_nil))))) (pw_or1 (pt_not (pt_val (pe_fn f_is_number hr (by rfl) (pa_cons (pe_callB call_len_seq (by rfl) T.no_len (show bootBuiltins "len" = some (.builtin "len") by decide +kernel) (pa_cons (pv 0) pa_nil)) (pa_cons pe_int (pa_cons (pe_globI rfl T.mg_MOST_CARDS) pa_nil)))))))))
 (pss_one (ps_ret pe_bl))
 pss_nil)
 (pss_cons (ps_if (pt_not (pt_val (pe_callB (call_all rfl) (by rfl) T.no_all (show bootBuiltins "all" = some (.builtin "all") by decide +kernel) (pa_cons (pe_lc (ys := ["value"]) (js := [0]) rfl (pi_list (pv 0)) rfl (by decide +kernel) (by decide +kernel) rfl rfl rfl (by decide +kernel) (fun _ _ _ _ => (pe_fn f_is_number hr (by rfl) (pa_cons (pv 0) (pa_cons pe_int (pa_cons (pe_op op_sub (pe_callB (call_len_seqK (K := K) rfl) (by rfl) T.no_len (show bootBuiltins "len" = some (.builtin "len") by decide +kernel) (pa_cons (pv 1) pa_nil)) pe_int) pa_nil)))))) pa_nil))))
 (pss_one (ps_ret pe_bl))
 pss_nil)
 (pss_one (ps_ret (pe_cmpR op_eq (pe_callB call_len_setO (by rfl) T.no_len (show bootBuiltins "len" = some (.builtin "len") by decide +kernel) (pa_cons (pe_callTy (call_set_ints rfl) (by rfl) T.no_set (show bootBuiltins "set" = some (.type "set") by decide +kernel) (pa_cons (pv 0) pa_nil)) pa_nil)) (pe_callB call_len_seq (by rfl) T.no_len (show bootBuiltins "len" = some (.builtin "len") by decide +kernel) (pa_cons (pv 0) pa_nil)) (nomark _)))))), ?_⟩
    refine ⟨_, rfl, _, _, _, _, rfl, .lst ha, .inl ⟨_, rfl⟩, kit_list_list, _, rfl, ?_⟩
    refine iteF ?_
    refine ⟨_, rfl, _, _, rfl, .inl (SqL.of ha), _, _, _, rfl, _, rfl, ?_⟩
    rw [hl, show (decide ((1 : Int) ≤ (xs.length : Int)) && decide ((xs.length : Int) ≤ 60)) = true by simp; omega]
    refine iteF ?_
    dsimp only [tNext, tSeq, tIfS, tNot, tB, tCB, tCons]
    refine lc_list (a := a) (xs := nv xs) (fun _ _ => .bl true) ⟨_, rfl, rfl, rfl⟩ (fun R h q => ⟨_, rfl, q⟩) (SqL.of ha) (by omega) (fun i x R hx hR => ?_) fun D hD => ?_
    · have hx' : ∃ n, xs[i]? = some n ∧ x = .int (n : Int) := by
        simp only [nv, List.getElem?_map] at hx
        cases e : xs[i]? with
        | none => rw [e] at hx; simp at hx
        | some n => rw [e] at hx; simp at hx; exact ⟨n, rfl, hx.symm⟩
      obtain ⟨n, hn, rfl⟩ := hx'
      refine ⟨_, rfl, _, rfl, _, _, rfl, .inl (SqL.of ha), _, _, rfl, rfl, _, _, _, rfl, ?_⟩
      have := ho.lt n (List.mem_of_getElem? hn)
      rw [hl, show (decide ((0 : Int) ≤ (n : Int)) && decide ((n : Int) ≤ (xs.length : Int) - 1)) = true by simp; omega]
      exact hR
    · have e : (nv xs).mapIdx (fun _ _ => V.bl true) = (List.replicate xs.length true).map V.bl := by
        apply List.ext_getElem?
        intro j
        by_cases hj : j < xs.length <;> simp [nv, hj]
      rw [e]
      refine ⟨_, _, rfl, SqL.of upd_same, _, rfl, ?_⟩
      rw [all_true (fun b hb => (List.mem_replicate.mp hb).2)]
      refine iteF ?_
      have nad : a ≠ D := ne_of_none ha hD
      have ha' : upd H D (.lst ((List.replicate xs.length true).map V.bl)) a = some (.lst (nv xs)) := by rw [upd_ne nad]; exact ha
      have ei : nv xs = (xs.map fun (n : Nat) => (n : Int)).map V.int := by simp [nv]
      refine ⟨_, rfl, _, (xs.map fun (n : Nat) => (n : Int)), rfl, SqL.of (by rw [← ei]; exact ha'), by simp; omega, fun l8 h8 => ?_⟩
      have nal : a ≠ l8 := ne_of_none ha' h8
      refine ⟨_, _, _, rfl, upd_same, _, rfl, _, _, rfl, .inl (SqL.of (by rw [upd_ne nal]; exact ha')), rfl, ?_⟩
      have hn : setN (xs.map fun (n : Nat) => (n : Int)) = xs.length := by
        rw [setN_nodup, List.length_map]
        exact nodup_cast ho.nodup
      rw [hn, hl, decide_eq_true rfl]
      exact end_same (((Same.refl H).new hD).new h8) q
theorem ok_check_order {f : Addr} {fd : FuncData} (F : Fun K "check_order" "check_order" s_check_order f fd) (T : Txt K mg t) (f_is_order : Fn1 P w K mg base 2 "is_order" spIsOrder) : FnOk P w K mg base CX0 3 f fd ["value"] spCheckOrder := by
  refine F.okG sc_check_order (fun vs H Q E h => ?_) (fun cdv A outer s H vs Q E hr h => ?_)
  · obtain ⟨a, xs, rfl, _⟩ := h
    rfl
  · obtain ⟨a, xs, rfl, ha, g, q⟩ := h
    refine ⟨_, (pss_one (ps_if (pt_not (pt_val (pe_fn f_is_order hr (by rfl) (pa_cons (pv 0) pa_nil))))
 pss_never
 pss_nil)), ?_⟩
    refine ⟨_, rfl, _, _, rfl, ha, g, _, rfl, ?_⟩
    refine iteF ?_
    exact end_same (Same.refl H) q
end
end Rf

set_option Elab.async false
set_option linter.all false
set_option maxRecDepth 100000
namespace Rf
open PySem L2
section
variable {P : Program} {w : World} {K : PySem.W.Frag} {mg : Str → Option Value} {base : Heap} {t : Adr}
/-! ### how moves are made -/
def isCut : Mv → Prop | .cut _ => True | _ => False
def vCut : Mv → V | .cut m => .int (m : Int) | _ => .non
theorem ok_Cut___init__ {f : Addr} {fd : FuncData} (F : Fun K "__init__" "Cut.__init__" s_Cut___init__ f fd) (T : Txt K mg t) (f_is_number : Fn1 P w K mg base 1 "is_number" spNum) : FnOk P w K mg base CX0 2 f fd ["self", "many"] (spInit1 t vCut isCut) := by
  refine F.okG sc_Cut___init__ (fun vs H Q E h => ?_) (fun cdv A outer s H vs Q E hr h => ?_)
  · obtain ⟨p, dx, mv, _, rfl, _⟩ := h
    rfl
  · obtain ⟨p, dx, mv, hi, rfl, ok, hp, q⟩ := h
    cases mv with
    | cut m =>
      have ok' : m ≤ 60 := ok
      refine ⟨_, (pss_cons (ps_if (pt_not (pt_val (pe_fn f_is_number hr (by rfl) (pa_cons (pv 1) (pa_cons pe_int (pa_cons (pe_globI rfl T.mg_MOST_CARDS) pa_nil))))))
 pss_never
 pss_nil)
 (pss_one (ps_fld (pv 0) (pv 1) rfl))), ?_⟩
      refine ⟨_, rfl, _, _, _, rfl, _, rfl, ?_⟩
      rw [show (decide ((0 : Int) ≤ (m : Int)) && decide ((m : Int) ≤ 60)) = true by simp; omega]
      refine iteF ?_
      refine ⟨_, rfl, _, rfl, _, _, _, _, rfl, hp, T.cl (.cut m), T.na_many, (by decide), ?_⟩
      exact ⟨_, fun _ c => Gc.refl c, q⟩
    | _ => exact False.elim hi
def isDeal : Mv → Prop | .deal _ => True | _ => False
def vDeal : Mv → V | .deal m => .int (m : Int) | _ => .non
theorem ok_Deal___init__ {f : Addr} {fd : FuncData} (F : Fun K "__init__" "Deal.__init__" s_Deal___init__ f fd) (T : Txt K mg t) (f_is_number : Fn1 P w K mg base 1 "is_number" spNum) : FnOk P w K mg base CX0 2 f fd ["self", "piles"] (spInit1 t vDeal isDeal) := by
  refine F.okG sc_Deal___init__ (fun vs H Q E h => ?_) (fun cdv A outer s H vs Q E hr h => ?_)
  · obtain ⟨p, dx, mv, _, rfl, _⟩ := h
    rfl
  · obtain ⟨p, dx, mv, hi, rfl, ok, hp, q⟩ := h
    cases mv with
    | deal m =>
      have ok' : 1 ≤ m ∧ m ≤ 60 := ok
      refine ⟨_, (pss_cons (ps_if (pt_not (pt_val (pe_fn f_is_number hr (by rfl) (pa_cons (pv 1) (pa_cons pe_int (pa_cons (pe_globI rfl T.mg_MOST_CARDS) pa_nil))))))
 pss_never
 pss_nil)
 (pss_one (ps_fld (pv 0) (pv 1) rfl))), ?_⟩
      refine ⟨_, rfl, _, _, _, rfl, _, rfl, ?_⟩
      rw [show (decide ((1 : Int) ≤ (m : Int)) && decide ((m : Int) ≤ 60)) = true by simp; omega]
      refine iteF ?_
      refine ⟨_, rfl, _, rfl, _, _, _, _, rfl, hp, T.cl (.deal m), T.na_piles, (by decide), ?_⟩
      exact ⟨_, fun _ c => Gc.refl c, q⟩
    | _ => exact False.elim hi
def isWeave : Mv → Prop | .weave _ => True | _ => False
def vWeave : Mv → V | .weave m => .int (m : Int) | _ => .non
theorem ok_Weave___init__ {f : Addr} {fd : FuncData} (F : Fun K "__init__" "Weave.__init__" s_Weave___init__ f fd) (T : Txt K mg t) (f_is_number : Fn1 P w K mg base 1 "is_number" spNum) : FnOk P w K mg base CX0 2 f fd ["self", "first"] (spInit1 t vWeave isWeave) := by
  refine F.okG sc_Weave___init__ (fun vs H Q E h => ?_) (fun cdv A outer s H vs Q E hr h => ?_)
  · obtain ⟨p, dx, mv, _, rfl, _⟩ := h
    rfl
  · obtain ⟨p, dx, mv, hi, rfl, ok, hp, q⟩ := h
    cases mv with
    | weave m =>
      have ok' : m ≤ 1 := ok
      refine ⟨_, (pss_cons (ps_if (pt_not (pt_val (pe_fn f_is_number hr (by rfl) (pa_cons (pv 1) (pa_cons pe_int (pa_cons pe_int pa_nil))))))
 pss_never
 pss_nil)
 (pss_one (ps_fld (pv 0) (pv 1) rfl))), ?_⟩
      refine ⟨_, rfl, _, _, _, rfl, _, rfl, ?_⟩
      rw [show (decide ((0 : Int) ≤ (m : Int)) && decide ((m : Int) ≤ 1)) = true by simp; omega]
      refine iteF ?_
      refine ⟨_, rfl, _, rfl, _, _, _, _, rfl, hp, T.cl (.weave m), T.na_first, (by decide), ?_⟩
      exact ⟨_, fun _ c => Gc.refl c, q⟩
    | _ => exact False.elim hi
/-! ### words -/
theorem word_size (w : List Bool) : (wordOf w).cps.size = w.length := by simp [wordOf]
theorem word_len (w : List Bool) : (wordOf w).length = w.length := word_size w
theorem word_a (w : List Bool) : (wordOf w).cps.toList.count 97 = cntA w := by
  unfold wordOf cntA
  induction w with
  | nil => rfl
  | cons b w ih => cases b <;> simp at ih ⊢ <;> omega
theorem word_b (w : List Bool) : (wordOf w).cps.toList.count 98 = cntB w := by
  unfold wordOf cntB
  induction w with
  | nil => rfl
  | cons b w ih => cases b <;> simp at ih ⊢ <;> omega
theorem str_a : Str.ofString "a" = ⟨#[97]⟩ := by rfl
theorem str_b : Str.ofString "b" = ⟨#[98]⟩ := by rfl
def spIsWord : Sp := fun vs H Q _ => ∃ (w : List Bool), vs = [.str (wordOf w)] ∧ 1 ≤ w.length ∧ w.length ≤ 60 ∧ Q (.bl true) H
theorem ok_is_word {f : Addr} {fd : FuncData} (F : Fun K "is_word" "is_word" s_is_word f fd) (T : Txt K mg t) (f_is_number : Fn1 P w K mg base 1 "is_number" spNum) : FnOk P w K mg base CX0 2 f fd ["value"] spIsWord := by
  refine F.okG sc_is_word (fun vs H Q E h => ?_) (fun cdv A outer s H vs Q E hr h => ?_)
  · obtain ⟨w, rfl, _⟩ := h
    rfl
  · obtain ⟨w, rfl, h1, h60, q⟩ := h
    have hz : (wordOf w).length ≤ sizeLine := by rw [word_len]; exact Nat.le_trans h60 (by decide)
    refine ⟨_, (pss_cons (ps_if (PW.pt (pw_or (pt_not (pt_val (pe_callB call_isi (by rfl) T.no_isinstance (show bootBuiltins "isinstance" = some (.builtin "isinstance") by decide +kernel) (pa_cons (pv 0) (pa_cons (pe_bltn (v := .ty "str") rfl T.no_str (show bootBuiltins "str" = some (.type "str") by decide +kernel) rfl) pa_nil))))) (pw_or1 (pt_not (pt_val (pe_fn f_is_number hr (by rfl) (pa_cons (pe_callB call_len_str (by rfl) T.no_len (show bootBuiltins "len" = some (.builtin "len") by decide +kernel) (pa_cons (pv 0) pa_nil)) (pa_cons pe_int (pa_cons (pe_globI rfl T.mg_MOST_CARDS) pa_nil)))))))))
 (pss_one (ps_ret pe_bl))
 pss_nil)
 (pss_one (ps_ret (pe_cmpR op_eq (pe_op op_add (pe_bm PySem.F.plainAttrs_str PySem.F.slot_str_count PySem.F.type_str_count mt_count (pv 0) (pa_cons pe_str pa_nil)) (pe_bm PySem.F.plainAttrs_str PySem.F.slot_str_count PySem.F.type_str_count mt_count (pv 0) (pa_cons pe_str pa_nil))) (pe_callB call_len_str (by rfl) T.no_len (show bootBuiltins "len" = some (.builtin "len") by decide +kernel) (pa_cons (pv 0) pa_nil)) (nomark _))))), ?_⟩
    refine ⟨_, rfl, _, _, _, _, rfl, .str _, .inl ⟨_, rfl⟩, kit_str_str, _, rfl, ?_⟩
    refine iteF ?_
    refine ⟨_, rfl, _, rfl, hz, _, _, _, rfl, _, rfl, ?_⟩
    rw [word_len, show (decide ((1 : Int) ≤ (w.length : Int)) && decide ((w.length : Int) ≤ 60)) = true by simp; omega]
    refine iteF ?_
    refine ⟨_, rfl, rfl, _, 97, rfl, rfl, _, rfl, rfl, _, 98, rfl, rfl, _, _, rfl, rfl, _, rfl, _, rfl, hz, rfl, ?_⟩
    rw [word_a, word_b, word_len]
    have : V.int ((cntA w : Int) + (cntB w : Int)) = V.int (w.length : Int) := by
      have := cnt_len w
      congr 1
      omega
    rw [decide_eq_true this]
    exact end_same (Same.refl H) q
def isRiffle : Mv → Prop | .riffle _ => True | _ => False
def vRiffle : Mv → V | .riffle w => .str (wordOf w) | _ => .non
theorem ok_Riffle___init__ {f : Addr} {fd : FuncData} (F : Fun K "__init__" "Riffle.__init__" s_Riffle___init__ f fd) (T : Txt K mg t) (f_is_word : Fn1 P w K mg base 2 "is_word" spIsWord) : FnOk P w K mg base CX0 3 f fd ["self", "word"] (spInit1 t vRiffle isRiffle) := by
  refine F.okG sc_Riffle___init__ (fun vs H Q E h => ?_) (fun cdv A outer s H vs Q E hr h => ?_)
  · obtain ⟨p, dx, mv, _, rfl, _⟩ := h
    rfl
  · obtain ⟨p, dx, mv, hi, rfl, ok, hp, q⟩ := h
    cases mv with
    | riffle m =>
      have ok' : 1 ≤ m.length ∧ m.length ≤ 60 := ok
      refine ⟨_, (pss_cons (ps_if (pt_not (pt_val (pe_fn f_is_word hr (by rfl) (pa_cons (pv 1) pa_nil))))
 pss_never
 pss_nil)
 (pss_one (ps_fld (pv 0) (pv 1) rfl))), ?_⟩
      refine ⟨_, rfl, _, rfl, ok'.1, ok'.2, _, rfl, ?_⟩
      refine iteF ?_
      refine ⟨_, rfl, _, rfl, _, _, _, _, rfl, hp, T.cl (.riffle m), T.na_word, (by decide), ?_⟩
      exact ⟨_, fun _ c => Gc.refl c, q⟩
    | _ => exact False.elim hi
def spInit0 (t : Adr) (mv : Mv) : Sp := fun vs H Q _ => ∃ (p dx : Addr), vs = [.ref p] ∧ H p = some (.ins (mv.cls t) dx []) ∧ Q .non H
theorem ok_Turn___init__ {f : Addr} {fd : FuncData} (F : Fun K "__init__" "Turn.__init__" s_Turn___init__ f fd) : FnOk P w K mg base CX0 1 f fd ["self"] (spInit0 t .turn) := by
  refine F.okG sc_Turn___init__ (fun vs H Q E h => ?_) (fun cdv A outer s H vs Q E hr h => ?_)
  · obtain ⟨p, dx, rfl, _⟩ := h
    rfl
  · obtain ⟨p, dx, rfl, hp, q⟩ := h
    refine ⟨_, (pss_one ps_pass), ?_⟩
    exact ⟨_, fun _ c => Gc.refl c, q⟩
theorem ok_Under___init__ {f : Addr} {fd : FuncData} (F : Fun K "__init__" "Under.__init__" s_Under___init__ f fd) : FnOk P w K mg base CX0 1 f fd ["self"] (spInit0 t .under) := by
  refine F.okG sc_Under___init__ (fun vs H Q E h => ?_) (fun cdv A outer s H vs Q E hr h => ?_)
  · obtain ⟨p, dx, rfl, _⟩ := h
    rfl
  · obtain ⟨p, dx, rfl, hp, q⟩ := h
    refine ⟨_, (pss_one ps_pass), ?_⟩
    exact ⟨_, fun _ c => Gc.refl c, q⟩
end
end Rf

set_option Elab.async false
set_option linter.all false
set_option maxRecDepth 100000
namespace Rf
open PySem L2
/-! ### lists of ints -/
theorem rngV_down (n : Nat) : rngV ((n : Int) - 1) (-1) n = nv (srcTurn n) := by
  apply List.ext_getElem?
  intro j
  by_cases h : j < n
  · simp [rngV, nv, srcTurn, h, List.getElem?_reverse]
    omega
  · simp [rngV, nv, srcTurn, h]
theorem rngV_step (i p n : Nat) : rngV (i : Int) (p : Int) n = nv (List.range' i n p) := by
  apply List.ext_getElem?
  intro j
  by_cases h : j < n
  · simp [rngV, nv, h, Int.mul_comm]
  · simp [rngV, nv, h]
theorem nv_append (xs ys : List Nat) : nv xs ++ nv ys = nv (xs ++ ys) := by simp [nv]
theorem nv_reverse (xs : List Nat) : (nv xs).reverse = nv xs.reverse := by simp [nv]
theorem seq0 (n : Nat) (h : 0 < n) : seqIndex? 0 n = some 0 := by
  have := (ixN_seq (n := n) (i := 0) (j := 0) (by unfold ixN; simp; omega)).1
  exact this
section
variable {P : Program} {w : World} {K : PySem.W.Frag} {mg : Str → Option Value} {base : Heap} {t : Adr}
theorem ok_Cut_sources {f : Addr} {fd : FuncData} (F : Fun K "sources" "Cut.sources" s_Cut_sources f fd) {m : Nat} (T : Txt K mg t) : FnOk P w K mg base CX0 2 f fd ["self", "cards"] (spSrc t (.cut m)) := by
  refine F.okG sc_Cut_sources (fun vs H Q E h => ?_) (fun cdv A outer s H vs Q E hr h => ?_)
  · obtain ⟨p, n, rfl, _⟩ := h
    rfl
  · obtain ⟨p, n, rfl, ⟨dx, hp⟩, ok, fit, h1, h60, q⟩ := h
    have ok' : m ≤ 60 := ok
    have fit' : m ≤ n := fit
    refine ⟨_, (pss_cons (ps_if (pt_cmpR op_gt (pe_fld (pv 0) rfl) (pv 1) (nomark _))
 pss_never
 pss_nil)
 (pss_one (ps_ret (pe_op op_cat (pe_callTy (call_list_rng rfl) (by rfl) T.no_list (show bootBuiltins "list" = some (.type "list") by decide +kernel) (pa_cons (pe_callTy call_rng2 (by rfl) T.no_range (show bootBuiltins "range" = some (.type "range") by decide +kernel) (pa_cons (pe_fld (pv 0) rfl) (pa_cons (pv 1) pa_nil))) pa_nil)) (pe_callTy (call_list_rng rfl) (by rfl) T.no_list (show bootBuiltins "list" = some (.type "list") by decide +kernel) (pa_cons (pe_callTy call_rng1 (by rfl) T.no_range (show bootBuiltins "range" = some (.type "range") by decide +kernel) (pa_cons (pe_fld (pv 0) rfl) pa_nil)) pa_nil)))))), ?_⟩
    refine ⟨_, rfl, _, _, _, _, _, rfl, hp, T.cl (.cut m), T.na_many, rfl, _, rfl, _, _, rfl, rfl, _, rfl, ?_⟩
    rw [show decide ((n : Int) < (m : Int)) = false by simp; omega]
    refine iteF ?_
    refine ⟨_, rfl, _, _, _, _, _, rfl, hp, T.cl (.cut m), T.na_many, rfl, _, rfl, _, _, rfl, fun r1 hr1 => ?_⟩
    refine ⟨_, _, _, _, _, rfl, upd_same, rng_small ⟨by omega, by omega⟩ ⟨by omega, by omega⟩ (by decide) (by decide), rng_up, by omega, fun l1 hl1 => ?_⟩
    have e1 := ((Same.refl H).new (o := rngO r1 m n 1) hr1).new (o := .lst (rngV m 1 ((n : Int) - m).toNat)) hl1
    refine ⟨_, rfl, _, _, _, _, _, rfl, e1 _ _ hp, T.cl (.cut m), T.na_many, rfl, _, rfl, fun r2 hr2 => ?_⟩
    refine ⟨_, _, _, _, _, rfl, upd_same, rng_small ⟨by omega, by omega⟩ ⟨by omega, by omega⟩ (by decide) (by decide), rng_up, by omega, fun l2 hl2 => ?_⟩
    have e2 := (Same.new (Same.refl _) (o := rngO r2 0 m 1) hr2).new (o := .lst (rngV 0 1 ((m : Int) - 0).toNat)) hl2
    refine ⟨_, _, _, _, rfl, rfl, e2 _ _ upd_same, upd_same, ?_, fun l3 hl3 => ?_⟩
    · rw [rngV_length, rngV_length]
      have : (1000 : Nat) < sizeLine := by decide
      omega
    · refine end_lst ((e1.trans e2).new hl3) ((e1.trans e2).free hl3) upd_same ?_
      have e : rngV (m : Int) 1 ((n : Int) - m).toNat ++ rngV 0 1 ((m : Int) - 0).toNat = nv (srcCut m n) := by
        rw [show ((n : Int) - m).toNat = n - m by omega, show ((m : Int) - 0).toNat = m by omega, rngV_nv, show (0 : Int) = ((0 : Nat) : Int) from rfl, rngV_nv, nv_append, srcCut, List.range_eq_range']
      rw [e]
      exact q
theorem ok_Turn_sources {f : Addr} {fd : FuncData} (F : Fun K "sources" "Turn.sources" s_Turn_sources f fd) (T : Txt K mg t) : FnOk P w K mg base CX0 2 f fd ["self", "cards"] (spSrc t .turn) := by
  refine F.okG sc_Turn_sources (fun vs H Q E h => ?_) (fun cdv A outer s H vs Q E hr h => ?_)
  · obtain ⟨p, n, rfl, _⟩ := h
    rfl
  · obtain ⟨p, n, rfl, ⟨dx, hp⟩, ok, fit, h1, h60, q⟩ := h
    refine ⟨_, (pss_one (ps_ret (pe_callTy (call_list_rng rfl) (by rfl) T.no_list (show bootBuiltins "list" = some (.type "list") by decide +kernel) (pa_cons (pe_callTy call_rng3 (by rfl) T.no_range (show bootBuiltins "range" = some (.type "range") by decide +kernel) (pa_cons (pe_op op_sub (pv 1) pe_int) (pa_cons (pe_neg) (pa_cons (pe_neg) pa_nil)))) pa_nil)))), ?_⟩
    refine ⟨_, rfl, _, _, rfl, rfl, _, _, _, rfl, by decide, by decide, fun r1 hr1 => ?_⟩
    refine ⟨_, _, _, _, _, rfl, upd_same, rng_small ⟨by omega, by omega⟩ (by decide) (by decide) (by decide), rng_down, by omega, fun l1 hl1 => ?_⟩
    have e1 := (Same.refl H).new (o := rngO r1 ((n : Int) - 1) (-1) (-1)) hr1
    refine end_lst (e1.new hl1) (e1.free hl1) upd_same ?_
    rw [rngV_down]
    exact q
/-- the piles from the right, i of them -/
def dealAcc (p n i : Nat) : List Nat := (((List.range p).reverse.take i).map fun j => (rng3 j n p).reverse).flatten
theorem dealAcc_succ (p n i : Nat) (h : i < p) : dealAcc p n (i + 1) = dealAcc p n i ++ (rng3 (p - 1 - i) n p).reverse := by
  unfold dealAcc
  rw [List.take_add_one, List.map_append, List.flatten_append]
  congr 1
  have : (List.range p).reverse[i]? = some (p - 1 - i) := by
    rw [List.getElem?_reverse (by simpa using h), List.length_range, List.getElem?_range (by omega)]
  rw [this]
  simp
theorem dealAcc_all (p n : Nat) : dealAcc p n p = srcDeal p n := by
  unfold dealAcc srcDeal
  rw [List.take_of_length_le (by simp)]
theorem dealAcc_le (p n i : Nat) (hp : 0 < p) : (dealAcc p n i).length ≤ n := by
  have h1 := (srcDeal_perm (p := p) (n := n) hp).length_eq
  rw [List.length_range] at h1
  have h2 : srcDeal p n = dealAcc p n i ++ (((List.range p).reverse.drop i).map fun j => (rng3 j n p).reverse).flatten := by
    unfold srcDeal dealAcc
    rw [← List.flatten_append, ← List.map_append, List.take_append_drop]
  rw [h2, List.length_append] at h1
  omega
theorem ok_Deal_sources {f : Addr} {fd : FuncData} (F : Fun K "sources" "Deal.sources" s_Deal_sources f fd) {m : Nat} (T : Txt K mg t) : FnOk P w K mg base CX0 2 f fd ["self", "cards"] (spSrc t (.deal m)) := by
  refine F.okG sc_Deal_sources (fun vs H Q E h => ?_) (fun cdv A outer s H vs Q E hr h => ?_)
  · obtain ⟨p, n, rfl, _⟩ := h
    rfl
  · obtain ⟨p, n, rfl, ⟨dx, hp⟩, ok, fit, h1, h60, q⟩ := h
    have ok' : 1 ≤ m ∧ m ≤ 60 := ok
    have nd := sc_Deal_sources.nd
    have big : (1000 : Nat) < sizeLine := by decide
    refine ⟨_, (pss_cons (ps_set (i := 2) nd rfl (Or.inl rfl) (pe_lst pa_nil))
 (pss_cons (ps_for PassesOwn.never rfl (pi_rng (pe_callTy call_rng3 (by rfl) T.no_range (show bootBuiltins "range" = some (.type "range") by decide +kernel) (pa_cons (pe_op op_sub (pe_fld (pv 0) rfl) pe_int) (pa_cons (pe_neg) (pa_cons (pe_neg) pa_nil))))) (pg_name (i := 3) nd rfl (Or.inl rfl))
 (pss_cons (ps_set (i := 4) nd rfl (Or.inl rfl) (pe_callTy (call_list_rng rfl) (by rfl) T.no_list (show bootBuiltins "list" = some (.type "list") by decide +kernel) (pa_cons (pe_callTy call_rng3 (by rfl) T.no_range (show bootBuiltins "range" = some (.type "range") by decide +kernel) (pa_cons (pv 3) (pa_cons (pv 1) (pa_cons (pe_fld (pv 0) rfl) pa_nil)))) pa_nil)))
 (pss_one (ps_expr (pe_bm PySem.F.plainAttrs_list PySem.F.slot_list_extend PySem.F.type_list_extend mt_extend (pv 2) (pa_cons (pe_lrev rfl (by rfl) T.no_list (by rfl) T.no_reversed (pa_cons (pv 4) pa_nil)) pa_nil))))))
 (pss_one (ps_ret (pv 2))))), ?_⟩
    refine ⟨(by decide), fun l1 hl1 => ?_⟩
    have e0 := (Same.refl H).new (o := .lst []) hl1
    refine ⟨_, rfl, _, _, _, _, _, rfl, e0 _ _ hp, T.cl (.deal m), T.na_piles, rfl, _, _, rfl, rfl, _, _, _, rfl, by decide, by decide, fun r1 hr1 => ?_⟩
    refine ⟨_, _, _, _, _, rfl, upd_same, rng_small ⟨by omega, by omega⟩ (by decide) (by decide) (by decide), rng_down, ?_⟩
    refine for_range3 (fun i σ H' => ∃ a b, σ = [some (.ref p), some (.int (n : Int)), some (.ref l1), a, b] ∧ Same H H' ∧ H' l1 = some (.lst (nv (dealAcc m n i)))) ⟨_, _, rfl, e0.new hr1, (by rw [upd_ne (ne_of_none upd_same hr1), upd_same]; rfl)⟩ ?_ ?_
    · rintro i σ H' hi ⟨a, b, rfl, se, hl⟩
      have ej : (m : Int) - 1 + (i : Int) * -1 = ((m - 1 - i : Nat) : Int) := by omega
      rw [ej]
      refine ⟨_, rfl, _, rfl, _, rfl, _, _, _, _, _, rfl, se _ _ hp, T.cl (.deal m), T.na_piles, rfl, _, _, _, rfl, by omega, by omega, fun r2 hr2 => ?_⟩
      refine ⟨_, _, _, _, _, rfl, upd_same, rng_small ⟨by omega, by omega⟩ ⟨by omega, by omega⟩ (by omega) ⟨by omega, by omega⟩, rng_step (by omega), ?_, fun l2 hl2 => ?_⟩
      · have : (n - (m - 1 - i) + m - 1) / m ≤ n - (m - 1 - i) + m - 1 := Nat.div_le_self _ _
        omega
      have e2 := (Same.new (Same.refl H') (o := rngO r2 ((m - 1 - i : Nat) : Int) n m) hr2).new (o := .lst (rngV ((m - 1 - i : Nat) : Int) m ((n - (m - 1 - i) + m - 1) / m))) hl2
      refine ⟨_, rfl, .inl ⟨rfl, _, SqL.of (e2 _ _ hl)⟩, _, rfl, _, _, rfl, SqL.of upd_same, fun l3 hl3 => ?_⟩
      have e3 := e2.new (o := .lst (rngV ((m - 1 - i : Nat) : Int) m ((n - (m - 1 - i) + m - 1) / m)).reverse) hl3
      have er : (rngV ((m - 1 - i : Nat) : Int) m ((n - (m - 1 - i) + m - 1) / m)).reverse = nv (rng3 (m - 1 - i) n m).reverse := by rw [rngV_step, nv_reverse]; rfl
      have ea : nv (dealAcc m n i) ++ nv (rng3 (m - 1 - i) n m).reverse = nv (dealAcc m n (i + 1)) := by rw [nv_append, dealAcc_succ m n i hi]
      rw [er] at e3 ⊢
      refine ⟨_, _, _, _, rfl, rfl, e3 _ _ hl, upd_same, ?_, ?_⟩
      · have h2 := dealAcc_le m n (i + 1) (by omega)
        rw [← List.length_append, ea, nv_length]
        omega
      · rw [ea]
        refine ⟨_, _, rfl, ?_, upd_same⟩
        exact (se.trans e3).upd hl1
    · rintro σ H' ⟨a, b, rfl, se, hl⟩
      refine ⟨_, rfl, ?_⟩
      rw [dealAcc_all] at hl
      exact end_lst se hl1 hl q
end
end Rf

set_option Elab.async false
set_option linter.all false
set_option maxRecDepth 100000
namespace Rf
open PySem L2
/-! ### comprehensions over a list whose elements leave the heap alone -/
theorem lc_go {K : PySem.W.Frag} {js : List Nat} {te : TE} {σ : St} {H : Hp} {S : Addr → Hp → List V → Prop} {a : Addr} {xs : List V} (f : Nat → V → V) (hx : SqL K H a xs) (hz : xs.length ≤ 1000)
    (he : ∀ i x R, xs[i]? = some x → R (f i x) H → te (some x :: js.map fun j => σ.getD j none) H R) (q : ∀ D, H D = none → S D H (xs.mapIdx f)) :
    ∃ W : Nat → Nat → List V → Hp → Prop, (∃ m, W 0 m [] H) ∧ ∀ i m acc H, W i m acc H → ((Itl K a).stop i H ∧ ∀ D, H D = none → S D H acc) ∨
      ((Itl K a).go i H ∧ acc.length < sizeLine ∧ ∀ x H', (Itl K a).yld i H x H' → te (some x :: js.map fun j => σ.getD j none) H' fun y H'' => ∃ m', m' < m ∧ W (i + 1) m' (acc ++ [y]) H'') := by
  refine ⟨fun i m acc H' => H' = H ∧ m = xs.length - i ∧ i ≤ xs.length ∧ acc = (xs.mapIdx f).take i, ⟨xs.length, rfl, rfl, Nat.zero_le _, by simp⟩, ?_⟩
  rintro i m acc H' ⟨rfl, rfl, hi, rfl⟩
  by_cases hlt : i < xs.length
  · refine .inr ⟨⟨xs, xs[i], hx, by simp [hlt]⟩, ?_, fun x H'' y => ?_⟩
    · have : (1000 : Nat) < sizeLine := by decide
      rw [List.length_take]
      omega
    · obtain ⟨e, y⟩ := y
      subst e
      have hxi := y xs hx
      refine he i x _ hxi ⟨xs.length - (i + 1), by omega, rfl, rfl, hlt, ?_⟩
      rw [List.take_add_one]
      simp [hxi]
  · have e : i = xs.length := by omega
    subst e
    refine .inl ⟨⟨xs, hx, Nat.le_refl _⟩, ?_⟩
    have e2 : (xs.mapIdx f).take xs.length = xs.mapIdx f := List.take_of_length_le (by simp)
    rw [e2]
    exact q
theorem lc_goR {lo st : Int} {n : Nat} {js : List Nat} {te : TE} {σ : St} {H : Hp} {S : Addr → Hp → List V → Prop} (f : Nat → V) (hz : n ≤ 1000)
    (he : ∀ i R, i < n → R (f i) H → te (some (.int (lo + i * st)) :: js.map fun j => σ.getD j none) H R) (q : ∀ D, H D = none → S D H ((List.range n).map f)) :
    ∃ W : Nat → Nat → List V → Hp → Prop, (∃ m, W 0 m [] H) ∧ ∀ i m acc H, W i m acc H → ((Itr3 lo st n).stop i H ∧ ∀ D, H D = none → S D H acc) ∨
      ((Itr3 lo st n).go i H ∧ acc.length < sizeLine ∧ ∀ x H', (Itr3 lo st n).yld i H x H' → te (some x :: js.map fun j => σ.getD j none) H' fun y H'' => ∃ m', m' < m ∧ W (i + 1) m' (acc ++ [y]) H'') := by
  refine ⟨fun i m acc H' => H' = H ∧ m = n - i ∧ i ≤ n ∧ acc = (List.range i).map f, ⟨n, rfl, rfl, Nat.zero_le _, rfl⟩, ?_⟩
  rintro i m acc H' ⟨rfl, rfl, hi, rfl⟩
  by_cases hlt : i < n
  · refine .inr ⟨hlt, ?_, fun x H'' y => ?_⟩
    · have : (1000 : Nat) < sizeLine := by decide
      rw [List.length_map, List.length_range]
      omega
    · obtain ⟨e, rfl⟩ := y
      subst e
      refine he i _ hlt ⟨n - (i + 1), by omega, rfl, rfl, hlt, ?_⟩
      rw [List.range_succ, List.map_append]
      rfl
  · have e : i = n := by omega
    subst e
    exact .inl ⟨Nat.le_refl _, q⟩
theorem nv_at {xs : List Nat} {i : Nat} {x : V} (h : (nv xs)[i]? = some x) : ∃ n, xs[i]? = some n ∧ x = .int (n : Int) := by
  simp only [nv, List.getElem?_map] at h
  cases e : xs[i]? with
  | none => rw [e] at h; simp at h
  | some n => rw [e] at h; simp at h; exact ⟨n, rfl, h.symm⟩
section
variable {P : Program} {w : World} {K : PySem.W.Frag} {mg : Str → Option Value} {base : Heap} {t : Adr}
theorem ok_Under_sources {f : Addr} {fd : FuncData} (F : Fun K "sources" "Under.sources" s_Under_sources f fd) (T : Txt K mg t) : FnOk P w K mg base CX0 2 f fd ["self", "cards"] (spSrc t .under) := by
  refine F.okG sc_Under_sources (fun vs H Q E h => ?_) (fun cdv A outer s H vs Q E hr h => ?_)
  · obtain ⟨p, n, rfl, _⟩ := h
    rfl
  · obtain ⟨p, n, rfl, ⟨dx, hp⟩, ok, fit, h1, h60, q⟩ := h
    have nd := sc_Under_sources.nd
    have big : (1000 : Nat) < sizeLine := by decide
    refine ⟨_, (pss_cons (ps_set (i := 2) nd rfl (Or.inl rfl) (pe_callTy (call_list_rng rfl) (by rfl) T.no_list (show bootBuiltins "list" = some (.type "list") by decide +kernel) (pa_cons (pe_callTy call_rng1 (by rfl) T.no_range (show bootBuiltins "range" = some (.type "range") by decide +kernel) (pa_cons (pv 1) pa_nil)) pa_nil)))
 (pss_cons (ps_set (i := 3) nd rfl (Or.inl rfl) (pe_lst pa_nil))
 (pss_cons (ps_while PassesOwn.never (pt_cmpR op_gt (pe_callB call_len_seq (by rfl) T.no_len (show bootBuiltins "len" = some (.builtin "len") by decide +kernel) (pa_cons (pv 2) pa_nil)) pe_int (nomark _))
 (pss_cons (ps_expr (pe_bm PySem.F.plainAttrs_list PySem.F.slot_list_append PySem.F.type_list_append mt_append (pv 3) (pa_cons (pe_bm PySem.F.plainAttrs_list PySem.F.slot_list_pop PySem.F.type_list_pop mt_popAt (pv 2) (pa_cons pe_int pa_nil)) pa_nil)))
 (pss_one (ps_if (pt_cmpR op_gt (pe_callB call_len_seq (by rfl) T.no_len (show bootBuiltins "len" = some (.builtin "len") by decide +kernel) (pa_cons (pv 2) pa_nil)) pe_int (nomark _))
 (pss_one (ps_expr (pe_bm PySem.F.plainAttrs_list PySem.F.slot_list_append PySem.F.type_list_append mt_append (pv 2) (pa_cons (pe_bm PySem.F.plainAttrs_list PySem.F.slot_list_pop PySem.F.type_list_pop mt_popAt (pv 2) (pa_cons pe_int pa_nil)) pa_nil))))
 pss_nil))))
 (pss_one (ps_ret (pe_lrev rfl (by rfl) T.no_list (by rfl) T.no_reversed (pa_cons (pv 3) pa_nil))))))), ?_⟩
    refine ⟨_, rfl, _, rfl, fun r1 hr1 => ?_⟩
    refine ⟨_, _, _, _, _, rfl, upd_same, rng_small (by decide) ⟨by omega, by omega⟩ (by decide) (by decide), rng_up, by omega, fun lp hlp => ?_⟩
    refine ⟨(by decide), fun ll hll => ?_⟩
    have er : rngV 0 1 ((n : Int) - 0).toNat = nv (List.range n) := by rw [show ((n : Int) - 0).toNat = n by omega, show (0 : Int) = ((0 : Nat) : Int) from rfl, rngV_nv, List.range_eq_range']
    rw [er] at hll ⊢
    have e1 := (Same.refl H).new (o := rngO r1 0 n 1) hr1
    have e2 := e1.new (o := .lst (nv (List.range n))) hlp
    have e3 := e2.new (o := .lst []) hll
    have nl : lp ≠ ll := ne_of_none upd_same hll
    have nH : H lp = none := e1.free hlp
    have nL : H ll = none := e2.free hll
    -- while len(pack) > 0
    refine ⟨fun m σ H' => ∃ pack laid, σ = [some (.ref p), some (.int (n : Int)), some (.ref lp), some (.ref ll)] ∧ Same H H' ∧ H' lp = some (.lst (nv pack)) ∧ H' ll = some (.lst (nv laid)) ∧ underGo pack laid = underGo (List.range n) [] ∧ pack.length + laid.length = n ∧ m = pack.length,
      ⟨_, List.range n, [], rfl, e3, by rw [upd_ne nl, upd_same], upd_same, rfl, by simp, rfl⟩, ?_⟩
    rintro m σ H' ⟨pack, laid, rfl, se, hP, hL, hu, hn, rfl⟩
    refine ⟨_, rfl, _, _, rfl, .inl (SqL.of hP), _, _, rfl, rfl, _, rfl, ?_⟩
    rw [nv_length]
    cases pack with
    | nil =>
      refine iteF ?_
      refine ⟨_, rfl, _, _, rfl, SqL.of hL, fun l1 hl1 => ?_⟩
      refine end_lst (se.new hl1) (se.free hl1) upd_same ?_
      have e : laid = underGo (List.range n) [] := by rw [← hu]; simp [underGo]
      rw [nv_reverse, e]
      exact q
    | cons x r =>
      rw [show decide ((0 : Int) < ((x :: r).length : Int)) = true from decide_eq_true (by rw [List.length_cons]; omega)]
      refine iteT ?_
      refine ⟨fun σ' H'' => ∃ m', m' < (x :: r).length ∧ ∃ pack laid, σ' = [some (.ref p), some (.int (n : Int)), some (.ref lp), some (.ref ll)] ∧ Same H H'' ∧ H'' lp = some (.lst (nv pack)) ∧ H'' ll = some (.lst (nv laid)) ∧ underGo pack laid = underGo (List.range n) [] ∧ pack.length + laid.length = n ∧ m' = pack.length, fun _ _ h => h, ?_⟩
      rw [List.length_cons] at hn
      have s1 : Same H (upd H' lp (.lst (nv r))) := se.upd nH
      have hL1 : upd H' lp (.lst (nv r)) ll = some (.lst (nv laid)) := by rw [upd_ne (Ne.symm nl)]; exact hL
      refine ⟨_, rfl, .inl ⟨rfl, _, SqL.of hL⟩, _, rfl, .inl ⟨rfl, _, SqL.of hP⟩, _, _, _, 0, _, rfl, rfl, hP, by decide, by decide, seq0 _ (by simp [nv]), rfl, _, _, _, rfl, rfl, hL1, by rw [nv_length]; omega, ?_⟩
      have e4 : nv laid ++ [V.int (x : Int)] = nv (laid ++ [x]) := by simp [nv]
      have s2 : Same H (upd (upd H' lp (.lst (nv r))) ll (.lst (nv laid ++ [V.int (x : Int)]))) := s1.upd nL
      have hP2 : upd (upd H' lp (.lst (nv r))) ll (.lst (nv laid ++ [V.int (x : Int)])) lp = some (.lst (nv r)) := by rw [upd_ne nl, upd_same]
      refine ⟨_, rfl, _, _, rfl, .inl (SqL.of hP2), _, _, rfl, rfl, _, rfl, ?_⟩
      rw [nv_length]
      cases r with
      | nil =>
        refine iteF ?_
        refine ⟨0, by simp, [], laid ++ [x], rfl, s2, hP2, by rw [upd_same, e4], ?_, by simp at hn ⊢; omega, rfl⟩
        rw [← hu]
        simp [underGo]
      | cons y r2 =>
        rw [show decide ((0 : Int) < ((y :: r2).length : Int)) = true from decide_eq_true (by rw [List.length_cons]; omega)]
        refine iteT ?_
        refine ⟨_, rfl, .inl ⟨rfl, _, SqL.of hP2⟩, _, rfl, .inl ⟨rfl, _, SqL.of hP2⟩, _, _, _, 0, _, rfl, rfl, hP2, by decide, by decide, seq0 _ (by simp [nv]), rfl, _, _, _, rfl, rfl, upd_same, by simp [nv] at hn ⊢; omega, ?_⟩
        have e5 : (nv (y :: r2)).eraseIdx 0 ++ [V.int (y : Int)] = nv (r2 ++ [y]) := by simp [nv]
        refine ⟨r2.length + 1, by simp, r2 ++ [y], laid ++ [x], rfl, (s2.upd nH).upd nH, by rw [upd_same, e5], by rw [upd_ne (Ne.symm nl), upd_ne (Ne.symm nl), upd_same, e4], ?_, by simp at hn ⊢; omega, by simp⟩
        rw [← hu]
        simp [underGo]
def spRifSrc : Sp := fun vs H Q _ => ∃ (w : List Bool), vs = [.str (wordOf w)] ∧ w.length ≤ 60 ∧ ∀ l, H l = none → Q (.ref l) (upd H l (.lst (nv (srcRif w))))
theorem word_at {w : List Bool} {i c : Nat} (h : (wordOf w).cps[i]? = some c) : ∃ b, w[i]? = some b ∧ c = if b then 97 else 98 := by
  have h' : (w.map fun b => if b then 97 else 98)[i]? = some c := by simpa [wordOf] using h
  rw [List.getElem?_map] at h'
  cases e : w[i]? with
  | none => rw [e] at h'; simp at h'
  | some b => rw [e] at h'; simp at h'; exact ⟨b, rfl, h'.symm⟩
theorem drop_at {α} {w : List α} {i : Nat} {b : α} (h : w[i]? = some b) : w.drop i = b :: w.drop (i + 1) := by
  have hi := (List.getElem?_eq_some_iff.mp h).1
  rw [List.drop_eq_getElem_cons hi]
  congr 1
  exact (List.getElem?_eq_some_iff.mp h).2
theorem ok_riffle_sources {f : Addr} {fd : FuncData} (F : Fun K "riffle_sources" "riffle_sources" s_riffle_sources f fd) (T : Txt K mg t) : FnOk P w K mg base CX0 1 f fd ["word"] spRifSrc := by
  refine F.okG sc_riffle_sources (fun vs H Q E h => ?_) (fun cdv A outer s H vs Q E hr h => ?_)
  · obtain ⟨w, rfl, _⟩ := h
    rfl
  · obtain ⟨w, rfl, h60, q⟩ := h
    have nd := sc_riffle_sources.nd
    have big : (1000 : Nat) < sizeLine := by decide
    refine ⟨_, (pss_cons (ps_set (i := 1) nd rfl (Or.inl rfl) pe_int)
 (pss_cons (ps_set (i := 2) nd rfl (Or.inl rfl) (pe_bm PySem.F.plainAttrs_str PySem.F.slot_str_count PySem.F.type_str_count mt_count (pv 0) (pa_cons pe_str pa_nil)))
 (pss_cons (ps_set (i := 3) nd rfl (Or.inl rfl) (pe_lst pa_nil))
 (pss_cons (ps_for PassesOwn.never rfl (pi_str (pv 0)) (pg_name (i := 4) nd rfl (Or.inl rfl))
 (pss_one (ps_if (pt_cmpR op_eq (pv 4) pe_str (nomark _))
 (pss_cons (ps_expr (pe_bm PySem.F.plainAttrs_list PySem.F.slot_list_append PySem.F.type_list_append mt_append (pv 3) (pa_cons (pv 1) pa_nil)))
 (pss_one (ps_set (i := 1) nd rfl (Or.inl rfl) (pe_op op_add (pv 1) pe_int))))
 (pss_cons (ps_expr (pe_bm PySem.F.plainAttrs_list PySem.F.slot_list_append PySem.F.type_list_append mt_append (pv 3) (pa_cons (pv 2) pa_nil)))
 (pss_one (ps_set (i := 2) nd rfl (Or.inl rfl) (pe_op op_add (pv 2) pe_int)))))))
 (pss_one (ps_ret (pv 3))))))), ?_⟩
    refine ⟨_, rfl, rfl, _, 97, rfl, rfl, (by decide), fun l1 hl1 => ?_⟩
    refine ⟨_, rfl, _, rfl, ?_⟩
    refine for_str (fun i σ H' => ∃ (acc : List Nat) (u l : Nat) (s : Option V), σ = [some (.str (wordOf w)), some (.int (u : Int)), some (.int (l : Int)), some (.ref l1), s] ∧ Same H H' ∧ H' l1 = some (.lst (nv acc)) ∧ acc.length = i ∧ acc ++ ruf (w.drop i) u l = srcRif w) ⟨[], 0, cntA w, none, ?_, (Same.refl H).new hl1, upd_same, rfl, rfl⟩ ?_ ?_
    · rw [word_a]; rfl
    · rintro i c σ H' hc ⟨acc, u, l, sv, rfl, se, hl, hi, hr'⟩
      obtain ⟨b, hb, rfl⟩ := word_at hc
      rw [drop_at hb] at hr'
      have hlt := (List.getElem?_eq_some_iff.mp hb).1
      have sn : ∀ o, Same H (upd H' l1 o) := fun o => se.upd hl1
      refine ⟨_, rfl, rfl, _, rfl, ?_⟩
      cases b with
      | true =>
        refine iteT ?_
        refine ⟨_, rfl, .inl ⟨rfl, _, SqL.of hl⟩, _, rfl, _, _, _, rfl, rfl, hl, by rw [nv_length]; omega, _, rfl, _, _, rfl, rfl, ?_⟩
        refine ⟨acc ++ [u], u + 1, l, _, rfl, sn _, by rw [upd_same]; simp [nv], by simp [hi], ?_⟩
        rw [← hr', ruf]
        simp
      | false =>
        refine iteF ?_
        refine ⟨_, rfl, .inl ⟨rfl, _, SqL.of hl⟩, _, rfl, _, _, _, rfl, rfl, hl, by rw [nv_length]; omega, _, rfl, _, _, rfl, rfl, ?_⟩
        refine ⟨acc ++ [l], u, l + 1, _, rfl, sn _, by rw [upd_same]; simp [nv], by simp [hi], ?_⟩
        rw [← hr', ruf]
        simp
    · rintro σ H' ⟨acc, u, l, sv, rfl, se, hl, hi, hr'⟩
      rw [word_size] at hi hr'
      rw [List.drop_of_length_le (Nat.le_refl _), ruf, List.append_nil] at hr'
      rw [hr'] at hl
      exact ⟨_, rfl, end_lst se hl1 hl q⟩
theorem rep_map {α β} (f : α → β) (l : List α) : ∀ k, (List.replicate k (l.map f)).flatten = (List.replicate k l).flatten.map f
  | 0 => rfl
  | k + 1 => by rw [List.replicate_succ, List.flatten_cons, List.replicate_succ, List.flatten_cons, List.map_append, rep_map f l k]
theorem weave_word (k : Nat) (w0 : List Bool) : repS (wordOf w0) k = wordOf (List.replicate k w0).flatten := by
  unfold repS wordOf
  congr 1
  simp only [rep_map]
theorem ok_Weave_sources {f : Addr} {fd : FuncData} (F : Fun K "sources" "Weave.sources" s_Weave_sources f fd) {m : Nat} (T : Txt K mg t) (f_riffle_sources : Fn1 P w K mg base 1 "riffle_sources" spRifSrc) : FnOk P w K mg base CX0 2 f fd ["self", "cards"] (spSrc t (.weave m)) := by
  refine F.okG sc_Weave_sources (fun vs H Q E h => ?_) (fun cdv A outer s H vs Q E hr h => ?_)
  · obtain ⟨p, n, rfl, _⟩ := h
    rfl
  · obtain ⟨p, n, rfl, ⟨dx, hp⟩, ok, fit, h1, h60, q⟩ := h
    have ok' : m ≤ 1 := ok
    have fit' : n % 2 = 0 := fit
    have nd := sc_Weave_sources.nd
    refine ⟨_, (pss_cons (ps_if (pt_cmpR op_eq (pe_op op_mod (pv 1) pe_int) pe_int (nomark _))
 pss_never
 pss_nil)
 (pss_cons (ps_set (i := 2) nd rfl (Or.inl rfl) (pe_ifExp (pt_cmpR op_eq (pe_fld (pv 0) rfl) pe_int (nomark _)) pe_str pe_str))
 (pss_one (ps_ret (pe_fn f_riffle_sources hr (by rfl) (pa_cons (pe_op op_mulS (pv 2) (pe_op op_fdiv (pv 1) pe_int)) pa_nil)))))), ?_⟩
    refine ⟨_, rfl, _, _, rfl, rfl, (by decide : (0 : Int) < 2), rfl, _, rfl, ?_⟩
    rw [show decide (V.int ((n : Int) % 2) = V.int 1) = false by simp; omega]
    refine iteF ?_
    refine ⟨_, rfl, _, _, _, _, _, rfl, hp, T.cl (.weave m), T.na_first, rfl, rfl, _, rfl, ?_⟩
    have hd : ((n : Int) / 2) = ((n / 2 : Nat) : Int) := by omega
    have hlen : (weaveWord m n).length = n := weaveWord_length m n fit'
    refine ite2 (fun c => ?_) fun c => ?_
    · have hm : m = 0 := by
        have := of_decide_eq_true c
        injection this with this
        omega
      refine ⟨_, rfl, _, rfl, _, _, rfl, rfl, ⟨by decide, by decide⟩, _, n / 2, rfl, by show V.int ((n : Int) / 2) = _; rw [hd], by decide, by omega, weaveWord m n, ?_, by omega, fun l hl => ⟨_, fun c _ => Gc.refl (c.upd hl trivial), q l hl⟩⟩
      have e : Str.ofString "ab" = wordOf [true, false] := by rfl
      rw [e, weave_word, weaveWord, if_pos hm]
      rfl
    · have hm : ¬ m = 0 := fun z => c (by subst z; rfl)
      refine ⟨_, rfl, _, rfl, _, _, rfl, rfl, ⟨by decide, by decide⟩, _, n / 2, rfl, by show V.int ((n : Int) / 2) = _; rw [hd], by decide, by omega, weaveWord m n, ?_, by omega, fun l hl => ⟨_, fun c _ => Gc.refl (c.upd hl trivial), q l hl⟩⟩
      have e : Str.ofString "ba" = wordOf [false, true] := by rfl
      rw [e, weave_word, weaveWord, if_neg hm]
      rfl
theorem ok_Riffle_sources {f : Addr} {fd : FuncData} (F : Fun K "sources" "Riffle.sources" s_Riffle_sources f fd) {m : List Bool} (T : Txt K mg t) (f_riffle_sources : Fn1 P w K mg base 1 "riffle_sources" spRifSrc) : FnOk P w K mg base CX0 2 f fd ["self", "cards"] (spSrc t (.riffle m)) := by
  refine F.okG sc_Riffle_sources (fun vs H Q E h => ?_) (fun cdv A outer s H vs Q E hr h => ?_)
  · obtain ⟨p, n, rfl, _⟩ := h
    rfl
  · obtain ⟨p, n, rfl, ⟨dx, hp⟩, ok, fit, h1, h60, q⟩ := h
    have fit' : m.length = n := fit
    have hz : (wordOf m).length ≤ sizeLine := by rw [word_len]; exact Nat.le_trans (by omega : m.length ≤ 60) (by decide)
    refine ⟨_, (pss_cons (ps_if (pt_cmpR op_ne (pe_callB call_len_str (by rfl) T.no_len (show bootBuiltins "len" = some (.builtin "len") by decide +kernel) (pa_cons (pe_fld (pv 0) rfl) pa_nil)) (pv 1) (nomark _))
 pss_never
 pss_nil)
 (pss_one (ps_ret (pe_fn f_riffle_sources hr (by rfl) (pa_cons (pe_fld (pv 0) rfl) pa_nil))))), ?_⟩
    refine ⟨_, rfl, _, _, _, _, _, rfl, hp, T.cl (.riffle m), T.na_word, rfl, _, rfl, hz, _, rfl, rfl, _, rfl, ?_⟩
    rw [word_len, fit', decide_eq_true rfl]
    refine iteF ?_
    refine ⟨_, rfl, _, _, _, _, _, rfl, hp, T.cl (.riffle m), T.na_word, rfl, m, rfl, by omega, ?_⟩
    exact fun l hl => ⟨_, fun c _ => Gc.refl (c.upd hl trivial), q l hl⟩
end
end Rf

set_option Elab.async false
set_option linter.all false
set_option maxRecDepth 100000
namespace Rf
open PySem L2
theorem unGo_snoc (xs : List Nat) : ∀ (l : List Nat) (s i : Nat) (b : List Nat), unGo xs (l ++ [s]) i b = (unGo xs l i b).set s (xs.getD (i + l.length) 0)
  | [], s, i, b => rfl
  | y :: l, s, i, b => by
    rw [List.cons_append, unGo, unGo, unGo_snoc xs l s (i + 1)]
    congr 2
    rw [List.length_cons]
    omega
theorem ixN_nat {n s : Nat} (h : s < n) : ixN n (s : Int) = some s := by
  unfold ixN
  rw [if_pos (by omega), if_pos (by omega)]
  rfl
theorem nv_set (xs : List Nat) (i v : Nat) : (nv xs).set i (.int (v : Int)) = nv (xs.set i v) := by
  simp [nv, List.map_set]
theorem Mv.no_sources (mv : Mv) : mv.flds.lookup ("sources" : Str) = none := by cases mv <;> rfl
theorem Mv.no_done (mv : Mv) : mv.flds.lookup ("done" : Str) = none := by cases mv <;> rfl
theorem Mv.no_undone (mv : Mv) : mv.flds.lookup ("undone" : Str) = none := by cases mv <;> rfl
def Mv.sort : Mv → Nat
  | .cut _ => 0 | .turn => 1 | .deal _ => 2 | .under => 3 | .weave _ => 4 | .riffle _ => 5
def clsN (t : Adr) : Nat → Addr
  | 0 => t.cut | 1 => t.turn | 2 => t.deal | 3 => t.under | 4 => t.weave | _ => t.riffle
structure TyTxt (K : PySem.W.Frag) (t : Adr) : Prop where
  cls : ∀ mv : Mv, PySem.W.findIn K (.ref (mv.cls t)) "__class__" = some (some (.builtin "object.__class__"))
  get : PySem.W.specialIn K (.builtin "object.__class__") "__get__" = some (some (.builtin "getset_descriptor.__get__"))
  tk : PySem.W.takesIn K (.builtin "object.__class__") = some true
  mro : ∀ mv : Mv, PySem.W.mroIn K (mv.cls t) (.type "object") = some true
  move : ∀ mv : Mv, PySem.W.kitOne K (.ref (mv.cls t)) (.ref t.move) = some true
  kits : ∀ (mv : Mv) (i : Nat), i < 6 → PySem.W.kitOne K (.ref (mv.cls t)) (.ref (clsN t i)) = some (decide (mv.sort = i))
theorem TyTxt.ty {K : PySem.W.Frag} {mg : Str → Option Value} {t : Adr} {H : Hp} {p : Addr} {mv : Mv} (Y : TyTxt K t) (T : Txt K mg t) (h : IsMv t H p mv) : TyOf K H (.ref p) (.ref (mv.cls t)) := by
  obtain ⟨dx, h⟩ := h
  exact .ins h (T.cl mv) (Y.cls mv) Y.get Y.tk (Y.mro mv)
section
variable {P : Program} {w : World} {K : PySem.W.Frag} {mg : Str → Option Value} {base : Heap} {t : Adr}
theorem ok_Move_done {f : Addr} {fd : FuncData} (F : Fun K "done" "Move.done" s_Move_done f fd) {mv : Mv} (T : Txt K mg t) (f_check_order : Fn1 P w K mg base 3 "check_order" spCheckOrder) (m_sources : Mth P w K mg base 2 (mv.cls t) "sources" (spSrc t mv)) : FnOk P w K mg base CX0 4 f fd ["self", "order"] (spDone t mv) := by
  refine F.okG sc_Move_done (fun vs H Q E h => ?_) (fun cdv A outer s H vs Q E hr h => ?_)
  · obtain ⟨p, a, xs, rfl, _⟩ := h
    rfl
  · obtain ⟨p, a, xs, rfl, ⟨dx, hp⟩, ok, fit, ha, g, q⟩ := h
    have hl : (nv xs).length = xs.length := nv_length xs
    refine ⟨_, (pss_cons (ps_expr (pe_fn f_check_order hr (by rfl) (pa_cons (pv 1) pa_nil)))
 (pss_one (ps_ret (pe_lc (ys := ["order"]) (js := [1]) rfl (pi_list (pe_mtD 2 hr (pv 0) (pa_cons (pe_callB call_len_seq (by rfl) T.no_len (show bootBuiltins "len" = some (.builtin "len") by decide +kernel) (pa_cons (pv 1) pa_nil)) pa_nil))) rfl (by decide +kernel) (by decide +kernel) rfl rfl rfl (by decide +kernel) (fun _ _ _ _ => (pe_ix (ix_listK (K := K) rfl) (pv 1) (pv 0) (fun _ _ => rfl))))))), ?_⟩
    refine ⟨_, rfl, _, _, rfl, ha, g, _, rfl, _, _, _, _, _, rfl, hp, mv.no_sources, m_sources, _, rfl, _, _, rfl, .inl (SqL.of ha), _, _, rfl, ⟨dx, hp⟩, ok, by rw [hl]; exact fit, by rw [hl]; exact g.2.1, by rw [hl]; exact g.2.2, fun l1 hl1 => ?_⟩
    rw [hl]
    have perm := Mv.src_perm ok fit
    have e1 := (Same.refl H).new (o := .lst (nv (mv.src xs.length))) hl1
    refine ⟨_, rfl, ⟨_, SqL.of upd_same⟩, ?_⟩
    refine lc_go (xs := nv (mv.src xs.length)) (fun _ x => match x with | .int s => V.int ((xs.getD s.toNat 0 : Nat) : Int) | v => v) (SqL.of upd_same) ?_ (fun i x R hx hR => ?_) fun D hD => ?_
    · rw [nv_length, perm_len perm]
      have := g.2.2
      omega
    · obtain ⟨s', hs, rfl⟩ := nv_at hx
      have hlt := perm_lt perm s' (List.mem_of_getElem? hs)
      have hat : xs[s']? = some (xs.getD s' 0) := by simp [List.getD_eq_getElem?_getD, hlt]
      exact ⟨_, rfl, _, rfl, _, _, _, _, rfl, rfl, SqL.of (e1 _ _ ha), atI_nat (nv_get hat), hR⟩
    · refine end_lst (e1.new hD) (e1.free hD) upd_same ?_
      have e : ((nv (mv.src xs.length)).mapIdx fun _ x => match x with | .int s => V.int ((xs.getD s.toNat 0 : Nat) : Int) | v => v) = nv (pick xs (mv.src xs.length)) := by
        apply List.ext_getElem?
        intro j
        simp only [List.getElem?_mapIdx, nv, pick, List.getElem?_map]
        cases (mv.src xs.length)[j]? <;> simp
      rw [e]
      exact q
def spCheckMove (t : Adr) : Sp := fun vs H Q _ => ∃ (p : Addr) (mv : Mv), vs = [.ref p] ∧ IsMv t H p mv ∧ Q .non H
theorem ok_check_move {f : Addr} {fd : FuncData} (F : Fun K "check_move" "check_move" s_check_move f fd) (T : Txt K mg t) (Y : TyTxt K t) : FnOk P w K mg base CX0 1 f fd ["value"] (spCheckMove t) := by
  refine F.okG sc_check_move (fun vs H Q E h => ?_) (fun cdv A outer s H vs Q E hr h => ?_)
  · obtain ⟨p, mv, rfl, _⟩ := h
    rfl
  · obtain ⟨p, mv, rfl, hp, q⟩ := h
    refine ⟨_, (pss_one (ps_if (pt_not (pt_val (pe_callB call_isi (by rfl) T.no_isinstance (show bootBuiltins "isinstance" = some (.builtin "isinstance") by decide +kernel) (pa_cons (pv 0) (pa_cons (pe_glob (v := .ref _) rfl T.mg_Move rfl) pa_nil)))))
 pss_never
 pss_nil)), ?_⟩
    refine ⟨_, rfl, _, _, _, _, rfl, Y.ty T hp, .inr ⟨_, rfl⟩, Y.move mv, _, rfl, ?_⟩
    refine iteF ?_
    exact end_same (Same.refl H) q
def spCheckMoves (t : Adr) : Sp := fun vs H Q _ => ∃ (l : Addr) (ms : List (Addr × Mv)), vs = [.ref l] ∧ H l = some (.lst (ms.map fun x => V.ref x.1)) ∧ (∀ x ∈ ms, IsMv t H x.1 x.2) ∧ Q .non H
theorem ok_check_moves {f : Addr} {fd : FuncData} (F : Fun K "check_moves" "check_moves" s_check_moves f fd) (T : Txt K mg t) (f_check_move : Fn1 P w K mg base 1 "check_move" (spCheckMove t)) : FnOk P w K mg base CX0 2 f fd ["value"] (spCheckMoves t) := by
  refine F.okG sc_check_moves (fun vs H Q E h => ?_) (fun cdv A outer s H vs Q E hr h => ?_)
  · obtain ⟨l, ms, rfl, _⟩ := h
    rfl
  · obtain ⟨l, ms, rfl, hl, hm, q⟩ := h
    have nd := sc_check_moves.nd
    refine ⟨_, (pss_cons (ps_if (pt_not (pt_val (pe_callB call_isi (by rfl) T.no_isinstance (show bootBuiltins "isinstance" = some (.builtin "isinstance") by decide +kernel) (pa_cons (pv 0) (pa_cons (pe_bltn (v := .ty "list") rfl T.no_list (show bootBuiltins "list" = some (.type "list") by decide +kernel) rfl) pa_nil)))))
 pss_never
 pss_nil)
 (pss_one (ps_for PassesOwn.never rfl (pi_list (pv 0)) (pg_name (i := 1) nd rfl (Or.inl rfl))
 (pss_one (ps_expr (pe_fn f_check_move hr (by rfl) (pa_cons (pv 1) pa_nil))))))), ?_⟩
    refine ⟨_, rfl, _, _, _, _, rfl, .lst hl, .inl ⟨_, rfl⟩, kit_list_list, _, rfl, ?_⟩
    refine iteF ?_
    refine ⟨_, rfl, _, rfl, ⟨_, SqL.of hl⟩, ?_⟩
    refine for_list (xs := ms.map fun x => V.ref x.1) (fun i σ H' => H' = H ∧ ∃ b, σ = [some (.ref l), b]) ⟨rfl, none, rfl⟩ (fun i σ H' _ z => by rw [z.1]; exact SqL.of hl) ?_ ?_
    · rintro i x σ H' hx ⟨rfl, b, rfl⟩
      rw [List.getElem?_map] at hx
      cases e : ms[i]? with
      | none => rw [e] at hx; simp at hx
      | some y =>
        rw [e] at hx
        simp at hx
        subst hx
        exact ⟨_, rfl, y.1, y.2, rfl, hm y (List.mem_of_getElem? e), rfl, _, rfl⟩
    · rintro σ H' ⟨rfl, b, rfl⟩
      exact end_same (Same.refl _) q
def doneAll (ms : List (Addr × Mv)) (xs : List Nat) : List Nat := ms.foldl (fun ys x => pick ys (x.2.src ys.length)) xs
def spDoneAll (t : Adr) : Sp := fun vs H Q _ => ∃ (l a : Addr) (ms : List (Addr × Mv)) (xs : List Nat), vs = [.ref l, .ref a] ∧ H l = some (.lst (ms.map fun x => V.ref x.1)) ∧ (∀ x ∈ ms, IsMv t H x.1 x.2 ∧ x.2.ok ∧ x.2.fits xs.length) ∧
  H a = some (.lst (nv xs)) ∧ Good xs ∧ ∀ p, H p = none → Q (.ref p) (upd H p (.lst (nv (doneAll ms xs))))
theorem Good.pick {xs : List Nat} {mv : Mv} (g : Good xs) (ok : mv.ok) (fit : mv.fits xs.length) : Good (pick xs (mv.src xs.length)) ∧ (Rf.pick xs (mv.src xs.length)).length = xs.length := by
  have p := Mv.src_perm ok fit
  have e : (Rf.pick xs (mv.src xs.length)).length = xs.length := by rw [pick_length, perm_len p]
  exact ⟨⟨pick_ord g.1 p, by rw [e]; exact g.2.1, by rw [e]; exact g.2.2⟩, e⟩
end
end Rf

set_option Elab.async false
set_option linter.all false
set_option maxRecDepth 100000
namespace Rf
open PySem L2
def spDraw : Sp := fun vs H Q _ => ∃ (c : Int) (k m : Nat), vs = [.int c, .int (k : Int), .int (m : Int)] ∧ 0 < m ∧ ∀ d : Nat, d < m → Q (.int (d : Int)) H
def primes : List Int := [1000003, 1000033, 1000037, 1000039, 1000081, 1000099, 1000117, 1000121, 1000133, 1000151, 1000159, 1000171, 1000183, 1000187, 1000193, 1000199]
theorem primes_at : ∀ j : Nat, j < 16 → ∃ p : Int, 0 < p ∧ primes[j]? = some p
  | 0, _ => ⟨_, by decide, rfl⟩ | 1, _ => ⟨_, by decide, rfl⟩ | 2, _ => ⟨_, by decide, rfl⟩ | 3, _ => ⟨_, by decide, rfl⟩ | 4, _ => ⟨_, by decide, rfl⟩ | 5, _ => ⟨_, by decide, rfl⟩ | 6, _ => ⟨_, by decide, rfl⟩ | 7, _ => ⟨_, by decide, rfl⟩
  | 8, _ => ⟨_, by decide, rfl⟩ | 9, _ => ⟨_, by decide, rfl⟩ | 10, _ => ⟨_, by decide, rfl⟩ | 11, _ => ⟨_, by decide, rfl⟩ | 12, _ => ⟨_, by decide, rfl⟩ | 13, _ => ⟨_, by decide, rfl⟩ | 14, _ => ⟨_, by decide, rfl⟩ | 15, _ => ⟨_, by decide, rfl⟩
  | n + 16, h => absurd h (by omega)
theorem body_draw : ∃ es p1 k p pos, defBody s__law_draw = [.Assign [.Name "_law_primes" p1] (.Tuple es k p) pos, (defBody s__law_draw).getD 1 (.Pass ⟨0, 0, 0, 0⟩)] ∧ isInts es = some primes := ⟨_, _, _, _, _, rfl, by decide +kernel⟩
section
variable {P : Program} {w : World} {K : PySem.W.Frag} {mg : Str → Option Value} {base : Heap} {t : Adr}
theorem ok__law_draw {f : Addr} {fd : FuncData} (F : Fun K "_law_draw" "_law_draw" s__law_draw f fd) : FnOk P w K mg base CX0 1 f fd ["_law_cell", "_law_k", "_law_many"] spDraw := by
  refine F.okG sc__law_draw (fun vs H Q E h => ?_) (fun cdv A outer s H vs Q E hr h => ?_)
  · obtain ⟨c, k, m, rfl, _⟩ := h
    rfl
  · obtain ⟨c, k, m, rfl, hm, q⟩ := h
    have nd := sc__law_draw.nd
    obtain ⟨es, p1, kk, pt, pos, eb, hes⟩ := body_draw
    rw [eb]
    refine ⟨_, (pss_cons (ps_set (i := 3) nd rfl (Or.inl rfl) (pe_tupI hes))
 (pss_one (ps_ret (pe_op op_mod (pe_op op_mod (pe_op op_add (pe_op op_mul (pv 0) pe_int) (pe_op op_mul (pv 1) pe_int)) (pe_ix ix_tup (pv 3) (pe_op op_mod (pv 1) pe_int) (fun _ _ => rfl))) (pv 2))))), ?_⟩
    refine ⟨(by show 16 ≤ sizeLine; decide), fun l1 h1 => ?_⟩
    obtain ⟨p, hp, hat⟩ := primes_at (k % 16) (Nat.mod_lt _ (by decide))
    have hk : (k : Int) % 16 = ((k % 16 : Nat) : Int) := by omega
    refine ⟨_, rfl, _, _, rfl, rfl, .inr ⟨by decide, by decide⟩, _, rfl, _, _, rfl, rfl, .inr ⟨by decide, by decide⟩, _, _, rfl, rfl, _, rfl, _, rfl, _, _, rfl, rfl, (by decide : (0 : Int) < 16), _, primes.map V.int, _, .int p, rfl, rfl, SqT.of upd_same, ?_, _, _, rfl, rfl, hp, _, rfl, _, _, rfl, rfl, (by omega : (0 : Int) < (m : Int)), ?_⟩
    · rw [hk]
      exact atI_nat (by rw [List.getElem?_map, hat]; rfl)
    · have h0 : 0 ≤ (c * 48271 + (k : Int) * 69621) % p % (m : Int) := Int.emod_nonneg _ (by omega)
      have h2 : (c * 48271 + (k : Int) * 69621) % p % (m : Int) < m := Int.emod_lt_of_pos _ (by omega)
      refine end_same ((Same.refl H).new h1) ?_
      have := q ((c * 48271 + (k : Int) * 69621) % p % (m : Int)).toNat (by omega)
      rw [Int.toNat_of_nonneg h0] at this
      exact this
end
end Rf

set_option Elab.async false
set_option linter.all false
set_option maxRecDepth 100000
namespace Rf
open PySem L2
def spCell (K : PySem.W.Frag) : Sp := fun vs H Q _ => ∃ (a : Addr) (ns : List Int) (k : Nat), vs = [.ref a, .int (k : Int)] ∧ SqL K H a (ns.map V.int) ∧ ∀ z : Int, Q (.int z) H
def spMany : Sp := fun vs H Q _ => ∃ (c : Int) (k : Nat), vs = [.int c, .int (k : Int)] ∧ ∀ n : Nat, 1 ≤ n → n ≤ 60 → Q (.int (n : Int)) H
def spOrder : Sp := fun vs H Q _ => ∃ (c : Int) (n : Nat), vs = [.int c, .int (n : Int)] ∧ 1 ≤ n ∧ n ≤ 60 ∧ ∀ xs : List Nat, Good xs → xs.length = n → ∀ l, H l = none → Q (.ref l) (upd H l (.lst (nv xs)))
def spWord : Sp := fun vs H Q _ => ∃ (c : Int) (n : Nat), vs = [.int c, .int (n : Int)] ∧ n ≤ 60 ∧ ∀ w : List Bool, w.length = n → Q (.str (wordOf w)) H
theorem swap_perm (xs : List Nat) (i j : Nat) (hi : i < xs.length) (hj : j < xs.length) : ((xs.set i (xs.getD j 0)).set j (xs.getD i 0)).Perm xs := by
  have gi : xs.getD i 0 = xs[i] := by simp [List.getD_eq_getElem?_getD, hi]
  have gj : xs.getD j 0 = xs[j] := by simp [List.getD_eq_getElem?_getD, hj]
  rw [gi, gj, List.perm_iff_count]
  intro a
  have hc : ∀ (k : Nat) (hk : k < xs.length), (if xs[k] == a then 1 else 0) ≤ xs.count a := by
    intro k hk
    split
    · rename_i h
      have : xs[k] = a := by simpa using h
      exact List.count_pos_iff.mpr (this ▸ List.getElem_mem hk)
    · exact Nat.zero_le _
  rw [List.count_set (by simpa using hj), List.count_set hi]
  by_cases hij : i = j
  · subst hij
    simp only [List.getElem_set_self]
    have := hc i hi
    omega
  · rw [List.getElem_set_ne hij]
    have h1 := hc i hi
    have h2 := hc j hj
    omega
theorem wordOf_a (w : List Bool) : wordOf w ++ Str.ofString "a" = wordOf (w ++ [true]) := by
  rw [str_a]
  unfold wordOf
  show Str.mk _ = _
  simp
theorem wordOf_b (w : List Bool) : wordOf w ++ Str.ofString "b" = wordOf (w ++ [false]) := by
  rw [str_b]
  unfold wordOf
  show Str.mk _ = _
  simp
section
variable {P : Program} {w : World} {K : PySem.W.Frag} {mg : Str → Option Value} {base : Heap} {t : Adr}
theorem ok__law_cell_at {f : Addr} {fd : FuncData} (F : Fun K "_law_cell_at" "_law_cell_at" s__law_cell_at f fd) (T : Txt K mg t) : FnOk P w K mg base CX0 1 f fd ["_law_script", "_law_k"] (spCell K) := by
  refine F.okG sc__law_cell_at (fun vs H Q E h => ?_) (fun cdv A outer s H vs Q E hr h => ?_)
  · obtain ⟨a, ns, k, rfl, _⟩ := h
    rfl
  · obtain ⟨a, ns, k, rfl, ha, q⟩ := h
    refine ⟨_, (pss_cons (ps_if (pt_cmpR op_lt (pv 1) (pe_callB call_len_seq (by rfl) T.no_len (show bootBuiltins "len" = some (.builtin "len") by decide +kernel) (pa_cons (pv 0) pa_nil)) (nomark _))
 (pss_one (ps_ret (pe_ix ix_list (pv 0) (pv 1) (fun _ _ => rfl))))
 pss_nil)
 (pss_one (ps_ret pe_int))), ?_⟩
    refine ⟨_, rfl, _, rfl, _, _, rfl, .inl ha, _, _, rfl, rfl, _, rfl, ?_⟩
    refine ite2 (fun c => ?_) fun c => ?_
    · have c' : (k : Int) < ((ns.map V.int).length : Int) := of_decide_eq_true c
      have hk : k < ns.length := by rw [List.length_map] at c'; omega
      refine ⟨_, rfl, _, rfl, _, _, _, _, rfl, rfl, ha, atI_nat (v := V.int ns[k]) (by simp [hk]), ?_⟩
      exact end_same (Same.refl H) (q _)
    · exact end_same (Same.refl H) (q 0)
end
end Rf

set_option Elab.async false
set_option linter.all false
set_option maxRecDepth 100000
namespace Rf
open PySem L2
theorem cut_to (xs : List Nat) (k : Nat) : cutV (nv xs) none (some (k : Int)) = nv (xs.take k) := by
  unfold cutV
  rw [HT.sIx_none, HT.sIx_nat, nv_length, List.drop_zero, Nat.sub_zero]
  simp only [nv, ← List.map_take]
  congr 1
  by_cases h : k ≤ xs.length
  · rw [Nat.min_eq_left h]
  · rw [Nat.min_eq_right (by omega), List.take_of_length_le (Nat.le_refl _), List.take_of_length_le (by omega)]
theorem cut_from (xs : List Nat) (k : Nat) : cutV (nv xs) (some (k : Int)) none = nv (xs.drop k) := by
  unfold cutV
  rw [HT.sIx_none, HT.sIx_nat, nv_length, List.take_of_length_le (by rw [List.length_drop, nv_length]; exact Nat.le_refl _)]
  simp only [nv, ← List.map_drop]
  congr 1
  by_cases h : k ≤ xs.length
  · rw [Nat.min_eq_left h]
  · rw [Nat.min_eq_right (by omega), List.drop_of_length_le (Nat.le_refl _), List.drop_of_length_le (by omega)]
theorem eqV_int (a b : Int) : eqV (.int a) (.int b) = (a == b) := rfl
theorem nv_flat (xs : List Nat) : (nv xs).all flatV = true := by
  rw [List.all_eq_true]
  intro v hv
  obtain ⟨n, _, rfl⟩ := List.mem_map.mp hv
  rfl
theorem eqVs_self (xs : List Nat) : eqVs (nv xs) (nv xs) = true := by
  unfold eqVs
  rw [beq_self_eq_true, Bool.true_and, List.all_eq_true]
  intro i hi
  have hi' : i < xs.length := by have := List.mem_range.mp hi; rwa [nv_length] at this
  have : (nv xs).getD i .non = .int ((xs[i] : Nat) : Int) := by simp [nv, List.getD_eq_getElem?_getD, hi']
  rw [this, eqV_int, beq_self_eq_true]
def spRiffled : Sp := fun vs H Q _ => ∃ (a : Addr) (xs : List Nat) (w : List Bool), vs = [.ref a, .str (wordOf w)] ∧ H a = some (.lst (nv xs)) ∧ w.length = xs.length ∧ xs.length ≤ 60 ∧ ∀ l, H l = none → Q (.ref l) (upd H l (.lst (nv (rifL xs w))))
def spDealt : Sp := fun vs H Q _ => ∃ (a : Addr) (xs : List Nat) (p : Nat), vs = [.ref a, .int (p : Int)] ∧ H a = some (.lst (nv xs)) ∧ 1 ≤ p ∧ p ≤ 60 ∧ xs.length ≤ 60 ∧ ∀ l, H l = none → Q (.ref l) (upd H l (.lst (nv (dealL xs p))))
def spUnderL : Sp := fun vs H Q _ => ∃ (a : Addr) (xs : List Nat), vs = [.ref a] ∧ H a = some (.lst (nv xs)) ∧ xs.length ≤ 60 ∧ ∀ l, H l = none → Q (.ref l) (upd H l (.lst (nv (under xs))))
section
variable {P : Program} {w : World} {K : PySem.W.Frag} {mg : Str → Option Value} {base : Heap} {t : Adr}
end
end Rf

set_option Elab.async false
set_option linter.all false
set_option maxRecDepth 100000
namespace Rf
open PySem L2
def toldV : Mv → List V
  | .cut m => [.int 0, .int (m : Int)] | .turn => [.int 1, .int 0] | .deal p => [.int 2, .int (p : Int)] | .under => [.int 3, .int 0] | .weave f => [.int 4, .int (f : Int)] | .riffle w => [.int 5, .str (wordOf w)]
def spMoved : Sp := fun vs H Q _ => ∃ (a b : Addr) (xs : List Nat) (mv : Mv), vs = [.ref a, .ref b] ∧ H a = some (.lst (nv xs)) ∧ H b = some (.tup (toldV mv)) ∧ mv.ok ∧ mv.fits xs.length ∧ 1 ≤ xs.length ∧ xs.length ≤ 60 ∧ ∀ l, H l = none → Q (.ref l) (upd H l (.lst (nv (pick xs (mv.src xs.length)))))
def spTold : Sp := fun vs H Q _ => ∃ (c : Int) (n : Nat), vs = [.int c, .int (n : Int)] ∧ 1 ≤ n ∧ n ≤ 60 ∧ ∀ mv : Mv, mv.ok → mv.fits n → ∀ l, H l = none → Q (.ref l) (upd H l (.tup (toldV mv)))
def spMade (t : Adr) : Sp := fun vs H Q _ => ∃ (b : Addr) (mv : Mv), vs = [.ref b] ∧ H b = some (.tup (toldV mv)) ∧ mv.ok ∧ ∀ p dx, H p = none → H dx = none → dx ≠ p → Q (.ref p) (upd (upd H dx (.own p)) p (.ins (mv.cls t) dx mv.flds))
def spSame : Sp := fun vs H Q _ => ∃ (a b : Addr) (xs : List Nat), vs = [.ref a, .ref b] ∧ H a = some (.lst (nv xs)) ∧ H b = some (.lst (nv xs)) ∧ xs.length ≤ 1000 ∧ Q (.bl true) H
def sortsV (mv : Mv) : List V := (List.range 6).map fun i => V.bl (decide (mv.sort = i))
def spSorts (t : Adr) : Sp := fun vs H Q _ => ∃ (p : Addr) (mv : Mv), vs = [.ref p] ∧ IsMv t H p mv ∧ ∀ l, H l = none → Q (.ref l) (upd H l (.lst (sortsV mv)))
theorem heaps_len (xs : List Nat) (p k : Nat) : (heaps xs p k).length = p := by simp [heaps]
theorem heap_le (xs : List Nat) (p k j : Nat) : (heapAt xs p k j).length ≤ k := by
  unfold heapAt stepsOf
  rw [List.length_reverse, List.length_map]
  exact Nat.le_trans (List.length_filter_le _ _) (by simp)
theorem stack_take (hs : List (List Nat)) (i : Nat) (h : List Nat) (e : hs[i]? = some h) : stack (hs.take (i + 1)) [] = h ++ stack (hs.take i) [] := by
  rw [stack_eq, stack_eq, List.take_add_one, e]
  simp
theorem stack_le (xs : List Nat) (p i : Nat) (hp : 1 ≤ p) (hx : xs.length ≤ 60) : (stack ((heaps xs p xs.length).take i) []).length ≤ 60 := by
  have hperm := (srcDeal_perm (p := p) (n := xs.length) hp).length_eq
  have e := pick_deal (xs := xs) (p := p)
  have e2 : (dealL xs p).length = xs.length := by rw [← e, pick_length, hperm, List.length_range]
  have e3 : dealL xs p = ((heaps xs p xs.length).drop i).reverse.flatten ++ stack ((heaps xs p xs.length).take i) [] := by
    unfold dealL
    rw [stack_eq, stack_eq, List.append_nil, List.append_nil, ← List.flatten_append, ← List.reverse_append, List.take_append_drop]
  rw [e3, List.length_append] at e2
  omega
section
variable {P : Program} {w : World} {K : PySem.W.Frag} {mg : Str → Option Value} {base : Heap} {t : Adr}
end
end Rf

set_option Elab.async false
set_option linter.all false
set_option maxRecDepth 100000
namespace Rf
open PySem L2
theorem fst_cut {m : Nat} : (toldV (.cut m)).length = 2 := rfl
theorem toldV_len (mv : Mv) : (toldV mv).length = 2 := by cases mv <;> rfl
section
variable {P : Program} {w : World} {K : PySem.W.Frag} {mg : Str → Option Value} {base : Heap} {t : Adr}
end
end Rf

set_option Elab.async false
set_option linter.all false
set_option maxRecDepth 100000
namespace Rf
open PySem L2
section
variable {P : Program} {w : World} {K : PySem.W.Frag} {mg : Str → Option Value} {base : Heap} {t : Adr}
theorem made_end {H : Hp} {Q : VK} {x dx : Addr} {C : Addr} {fs fs' : List (Str × V)} (q : Q (.ref x) (upd (upd H dx (.own x)) x (.ins C dx fs'))) :
    ∃ H'', (Cl H → Cl (upd (upd (upd H dx (.own x)) x (.ins C dx fs)) x (.ins C dx fs')) → Gc H (upd (upd (upd H dx (.own x)) x (.ins C dx fs)) x (.ins C dx fs')) H'') ∧ Q (.ref x) H'' := by
  rw [upd_upd]
  exact ⟨_, fun _ c => Gc.refl c, q⟩
theorem any_false {bs : List Bool} (h : ∀ b ∈ bs, b = false) : bs.any id = false := by
  rw [List.any_eq_false]
  intro b hb
  rw [h b hb]
  exact Bool.false_ne_true
end
end Rf

set_option Elab.async false
set_option linter.all false
set_option maxRecDepth 100000
set_option maxHeartbeats 1000000
namespace Rf
open PySem L2
/-! ### texts of moves -/
def numText (m : Nat) : Str := Str.ofString (toString (m : Int))
def mvText : Mv → Str
  | .cut m => Str.ofString "cut " ++ numText m | .turn => Str.ofString "turn" | .deal m => Str.ofString "deal " ++ numText m | .under => Str.ofString "under"
  | .weave m => Str.ofString "weave " ++ numText m | .riffle w => Str.ofString "riffle " ++ wordOf w
def spMoveWritten (t : Adr) : Sp := fun vs H Q _ => ∃ (p : Addr) (mv : Mv), vs = [.ref p] ∧ IsMv t H p mv ∧ mv.ok ∧ Q (.str (mvText mv)) H
def spWritten (t : Adr) : Sp := fun vs H Q _ => ∃ (l : Addr) (ms : List (Addr × Mv)), vs = [.ref l] ∧ H l = some (.lst (ms.map fun x => V.ref x.1)) ∧ (∀ x ∈ ms, IsMv t H x.1 x.2 ∧ x.2.ok) ∧ ms.length ≤ 100 ∧ Q (.str (Str.join (Str.ofString "; ") (ms.map fun x => mvText x.2))) H
theorem log_small {m : Nat} (h : m ≤ 60) : ((m : Int)).natAbs.log2 < 1920 := by
  have : (m : Int).natAbs = m := by omega
  rw [this]
  by_cases h0 : m = 0
  · subst h0; decide
  · have := (Nat.log2_lt (n := m) (k := 6) h0).mpr (by omega)
    omega
theorem numText_len {m : Nat} (h : m ≤ 60) : (numText m).length ≤ 1921 := PyProof.Rows.int_text_len_1921 (log_small h)
theorem str_app_len (x y : Str) : (x ++ y).length = x.length + y.length := Str.length_append x y
theorem mvText_len {mv : Mv} (ok : mv.ok) : (mvText mv).length ≤ 2000 := by
  cases mv with
  | cut m => have := numText_len (show m ≤ 60 from ok); show (Str.ofString "cut " ++ numText m).length ≤ _; rw [str_app_len]; show 4 + _ ≤ _; omega
  | turn => show 4 ≤ 2000; decide
  | deal m => have := numText_len (show m ≤ 60 from ok.2); show (Str.ofString "deal " ++ numText m).length ≤ _; rw [str_app_len]; show 5 + _ ≤ _; omega
  | under => show 5 ≤ 2000; decide
  | weave m => have := numText_len (show m ≤ 60 from Nat.le_trans ok (by decide)); show (Str.ofString "weave " ++ numText m).length ≤ _; rw [str_app_len]; show 6 + _ ≤ _; omega
  | riffle w => have := ok.2; show (Str.ofString "riffle " ++ wordOf w).length ≤ _; rw [str_app_len, word_len]; show 7 + _ ≤ _; omega
section
variable {P : Program} {w : World} {K : PySem.W.Frag} {mg : Str → Option Value} {base : Heap} {t : Adr}
theorem ok_move_written {f : Addr} {fd : FuncData} (F : Fun K "move_written" "move_written" s_move_written f fd) (T : Txt K mg t) (Y : TyTxt K t) : FnOk P w K mg base CX0 1 f fd ["move"] (spMoveWritten t) := by
  refine F.okG sc_move_written (fun vs H Q E h => ?_) (fun cdv A outer s H vs Q E hr h => ?_)
  · obtain ⟨p, mv, rfl, _⟩ := h
    rfl
  · obtain ⟨p, mv, rfl, hp, ok, q⟩ := h
    have big : (100000 : Nat) < sizeLine := by decide
    have ty := Y.ty T hp
    obtain ⟨dx, ho⟩ := hp
    have k0 := Y.kits mv 0 (by decide)
    have k1 := Y.kits mv 1 (by decide)
    have k2 := Y.kits mv 2 (by decide)
    have k3 := Y.kits mv 3 (by decide)
    have k4 := Y.kits mv 4 (by decide)
    have k5 := Y.kits mv 5 (by decide)
    refine ⟨_, (pss_cons (ps_if (pt_val (pe_callB call_isi (by rfl) T.no_isinstance (show bootBuiltins "isinstance" = some (.builtin "isinstance") by decide +kernel) (pa_cons (pv 0) (pa_cons (pe_glob (v := .ref _) rfl T.mg_Cut rfl) pa_nil))))
 (pss_one (ps_ret (pe_op op_add_str pe_str (pe_callTy call_str_int (by rfl) T.no_str (show bootBuiltins "str" = some (.type "str") by decide +kernel) (pa_cons (pe_fld (pv 0) rfl) pa_nil)))))
 pss_nil)
 (pss_cons (ps_if (pt_val (pe_callB call_isi (by rfl) T.no_isinstance (show bootBuiltins "isinstance" = some (.builtin "isinstance") by decide +kernel) (pa_cons (pv 0) (pa_cons (pe_glob (v := .ref _) rfl T.mg_Turn rfl) pa_nil))))
 (pss_one (ps_ret pe_str))
 pss_nil)
 (pss_cons (ps_if (pt_val (pe_callB call_isi (by rfl) T.no_isinstance (show bootBuiltins "isinstance" = some (.builtin "isinstance") by decide +kernel) (pa_cons (pv 0) (pa_cons (pe_glob (v := .ref _) rfl T.mg_Deal rfl) pa_nil))))
 (pss_one (ps_ret (pe_op op_add_str pe_str (pe_callTy call_str_int (by rfl) T.no_str (show bootBuiltins "str" = some (.type "str") by decide +kernel) (pa_cons (pe_fld (pv 0) rfl) pa_nil)))))
 pss_nil)
 (pss_cons (ps_if (pt_val (pe_callB call_isi (by rfl) T.no_isinstance (show bootBuiltins "isinstance" = some (.builtin "isinstance") by decide +kernel) (pa_cons (pv 0) (pa_cons (pe_glob (v := .ref _) rfl T.mg_Under rfl) pa_nil))))
 (pss_one (ps_ret pe_str))
 pss_nil)
 (pss_cons (ps_if (pt_val (pe_callB call_isi (by rfl) T.no_isinstance (show bootBuiltins "isinstance" = some (.builtin "isinstance") by decide +kernel) (pa_cons (pv 0) (pa_cons (pe_glob (v := .ref _) rfl T.mg_Weave rfl) pa_nil))))
 (pss_one (ps_ret (pe_op op_add_str pe_str (pe_callTy call_str_int (by rfl) T.no_str (show bootBuiltins "str" = some (.type "str") by decide +kernel) (pa_cons (pe_fld (pv 0) rfl) pa_nil)))))
 pss_nil)
 (pss_cons (ps_if (pt_val (pe_callB call_isi (by rfl) T.no_isinstance (show bootBuiltins "isinstance" = some (.builtin "isinstance") by decide +kernel) (pa_cons (pv 0) (pa_cons (pe_glob (v := .ref _) rfl T.mg_Riffle rfl) pa_nil))))
 (pss_one (ps_ret (pe_op op_add_str pe_str (pe_fld (pv 0) rfl))))
 pss_nil)
 (pss_one ps_never))))))), ?_⟩
    refine ⟨_, rfl, _, _, _, _, rfl, ty, .inr ⟨_, rfl⟩, k0, _, rfl, ?_⟩
    cases mv with
    | cut m =>
      have := numText_len (show m ≤ 60 from ok)
      refine iteT ?_
      refine ⟨_, rfl, _, _, _, _, _, rfl, ho, T.cl (.cut m), T.na_many, rfl, _, rfl, log_small ok, _, _, rfl, rfl, ?_, end_same (Same.refl H) q⟩
      show 4 + (numText m).length ≤ _
      omega
    | turn =>
      refine iteF ?_
      refine ⟨_, rfl, _, _, _, _, rfl, ty, .inr ⟨_, rfl⟩, k1, _, rfl, ?_⟩
      refine iteT ?_
      exact end_same (Same.refl H) q
    | deal m =>
      have := numText_len (show m ≤ 60 from ok.2)
      refine iteF ?_
      refine ⟨_, rfl, _, _, _, _, rfl, ty, .inr ⟨_, rfl⟩, k1, _, rfl, ?_⟩
      refine iteF ?_
      refine ⟨_, rfl, _, _, _, _, rfl, ty, .inr ⟨_, rfl⟩, k2, _, rfl, ?_⟩
      refine iteT ?_
      refine ⟨_, rfl, _, _, _, _, _, rfl, ho, T.cl (.deal m), T.na_piles, rfl, _, rfl, log_small ok.2, _, _, rfl, rfl, ?_, end_same (Same.refl H) q⟩
      show 5 + (numText m).length ≤ _
      omega
    | under =>
      refine iteF ?_
      refine ⟨_, rfl, _, _, _, _, rfl, ty, .inr ⟨_, rfl⟩, k1, _, rfl, ?_⟩
      refine iteF ?_
      refine ⟨_, rfl, _, _, _, _, rfl, ty, .inr ⟨_, rfl⟩, k2, _, rfl, ?_⟩
      refine iteF ?_
      refine ⟨_, rfl, _, _, _, _, rfl, ty, .inr ⟨_, rfl⟩, k3, _, rfl, ?_⟩
      refine iteT ?_
      exact end_same (Same.refl H) q
    | weave m =>
      have := numText_len (show m ≤ 60 from Nat.le_trans ok (by decide))
      refine iteF ?_
      refine ⟨_, rfl, _, _, _, _, rfl, ty, .inr ⟨_, rfl⟩, k1, _, rfl, ?_⟩
      refine iteF ?_
      refine ⟨_, rfl, _, _, _, _, rfl, ty, .inr ⟨_, rfl⟩, k2, _, rfl, ?_⟩
      refine iteF ?_
      refine ⟨_, rfl, _, _, _, _, rfl, ty, .inr ⟨_, rfl⟩, k3, _, rfl, ?_⟩
      refine iteF ?_
      refine ⟨_, rfl, _, _, _, _, rfl, ty, .inr ⟨_, rfl⟩, k4, _, rfl, ?_⟩
      refine iteT ?_
      refine ⟨_, rfl, _, _, _, _, _, rfl, ho, T.cl (.weave m), T.na_first, rfl, _, rfl, log_small (Nat.le_trans ok (by decide)), _, _, rfl, rfl, ?_, end_same (Same.refl H) q⟩
      show 6 + (numText m).length ≤ _
      omega
    | riffle wd =>
      refine iteF ?_
      refine ⟨_, rfl, _, _, _, _, rfl, ty, .inr ⟨_, rfl⟩, k1, _, rfl, ?_⟩
      refine iteF ?_
      refine ⟨_, rfl, _, _, _, _, rfl, ty, .inr ⟨_, rfl⟩, k2, _, rfl, ?_⟩
      refine iteF ?_
      refine ⟨_, rfl, _, _, _, _, rfl, ty, .inr ⟨_, rfl⟩, k3, _, rfl, ?_⟩
      refine iteF ?_
      refine ⟨_, rfl, _, _, _, _, rfl, ty, .inr ⟨_, rfl⟩, k4, _, rfl, ?_⟩
      refine iteF ?_
      refine ⟨_, rfl, _, _, _, _, rfl, ty, .inr ⟨_, rfl⟩, k5, _, rfl, ?_⟩
      refine iteT ?_
      refine ⟨_, rfl, _, _, _, _, _, rfl, ho, T.cl (.riffle wd), T.na_word, rfl, _, _, rfl, rfl, ?_, end_same (Same.refl H) q⟩
      show 7 + (wordOf wd).length ≤ _
      have := ok.2
      rw [word_len]
      omega
theorem ok_written {f : Addr} {fd : FuncData} (F : Fun K "written" "written" s_written f fd) (T : Txt K mg t) (f_check_moves : Fn1 P w K mg base 2 "check_moves" (spCheckMoves t)) (f_move_written : Fn1 P w K mg base 1 "move_written" (spMoveWritten t)) : FnOk P w K mg base CX0 3 f fd ["moves"] (spWritten t) := by
  refine F.okG sc_written (fun vs H Q E h => ?_) (fun cdv A outer s H vs Q E hr h => ?_)
  · obtain ⟨l, ms, rfl, _⟩ := h
    rfl
  · obtain ⟨l, ms, rfl, hl, hms, h100, q⟩ := h
    refine ⟨_, (pss_cons (ps_expr (pe_fn f_check_moves hr (by rfl) (pa_cons (pv 0) pa_nil)))
 (pss_one (ps_ret (pe_bm PySem.F.plainAttrs_str PySem.F.slot_str_join PySem.F.type_str_join mt_join pe_str (pa_cons (pe_lc (ys := []) (js := []) rfl (pi_list (pv 0)) rfl (by decide +kernel) (by decide +kernel) rfl rfl rfl (by decide +kernel) (fun _ _ _ _ => (pe_fn f_move_written hr (by rfl) (pa_cons (pv 0) pa_nil)))) pa_nil))))), ?_⟩
    refine ⟨_, rfl, l, ms, rfl, hl, fun x hx => (hms x hx).1, rfl, _, rfl, _, rfl, ⟨_, SqL.of hl⟩, ?_⟩
    refine lc_go (K := K) (js := []) (xs := ms.map fun x => V.ref x.1) (fun i _ => .str ((ms.map fun x => mvText x.2).getD i Str.empty)) (SqL.of hl) (by rw [List.length_map]; omega) (fun i x R hx hR => ?_) fun D hD => ?_
    · rw [List.getElem?_map] at hx
      cases hmi : ms[i]? with
      | none => rw [hmi] at hx; simp at hx
      | some m =>
        rw [hmi] at hx
        simp at hx
        subst hx
        obtain ⟨h1, h2⟩ := hms m (List.mem_of_getElem? hmi)
        have hgd : (ms.map fun x => mvText x.2).getD i Str.empty = mvText m.2 := by simp [List.getD_eq_getElem?_getD, hmi]
        try dsimp only at hR
        rw [hgd] at hR
        exact ⟨_, rfl, m.1, m.2, rfl, h1, h2, hR⟩
    · have em : (ms.map fun x => V.ref x.1).mapIdx (fun i _ => V.str ((ms.map fun x => mvText x.2).getD i Str.empty)) = (ms.map fun x => mvText x.2).map V.str := by
        apply List.ext_getElem?
        intro j
        by_cases hj : j < ms.length <;> simp [hj]
      rw [em]
      have hsum : ((ms.map fun x => mvText x.2).map (·.length)).sum ≤ 2000 * ms.length := by
        clear em h100 hl q
        induction ms with
        | nil => simp
        | cons m ms ih =>
          have h1 := mvText_len (hms m List.mem_cons_self).2
          have h2 := ih fun x hx => hms x (List.mem_cons_of_mem _ hx)
          rw [List.map_cons, List.map_cons, List.sum_cons, List.length_cons]
          omega
      refine ⟨_, _, _, rfl, rfl, SqL.of upd_same, ?_, end_same ((Same.refl H).new hD) q⟩
      rw [List.length_map]
      show _ + _ * 2 ≤ _
      omega
/-! ### the weaves to a place -/
structure Wvs (t : Adr) (H H' : Hp) (l : Addr) (ms : List Addr) (bs : List Nat) : Prop where
  same : Same H H'
  new : H l = none
  lst : H' l = some (.lst (ms.map V.ref))
  len : ms.length = bs.length
  at_ : ∀ (i : Nat) (r : Addr), ms[i]? = some r → r ≠ l ∧ IsMv t H' r (.weave (bs.getD i 0))
theorem Wvs.keep {H H' H'' : Hp} {l : Addr} {ms : List Addr} {bs : List Nat} (x : Wvs t H H' l ms bs) (s : Same H' H'') : Wvs t H H'' l ms bs :=
  ⟨x.same.trans s, x.new, s _ _ x.lst, x.len, fun i r h => by obtain ⟨h1, dx, h2⟩ := x.at_ i r h; exact ⟨h1, dx, s _ _ h2⟩⟩
def spBrought (t : Adr) : Sp := fun vs H Q _ => ∃ n p : Nat, vs = [.int (n : Int), .int (p : Int)] ∧ 2 ≤ n ∧ n ≤ 60 ∧ n % 2 = 0 ∧ p < n ∧ ∀ l ms H', Wvs t H H' l ms (bitsOf p) → Q (.ref l) H'
def brInv (t : Adr) (H : Hp) (n p : Nat) (l : Addr) (m : Nat) (σ : St) (H' : Hp) : Prop := ∃ (ms : List Addr) (bs : List Nat), bitsOf p = bitsOf m ++ bs ∧ m ≤ p ∧ σ = [some (.int (n : Int)), some (.int (p : Int)), some (.ref l), some (.int (m : Int))] ∧ Wvs t H H' l ms bs ∧ ms.length ≤ 60
theorem ok_brought {f : Addr} {fd : FuncData} (F : Fun K "brought" "brought" s_brought f fd) (T : Txt K mg t) (f_is_number : Fn1 P w K mg base 1 "is_number" spNum) (k_Weave : Mk1 P w K mg base 3 "Weave" t.weave (spInit1 t vWeave isWeave)) : FnOk P w K mg base CX0 5 f fd ["cards", "place"] (spBrought t) := by
  refine F.okG sc_brought (fun vs H Q E h => ?_) (fun cdv A outer s H vs Q E hr h => ?_)
  · obtain ⟨n, p, rfl, _⟩ := h
    rfl
  · obtain ⟨n, p, rfl, h2, h60, hev, hp, q⟩ := h
    have nd := sc_brought.nd
    have big : (1000 : Nat) < sizeLine := by decide
    refine ⟨_, (pss_cons (ps_if (PW.pt (pw_or (pt_not (pt_val (pe_fn f_is_number hr (by rfl) (pa_cons (pv 0) (pa_cons pe_int (pa_cons (pe_globI rfl T.mg_MOST_CARDS) pa_nil)))))) (pw_or1 (pt_cmpR op_eq (pe_op op_mod (pv 0) pe_int) pe_int (nomark _)))))
 pss_never
 pss_nil)
 (pss_cons (ps_if (pt_not (pt_val (pe_fn f_is_number hr (by rfl) (pa_cons (pv 1) (pa_cons pe_int (pa_cons (pe_op op_sub (pv 0) pe_int) pa_nil))))))
 pss_never
 pss_nil)
 (pss_cons (ps_set (i := 2) nd rfl (Or.inl rfl) (pe_lst pa_nil))
 (pss_cons (ps_set (i := 3) nd rfl (Or.inl rfl) (pv 1))
 (pss_cons (ps_while PassesOwn.never (pt_cmpR op_gt (pv 3) pe_int (nomark _))
 (pss_cons (ps_expr (pe_bm PySem.F.plainAttrs_list PySem.F.slot_list_insert PySem.F.type_list_insert mt_insert0 (pv 2) (pa_cons pe_int (pa_cons (pe_mk k_Weave hr (by rfl) (pa_cons (pe_op op_mod (pv 3) pe_int) pa_nil)) pa_nil))))
 (pss_one (ps_set (i := 3) nd rfl (Or.inl rfl) (pe_op op_fdiv (pv 3) pe_int)))))
 (pss_one (ps_ret (pv 2)))))))), ?_⟩
    refine ⟨_, rfl, _, _, _, rfl, _, rfl, ?_⟩
    rw [decide_eq_true (by omega : (2 : Int) ≤ (n : Int)), decide_eq_true (by omega : (n : Int) ≤ 60)]
    refine iteF ?_
    refine ⟨_, rfl, _, _, rfl, rfl, (by show (0 : Int) < 2; decide), rfl, _, rfl, ?_⟩
    rw [show decide (V.int ((n : Int) % 2) = V.int 1) = false from decide_eq_false (fun e => by injection e with e; omega)]
    refine iteF ?_
    refine ⟨_, rfl, _, rfl, _, _, rfl, rfl, _, _, _, rfl, _, rfl, ?_⟩
    rw [decide_eq_true (by omega : (0 : Int) ≤ (p : Int)), show decide ((p : Int) ≤ (n : Int) - 1) = true from decide_eq_true (by omega)]
    refine iteF ?_
    refine ⟨(by decide), fun l11 k11 => ?_⟩
    have e1 := (Same.refl H).new (o := .lst []) k11
    refine ⟨_, rfl, ?_⟩
    refine ⟨brInv t H n p l11, ⟨p, [], [], by simp, Nat.le_refl _, rfl, ⟨e1, k11, upd_same, rfl, fun i r h => by simp at h⟩, by simp⟩, ?_⟩
    rintro m σ H' ⟨ms, bs, hb, hmp, rfl, W, hms⟩
    refine ⟨_, rfl, _, _, rfl, rfl, _, rfl, ?_⟩
    refine ite2 (fun hc => ?_) fun hc => ?_
    · have hm0 : 0 < m := by have := of_decide_eq_true hc; omega
      refine ⟨fun σ' H'' => ∃ m', m' < m ∧ brInv t H n p l11 m' σ' H'', fun _ _ h => h, ?_⟩
      refine ⟨_, rfl, .inl ⟨rfl, _, SqL.of W.lst⟩, _, rfl, _, _, rfl, rfl, (by show (0 : Int) < 2; decide), ?_⟩
      intro x dx nx ndx nex
      have okm : (Mv.weave (m % 2)).ok := by show m % 2 ≤ 1; omega
      refine ⟨x, dx, .weave (m % 2), trivial, ?_, okm, upd_same, rfl, ?_⟩
      · show [V.ref x, V.int ((m : Int) % 2)] ++ [] = [V.ref x, V.int ((m % 2 : Nat) : Int)]
        rw [show (m : Int) % 2 = ((m % 2 : Nat) : Int) by omega]
        rfl
      rw [upd_upd]
      have s2 := (Same.new (Same.refl H') (o := .own x) ndx).new (o := .ins (Mv.cls t (.weave (m % 2))) dx (Mv.flds (.weave (m % 2)))) (by rw [upd_ne (Ne.symm nex)]; exact nx)
      have hx : IsMv t (upd (upd H' dx (.own x)) x (.ins (Mv.cls t (.weave (m % 2))) dx (Mv.flds (.weave (m % 2))))) x (.weave (m % 2)) := ⟨dx, upd_same⟩
      have nxl : x ≠ l11 := Ne.symm (ne_of_none W.lst nx)
      have W2 := W.keep s2
      revert hx W2
      generalize upd (upd H' dx (.own x)) x (.ins (Mv.cls t (.weave (m % 2))) dx (Mv.flds (.weave (m % 2)))) = H2
      intro hx W2
      refine ⟨_, _, _, rfl, rfl, W2.lst, by rw [List.length_map]; omega, ?_⟩
      refine ⟨_, rfl, _, _, rfl, rfl, ⟨by decide, by decide⟩, ?_⟩
      have hlen : ms.length + 1 ≤ 60 := by
        have h1 := bitsOf_len p 6 (by omega)
        rw [hb, List.length_append, bitsOf_pos hm0, List.length_append, W.len.symm] at h1
        simp at h1
        omega
      refine ⟨m / 2, by omega, x :: ms, m % 2 :: bs, ?_, by omega, ?_, ⟨W2.same.upd W2.new, W2.new, upd_same, by simp [W.len], fun i r h => ?_⟩, hlen⟩
      · rw [hb, bitsOf_pos hm0]
        simp
      · show [some (V.int (n : Int)), some (V.int (p : Int)), some (V.ref l11), some (V.int ((m : Int) / 2))] = _
        rw [show (m : Int) / 2 = ((m / 2 : Nat) : Int) by omega]
      · cases i with
        | zero =>
          have : x = r := by simpa using h
          subst this
          obtain ⟨dx', h'⟩ := hx
          exact ⟨nxl, dx', by rw [upd_ne nxl]; exact h'⟩
        | succ i =>
          obtain ⟨h1, dx', h'⟩ := W2.at_ i r (by simpa using h)
          exact ⟨h1, dx', by rw [upd_ne h1]; exact h'⟩
    · have hm0 : m = 0 := by
        have : ¬ (0 : Int) < (m : Int) := fun h => hc (decide_eq_true h)
        omega
      subst hm0
      rw [bitsOf_zero, List.nil_append] at hb
      rw [← hb] at W
      exact ⟨_, rfl, ⟨_, fun _ c => Gc.refl c, q l11 ms H' W⟩⟩
/-! ### woven here -/
def spWoven : Sp := fun vs H Q _ => ∃ (a : Addr) (xs : List Nat) (f : Nat), vs = [.ref a, .int (f : Int)] ∧ H a = some (.lst (nv xs)) ∧ xs.length % 2 = 0 ∧ xs.length ≤ 60 ∧ f ≤ 1 ∧ ∀ l, H l = none → Q (.ref l) (upd H l (.lst (nv (wov f xs (xs.length / 2) (xs.length / 2)))))
theorem ok__law_woven {f : Addr} {fd : FuncData} (F : Fun K "_law_woven" "_law_woven" s__law_woven f fd) (T : Txt K mg t) : FnOk P w K mg base CX0 1 f fd ["_law_order", "_law_first"] spWoven := by
  refine F.okG sc__law_woven (fun vs H Q E h => ?_) (fun cdv A outer s H vs Q E hr h => ?_)
  · obtain ⟨a, xs, f, rfl, _⟩ := h
    rfl
  · obtain ⟨a, xs, f', rfl, ha, hev, h60, hf, q⟩ := h
    have nd := sc__law_woven.nd
    have big : (1000 : Nat) < sizeLine := by decide
    have hl : (nv xs).length = xs.length := nv_length xs
    refine ⟨_, (pss_cons (ps_set (i := 2) nd rfl (Or.inl rfl) (pe_op op_fdiv (pe_callB call_len_seq (by rfl) T.no_len (show bootBuiltins "len" = some (.builtin "len") by decide +kernel) (pa_cons (pv 0) pa_nil)) pe_int))
 (pss_cons (ps_set (i := 3) nd rfl (Or.inl rfl) (pe_lst pa_nil))
 (pss_cons (ps_for PassesOwn.never rfl (pi_rng (pe_callTy call_rng1 (by rfl) T.no_range (show bootBuiltins "range" = some (.type "range") by decide +kernel) (pa_cons (pv 2) pa_nil))) (pg_name (i := 4) nd rfl (Or.inl rfl))
 (pss_cons (ps_set (i := 5) nd rfl (Or.inl rfl) (pe_lst (pa_cons (pe_ix ix_list (pv 0) (pv 4) (fun _ _ => rfl)) (pa_cons (pe_ix ix_list (pv 0) (pe_op op_add (pv 2) (pv 4)) (fun _ _ => rfl)) pa_nil))))
 (pss_one (ps_set (i := 3) nd rfl (Or.inl rfl) (pe_op op_cat (pv 3) (pe_ifExp (pt_cmpR op_eq (pv 1) pe_int (nomark _)) (pv 5) (pe_rev (pv 5) pe_neg)))))))
 (pss_one (ps_ret (pv 3)))))), ?_⟩
    refine ⟨_, rfl, _, _, rfl, .inl (SqL.of ha), _, _, rfl, rfl, ⟨by decide, by decide⟩, ?_⟩
    have eh : ((nv xs).length : Int) / 2 = ((xs.length / 2 : Nat) : Int) := by rw [hl]; omega
    show gName 2 (V.int (((nv xs).length : Int) / 2)) _ _ _
    rw [eh]
    refine ⟨(by decide), fun l7 k7 => ?_⟩
    have e7 := (Same.refl H).new (o := .lst []) k7
    refine ⟨_, rfl, _, rfl, fun r10 k10 => ?_⟩
    have s10 := Same.new (Same.refl _) (o := rngO r10 0 ((xs.length / 2 : Nat) : Int) 1) k10
    refine ⟨_, _, _, _, _, rfl, upd_same, rng_small (by decide) ⟨by omega, by omega⟩ (by decide) (by decide), rng_up, ?_⟩
    rw [show (((xs.length / 2 : Nat) : Int) - 0).toNat = xs.length / 2 by omega]
    refine for_range3 (fun i σ H' => ∃ (lm : Addr) (b c : Option V), σ = [some (.ref a), some (.int (f' : Int)), some (.int ((xs.length / 2 : Nat) : Int)), some (.ref lm), b, c] ∧ Same H H' ∧ H lm = none ∧ H' lm = some (.lst (nv (wov f' xs (xs.length / 2) i))))
      ⟨l7, none, none, rfl, e7.trans s10, k7, s10 _ _ upd_same⟩ ?_ ?_
    · rintro i σ H' hi ⟨lm, b, c, rfl, se, nlm, hM⟩
      have eV : (0 : Int) + (i : Int) * 1 = (i : Int) := by omega
      rw [eV]
      have hA := se _ _ ha
      have g1 : xs[i]? = some (xs.getD i 0) := by simp [List.getD_eq_getElem?_getD, show i < xs.length by omega]
      have g2 : xs[xs.length / 2 + i]? = some (xs.getD (xs.length / 2 + i) 0) := by simp [List.getD_eq_getElem?_getD, show xs.length / 2 + i < xs.length by omega]
      refine ⟨_, rfl, _, rfl, _, _, _, _, rfl, rfl, SqL.of hA, atI_nat (nv_get g1), _, rfl, _, rfl, _, rfl, _, _, rfl, rfl, _, _, _, V.int ((xs.getD (xs.length / 2 + i) 0 : Nat) : Int), rfl, rfl, SqL.of hA, ?_, (by show 2 ≤ sizeLine; decide), fun l22 k22 => ?_⟩
      · show atI (nv xs) (((xs.length / 2 : Nat) : Int) + (i : Int)) = _
        rw [show ((xs.length / 2 : Nat) : Int) + (i : Int) = ((xs.length / 2 + i : Nat) : Int) by omega]
        exact atI_nat (nv_get g2)
      have s22 := Same.new (Same.refl H') (o := .lst [.int ((xs.getD i 0 : Nat) : Int), .int ((xs.getD (xs.length / 2 + i) 0 : Nat) : Int)]) k22
      have nml : lm ≠ l22 := ne_of_none hM k22
      have hwl := wov_len f' xs (xs.length / 2) i
      refine ⟨_, rfl, _, rfl, rfl, _, rfl, ?_⟩
      refine ite2 (fun hc => ?_) fun hc => ?_
      · have hf0 : f' = 0 := by
          have := of_decide_eq_true hc
          injection this with this
          omega
        refine ⟨_, rfl, ?_⟩
        refine ⟨_, _, _, _, rfl, rfl, s22 _ _ hM, upd_same, by rw [nv_length, hwl]; show _ + 2 ≤ _; omega, fun l28 k28 => ?_⟩
        have e28 := (se.trans s22)
        refine ⟨l28, _, _, rfl, e28.new k28, e28.free k28, ?_⟩
        rw [upd_same, wov_succ, pairW, if_pos hf0]
        simp [nv]
      · have hf0 : ¬ f' = 0 := fun h => hc (decide_eq_true (by rw [h]; rfl))
        refine ⟨_, rfl, _, _, rfl, SqL.of upd_same, fun l24 k24 => ?_⟩
        have s24 := s22.new (o := .lst [V.int ((xs.getD i 0 : Nat) : Int), V.int ((xs.getD (xs.length / 2 + i) 0 : Nat) : Int)].reverse) k24
        refine ⟨_, _, _, _, rfl, rfl, s24 _ _ hM, upd_same, by rw [nv_length, hwl]; show _ + 2 ≤ _; omega, fun l28 k28 => ?_⟩
        have e28 := (se.trans s24)
        refine ⟨l28, _, _, rfl, e28.new k28, e28.free k28, ?_⟩
        rw [upd_same, wov_succ, pairW, if_neg hf0]
        simp [nv]
    · rintro σ H' ⟨lm, b, c, rfl, se, nlm, hM⟩
      exact ⟨_, rfl, end_lst se nlm hM q⟩
end
end Rf

set_option Elab.async false
set_option linter.all false
set_option maxRecDepth 100000
set_option maxHeartbeats 2000000
namespace Rf
open PySem L2
def spLaw (K : PySem.W.Frag) : Sp := fun vs H Q _ => ∃ (a : Addr) (ns : List Int), vs = [.ref a] ∧ SqL K H a (ns.map V.int) ∧ ns.length ≤ 63 ∧ ∀ H', Q (.bl true) H'
def wT (b : Nat) : Str := Str.ofString "weave " ++ numText b
theorem wT_in : ∀ b : Nat, b ≤ 1 → inV (.str (wT b)) [.str (Str.ofString "weave 0"), .str (Str.ofString "weave 1")] = true
  | 0, _ => by decide +kernel
  | 1, _ => by decide +kernel
theorem wT_last : ∀ b : Nat, b ≤ 1 → atI (wT b).cps.toList (-1) = some (48 + b)
  | 0, _ => by decide +kernel
  | 1, _ => by decide +kernel
theorem wT_int : ∀ b : Nat, b ≤ 1 → PySem.intText? ⟨#[48 + b]⟩ = some (b : Int)
  | 0, _ => by decide +kernel
  | 1, _ => by decide +kernel
theorem wT_len (b : Nat) (h : b ≤ 1) : (wT b).length ≤ 2000 := mvText_len (mv := .weave b) h
theorem rngV_rangeC (n : Nat) : rngV 0 1 ((n : Int) - 0).toNat = nv (List.range n) := by rw [show ((n : Int) - 0).toNat = n by omega, show (0 : Int) = ((0 : Nat) : Int) from rfl, rngV_nv, List.range_eq_range']
structure EqTxt (K : PySem.W.Frag) (t : Adr) : Prop where
  eq : PySem.W.findIn K (.ref t.weave) "__eq__" = some (some (.builtin "object.__eq__"))
  ob : PySem.W.mroIn K t.weave (.type "object") = some true
  int : PySem.W.mroIn K t.weave (.type "int") = some false
section
variable {P : Program} {w : World} {K : PySem.W.Frag} {mg : Str → Option Value} {base : Heap} {t : Adr}
theorem ok_law {f : Addr} {fd : FuncData} (F : Fun K "law" "law" s_law f fd) (T : Txt K mg t) (Y : TyTxt K t) (Eq : EqTxt K t) (f__law_cell_at : Fn1 P w K mg base 1 "_law_cell_at" (spCell K)) (f__law_draw : Fn1 P w K mg base 1 "_law_draw" spDraw) (f_brought : Fn1 P w K mg base 5 "brought" (spBrought t)) (f_written : Fn1 P w K mg base 3 "written" (spWritten t)) (f__law_woven : Fn1 P w K mg base 1 "_law_woven" spWoven) (m_done : ∀ mv : Mv, Mth P w K mg base 4 (mv.cls t) "done" (spDone t mv)) : FnOk P w K mg base CX0 6 f fd ["_law_script"] (spLaw K) := by
  refine F.okG sc_law (fun vs H Q E h => ?_) (fun cdv A outer s H vs Q E hr h => ?_)
  · obtain ⟨a, ns, rfl, _⟩ := h
    rfl
  · obtain ⟨a, ns, rfl, ha, h63, q⟩ := h
    have nd := sc_law.nd
    have hu := hr.units0
    have hu1 : (A.deeper (PyProof.Rows.envOfC (Str.ofString "law") (defScope s_law) s.heap.objs.size f cdv)).units + 1 < cLine := by have := hr.un; omega
    have big : (10000 : Nat) < sizeLine := by decide
    refine ⟨_, (pss_cons (ps_set (i := 1) nd rfl (Or.inl rfl) (pe_op op_add pe_int (pe_op op_mul pe_int (pe_fn f__law_draw hr (by rfl) (pa_cons (pe_fn f__law_cell_at hr (by rfl) (pa_cons (pv 0) (pa_cons pe_int pa_nil))) (pa_cons pe_int (pa_cons pe_int pa_nil)))))))
 (pss_cons (ps_if (pt_cmpR op_eq (pe_fn f__law_draw hr (by rfl) (pa_cons (pe_fn f__law_cell_at hr (by rfl) (pa_cons (pv 0) (pa_cons pe_int pa_nil))) (pa_cons pe_int (pa_cons pe_int pa_nil)))) pe_int (nomark _))
 (pss_one (ps_set (i := 1) nd rfl (Or.inl rfl) (pe_op op_add pe_int (pe_op op_mul pe_int (pe_fn f__law_draw hr (by rfl) (pa_cons (pe_fn f__law_cell_at hr (by rfl) (pa_cons (pv 0) (pa_cons pe_int pa_nil))) (pa_cons pe_int (pa_cons pe_int pa_nil))))))))
 pss_nil)
 (pss_cons (ps_for PassesOwn.never rfl (pi_rng (pe_callTy call_rng1 (by rfl) T.no_range (show bootBuiltins "range" = some (.type "range") by decide +kernel) (pa_cons (pv 1) pa_nil))) (pg_name (i := 2) nd rfl (Or.inl rfl))
 (pss_cons (ps_set (i := 3) nd rfl (Or.inl rfl) (pe_fn f_brought hr (by rfl) (pa_cons (pv 1) (pa_cons (pv 2) pa_nil))))
 (pss_cons (ps_if (PW.pt (pw_or (pt_not (pt_val (pe_callB call_isi (by rfl) T.no_isinstance (show bootBuiltins "isinstance" = some (.builtin "isinstance") by decide +kernel) (pa_cons (pv 3) (pa_cons (pe_bltn (v := .ty "list") rfl T.no_list (show bootBuiltins "list" = some (.type "list") by decide +kernel) rfl) pa_nil))))) (pw_or1 (pt_not (pt_val (pe_callB (call_all rfl) (by rfl) T.no_all (show bootBuiltins "all" = some (.builtin "all") by decide +kernel) (pa_cons (pe_lc (ys := []) (js := []) rfl (pi_list (pv 3)) rfl (by decide +kernel) (by decide +kernel) rfl rfl rfl (by decide +kernel) (fun _ _ _ _ => (pe_callB (call_isiK (K := K) rfl) (by rfl) T.no_isinstance (show bootBuiltins "isinstance" = some (.builtin "isinstance") by decide +kernel) (pa_cons (pv 0) (pa_cons (pe_glob (v := .ref _) rfl T.mg_Weave rfl) pa_nil))))) pa_nil)))))))
 (pss_one (ps_ret pe_bl))
 pss_nil)
 (pss_cons (ps_set (i := 4) nd rfl (Or.inl rfl) (pe_callTy (call_list_rng rfl) (by rfl) T.no_list (show bootBuiltins "list" = some (.type "list") by decide +kernel) (pa_cons (pe_callTy call_rng1 (by rfl) T.no_range (show bootBuiltins "range" = some (.type "range") by decide +kernel) (pa_cons (pv 1) pa_nil)) pa_nil)))
 (pss_cons (ps_for PassesOwn.never rfl (pi_list (pv 3)) (pg_name (i := 5) nd rfl (Or.inl rfl))
 (pss_cons (ps_set (i := 6) nd rfl (Or.inl rfl) (pe_fn f_written hr (by rfl) (pa_cons (pe_lst (pa_cons (pv 5) pa_nil)) pa_nil)))
 (pss_cons (ps_if (PW.pt (pw_or (pt_cmpR op_notIn_seq (pv 6) (pe_tup (pa_cons pe_str (pa_cons pe_str pa_nil))) (by rfl)) (pw_or1 (pt_cmpR (op_neL hu) (pe_mtD 4 hr (pv 5) (pa_cons (pv 4) pa_nil)) (pe_fn f__law_woven hr (by rfl) (pa_cons (pv 4) (pa_cons (pe_callTy call_int_str (by rfl) T.no_int (show bootBuiltins "int" = some (.type "int") by decide +kernel) (pa_cons (pe_ix ix_str (pv 6) (pe_neg) (fun _ _ => rfl)) pa_nil)) pa_nil))) (nomark _)))))
 (pss_one (ps_ret pe_bl))
 pss_nil)
 (pss_one (ps_set (i := 4) nd rfl (Or.inl rfl) (pe_fn f__law_woven hr (by rfl) (pa_cons (pv 4) (pa_cons (pe_callTy call_int_str (by rfl) T.no_int (show bootBuiltins "int" = some (.type "int") by decide +kernel) (pa_cons (pe_ix ix_str (pv 6) (pe_neg) (fun _ _ => rfl)) pa_nil)) pa_nil))))))))
 (pss_cons (ps_if (PW.pt (pw_or (pt_cmpR op_ne (pe_ix ix_list (pv 4) (pv 2) (fun _ _ => rfl)) pe_int (nomark _)) (pw_or1 (PW.pt (pw_and (pt_cmpR op_eq (pv 2) pe_int (nomark _)) (pw_and1 (pt_cmpR (op_neL hu) (pv 3) (pe_lst pa_nil) (nomark _))))))))
 (pss_one (ps_ret pe_bl))
 pss_nil)
 (pss_cons (ps_expr (pe_bm PySem.F.plainAttrs_list PySem.F.slot_list_append PySem.F.type_list_append mt_append (pv 3) (pa_cons pe_int pa_nil)))
 (pss_one (ps_if (pt_cmpR (op_in_obj hu1) pe_int (pe_fn f_brought hr (by rfl) (pa_cons (pv 1) (pa_cons (pv 2) pa_nil))) (by rfl))
 (pss_one (ps_ret pe_bl))
 pss_nil)))))))))
 (pss_one (ps_ret pe_bl))))), ?_⟩
    refine ⟨_, rfl, a, ns, 0, rfl, ha, fun z1 => ⟨z1, 0, 6, rfl, by decide, fun d1 hd1 => ?_⟩⟩
    refine ⟨_, _, rfl, rfl, .inl ⟨by decide, by decide⟩, _, _, rfl, rfl, ?_⟩
    show gName 1 (V.int (2 + 2 * (d1 : Int))) _ _ _
    rw [show (2 : Int) + 2 * (d1 : Int) = ((2 + 2 * d1 : Nat) : Int) by omega]
    dsimp only [gName]
    refine seq_gen (fun σ' H' => ∃ n : Nat, 2 ≤ n ∧ n ≤ 60 ∧ n % 2 = 0 ∧ σ' = [some (.ref a), some (.int (n : Int)), none, none, none, none, none] ∧ H' = H) (fun N hN => ?_) ?_
    · refine ⟨_, rfl, a, ns, 0, rfl, ha, fun z2 => ⟨z2, 1, 6, rfl, by decide, fun d2 hd2 => ⟨rfl, _, rfl, ?_⟩⟩⟩
      refine ite2 (fun _ => ?_) fun _ => ?_
      · refine ⟨_, rfl, a, ns, 0, rfl, ha, fun z3 => ⟨z3, 2, 30, rfl, by decide, fun d3 hd3 => ?_⟩⟩
        refine ⟨_, _, rfl, rfl, .inl ⟨by decide, by decide⟩, _, _, rfl, rfl, ?_⟩
        show gName 1 (V.int (2 + 2 * (d3 : Int))) _ _ _
        rw [show (2 : Int) + 2 * (d3 : Int) = ((2 + 2 * d3 : Nat) : Int) by omega]
        exact hN _ _ ⟨2 + 2 * d3, by omega, by omega, by omega, rfl, rfl⟩
      · exact hN _ _ ⟨2 + 2 * d1, by omega, by omega, by omega, rfl, rfl⟩
    rintro σ' H0 ⟨n, h2, h60, hev, rfl, e⟩
    subst e
    refine ⟨_, rfl, _, rfl, fun r5 k5 => ?_⟩
    refine ⟨_, _, _, _, _, rfl, upd_same, rng_small (by decide) ⟨by omega, by omega⟩ (by decide) (by decide), rng_up, ?_⟩
    rw [show ((n : Int) - 0).toNat = n by omega]
    refine for_range3 (fun i σ H' => ∃ b c d e f, σ = [some (.ref a), some (.int (n : Int)), b, c, d, e, f]) ⟨none, none, none, none, none, rfl⟩ ?_ ?_
    · rintro i σ H1 hi ⟨b, c, d, e, f, rfl⟩
      have eV : (0 : Int) + (i : Int) * 1 = (i : Int) := by omega
      rw [eV]
      refine ⟨_, rfl, _, rfl, n, i, rfl, h2, h60, hev, hi, fun l ms H2 W => ?_⟩
      have hbl := bitsOf_len i 6 (by omega)
      have hbit := bitsOf_le i
      have hbi : ∀ (j : Nat) (r : Addr), ms[j]? = some r → (bitsOf i).getD j 0 ≤ 1 ∧ (bitsOf i)[j]? = some ((bitsOf i).getD j 0) := fun j r h => by
        have hj : j < (bitsOf i).length := by rw [← W.len]; exact (List.getElem?_eq_some_iff.mp h).1
        have e2 : (bitsOf i)[j]? = some ((bitsOf i).getD j 0) := by simp [List.getD_eq_getElem?_getD, hj]
        exact ⟨hbit _ (List.mem_of_getElem? e2), e2⟩
      have hml : ms.length ≤ 6 := by rw [W.len]; exact hbl
      refine ⟨_, rfl, _, _, _, _, rfl, .lst W.lst, .inl ⟨_, rfl⟩, kit_list_list, _, rfl, ?_⟩
      refine iteF ?_
      refine ⟨_, rfl, _, rfl, ⟨_, SqL.of W.lst⟩, ?_⟩
      refine lc_go (K := K) (js := []) (xs := ms.map V.ref) (fun _ _ => .bl true) (SqL.of W.lst) (by rw [List.length_map]; omega) (fun j x R hx hR => ?_) fun D hD => ?_
      · rw [List.getElem?_map] at hx
        cases hmj : ms[j]? with
        | none => rw [hmj] at hx; simp at hx
        | some r =>
          rw [hmj] at hx
          simp at hx
          subst hx
          obtain ⟨_, hr'⟩ := W.at_ j r hmj
          exact ⟨_, rfl, _, _, _, _, rfl, Y.ty T hr', .inr ⟨_, rfl⟩, Y.kits (.weave _) 4 (by decide), hR⟩
      have em : (ms.map V.ref).mapIdx (fun _ _ => V.bl true) = (List.replicate ms.length true).map V.bl := by
        apply List.ext_getElem?
        intro j
        by_cases hj : j < ms.length <;> simp [hj]
      rw [em]
      refine ⟨_, _, rfl, SqL.of upd_same, _, rfl, ?_⟩
      rw [all_true (fun b hb => (List.mem_replicate.mp hb).2)]
      refine iteF ?_
      have W3 := W.keep (Same.new (Same.refl H2) (o := .lst ((List.replicate ms.length true).map V.bl)) hD)
      revert W3
      generalize upd H2 D (.lst ((List.replicate ms.length true).map V.bl)) = H3
      intro W3
      refine ⟨_, rfl, _, rfl, fun r32 k32 => ?_⟩
      have s32 := Same.new (Same.refl H3) (o := rngO r32 0 (n : Int) 1) k32
      refine ⟨_, _, _, _, _, rfl, upd_same, rng_small (by decide) ⟨by omega, by omega⟩ (by decide) (by decide), rng_up, by omega, fun l36 k36 => ?_⟩
      rw [rngV_rangeC]
      have W4 := W3.keep (s32.new (o := .lst (nv (List.range n))) k36)
      have hN4 : upd (upd H3 r32 (rngO r32 0 (n : Int) 1)) l36 (.lst (nv (List.range n))) l36 = some (.lst (nv (List.range n))) := upd_same
      revert W4 hN4
      generalize upd (upd H3 r32 (rngO r32 0 (n : Int) 1)) l36 (.lst (nv (List.range n))) = H4
      intro W4 hN4
      refine ⟨_, rfl, _, rfl, ⟨_, SqL.of W4.lst⟩, ?_⟩
      refine for_list (xs := ms.map V.ref) (fun j σ H' => ∃ (ln : Addr) (e f : Option V), σ = [some (.ref a), some (.int (n : Int)), some (.int (i : Int)), some (.ref l), some (.ref ln), e, f] ∧ Wvs t H1 H' l ms (bitsOf i) ∧ H' ln = some (.lst (nv (nowAt n ((bitsOf i).take j)))))
        ⟨l36, _, _, rfl, W4, hN4⟩ (fun j σ H' _ z => ?_) ?_ ?_
      · obtain ⟨_, _, _, _, W', _⟩ := z
        exact SqL.of W'.lst
      · rintro j x σ H5 hx ⟨ln, e, f, rfl, W5, hN5⟩
        rw [List.getElem?_map] at hx
        cases hmj : ms[j]? with
        | none => rw [hmj] at hx; simp at hx
        | some r =>
          rw [hmj] at hx
          simp at hx
          subst hx
          obtain ⟨hb1, hb2⟩ := hbi j r hmj
          obtain ⟨_, hr5⟩ := W5.at_ j r hmj
          generalize hbt : (bitsOf i).getD j 0 = bt at hb1 hb2 hr5
          have ok5 : (Mv.weave bt).ok := hb1
          have gN : Good (nowAt n ((bitsOf i).take j)) := ⟨nowAt_ord hev _, by rw [nowAt_len hev]; omega, by rw [nowAt_len hev]; omega⟩
          have lN := nowAt_len hev ((bitsOf i).take j)
          have en : nowAt n ((bitsOf i).take (j + 1)) = wov bt (nowAt n ((bitsOf i).take j)) (n / 2) (n / 2) := by
            rw [List.take_add_one, hb2]
            exact nowAt_snoc n _ bt
          refine ⟨_, rfl, (by show 1 ≤ sizeLine; decide), fun l38 k38 => ?_⟩
          have s38 := Same.new (Same.refl H5) (o := .lst [.ref r]) k38
          refine ⟨l38, [(r, .weave bt)], rfl, upd_same, fun x hx => ?_, by show 1 ≤ 100; decide, ?_⟩
          · have : x = (r, .weave bt) := by simpa using hx
            subst this
            obtain ⟨dx, h'⟩ := hr5
            exact ⟨⟨dx, s38 _ _ h'⟩, ok5⟩
          have et : Str.join (Str.ofString "; ") ([(r, Mv.weave bt)].map fun x => mvText x.2) = wT bt := rfl
          rw [et]
          have W6 := W5.keep s38
          have hN6 := s38 _ _ hN5
          revert W6 hN6
          generalize upd H5 l38 (.lst [.ref r]) = H6
          intro W6 hN6
          obtain ⟨_, dxr, hr6⟩ := W6.at_ j r hmj
          rw [hbt] at hr6
          refine ⟨_, rfl, (by show 2 ≤ sizeLine; decide), fun l39 k39 => ?_⟩
          have s39 := Same.new (Same.refl H6) (o := .tup [.str (Str.ofString "weave 0"), .str (Str.ofString "weave 1")]) k39
          refine ⟨_, _, rfl, .inr (SqT.of upd_same), rfl, rfl, _, rfl, ?_⟩
          rw [show (!inV (.str (wT bt)) [.str (Str.ofString "weave 0"), .str (Str.ofString "weave 1")]) = false by rw [wT_in bt hb1]; rfl]
          refine iteF ?_
          have W7 := W6.keep s39
          have hN7 := s39 _ _ hN6
          have hr7 := s39 _ _ hr6
          revert W7 hN7 hr7
          generalize upd H6 l39 (.tup [.str (Str.ofString "weave 0"), .str (Str.ofString "weave 1")]) = H7
          intro W7 hN7 hr7
          have fit : (Mv.weave bt).fits (nowAt n ((bitsOf i).take j)).length := by show _ % 2 = 0; rw [lN]; exact hev
          refine ⟨_, rfl, _, _, _, _, _, rfl, hr7, Mv.no_done _, m_done (.weave bt), _, rfl, r, ln, _, rfl, ⟨dxr, hr7⟩, ok5, fit, hN7, gN, fun l41 k41 => ?_⟩
          have ep : pick (nowAt n ((bitsOf i).take j)) (Mv.src (.weave bt) (nowAt n ((bitsOf i).take j)).length) = nowAt n ((bitsOf i).take (j + 1)) := by
            have h1 := pick_rif (xs := nowAt n ((bitsOf i).take j)) (w := weaveWord bt n) (by rw [weaveWord_length bt n hev, lN])
            rw [lN]
            show pick _ (srcRif (weaveWord bt n)) = _
            rw [h1, en]
            exact wov_rif (by rw [lN]; omega)
          rw [ep]
          have s41 := Same.new (Same.refl H7) (o := .lst (nv (nowAt n ((bitsOf i).take (j + 1))))) k41
          have wl := wT_len bt hb1
          refine ⟨_, rfl, _, rfl, _, _, _, rfl, rfl, by omega, wT_last bt hb1, _, _, rfl, wT_int bt hb1, by show 1 ≤ 640; decide, ln, _, bt, rfl, s41 _ _ hN7, by rw [lN]; exact hev, by rw [lN]; exact h60, hb1, fun l42 k42 => ?_⟩
          rw [lN, ← en]
          have s42 := s41.new (o := .lst (nv (nowAt n ((bitsOf i).take (j + 1))))) k42
          have n42 : l41 ≠ l42 := ne_of_none upd_same k42
          refine ⟨_, _, _, _, rfl, rfl, SqL.of (by rw [upd_ne n42]; exact upd_same), SqL.of upd_same, nv_flat _, nv_flat _, _, rfl, ?_⟩
          rw [eqVs_self]
          refine iteF ?_
          have W8 := W7.keep s42
          have hN8 := s42 _ _ hN7
          revert W8 hN8
          generalize upd (upd H7 l41 (.lst (nv (nowAt n ((bitsOf i).take (j + 1)))))) l42 (.lst (nv (nowAt n ((bitsOf i).take (j + 1))))) = H8
          intro W8 hN8
          refine ⟨_, rfl, _, rfl, _, _, _, rfl, rfl, by omega, wT_last bt hb1, _, _, rfl, wT_int bt hb1, by show 1 ≤ 640; decide, ln, _, bt, rfl, hN8, by rw [lN]; exact hev, by rw [lN]; exact h60, hb1, fun l43 k43 => ?_⟩
          rw [lN, ← en]
          exact ⟨l43, _, _, rfl, W8.keep (Same.new (Same.refl H8) k43), upd_same⟩
      · rintro σ H5 ⟨ln, e, f, rfl, W5, hN5⟩
        rw [List.length_map, W.len, List.take_of_length_le (Nat.le_refl _)] at hN5
        have hv := val_bits i
        have htop := nowAt_top hev (by omega) (bitsOf i) hbit (by rw [hv]; exact hi)
        rw [hv] at htop
        have hat : (nowAt n (bitsOf i))[i]? = some 0 := by
          have hlt : i < (nowAt n (bitsOf i)).length := by rw [nowAt_len hev]; exact hi
          rw [List.getD_eq_getElem?_getD, List.getElem?_eq_getElem hlt] at htop
          rw [List.getElem?_eq_getElem hlt]
          exact congrArg some htop
        refine ⟨_, rfl, _, rfl, _, _, _, _, rfl, rfl, SqL.of hN5, atI_nat (nv_get hat), rfl, _, rfl, ?_⟩
        refine iteF ?_
        refine ⟨_, rfl, rfl, _, rfl, ?_⟩
        refine ite2 (fun hc => ?_) fun hc => ?_
        · have hi0 : i = 0 := by
            have := of_decide_eq_true hc
            injection this with this
            omega
          have hms0 : ms = [] := by
            have := W.len
            rw [hi0, bitsOf_zero] at this
            exact List.length_eq_zero_iff.mp this
          refine ⟨_, rfl, (by decide), fun l58 k58 => ?_⟩
          have W6 := W5.keep (Same.new (Same.refl H5) (o := .lst []) k58)
          refine ⟨_, _, _, _, rfl, rfl, SqL.of W6.lst, SqL.of upd_same, by rw [hms0]; rfl, rfl, _, rfl, ?_⟩
          rw [show eqVs (ms.map V.ref) [] = true by rw [hms0]; rfl]
          refine iteF ?_
          refine ⟨_, rfl, .inl ⟨rfl, _, SqL.of W6.lst⟩, _, _, _, rfl, rfl, W6.lst, by rw [List.length_map]; omega, ?_⟩
          refine ⟨_, rfl, _, rfl, n, i, rfl, h2, h60, hev, hi, fun l7 ms7 H7 W7 => ?_⟩
          refine ⟨l7, 0, ms7, rfl, rfl, W7.lst, fun p hp => ?_, _, rfl, ?_⟩
          · obtain ⟨j, hj⟩ := List.mem_iff_getElem?.mp hp
            obtain ⟨_, dx, hd⟩ := W7.at_ j p hj
            exact ⟨_, dx, _, hd, Eq.eq, Eq.ob, Eq.int⟩
          refine iteF ?_
          exact ⟨_, _, _, _, _, rfl⟩
        · refine iteF ?_
          have W6 := W5
          refine ⟨_, rfl, .inl ⟨rfl, _, SqL.of W6.lst⟩, _, _, _, rfl, rfl, W6.lst, by rw [List.length_map]; omega, ?_⟩
          refine ⟨_, rfl, _, rfl, n, i, rfl, h2, h60, hev, hi, fun l7 ms7 H7 W7 => ?_⟩
          refine ⟨l7, 0, ms7, rfl, rfl, W7.lst, fun p hp => ?_, _, rfl, ?_⟩
          · obtain ⟨j, hj⟩ := List.mem_iff_getElem?.mp hp
            obtain ⟨_, dx, hd⟩ := W7.at_ j p hj
            exact ⟨_, dx, _, hd, Eq.eq, Eq.ob, Eq.int⟩
          refine iteF ?_
          exact ⟨_, _, _, _, _, rfl⟩
    · rintro σ H1 ⟨b, c, d, e, f, rfl⟩
      exact ⟨_, fun _ c => Gc.refl c, q _⟩
end
end Rf

set_option Elab.async false
set_option linter.all false
set_option maxRecDepth 100000
set_option maxHeartbeats 4000000
namespace Rf
open PySem L2
theorem all_mk {l : PySem.W.OpenLaw} {w : World} {K : PySem.W.Frag} {h : Heap} {mg : Str → Option Value} {fa : Addr} (X : K.In h) (G : h.Ns mainGlobals mg) (hfa : mg "law" = some (.ref fa))
    {f_is_number : Addr} {od_is_number an_is_number : Option Addr} {sl_is_number : Array (Option Value)} {oc_is_number kV_is_number dc_is_number pm_is_number cd_is_number ct_is_number : Value}
    {f_is_order : Addr} {od_is_order an_is_order : Option Addr} {sl_is_order : Array (Option Value)} {oc_is_order kV_is_order dc_is_order pm_is_order cd_is_order ct_is_order : Value}
    {f_check_order : Addr} {od_check_order an_check_order : Option Addr} {sl_check_order : Array (Option Value)} {oc_check_order kV_check_order dc_check_order pm_check_order cd_check_order ct_check_order : Value}
    {f_is_word : Addr} {od_is_word an_is_word : Option Addr} {sl_is_word : Array (Option Value)} {oc_is_word kV_is_word dc_is_word pm_is_word cd_is_word ct_is_word : Value}
    {f_riffle_sources : Addr} {od_riffle_sources an_riffle_sources : Option Addr} {sl_riffle_sources : Array (Option Value)} {oc_riffle_sources kV_riffle_sources dc_riffle_sources pm_riffle_sources cd_riffle_sources ct_riffle_sources : Value}
    {f_check_move : Addr} {od_check_move an_check_move : Option Addr} {sl_check_move : Array (Option Value)} {oc_check_move kV_check_move dc_check_move pm_check_move cd_check_move ct_check_move : Value}
    {f_check_moves : Addr} {od_check_moves an_check_moves : Option Addr} {sl_check_moves : Array (Option Value)} {oc_check_moves kV_check_moves dc_check_moves pm_check_moves cd_check_moves ct_check_moves : Value}
    {f_brought : Addr} {od_brought an_brought : Option Addr} {sl_brought : Array (Option Value)} {oc_brought kV_brought dc_brought pm_brought cd_brought ct_brought : Value}
    {f_written : Addr} {od_written an_written : Option Addr} {sl_written : Array (Option Value)} {oc_written kV_written dc_written pm_written cd_written ct_written : Value}
    {f_move_written : Addr} {od_move_written an_move_written : Option Addr} {sl_move_written : Array (Option Value)} {oc_move_written kV_move_written dc_move_written pm_move_written cd_move_written ct_move_written : Value}
    {f__law_cell_at : Addr} {od__law_cell_at an__law_cell_at : Option Addr} {sl__law_cell_at : Array (Option Value)} {oc__law_cell_at kV__law_cell_at dc__law_cell_at pm__law_cell_at cd__law_cell_at ct__law_cell_at : Value}
    {f__law_draw : Addr} {od__law_draw an__law_draw : Option Addr} {sl__law_draw : Array (Option Value)} {oc__law_draw kV__law_draw dc__law_draw pm__law_draw cd__law_draw ct__law_draw : Value}
    {f__law_woven : Addr} {od__law_woven an__law_woven : Option Addr} {sl__law_woven : Array (Option Value)} {oc__law_woven kV__law_woven dc__law_woven pm__law_woven cd__law_woven ct__law_woven : Value}
    {f_law : Addr} {od_law an_law : Option Addr} {sl_law : Array (Option Value)} {oc_law kV_law dc_law pm_law cd_law ct_law : Value}
    {f_Cut___init__ : Addr} {od_Cut___init__ an_Cut___init__ : Option Addr} {sl_Cut___init__ : Array (Option Value)} {oc_Cut___init__ kV_Cut___init__ dc_Cut___init__ pm_Cut___init__ cd_Cut___init__ ct_Cut___init__ : Value}
    {f_Turn___init__ : Addr} {od_Turn___init__ an_Turn___init__ : Option Addr} {sl_Turn___init__ : Array (Option Value)} {oc_Turn___init__ kV_Turn___init__ dc_Turn___init__ pm_Turn___init__ cd_Turn___init__ ct_Turn___init__ : Value}
    {f_Deal___init__ : Addr} {od_Deal___init__ an_Deal___init__ : Option Addr} {sl_Deal___init__ : Array (Option Value)} {oc_Deal___init__ kV_Deal___init__ dc_Deal___init__ pm_Deal___init__ cd_Deal___init__ ct_Deal___init__ : Value}
    {f_Under___init__ : Addr} {od_Under___init__ an_Under___init__ : Option Addr} {sl_Under___init__ : Array (Option Value)} {oc_Under___init__ kV_Under___init__ dc_Under___init__ pm_Under___init__ cd_Under___init__ ct_Under___init__ : Value}
    {f_Weave___init__ : Addr} {od_Weave___init__ an_Weave___init__ : Option Addr} {sl_Weave___init__ : Array (Option Value)} {oc_Weave___init__ kV_Weave___init__ dc_Weave___init__ pm_Weave___init__ cd_Weave___init__ ct_Weave___init__ : Value}
    {f_Riffle___init__ : Addr} {od_Riffle___init__ an_Riffle___init__ : Option Addr} {sl_Riffle___init__ : Array (Option Value)} {oc_Riffle___init__ kV_Riffle___init__ dc_Riffle___init__ pm_Riffle___init__ cd_Riffle___init__ ct_Riffle___init__ : Value}
    {f_Cut_sources : Addr} {od_Cut_sources an_Cut_sources : Option Addr} {sl_Cut_sources : Array (Option Value)} {oc_Cut_sources kV_Cut_sources dc_Cut_sources pm_Cut_sources cd_Cut_sources ct_Cut_sources : Value}
    {f_Turn_sources : Addr} {od_Turn_sources an_Turn_sources : Option Addr} {sl_Turn_sources : Array (Option Value)} {oc_Turn_sources kV_Turn_sources dc_Turn_sources pm_Turn_sources cd_Turn_sources ct_Turn_sources : Value}
    {f_Deal_sources : Addr} {od_Deal_sources an_Deal_sources : Option Addr} {sl_Deal_sources : Array (Option Value)} {oc_Deal_sources kV_Deal_sources dc_Deal_sources pm_Deal_sources cd_Deal_sources ct_Deal_sources : Value}
    {f_Under_sources : Addr} {od_Under_sources an_Under_sources : Option Addr} {sl_Under_sources : Array (Option Value)} {oc_Under_sources kV_Under_sources dc_Under_sources pm_Under_sources cd_Under_sources ct_Under_sources : Value}
    {f_Weave_sources : Addr} {od_Weave_sources an_Weave_sources : Option Addr} {sl_Weave_sources : Array (Option Value)} {oc_Weave_sources kV_Weave_sources dc_Weave_sources pm_Weave_sources cd_Weave_sources ct_Weave_sources : Value}
    {f_Riffle_sources : Addr} {od_Riffle_sources an_Riffle_sources : Option Addr} {sl_Riffle_sources : Array (Option Value)} {oc_Riffle_sources kV_Riffle_sources dc_Riffle_sources pm_Riffle_sources cd_Riffle_sources ct_Riffle_sources : Value}
    {f_Move_done : Addr} {od_Move_done an_Move_done : Option Addr} {sl_Move_done : Array (Option Value)} {oc_Move_done kV_Move_done dc_Move_done pm_Move_done cd_Move_done ct_Move_done : Value}
    {C_Move : Addr}
    {C_Cut : Addr}
    {C_Turn : Addr}
    {C_Deal : Addr}
    {C_Under : Addr}
    {C_Weave : Addr}
    {C_Riffle : Addr}
    {tok60 : Tok}
    (A_Move : PySem.W.nsIn K mainGlobals "Move" = some (some (.ref C_Move)))
    (A_Cut : PySem.W.nsIn K mainGlobals "Cut" = some (some (.ref C_Cut)))
    (A_Turn : PySem.W.nsIn K mainGlobals "Turn" = some (some (.ref C_Turn)))
    (A_Deal : PySem.W.nsIn K mainGlobals "Deal" = some (some (.ref C_Deal)))
    (A_Under : PySem.W.nsIn K mainGlobals "Under" = some (some (.ref C_Under)))
    (A_Weave : PySem.W.nsIn K mainGlobals "Weave" = some (some (.ref C_Weave)))
    (A_Riffle : PySem.W.nsIn K mainGlobals "Riffle" = some (some (.ref C_Riffle)))
    (a_is_number : PySem.W.nsIn K mainGlobals "is_number" = some (some (.ref f_is_number)))
    (a_is_order : PySem.W.nsIn K mainGlobals "is_order" = some (some (.ref f_is_order)))
    (a_check_order : PySem.W.nsIn K mainGlobals "check_order" = some (some (.ref f_check_order)))
    (a_is_word : PySem.W.nsIn K mainGlobals "is_word" = some (some (.ref f_is_word)))
    (a_riffle_sources : PySem.W.nsIn K mainGlobals "riffle_sources" = some (some (.ref f_riffle_sources)))
    (a_check_move : PySem.W.nsIn K mainGlobals "check_move" = some (some (.ref f_check_move)))
    (a_check_moves : PySem.W.nsIn K mainGlobals "check_moves" = some (some (.ref f_check_moves)))
    (a_brought : PySem.W.nsIn K mainGlobals "brought" = some (some (.ref f_brought)))
    (a_written : PySem.W.nsIn K mainGlobals "written" = some (some (.ref f_written)))
    (a_move_written : PySem.W.nsIn K mainGlobals "move_written" = some (some (.ref f_move_written)))
    (a__law_cell_at : PySem.W.nsIn K mainGlobals "_law_cell_at" = some (some (.ref f__law_cell_at)))
    (a__law_draw : PySem.W.nsIn K mainGlobals "_law_draw" = some (some (.ref f__law_draw)))
    (a__law_woven : PySem.W.nsIn K mainGlobals "_law_woven" = some (some (.ref f__law_woven)))
    (a_law : PySem.W.nsIn K mainGlobals "law" = some (some (.ref f_law)))
    (a_Cut___init__ : PySem.W.findIn K (.ref C_Cut) "__init__" = some (some (.ref f_Cut___init__)))
    (i_Cut___init__ : PySem.W.isFn K (.ref f_Cut___init__) = true)
    (a_Turn___init__ : PySem.W.findIn K (.ref C_Turn) "__init__" = some (some (.ref f_Turn___init__)))
    (i_Turn___init__ : PySem.W.isFn K (.ref f_Turn___init__) = true)
    (a_Deal___init__ : PySem.W.findIn K (.ref C_Deal) "__init__" = some (some (.ref f_Deal___init__)))
    (i_Deal___init__ : PySem.W.isFn K (.ref f_Deal___init__) = true)
    (a_Under___init__ : PySem.W.findIn K (.ref C_Under) "__init__" = some (some (.ref f_Under___init__)))
    (i_Under___init__ : PySem.W.isFn K (.ref f_Under___init__) = true)
    (a_Weave___init__ : PySem.W.findIn K (.ref C_Weave) "__init__" = some (some (.ref f_Weave___init__)))
    (i_Weave___init__ : PySem.W.isFn K (.ref f_Weave___init__) = true)
    (a_Riffle___init__ : PySem.W.findIn K (.ref C_Riffle) "__init__" = some (some (.ref f_Riffle___init__)))
    (i_Riffle___init__ : PySem.W.isFn K (.ref f_Riffle___init__) = true)
    (a_Cut_sources : PySem.W.findIn K (.ref C_Cut) "sources" = some (some (.ref f_Cut_sources)))
    (i_Cut_sources : PySem.W.isFn K (.ref f_Cut_sources) = true)
    (a_Turn_sources : PySem.W.findIn K (.ref C_Turn) "sources" = some (some (.ref f_Turn_sources)))
    (i_Turn_sources : PySem.W.isFn K (.ref f_Turn_sources) = true)
    (a_Deal_sources : PySem.W.findIn K (.ref C_Deal) "sources" = some (some (.ref f_Deal_sources)))
    (i_Deal_sources : PySem.W.isFn K (.ref f_Deal_sources) = true)
    (a_Under_sources : PySem.W.findIn K (.ref C_Under) "sources" = some (some (.ref f_Under_sources)))
    (i_Under_sources : PySem.W.isFn K (.ref f_Under_sources) = true)
    (a_Weave_sources : PySem.W.findIn K (.ref C_Weave) "sources" = some (some (.ref f_Weave_sources)))
    (i_Weave_sources : PySem.W.isFn K (.ref f_Weave_sources) = true)
    (a_Riffle_sources : PySem.W.findIn K (.ref C_Riffle) "sources" = some (some (.ref f_Riffle_sources)))
    (i_Riffle_sources : PySem.W.isFn K (.ref f_Riffle_sources) = true)
    (a_Cut_done : PySem.W.findIn K (.ref C_Cut) "done" = some (some (.ref f_Move_done)))
    (a_Turn_done : PySem.W.findIn K (.ref C_Turn) "done" = some (some (.ref f_Move_done)))
    (a_Deal_done : PySem.W.findIn K (.ref C_Deal) "done" = some (some (.ref f_Move_done)))
    (a_Under_done : PySem.W.findIn K (.ref C_Under) "done" = some (some (.ref f_Move_done)))
    (a_Weave_done : PySem.W.findIn K (.ref C_Weave) "done" = some (some (.ref f_Move_done)))
    (a_Riffle_done : PySem.W.findIn K (.ref C_Riffle) "done" = some (some (.ref f_Move_done)))
    (i_Move_done : PySem.W.isFn K (.ref f_Move_done) = true)
    (l_is_number : K.lookup f_is_number = some ⟨oc_is_number, od_is_number, .func (PySem.W.fnOf "is_number" "is_number" (defArgs s_is_number) (defBody s_is_number) (defScope s_is_number) .none kV_is_number dc_is_number pm_is_number an_is_number cd_is_number ct_is_number), sl_is_number⟩)
    (c_is_number : PySem.W.codeIn K cd_is_number "is_number" = true)
    (k_is_number : PySem.W.keepIn K (.ref f_is_number) = true)
    (l_is_order : K.lookup f_is_order = some ⟨oc_is_order, od_is_order, .func (PySem.W.fnOf "is_order" "is_order" (defArgs s_is_order) (defBody s_is_order) (defScope s_is_order) .none kV_is_order dc_is_order pm_is_order an_is_order cd_is_order ct_is_order), sl_is_order⟩)
    (c_is_order : PySem.W.codeIn K cd_is_order "is_order" = true)
    (k_is_order : PySem.W.keepIn K (.ref f_is_order) = true)
    (l_check_order : K.lookup f_check_order = some ⟨oc_check_order, od_check_order, .func (PySem.W.fnOf "check_order" "check_order" (defArgs s_check_order) (defBody s_check_order) (defScope s_check_order) .none kV_check_order dc_check_order pm_check_order an_check_order cd_check_order ct_check_order), sl_check_order⟩)
    (c_check_order : PySem.W.codeIn K cd_check_order "check_order" = true)
    (k_check_order : PySem.W.keepIn K (.ref f_check_order) = true)
    (l_is_word : K.lookup f_is_word = some ⟨oc_is_word, od_is_word, .func (PySem.W.fnOf "is_word" "is_word" (defArgs s_is_word) (defBody s_is_word) (defScope s_is_word) .none kV_is_word dc_is_word pm_is_word an_is_word cd_is_word ct_is_word), sl_is_word⟩)
    (c_is_word : PySem.W.codeIn K cd_is_word "is_word" = true)
    (k_is_word : PySem.W.keepIn K (.ref f_is_word) = true)
    (l_riffle_sources : K.lookup f_riffle_sources = some ⟨oc_riffle_sources, od_riffle_sources, .func (PySem.W.fnOf "riffle_sources" "riffle_sources" (defArgs s_riffle_sources) (defBody s_riffle_sources) (defScope s_riffle_sources) .none kV_riffle_sources dc_riffle_sources pm_riffle_sources an_riffle_sources cd_riffle_sources ct_riffle_sources), sl_riffle_sources⟩)
    (c_riffle_sources : PySem.W.codeIn K cd_riffle_sources "riffle_sources" = true)
    (k_riffle_sources : PySem.W.keepIn K (.ref f_riffle_sources) = true)
    (l_check_move : K.lookup f_check_move = some ⟨oc_check_move, od_check_move, .func (PySem.W.fnOf "check_move" "check_move" (defArgs s_check_move) (defBody s_check_move) (defScope s_check_move) .none kV_check_move dc_check_move pm_check_move an_check_move cd_check_move ct_check_move), sl_check_move⟩)
    (c_check_move : PySem.W.codeIn K cd_check_move "check_move" = true)
    (k_check_move : PySem.W.keepIn K (.ref f_check_move) = true)
    (l_check_moves : K.lookup f_check_moves = some ⟨oc_check_moves, od_check_moves, .func (PySem.W.fnOf "check_moves" "check_moves" (defArgs s_check_moves) (defBody s_check_moves) (defScope s_check_moves) .none kV_check_moves dc_check_moves pm_check_moves an_check_moves cd_check_moves ct_check_moves), sl_check_moves⟩)
    (c_check_moves : PySem.W.codeIn K cd_check_moves "check_moves" = true)
    (k_check_moves : PySem.W.keepIn K (.ref f_check_moves) = true)
    (l_brought : K.lookup f_brought = some ⟨oc_brought, od_brought, .func (PySem.W.fnOf "brought" "brought" (defArgs s_brought) (defBody s_brought) (defScope s_brought) .none kV_brought dc_brought pm_brought an_brought cd_brought ct_brought), sl_brought⟩)
    (c_brought : PySem.W.codeIn K cd_brought "brought" = true)
    (k_brought : PySem.W.keepIn K (.ref f_brought) = true)
    (l_written : K.lookup f_written = some ⟨oc_written, od_written, .func (PySem.W.fnOf "written" "written" (defArgs s_written) (defBody s_written) (defScope s_written) .none kV_written dc_written pm_written an_written cd_written ct_written), sl_written⟩)
    (c_written : PySem.W.codeIn K cd_written "written" = true)
    (k_written : PySem.W.keepIn K (.ref f_written) = true)
    (l_move_written : K.lookup f_move_written = some ⟨oc_move_written, od_move_written, .func (PySem.W.fnOf "move_written" "move_written" (defArgs s_move_written) (defBody s_move_written) (defScope s_move_written) .none kV_move_written dc_move_written pm_move_written an_move_written cd_move_written ct_move_written), sl_move_written⟩)
    (c_move_written : PySem.W.codeIn K cd_move_written "move_written" = true)
    (k_move_written : PySem.W.keepIn K (.ref f_move_written) = true)
    (l__law_cell_at : K.lookup f__law_cell_at = some ⟨oc__law_cell_at, od__law_cell_at, .func (PySem.W.fnOf "_law_cell_at" "_law_cell_at" (defArgs s__law_cell_at) (defBody s__law_cell_at) (defScope s__law_cell_at) .none kV__law_cell_at dc__law_cell_at pm__law_cell_at an__law_cell_at cd__law_cell_at ct__law_cell_at), sl__law_cell_at⟩)
    (c__law_cell_at : PySem.W.codeIn K cd__law_cell_at "_law_cell_at" = true)
    (k__law_cell_at : PySem.W.keepIn K (.ref f__law_cell_at) = true)
    (l__law_draw : K.lookup f__law_draw = some ⟨oc__law_draw, od__law_draw, .func (PySem.W.fnOf "_law_draw" "_law_draw" (defArgs s__law_draw) (defBody s__law_draw) (defScope s__law_draw) .none kV__law_draw dc__law_draw pm__law_draw an__law_draw cd__law_draw ct__law_draw), sl__law_draw⟩)
    (c__law_draw : PySem.W.codeIn K cd__law_draw "_law_draw" = true)
    (k__law_draw : PySem.W.keepIn K (.ref f__law_draw) = true)
    (l__law_woven : K.lookup f__law_woven = some ⟨oc__law_woven, od__law_woven, .func (PySem.W.fnOf "_law_woven" "_law_woven" (defArgs s__law_woven) (defBody s__law_woven) (defScope s__law_woven) .none kV__law_woven dc__law_woven pm__law_woven an__law_woven cd__law_woven ct__law_woven), sl__law_woven⟩)
    (c__law_woven : PySem.W.codeIn K cd__law_woven "_law_woven" = true)
    (k__law_woven : PySem.W.keepIn K (.ref f__law_woven) = true)
    (l_law : K.lookup f_law = some ⟨oc_law, od_law, .func (PySem.W.fnOf "law" "law" (defArgs s_law) (defBody s_law) (defScope s_law) .none kV_law dc_law pm_law an_law cd_law ct_law), sl_law⟩)
    (c_law : PySem.W.codeIn K cd_law "law" = true)
    (k_law : PySem.W.keepIn K (.ref f_law) = true)
    (l_Cut___init__ : K.lookup f_Cut___init__ = some ⟨oc_Cut___init__, od_Cut___init__, .func (PySem.W.fnOf "__init__" "Cut.__init__" (defArgs s_Cut___init__) (defBody s_Cut___init__) (defScope s_Cut___init__) .none kV_Cut___init__ dc_Cut___init__ pm_Cut___init__ an_Cut___init__ cd_Cut___init__ ct_Cut___init__), sl_Cut___init__⟩)
    (c_Cut___init__ : PySem.W.codeIn K cd_Cut___init__ "Cut.__init__" = true)
    (k_Cut___init__ : PySem.W.keepIn K (.ref f_Cut___init__) = true)
    (l_Turn___init__ : K.lookup f_Turn___init__ = some ⟨oc_Turn___init__, od_Turn___init__, .func (PySem.W.fnOf "__init__" "Turn.__init__" (defArgs s_Turn___init__) (defBody s_Turn___init__) (defScope s_Turn___init__) .none kV_Turn___init__ dc_Turn___init__ pm_Turn___init__ an_Turn___init__ cd_Turn___init__ ct_Turn___init__), sl_Turn___init__⟩)
    (c_Turn___init__ : PySem.W.codeIn K cd_Turn___init__ "Turn.__init__" = true)
    (k_Turn___init__ : PySem.W.keepIn K (.ref f_Turn___init__) = true)
    (l_Deal___init__ : K.lookup f_Deal___init__ = some ⟨oc_Deal___init__, od_Deal___init__, .func (PySem.W.fnOf "__init__" "Deal.__init__" (defArgs s_Deal___init__) (defBody s_Deal___init__) (defScope s_Deal___init__) .none kV_Deal___init__ dc_Deal___init__ pm_Deal___init__ an_Deal___init__ cd_Deal___init__ ct_Deal___init__), sl_Deal___init__⟩)
    (c_Deal___init__ : PySem.W.codeIn K cd_Deal___init__ "Deal.__init__" = true)
    (k_Deal___init__ : PySem.W.keepIn K (.ref f_Deal___init__) = true)
    (l_Under___init__ : K.lookup f_Under___init__ = some ⟨oc_Under___init__, od_Under___init__, .func (PySem.W.fnOf "__init__" "Under.__init__" (defArgs s_Under___init__) (defBody s_Under___init__) (defScope s_Under___init__) .none kV_Under___init__ dc_Under___init__ pm_Under___init__ an_Under___init__ cd_Under___init__ ct_Under___init__), sl_Under___init__⟩)
    (c_Under___init__ : PySem.W.codeIn K cd_Under___init__ "Under.__init__" = true)
    (k_Under___init__ : PySem.W.keepIn K (.ref f_Under___init__) = true)
    (l_Weave___init__ : K.lookup f_Weave___init__ = some ⟨oc_Weave___init__, od_Weave___init__, .func (PySem.W.fnOf "__init__" "Weave.__init__" (defArgs s_Weave___init__) (defBody s_Weave___init__) (defScope s_Weave___init__) .none kV_Weave___init__ dc_Weave___init__ pm_Weave___init__ an_Weave___init__ cd_Weave___init__ ct_Weave___init__), sl_Weave___init__⟩)
    (c_Weave___init__ : PySem.W.codeIn K cd_Weave___init__ "Weave.__init__" = true)
    (k_Weave___init__ : PySem.W.keepIn K (.ref f_Weave___init__) = true)
    (l_Riffle___init__ : K.lookup f_Riffle___init__ = some ⟨oc_Riffle___init__, od_Riffle___init__, .func (PySem.W.fnOf "__init__" "Riffle.__init__" (defArgs s_Riffle___init__) (defBody s_Riffle___init__) (defScope s_Riffle___init__) .none kV_Riffle___init__ dc_Riffle___init__ pm_Riffle___init__ an_Riffle___init__ cd_Riffle___init__ ct_Riffle___init__), sl_Riffle___init__⟩)
    (c_Riffle___init__ : PySem.W.codeIn K cd_Riffle___init__ "Riffle.__init__" = true)
    (k_Riffle___init__ : PySem.W.keepIn K (.ref f_Riffle___init__) = true)
    (l_Cut_sources : K.lookup f_Cut_sources = some ⟨oc_Cut_sources, od_Cut_sources, .func (PySem.W.fnOf "sources" "Cut.sources" (defArgs s_Cut_sources) (defBody s_Cut_sources) (defScope s_Cut_sources) .none kV_Cut_sources dc_Cut_sources pm_Cut_sources an_Cut_sources cd_Cut_sources ct_Cut_sources), sl_Cut_sources⟩)
    (c_Cut_sources : PySem.W.codeIn K cd_Cut_sources "Cut.sources" = true)
    (k_Cut_sources : PySem.W.keepIn K (.ref f_Cut_sources) = true)
    (l_Turn_sources : K.lookup f_Turn_sources = some ⟨oc_Turn_sources, od_Turn_sources, .func (PySem.W.fnOf "sources" "Turn.sources" (defArgs s_Turn_sources) (defBody s_Turn_sources) (defScope s_Turn_sources) .none kV_Turn_sources dc_Turn_sources pm_Turn_sources an_Turn_sources cd_Turn_sources ct_Turn_sources), sl_Turn_sources⟩)
    (c_Turn_sources : PySem.W.codeIn K cd_Turn_sources "Turn.sources" = true)
    (k_Turn_sources : PySem.W.keepIn K (.ref f_Turn_sources) = true)
    (l_Deal_sources : K.lookup f_Deal_sources = some ⟨oc_Deal_sources, od_Deal_sources, .func (PySem.W.fnOf "sources" "Deal.sources" (defArgs s_Deal_sources) (defBody s_Deal_sources) (defScope s_Deal_sources) .none kV_Deal_sources dc_Deal_sources pm_Deal_sources an_Deal_sources cd_Deal_sources ct_Deal_sources), sl_Deal_sources⟩)
    (c_Deal_sources : PySem.W.codeIn K cd_Deal_sources "Deal.sources" = true)
    (k_Deal_sources : PySem.W.keepIn K (.ref f_Deal_sources) = true)
    (l_Under_sources : K.lookup f_Under_sources = some ⟨oc_Under_sources, od_Under_sources, .func (PySem.W.fnOf "sources" "Under.sources" (defArgs s_Under_sources) (defBody s_Under_sources) (defScope s_Under_sources) .none kV_Under_sources dc_Under_sources pm_Under_sources an_Under_sources cd_Under_sources ct_Under_sources), sl_Under_sources⟩)
    (c_Under_sources : PySem.W.codeIn K cd_Under_sources "Under.sources" = true)
    (k_Under_sources : PySem.W.keepIn K (.ref f_Under_sources) = true)
    (l_Weave_sources : K.lookup f_Weave_sources = some ⟨oc_Weave_sources, od_Weave_sources, .func (PySem.W.fnOf "sources" "Weave.sources" (defArgs s_Weave_sources) (defBody s_Weave_sources) (defScope s_Weave_sources) .none kV_Weave_sources dc_Weave_sources pm_Weave_sources an_Weave_sources cd_Weave_sources ct_Weave_sources), sl_Weave_sources⟩)
    (c_Weave_sources : PySem.W.codeIn K cd_Weave_sources "Weave.sources" = true)
    (k_Weave_sources : PySem.W.keepIn K (.ref f_Weave_sources) = true)
    (l_Riffle_sources : K.lookup f_Riffle_sources = some ⟨oc_Riffle_sources, od_Riffle_sources, .func (PySem.W.fnOf "sources" "Riffle.sources" (defArgs s_Riffle_sources) (defBody s_Riffle_sources) (defScope s_Riffle_sources) .none kV_Riffle_sources dc_Riffle_sources pm_Riffle_sources an_Riffle_sources cd_Riffle_sources ct_Riffle_sources), sl_Riffle_sources⟩)
    (c_Riffle_sources : PySem.W.codeIn K cd_Riffle_sources "Riffle.sources" = true)
    (k_Riffle_sources : PySem.W.keepIn K (.ref f_Riffle_sources) = true)
    (l_Move_done : K.lookup f_Move_done = some ⟨oc_Move_done, od_Move_done, .func (PySem.W.fnOf "done" "Move.done" (defArgs s_Move_done) (defBody s_Move_done) (defScope s_Move_done) .none kV_Move_done dc_Move_done pm_Move_done an_Move_done cd_Move_done ct_Move_done), sl_Move_done⟩)
    (c_Move_done : PySem.W.codeIn K cd_Move_done "Move.done" = true)
    (k_Move_done : PySem.W.keepIn K (.ref f_Move_done) = true)
    (pg_Cut : PySem.W.plainGet K C_Cut Str.empty = true)
    (hd_Cut : PySem.W.hasDictIn K C_Cut = true)
    (po_Cut : PySem.W.plainOver K C_Cut = true)
    (sa_Cut : PySem.W.findIn K (.ref C_Cut) "__setattr__" = some (some (.builtin "object.__setattr__")))
    (mk_Cut : PySem.W.makesIn K C_Cut = true)
    (kc_Cut : PySem.W.keepIn K (.ref C_Cut) = true)
    (yc_Cut : PySem.W.findIn K (.ref C_Cut) "__class__" = some (some (.builtin "object.__class__")))
    (ym_Cut : PySem.W.mroIn K C_Cut (.type "object") = some true)
    (yv_Cut : PySem.W.kitOne K (.ref C_Cut) (.ref C_Move) = some true)
    (y_Cut_Cut : PySem.W.kitOne K (.ref C_Cut) (.ref C_Cut) = some true)
    (y_Cut_Turn : PySem.W.kitOne K (.ref C_Cut) (.ref C_Turn) = some false)
    (y_Cut_Deal : PySem.W.kitOne K (.ref C_Cut) (.ref C_Deal) = some false)
    (y_Cut_Under : PySem.W.kitOne K (.ref C_Cut) (.ref C_Under) = some false)
    (y_Cut_Weave : PySem.W.kitOne K (.ref C_Cut) (.ref C_Weave) = some false)
    (y_Cut_Riffle : PySem.W.kitOne K (.ref C_Cut) (.ref C_Riffle) = some false)
    (pg_Turn : PySem.W.plainGet K C_Turn Str.empty = true)
    (hd_Turn : PySem.W.hasDictIn K C_Turn = true)
    (po_Turn : PySem.W.plainOver K C_Turn = true)
    (sa_Turn : PySem.W.findIn K (.ref C_Turn) "__setattr__" = some (some (.builtin "object.__setattr__")))
    (mk_Turn : PySem.W.makesIn K C_Turn = true)
    (kc_Turn : PySem.W.keepIn K (.ref C_Turn) = true)
    (yc_Turn : PySem.W.findIn K (.ref C_Turn) "__class__" = some (some (.builtin "object.__class__")))
    (ym_Turn : PySem.W.mroIn K C_Turn (.type "object") = some true)
    (yv_Turn : PySem.W.kitOne K (.ref C_Turn) (.ref C_Move) = some true)
    (y_Turn_Cut : PySem.W.kitOne K (.ref C_Turn) (.ref C_Cut) = some false)
    (y_Turn_Turn : PySem.W.kitOne K (.ref C_Turn) (.ref C_Turn) = some true)
    (y_Turn_Deal : PySem.W.kitOne K (.ref C_Turn) (.ref C_Deal) = some false)
    (y_Turn_Under : PySem.W.kitOne K (.ref C_Turn) (.ref C_Under) = some false)
    (y_Turn_Weave : PySem.W.kitOne K (.ref C_Turn) (.ref C_Weave) = some false)
    (y_Turn_Riffle : PySem.W.kitOne K (.ref C_Turn) (.ref C_Riffle) = some false)
    (pg_Deal : PySem.W.plainGet K C_Deal Str.empty = true)
    (hd_Deal : PySem.W.hasDictIn K C_Deal = true)
    (po_Deal : PySem.W.plainOver K C_Deal = true)
    (sa_Deal : PySem.W.findIn K (.ref C_Deal) "__setattr__" = some (some (.builtin "object.__setattr__")))
    (mk_Deal : PySem.W.makesIn K C_Deal = true)
    (kc_Deal : PySem.W.keepIn K (.ref C_Deal) = true)
    (yc_Deal : PySem.W.findIn K (.ref C_Deal) "__class__" = some (some (.builtin "object.__class__")))
    (ym_Deal : PySem.W.mroIn K C_Deal (.type "object") = some true)
    (yv_Deal : PySem.W.kitOne K (.ref C_Deal) (.ref C_Move) = some true)
    (y_Deal_Cut : PySem.W.kitOne K (.ref C_Deal) (.ref C_Cut) = some false)
    (y_Deal_Turn : PySem.W.kitOne K (.ref C_Deal) (.ref C_Turn) = some false)
    (y_Deal_Deal : PySem.W.kitOne K (.ref C_Deal) (.ref C_Deal) = some true)
    (y_Deal_Under : PySem.W.kitOne K (.ref C_Deal) (.ref C_Under) = some false)
    (y_Deal_Weave : PySem.W.kitOne K (.ref C_Deal) (.ref C_Weave) = some false)
    (y_Deal_Riffle : PySem.W.kitOne K (.ref C_Deal) (.ref C_Riffle) = some false)
    (pg_Under : PySem.W.plainGet K C_Under Str.empty = true)
    (hd_Under : PySem.W.hasDictIn K C_Under = true)
    (po_Under : PySem.W.plainOver K C_Under = true)
    (sa_Under : PySem.W.findIn K (.ref C_Under) "__setattr__" = some (some (.builtin "object.__setattr__")))
    (mk_Under : PySem.W.makesIn K C_Under = true)
    (kc_Under : PySem.W.keepIn K (.ref C_Under) = true)
    (yc_Under : PySem.W.findIn K (.ref C_Under) "__class__" = some (some (.builtin "object.__class__")))
    (ym_Under : PySem.W.mroIn K C_Under (.type "object") = some true)
    (yv_Under : PySem.W.kitOne K (.ref C_Under) (.ref C_Move) = some true)
    (y_Under_Cut : PySem.W.kitOne K (.ref C_Under) (.ref C_Cut) = some false)
    (y_Under_Turn : PySem.W.kitOne K (.ref C_Under) (.ref C_Turn) = some false)
    (y_Under_Deal : PySem.W.kitOne K (.ref C_Under) (.ref C_Deal) = some false)
    (y_Under_Under : PySem.W.kitOne K (.ref C_Under) (.ref C_Under) = some true)
    (y_Under_Weave : PySem.W.kitOne K (.ref C_Under) (.ref C_Weave) = some false)
    (y_Under_Riffle : PySem.W.kitOne K (.ref C_Under) (.ref C_Riffle) = some false)
    (pg_Weave : PySem.W.plainGet K C_Weave Str.empty = true)
    (hd_Weave : PySem.W.hasDictIn K C_Weave = true)
    (po_Weave : PySem.W.plainOver K C_Weave = true)
    (sa_Weave : PySem.W.findIn K (.ref C_Weave) "__setattr__" = some (some (.builtin "object.__setattr__")))
    (mk_Weave : PySem.W.makesIn K C_Weave = true)
    (kc_Weave : PySem.W.keepIn K (.ref C_Weave) = true)
    (yc_Weave : PySem.W.findIn K (.ref C_Weave) "__class__" = some (some (.builtin "object.__class__")))
    (ym_Weave : PySem.W.mroIn K C_Weave (.type "object") = some true)
    (yv_Weave : PySem.W.kitOne K (.ref C_Weave) (.ref C_Move) = some true)
    (y_Weave_Cut : PySem.W.kitOne K (.ref C_Weave) (.ref C_Cut) = some false)
    (y_Weave_Turn : PySem.W.kitOne K (.ref C_Weave) (.ref C_Turn) = some false)
    (y_Weave_Deal : PySem.W.kitOne K (.ref C_Weave) (.ref C_Deal) = some false)
    (y_Weave_Under : PySem.W.kitOne K (.ref C_Weave) (.ref C_Under) = some false)
    (y_Weave_Weave : PySem.W.kitOne K (.ref C_Weave) (.ref C_Weave) = some true)
    (y_Weave_Riffle : PySem.W.kitOne K (.ref C_Weave) (.ref C_Riffle) = some false)
    (pg_Riffle : PySem.W.plainGet K C_Riffle Str.empty = true)
    (hd_Riffle : PySem.W.hasDictIn K C_Riffle = true)
    (po_Riffle : PySem.W.plainOver K C_Riffle = true)
    (sa_Riffle : PySem.W.findIn K (.ref C_Riffle) "__setattr__" = some (some (.builtin "object.__setattr__")))
    (mk_Riffle : PySem.W.makesIn K C_Riffle = true)
    (kc_Riffle : PySem.W.keepIn K (.ref C_Riffle) = true)
    (yc_Riffle : PySem.W.findIn K (.ref C_Riffle) "__class__" = some (some (.builtin "object.__class__")))
    (ym_Riffle : PySem.W.mroIn K C_Riffle (.type "object") = some true)
    (yv_Riffle : PySem.W.kitOne K (.ref C_Riffle) (.ref C_Move) = some true)
    (y_Riffle_Cut : PySem.W.kitOne K (.ref C_Riffle) (.ref C_Cut) = some false)
    (y_Riffle_Turn : PySem.W.kitOne K (.ref C_Riffle) (.ref C_Turn) = some false)
    (y_Riffle_Deal : PySem.W.kitOne K (.ref C_Riffle) (.ref C_Deal) = some false)
    (y_Riffle_Under : PySem.W.kitOne K (.ref C_Riffle) (.ref C_Under) = some false)
    (y_Riffle_Weave : PySem.W.kitOne K (.ref C_Riffle) (.ref C_Weave) = some false)
    (y_Riffle_Riffle : PySem.W.kitOne K (.ref C_Riffle) (.ref C_Riffle) = some true)
    (yg : PySem.W.specialIn K (.builtin "object.__class__") "__get__" = some (some (.builtin "getset_descriptor.__get__")))
    (yt : PySem.W.takesIn K (.builtin "object.__class__") = some true)
    (na_many : PySem.W.findIn K (.ref C_Cut) "many" = some none)
    (na_piles : PySem.W.findIn K (.ref C_Deal) "piles" = some none)
    (na_first : PySem.W.findIn K (.ref C_Weave) "first" = some none)
    (na_word : PySem.W.findIn K (.ref C_Riffle) "word" = some none)
    (no_isinstance : PySem.W.nsIn K mainGlobals "isinstance" = some none)
    (no_bool : PySem.W.nsIn K mainGlobals "bool" = some none)
    (no_int : PySem.W.nsIn K mainGlobals "int" = some none)
    (no_list : PySem.W.nsIn K mainGlobals "list" = some none)
    (no_str : PySem.W.nsIn K mainGlobals "str" = some none)
    (no_len : PySem.W.nsIn K mainGlobals "len" = some none)
    (no_all : PySem.W.nsIn K mainGlobals "all" = some none)
    (no_any : PySem.W.nsIn K mainGlobals "any" = some none)
    (no_min : PySem.W.nsIn K mainGlobals "min" = some none)
    (no_max : PySem.W.nsIn K mainGlobals "max" = some none)
    (no_sum : PySem.W.nsIn K mainGlobals "sum" = some none)
    (no_range : PySem.W.nsIn K mainGlobals "range" = some none)
    (no_set : PySem.W.nsIn K mainGlobals "set" = some none)
    (no_reversed : PySem.W.nsIn K mainGlobals "reversed" = some none)
    (no_enumerate : PySem.W.nsIn K mainGlobals "enumerate" = some none)
    (eqW : PySem.W.findIn K (.ref C_Weave) "__eq__" = some (some (.builtin "object.__eq__")))
    (inW : PySem.W.mroIn K C_Weave (.type "int") = some false)
    (MC : PySem.W.nsIn K mainGlobals "MOST_CARDS" = some (some (.int 60 tok60)))
    : ∃ fd : FuncData, (∀ (s : Shared) (v : Value), BindsTo s fd ⟨[v], []⟩ [("_law_script", v)]) ∧ ∀ base : Heap, K.In base → base.Ns mainGlobals mg → FnOk l.prog w K mg base CX0 6 fa fd ["_law_script"] (spLaw K) := by
  have e := hfa.symm.trans (PySem.W.mg_of X G a_law)
  cases e
  have T : Txt K mg ⟨C_Move, C_Cut, C_Turn, C_Deal, C_Under, C_Weave, C_Riffle, 0, 0, 0⟩ := { no_isinstance := PySem.W.mg_none_of X G no_isinstance, no_bool := PySem.W.mg_none_of X G no_bool, no_int := PySem.W.mg_none_of X G no_int, no_list := PySem.W.mg_none_of X G no_list, no_str := PySem.W.mg_none_of X G no_str, no_len := PySem.W.mg_none_of X G no_len, no_all := PySem.W.mg_none_of X G no_all, no_any := PySem.W.mg_none_of X G no_any, no_min := PySem.W.mg_none_of X G no_min, no_max := PySem.W.mg_none_of X G no_max, no_sum := PySem.W.mg_none_of X G no_sum, no_range := PySem.W.mg_none_of X G no_range, no_set := PySem.W.mg_none_of X G no_set, no_reversed := PySem.W.mg_none_of X G no_reversed, no_enumerate := PySem.W.mg_none_of X G no_enumerate, mg_MOST_CARDS := ⟨_, PySem.W.mg_of X G MC⟩, mg_Move := PySem.W.mg_of X G A_Move, mg_Cut := PySem.W.mg_of X G A_Cut, mg_Turn := PySem.W.mg_of X G A_Turn, mg_Deal := PySem.W.mg_of X G A_Deal, mg_Under := PySem.W.mg_of X G A_Under, mg_Weave := PySem.W.mg_of X G A_Weave, mg_Riffle := PySem.W.mg_of X G A_Riffle, cl := fun mv => (match mv with | .cut _ => ⟨pg_Cut, hd_Cut, po_Cut, sa_Cut⟩ | .turn => ⟨pg_Turn, hd_Turn, po_Turn, sa_Turn⟩ | .deal _ => ⟨pg_Deal, hd_Deal, po_Deal, sa_Deal⟩ | .under => ⟨pg_Under, hd_Under, po_Under, sa_Under⟩ | .weave _ => ⟨pg_Weave, hd_Weave, po_Weave, sa_Weave⟩ | .riffle _ => ⟨pg_Riffle, hd_Riffle, po_Riffle, sa_Riffle⟩), na_many := na_many, na_piles := na_piles, na_first := na_first, na_word := na_word }
  have Y : TyTxt K ⟨C_Move, C_Cut, C_Turn, C_Deal, C_Under, C_Weave, C_Riffle, 0, 0, 0⟩ := ⟨(fun mv => match mv with | .cut _ => yc_Cut | .turn => yc_Turn | .deal _ => yc_Deal | .under => yc_Under | .weave _ => yc_Weave | .riffle _ => yc_Riffle), yg, yt, (fun mv => match mv with | .cut _ => ym_Cut | .turn => ym_Turn | .deal _ => ym_Deal | .under => ym_Under | .weave _ => ym_Weave | .riffle _ => ym_Riffle), (fun mv => match mv with | .cut _ => yv_Cut | .turn => yv_Turn | .deal _ => yv_Deal | .under => yv_Under | .weave _ => yv_Weave | .riffle _ => yv_Riffle), (fun mv i hi => match mv, i, hi with | .cut _, 0, _ => y_Cut_Cut | .cut _, 1, _ => y_Cut_Turn | .cut _, 2, _ => y_Cut_Deal | .cut _, 3, _ => y_Cut_Under | .cut _, 4, _ => y_Cut_Weave | .cut _, 5, _ => y_Cut_Riffle | .turn, 0, _ => y_Turn_Cut | .turn, 1, _ => y_Turn_Turn | .turn, 2, _ => y_Turn_Deal | .turn, 3, _ => y_Turn_Under | .turn, 4, _ => y_Turn_Weave | .turn, 5, _ => y_Turn_Riffle | .deal _, 0, _ => y_Deal_Cut | .deal _, 1, _ => y_Deal_Turn | .deal _, 2, _ => y_Deal_Deal | .deal _, 3, _ => y_Deal_Under | .deal _, 4, _ => y_Deal_Weave | .deal _, 5, _ => y_Deal_Riffle | .under, 0, _ => y_Under_Cut | .under, 1, _ => y_Under_Turn | .under, 2, _ => y_Under_Deal | .under, 3, _ => y_Under_Under | .under, 4, _ => y_Under_Weave | .under, 5, _ => y_Under_Riffle | .weave _, 0, _ => y_Weave_Cut | .weave _, 1, _ => y_Weave_Turn | .weave _, 2, _ => y_Weave_Deal | .weave _, 3, _ => y_Weave_Under | .weave _, 4, _ => y_Weave_Weave | .weave _, 5, _ => y_Weave_Riffle | .riffle _, 0, _ => y_Riffle_Cut | .riffle _, 1, _ => y_Riffle_Turn | .riffle _, 2, _ => y_Riffle_Deal | .riffle _, 3, _ => y_Riffle_Under | .riffle _, 4, _ => y_Riffle_Weave | .riffle _, 5, _ => y_Riffle_Riffle | _, n + 6, h => absurd h (by omega))⟩
  have F_is_number := fun_mk (st := s_is_number) l_is_number c_is_number k_is_number
  have b_is_number := F_is_number.binds (ps := ["value", "least", "most"]) fun _ _ _ _ _ _ us hl => match us, hl with | [_, _, _], _ => rfl
  have F_is_order := fun_mk (st := s_is_order) l_is_order c_is_order k_is_order
  have b_is_order := F_is_order.binds (ps := ["value"]) fun _ _ _ _ _ _ us hl => match us, hl with | [_], _ => rfl
  have F_check_order := fun_mk (st := s_check_order) l_check_order c_check_order k_check_order
  have b_check_order := F_check_order.binds (ps := ["value"]) fun _ _ _ _ _ _ us hl => match us, hl with | [_], _ => rfl
  have F_is_word := fun_mk (st := s_is_word) l_is_word c_is_word k_is_word
  have b_is_word := F_is_word.binds (ps := ["value"]) fun _ _ _ _ _ _ us hl => match us, hl with | [_], _ => rfl
  have F_riffle_sources := fun_mk (st := s_riffle_sources) l_riffle_sources c_riffle_sources k_riffle_sources
  have b_riffle_sources := F_riffle_sources.binds (ps := ["word"]) fun _ _ _ _ _ _ us hl => match us, hl with | [_], _ => rfl
  have F_check_move := fun_mk (st := s_check_move) l_check_move c_check_move k_check_move
  have b_check_move := F_check_move.binds (ps := ["value"]) fun _ _ _ _ _ _ us hl => match us, hl with | [_], _ => rfl
  have F_check_moves := fun_mk (st := s_check_moves) l_check_moves c_check_moves k_check_moves
  have b_check_moves := F_check_moves.binds (ps := ["value"]) fun _ _ _ _ _ _ us hl => match us, hl with | [_], _ => rfl
  have F_brought := fun_mk (st := s_brought) l_brought c_brought k_brought
  have b_brought := F_brought.binds (ps := ["cards", "place"]) fun _ _ _ _ _ _ us hl => match us, hl with | [_, _], _ => rfl
  have F_written := fun_mk (st := s_written) l_written c_written k_written
  have b_written := F_written.binds (ps := ["moves"]) fun _ _ _ _ _ _ us hl => match us, hl with | [_], _ => rfl
  have F_move_written := fun_mk (st := s_move_written) l_move_written c_move_written k_move_written
  have b_move_written := F_move_written.binds (ps := ["move"]) fun _ _ _ _ _ _ us hl => match us, hl with | [_], _ => rfl
  have F__law_cell_at := fun_mk (st := s__law_cell_at) l__law_cell_at c__law_cell_at k__law_cell_at
  have b__law_cell_at := F__law_cell_at.binds (ps := ["_law_script", "_law_k"]) fun _ _ _ _ _ _ us hl => match us, hl with | [_, _], _ => rfl
  have F__law_draw := fun_mk (st := s__law_draw) l__law_draw c__law_draw k__law_draw
  have b__law_draw := F__law_draw.binds (ps := ["_law_cell", "_law_k", "_law_many"]) fun _ _ _ _ _ _ us hl => match us, hl with | [_, _, _], _ => rfl
  have F__law_woven := fun_mk (st := s__law_woven) l__law_woven c__law_woven k__law_woven
  have b__law_woven := F__law_woven.binds (ps := ["_law_order", "_law_first"]) fun _ _ _ _ _ _ us hl => match us, hl with | [_, _], _ => rfl
  have F_law := fun_mk (st := s_law) l_law c_law k_law
  have b_law := F_law.binds (ps := ["_law_script"]) fun _ _ _ _ _ _ us hl => match us, hl with | [_], _ => rfl
  have F_Cut___init__ := fun_mk (st := s_Cut___init__) l_Cut___init__ c_Cut___init__ k_Cut___init__
  have b_Cut___init__ := F_Cut___init__.binds (ps := ["self", "many"]) fun _ _ _ _ _ _ us hl => match us, hl with | [_, _], _ => rfl
  have F_Turn___init__ := fun_mk (st := s_Turn___init__) l_Turn___init__ c_Turn___init__ k_Turn___init__
  have b_Turn___init__ := F_Turn___init__.binds (ps := ["self"]) fun _ _ _ _ _ _ us hl => match us, hl with | [_], _ => rfl
  have F_Deal___init__ := fun_mk (st := s_Deal___init__) l_Deal___init__ c_Deal___init__ k_Deal___init__
  have b_Deal___init__ := F_Deal___init__.binds (ps := ["self", "piles"]) fun _ _ _ _ _ _ us hl => match us, hl with | [_, _], _ => rfl
  have F_Under___init__ := fun_mk (st := s_Under___init__) l_Under___init__ c_Under___init__ k_Under___init__
  have b_Under___init__ := F_Under___init__.binds (ps := ["self"]) fun _ _ _ _ _ _ us hl => match us, hl with | [_], _ => rfl
  have F_Weave___init__ := fun_mk (st := s_Weave___init__) l_Weave___init__ c_Weave___init__ k_Weave___init__
  have b_Weave___init__ := F_Weave___init__.binds (ps := ["self", "first"]) fun _ _ _ _ _ _ us hl => match us, hl with | [_, _], _ => rfl
  have F_Riffle___init__ := fun_mk (st := s_Riffle___init__) l_Riffle___init__ c_Riffle___init__ k_Riffle___init__
  have b_Riffle___init__ := F_Riffle___init__.binds (ps := ["self", "word"]) fun _ _ _ _ _ _ us hl => match us, hl with | [_, _], _ => rfl
  have F_Cut_sources := fun_mk (st := s_Cut_sources) l_Cut_sources c_Cut_sources k_Cut_sources
  have b_Cut_sources := F_Cut_sources.binds (ps := ["self", "cards"]) fun _ _ _ _ _ _ us hl => match us, hl with | [_, _], _ => rfl
  have F_Turn_sources := fun_mk (st := s_Turn_sources) l_Turn_sources c_Turn_sources k_Turn_sources
  have b_Turn_sources := F_Turn_sources.binds (ps := ["self", "cards"]) fun _ _ _ _ _ _ us hl => match us, hl with | [_, _], _ => rfl
  have F_Deal_sources := fun_mk (st := s_Deal_sources) l_Deal_sources c_Deal_sources k_Deal_sources
  have b_Deal_sources := F_Deal_sources.binds (ps := ["self", "cards"]) fun _ _ _ _ _ _ us hl => match us, hl with | [_, _], _ => rfl
  have F_Under_sources := fun_mk (st := s_Under_sources) l_Under_sources c_Under_sources k_Under_sources
  have b_Under_sources := F_Under_sources.binds (ps := ["self", "cards"]) fun _ _ _ _ _ _ us hl => match us, hl with | [_, _], _ => rfl
  have F_Weave_sources := fun_mk (st := s_Weave_sources) l_Weave_sources c_Weave_sources k_Weave_sources
  have b_Weave_sources := F_Weave_sources.binds (ps := ["self", "cards"]) fun _ _ _ _ _ _ us hl => match us, hl with | [_, _], _ => rfl
  have F_Riffle_sources := fun_mk (st := s_Riffle_sources) l_Riffle_sources c_Riffle_sources k_Riffle_sources
  have b_Riffle_sources := F_Riffle_sources.binds (ps := ["self", "cards"]) fun _ _ _ _ _ _ us hl => match us, hl with | [_, _], _ => rfl
  have F_Move_done := fun_mk (st := s_Move_done) l_Move_done c_Move_done k_Move_done
  have b_Move_done := F_Move_done.binds (ps := ["self", "order"]) fun _ _ _ _ _ _ us hl => match us, hl with | [_, _], _ => rfl
  refine ⟨PySem.W.fnOf "law" "law" (defArgs s_law) (defBody s_law) (defScope s_law) .none kV_law dc_law pm_law an_law cd_law ct_law, fun s v => .of_eq rfl, fun base _ _ => ?_⟩
  have n_is_number : Fn1 l.prog w K mg base 1 "is_number" spNum := ⟨_, _, _, ok_is_number F_is_number T, PySem.W.mg_of X G a_is_number, k_is_number, b_is_number⟩
  have n_is_order : Fn1 l.prog w K mg base 2 "is_order" spIsOrder := ⟨_, _, _, ok_is_order F_is_order T n_is_number, PySem.W.mg_of X G a_is_order, k_is_order, b_is_order⟩
  have n_check_order : Fn1 l.prog w K mg base 3 "check_order" spCheckOrder := ⟨_, _, _, ok_check_order F_check_order T n_is_order, PySem.W.mg_of X G a_check_order, k_check_order, b_check_order⟩
  have n_is_word : Fn1 l.prog w K mg base 2 "is_word" spIsWord := ⟨_, _, _, ok_is_word F_is_word T n_is_number, PySem.W.mg_of X G a_is_word, k_is_word, b_is_word⟩
  have n_riffle_sources : Fn1 l.prog w K mg base 1 "riffle_sources" spRifSrc := ⟨_, _, _, ok_riffle_sources F_riffle_sources T, PySem.W.mg_of X G a_riffle_sources, k_riffle_sources, b_riffle_sources⟩
  have m_sources : ∀ mv : Mv, Mth l.prog w K mg base 2 (mv.cls ⟨C_Move, C_Cut, C_Turn, C_Deal, C_Under, C_Weave, C_Riffle, 0, 0, 0⟩) "sources" (spSrc ⟨C_Move, C_Cut, C_Turn, C_Deal, C_Under, C_Weave, C_Riffle, 0, 0, 0⟩ mv) := fun mv => match mv with | .cut x => ⟨T.cl (.cut x), _, _, _, ⟨a_Cut_sources, i_Cut_sources, k_Cut_sources⟩, ok_Cut_sources F_Cut_sources T, b_Cut_sources⟩ | .turn => ⟨T.cl (.turn), _, _, _, ⟨a_Turn_sources, i_Turn_sources, k_Turn_sources⟩, ok_Turn_sources F_Turn_sources T, b_Turn_sources⟩ | .deal x => ⟨T.cl (.deal x), _, _, _, ⟨a_Deal_sources, i_Deal_sources, k_Deal_sources⟩, ok_Deal_sources F_Deal_sources T, b_Deal_sources⟩ | .under => ⟨T.cl (.under), _, _, _, ⟨a_Under_sources, i_Under_sources, k_Under_sources⟩, ok_Under_sources F_Under_sources T, b_Under_sources⟩ | .weave x => ⟨T.cl (.weave x), _, _, _, ⟨a_Weave_sources, i_Weave_sources, k_Weave_sources⟩, ok_Weave_sources F_Weave_sources T n_riffle_sources, b_Weave_sources⟩ | .riffle x => ⟨T.cl (.riffle x), _, _, _, ⟨a_Riffle_sources, i_Riffle_sources, k_Riffle_sources⟩, ok_Riffle_sources F_Riffle_sources T n_riffle_sources, b_Riffle_sources⟩
  have m_done : ∀ mv : Mv, Mth l.prog w K mg base 4 (mv.cls ⟨C_Move, C_Cut, C_Turn, C_Deal, C_Under, C_Weave, C_Riffle, 0, 0, 0⟩) "done" (spDone ⟨C_Move, C_Cut, C_Turn, C_Deal, C_Under, C_Weave, C_Riffle, 0, 0, 0⟩ mv) := fun mv => match mv with | .cut x => ⟨T.cl (.cut x), _, _, _, ⟨a_Cut_done, i_Move_done, k_Move_done⟩, ok_Move_done F_Move_done T n_check_order (m_sources (.cut x)), b_Move_done⟩ | .turn => ⟨T.cl (.turn), _, _, _, ⟨a_Turn_done, i_Move_done, k_Move_done⟩, ok_Move_done F_Move_done T n_check_order (m_sources (.turn)), b_Move_done⟩ | .deal x => ⟨T.cl (.deal x), _, _, _, ⟨a_Deal_done, i_Move_done, k_Move_done⟩, ok_Move_done F_Move_done T n_check_order (m_sources (.deal x)), b_Move_done⟩ | .under => ⟨T.cl (.under), _, _, _, ⟨a_Under_done, i_Move_done, k_Move_done⟩, ok_Move_done F_Move_done T n_check_order (m_sources (.under)), b_Move_done⟩ | .weave x => ⟨T.cl (.weave x), _, _, _, ⟨a_Weave_done, i_Move_done, k_Move_done⟩, ok_Move_done F_Move_done T n_check_order (m_sources (.weave x)), b_Move_done⟩ | .riffle x => ⟨T.cl (.riffle x), _, _, _, ⟨a_Riffle_done, i_Move_done, k_Move_done⟩, ok_Move_done F_Move_done T n_check_order (m_sources (.riffle x)), b_Move_done⟩
  have k_Cut : Mk1 l.prog w K mg base 3 "Cut" C_Cut (spInit1 ⟨C_Move, C_Cut, C_Turn, C_Deal, C_Under, C_Weave, C_Riffle, 0, 0, 0⟩ vCut isCut) := ⟨_, _, _, ⟨mk_Cut, a_Cut___init__, i_Cut___init__, kc_Cut⟩, (ok_Cut___init__ F_Cut___init__ T n_is_number).mono (by decide), b_Cut___init__, PySem.W.mg_of X G A_Cut⟩
  have k_Turn : Mk1 l.prog w K mg base 3 "Turn" C_Turn (spInit0 ⟨C_Move, C_Cut, C_Turn, C_Deal, C_Under, C_Weave, C_Riffle, 0, 0, 0⟩ .turn) := ⟨_, _, _, ⟨mk_Turn, a_Turn___init__, i_Turn___init__, kc_Turn⟩, (ok_Turn___init__ F_Turn___init__ ).mono (by decide), b_Turn___init__, PySem.W.mg_of X G A_Turn⟩
  have k_Deal : Mk1 l.prog w K mg base 3 "Deal" C_Deal (spInit1 ⟨C_Move, C_Cut, C_Turn, C_Deal, C_Under, C_Weave, C_Riffle, 0, 0, 0⟩ vDeal isDeal) := ⟨_, _, _, ⟨mk_Deal, a_Deal___init__, i_Deal___init__, kc_Deal⟩, (ok_Deal___init__ F_Deal___init__ T n_is_number).mono (by decide), b_Deal___init__, PySem.W.mg_of X G A_Deal⟩
  have k_Under : Mk1 l.prog w K mg base 3 "Under" C_Under (spInit0 ⟨C_Move, C_Cut, C_Turn, C_Deal, C_Under, C_Weave, C_Riffle, 0, 0, 0⟩ .under) := ⟨_, _, _, ⟨mk_Under, a_Under___init__, i_Under___init__, kc_Under⟩, (ok_Under___init__ F_Under___init__ ).mono (by decide), b_Under___init__, PySem.W.mg_of X G A_Under⟩
  have k_Weave : Mk1 l.prog w K mg base 3 "Weave" C_Weave (spInit1 ⟨C_Move, C_Cut, C_Turn, C_Deal, C_Under, C_Weave, C_Riffle, 0, 0, 0⟩ vWeave isWeave) := ⟨_, _, _, ⟨mk_Weave, a_Weave___init__, i_Weave___init__, kc_Weave⟩, (ok_Weave___init__ F_Weave___init__ T n_is_number).mono (by decide), b_Weave___init__, PySem.W.mg_of X G A_Weave⟩
  have k_Riffle : Mk1 l.prog w K mg base 3 "Riffle" C_Riffle (spInit1 ⟨C_Move, C_Cut, C_Turn, C_Deal, C_Under, C_Weave, C_Riffle, 0, 0, 0⟩ vRiffle isRiffle) := ⟨_, _, _, ⟨mk_Riffle, a_Riffle___init__, i_Riffle___init__, kc_Riffle⟩, (ok_Riffle___init__ F_Riffle___init__ T n_is_word).mono (by decide), b_Riffle___init__, PySem.W.mg_of X G A_Riffle⟩
  have n_check_move : Fn1 l.prog w K mg base 1 "check_move" (spCheckMove ⟨C_Move, C_Cut, C_Turn, C_Deal, C_Under, C_Weave, C_Riffle, 0, 0, 0⟩) := ⟨_, _, _, ok_check_move F_check_move T Y, PySem.W.mg_of X G a_check_move, k_check_move, b_check_move⟩
  have n_check_moves : Fn1 l.prog w K mg base 2 "check_moves" (spCheckMoves ⟨C_Move, C_Cut, C_Turn, C_Deal, C_Under, C_Weave, C_Riffle, 0, 0, 0⟩) := ⟨_, _, _, ok_check_moves F_check_moves T n_check_move, PySem.W.mg_of X G a_check_moves, k_check_moves, b_check_moves⟩
  have n__law_cell_at : Fn1 l.prog w K mg base 1 "_law_cell_at" (spCell K) := ⟨_, _, _, ok__law_cell_at F__law_cell_at T, PySem.W.mg_of X G a__law_cell_at, k__law_cell_at, b__law_cell_at⟩
  have n__law_draw : Fn1 l.prog w K mg base 1 "_law_draw" spDraw := ⟨_, _, _, ok__law_draw F__law_draw , PySem.W.mg_of X G a__law_draw, k__law_draw, b__law_draw⟩
  have n_move_written : Fn1 l.prog w K mg base 1 "move_written" (spMoveWritten ⟨C_Move, C_Cut, C_Turn, C_Deal, C_Under, C_Weave, C_Riffle, 0, 0, 0⟩) := ⟨_, _, _, ok_move_written F_move_written T Y, PySem.W.mg_of X G a_move_written, k_move_written, b_move_written⟩
  have n_written : Fn1 l.prog w K mg base 3 "written" (spWritten ⟨C_Move, C_Cut, C_Turn, C_Deal, C_Under, C_Weave, C_Riffle, 0, 0, 0⟩) := ⟨_, _, _, ok_written F_written T n_check_moves n_move_written, PySem.W.mg_of X G a_written, k_written, b_written⟩
  have n_brought : Fn1 l.prog w K mg base 5 "brought" (spBrought ⟨C_Move, C_Cut, C_Turn, C_Deal, C_Under, C_Weave, C_Riffle, 0, 0, 0⟩) := ⟨_, _, _, ok_brought F_brought T n_is_number k_Weave, PySem.W.mg_of X G a_brought, k_brought, b_brought⟩
  have n__law_woven : Fn1 l.prog w K mg base 1 "_law_woven" spWoven := ⟨_, _, _, ok__law_woven F__law_woven T, PySem.W.mg_of X G a__law_woven, k__law_woven, b__law_woven⟩
  exact ok_law F_law T Y ⟨eqW, ym_Weave, inW⟩ n__law_cell_at n__law_draw n_brought n_written n__law_woven m_done
theorem walk {l : PySem.W.OpenLaw} {q : Program} {loose : List Str} {XP : (Str → Option Value) → Heap → Prop} {YP : World → Heap → Prop} {d : DefRec} {K : Params → PySem.W.Frag} (hn : l.most = some 63) (hdf : d.params.defaults = [])
    (hY : ∀ (w : World) (h : Heap), YP w h → (K w.params).In h)
    (F : ∀ (w : World) (mg : Str → Option Value) (fa : Addr) (h : Heap), (K w.params).In h → h.Ns mainGlobals mg → mg d.name = some (.ref fa) →
      ∃ fd : FuncData, (∀ (s : Shared) (u : Value), BindsTo s fd ⟨[u], []⟩ [("_law_script", u)]) ∧ ∀ base : Heap, (K w.params).In base → base.Ns mainGlobals mg → FnOk l.prog w (K w.params) mg base CX0 6 fa fd ["_law_script"] (spLaw (K w.params))) :
    PySem.W.WalkO q loose XP YP l.row.toRowW d [] (fun f vs => PySem.call f vs) :=
  L2.walk_of (n := 63) (k := 6) (x := "_law_script") (CX := fun _ => CX0) (sp := fun w => spLaw (K w.params)) hn (by decide) hdf ⟨rfl, by decide, by decide⟩ hY F (fun _ _ a ns hl _ hS => ⟨a, ns, rfl, hS, hl, fun _ => rfl⟩) fun _ _ _ _ _ z => z
end Rf

set_option Elab.async false
set_option linter.all false
open PySem PySem.W PyProof.Rows
def PySem.W.Fast.tw4439124512004974569 : Unit := ()
def PySem.W.Fast.tw17700494006971382057 : Unit := ()
def PySem.W.Fast.tw2265194691403925855 : Unit := ()
def PySem.W.Fast.tw3028058301966927501 : Unit := ()
def PySem.W.Fast.tw5078844003292533532 : Unit := ()
def PySem.W.Fast.tw2253021800671940803 : Unit := ()
def PySem.W.Fast.tw1644542078642742916 : Unit := ()
def PySem.W.Fast.tw8541604612596325221 : Unit := ()
def PySem.W.Fast.tw5684683638549520307 : Unit := ()
def PySem.W.Fast.tw7415635268535287328 : Unit := ()
def PySem.W.Fast.tw1526123448479174885 : Unit := ()
def PySem.W.Fast.tw17445173582210108118 : Unit := ()
def PySem.W.Fast.tw17981739586672229543 : Unit := ()
def PySem.W.Fast.tw15831843609148797220 : Unit := ()
set_option maxRecDepth 100000 in
set_option maxHeartbeats 0 in
theorem PySem.Challenge.cw_riffles_k07_brought_holds : PySem.Challenge.rw_riffles_k07_brought.Holds := by
  w_on; o_law; k_head; (case hw => w_witness2)
  k_fill
  refine Rf.walk (l := PySem.Challenge.rw_riffles_k07_brought) rfl rfl (fun w h Y => PySem.W.kIn_of Y) ?F
  case F =>
    intro w mg fa h KX G hmg
    refine' Rf.all_mk KX G hmg ?A_Move ?A_Cut ?A_Turn ?A_Deal ?A_Under ?A_Weave ?A_Riffle ?a_is_number ?a_is_order ?a_check_order ?a_is_word ?a_riffle_sources ?a_check_move ?a_check_moves ?a_brought ?a_written ?a_move_written ?a__law_cell_at ?a__law_draw ?a__law_woven ?a_law ?a_Cut___init__ ?i_Cut___init__ ?a_Turn___init__ ?i_Turn___init__ ?a_Deal___init__ ?i_Deal___init__ ?a_Under___init__ ?i_Under___init__ ?a_Weave___init__ ?i_Weave___init__ ?a_Riffle___init__ ?i_Riffle___init__ ?a_Cut_sources ?i_Cut_sources ?a_Turn_sources ?i_Turn_sources ?a_Deal_sources ?i_Deal_sources ?a_Under_sources ?i_Under_sources ?a_Weave_sources ?i_Weave_sources ?a_Riffle_sources ?i_Riffle_sources ?a_Cut_done ?a_Turn_done ?a_Deal_done ?a_Under_done ?a_Weave_done ?a_Riffle_done ?i_Move_done ?l_is_number ?c_is_number ?k_is_number ?l_is_order ?c_is_order ?k_is_order ?l_check_order ?c_check_order ?k_check_order ?l_is_word ?c_is_word ?k_is_word ?l_riffle_sources ?c_riffle_sources ?k_riffle_sources ?l_check_move ?c_check_move ?k_check_move ?l_check_moves ?c_check_moves ?k_check_moves ?l_brought ?c_brought ?k_brought ?l_written ?c_written ?k_written ?l_move_written ?c_move_written ?k_move_written ?l__law_cell_at ?c__law_cell_at ?k__law_cell_at ?l__law_draw ?c__law_draw ?k__law_draw ?l__law_woven ?c__law_woven ?k__law_woven ?l_law ?c_law ?k_law ?l_Cut___init__ ?c_Cut___init__ ?k_Cut___init__ ?l_Turn___init__ ?c_Turn___init__ ?k_Turn___init__ ?l_Deal___init__ ?c_Deal___init__ ?k_Deal___init__ ?l_Under___init__ ?c_Under___init__ ?k_Under___init__ ?l_Weave___init__ ?c_Weave___init__ ?k_Weave___init__ ?l_Riffle___init__ ?c_Riffle___init__ ?k_Riffle___init__ ?l_Cut_sources ?c_Cut_sources ?k_Cut_sources ?l_Turn_sources ?c_Turn_sources ?k_Turn_sources ?l_Deal_sources ?c_Deal_sources ?k_Deal_sources ?l_Under_sources ?c_Under_sources ?k_Under_sources ?l_Weave_sources ?c_Weave_sources ?k_Weave_sources ?l_Riffle_sources ?c_Riffle_sources ?k_Riffle_sources ?l_Move_done ?c_Move_done ?k_Move_done ?pg_Cut ?hd_Cut ?po_Cut ?sa_Cut ?mk_Cut ?kc_Cut ?yc_Cut ?ym_Cut ?yv_Cut ?y_Cut_Cut ?y_Cut_Turn ?y_Cut_Deal ?y_Cut_Under ?y_Cut_Weave ?y_Cut_Riffle ?pg_Turn ?hd_Turn ?po_Turn ?sa_Turn ?mk_Turn ?kc_Turn ?yc_Turn ?ym_Turn ?yv_Turn ?y_Turn_Cut ?y_Turn_Turn ?y_Turn_Deal ?y_Turn_Under ?y_Turn_Weave ?y_Turn_Riffle ?pg_Deal ?hd_Deal ?po_Deal ?sa_Deal ?mk_Deal ?kc_Deal ?yc_Deal ?ym_Deal ?yv_Deal ?y_Deal_Cut ?y_Deal_Turn ?y_Deal_Deal ?y_Deal_Under ?y_Deal_Weave ?y_Deal_Riffle ?pg_Under ?hd_Under ?po_Under ?sa_Under ?mk_Under ?kc_Under ?yc_Under ?ym_Under ?yv_Under ?y_Under_Cut ?y_Under_Turn ?y_Under_Deal ?y_Under_Under ?y_Under_Weave ?y_Under_Riffle ?pg_Weave ?hd_Weave ?po_Weave ?sa_Weave ?mk_Weave ?kc_Weave ?yc_Weave ?ym_Weave ?yv_Weave ?y_Weave_Cut ?y_Weave_Turn ?y_Weave_Deal ?y_Weave_Under ?y_Weave_Weave ?y_Weave_Riffle ?pg_Riffle ?hd_Riffle ?po_Riffle ?sa_Riffle ?mk_Riffle ?kc_Riffle ?yc_Riffle ?ym_Riffle ?yv_Riffle ?y_Riffle_Cut ?y_Riffle_Turn ?y_Riffle_Deal ?y_Riffle_Under ?y_Riffle_Weave ?y_Riffle_Riffle ?yg ?yt ?na_many ?na_piles ?na_first ?na_word ?no_isinstance ?no_bool ?no_int ?no_list ?no_str ?no_len ?no_all ?no_any ?no_min ?no_max ?no_sum ?no_range ?no_set ?no_reversed ?no_enumerate ?eqW ?inW ?MC
    (case A_Move => k_is)
    (case A_Cut => k_is)
    (case A_Turn => k_is)
    (case A_Deal => k_is)
    (case A_Under => k_is)
    (case A_Weave => k_is)
    (case A_Riffle => k_is)
    (case a_is_number => k_is)
    (case a_is_order => k_is)
    (case a_check_order => k_is)
    (case a_is_word => k_is)
    (case a_riffle_sources => k_is)
    (case a_check_move => k_is)
    (case a_check_moves => k_is)
    (case a_brought => k_is)
    (case a_written => k_is)
    (case a_move_written => k_is)
    (case a__law_cell_at => k_is)
    (case a__law_draw => k_is)
    (case a__law_woven => k_is)
    (case a_law => k_is)
    (case a_Cut___init__ => k_is)
    (case i_Cut___init__ => k_is)
    (case a_Turn___init__ => k_is)
    (case i_Turn___init__ => k_is)
    (case a_Deal___init__ => k_is)
    (case i_Deal___init__ => k_is)
    (case a_Under___init__ => k_is)
    (case i_Under___init__ => k_is)
    (case a_Weave___init__ => k_is)
    (case i_Weave___init__ => k_is)
    (case a_Riffle___init__ => k_is)
    (case i_Riffle___init__ => k_is)
    (case a_Cut_sources => k_is)
    (case i_Cut_sources => k_is)
    (case a_Turn_sources => k_is)
    (case i_Turn_sources => k_is)
    (case a_Deal_sources => k_is)
    (case i_Deal_sources => k_is)
    (case a_Under_sources => k_is)
    (case i_Under_sources => k_is)
    (case a_Weave_sources => k_is)
    (case i_Weave_sources => k_is)
    (case a_Riffle_sources => k_is)
    (case i_Riffle_sources => k_is)
    (case a_Cut_done => k_is)
    (case a_Turn_done => k_is)
    (case a_Deal_done => k_is)
    (case a_Under_done => k_is)
    (case a_Weave_done => k_is)
    (case a_Riffle_done => k_is)
    (case i_Move_done => k_is)
    (case l_is_number => k_is)
    (case c_is_number => k_is)
    (case k_is_number => k_is)
    (case l_is_order => k_is)
    (case c_is_order => k_is)
    (case k_is_order => k_is)
    (case l_check_order => k_is)
    (case c_check_order => k_is)
    (case k_check_order => k_is)
    (case l_is_word => k_is)
    (case c_is_word => k_is)
    (case k_is_word => k_is)
    (case l_riffle_sources => k_is)
    (case c_riffle_sources => k_is)
    (case k_riffle_sources => k_is)
    (case l_check_move => k_is)
    (case c_check_move => k_is)
    (case k_check_move => k_is)
    (case l_check_moves => k_is)
    (case c_check_moves => k_is)
    (case k_check_moves => k_is)
    (case l_brought => k_is)
    (case c_brought => k_is)
    (case k_brought => k_is)
    (case l_written => k_is)
    (case c_written => k_is)
    (case k_written => k_is)
    (case l_move_written => k_is)
    (case c_move_written => k_is)
    (case k_move_written => k_is)
    (case l__law_cell_at => k_is)
    (case c__law_cell_at => k_is)
    (case k__law_cell_at => k_is)
    (case l__law_draw => k_is)
    (case c__law_draw => k_is)
    (case k__law_draw => k_is)
    (case l__law_woven => k_is)
    (case c__law_woven => k_is)
    (case k__law_woven => k_is)
    (case l_law => k_is)
    (case c_law => k_is)
    (case k_law => k_is)
    (case l_Cut___init__ => k_is)
    (case c_Cut___init__ => k_is)
    (case k_Cut___init__ => k_is)
    (case l_Turn___init__ => k_is)
    (case c_Turn___init__ => k_is)
    (case k_Turn___init__ => k_is)
    (case l_Deal___init__ => k_is)
    (case c_Deal___init__ => k_is)
    (case k_Deal___init__ => k_is)
    (case l_Under___init__ => k_is)
    (case c_Under___init__ => k_is)
    (case k_Under___init__ => k_is)
    (case l_Weave___init__ => k_is)
    (case c_Weave___init__ => k_is)
    (case k_Weave___init__ => k_is)
    (case l_Riffle___init__ => k_is)
    (case c_Riffle___init__ => k_is)
    (case k_Riffle___init__ => k_is)
    (case l_Cut_sources => k_is)
    (case c_Cut_sources => k_is)
    (case k_Cut_sources => k_is)
    (case l_Turn_sources => k_is)
    (case c_Turn_sources => k_is)
    (case k_Turn_sources => k_is)
    (case l_Deal_sources => k_is)
    (case c_Deal_sources => k_is)
    (case k_Deal_sources => k_is)
    (case l_Under_sources => k_is)
    (case c_Under_sources => k_is)
    (case k_Under_sources => k_is)
    (case l_Weave_sources => k_is)
    (case c_Weave_sources => k_is)
    (case k_Weave_sources => k_is)
    (case l_Riffle_sources => k_is)
    (case c_Riffle_sources => k_is)
    (case k_Riffle_sources => k_is)
    (case l_Move_done => k_is)
    (case c_Move_done => k_is)
    (case k_Move_done => k_is)
    (case pg_Cut => k_is)
    (case hd_Cut => k_is)
    (case po_Cut => k_is)
    (case sa_Cut => k_is)
    (case mk_Cut => k_is)
    (case kc_Cut => k_is)
    (case yc_Cut => k_is)
    (case ym_Cut => k_is)
    (case yv_Cut => kit_is)
    (case y_Cut_Cut => kit_is)
    (case y_Cut_Turn => kit_is)
    (case y_Cut_Deal => kit_is)
    (case y_Cut_Under => kit_is)
    (case y_Cut_Weave => kit_is)
    (case y_Cut_Riffle => kit_is)
    (case pg_Turn => k_is)
    (case hd_Turn => k_is)
    (case po_Turn => k_is)
    (case sa_Turn => k_is)
    (case mk_Turn => k_is)
    (case kc_Turn => k_is)
    (case yc_Turn => k_is)
    (case ym_Turn => k_is)
    (case yv_Turn => kit_is)
    (case y_Turn_Cut => kit_is)
    (case y_Turn_Turn => kit_is)
    (case y_Turn_Deal => kit_is)
    (case y_Turn_Under => kit_is)
    (case y_Turn_Weave => kit_is)
    (case y_Turn_Riffle => kit_is)
    (case pg_Deal => k_is)
    (case hd_Deal => k_is)
    (case po_Deal => k_is)
    (case sa_Deal => k_is)
    (case mk_Deal => k_is)
    (case kc_Deal => k_is)
    (case yc_Deal => k_is)
    (case ym_Deal => k_is)
    (case yv_Deal => kit_is)
    (case y_Deal_Cut => kit_is)
    (case y_Deal_Turn => kit_is)
    (case y_Deal_Deal => kit_is)
    (case y_Deal_Under => kit_is)
    (case y_Deal_Weave => kit_is)
    (case y_Deal_Riffle => kit_is)
    (case pg_Under => k_is)
    (case hd_Under => k_is)
    (case po_Under => k_is)
    (case sa_Under => k_is)
    (case mk_Under => k_is)
    (case kc_Under => k_is)
    (case yc_Under => k_is)
    (case ym_Under => k_is)
    (case yv_Under => kit_is)
    (case y_Under_Cut => kit_is)
    (case y_Under_Turn => kit_is)
    (case y_Under_Deal => kit_is)
    (case y_Under_Under => kit_is)
    (case y_Under_Weave => kit_is)
    (case y_Under_Riffle => kit_is)
    (case pg_Weave => k_is)
    (case hd_Weave => k_is)
    (case po_Weave => k_is)
    (case sa_Weave => k_is)
    (case mk_Weave => k_is)
    (case kc_Weave => k_is)
    (case yc_Weave => k_is)
    (case ym_Weave => k_is)
    (case yv_Weave => kit_is)
    (case y_Weave_Cut => kit_is)
    (case y_Weave_Turn => kit_is)
    (case y_Weave_Deal => kit_is)
    (case y_Weave_Under => kit_is)
    (case y_Weave_Weave => kit_is)
    (case y_Weave_Riffle => kit_is)
    (case pg_Riffle => k_is)
    (case hd_Riffle => k_is)
    (case po_Riffle => k_is)
    (case sa_Riffle => k_is)
    (case mk_Riffle => k_is)
    (case kc_Riffle => k_is)
    (case yc_Riffle => k_is)
    (case ym_Riffle => k_is)
    (case yv_Riffle => kit_is)
    (case y_Riffle_Cut => kit_is)
    (case y_Riffle_Turn => kit_is)
    (case y_Riffle_Deal => kit_is)
    (case y_Riffle_Under => kit_is)
    (case y_Riffle_Weave => kit_is)
    (case y_Riffle_Riffle => kit_is)
    (case yg => k_is)
    (case yt => k_is)
    (case na_many => k_is)
    (case na_piles => k_is)
    (case na_first => k_is)
    (case na_word => k_is)
    (case no_isinstance => k_is)
    (case no_bool => k_is)
    (case no_int => k_is)
    (case no_list => k_is)
    (case no_str => k_is)
    (case no_len => k_is)
    (case no_all => k_is)
    (case no_any => k_is)
    (case no_min => k_is)
    (case no_max => k_is)
    (case no_sum => k_is)
    (case no_range => k_is)
    (case no_set => k_is)
    (case no_reversed => k_is)
    (case no_enumerate => k_is)
    (case eqW => k_is)
    (case inW => k_is)
    (case MC => k_is)
#print axioms PySem.Challenge.cw_riffles_k07_brought_holds
