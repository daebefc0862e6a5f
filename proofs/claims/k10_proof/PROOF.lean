import PyProof.Rows.All
import Wide.All
import OpenK.AllK
import Wide.FinOn
import Lean
import PyProof.EqAt
import PyProof.EqKinds
import PyProof.TupleCall
import PyProof.ListRange
import PyProof.Rows.Range3
import PyProof.NeKinds
import PyProof.EnumMake
import PyProof.EnumFor
import PyProof.StrWalks
import PyProof.ConsumeWalk
import PyProof.Rows.SetFrom
import PyProof.SetRoads
import PyProof.StrBlock2
import KE.KRevIter
import PyProof.EnumStmt
import PyProof.CollectIter
import PyProof.InstEq
import PyProof.ExcBaseAll.ValueError
import PyProof.ExcAttrAll.ValueError
import KE.KIsAll
import KE.KLam
import KE.KNestM
import PySem.Challenge.RW_riffles_k10_refused
set_option Elab.async false
set_option linter.all false
set_option maxRecDepth 100000
namespace L2
open PySem PySem.Spec PyProof.Rows
abbrev Key := Sum Int Str
def keyIs : Key → Value → Bool
  | .inl k, v => Value.isInt k v
  | .inr x, v => Value.isStrOf x v
def keyH (w : World) : Key → Int
  | .inl k => hashInt k
  | .inr x => hashStr w x
theorem keyIs_shape : ∀ {k : Key} {v : Value}, keyIs k v = true → (∃ i t, k = Sum.inl i ∧ v = Value.int i t) ∨ (∃ x t, k = Sum.inr x ∧ v = Value.str x t)
  | .inl i, v, h => by
    obtain ⟨t, e⟩ := Value.isInt_shape (k := i) (v := v) h
    exact .inl ⟨i, t, rfl, e⟩
  | .inr x, v, h => by
    obtain ⟨t, e⟩ := Value.isStrOf_shape (x := x) (v := v) h
    exact .inr ⟨x, t, rfl, e⟩
theorem keyIs_int (i : Int) (t : Tok) : keyIs (.inl i) (.int i t) = true := by simp [keyIs, Value.isInt]
theorem keyIs_str (x : Str) (t : Tok) : keyIs (.inr x) (.str x t) = true := by simp [keyIs, Value.isStrOf]
theorem key_ll (a b : Int) : decide ((Sum.inl a : Key) = Sum.inl b) = (a == b) := by
  by_cases e : a = b
  · subst e; simp
  · have h : ¬ (Sum.inl a : Key) = Sum.inl b := fun q => e (Sum.inl.inj q)
    rw [decide_eq_false h]
    exact (beq_eq_false_iff_ne.mpr e).symm
theorem key_rr (a b : Str) : decide ((Sum.inr a : Key) = Sum.inr b) = decide (a = b) := by
  by_cases e : a = b
  · subst e; simp
  · have h : ¬ (Sum.inr a : Key) = Sum.inr b := fun q => e (Sum.inr.inj q)
    rw [decide_eq_false h, decide_eq_false e]
theorem key_lr (a : Int) (b : Str) : decide ((Sum.inl a : Key) = Sum.inr b) = false := decide_eq_false (fun q => nomatch q)
theorem key_rl (a : Str) (b : Int) : decide ((Sum.inr a : Key) = Sum.inl b) = false := decide_eq_false (fun q => nomatch q)
def mixKind (prog : Program) (w : World) : PySem.KeyKind prog w Key where
  is := keyIs
  hash := keyH w
  inj := fun v a b ha hb => by
    rcases keyIs_shape ha with ⟨i, t, rfl, rfl⟩ | ⟨x, t, rfl, rfl⟩
    · rcases keyIs_shape hb with ⟨j, u, rfl, e⟩ | ⟨y, u, rfl, e⟩
      · injection e with e1 _; rw [e1]
      · exact nomatch e
    · rcases keyIs_shape hb with ⟨j, u, rfl, e⟩ | ⟨y, u, rfl, e⟩
      · exact nomatch e
      · injection e with e1 _; rw [e1]
  byValue := fun k v h => by
    rcases keyIs_shape h with ⟨i, t, rfl, rfl⟩ | ⟨x, t, rfl, rfl⟩ <;> rfl
  pyHash := fun hv h => by
    rcases keyIs_shape hv with ⟨i, t, rfl, rfl⟩ | ⟨x, t, rfl, rfl⟩
    · exact wpAny_pyHash_int h
    · exact wpAny_pyHash_str h
  eqBool := fun hu hv h => by
    rcases keyIs_shape hu with ⟨i, t, rfl, rfl⟩ | ⟨x, t, rfl, rfl⟩
    · rcases keyIs_shape hv with ⟨j, u, rfl, rfl⟩ | ⟨y, u, rfl, rfl⟩
      · rw [key_ll] at h; exact wpAny_eqBool_int h
      · rw [key_lr] at h; exact SeqAt.EqAt.int_str i t y u _ _ _ _ h
    · rcases keyIs_shape hv with ⟨j, u, rfl, rfl⟩ | ⟨y, u, rfl, rfl⟩
      · rw [key_rl] at h; exact SeqAt.EqAt.str_int x t j u _ _ _ _ h
      · rw [key_rr] at h; exact wpAny_eqBool_str h
  «strs» := fun k x t v h => by
    rcases keyIs_shape h with ⟨i, u, rfl, e⟩ | ⟨y, u, rfl, e⟩
    · exact nomatch e
    · injection e with e1 _
      subst e1
      cases v <;> rfl
theorem mixKind_int (prog : Program) (w : World) (i : Int) (t : Tok) : (mixKind prog w).is (.inl i) (.int i t) = true := keyIs_int i t
theorem mixKind_str (prog : Program) (w : World) (x : Str) (t : Tok) : (mixKind prog w).is (.inr x) (.str x t) = true := keyIs_str x t
end L2
namespace L2
open PySem PySem.Spec PyProof.Rows
inductive V where
  | non | bl (b : Bool) | int (i : Int) | str (x : Str) | byt (b : Array UInt8) | flt (b : UInt64) | ref (a : Addr) | ty (n : String)
  deriving DecidableEq
def RelV : V → Value → Prop
  | .non, u => u = Value.none
  | .bl b, u => u = Value.bool b
  | .int i, u => ∃ t, u = Value.int i t
  | .str x, u => ∃ t, u = Value.str x t
  | .byt b, u => ∃ t, u = Value.bytes b t
  | .flt b, u => ∃ t, u = Value.float b t
  | .ref a, u => u = Value.ref a
  | .ty n, u => u = Value.type n
abbrev Vals : List V → List Value → Prop := Paired RelV
theorem Vals.length {xs : List V} {us : List Value} (r : Vals xs us) : xs.length = us.length := Paired.length r
theorem Vals.get : ∀ {xs : List V} {us : List Value} {i : Nat} {x : V}, Vals xs us → xs[i]? = some x → ∃ u, us[i]? = some u ∧ RelV x u
  | _, _, _, _, .nil, e => by simp at e
  | _, _, 0, _, .cons r _, e => by simp at e; subst e; exact ⟨_, rfl, r⟩
  | _, _, i + 1, x, .cons _ t, e => by
    obtain ⟨u, h1, h2⟩ := Vals.get (i := i) (x := x) t (by simpa using e)
    exact ⟨u, by simpa using h1, h2⟩
theorem Vals.set {x : V} {u : Value} (r : RelV x u) : ∀ {xs : List V} {us : List Value} (i : Nat), Vals xs us → Vals (xs.set i x) (us.set i u)
  | _, _, _, .nil => .nil
  | _, _, 0, .cons _ t => .cons r t
  | _, _, i + 1, .cons q t => .cons q (Vals.set r i t)
theorem Vals.append : ∀ {xs ys : List V} {us ws : List Value}, Vals xs us → Vals ys ws → Vals (xs ++ ys) (us ++ ws)
  | _, _, _, _, .nil, s => s
  | _, _, _, _, .cons r t, s => .cons r (Vals.append t s)
def RelO : Option V → Option Value → Prop
  | some v, some u => RelV v u
  | none, none => True
  | _, _ => False
def KV {κ : Type} : List (κ × V) → List (κ × Value) → Prop := Paired fun (p : κ × V) (q : κ × Value) => p.1 = q.1 ∧ RelV p.2 q.2
def kV : Key → V
  | .inl i => .int i
  | .inr x => .str x
inductive HO where
  | lst (xs : List V)
  | tup (xs : List V)
  | dK (kvs : List (Key × V))
  | set (S : Int → Bool) (n : Nat)
  | ins (C dx : Addr) (fs : List (Str × V))
  | own (x : Addr)
  | xd (fs : List (Str × V))
  | met (f x : Addr)
  | rng (lo hi : Int)
  | frz (o : Obj) (u : HO)
  | tbl (ps : Array Value)
  | ext (φ : Heap → Prop)
abbrev Hp := Addr → Option HO
def upd (H : Hp) (a : Addr) (o : HO) : Hp := fun b => if b = a then some o else H b
theorem upd_same {H : Hp} {a : Addr} {o : HO} : upd H a o a = some o := by unfold upd; rw [if_pos rfl]
theorem upd_ne {H : Hp} {a b : Addr} {o : HO} (h : b ≠ a) : upd H a o b = H b := by unfold upd; rw [if_neg h]
theorem upd_upd {H : Hp} {a : Addr} {o u : HO} : upd (upd H a o) a u = upd H a u := by
  funext b; unfold upd; split <;> rfl
theorem ne_of_none {H : Hp} {a b : Addr} {o : HO} (h : H a = some o) (h' : H b = none) : a ≠ b := by
  intro e; subst e; rw [h] at h'; cases h'
section
variable (P : Program) (w : World)
def ObjOk (H : Hp) (h : Heap) (a : Addr) : HO → Prop
  | .lst xs => xs.length ≤ sizeLine ∧ ∃ (its : List Value) (n : Nat), Vals xs its ∧ h.get? a = some { cls := .type "list", data := .seq its.toArray n }
  | .tup xs => xs.length ≤ sizeLine ∧ ∃ its : List Value, Vals xs its ∧ IsTup h a its.toArray
  | .dK kvs => kvs.length ≤ sizeLine ∧ (a == sysModules) = false ∧ ∃ vs, KV kvs vs ∧ h.DictOf (mixKind P w) a vs
  | .set S n => h.SetOf (intKind P w) a S n
  | .ins C dx fs => H dx = some (.own a) ∧ fs.length ≤ 1000 ∧ dx ≠ a ∧ h.get? a = some (PySem.W.instObj C dx) ∧
      ∃ mA, h.Ns1 dx mA ∧ (∀ f, RelO (fs.lookup f) (mA f)) ∧ PySem.Within mA (fs.map (·.1))
  | .own _ => ∃ o, h.get? a = some o
  | .xd fs => ∃ mA, h.Ns1 a mA ∧ ∀ f, RelO (fs.lookup f) (mA f)
  | .rng lo hi => ∃ t u v, h.get? a = some { cls := .type "range", data := .fields #[.int lo t, .int hi u, .int 1 v] }
  | .frz o u => h.get? a = some o ∧ ObjOk H h a u
  | .tbl _ => False
  | .met f x => h.get? a = some (PySem.W.methodObj (.ref f) (.ref x))
  | .ext φ => φ h ∧ (∃ o, h.get? a = some o) ∧ ∀ h1 h2 : Heap, φ h1 → (∀ o, h1.get? a = some o → h2.get? a = some o) → φ h2
def HOk (H : Hp) (h : Heap) : Prop := ∀ a o, H a = some o → ObjOk P w H h a o
end
section
variable {P : Program} {w : World} {H H' : Hp} {h h' : Heap} {a : Addr} {o : HO}
theorem ObjOk.lt (x : ObjOk P w H h a o) : a < h.objs.size := by
  cases o with
  | lst xs => obtain ⟨_, _, _, _, e⟩ := x; exact Heap.lt_size e
  | tup xs => obtain ⟨_, _, _, p⟩ := x; exact p.lt
  | dK kvs => obtain ⟨_, _, _, _, o, _, _, e, _⟩ := x; exact Heap.lt_size e
  | set S n => obtain ⟨o, _, _, _, e, _⟩ := x; exact Heap.lt_size e
  | ins C dx fs => obtain ⟨_, _, _, e, _⟩ := x; exact Heap.lt_size e
  | own y => obtain ⟨_, e⟩ := x; exact Heap.lt_size e
  | xd fs => obtain ⟨_, ⟨_, _, _, e, _⟩, _⟩ := x; exact Heap.lt_size e
  | rng lo hi => obtain ⟨_, _, _, e⟩ := x; exact Heap.lt_size e
  | frz ob u => obtain ⟨e, _⟩ := x; exact Heap.lt_size e
  | tbl ps => exact False.elim x
  | met f y => exact Heap.lt_size (show h.get? a = some _ from x)
  | ext φ => obtain ⟨_, ⟨_, e⟩, _⟩ := x; exact Heap.lt_size e
theorem ObjOk.stay (x : ObjOk P w H h a o) (k : ∀ b u, (b = a ∨ H b = some (.own a)) → h.get? b = some u → h'.get? b = some u)
    (ho : ∀ b, H b = some (.own a) → H' b = some (.own a)) (ht : ∀ b xs, H b = some (.tup xs) → H' b = some (.tup xs)) : ObjOk P w H' h' a o := by
  induction o with
  | lst xs => obtain ⟨z, its, n, r, e⟩ := x; exact ⟨z, its, n, r, k _ _ (.inl rfl) e⟩
  | tup xs => obtain ⟨z, its, r, ob, e, c⟩ := x; exact ⟨z, its, r, ob, k _ _ (.inl rfl) e, c⟩
  | dK kvs => obtain ⟨z, y, vs, r, ob, es, ep, e, c⟩ := x; exact ⟨z, y, vs, r, ob, es, ep, k _ _ (.inl rfl) e, c⟩
  | set S n => obtain ⟨ob, es, ep, t, e, c⟩ := x; exact ⟨ob, es, ep, t, k _ _ (.inl rfl) e, c⟩
  | ins C dx fs =>
    obtain ⟨d, z, ne, e, mA, ⟨od, es, ep, e2, c⟩, r⟩ := x
    exact ⟨ho _ d, z, ne, k _ _ (.inl rfl) e, mA, ⟨od, es, ep, k _ _ (.inr d) e2, c⟩, r⟩
  | own y => obtain ⟨ob, e⟩ := x; exact ⟨ob, k _ _ (.inl rfl) e⟩
  | xd fs => obtain ⟨mA, ⟨od, es, ep, e, c⟩, r⟩ := x; exact ⟨mA, ⟨od, es, ep, k _ _ (.inl rfl) e, c⟩, r⟩
  | rng lo hi => obtain ⟨t, u, v, e⟩ := x; exact ⟨t, u, v, k _ _ (.inl rfl) e⟩
  | frz ob u ih => obtain ⟨e, q⟩ := x; exact ⟨k _ _ (.inl rfl) e, ih q⟩
  | tbl ps => exact False.elim x
  | met f y =>
    have e : h.get? a = some (PySem.W.methodObj (.ref f) (.ref y)) := x
    show h'.get? a = some (PySem.W.methodObj (.ref f) (.ref y))
    exact k a _ (.inl rfl) e
  | ext φ => obtain ⟨p, ⟨o, e⟩, st⟩ := x; exact ⟨st _ _ p fun o q => k _ _ (.inl rfl) q, ⟨o, k _ _ (.inl rfl) e⟩, st⟩
theorem HOk.lt (x : HOk P w H h) (e : H a = some o) : a < h.objs.size := (x a o e).lt
theorem HOk.fresh (x : HOk P w H h) (e : h.objs.size ≤ a) : H a = none := by
  cases q : H a with
  | none => rfl
  | some u => exact absurd (Nat.lt_of_lt_of_le (x.lt q) e) (Nat.lt_irrefl _)
theorem HOk.kept (x : HOk P w H h) (k : ∀ b u, h.get? b = some u → h'.get? b = some u) : HOk P w H h' := fun a o e =>
  (x a o e).stay (fun b u _ q => k b u q) (fun _ q => q) fun _ _ q => q
theorem HOk.laid (x : HOk P w H h) (k : ∀ b u, h.get? b = some u → h'.get? b = some u) (hp : h.objs.size ≤ a) (new : ObjOk P w (upd H a o) h' a o) : HOk P w (upd H a o) h' := fun b u e => by
  have hn := x.fresh hp
  by_cases hb : b = a
  · subst hb; rw [upd_same] at e; cases e; exact new
  · rw [upd_ne hb] at e
    exact (x b u e).stay (fun c v _ q => k c v q) (fun c q => by rw [upd_ne (ne_of_none q hn)]; exact q) fun c xs q => by rw [upd_ne (ne_of_none q hn)]; exact q
end
def Rd (H : Hp) (a : Addr) (u : HO) : Prop := H a = some u ∨ ∃ o, H a = some (.frz o u)
theorem Rd.ok {P : Program} {w : World} {H : Hp} {h : Heap} {a : Addr} {u : HO} (r : Rd H a u) (x : HOk P w H h) : ObjOk P w H h a u := by
  rcases r with r | ⟨o, r⟩
  · exact x a u r
  · obtain ⟨_, q⟩ := x a _ r
    exact q
def Mut : Option HO → Prop
  | some (.lst _) => True
  | some (.dK _) => True
  | some (.set _ _) => True
  | some (.ins _ _ _) => True
  | some (.ext _) => True
  | _ => False
section
variable {P : Program} {w : World} {H : Hp} {h h' : Heap} {x e : Addr} {o' : HO}
theorem HOk.write (ok : HOk P w H h) (mu : Mut (H x)) (he : e = x ∨ H e = some (.own x)) (k : ∀ b u, b ≠ e → h.get? b = some u → h'.get? b = some u) (heo : ∃ u, h'.get? e = some u)
    (new : ObjOk P w (upd H x o') h' x o') : HOk P w (upd H x o') h' := fun b u q => by
  have nown : ∀ c y, H c = some (.own y) → c ≠ x := fun c y r z => by subst z; rw [r] at mu; exact mu
  have ntup : ∀ c xs, H c = some (.tup xs) → c ≠ x := fun c xs r z => by subst z; rw [r] at mu; exact mu
  by_cases hb : b = x
  · subst hb; rw [upd_same] at q; cases q; exact new
  · rw [upd_ne hb] at q
    by_cases hbe : b = e
    · have q' : H b = some (.own x) := by
        rcases he with z | z
        · exact absurd (hbe.trans z) hb
        · rw [hbe]; exact z
      rw [q] at q'; cases q'
      obtain ⟨v, hv⟩ := heo
      exact ⟨v, by rw [hbe]; exact hv⟩
    · refine (ok b u q).stay (fun c v hc r => k c v ?_ r) (fun c r => by rw [upd_ne (nown c b r)]; exact r) fun c xs r => by rw [upd_ne (ntup c xs r)]; exact r
      rcases hc with rfl | hc
      · exact hbe
      · rintro rfl
        rcases he with z | z
        · exact nown c b hc z
        · rw [hc] at z; cases z; exact hb rfl
end
structure Un (fs ex : List Addr) (H H' : Hp) (h h' : Heap) : Prop where
  keep : ∀ b o, h.get? b = some o → H b = none → b ∉ fs → b ∉ ex → h'.get? b = some o
  slot : ∀ b o, h.get? b = some o → H b = none → b ∈ fs → b ∉ ex → ∃ sl, h'.get? b = some { o with slots := sl }
  free : ∀ b o, h.get? b = some o → H b = none → b ∉ ex → H' b = none
  there : ∀ b o, h.get? b = some o → b ∉ ex → ∃ o', h'.get? b = some o'
  tups : ∀ b xs, H b = some (.tup xs) → H' b = some (.tup xs)
  frzs : ∀ b o u, H b = some (.frz o u) → H' b = some (.frz o u)
  tbls : ∀ b ps, H b = some (.tbl ps) → ∃ more, H' b = some (.tbl (ps ++ more))
section
variable {fs fs' ex ex' : List Addr} {H H1 H2 : Hp} {h h1 h2 h' : Heap} {a x e : Addr} {o : HO}
theorem Un.any (u : Un fs ex H H1 h h1) {b : Addr} {ob : Obj} (q : h.get? b = some ob) (n : H b = none) (hx : b ∉ ex) : ∃ sl, h1.get? b = some { ob with slots := sl } := by
  by_cases hb : b ∈ fs
  · exact u.slot b ob q n hb hx
  · exact ⟨ob.slots, u.keep b ob q n hb hx⟩
theorem Un.kept (k : ∀ b u, h.get? b = some u → h'.get? b = some u) : Un fs ex H H h h' :=
  ⟨fun b ob q _ _ _ => k b ob q, fun b ob q _ _ _ => ⟨ob.slots, k b ob q⟩, fun _ _ _ n _ => n, fun b ob q _ => ⟨ob, k b ob q⟩, fun _ _ q => q, fun _ _ _ q => q, fun _ ps q => ⟨#[], by rw [q]; simp⟩⟩
theorem Un.refl : Un fs ex H H h h := Un.kept fun _ _ q => q
theorem Un.laid (k : ∀ b u, h.get? b = some u → h'.get? b = some u) (hp : h.objs.size ≤ a) (hn : H a = none) : Un fs ex H (upd H a o) h h' where
  keep := fun b u q _ _ _ => k b u q
  slot := fun b u q _ _ _ => ⟨u.slots, k b u q⟩
  free := fun b u q n _ => by rw [upd_ne (Nat.ne_of_lt (Nat.lt_of_lt_of_le (Heap.lt_size q) hp))]; exact n
  there := fun b u q _ => ⟨u, k b u q⟩
  tups := fun b xs q => by rw [upd_ne (ne_of_none q hn)]; exact q
  frzs := fun b u xs q => by rw [upd_ne (ne_of_none q hn)]; exact q
  tbls := fun b ps q => ⟨#[], by rw [upd_ne (ne_of_none q hn), q]; simp⟩
theorem Un.write (mu : Mut (H x)) (he : e = x ∨ H e = some (.own x)) (k : ∀ b u, b ≠ e → h.get? b = some u → h'.get? b = some u) (heo : ∃ u, h'.get? e = some u) : Un fs ex H (upd H x o) h h' := by
  have hx : ∀ b, H b = none → b ≠ x := fun b n z => by subst z; rw [n] at mu; exact mu
  have hb : ∀ b, H b = none → b ≠ e := fun b n z => by
    subst z
    rcases he with r | r
    · exact hx b n r
    · rw [n] at r; cases r
  have hm : ∀ b u, H b = some u → ¬ Mut (some u) → b ≠ x := fun b u q nm z => by subst z; rw [q] at mu; exact nm mu
  refine ⟨fun b u q n _ _ => k b u (hb b n) q, fun b u q n _ _ => ⟨u.slots, k b u (hb b n) q⟩, fun b u q n _ => by rw [upd_ne (hx b n)]; exact n, fun b u q _ => ?_,
    fun b xs q => by rw [upd_ne (hm b _ q fun z => z)]; exact q, fun b u xs q => by rw [upd_ne (hm b _ q fun z => z)]; exact q, fun b ps q => ⟨#[], by rw [upd_ne (hm b _ q fun z => z), q]; simp⟩⟩
  by_cases hbe : b = e
  · subst hbe; exact heo
  · exact ⟨u, k b u hbe q⟩
end
def trk (h : Heap) (H : Hp) : List Addr := (List.range h.objs.size).filter fun a => (H a).isSome
def hidT (h : Heap) (H : Hp) : Heap := PySem.W.hideAll h (trk h H)
theorem hidT_size (h : Heap) (H : Hp) : (hidT h H).objs.size = h.objs.size := PySem.W.hideAll_size _ _
theorem hidT_get {h : Heap} {H : Hp} {b : Addr} {o : Obj} (e : h.get? b = some o) (n : H b = none) : (hidT h H).get? b = some o :=
  PySem.W.hideAll_get _ e fun hm => by
    have q : (H b).isSome = true := (List.mem_filter.mp hm).2
    rw [n] at q; simp at q
theorem of_hidT {h : Heap} {H : Hp} {b : Addr} {o : Obj} (e : (hidT h H).get? b = some o) : h.get? b = some o ∧ H b = none := by
  have e' : h.get? b = some o := PySem.W.of_hideAll (trk h H) e
  refine ⟨e', ?_⟩
  cases q : H b with
  | none => rfl
  | some x =>
    have hm : b ∈ trk h H := List.mem_filter.mpr ⟨List.mem_range.mpr (Heap.lt_size e'), by simp [q]⟩
    have z : (hidT h H).get? b = none := PySem.W.hideAll_none (trk h H) hm
    rw [z] at e; cases e
end L2
namespace L2
open PySem PySem.Spec PyProof.Rows
structure Mod (K : PySem.W.Frag) (mg : Str → Option Value) (base : Heap) : Prop where
  kin : K.In base
  glob : base.Ns mainGlobals mg
  blt : ∃ mb, base.Ns builtinsNs mb ∧ ∀ x : Str, x ≠ "__name__" → mb x = bootBuiltins x
  nolimit : base.NoLimit
structure Cx where
  prog : Program
  w : World
  K : PySem.W.Frag
  mg : Str → Option Value
  base : Heap
  A : Around
  N : List Str
  s₀ : Shared
  H₀ : Hp
  env : Env
  outer : List Env
  stack : List Env
  ex : List Addr
  fn : Str → Bool
  calm : Bool
  pn : List (Addr × Obj)
  xe : Value → Shared → Prop
def frs (l : List Env) : List Addr := l.filterMap (·.frame)
abbrev Cx.fs (X : Cx) : List Addr := frs X.outer
def Vis (sc : Scope) (x : Str) : Prop := sc.names.lookup x = some .local ∨ sc.names.lookup x = some .cell ∨ sc.names.lookup x = some .free
def Loc (sc : Scope) (x : Str) : Prop := sc.names.lookup x = some .local ∨ sc.names.lookup x = some .cell
def Look (env : Env) (h : Heap) (m : Str → Option Value) (x : Str) (u : Value) : Prop :=
  (env.kindOf x = some .local ∧ m x = some u) ∨ ((env.kindOf x = some .cell ∨ env.kindOf x = some .free) ∧ ∃ c, env.cells.lookup x = some c ∧ h.IsCell c (some u))
structure Cx.Ok (X : Cx) : Prop where
  mod : Mod X.K X.mg X.base
  kind : X.env.scope.kind = .function
  glob : X.env.globals = mainGlobals
  blt : X.env.builtins = builtinsNs
  above : X.s₀.heap.objs.size ≤ X.env.locals
  inj : ∀ x y c, X.env.cells.lookup x = some c → X.env.cells.lookup y = some c → x = y
  has : ∀ x, (X.env.kindOf x = some .cell ∨ X.env.kindOf x = some .free) → ∃ c, X.env.cells.lookup x = some c
  cab : ∀ x c, X.fn x = true → X.env.cells.lookup x = some c → X.s₀.heap.objs.size ≤ c
  hd : X.calm = true → X.A.handled = none
  frames : X.A.frames = some X.stack
  stk : X.stack = X.outer ∨ (X.stack = X.env :: X.outer ∧ X.env.frame = some X.env.locals)
  exf : ∀ b ∈ X.ex, b ≠ X.env.locals ∧ ∀ x c, X.env.cells.lookup x = some c → c ≠ b
  bs : ∀ b o, X.base.get? b = some o → X.s₀.heap.get? b = some o ∧ X.H₀ b = none
  bsz : X.base.objs.size ≤ X.s₀.heap.objs.size
  noex : ∀ b o, X.base.get? b = some o → b ∉ X.ex
  exfs : ∀ b ∈ X.ex, b ∉ X.fs
  funs : X.s₀.heap.FunFrames X.base X.outer
  frf : ∀ b ∈ X.fs, X.H₀ b = none
structure Inv (X : Cx) (pins : List (Addr × Obj)) (σ : List (Option V)) (H : Hp) (s : Shared) : Prop where
  ok : X.Ok
  os : s.os = X.s₀.os
  bare : AllBare s.gens
  base : Un X.fs X.ex X.H₀ H X.s₀.heap s.heap
  loc : ∃ m, s.heap.Ns X.env.locals m ∧ ∀ (i : Nat) (x : Str) (v : V), X.N[i]? = some x → σ[i]? = some (some v) → Vis X.env.scope x → ∃ u, RelV v u ∧ Look X.env s.heap m x u
  cell : ∀ x c, X.env.cells.lookup x = some c → ∃ v, s.heap.IsCell c v
  free : H X.env.locals = none
  freeC : ∀ x c, X.env.cells.lookup x = some c → H c = none
  pin : ∀ p ∈ X.pn ++ pins, s.heap.get? p.1 = some p.2 ∧ H p.1 = none ∧ p.1 ≠ X.env.locals ∧ p.1 ∉ X.fs ∧ ∀ v, p.2.data ≠ .cell v
  hok : HOk X.prog X.w H s.heap
  len : σ.length = X.N.length
section
variable {X : Cx} {pins : List (Addr × Obj)} {σ : List (Option V)} {H H' : Hp} {s : Shared} {h' : Heap}
theorem Cx.Ok.nofr (ok : X.Ok) {b : Addr} {o : Obj} (e : X.base.get? b = some o) : b ∉ X.fs := fun hb => by
  have := (ok.funs.mem hb).1
  rw [e] at this; cases this
theorem Inv.bs (I : Inv X pins σ H s) : ∀ b o, X.base.get? b = some o → s.heap.get? b = some o ∧ H b = none := fun b o e =>
  ⟨I.base.keep b o (I.ok.bs b o e).1 (I.ok.bs b o e).2 (I.ok.nofr e) (I.ok.noex b o e), I.base.free b o (I.ok.bs b o e).1 (I.ok.bs b o e).2 (I.ok.noex b o e)⟩
theorem Inv.bk (I : Inv X pins σ H s) : ∀ b o, X.base.get? b = some o → s.heap.get? b = some o := fun b o e => (I.bs b o e).1
theorem Inv.mod (I : Inv X pins σ H s) : Mod X.K X.mg X.base := I.ok.mod
theorem Inv.kIn (I : Inv X pins σ H s) : X.K.In s.heap := I.ok.mod.kin.keeps I.bk
theorem Inv.lt (I : Inv X pins σ H s) : X.env.locals < s.heap.objs.size := let ⟨_, hn, _⟩ := I.loc; hn.lt
theorem Inv.sz (I : Inv X pins σ H s) : X.s₀.heap.objs.size ≤ s.heap.objs.size := Nat.le_trans I.ok.above (Nat.le_of_lt I.lt)
theorem Inv.nofs (I : Inv X pins σ H s) {a : Addr} (h : s.heap.objs.size ≤ a) : a ∉ X.fs := fun hb => by
  obtain ⟨_, o, ho, _⟩ := I.ok.funs.mem hb
  exact absurd (Nat.lt_of_lt_of_le (Heap.lt_size ho) (Nat.le_trans I.sz h)) (Nat.lt_irrefl _)
theorem Inv.cne (I : Inv X pins σ H s) : ∀ x c, X.env.cells.lookup x = some c → c ≠ X.env.locals := fun x c e z => by
  obtain ⟨v, o, ho, hd⟩ := I.cell x c e
  obtain ⟨m, ⟨o', es, ep, ho', hd', _⟩, _⟩ := I.loc
  rw [z, ho'] at ho; cases ho; rw [hd'] at hd; cases hd
theorem Inv.funs (I : Inv X pins σ H s) : s.heap.FunFrames X.base X.outer := by
  have all : ∀ (l : List Env), (∀ b ∈ frs l, b ∈ X.fs) → X.s₀.heap.FunFrames X.base l → s.heap.FunFrames X.base l := by
    intro l
    induction l with
    | nil => intro _ _; trivial
    | cons env r ih =>
      intro hs hl
      obtain ⟨hk, ⟨L, o, hf, hn, ho, hd⟩, hr⟩ := hl
      have hL : L ∈ X.fs := hs L (by unfold frs; rw [List.filterMap_cons, hf]; exact List.mem_cons_self)
      obtain ⟨sl, e⟩ := I.base.slot L o ho (I.ok.frf L hL) hL fun z => I.ok.exfs L z hL
      exact ⟨hk, ⟨L, _, hf, hn, e, hd⟩, ih (fun b hb => hs b (by unfold frs; rw [List.filterMap_cons, hf]; exact List.mem_cons_of_mem _ hb)) hr⟩
  exact all X.outer (fun _ hb => hb) I.ok.funs
theorem Inv.stack (I : Inv X pins σ H s) : s.heap.FunFrames X.base X.stack := by
  rcases I.ok.stk with e | ⟨e, hf⟩
  · rw [e]; exact I.funs
  · rw [e]
    obtain ⟨m, hn, _⟩ := I.loc
    refine .cons (by rw [I.ok.kind]; decide) hf hn ?_ I.funs
    exact Heap.get?_none_of_le (Nat.le_trans I.ok.bsz I.ok.above)
theorem Inv.stkSub (I : Inv X pins σ H s) : ∀ b ∈ frs X.stack, b ∈ X.env.locals :: X.fs := fun b hb => by
  rcases I.ok.stk with e | ⟨e, hf⟩
  · rw [e] at hb; exact List.mem_cons_of_mem _ hb
  · rw [e] at hb
    unfold frs at hb
    rw [List.filterMap_cons, hf] at hb
    exact hb
theorem Inv.stkFree (I : Inv X pins σ H s) : ∀ b ∈ frs X.stack, H b = none := fun b hb => by
  rcases List.mem_cons.mp (I.stkSub b hb) with e | hb
  · rw [e]; exact I.free
  · obtain ⟨_, o, ho, _⟩ := I.ok.funs.mem hb
    exact I.base.free b o ho (I.ok.frf b hb) fun z => I.ok.exfs b z hb
theorem Inv.step {g' : Array GenState} {t' : Nat} {d' : Drawn} {ch : List Addr} (I : Inv X pins σ H s)
    (hch : ∀ b ∈ ch, (b ∈ X.ex ∨ X.s₀.heap.objs.size ≤ b) ∧ b ≠ X.env.locals ∧ (∀ x c, X.env.cells.lookup x = some c → c ≠ b) ∧ ∀ p ∈ X.pn ++ pins, p.1 ≠ b)
    (keep : ∀ b o, b ≠ X.env.locals → b ∉ X.fs → b ∉ ch → s.heap.get? b = some o → H b = none → h'.get? b = some o)
    (slot : ∀ b o, b ≠ X.env.locals → b ∈ X.fs → b ∉ ch → s.heap.get? b = some o → H b = none → ∃ sl, h'.get? b = some { o with slots := sl }) (free : ∀ b o, b ∉ ch → s.heap.get? b = some o → H b = none → H' b = none)
    (there : ∀ b o, b ∉ ch → s.heap.get? b = some o → ∃ o', h'.get? b = some o')
    (tups : ∀ b xs, H b = some (.tup xs) → H' b = some (.tup xs)) (frzs : ∀ b o u, H b = some (.frz o u) → H' b = some (.frz o u)) (tbls : ∀ b ps, H b = some (.tbl ps) → ∃ more, H' b = some (.tbl (ps ++ more)))
    (ns : ∀ m, s.heap.Ns X.env.locals m → h'.Ns X.env.locals m) (hok : HOk X.prog X.w H' h') (hg : AllBare g') :
    Inv X pins σ H' { s with heap := h', gens := g', drawn := d', toks := t' } := by
  have neL : ∀ b o, X.s₀.heap.get? b = some o → b ≠ X.env.locals := fun b o e => Nat.ne_of_lt (Nat.lt_of_lt_of_le (Heap.lt_size e) I.ok.above)
  have neC : ∀ b o, X.s₀.heap.get? b = some o → b ∉ X.ex → b ∉ ch := fun b o e hx hb => by
    rcases (hch b hb).1 with z | z
    · exact hx z
    · exact absurd (Nat.lt_of_lt_of_le (Heap.lt_size e) z) (Nat.lt_irrefl _)
  have cellK : ∀ x c, X.env.cells.lookup x = some c → ∀ v, s.heap.IsCell c v → h'.IsCell c v := fun x c e v ⟨o, ho, hd⟩ => by
    have nch : c ∉ ch := fun z => (hch c z).2.2.1 x c e rfl
    by_cases hc : c ∈ X.fs
    · obtain ⟨sl, q⟩ := slot c o (I.cne x c e) hc nch ho (I.freeC x c e)
      exact ⟨_, q, hd⟩
    · exact ⟨o, keep c o (I.cne x c e) hc nch ho (I.freeC x c e), hd⟩
  refine ⟨I.ok, I.os, hg, ⟨fun b o e n hb hx => ?_, fun b o e n hb hx => ?_, fun b o e n hx => ?_, fun b o e hx => ?_, fun b xs e => tups b xs (I.base.tups b xs e), fun b o xs e => frzs b o xs (I.base.frzs b o xs e), fun b ps e => ?_⟩, ?_, fun x c e => ?_, ?_, fun x c e => ?_, fun p hp => ?_, hok, I.len⟩
  · exact keep b o (neL b o e) hb (neC b o e hx) (I.base.keep b o e n hb hx) (I.base.free b o e n hx)
  · obtain ⟨sl, e1⟩ := I.base.slot b o e n hb hx
    obtain ⟨sl', e2⟩ := slot b _ (neL b o e) hb (neC b o e hx) e1 (I.base.free b o e n hx)
    exact ⟨sl', e2⟩
  · obtain ⟨o', e1⟩ := I.base.there b o e hx
    exact free b o' (neC b o e hx) e1 (I.base.free b o e n hx)
  · obtain ⟨o', e1⟩ := I.base.there b o e hx
    exact there b o' (neC b o e hx) e1
  · obtain ⟨m1, e1⟩ := I.base.tbls b ps e
    obtain ⟨m2, e2⟩ := tbls b _ e1
    exact ⟨m1 ++ m2, by rw [e2, Array.append_assoc]⟩
  · obtain ⟨m, hn, hl⟩ := I.loc
    refine ⟨m, ns m hn, fun i x v e1 e2 e3 => ?_⟩
    obtain ⟨u, r, l⟩ := hl i x v e1 e2 e3
    refine ⟨u, r, ?_⟩
    rcases l with l | ⟨k, c, e, z⟩
    · exact .inl l
    · exact .inr ⟨k, c, e, cellK x c e _ z⟩
  · obtain ⟨v, z⟩ := I.cell x c e
    exact ⟨v, cellK x c e v z⟩
  · obtain ⟨m, ⟨o, _, _, ho, _⟩, _⟩ := I.loc
    exact free _ o (fun z => (hch _ z).2.1 rfl) ho I.free
  · obtain ⟨v, o, ho, hd⟩ := I.cell x c e
    exact free c o (fun z => (hch c z).2.2.1 x c e rfl) ho (I.freeC x c e)
  · obtain ⟨e, n, ne, nf, d⟩ := I.pin p hp
    have nch : p.1 ∉ ch := fun z => (hch p.1 z).2.2.2 p hp rfl
    exact ⟨keep p.1 p.2 ne nf nch e n, free p.1 p.2 nch e n, ne, nf, d⟩
theorem Inv.un {t' : Nat} (I : Inv X pins σ H s) (u : Un X.fs [] H H' s.heap h') (hok : HOk X.prog X.w H' h') : Inv X pins σ H' { s with heap := h', toks := t' } := by
  obtain ⟨m, ⟨o, es, ep, ho, r⟩, _⟩ := id I.loc
  obtain ⟨sl, hL⟩ := u.any ho I.free (by simp)
  exact I.step (g' := s.gens) (d' := s.drawn) (ch := []) (fun _ z => nomatch z) (fun b o _ hb _ e n => u.keep b o e n hb (by simp)) (fun b o _ hb _ e n => u.slot b o e n hb (by simp)) (fun b o _ e n => u.free b o e n (by simp)) (fun b o _ e => u.there b o e (by simp)) u.tups u.frzs u.tbls (fun m' hm => by
    obtain ⟨o', es', ep', ho', r'⟩ := hm
    rw [ho] at ho'; cases ho'
    exact ⟨_, es', ep', hL, r'⟩) hok I.bare
theorem Inv.call {g' : Array GenState} {t' : Nat} {d' : Drawn} {ch : List Addr} (I : Inv X pins σ H s) (u : Un (frs X.stack) ch H H' s.heap h') (hok : HOk X.prog X.w H' h') (hg : AllBare g')
    (hch : ∀ b ∈ ch, (b ∈ X.ex ∨ X.s₀.heap.objs.size ≤ b) ∧ b ≠ X.env.locals ∧ (∀ x c, X.env.cells.lookup x = some c → c ≠ b) ∧ ∀ p ∈ X.pn ++ pins, p.1 ≠ b) :
    Inv X pins σ H' { s with heap := h', gens := g', drawn := d', toks := t' } := by
  obtain ⟨m, ⟨o, es, ep, ho, r⟩, _⟩ := id I.loc
  obtain ⟨sl, hL⟩ := u.any ho I.free fun z => (hch _ z).2.1 rfl
  exact I.step (ch := ch) hch (fun b o hL hb hc e n => u.keep b o e n (fun z => (List.mem_cons.mp (I.stkSub b z)).elim hL hb) hc) (fun b o _ _ hc e n => u.any e n hc) (fun b o hc e n => u.free b o e n hc) (fun b o hc e => u.there b o e hc) u.tups u.frzs u.tbls (fun m' hm => by
    obtain ⟨o', es', ep', ho', r'⟩ := hm
    rw [ho] at ho'; cases ho'
    exact ⟨_, es', ep', hL, r'⟩) hok hg
theorem Inv.turned {t' : Nat} {it : Addr} (I : Inv X pins σ H s) (k : ∀ b o, b ≠ it → s.heap.get? b = some o → h'.get? b = some o) (hn : H it = none) (hL : it ≠ X.env.locals)
    (h1 : it ∈ X.ex ∨ X.s₀.heap.objs.size ≤ it) (h2 : ∀ x c, X.env.cells.lookup x = some c → c ≠ it) (h3 : ∀ p ∈ X.pn ++ pins, p.1 ≠ it) : Inv X pins σ H { s with heap := h', toks := t' } := by
  have nit : ∀ b u, H b = some u → b ≠ it := fun b u e z => by rw [z, hn] at e; cases e
  refine I.step (g' := s.gens) (d' := s.drawn) (ch := [it]) (fun b hb => ?_) (fun b o _ _ hc e _ => k b o (fun z => hc (by simp [z])) e) (fun b o _ _ hc e _ => ⟨o.slots, k b o (fun z => hc (by simp [z])) e⟩) (fun _ _ _ _ n => n)
    (fun b o hc e => ⟨o, k b o (fun z => hc (by simp [z])) e⟩) (fun _ _ e => e) (fun _ _ _ e => e) (fun b ps e => ⟨#[], by rw [e]; simp⟩) (fun m hm => ?_) (fun b u e => ?_) I.bare
  · have e : b = it := by simpa using hb
    subst e
    exact ⟨h1, hL, h2, h3⟩
  · obtain ⟨o, es, ep, ho, r⟩ := hm
    exact ⟨o, es, ep, k _ o (Ne.symm hL) ho, r⟩
  · refine (I.hok b u e).stay (fun c v hc q => k c v ?_ q) (fun _ q => q) fun _ _ q => q
    rcases hc with z | z
    · rw [z]; exact nit b u e
    · exact nit c _ z
theorem Inv.tok (I : Inv X pins σ H s) (t : Nat) : Inv X pins σ H { s with toks := t } := I.un (h' := s.heap) (t' := t) Un.refl I.hok
theorem Inv.kept {t' : Nat} (I : Inv X pins σ H s) (k : ∀ b u, s.heap.get? b = some u → h'.get? b = some u) : Inv X pins σ H { s with heap := h', toks := t' } := I.un (Un.kept k) (I.hok.kept k)
theorem Inv.laid {a : Addr} {o : HO} {t' : Nat} (I : Inv X pins σ H s) (k : ∀ b u, s.heap.get? b = some u → h'.get? b = some u) (hp : s.heap.objs.size ≤ a) (new : ObjOk X.prog X.w (upd H a o) h' a o) :
    Inv X pins σ (upd H a o) { s with heap := h', toks := t' } := I.un (Un.laid k hp (I.hok.fresh hp)) (I.hok.laid k hp new)
theorem Inv.write {x e : Addr} {o : HO} {t' : Nat} (I : Inv X pins σ H s) (mu : Mut (H x)) (he : e = x ∨ H e = some (.own x)) (k : ∀ b u, b ≠ e → s.heap.get? b = some u → h'.get? b = some u) (heo : ∃ u, h'.get? e = some u)
    (new : ObjOk X.prog X.w (upd H x o) h' x o) : Inv X pins σ (upd H x o) { s with heap := h', toks := t' } := I.un (Un.write mu he k heo) (I.hok.write mu he k heo new)
theorem Inv.weak {σ' : List (Option V)} (I : Inv X pins σ H s) (hl : σ'.length = σ.length) (w : ∀ (i : Nat) v, σ'[i]? = some (some v) → σ[i]? = some (some v)) : Inv X pins σ' H s :=
  ⟨I.ok, I.os, I.bare, I.base, let ⟨m, hn, hl'⟩ := I.loc; ⟨m, hn, fun i x v e1 e2 e3 => hl' i x v e1 (w i v e2) e3⟩, I.cell, I.free, I.freeC, I.pin, I.hok, hl.trans I.len⟩
theorem Inv.pins_of {pins' : List (Addr × Obj)} (I : Inv X pins σ H s) (h : ∀ p ∈ pins', s.heap.get? p.1 = some p.2 ∧ H p.1 = none ∧ p.1 ≠ X.env.locals ∧ p.1 ∉ X.fs ∧ ∀ v, p.2.data ≠ .cell v) : Inv X pins' σ H s :=
  ⟨I.ok, I.os, I.bare, I.base, I.loc, I.cell, I.free, I.freeC, fun p hp => (List.mem_append.mp hp).elim (fun z => I.pin p (List.mem_append_left _ z)) (h p), I.hok, I.len⟩
theorem nodup_ix {N : List Str} (hN : N.Nodup) {i j : Nat} {x : Str} (a : N[i]? = some x) (b : N[j]? = some x) : i = j := by
  obtain ⟨h1, e1⟩ := List.getElem?_eq_some_iff.mp a
  obtain ⟨h2, e2⟩ := List.getElem?_eq_some_iff.mp b
  exact (List.getElem_inj hN).mp (e1.trans e2.symm)
theorem store_ok2 {M : Model} {A : Around} {E : Value → Shared → Prop} {i : Nat} {x : Str} {v : V} {u : Value} {Q : Unit → Shared → Prop} (I : Inv X pins σ H s) (hN : X.N.Nodup) (hi : X.N[i]? = some x) (hx : Loc X.env.scope x) (r : RelV v u)
    (h : ∀ s', Inv X pins (σ.set i (some v)) H s' → (∃ a, Heap.SameBut a s.heap s'.heap ∧ (a = X.env.locals ∨ X.env.cells.lookup x = some a)) → Q () s') (hf : X.fn x = true ∨ X.env.scope.names.lookup x = some .local := by first | exact .inl rfl | exact .inr rfl | assumption) : wpAny M A (storeName X.env x u) Q E s := by
  obtain ⟨m, hn, hl⟩ := id I.loc
  have hcls : (X.env.scope.kind == .class || (X.env.scope.kind == .module && X.env.locals != X.env.globals)) = false := by rw [I.ok.kind]; rfl
  have hiσ : i < σ.length := by rw [I.len]; exact (List.getElem?_eq_some_iff.mp hi).1
  have cne := I.cne
  have tracked : ∀ {a : Addr} {h' : Heap}, (∃ o, s.heap.get? a = some o ∧ H a = none) → Heap.SameBut a s.heap h' → HOk X.prog X.w H h' := fun {a h'} ha hs b ob e => by
    obtain ⟨_, _, hfree⟩ := ha
    refine (I.hok b ob e).stay (fun c w' hc q => (hs.2 c ?_).trans q) (fun _ q => q) fun _ _ q => q
    rintro rfl
    rcases hc with rfl | hc
    · rw [hfree] at e; cases e
    · rw [hfree] at hc; cases hc
  rcases hx with hk | hk
  · refine wpAny_storeName_local hk hn (fun h' hn' hs => ?_) hcls
    obtain ⟨oL, _, _, hoL, _⟩ := id hn
    refine h _ ⟨I.ok, I.os, I.bare, ⟨fun b o e n hb hx => ?_, fun b o e n hb hx => ?_, I.base.free, fun b o e hx => ?_, I.base.tups, I.base.frzs, I.base.tbls⟩, ⟨_, hn', fun j y v' e1 e2 e3 => ?_⟩, fun y c e => ?_, I.free, I.freeC, fun p hp => ?_, tracked ⟨oL, hoL, I.free⟩ hs, by simpa using I.len⟩ ⟨_, hs, .inl rfl⟩
    · exact (hs.2 b (Nat.ne_of_lt (Nat.lt_of_lt_of_le (Heap.lt_size e) I.ok.above))).trans (I.base.keep b o e n hb hx)
    · obtain ⟨sl, e1⟩ := I.base.slot b o e n hb hx
      exact ⟨sl, (hs.2 b (Nat.ne_of_lt (Nat.lt_of_lt_of_le (Heap.lt_size e) I.ok.above))).trans e1⟩
    · obtain ⟨o', e1⟩ := I.base.there b o e hx
      exact ⟨o', (hs.2 b (Nat.ne_of_lt (Nat.lt_of_lt_of_le (Heap.lt_size e) I.ok.above))).trans e1⟩
    · by_cases hj : j = i
      · subst hj
        rw [hi] at e1; cases e1
        rw [List.getElem?_set_self hiσ] at e2
        cases e2
        exact ⟨u, r, .inl ⟨hk, by simp⟩⟩
      · rw [List.getElem?_set_ne (Ne.symm hj)] at e2
        obtain ⟨u', r', q⟩ := hl j y v' e1 e2 e3
        refine ⟨u', r', ?_⟩
        rcases q with ⟨k, e⟩ | ⟨k, c, e, z⟩
        · refine .inl ⟨k, ?_⟩
          have : y ≠ x := fun e => hj (nodup_ix hN e1 (e ▸ hi))
          simp [this, e]
        · exact .inr ⟨k, c, e, z.sameBut hs (cne y c e)⟩
    · obtain ⟨w', z⟩ := I.cell y c e
      exact ⟨w', z.sameBut hs (cne y c e)⟩
    · obtain ⟨e, n, ne, nf, d⟩ := I.pin p hp
      exact ⟨(hs.2 p.1 ne).trans e, n, ne, nf, d⟩
  · have hfn : X.fn x = true := by
      rcases hf with z | z
      · exact z
      · rw [z] at hk; cases hk
    obtain ⟨c, hc⟩ := I.ok.has x (.inl hk)
    obtain ⟨w', z⟩ := I.cell x c hc
    refine wpAny_storeName_cell I.ok.kind hk hc z (fun h' hc' hs => ?_)
    obtain ⟨oc, hoc, hocd⟩ := id z
    refine h { s with heap := h' } ⟨I.ok, I.os, I.bare, ⟨fun b o e n hb hx => ?_, fun b o e n hb hx => ?_, I.base.free, fun b o e hx => ?_, I.base.tups, I.base.frzs, I.base.tbls⟩, ⟨m, hn.sameBut hs (Ne.symm (cne x c hc)), fun j y v' e1 e2 e3 => ?_⟩, fun y c' e => ?_, I.free, I.freeC, fun p hp => ?_, tracked ⟨oc, hoc, I.freeC x c hc⟩ hs, by simpa using I.len⟩ ⟨c, hs, .inr hc⟩
    · exact (hs.2 b (Nat.ne_of_lt (Nat.lt_of_lt_of_le (Heap.lt_size e) (I.ok.cab x c hfn hc)))).trans (I.base.keep b o e n hb hx)
    · obtain ⟨sl, e1⟩ := I.base.slot b o e n hb hx
      exact ⟨sl, (hs.2 b (Nat.ne_of_lt (Nat.lt_of_lt_of_le (Heap.lt_size e) (I.ok.cab x c hfn hc)))).trans e1⟩
    · obtain ⟨o', e1⟩ := I.base.there b o e hx
      exact ⟨o', (hs.2 b (Nat.ne_of_lt (Nat.lt_of_lt_of_le (Heap.lt_size e) (I.ok.cab x c hfn hc)))).trans e1⟩
    · by_cases hj : j = i
      · subst hj
        rw [hi] at e1; cases e1
        rw [List.getElem?_set_self hiσ] at e2
        cases e2
        exact ⟨u, r, .inr ⟨.inl hk, c, hc, hc'⟩⟩
      · rw [List.getElem?_set_ne (Ne.symm hj)] at e2
        obtain ⟨u', r', q⟩ := hl j y v' e1 e2 e3
        refine ⟨u', r', ?_⟩
        rcases q with q | ⟨k, c', e, z'⟩
        · exact .inl q
        · refine .inr ⟨k, c', e, z'.sameBut hs ?_⟩
          rintro rfl
          exact hj (nodup_ix hN e1 (I.ok.inj _ _ _ e hc ▸ hi))
    · by_cases hcc : c' = c
      · subst hcc; exact ⟨_, hc'⟩
      · obtain ⟨w2, z2⟩ := I.cell y c' e
        exact ⟨w2, z2.sameBut hs hcc⟩
    · obtain ⟨e, n, ne, nf, d⟩ := I.pin p hp
      refine ⟨(hs.2 p.1 ?_).trans e, n, ne, nf, d⟩
      intro q
      rw [q, hoc] at e
      have q' : oc = p.2 := Option.some.inj e
      exact d w' (by rw [← q']; exact hocd)
theorem store_ok {M : Model} {A : Around} {E : Value → Shared → Prop} {i : Nat} {x : Str} {v : V} {u : Value} {Q : Unit → Shared → Prop} (I : Inv X pins σ H s) (hN : X.N.Nodup) (hi : X.N[i]? = some x) (hx : Loc X.env.scope x) (r : RelV v u)
    (h : ∀ s', Inv X pins (σ.set i (some v)) H s' → Q () s') (hf : X.fn x = true ∨ X.env.scope.names.lookup x = some .local := by first | exact .inl rfl | exact .inr rfl | assumption) : wpAny M A (storeName X.env x u) Q E s :=
  store_ok2 I hN hi hx r (fun s' I' _ => h s' I') hf
theorem Inv.call' {s' : Shared} {ch : List Addr} (I : Inv X pins σ H s) (ho : s'.os = s.os) (u : Un (frs X.stack) ch H H' s.heap s'.heap) (hok : HOk X.prog X.w H' s'.heap) (hg : AllBare s'.gens)
    (hch : ∀ b ∈ ch, (b ∈ X.ex ∨ X.s₀.heap.objs.size ≤ b) ∧ b ≠ X.env.locals ∧ (∀ x c, X.env.cells.lookup x = some c → c ≠ b) ∧ ∀ p ∈ X.pn ++ pins, p.1 ≠ b) : Inv X pins σ H' s' := by
  obtain ⟨h', g', d', t', o'⟩ := s'
  have e : o' = s.os := ho
  subst e
  exact I.call (g' := g') (t' := t') (d' := d') u hok hg hch
end
abbrev XK := Value → Option Addr → Hp → Prop
abbrev St := List (Option V)
abbrev VK := V → Hp → Prop
abbrev TE := St → Hp → VK → Prop
abbrev TT := St → Hp → (Bool → Hp → Prop) → Prop
abbrev TA := St → Hp → (List V → Hp → Prop) → Prop
structure Ends where
  nx : St → Hp → Prop
  rt : VK
  bk : St → Hp → Prop := fun _ _ => False
  ct : St → Hp → Prop := fun _ _ => False
abbrev TS := Ends → St → Hp → Prop
def EP (X : Cx) (pins : List (Addr × Obj)) (σ : St) (Q : VK) (u : Value) (s' : Shared) : Prop := ∃ v H', Inv X pins σ H' s' ∧ RelV v u ∧ Q v H'
def TP (X : Cx) (pins : List (Addr × Obj)) (σ : St) (Q : Bool → Hp → Prop) (b : Bool) (s' : Shared) : Prop := ∃ H', Inv X pins σ H' s' ∧ Q b H'
def AP (X : Cx) (pins : List (Addr × Obj)) (σ : St) (Q : List V → Hp → Prop) (us : List Value) (s' : Shared) : Prop := ∃ vs H', Inv X pins σ H' s' ∧ Vals vs us ∧ Q vs H'
def SP (X : Cx) (pins : List (Addr × Obj)) (D : Ends) (f : Flow) (s' : Shared) : Prop :=
  match f with
  | .next => ∃ σ' H', Inv X pins σ' H' s' ∧ D.nx σ' H'
  | .brk => ∃ σ' H', Inv X pins σ' H' s' ∧ D.bk σ' H'
  | .cont => ∃ σ' H', Inv X pins σ' H' s' ∧ D.ct σ' H'
  | .ret u => ∃ v σ' H', Inv X pins σ' H' s' ∧ RelV v u ∧ D.rt v H'
def PE (X : Cx) (e : Expr) (t : TE) : Prop :=
  ∀ (pins : List (Addr × Obj)) (s : Shared) (σ : St) (H : Hp) (Q : VK), Inv X pins σ H s → t σ H Q → wpAny (model X.prog X.w) X.A (eval e X.env) (EP X pins σ Q) X.xe s
def PT (X : Cx) (e : Expr) (t : TT) : Prop :=
  ∀ (pins : List (Addr × Obj)) (s : Shared) (σ : St) (H : Hp) (Q : Bool → Hp → Prop), Inv X pins σ H s → t σ H Q → wpAny (model X.prog X.w) X.A (isTrue e X.env (eval e X.env)) (TP X pins σ Q) X.xe s
def PW (X : Cx) (e : Expr) (t : TT) : Prop :=
  ∀ (whole : Sem Value) (pins : List (Addr × Obj)) (s : Shared) (σ : St) (H : Hp) (Q : Bool → Hp → Prop), Inv X pins σ H s → t σ H Q → wpAny (model X.prog X.w) X.A (isTrue e X.env whole) (TP X pins σ Q) X.xe s
theorem PW.pt {X : Cx} {e : Expr} {t : TT} (h : PW X e t) : PT X e t := h _
def PA (X : Cx) (es : List Expr) (t : TA) : Prop :=
  ∀ (pos : Pos) (pins : List (Addr × Obj)) (s : Shared) (σ : St) (H : Hp) (Q : List V → Hp → Prop), Inv X pins σ H s → t σ H Q → wpAny (model X.prog X.w) X.A (spliced (backTo pos (starEach es X.env))) (AP X pins σ Q) X.xe s
def PS (X : Cx) (st : Stmt) (t : TS) : Prop :=
  ∀ (pins : List (Addr × Obj)) (s : Shared) (σ : St) (H : Hp) (D : Ends), Inv X pins σ H s → t D σ H → wpAny (model X.prog X.w) X.A (exec st X.env) (SP X pins D) X.xe s
def PSs (X : Cx) (st : List Stmt) (t : TS) : Prop :=
  ∀ (pins : List (Addr × Obj)) (s : Shared) (σ : St) (H : Hp) (D : Ends), Inv X pins σ H s → t D σ H → wpAny (model X.prog X.w) X.A (execs st X.env) (SP X pins D) X.xe s
theorem thn {α : Type} {t : Sem α} {Q Q' : α → Shared → Prop} {M : Model} {A : Around} {E : Value → Shared → Prop} {s : Shared} (h : wpAny M A t Q E s) (hQ : ∀ a s, Q a s → Q' a s) : wpAny M A t Q' E s := wpAny_mono h hQ fun _ _ x => x
end L2
namespace L2
open PySem PySem.Spec PyProof.Rows
section
variable {X : Cx}
def tVar (i : Nat) : TE := fun σ H Q => ∃ v, σ[i]? = some (some v) ∧ Q v H
def tC (v : V) : TE := fun _ H Q => Q v H
theorem pe_var {i : Nat} {x : Str} {pos : Pos} (hN : X.N[i]? = some x) (hv : Vis X.env.scope x) (hd : (x == ("__debug__" : Str)) = false := by decide) (hcd : (x == ("__classdict__" : Str)) = false := by decide) : PE X (.Name x pos) (tVar i) := by
  intro pins s σ H Q I h
  obtain ⟨v, e, h⟩ := h
  obtain ⟨m, hn, hl⟩ := I.loc
  obtain ⟨u, r, l⟩ := hl i x v hN e hv
  have fin : EP X pins σ Q u s := ⟨v, H, I, r, h⟩
  rcases l with ⟨hk, hm⟩ | ⟨hk, c, hc, hcell⟩
  · exact wpAny_Name (wpAny_loadName_local I.ok.kind hk hn hm fin) hd
  · rcases hk with hk | hk
    · exact wpAny_Name (wpAny_loadName_cell I.ok.kind hk hc hcell fin) hd
    · exact wpAny_Name (wpAny_loadName_free I.ok.kind hk hc hcell fin hcd) hd
theorem pe_int {i j pos} : PE X (.Constant (.int i) j pos) (tC (.int i)) := fun _ _ _ H _ I h => wpAny_Constant_int ⟨.int i, H, I.tok _, ⟨_, rfl⟩, h⟩
theorem pe_bl {b j pos} : PE X (.Constant (.bool b) j pos) (tC (.bl b)) := fun _ _ _ H _ I h => Constant_bool ⟨.bl b, H, I, rfl, h⟩
theorem pe_non {j pos} : PE X (.Constant .none j pos) (tC .non) := fun _ _ _ H _ I h => Constant_none ⟨.non, H, I, rfl, h⟩
theorem pe_str {x j pos} : PE X (.Constant (.str x) j pos) (tC (.str x)) := fun _ _ _ H _ I h => Calls.Constant_str ⟨.str x, H, I.tok _, ⟨_, rfl⟩, h⟩
def Gl (X : Cx) (x : Str) : Prop := X.env.kindOf x = some .globalImplicit
theorem ld_glob {E : Value → Shared → Prop} {pins : List (Addr × Obj)} {s : Shared} {σ : St} {H : Hp} {x : Str} {u : Value} {pos : Pos} {Q : Value → Shared → Prop} (I : Inv X pins σ H s) (hg : Gl X x) (hm : X.mg x = some u) (h : Q u s)
    (hd : (x == ("__debug__" : Str)) = false := by decide) : wpAny (model X.prog X.w) X.A (eval (.Name x pos) X.env) Q E s :=
  Calls.Name_function_global I.ok.kind hg (Calls.loadGlobal_global (by rw [I.ok.glob]; exact I.mod.glob.keeps I.bk) hm h) hd
theorem ld_blt {E : Value → Shared → Prop} {pins : List (Addr × Obj)} {s : Shared} {σ : St} {H : Hp} {x : Str} {u : Value} {pos : Pos} {Q : Value → Shared → Prop} (I : Inv X pins σ H s) (hg : Gl X x) (hm : X.mg x = none) (hv : bootBuiltins x = some u) (h : Q u s)
    (hn : x ≠ "__name__" := by decide) (hd : (x == ("__debug__" : Str)) = false := by decide) : wpAny (model X.prog X.w) X.A (eval (.Name x pos) X.env) Q E s := by
  obtain ⟨mb, h1, h2⟩ := I.mod.blt
  exact Calls.Name_function_global I.ok.kind hg (Calls.loadGlobal_builtin (by rw [I.ok.glob]; exact I.mod.glob.keeps I.bk) hm (by rw [I.ok.blt]; exact h1.keeps I.bk) ((h2 x hn).trans hv) h) hd
theorem pe_glob {x : Str} {v : V} {u : Value} {pos : Pos} (hg : Gl X x) (hm : X.mg x = some u) (r : RelV v u) (hd : (x == ("__debug__" : Str)) = false := by decide) : PE X (.Name x pos) (tC v) :=
  fun _ _ _ H _ I h => ld_glob I hg hm ⟨v, H, I, r, h⟩ hd
theorem pe_bltn {x : Str} {v : V} {u : Value} {pos : Pos} (hg : Gl X x) (hm : X.mg x = none) (hv : bootBuiltins x = some u) (r : RelV v u) (hn : x ≠ "__name__" := by decide) (hd : (x == ("__debug__" : Str)) = false := by decide) : PE X (.Name x pos) (tC v) :=
  fun _ _ _ H _ I h => ld_blt I hg hm hv ⟨v, H, I, r, h⟩ hn hd
variable {a b : Expr} {ta tb : TE} {pos : Pos}
def tB (t : TE) : TT := fun σ H Q => t σ H fun x H1 => ∃ c, x = .bl c ∧ Q c H1
theorem pt_val {e : Expr} {t : TE} (h : PE X e t) (he : ∀ whole, isTrue e X.env whole = (do let v ← whole; standAt e.pos; holding [v] (truthy v)) := by intro _; rfl) : PT X e (tB t) := by
  intro pins s σ H Q I hw
  refine isTrue_plain (thn (h pins s σ H _ I hw) fun v s1 ⟨x, H1, I1, r1, q1⟩ => ?_) (he _)
  obtain ⟨d, rfl, q⟩ := q1
  cases r1
  exact wpAny_truthy_bool ⟨H1, I1, q⟩
variable {tA tB' : TT} {rest : List Expr}
def tOr (t u : TT) : TT := fun σ H Q => t σ H fun c H1 => if c = true then Q true H1 else u σ H1 Q
def tNot (t : TT) : TT := fun σ H Q => t σ H fun c H1 => Q (!c) H1
theorem pw_or1 (ha : PT X a tA) : PW X (.BoolOp .Or [a] pos) tA := by
  intro wh pins s σ H Q I h
  refine isTrue_or (thn (ha pins s σ H Q I h) fun c s1 e => ?_)
  cases c with
  | false => exact isTrue_or_nil e
  | true => exact e
theorem pw_or (ha : PT X a tA) (hb : PW X (.BoolOp .Or (b :: rest) pos) tB') : PW X (.BoolOp .Or (a :: b :: rest) pos) (tOr tA tB') := by
  intro wh pins s σ H Q I h
  refine isTrue_or (thn (ha pins s σ H _ I h) fun c s1 ⟨H1, I1, q1⟩ => ?_)
  cases c with
  | true => exact ⟨H1, I1, q1⟩
  | false => exact hb wh pins s1 σ H1 Q I1 q1
theorem pt_not (ha : PT X a tA) : PT X (.UnaryOp .Not a pos) (tNot tA) := by
  intro pins s σ H Q I h
  exact isTrue_not (ha pins s σ H (fun c H1 => Q (!c) H1) I h)
def tAndV (ta tb : TE) : TE := fun σ H Q => ta σ H fun x H1 => ∃ c, x = .bl c ∧ if c = true then tb σ H1 Q else Q (.bl false) H1
theorem pe_one {op} {t : TE} (h : PE X a t) : PE X (.BoolOp op [a] pos) t := fun pins s σ H Q I hw => BoolOp_one (h pins s σ H Q I hw)
theorem pe_and (ha : PE X a ta) (hb : PE X (.BoolOp .And (b :: rest) pos) tb) : PE X (.BoolOp .And (a :: b :: rest) pos) (tAndV ta tb) := by
  intro pins s σ H Q I h
  refine BoolOp_and (thn (ha pins s σ H _ I h) fun v s1 ⟨x, H1, I1, r1, q1⟩ => ?_)
  obtain ⟨c, rfl, q1⟩ := q1
  cases r1
  refine wpAny_truthy_bool ?_
  cases c with
  | true => exact hb pins s1 σ H1 Q I1 q1
  | false => exact ⟨.bl false, H1, I1, rfl, q1⟩
def tIf (t : TT) (ta tb : TE) : TE := fun σ H Q => t σ H fun c H1 => if c = true then ta σ H1 Q else tb σ H1 Q
theorem pe_ifExp {c : Expr} (hc : PT X c tA) (ha : PE X a ta) (hb : PE X b tb) : PE X (.IfExp c a b pos) (tIf tA ta tb) := by
  intro pins s σ H Q I h
  refine wpAny_IfExp (thn (hc pins s σ H _ I h) fun d s1 ⟨H1, I1, q1⟩ => ?_)
  cases d with
  | true => exact ha pins s1 σ H1 Q I1 q1
  | false => exact hb pins s1 σ H1 Q I1 q1
end
end L2
namespace L2
open PySem PySem.Spec PyProof.Rows
def SqL (K : PySem.W.Frag) (H : Hp) (a : Addr) (xs : List V) : Prop :=
  Rd H a (.lst xs) ∨
    ∃ (o : Obj) (its : Array Value) (n : Nat), K.lookup a = some o ∧ o.cls = .type "list" ∧ o.dict = none ∧ o.data = .seq its n ∧ its.size ≤ sizeLine ∧ Vals xs its.toList
def SqT (K : PySem.W.Frag) (H : Hp) (a : Addr) (xs : List V) : Prop :=
  Rd H a (.tup xs) ∨
    ∃ (o : Obj) (its : Array Value) (n : Nat), K.lookup a = some o ∧ o.cls = .type "tuple" ∧ o.data = .seq its n ∧ its.size ≤ sizeLine ∧ Vals xs its.toList
def absV : Value → Option V
  | .none => some .non
  | .bool b => some (.bl b)
  | .int i _ => some (.int i)
  | .str x _ => some (.str x)
  | .bytes b _ => some (.byt b)
  | .float b _ => some (.flt b)
  | .ref a => some (.ref a)
  | .type n => some (.ty n)
  | _ => none
theorem RelV.abs {x : V} {u : Value} (r : RelV x u) : absV u = some x := by
  cases x with
  | non => cases r; rfl
  | bl _ => cases r; rfl
  | int _ => obtain ⟨t, rfl⟩ := r; rfl
  | str _ => obtain ⟨t, rfl⟩ := r; rfl
  | byt _ => obtain ⟨t, rfl⟩ := r; rfl
  | flt _ => obtain ⟨t, rfl⟩ := r; rfl
  | ref _ => cases r; rfl
  | ty _ => cases r; rfl
theorem RelV.inj {x y : V} {u : Value} (r : RelV x u) (q : RelV y u) : x = y := Option.some.inj (r.abs.symm.trans q.abs)
theorem Vals.inj : ∀ {xs ys : List V} {us : List Value}, Vals xs us → Vals ys us → xs = ys
  | _, _, _, .nil, .nil => rfl
  | _, _, _, .cons r t, .cons r' t' => by rw [r.inj r', Vals.inj t t']
section
variable {X : Cx} {pins : List (Addr × Obj)} {σ : St} {H : Hp} {s : Shared} {a : Addr} {xs ys : List V}
theorem SqL.of {K : PySem.W.Frag} (h : H a = some (.lst xs)) : SqL K H a xs := .inl (.inl h)
theorem SqT.of {K : PySem.W.Frag} (h : H a = some (.tup xs)) : SqT K H a xs := .inl (.inl h)
theorem Inv.list (I : Inv X pins σ H s) (h : SqL X.K H a xs) : ∃ its : List Value, Vals xs its ∧ PlainL s.heap a its.toArray ∧ xs.length ≤ sizeLine := by
  rcases h with h | ⟨o, its, n, hk, hc, hd, hs, hz, r⟩
  · obtain ⟨z, its, n, r, e⟩ := h.ok I.hok
    exact ⟨its, r, ⟨_, n, e, rfl, rfl, rfl⟩, z⟩
  · refine ⟨its.toList, r, ⟨o, n, I.kIn a o hk, hc, hd, by simpa using hs⟩, ?_⟩
    have e := r.length
    simp only [Array.length_toList] at e
    omega
theorem Inv.tuple (I : Inv X pins σ H s) (h : SqT X.K H a xs) : ∃ its : List Value, Vals xs its ∧ IsTup s.heap a its.toArray ∧ xs.length ≤ sizeLine := by
  rcases h with h | ⟨o, its, n, hk, hc, hs, hz, r⟩
  · obtain ⟨z, its, r, p⟩ := h.ok I.hok
    exact ⟨its, r, p, z⟩
  · refine ⟨its.toList, r, ⟨o, I.kIn a o hk, hc, n, by simpa using hs⟩, ?_⟩
    have e := r.length
    simp only [Array.length_toList] at e
    omega
theorem Inv.list_inj (I : Inv X pins σ H s) (h : SqL X.K H a xs) (h' : SqL X.K H a ys) : xs = ys := by
  obtain ⟨its, r, ⟨o, n, e, _, _, d⟩, _⟩ := I.list h
  obtain ⟨its', r', ⟨o', n', e', _, _, d'⟩, _⟩ := I.list h'
  rw [e] at e'; cases e'
  rw [d] at d'
  injection d' with d1 _
  have : its = its' := by simpa using congrArg Array.toList d1
  subst this
  exact r.inj r'
end
abbrev Cx.wish (X : Cx) (E : Value → Shared → Prop) : Cx := { X with xe := E }
abbrev Cx.nox (X : Cx) : Cx := X.wish fun _ _ => False
theorem Cx.Ok.wish {X : Cx} (ok : X.Ok) (E : Value → Shared → Prop) : (X.wish E).Ok :=
  ⟨ok.mod, ok.kind, ok.glob, ok.blt, ok.above, ok.inj, ok.has, ok.cab, ok.hd, ok.frames, ok.stk, ok.exf, ok.bs, ok.bsz, ok.noex, ok.exfs, ok.funs, ok.frf⟩
theorem Cx.Ok.unwish {X : Cx} {E : Value → Shared → Prop} (ok : (X.wish E).Ok) : X.Ok :=
  ⟨ok.mod, ok.kind, ok.glob, ok.blt, ok.above, ok.inj, ok.has, ok.cab, ok.hd, ok.frames, ok.stk, ok.exf, ok.bs, ok.bsz, ok.noex, ok.exfs, ok.funs, ok.frf⟩
section
variable {X : Cx} {pins : List (Addr × Obj)} {σ : St} {H : Hp} {s : Shared} {E : Value → Shared → Prop}
theorem Inv.wish (I : Inv X pins σ H s) (E : Value → Shared → Prop) : Inv (X.wish E) pins σ H s := ⟨I.ok.wish E, I.os, I.bare, I.base, I.loc, I.cell, I.free, I.freeC, I.pin, I.hok, I.len⟩
theorem Inv.unwish (I : Inv (X.wish E) pins σ H s) : Inv X pins σ H s := ⟨I.ok.unwish, I.os, I.bare, I.base, I.loc, I.cell, I.free, I.freeC, I.pin, I.hok, I.len⟩
theorem SP.unwish {D : Ends} {f : Flow} {s' : Shared} (h : SP (X.wish E) pins D f s') : SP X pins D f s' := by
  cases f with
  | next => obtain ⟨σ', H', I, q⟩ := h; exact ⟨σ', H', I.unwish, q⟩
  | brk => obtain ⟨σ', H', I, q⟩ := h; exact ⟨σ', H', I.unwish, q⟩
  | cont => obtain ⟨σ', H', I, q⟩ := h; exact ⟨σ', H', I.unwish, q⟩
  | ret u => obtain ⟨v, σ', H', I, r, q⟩ := h; exact ⟨v, σ', H', I.unwish, r, q⟩
theorem PSs.nox {st : List Stmt} {t : TS} (h : PSs X.nox st t) : PSs X st t := fun pins s σ H D I hw =>
  wpAny_mono (h pins s σ H D (I.wish _) hw) (fun _ _ q => q.unwish) fun _ _ z => False.elim z
end
section
variable {X : Cx} {st : Stmt} {rest : List Stmt} {t u : TS} {e : Expr} {te : TE} {pos : Pos}
def tNext : TS := fun D σ H => D.nx σ H
def tSeq (t u : TS) : TS := fun D σ H => t { D with nx := u D } σ H
theorem pss_nil : PSs X [] tNext := fun _ _ σ H _ I h => wpAny_execs_nil ⟨σ, H, I, h⟩
theorem pss_cons (h1 : PS X st t) (h2 : PSs X rest u) : PSs X (st :: rest) (tSeq t u) := by
  intro pins s σ H D I h
  refine wpAny_execs_cons (thn (h1 pins s σ H { D with nx := u D } I h) fun f s1 q => ?_)
  cases f with
  | next =>
    obtain ⟨σ', H', I', q⟩ := q
    exact h2 pins s1 σ' H' D I' q
  | ret v => exact q
  | brk => exact q
  | cont => exact q
theorem pss_one (h1 : PS X st t) : PSs X [st] t := by
  intro pins s σ H D I h
  refine wpAny_execs_cons (thn (h1 pins s σ H D I h) fun f s1 q => ?_)
  cases f with
  | next => exact wpAny_execs_nil q
  | ret v => exact q
  | brk => exact q
  | cont => exact q
theorem ps_pass : PS X (.Pass pos) tNext := fun _ _ σ H _ I h => wpAny_Pass ⟨σ, H, I, h⟩
theorem Inv.quiet {pins : List (Addr × Obj)} {σ : St} {H : Hp} {s : Shared} (I : Inv X pins σ H s) : interactive X.env = false := by simp [interactive, I.ok.kind]
def tDrop (te : TE) : TS := fun D σ H => te σ H fun _ H1 => D.nx σ H1
theorem ps_expr (he : PE X e te) (hs : swapsWith e none pos.line X.env = pure false := by rfl) : PS X (.Expr e pos) (tDrop te) := by
  intro pins s σ H D I h
  exact wpAny_Expr_any (thn (he pins s σ H _ I h) fun v s1 ⟨x, H1, I1, r1, q1⟩ => ⟨σ, H1, I1, q1⟩) I.quiet hs
def tRet (te : TE) : TS := fun D σ H => te σ H D.rt
theorem ps_ret (he : PE X e te) : PS X (.Return (some e) pos) (tRet te) := by
  intro pins s σ H D I h
  exact wpAny_Return_some (thn (he pins s σ H _ I h) fun v s1 ⟨x, H1, I1, r1, q1⟩ => ⟨x, σ, H1, I1, r1, q1⟩)
def tIfS (c : TT) (t u : TS) : TS := fun D σ H => c σ H fun b H1 => if b = true then t D σ H1 else u D σ H1
theorem ps_if {c : Expr} {a b : List Stmt} {tc : TT} (hc : PT X c tc) (ha : PSs X a t) (hb : PSs X b u) : PS X (.If c a b pos) (tIfS tc t u) := by
  intro pins s σ H D I h
  refine wpAny_If (thn (hc pins s σ H _ I h) fun d s1 ⟨H1, I1, q1⟩ => ?_)
  cases d with
  | true => exact ha pins s1 σ H1 D I1 q1
  | false => exact hb pins s1 σ H1 D I1 q1
def tNever : TS := fun _ _ _ => False
theorem pss_never {sts : List Stmt} : PSs X sts tNever := fun _ _ _ _ _ _ h => h.elim
end
abbrev TG := V → St → Hp → (St → Hp → Prop) → Prop
abbrev TGs := List V → St → Hp → (St → Hp → Prop) → Prop
def PG (X : Cx) (target : Expr) (t : TG) : Prop :=
  ∀ (pins : List (Addr × Obj)) (s : Shared) (σ : St) (H : Hp) (v : V) (u : Value) (Q : St → Hp → Prop), Inv X pins σ H s → RelV v u → t v σ H Q →
    wpAny (model X.prog X.w) X.A (assign target X.env u) (fun _ s' => ∃ σ' H', Inv X pins σ' H' s' ∧ Q σ' H') X.xe s
def PGs (X : Cx) (ts : List Expr) (t : TGs) : Prop :=
  ∀ (pins : List (Addr × Obj)) (s : Shared) (σ : St) (H : Hp) (vs : List V) (us : List Value) (Q : St → Hp → Prop), Inv X pins σ H s → Vals vs us → t vs σ H Q →
    wpAny (model X.prog X.w) X.A (assignInOrder ((assignEach ts X.env).map (·.2)) us) (fun _ s' => ∃ σ' H', Inv X pins σ' H' s' ∧ Q σ' H') X.xe s
abbrev TSet := V → V → V → Hp → (Hp → Prop) → Prop
def PSet (X : Cx) (t : TSet) : Prop :=
  ∀ (pins : List (Addr × Obj)) (s : Shared) (σ : St) (H : Hp) (o i v : V) (ov iv u : Value) (Q : Hp → Prop), Inv X pins σ H s → RelV o ov → RelV i iv → RelV v u → t o i v H Q →
    wpAny (model X.prog X.w) X.A (setItem ov iv u) (fun _ s' => ∃ H', Inv X pins σ H' s' ∧ Q H') X.xe s
section
variable {X : Cx} {pos : Pos}
def gName (i : Nat) : TG := fun v σ H Q => Q (σ.set i (some v)) H
theorem pg_name {i : Nat} {x : Str} (hN : X.N.Nodup) (hi : X.N[i]? = some x) (hx : Loc X.env.scope x) (hf : X.fn x = true ∨ X.env.scope.names.lookup x = some .local := by first | exact .inl rfl | exact .inr rfl | assumption) : PG X (.Name x pos) (gName i) := by
  intro pins s σ H v u Q I r h
  exact wpAny_assign_Name (store_ok I hN hi hx r (fun s' I' => ⟨_, H, I', h⟩) hf)
def gNil : TGs := fun vs σ H Q => vs = [] ∧ Q σ H
def gCons (t : TG) (u : TGs) : TGs := fun vs σ H Q => ∃ v r, vs = v :: r ∧ t v σ H fun σ' H' => u r σ' H' Q
theorem pgs_nil : PGs X [] gNil := by
  intro pins s σ H vs us Q I r h
  obtain ⟨e, h⟩ := h
  subst e
  cases r
  exact assignInOrder_nil ⟨σ, H, I, h⟩
theorem pgs_cons {e : Expr} {es : List Expr} {t : TG} {u : TGs} (h1 : PG X e t) (h2 : PGs X es u)
    (hs : (assignEach (e :: es) X.env).map (·.2) = assign e X.env :: (assignEach es X.env).map (·.2) := by rfl) : PGs X (e :: es) (gCons t u) := by
  intro pins s σ H vs us Q I r h
  obtain ⟨v, vr, e1, h⟩ := h
  subst e1
  cases r with
  | cons r rr =>
    rw [hs]
    refine assignInOrder_cons (thn (h1 pins s σ H _ _ _ I r h) fun _ s1 ⟨σ1, H1, I1, q1⟩ => ?_)
    exact h2 pins s1 σ1 H1 _ _ Q I1 rr q1
def gTup (K : PySem.W.Frag) (n : Nat) (t : TGs) : TG := fun v σ H Q => ∃ a xs, v = .ref a ∧ SqT K H a xs ∧ xs.length = n ∧ t xs σ H Q
theorem pg_tup {es : List Expr} {k : Nat} {t : TGs} {n : Nat} (hc : X.calm = true) (h : PGs X es t)
    (hn : (assignEach es X.env).length = n := by rfl) (hst : (assignEach es X.env).findIdx? (·.1) = none := by rfl) : PG X (.Tuple es k pos) (gTup X.K n t) := by
  intro pins s σ H v u Q I r hw
  obtain ⟨a, xs, e1, hq, hl, hw⟩ := hw
  subst e1
  cases r
  obtain ⟨its, rv, ht, hz⟩ := I.tuple hq
  refine assign_Tuple_tuple (I.ok.hd hc) ht (by simp [hn, ← hl, rv.length]) hst fun h' hx => ?_
  have I1 : Inv X pins σ H { s with heap := h' } := I.kept (t' := s.toks) fun b o e => hx b o (Nat.ne_of_lt (Heap.lt_size e)) e
  exact h pins _ σ H xs _ Q I1 (by simpa using rv) hw
def gSub (to ti : TE) (t : TSet) : TG := fun v σ H Q => to σ H fun o H1 => ti σ H1 fun i H2 => t o i v H2 fun H3 => Q σ H3
theorem pg_sub {o i : Expr} {to ti : TE} {t : TSet} (ho : PE X o to) (hi : PE X i ti) (hs : PSet X t)
    (ha : ∀ v, assign (.Subscript o i pos) X.env v = (do
      let ov ← holding [v] (eval o X.env)
      let iv ← holding [v, ov] (eval i X.env)
      standAt pos
      holding [v, ov, iv] (setItem ov iv v)
      release [v, ov, iv] []) := by intro _; rfl) : PG X (.Subscript o i pos) (gSub to ti t) := by
  intro pins s σ H v u Q I r h
  rw [ha]
  refine wpAny_bind (wpAny_holding (thn (ho pins s σ H _ I h) fun ov s1 ⟨x, H1, I1, r1, q1⟩ => ?_))
  refine wpAny_bind (wpAny_holding (thn (hi pins s1 σ H1 _ I1 q1) fun iv s2 ⟨y, H2, I2, r2, q2⟩ => ?_))
  refine wpAny_bind (wpAny_standAt (wpAny_bind (wpAny_holding (thn (hs pins s2 σ H2 x y v ov iv u _ I2 r1 r2 r q2) fun _ s3 ⟨H3, I3, q3⟩ => ?_))))
  exact wpAny_release ⟨σ, H3, I3, q3⟩
def tAsg (te : TE) (g : TG) : TS := fun D σ H => te σ H fun x H1 => g x σ H1 D.nx
theorem ps_asg {tg e : Expr} {te : TE} {g : TG} (he : PE X e te) (hg : PG X tg g) (hs : swapsWithSole [tg] e pos.line X.env = pure false := by rfl) (hw : swappedStores [tg] e X.env = pure none := by rfl)
    (h1 : (assignEach [tg] X.env).map (·.2) = [assign tg X.env] := by rfl) : PS X (.Assign [tg] e pos) (tAsg te g) := by
  intro pins s σ H D I h
  refine wpAny_Assign_stores (thn (he pins s σ H _ I h) fun v s1 ⟨x, H1, I1, r1, q1⟩ => ?_) hs hw
  rw [h1]
  exact thn (hg pins s1 σ H1 x v _ I1 r1 q1) fun _ s2 q => q
theorem ps_set {i : Nat} {x : Str} {e : Expr} {te : TE} {pos' : Pos} (hN : X.N.Nodup) (hi : X.N[i]? = some x) (hx : Loc X.env.scope x) (he : PE X e te) (hs : swapsWith e (some (.Name x pos')) pos.line X.env = pure false := by rfl) (hf : X.fn x = true ∨ X.env.scope.names.lookup x = some .local := by first | exact .inl rfl | exact .inr rfl | assumption) :
    PS X (.Assign [.Name x pos'] e pos) (tAsg te (gName i)) := by
  intro pins s σ H D I h
  refine wpAny_Assign_Name (thn (he pins s σ H _ I h) fun v s1 ⟨y, H1, I1, r1, q1⟩ => ?_) hs
  exact store_ok I1 hN hi hx r1 (fun s2 I2 => ⟨_, H1, I2, q1⟩) hf
def tPar (i j : Nat) (ta : TA) : TS := fun D σ H => ta σ H fun vs H1 => ∃ v w, vs = [v, w] ∧ D.nx ((σ.set i (some v)).set j (some w)) H1
theorem ps_par {i j : Nat} {x y : Str} {a b : Expr} {ta : TA} {px py pt : Pos} {kt k2 pt2} (hc : X.calm = true) (hN : X.N.Nodup) (hi : X.N[i]? = some x) (hj : X.N[j]? = some y) (hij : i ≠ j)
    (hx : X.env.scope.names.lookup x = some .local) (hy : X.env.scope.names.lookup y = some .local) (ha : PA X [a, b] ta)
    (hw : swappedStores [.Tuple [.Name x px, .Name y py] kt pt] (.Tuple [a, b] k2 pt2) X.env = pure (some [x, y]))
    (hs : swapsWithSole [.Tuple [.Name x px, .Name y py] kt pt] (.Tuple [a, b] k2 pt2) pos.line X.env = pure false := by rfl) :
    PS X (.Assign [.Tuple [.Name x px, .Name y py] kt pt] (.Tuple [a, b] k2 pt2) pos) (tPar i j ta) := by
  intro pins s σ H D I h
  rw [exec_Assign_arm]
  refine wpAny_bind (wpAny_standAt ?_)
  rw [hs]
  refine wpAny_bind (wpAny_pure ?_)
  rw [if_neg (by decide)]
  refine wpAny_bind (Tuple_ (thn (ha _ pins s σ H _ I h) fun us s1 ⟨vs, H1, I1, r1, q1⟩ => ?_))
  obtain ⟨v, w, e1, q1⟩ := q1
  subst e1
  obtain ⟨u1, u2, rfl, rv, rw'⟩ : ∃ u1 u2, us = [u1, u2] ∧ RelV v u1 ∧ RelV w u2 := by
    cases r1 with
    | cons p q =>
      cases q with
      | cons p' q' =>
        cases q'
        exact ⟨_, _, rfl, p, p'⟩
  refine wpAny_newObj_type ?_ (by show 2 ≤ sizeLine; decide)
  have I2 : Inv X pins σ H1 { s1 with heap := s1.heap.push { cls := .type "tuple", data := .seq [u1, u2].toArray } } := I1.kept (t' := s1.toks) fun b o e => Heap.get?_push_of_some _ e
  rw [hw]
  refine wpAny_bind (wpAny_pure ?_)
  show wpAny (model X.prog X.w) X.A (do rule "assign.swapped-stores"; let items ← unpackItems (.ref s1.heap.objs.size) 2 none; assignInOrder [fun v => bindName X.env y v, fun v => bindName X.env x v] items.reverse; pure Flow.next) _ _ _
  refine wpAny_bind (wpAny_rule (wpAny_bind (unpackItems_tuple (items := #[u1, u2]) (I.ok.hd hc) (IsTup.new s1.heap _) fun h' hx' => ?_)))
  have I3 := I2.kept (h' := h') (t' := s1.toks) fun b o e => hx' b o (Nat.ne_of_lt (Heap.lt_size e)) e
  show wpAny _ _ (assignInOrder [fun v => bindName X.env y v, fun v => bindName X.env x v] [u2, u1] >>= fun _ => pure Flow.next) _ _ _
  refine wpAny_bind (assignInOrder_cons (wpAny_bindName (store_ok I3 hN hj (.inl hy) rw' (fun s2 I4 => ?_) (.inr hy))))
  refine assignInOrder_cons (wpAny_bindName (store_ok I4 hN hi (.inl hx) rv (fun s3 I5 => assignInOrder_nil (wpAny_pure ?_)) (.inr hx)))
  rw [List.set_comm _ _ (Ne.symm hij)] at I5
  exact ⟨_, H1, I5, q1⟩
end
section
variable {X : Cx} {pos : Pos}
def tWhile (c : TT) (tb : TS) : TS := fun D σ H => ∃ W : Nat → St → Hp → Prop, (∃ m, W m σ H) ∧ ∀ m σ H, W m σ H →
  c σ H fun b H1 => if b = true then ∃ N : St → Hp → Prop, (∀ σ' H', N σ' H' → ∃ m', m' < m ∧ W m' σ' H') ∧ tb { D with nx := N, ct := N, bk := D.nx } σ H1 else D.nx σ H1
theorem ps_while {c : Expr} {body : List Stmt} {tc : TT} {tb : TS} (hp : PassesOwn (model X.prog X.w) X.A X.env X.xe) (hc : PT X c tc) (hb : PSs X body tb) : PS X (.While c body [] pos) (tWhile tc tb) := by
  intro pins s σ H D I h
  obtain ⟨W, ⟨m0, w0⟩, turn⟩ := h
  refine wpAny_While (codeAny_whileLoop (fun n s' => ∃ σ' H', Inv X pins σ' H' s' ∧ W n σ' H') ?_ m0 ⟨σ, H, I, w0⟩)
  rintro n s1 ⟨σ1, H1, I1, w1⟩
  refine wpAny_passesOwn hp (thn (hc pins s1 σ1 H1 _ I1 (turn n σ1 H1 w1)) fun b s2 ⟨H2, I2, q2⟩ => ?_)
  cases b with
  | true =>
    obtain ⟨N, hN, q2⟩ := q2
    rw [if_pos rfl]
    refine wpAny_passesOwn hp (thn (hb pins s2 σ1 H2 _ I2 q2) fun f s3 q3 => ?_)
    cases f with
    | next =>
      obtain ⟨σ3, H3, I3, n3⟩ := q3
      obtain ⟨m', hm, w3⟩ := hN σ3 H3 n3
      exact ⟨m', hm, σ3, H3, I3, w3⟩
    | cont =>
      obtain ⟨σ3, H3, I3, n3⟩ := q3
      obtain ⟨m', hm, w3⟩ := hN σ3 H3 n3
      exact ⟨m', hm, σ3, H3, I3, w3⟩
    | brk => exact q3
    | ret v => exact q3
  | false =>
    rw [if_neg Bool.false_ne_true]
    exact wpAny_execs_nil ⟨σ1, H2, I2, q2⟩
end
structure It where
  go : Nat → Hp → Prop
  yld : Nat → Hp → V → Hp → Prop
  stop : Nat → Hp → Prop
def FpOk (X : Cx) (pins : List (Addr × Obj)) (H : Hp) (b : Addr) : Prop :=
  H b = none ∧ b ≠ X.env.locals ∧ b ∉ X.fs ∧ (b ∈ X.ex ∨ X.s₀.heap.objs.size ≤ b) ∧ (∀ x c, X.env.cells.lookup x = some c → c ≠ b) ∧ ∀ p ∈ X.pn ++ pins, p.1 ≠ b
theorem Inv.fpOk {X : Cx} {pins : List (Addr × Obj)} {σ : St} {H H' : Hp} {s : Shared} {b : Addr} (I : Inv X pins σ H s) (hb : s.heap.objs.size ≤ b) (hn : H' b = none) : FpOk X pins H' b := by
  refine ⟨hn, Nat.ne_of_gt (Nat.lt_of_lt_of_le I.lt hb), I.nofs hb, .inr (Nat.le_trans I.sz hb), fun x c e z => ?_, fun p hp z => ?_⟩
  · obtain ⟨v, q⟩ := I.cell x c e
    exact absurd (Nat.lt_of_lt_of_le q.lt (by rw [z]; exact hb)) (Nat.lt_irrefl _)
  · exact absurd (Nat.lt_of_lt_of_le (Heap.lt_size (I.pin p hp).1) (by rw [z]; exact hb)) (Nat.lt_irrefl _)
structure Turn (P : Program) (w : World) (K : PySem.W.Frag) (tg : Expr) (J : It) (fp : List Addr) (it : Addr) (tn : Nat → Heap → Prop) : Prop where
  mem : it ∈ fp
  obj : ∀ i h, tn i h → ∀ b ∈ fp, ∃ o, h.get? b = some o ∧ ∀ v, o.data ≠ .cell v
  keep : ∀ i h h', tn i h → (∀ b ∈ fp, ∀ o, h.get? b = some o → h'.get? b = some o) → tn i h'
  item : ∀ (X : Cx), X.prog = P → X.w = w → X.K = K → X.calm = true → ∀ (i : Nat) (pins : List (Addr × Obj)) (s : Shared) (σ : St) (H : Hp) (E : Value → Shared → Prop), Inv X pins σ H s → (∀ b ∈ fp, FpOk X pins H b) → tn i s.heap → J.go i H →
    wpAny (model P w) X.A (pyNext (.ref it)) (fun r s1 => ∃ u, r = some u ∧
      wpAny (model P w) X.A (letOwnedTupleGo tg (.ref it) u) (fun _ s2 => ∃ x H', Inv X pins σ H' s2 ∧ RelV x u ∧ J.yld i H x H' ∧ tn (i + 1) s2.heap ∧ ∀ b ∈ fp, H' b = none) E s1) E s
  done : ∀ (X : Cx), X.prog = P → X.w = w → X.K = K → X.calm = true → ∀ (i : Nat) (pins : List (Addr × Obj)) (s : Shared) (σ : St) (H : Hp) (E : Value → Shared → Prop), Inv X pins σ H s → (∀ b ∈ fp, FpOk X pins H b) → tn i s.heap → J.stop i H →
    wpAny (model P w) X.A (pyNext (.ref it)) (fun r s1 => r = none ∧ Inv X pins σ H s1) E s
  self : ∀ (A : Around) (i : Nat) (s : Shared) (Q : Value → Shared → Prop) (E : Value → Shared → Prop), tn i s.heap → Q (.ref it) s → wpAny (model P w) A (pyIter (.ref it)) Q E s
abbrev TI := St → Hp → (It → Hp → Prop) → Prop
def PIE (X : Cx) (pins : List (Addr × Obj)) (σ : St) (tg : Expr) (R : It → Hp → Prop) (itv : Value) (s2 : Shared) : Prop :=
  ∃ (it : Addr) (fp : List Addr) (tn : Nat → Heap → Prop) (J : It) (H' : Hp), itv = .ref it ∧ Inv X pins σ H' s2 ∧ Turn X.prog X.w X.K tg J fp it tn ∧ tn 0 s2.heap ∧ (∀ b ∈ fp, FpOk X pins H' b) ∧ R J H'
def PI (X : Cx) (tg iter : Expr) (wi : TI) : Prop :=
  ∀ (pins : List (Addr × Obj)) (s : Shared) (σ : St) (H : Hp) (R : It → Hp → Prop), Inv X pins σ H s → wi σ H R →
    wpAny (model X.prog X.w) X.A (eval iter X.env) (fun v s1 => wpAny (model X.prog X.w) X.A (pyIter v) (PIE X pins σ tg R) X.xe s1) X.xe s
theorem go_of {M : Model} {A : Around} {E : Value → Shared → Prop} {s : Shared} {tg : Expr} {it : Addr} {u : Value} {o : Obj} {n : String} {vs : Array Value} {Q : Unit → Shared → Prop} (ho : s.heap.get? it = some o) (hc : o.cls = .type n) (hd : o.data = .fields vs)
    (hn : ["enumerate", "zip", "dict_itemiterator", "dict_reverseitemiterator", "odict_iterator", "itertools.zip_longest", "itertools.pairwise"].contains n = false) (hQ : Q () s) : wpAny M A (letOwnedTupleGo tg (.ref it) u) Q E s := by
  unfold letOwnedTupleGo
  cases tg <;> first
    | exact wpAny_pure hQ
    | (cases u <;> first
        | exact wpAny_pure hQ
        | (refine wpAny_bind (wpAny_load ho ?_)
           rw [hc, hd]
           show wpAny M A (if (["enumerate", "zip", "dict_itemiterator", "dict_reverseitemiterator", "odict_iterator", "itertools.zip_longest", "itertools.pairwise"].contains n && vs[0]? == some (rawInt _)) = true then _ else _) Q E s
           rw [if_neg (by intro h; rw [hn, Bool.false_and] at h; cases h)]
           exact wpAny_pure hQ))
def Itl (K : PySem.W.Frag) (a : Addr) : It :=
  ⟨fun i H => ∃ xs x, SqL K H a xs ∧ xs[i]? = some x, fun i H x H' => H' = H ∧ ∀ xs, SqL K H a xs → xs[i]? = some x, fun i H => ∃ xs, SqL K H a xs ∧ xs.length ≤ i⟩
theorem turn_list {P : Program} {w : World} {K : PySem.W.Frag} {tg : Expr} (a it : Addr) : Turn P w K tg (Itl K a) [it] it (fun i h => h.IsListIter it a i) where
  mem := by simp
  obj := fun i h st b hb => by
    have e : b = it := by simpa using hb
    subst e
    obtain ⟨o, e, c, d⟩ := st
    exact ⟨o, e, fun v z => by rw [d] at z; cases z⟩
  keep := fun i h h' st k => st.at fun o e => k it (by simp) o e
  item := by
    intro X hP hw hK hc i pins s σ H E I hf st hg
    subst hP hw hK
    obtain ⟨xs, x, hq, hx⟩ := hg
    obtain ⟨its, rv, p, hz⟩ := I.list hq
    obtain ⟨u, hu, ru⟩ := rv.get hx
    obtain ⟨f0, f1, f2, f3, f4, f5⟩ := hf it (by simp)
    refine wpAny_pyNext_list_item st p.isList (x := u) (by simpa using hu) fun h' st' sb => ?_
    have I1 : Inv X pins σ H { s with heap := h' } := I.turned (t' := s.toks) (fun b o hb e => (sb.2 b hb).trans e) f0 f1 f3 f4 f5
    obtain ⟨o, e, c, d⟩ := id st'
    exact ⟨u, rfl, go_of (s := { s with heap := h' }) e c d (by decide) ⟨x, H, I1, ru, ⟨rfl, fun ys hy => by rw [I.list_inj hy hq]; exact hx⟩, st', fun b hb => (hf b hb).1⟩⟩
  done := by
    intro X hP hw hK hc i pins s σ H E I hf st hg
    subst hP hw hK
    obtain ⟨xs, hq, hx⟩ := hg
    obtain ⟨its, rv, p, hz⟩ := I.list hq
    obtain ⟨f0, f1, f2, f3, f4, f5⟩ := hf it (by simp)
    have hl := rv.length
    exact wpAny_pyNext_list_end (I.ok.hd hc) st p.isList (by simp; omega) fun h' eb => ⟨rfl, I.turned (t' := s.toks) (fun b o hb e => eb b o hb e) f0 f1 f3 f4 f5⟩
  self := fun _ _ _ _ _ st h => wpAny_pyIter_listiter st h
end L2
namespace L2
open PySem PySem.Spec PyProof.Rows
section
variable {X : Cx} {tg : Expr}
def iList (K : PySem.W.Frag) (tl : TE) : TI := fun σ H R => tl σ H fun x H1 => ∃ a, x = .ref a ∧ (∃ xs, SqL K H1 a xs) ∧ R (Itl K a) H1
theorem pi_list {l : Expr} {tl : TE} (hl : PE X l tl) : PI X tg l (iList X.K tl) := by
  intro pins s σ H R I h
  refine thn (hl pins s σ H _ I h) fun v s1 ⟨x, H1, I1, r1, q1⟩ => ?_
  obtain ⟨a, e, ⟨xs, hq⟩, q⟩ := q1
  subst e
  cases r1
  obtain ⟨its, rv, p, hz⟩ := I1.list hq
  refine wpAny_pyIter_list p.isList ?_
  refine ⟨s1.heap.objs.size, [s1.heap.objs.size], _, _, H1, rfl, I1.kept (t' := s1.toks) fun b o e => Heap.get?_push_of_some _ e, turn_list a _, ⟨_, Heap.get?_push_size _ rfl, rfl, rfl⟩, fun b hb => ?_, q⟩
  have e : b = s1.heap.objs.size := by simpa using hb
  subst e
  exact I1.fpOk (Nat.le_refl _) (I1.hok.fresh (Nat.le_refl _))
def tFor (wi : TI) (g : TG) (tb : TS) : TS := fun D σ H => wi σ H fun J H1 => ∃ W : Nat → Nat → St → Hp → Prop, (∃ m, W 0 m σ H1) ∧ ∀ i m σ H, W i m σ H →
  (J.stop i H ∧ D.nx σ H) ∨ (J.go i H ∧ ∃ N : St → Hp → Prop, (∀ σ' H', N σ' H' → ∃ m', m' < m ∧ W (i + 1) m' σ' H') ∧ ∀ x H', J.yld i H x H' → g x σ H' fun σ2 H2 => tb { D with nx := N, ct := N, bk := D.nx } σ2 H2)
def pinsAt (fp : List Addr) (h : Heap) : List (Addr × Obj) := fp.filterMap fun b => (h.get? b).map fun o => (b, o)
theorem mem_pinsAt {fp : List Addr} {h : Heap} {b : Addr} {o : Obj} (hb : b ∈ fp) (e : h.get? b = some o) : (b, o) ∈ pinsAt fp h := List.mem_filterMap.mpr ⟨b, hb, by rw [e]; rfl⟩
theorem of_pinsAt {fp : List Addr} {h : Heap} {p : Addr × Obj} (hp : p ∈ pinsAt fp h) : p.1 ∈ fp ∧ h.get? p.1 = some p.2 := by
  obtain ⟨b, hb, e⟩ := List.mem_filterMap.mp hp
  cases q : h.get? b with
  | none => rw [q] at e; cases e
  | some o =>
    rw [q] at e
    have e' : (b, o) = p := Option.some.inj e
    subst e'
    exact ⟨hb, q⟩
theorem Inv.pinned {pins : List (Addr × Obj)} {σ : St} {H : Hp} {s : Shared} {fp : List Addr} (I : Inv X pins σ H s) (hf : ∀ b ∈ fp, FpOk X pins H b) (ho : ∀ b ∈ fp, ∃ o, s.heap.get? b = some o ∧ ∀ v, o.data ≠ .cell v) : Inv X (pins ++ pinsAt fp s.heap) σ H s :=
  I.pins_of fun p hp => (List.mem_append.mp hp).elim (fun z => I.pin p (List.mem_append_right _ z)) fun z => by
    obtain ⟨hb, e⟩ := of_pinsAt z
    obtain ⟨f0, f1, f2, _⟩ := hf p.1 hb
    obtain ⟨o, e', d⟩ := ho p.1 hb
    rw [e] at e'; cases e'
    exact ⟨e, f0, f1, f2, d⟩
theorem Inv.unpinned {pins pl : List (Addr × Obj)} {σ : St} {H : Hp} {s : Shared} (I : Inv X (pins ++ pl) σ H s) : Inv X pins σ H s := I.pins_of fun p hp => I.pin p (List.mem_append_right _ (List.mem_append_left _ hp))
theorem ps_for {iter : Expr} {body : List Stmt} {wi : TI} {g : TG} {tb : TS} {pos : Pos} (hp : PassesOwn (model X.prog X.w) X.A X.env X.xe) (hc : X.calm = true) (hi : PI X tg iter wi) (hg : PG X tg g) (hb : PSs X body tb)
    (hs : ∀ x, foldedSetIterable iter X.env x = pure x := by intro _; rfl) : PS X (.For tg iter body [] pos) (tFor wi g tb) := by
  intro pins s σ H D I h
  refine wpAny_For (thn (hi pins s σ H _ I h) fun v s1 h1 => thn h1 fun itv s2 h2 => ?_) hs
  obtain ⟨it, fp, tn, J, H2, e, I2, T, st2, f2, W, ⟨m0, w0⟩, turn⟩ := h2
  subst e
  have stat : ∀ {H' : Hp}, (∀ b ∈ fp, H' b = none) → ∀ b ∈ fp, FpOk X pins H' b := fun hn b hb => ⟨hn b hb, (f2 b hb).2⟩
  refine codeAny_forLoop_any (fun n s' => ∃ i σ' H', Inv X pins σ' H' s' ∧ tn i s'.heap ∧ (∀ b ∈ fp, H' b = none) ∧ W i n σ' H') ?_ m0 ⟨0, σ, H2, I2, st2, fun b hb => (f2 b hb).1, w0⟩
  rintro n s3 ⟨i, σ3, H3, I3, st3, fr3, w3⟩
  rcases turn i n σ3 H3 w3 with ⟨stop, qn⟩ | ⟨go, N, hN, step⟩
  · refine wpAny_passesOwn hp (thn (T.done X rfl rfl rfl hc i pins s3 σ3 H3 X.xe I3 (stat fr3) st3 stop) fun r s4 ⟨hr, I4⟩ => ?_)
    subst hr
    exact wpAny_execs_nil ⟨σ3, H3, I4, qn⟩
  · refine wpAny_passesOwn hp (thn (T.item X rfl rfl rfl hc i pins s3 σ3 H3 X.xe I3 (stat fr3) st3 go) fun r s4 ⟨u, hr, h4⟩ => ?_)
    subst hr
    refine wpAny_passesOwn hp (thn h4 fun _ s5 ⟨x, H5, I5, r5, y5, st5, fr5⟩ => ?_)
    have I5' := I5.pinned (stat fr5) (T.obj _ _ st5)
    refine wpAny_passesOwn hp (thn (hg _ s5 σ3 H5 x u _ I5' r5 (step x H5 y5)) fun _ s6 ⟨σ6, H6, I6, q6⟩ => ?_)
    refine wpAny_passesOwn hp (thn (hb _ s6 σ6 H6 _ I6 q6) fun f s7 q7 => ?_)
    have again : ∀ {σ7 : St} {H7 : Hp}, Inv X (pins ++ pinsAt fp s5.heap) σ7 H7 s7 → N σ7 H7 → ∃ m, m < n ∧ ∃ i σ' H', Inv X pins σ' H' s7 ∧ tn i s7.heap ∧ (∀ b ∈ fp, H' b = none) ∧ W i m σ' H' := fun {σ7 H7} I7 n7 => by
      obtain ⟨m', hm, w7⟩ := hN σ7 H7 n7
      refine ⟨m', hm, i + 1, σ7, H7, I7.unpinned, T.keep _ _ _ st5 fun b hb o e => (I7.pin (b, o) (List.mem_append_right _ (List.mem_append_right _ (mem_pinsAt hb e)))).1, fun b hb => ?_, w7⟩
      obtain ⟨o, e, d⟩ := T.obj _ _ st5 b hb
      exact (I7.pin (b, o) (List.mem_append_right _ (List.mem_append_right _ (mem_pinsAt hb e)))).2.1
    cases f with
    | next => obtain ⟨σ7, H7, I7, n7⟩ := q7; exact again I7 n7
    | cont => obtain ⟨σ7, H7, I7, n7⟩ := q7; exact again I7 n7
    | brk => obtain ⟨σ7, H7, I7, q7⟩ := q7; exact ⟨σ7, H7, I7.unpinned, q7⟩
    | ret v => obtain ⟨x7, σ7, H7, I7, r7, q7⟩ := q7; exact ⟨x7, σ7, H7, I7.unpinned, r7, q7⟩
end
theorem for_list {K : PySem.W.Frag} {a : Addr} {xs : List V} {g : TG} {tb : TS} {D : Ends} {σ : St} {H : Hp} (Pv : Nat → St → Hp → Prop) (h0 : Pv 0 σ H) (hl : ∀ i σ H, i ≤ xs.length → Pv i σ H → SqL K H a xs)
    (hs : ∀ i x σ H, xs[i]? = some x → Pv i σ H → g x σ H fun σ2 H2 => tb { D with nx := Pv (i + 1), ct := Pv (i + 1), bk := D.nx } σ2 H2) (hd : ∀ σ H, Pv xs.length σ H → D.nx σ H) :
    ∃ W : Nat → Nat → St → Hp → Prop, (∃ m, W 0 m σ H) ∧ ∀ i m σ H, W i m σ H →
      ((Itl K a).stop i H ∧ D.nx σ H) ∨ ((Itl K a).go i H ∧ ∃ N : St → Hp → Prop, (∀ σ' H', N σ' H' → ∃ m', m' < m ∧ W (i + 1) m' σ' H') ∧ ∀ x H', (Itl K a).yld i H x H' → g x σ H' fun σ2 H2 => tb { D with nx := N, ct := N, bk := D.nx } σ2 H2) := by
  refine ⟨fun i m σ H => m = xs.length - i ∧ i ≤ xs.length ∧ Pv i σ H, ⟨xs.length, by simp, Nat.zero_le _, h0⟩, ?_⟩
  rintro i m σ H ⟨rfl, hi, p⟩
  have q := hl i σ H hi p
  by_cases hlt : i < xs.length
  · refine .inr ⟨⟨xs, xs[i], q, by simp [hlt]⟩, Pv (i + 1), fun σ' H' p' => ⟨xs.length - (i + 1), by omega, rfl, hlt, p'⟩, fun x H' y => ?_⟩
    obtain ⟨e, y⟩ := y
    subst e
    exact hs i x σ _ (y xs q) p
  · have e : i = xs.length := by omega
    subst e
    exact .inl ⟨⟨xs, q, Nat.le_refl _⟩, hd σ H p⟩
end L2
namespace L2
open PySem PySem.Spec PyProof.Rows
abbrev R2 := V → V → Hp → VK → Prop
def OpR (X : Cx) (f : Value → Value → Sem Value) (r : R2) : Prop :=
  ∀ (pins : List (Addr × Obj)) (s : Shared) (σ : St) (H : Hp) (x y : V) (v u : Value) (Q : VK), Inv X pins σ H s → RelV x v → RelV y u → r x y H Q →
    wpAny (model X.prog X.w) X.A (f v u) (EP X pins σ Q) X.xe s
def UnR (X : Cx) (f : Value → Sem Value) (r : V → Hp → VK → Prop) : Prop :=
  ∀ (pins : List (Addr × Obj)) (s : Shared) (σ : St) (H : Hp) (x : V) (v : Value) (Q : VK), Inv X pins σ H s → RelV x v → r x H Q →
    wpAny (model X.prog X.w) X.A (f v) (EP X pins σ Q) X.xe s
def CallR (X : Cx) (f : Value) (r : List V → Hp → VK → Prop) : Prop :=
  ∀ (pins : List (Addr × Obj)) (s : Shared) (σ : St) (H : Hp) (xs : List V) (us : List Value) (Q : VK), Inv X pins σ H s → Vals xs us → r xs H Q →
    wpAny (model X.prog X.w) X.A (call f us) (EP X pins σ Q) X.xe s
def tOp (r : R2) (ta tb : TE) : TE := fun σ H Q => ta σ H fun x H1 => tb σ H1 fun y H2 => r x y H2 Q
def tUn (r : V → Hp → VK → Prop) (ta : TE) : TE := fun σ H Q => ta σ H fun x H1 => r x H1 Q
def rI (C : Int → Int → Prop) (g : Int → Int → V) : R2 := fun x y H Q => ∃ i j, x = .int i ∧ y = .int j ∧ C i j ∧ Q (g i j) H
def rI0 (g : Int → Int → V) : R2 := fun x y H Q => ∃ i j, x = .int i ∧ y = .int j ∧ Q (g i j) H
def rU (g : Int → V) : V → Hp → VK → Prop := fun x H Q => ∃ i, x = .int i ∧ Q (g i) H
section
variable {X : Cx} {a b c : Expr} {ta tb tc : TE} {pos : Pos}
theorem binT (ha : PE X a ta) (hb : PE X b tb) {pins : List (Addr × Obj)} {s : Shared} {σ : St} {H : Hp} {R : V → V → Hp → Prop} (I : Inv X pins σ H s)
    (h : ta σ H fun x H1 => tb σ H1 fun y H2 => R x y H2) {Q : Value → Shared → Prop} {f : Value → Value → Sem Value}
    (hf : ∀ v u s2 x y H2, Inv X pins σ H2 s2 → RelV x v → RelV y u → R x y H2 → wpAny (model X.prog X.w) X.A (f v u) Q X.xe s2) :
    wpAny (model X.prog X.w) X.A (eval a X.env) (fun v s₁ => wpAny (model X.prog X.w) X.A (eval b X.env) (fun u s₂ => wpAny (model X.prog X.w) X.A (f v u) Q X.xe s₂) X.xe s₁) X.xe s := by
  refine thn (ha pins s σ H _ I h) fun v s1 ⟨x, H1, I1, r1, q1⟩ => ?_
  refine thn (hb pins s1 σ H1 _ I1 q1) fun u s2 ⟨y, H2, I2, r2, q2⟩ => ?_
  exact hf v u s2 x y H2 I2 r1 r2 q2
theorem pe_op {op : Operator} {r : R2} (ho : OpR X (binaryOp op) r) (ha : PE X a ta) (hb : PE X b tb) : PE X (.BinOp a op b pos) (tOp r ta tb) := by
  intro pins s σ H Q I h
  exact wpAny_BinOp (binT ha hb I h fun v u s2 x y H2 I2 rx ry q => ho pins s2 σ H2 x y v u Q I2 rx ry q)
theorem pe_un {op : UnaryOp} {r : V → Hp → VK → Prop} (ho : UnR X (unaryOp op) r) (ha : PE X a ta) : PE X (.UnaryOp op a pos) (tUn r ta) := by
  intro pins s σ H Q I h
  exact UnaryOp_ (thn (ha pins s σ H _ I h) fun v s1 ⟨x, H1, I1, r1, q1⟩ => ho pins s1 σ H1 x v Q I1 r1 q1)
theorem opI {f : Value → Value → Sem Value} {C : Int → Int → Prop} {g : Int → Int → Int}
    (rule : ∀ (i j : Int) (t u : Tok) (s : Shared) (Q : Value → Shared → Prop) (E : Value → Shared → Prop), C i j → Q (.int (g i j) s.toks) { s with toks := s.toks + 1 } → wpAny (model X.prog X.w) X.A (f (.int i t) (.int j u)) Q E s) :
    OpR X f (rI C fun i j => .int (g i j)) := by
  intro pins s σ H x y v u Q I rx ry h
  obtain ⟨i, j, rfl, rfl, hc, q⟩ := h
  obtain ⟨t, rfl⟩ := rx
  obtain ⟨t', rfl⟩ := ry
  exact rule i j t t' s _ _ hc ⟨.int (g i j), H, I.tok _, ⟨_, rfl⟩, q⟩
theorem opI0 {f : Value → Value → Sem Value} {g : Int → Int → Int}
    (rule : ∀ (i j : Int) (t u : Tok) (s : Shared) (Q : Value → Shared → Prop) (E : Value → Shared → Prop), Q (.int (g i j) s.toks) { s with toks := s.toks + 1 } → wpAny (model X.prog X.w) X.A (f (.int i t) (.int j u)) Q E s) :
    OpR X f (rI0 fun i j => .int (g i j)) := by
  intro pins s σ H x y v u Q I rx ry h
  obtain ⟨i, j, rfl, rfl, q⟩ := h
  obtain ⟨t, rfl⟩ := rx
  obtain ⟨t', rfl⟩ := ry
  exact rule i j t t' s _ _ ⟨.int (g i j), H, I.tok _, ⟨_, rfl⟩, q⟩
theorem opB0 {f : Value → Value → Sem Value} {g : Int → Int → Bool}
    (rule : ∀ (i j : Int) (t u : Tok) (s : Shared) (Q : Value → Shared → Prop) (E : Value → Shared → Prop), Q (.bool (g i j)) s → wpAny (model X.prog X.w) X.A (f (.int i t) (.int j u)) Q E s) :
    OpR X f (rI0 fun i j => .bl (g i j)) := by
  intro pins s σ H x y v u Q I rx ry h
  obtain ⟨i, j, rfl, rfl, q⟩ := h
  obtain ⟨t, rfl⟩ := rx
  obtain ⟨t', rfl⟩ := ry
  exact rule i j t t' s _ _ ⟨.bl (g i j), H, I, rfl, q⟩
def CDiv (i j : Int) : Prop := 0 < j ∧ j < 1073741824
def CPow (i j : Int) : Prop := 0 ≤ j ∧ j ≤ 1000000 ∧ i.natAbs < 2 ^ 64
def CMul (i j : Int) : Prop := (-(2 ^ 64) < i ∧ i < 2 ^ 64) ∨ (-(2 ^ 64) < j ∧ j < 2 ^ 64)
theorem CMul.ok {i j : Int} (h : CMul i j) : IntMulOk i j := by
  rcases h with ⟨h1, h2⟩ | ⟨h1, h2⟩
  · exact .of_left (intBits_le_64 h1 h2)
  · exact .of_right (intBits_le_64 h1 h2)
theorem op_add : OpR X (binaryOp .Add) (rI0 fun i j => .int (i + j)) := opI0 fun _ _ _ _ _ _ _ q => add_int q
theorem op_sub : OpR X (binaryOp .Sub) (rI0 fun i j => .int (i - j)) := opI0 fun _ _ _ _ _ _ _ q => sub_int q
theorem op_mul : OpR X (binaryOp .Mult) (rI CMul fun i j => .int (i * j)) := opI fun _ _ _ _ _ _ _ hc q => mul_int q hc.ok
theorem op_fdiv : OpR X (binaryOp .FloorDiv) (rI CDiv fun i j => .int (i / j)) := opI fun i j _ _ _ _ _ hc q => by
  have h1 : (0 : Int) < j := hc.1
  have h2 : j < 1073741824 := hc.2
  exact floordiv_int (by omega) (by rw [Int.fdiv_eq_ediv_of_nonneg i (by omega)]; exact q) (.inl (PyProof.noPylong_small (by omega)))
theorem op_mod : OpR X (binaryOp .Mod) (rI (fun _ j => 0 < j) fun i j => .int (i % j)) := opI fun i j _ _ _ _ _ hc q => by
  have h1 : (0 : Int) < j := hc
  exact mod_int' (by omega) (by rw [Int.fmod_eq_emod_of_nonneg i (by omega)]; exact q)
theorem op_pow : OpR X (binaryOp .Pow) (rI CPow fun i j => .int (i ^ j.toNat)) := opI fun _ _ _ _ _ _ _ hc q => pow_int_small hc.1 hc.2.1 hc.2.2 q
theorem unI {f : Value → Sem Value} {g : Int → Int}
    (rule : ∀ (i : Int) (t : Tok) (s : Shared) (Q : Value → Shared → Prop) (E : Value → Shared → Prop), Q (.int (g i) s.toks) { s with toks := s.toks + 1 } → wpAny (model X.prog X.w) X.A (f (.int i t)) Q E s) :
    UnR X f (rU fun i => .int (g i)) := by
  intro pins s σ H x v Q I rx h
  obtain ⟨i, rfl, q⟩ := h
  obtain ⟨t, rfl⟩ := rx
  exact rule i t s _ _ ⟨.int (g i), H, I.tok _, ⟨_, rfl⟩, q⟩
theorem un_neg : UnR X (unaryOp .USub) (rU fun i => .int (-i)) := unI fun _ _ _ _ _ q => neg_int q
end
def scal : V → V → Bool
  | .non, .non => true | .non, .int _ => true | .int _, .non => true | .non, .bl _ => true | .bl _, .non => true | .non, .str _ => true | .str _, .non => true
  | .int _, .int _ => true | .bl _, .bl _ => true | .str _, .str _ => true | .byt _, .byt _ => true
  | .int _, .str _ => true | .str _, .int _ => true | .bl _, .str _ => true | .str _, .bl _ => true
  | _, _ => false
def rEq : R2 := fun x y H Q => scal x y = true ∧ Q (.bl (decide (x = y))) H
def rNe : R2 := fun x y H Q => scal x y = true ∧ Q (.bl (!decide (x = y))) H
theorem dec_int {i j : Int} : decide (V.int i = V.int j) = (i == j) := by
  rw [Bool.eq_iff_iff]
  simp
theorem dec_bl {i j : Bool} : decide (V.bl i = V.bl j) = (i == j) := by
  rw [Bool.eq_iff_iff]
  simp
theorem dec_str {i j : Str} : decide (V.str i = V.str j) = (i == j) := by
  rw [Bool.eq_iff_iff]
  simp
theorem dec_byt {i j : Array UInt8} : decide (V.byt i = V.byt j) = (i.toList == j.toList) := by
  rw [Bool.eq_iff_iff]
  cases i
  cases j
  simp
section
variable {X : Cx} {a b c : Expr} {ta tb tc : TE} {pos : Pos}
theorem fin_bl {pins : List (Addr × Obj)} {σ : St} {H : Hp} {s : Shared} {Q : VK} {k k' : Bool} (I : Inv X pins σ H s) (q : Q (.bl k) H) (e : k = k') : EP X pins σ Q (.bool k') s := by
  subst e
  exact ⟨.bl k, H, I, rfl, q⟩
theorem op_eq : OpR X (compareOp .Eq) rEq := by
  intro pins s σ H x y v u Q I rx ry h
  obtain ⟨hs, q⟩ := h
  cases x with
  | non =>
    cases rx
    cases y with
    | non => cases ry; exact PySem.EqNone.eq_none_none (fin_bl I q (by simp))
    | bl j => cases ry; exact PySem.EqNone.eq_none_bool (fin_bl I q (by simp))
    | int j => obtain ⟨t', rfl⟩ := ry; exact PySem.EqNone.eq_none_int (fin_bl I q (by simp))
    | str j => obtain ⟨t', rfl⟩ := ry; exact PySem.EqNone.eq_none_str (fin_bl I q (by simp))
    | _ => exact absurd (show false = true from hs) Bool.false_ne_true
  | bl i =>
    cases rx
    cases y with
    | non => cases ry; exact PySem.EqNone.eq_bool_none (fin_bl I q (by simp))
    | bl j => cases ry; exact eq_bool (fin_bl I q dec_bl)
    | str j => obtain ⟨t', rfl⟩ := ry; exact PySem.EqMixed.eq_bool_str (fin_bl I q (by simp))
    | _ => exact absurd (show false = true from hs) Bool.false_ne_true
  | int i =>
    obtain ⟨t, rfl⟩ := rx
    cases y with
    | non => cases ry; exact PySem.EqNone.eq_int_none (fin_bl I q (by simp))
    | int j => obtain ⟨t', rfl⟩ := ry; exact eq_int (fin_bl I q dec_int)
    | str j => obtain ⟨t', rfl⟩ := ry; exact PySem.EqMixed.eq_int_str (fin_bl I q (by simp))
    | _ => exact absurd (show false = true from hs) Bool.false_ne_true
  | str i =>
    obtain ⟨t, rfl⟩ := rx
    cases y with
    | non => cases ry; exact PySem.EqNone.eq_str_none (fin_bl I q (by simp))
    | bl j => cases ry; exact PySem.EqMixed.eq_str_bool (fin_bl I q (by simp))
    | int j => obtain ⟨t', rfl⟩ := ry; exact PySem.EqMixed.eq_str_int (fin_bl I q (by simp))
    | str j => obtain ⟨t', rfl⟩ := ry; exact eq_str (fin_bl I q dec_str)
    | _ => exact absurd (show false = true from hs) Bool.false_ne_true
  | byt i =>
    obtain ⟨t, rfl⟩ := rx
    cases y with
    | byt j => obtain ⟨t', rfl⟩ := ry; exact PySem.W.eq_bytes (fin_bl I q dec_byt)
    | _ => exact absurd (show false = true from hs) Bool.false_ne_true
  | _ => cases y <;> exact absurd (show false = true from hs) Bool.false_ne_true
theorem op_ne : OpR X (compareOp .NotEq) rNe := by
  intro pins s σ H x y v u Q I rx ry h
  obtain ⟨hs, q⟩ := h
  cases x with
  | non =>
    cases rx
    cases y with
    | non => cases ry; exact PySem.EqNone.ne_none_none (fin_bl I q (by simp))
    | bl j => cases ry; exact PySem.EqNone.ne_none_bool (fin_bl I q (by simp))
    | int j => obtain ⟨t', rfl⟩ := ry; exact PySem.EqNone.ne_none_int (fin_bl I q (by simp))
    | str j => obtain ⟨t', rfl⟩ := ry; exact PySem.EqNone.ne_none_str (fin_bl I q (by simp))
    | _ => exact absurd (show false = true from hs) Bool.false_ne_true
  | bl i =>
    cases rx
    cases y with
    | non => cases ry; exact PySem.EqNone.ne_bool_none (fin_bl I q (by simp))
    | bl j => cases ry; exact ne_bool (fin_bl I q (congrArg not dec_bl))
    | str j => obtain ⟨t', rfl⟩ := ry; exact PySem.EqMixed.ne_bool_str (fin_bl I q (by simp))
    | _ => exact absurd (show false = true from hs) Bool.false_ne_true
  | int i =>
    obtain ⟨t, rfl⟩ := rx
    cases y with
    | non => cases ry; exact PySem.EqNone.ne_int_none (fin_bl I q (by simp))
    | int j => obtain ⟨t', rfl⟩ := ry; exact ne_int (fin_bl I q (congrArg not dec_int))
    | str j => obtain ⟨t', rfl⟩ := ry; exact PySem.EqMixed.ne_int_str (fin_bl I q (by simp))
    | _ => exact absurd (show false = true from hs) Bool.false_ne_true
  | str i =>
    obtain ⟨t, rfl⟩ := rx
    cases y with
    | non => cases ry; exact PySem.EqNone.ne_str_none (fin_bl I q (by simp))
    | bl j => cases ry; exact PySem.EqMixed.ne_str_bool (fin_bl I q (by simp))
    | int j => obtain ⟨t', rfl⟩ := ry; exact PySem.EqMixed.ne_str_int (fin_bl I q (by simp))
    | str j => obtain ⟨t', rfl⟩ := ry; exact ne_str (fin_bl I q (congrArg not dec_str))
    | _ => exact absurd (show false = true from hs) Bool.false_ne_true
  | byt i =>
    obtain ⟨t, rfl⟩ := rx
    cases y with
    | byt j => obtain ⟨t', rfl⟩ := ry; exact PySem.W.ne_bytes (fin_bl I q (congrArg not dec_byt))
    | _ => exact absurd (show false = true from hs) Bool.false_ne_true
  | _ => cases y <;> exact absurd (show false = true from hs) Bool.false_ne_true
theorem op_lt : OpR X (compareOp .Lt) (rI0 fun i j => .bl (decide (i < j))) := opB0 fun _ _ _ _ _ _ _ q => lt_int q
theorem op_le : OpR X (compareOp .LtE) (rI0 fun i j => .bl (decide (i ≤ j))) := opB0 fun _ _ _ _ _ _ _ q => le_int q
theorem op_gt : OpR X (compareOp .Gt) (rI0 fun i j => .bl (decide (j < i))) := opB0 fun _ _ _ _ _ _ _ q => gt_int q
theorem op_ge : OpR X (compareOp .GtE) (rI0 fun i j => .bl (decide (j ≤ i))) := opB0 fun _ _ _ _ _ _ _ q => ge_int q
theorem nomark (b : Expr) {op : CmpOp} (h : op ≠ .In := by decide) (h2 : op ≠ .NotIn := by decide) : behindInMarks op b = false := by
  have e1 : (op == CmpOp.In) = false := by cases op <;> first | rfl | exact absurd rfl h
  have e2 : (op == CmpOp.NotIn) = false := by cases op <;> first | rfl | exact absurd rfl h2
  cases b <;> simp [behindInMarks, e1, e2]
theorem pe_cmpR {op : CmpOp} {r : R2} (ho : OpR X (compareOp op) r) (ha : PE X a ta) (hb : PE X b tb) (hm : behindInMarks op b = false) : PE X (.Compare a [op] [b] pos) (tOp r ta tb) := by
  intro pins s σ H Q I h
  exact wpAny_Compare1 (binT ha hb I h fun v u s2 x y H2 I2 rx ry q => ho pins s2 σ H2 x y v u Q I2 rx ry q) hm
def tTest (t : TE) : TT := fun σ H Q => t σ H fun x H' => ∃ k, x = .bl k ∧ Q k H'
theorem pt_cmpR {op : CmpOp} {r : R2} (ho : OpR X (compareOp op) r) (ha : PE X a ta) (hb : PE X b tb) (hm : behindInMarks op b = false) : PT X (.Compare a [op] [b] pos) (tTest (tOp r ta tb)) := by
  intro pins s σ H Q I h
  refine wpAny_isTrue_Compare1 (thn (ha pins s σ H _ I h) fun v s1 ⟨x, H1, I1, r1, q1⟩ => thn (hb pins s1 σ H1 _ I1 q1) fun u s2 ⟨y, H2, I2, r2, q2⟩ =>
    thn (ho pins s2 σ H2 x y v u _ I2 r1 r2 q2) fun c s3 ⟨z, H3, I3, r3, k, e, q3⟩ => ?_) hm
  subst e
  cases r3
  exact wpAny_truthy_bool ⟨H3, I3, q3⟩
theorem line63 : (sizeLine : Nat) < 2 ^ 63 := by rw [sizeLine_eq]; decide
theorem vals1 {x : V} {us : List Value} (r : Vals [x] us) : ∃ u, us = [u] ∧ RelV x u := by
  cases r with
  | cons r1 r2 => cases r2; exact ⟨_, rfl, r1⟩
theorem vals2 {x y : V} {us : List Value} (r : Vals [x, y] us) : ∃ u w', us = [u, w'] ∧ RelV x u ∧ RelV y w' := by
  cases r with
  | cons r1 r2 =>
    cases r2 with
    | cons r3 r4 => cases r4; exact ⟨_, _, rfl, r1, r3⟩
end
end L2
namespace L2
open PySem PySem.Spec PyProof.Rows
structure ObjM (h : Heap) (x dx C : Addr) (mA : Str → Option Value) : Prop where
  obj : h.get? x = some (PySem.W.instObj C dx)
  ns : h.Ns1 dx mA
  ne : dx ≠ x
theorem lookIn_ns {h : Heap} {dx : Addr} {mA : Str → Option Value} (n : h.Ns1 dx mA) : ∃ od, h.get? dx = some od ∧ ∀ name, PySem.W.lookIn name od = some (mA name) := by
  obtain ⟨o, es, ep, ho, hd, hk, _, hm⟩ := n
  refine ⟨o, ho, fun name => ?_⟩
  have e := hm name
  unfold nsFind findBy at e
  rw [← Array.find?_toList] at e
  unfold PySem.W.lookIn
  rw [hd]
  dsimp only
  split
  · rename_i y q
    rw [q] at e
    exact congrArg some e
  · rename_i q
    rw [q] at e
    have a : es.toList.any (·.refKey) = false := by
      rw [List.any_eq_false]
      intro y hy
      obtain ⟨z, t, hkey⟩ := hk y (Array.mem_toList_iff.mp hy)
      simp [DictEntry.refKey, hkey]
    have a' : ¬ es.toList.any (·.refKey) = true := by rw [a]; exact Bool.false_ne_true
    rw [if_neg a']
    exact congrArg some e
theorem ObjM.look {h : Heap} {x dx C : Addr} {mA : Str → Option Value} (I : ObjM h x dx C mA) : ∃ od, PySem.W.InstAt h x (PySem.W.instObj C dx) C (some od) ∧ ∀ name, PySem.W.lookIn name od = some (mA name) :=
  let ⟨od, ho, hl⟩ := lookIn_ns I.ns
  ⟨od, ⟨I.obj, rfl, rfl, ho⟩, hl⟩
section
variable {prog : Program} {w : World} {A : Around} {E : Value → Shared → Prop} {s : Shared} {K : PySem.W.Frag} {x dx C f : Addr} {mA : Str → Option Value} {name : Str} {v : Value}
theorem get_map {expr : Bool} {Q : Value → Shared → Prop} (X : K.In s.heap) (I : ObjM s.heap x dx C mA) (hg : PySem.W.plainGet K C name = true) (hh : PySem.W.hasDictIn K C = true)
    (ha : PySem.W.findIn K (.ref C) name = some none) (hv : mA name = some v) (hv' : PySem.W.handedIn v = true) (h : Q v { s with toks := s.toks + 1 }) :
    wpAny (model prog w) A (getAttr (.ref x) name expr) Q E s := by
  obtain ⟨od, J, hl⟩ := I.look
  exact PySem.W.get_value X J (PySem.W.plainGet_of hg).1 (PySem.W.findObj_own hh ha rfl (by rw [hl, hv])) hv' h
theorem get_meth {pl : Sem Bool} {Q : Value × List Value → Shared → Prop} (X : K.In s.heap) (I : ObjM s.heap x dx C mA) (hg : PySem.W.plainGet K C name = true)
    (hf : PySem.W.findIn K (.ref C) name = some (some (.ref f))) (ht : PySem.W.isFn K (.ref f) = true) (hv : mA name = none) (h : Q (.ref f, [.ref x]) s) :
    wpAny (model prog w) A (getMethod (.ref x) name pl) Q E s := by
  obtain ⟨od, J, hl⟩ := I.look
  exact PySem.W.method_fn X J (PySem.W.plainGet_of hg).1 (PySem.W.plainGet_of hg).2 hf (beq_iff_eq.mp ht) (by show (PySem.W.lookIn name od).map (·.isSome) = some false; rw [hl, hv]; rfl) h
theorem set_map {ns : List Str} {Q : Unit → Shared → Prop} (X : K.In s.heap) (I : ObjM s.heap x dx C mA)
    (hs : PySem.W.findIn K (.ref C) "__setattr__" = some (some (.builtin "object.__setattr__"))) (hp : PySem.W.plainOver K C = true) (ht : PySem.W.takerIn K C name = some none) (hh : PySem.W.hasDictIn K C = true)
    (hw : PySem.Within mA ns) (hsz : ns.length ≤ sizeLine)
    (h : ∀ h', ObjM h' x dx C (fun y => if y = name then some v else mA y) → Heap.SameBut dx s.heap h' → Q () { s with heap := h', toks := s.toks + 2 }) :
    wpAny (model prog w) A (setAttr (.ref x) name v) Q E s := by
  obtain ⟨od, J, hl⟩ := I.look
  refine PySem.W.set_plain X J hs (PySem.W.osa_open (s := { s with toks := s.toks + 1 }) (r := none) X J hp ht fun b => ?_)
  obtain ⟨cd, hc, hd'⟩ := PySem.W.any_some hh
  have hx : s.heap.get? x = some ⟨.ref C, some dx, .plain, #[]⟩ := I.obj
  refine wpAny_bind (wpAny_pure (wpAny_bind (wpAny_bind (wpAny_loadPart hx (wpAny_bind (PySem.W.Looks.here (s := { s with toks := s.toks + 1 }) (PySem.W.looks_clsIn X hc) ?_))))))
  rw [hd']
  refine wpAny_pure (a := some dx) (wpAny_bind (wpAny_pure (wpAny_bind ?_)))
  refine wpAny_nsSet1 (s := { s with toks := s.toks + 1 }) I.ns fun h' hn2 hs2 => ?_
  obtain ⟨oD, esD, epD, hoD, hdD, hcD⟩ := hn2.count (PySem.Within.cons name v hw)
  refine wpAny_bind (wpAny_lookBehind hoD (by rw [hdD]; exact pastItsLine_dict (Nat.le_trans hcD (by rw [List.length_cons]; omega))) ?_)
  exact wpAny_pure (h _ ⟨(hs2.2 _ (Ne.symm I.ne)).trans I.obj, hn2, I.ne⟩ hs2)
theorem make_map {R : Result → Shared → Prop} {vs : List Value} {kw : List (Str × Value)} (X : K.In s.heap) (hm : PySem.W.makesIn K C = true)
    (hi : PySem.W.findIn K (.ref C) "__init__" = some (some (.ref f))) (hf : PySem.W.typeIn K (.ref f) = some (.type "function"))
    (h : codeAny (model prog w) (A.under (.builtin "type.__call__" ⟨.ref C :: vs, kw⟩)) (.call (.ref f) ⟨.ref (s.heap.objs.size + 1) :: vs, kw⟩) (PySem.W.InitBack (s.heap.objs.size + 1) R)
      { s with heap := (s.heap.push PySem.W.emptyDict).push (PySem.W.instObj C s.heap.objs.size) }) :
    codeAny (model prog w) A (.call (.ref C) ⟨vs, kw⟩) R s := by
  obtain ⟨hh, g, d, t, os⟩ := s
  exact PySem.W.make_core (PySem.W.makes_of X hm) (PySem.W.looks_findIn X hi) (fun self => PySem.W.bind_fn X self hf) (.inl rfl) h
end
def putF (f : Str) (v : V) : List (Str × V) → List (Str × V)
  | [] => [(f, v)]
  | (g, x) :: r => if g = f then (g, v) :: r else (g, x) :: putF f v r
theorem lookup_putF (f g : Str) (v : V) : ∀ fs : List (Str × V), (putF f v fs).lookup g = if g = f then some v else fs.lookup g
  | [] => by
    show List.lookup g [(f, v)] = _
    by_cases h : g = f
    · have hb : (g == f) = true := beq_iff_eq.mpr h
      simp only [List.lookup, hb, if_pos h]
    · have hb : (g == f) = false := beq_eq_false_iff_ne.mpr h
      simp only [List.lookup, hb, if_neg h]
  | (k, x) :: r => by
    have ih := lookup_putF f g v r
    rw [show putF f v ((k, x) :: r) = (if k = f then (k, v) :: r else (k, x) :: putF f v r) from rfl]
    by_cases hk : k = f
    · rw [if_pos hk]
      by_cases h : g = k
      · have hb : (g == k) = true := beq_iff_eq.mpr h
        simp only [List.lookup, hb, if_pos (h.trans hk)]
      · have hb : (g == k) = false := beq_eq_false_iff_ne.mpr h
        simp only [List.lookup, hb, if_neg (fun e : g = f => h (e.trans hk.symm))]
    · rw [if_neg hk]
      by_cases h : g = k
      · have hb : (g == k) = true := beq_iff_eq.mpr h
        simp only [List.lookup, hb, if_neg (fun e : g = f => hk (h.symm.trans e))]
      · have hb : (g == k) = false := beq_eq_false_iff_ne.mpr h
        simp only [List.lookup, hb]
        exact ih
theorem keys_putF (f : Str) (v : V) : ∀ fs : List (Str × V), f ∈ (putF f v fs).map (·.1) ∧ ∀ g, g ∈ fs.map (·.1) → g ∈ (putF f v fs).map (·.1)
  | [] => ⟨by simp [putF], fun g h => by simp at h⟩
  | (k, x) :: r => by
    obtain ⟨i1, i2⟩ := keys_putF f v r
    rw [show putF f v ((k, x) :: r) = (if k = f then (k, v) :: r else (k, x) :: putF f v r) from rfl]
    by_cases hk : k = f
    · rw [if_pos hk]
      subst hk
      exact ⟨by simp, fun g h => by simpa using h⟩
    · rw [if_neg hk]
      refine ⟨?_, fun g h => ?_⟩
      · rw [List.map_cons]
        exact List.mem_cons_of_mem _ i1
      · rw [List.map_cons] at h ⊢
        rcases List.mem_cons.mp h with e | e
        · exact List.mem_cons.mpr (.inl e)
        · exact List.mem_cons_of_mem _ (i2 g e)
theorem length_putF (f : Str) (v : V) : ∀ fs : List (Str × V), (putF f v fs).length ≤ fs.length + 1
  | [] => by simp [putF]
  | (k, x) :: r => by
    have ih := length_putF f v r
    rw [show putF f v ((k, x) :: r) = (if k = f then (k, v) :: r else (k, x) :: putF f v r) from rfl]
    by_cases hk : k = f
    · rw [if_pos hk, List.length_cons, List.length_cons]; omega
    · rw [if_neg hk, List.length_cons, List.length_cons]; omega
theorem RelO.some_of {v : V} {o : Option Value} (r : RelO (some v) o) : ∃ u, o = some u ∧ RelV v u := by
  cases o with
  | none => exact (show False from r).elim
  | some u => exact ⟨u, rfl, r⟩
theorem RelO.none_of {o : Option Value} (r : RelO none o) : o = none := by
  cases o with
  | none => rfl
  | some u => exact (show False from r).elim
theorem handed_of {v : V} {u : Value} (r : RelV v u) : PySem.W.handedIn u = true := by
  cases v with
  | non => cases (show u = Value.none from r); rfl
  | bl b => cases (show u = Value.bool b from r); rfl
  | int i => obtain ⟨t, e⟩ := (show ∃ t, u = Value.int i t from r); cases e; rfl
  | str x => obtain ⟨t, e⟩ := (show ∃ t, u = Value.str x t from r); cases e; rfl
  | byt b => obtain ⟨t, e⟩ := (show ∃ t, u = Value.bytes b t from r); cases e; rfl
  | flt b => obtain ⟨t, e⟩ := (show ∃ t, u = Value.float b t from r); cases e; rfl
  | ref a => cases (show u = Value.ref a from r); rfl
  | ty n => cases (show u = Value.type n from r); rfl
section
variable {P : Program} {w : World} {H H' : Hp} {h h' : Heap} {a C dx : Addr} {fs fs' : List (Str × V)}
theorem ins_get (hok : HOk P w H h) (e : H a = some (.ins C dx fs)) : ∃ mA, ObjM h a dx C mA ∧ (∀ f, RelO (fs.lookup f) (mA f)) ∧ PySem.Within mA (fs.map (·.1)) ∧ fs.length ≤ 1000 ∧ H dx = some (.own a) := by
  obtain ⟨d, z, ne, ob, mA, n, r, q⟩ := (show ObjOk P w H h a (.ins C dx fs) from hok a _ e)
  exact ⟨mA, ⟨ob, n, ne⟩, r, q, z, d⟩
end
structure Cls (K : PySem.W.Frag) (C : Addr) : Prop where
  pg : PySem.W.plainGet K C Str.empty = true
  hd : PySem.W.hasDictIn K C = true
  po : PySem.W.plainOver K C = true
  sa : PySem.W.findIn K (.ref C) "__setattr__" = some (some (.builtin "object.__setattr__"))
theorem Cls.get {K : PySem.W.Frag} {C : Addr} (c : Cls K C) (f : Str) : PySem.W.plainGet K C f = true := c.pg
def NoAttr (K : PySem.W.Frag) (C : Addr) (f : Str) : Prop := PySem.W.findIn K (.ref C) f = some none
theorem NoAttr.taker {K : PySem.W.Frag} {C : Addr} {f : Str} (n : NoAttr K C f) : PySem.W.takerIn K C f = some none := by
  unfold PySem.W.takerIn
  rw [show PySem.W.findIn K (.ref C) f = some none from n]
  rfl
structure Con (K : PySem.W.Frag) (C : Addr) (f : Str) (v : V) (u : Value) : Prop where
  at_ : PySem.W.findIn K (.ref C) f = some (some u)
  rel : RelV v u
  get : PySem.W.specialIn K u "__get__" = some none
  cp : PySem.W.copiedNames.contains f = false
structure Meth (K : PySem.W.Frag) (C : Addr) (m : Str) (f : Addr) : Prop where
  at_ : PySem.W.findIn K (.ref C) m = some (some (.ref f))
  fn : PySem.W.isFn K (.ref f) = true
  kp : PySem.W.keepIn K (.ref f) = true
section
variable {X : Cx} {pins : List (Addr × Obj)} {σ : St} {H : Hp} {s : Shared} {a C dx : Addr} {fs : List (Str × V)} {f : Str} {v : V} {A : Around} {E : Value → Shared → Prop}
theorem getattr_ok {b : Bool} {Q : Value → Shared → Prop} (I : Inv X pins σ H s) (e : H a = some (.ins C dx fs)) (c : Cls X.K C) (n : NoAttr X.K C f) (l : fs.lookup f = some v)
    (h : ∀ u s', Inv X pins σ H s' → RelV v u → Q u s') : wpAny (model X.prog X.w) A (getAttr (.ref a) f b) Q E s := by
  obtain ⟨mA, O, r, _, _, _⟩ := ins_get I.hok e
  obtain ⟨u, hu, ru⟩ := RelO.some_of (v := v) (o := mA f) (by rw [← l]; exact r f)
  exact get_map I.kIn O (c.get f) c.hd n hu (handed_of ru) (h u _ (I.tok _) ru)
theorem getmeth_ok {m : Str} {g : Addr} {pl : Sem Bool} {Q : Value × List Value → Shared → Prop} (I : Inv X pins σ H s) (e : H a = some (.ins C dx fs)) (c : Cls X.K C) (k : Meth X.K C m g) (l : fs.lookup m = none)
    (h : Q (.ref g, [.ref a]) s) : wpAny (model X.prog X.w) A (getMethod (.ref a) m pl) Q E s := by
  obtain ⟨mA, O, r, _, _, _⟩ := ins_get I.hok e
  have hn : mA m = none := RelO.none_of (by rw [← l]; exact r m)
  exact get_meth I.kIn O (c.get m) k.at_ k.fn hn h
theorem setattr_ok {y : V} {u : Value} {Q : Unit → Shared → Prop} (I : Inv X pins σ H s) (e : H a = some (.ins C dx fs)) (c : Cls X.K C) (n : NoAttr X.K C f) (hl : fs.length < 1000) (ry : RelV y u)
    (h : ∀ s', Inv X pins σ (upd H a (.ins C dx (putF f y fs))) s' → Q () s') : wpAny (model X.prog X.w) A (setAttr (.ref a) f u) Q E s := by
  obtain ⟨mA, O, r, wi, _, ho⟩ := ins_get I.hok e
  have hz : (fs.map (·.1)).length ≤ sizeLine := by rw [List.length_map, sizeLine_eq]; omega
  refine set_map I.kIn O c.sa c.po n.taker c.hd wi hz fun h' O' sb => h _ ?_
  have hd : ∃ o, h'.get? dx = some o := let ⟨o, _, _, e', _⟩ := O'.ns; ⟨o, e'⟩
  refine I.write (x := a) (e := dx) (by rw [e]; exact True.intro) (.inr ho) (fun b q hb z => (sb.2 b hb).trans z) hd ?_
  refine ⟨by rw [upd_ne O.ne]; exact ho, ?_, O.ne, O'.obj, _, O'.ns, fun g => ?_, fun g hg => ?_⟩
  · have := length_putF f y fs; omega
  · show RelO ((putF f y fs).lookup g) (if g = f then some u else mA g)
    rw [lookup_putF]
    by_cases q : g = f
    · rw [if_pos q, if_pos q]; exact ry
    · rw [if_neg q, if_neg q]; exact r g
  · by_cases q : g = f
    · rw [q]; exact (keys_putF f y fs).1
    · refine (keys_putF f y fs).2 g (wi g fun z => hg ?_)
      show (if g = f then some u else mA g) = none
      rw [if_neg q]; exact z
theorem Inv.made (I : Inv X pins σ H s) : Inv X pins σ (upd (upd H s.heap.objs.size (.own (s.heap.objs.size + 1))) (s.heap.objs.size + 1) (.ins C s.heap.objs.size []))
    { s with heap := (s.heap.push PySem.W.emptyDict).push (PySem.W.instObj C s.heap.objs.size) } := by
  have e1 : (s.heap.push PySem.W.emptyDict).get? s.heap.objs.size = some PySem.W.emptyDict := Heap.get?_push_size s.heap rfl
  have e2 : ((s.heap.push PySem.W.emptyDict).push (PySem.W.instObj C s.heap.objs.size)).get? (s.heap.objs.size + 1) = some (PySem.W.instObj C s.heap.objs.size) := by
    have := Heap.get?_push_size (s.heap.push PySem.W.emptyDict) (o := PySem.W.instObj C s.heap.objs.size) rfl
    rwa [Heap.size_push] at this
  have e3 : (s.heap.push PySem.W.emptyDict).Ns s.heap.objs.size (fun _ => none) := ⟨PySem.W.emptyDict, #[], _, e1, rfl, (fun e he => absurd he (by simp)), fun _ => rfl⟩
  have I1 := I.laid (a := s.heap.objs.size) (o := .own (s.heap.objs.size + 1)) (h' := s.heap.push PySem.W.emptyDict) (t' := s.toks) (fun b u q => Heap.get?_push_of_some _ q) (Nat.le_refl _) ⟨_, e1⟩
  refine I1.laid (a := s.heap.objs.size + 1) (o := .ins C s.heap.objs.size []) (t' := s.toks) (fun b u q => Heap.get?_push_of_some _ q) (Nat.le_of_eq (Heap.size_push _ _)) ?_
  have ne : s.heap.objs.size ≠ s.heap.objs.size + 1 := Nat.ne_of_lt (Nat.lt_succ_self _)
  refine ⟨by rw [upd_ne ne, upd_same], Nat.zero_le _, ne, e2, fun _ => none, (Heap.Ns1.of_empty e3).at fun o q => Heap.get?_push_of_some _ q, fun _ => True.intro, fun y hy => absurd rfl hy⟩
theorem attr_of {prog : Program} {w : World} {env : Env} {e : Expr} {f : Str} {pos : Pos} {s : Shared} {Q : Value → Shared → Prop} (hb : attributeBase e f env (eval e env) = eval e env)
    (h : wpAny (model prog w) A (eval e env) (fun o s₁ => wpAny (model prog w) A (getAttr o f true) Q E s₁) E s) : wpAny (model prog w) A (eval (.Attribute e f pos) env) Q E s :=
  Attribute_any_ h (by rw [arm_eval_Attribute, hb])
end
def tFld (K : PySem.W.Frag) (ta : TE) (f : Str) : TE := fun σ H Q => ta σ H fun x H1 => ∃ a C dx fs v, x = .ref a ∧ H1 a = some (.ins C dx fs) ∧ Cls K C ∧ NoAttr K C f ∧ fs.lookup f = some v ∧ Q v H1
def sFld (K : PySem.W.Frag) (ta tv : TE) (f : Str) : TS := fun D σ H => tv σ H fun y H1 => ta σ H1 fun x H2 => ∃ a C dx fs, x = .ref a ∧ H2 a = some (.ins C dx fs) ∧ Cls K C ∧ NoAttr K C f ∧ fs.length < 1000 ∧
  D.nx σ (upd H2 a (.ins C dx (putF f y fs)))
section
variable {X : Cx} {o e value : Expr} {f : Str} {pos pos' tpos : Pos} {ta tv : TE}
theorem pe_fld (he : PE X e ta) (hb : attributeBase e f X.env (eval e X.env) = eval e X.env) : PE X (.Attribute e f pos) (tFld X.K ta f) := by
  intro pins s σ H Q I h
  refine attr_of hb (thn (he pins s σ H _ I h) fun u s1 ⟨x, H1, I1, rx, a, C, dx, fs, v, ex, ea, c, n, l, q⟩ => ?_)
  subst ex
  obtain rfl : u = Value.ref a := rx
  exact getattr_ok I1 ea c n l fun u' s2 I2 ru => ⟨v, H1, I2, ru, q⟩
theorem ps_fld (ha : PE X o ta) (hv : PE X value tv) (hs : swapsWith value (some (.Attribute o f pos')) pos.line X.env = pure false) : PS X (.Assign [.Attribute o f pos'] value pos) (sFld X.K ta tv f) := by
  intro pins s σ H D I h
  refine plainObj_wpAny_Assign_Attribute (thn (hv pins s σ H _ I h) fun u s1 ⟨y, H1, I1, ry, q⟩ => thn (ha pins s1 σ H1 _ I1 q) fun ov s2 ⟨x, H2, I2, rx, a, C, dx, fs, ex, ea, c, n, l, q2⟩ => ?_) hs
  subst ex
  obtain rfl : ov = Value.ref a := rx
  exact setattr_ok I2 ea c n l ry fun s3 I3 => ⟨σ, _, I3, q2⟩
end
section
variable {X : Cx} {pins : List (Addr × Obj)} {σ : St} {H : Hp} {s : Shared} {A : Around} {E : Value → Shared → Prop} {Q : Value → Shared → Prop} {c : Value} {b : Bool}
inductive TyOf (K : PySem.W.Frag) (H : Hp) : V → Value → Prop where
  | non : TyOf K H .non (.type "NoneType")
  | bl (x : Bool) : TyOf K H (.bl x) (.type "bool")
  | int (i : Int) : TyOf K H (.int i) (.type "int")
  | str (x : Str) : TyOf K H (.str x) (.type "str")
  | flt (x : UInt64) : TyOf K H (.flt x) (.type "float")
  | lst {a : Addr} {xs : List V} (e : H a = some (.lst xs)) : TyOf K H (.ref a) (.type "list")
  | frz {a : Addr} {o : Obj} {xs : List V} (e : H a = some (.frz o (.lst xs))) : TyOf K H (.ref a) (.type "list")
  | tup {a : Addr} {xs : List V} (e : H a = some (.tup xs)) : TyOf K H (.ref a) (.type "tuple")
  | dK {a : Addr} {kvs : List (Key × V)} (e : H a = some (.dK kvs)) : TyOf K H (.ref a) (.type "dict")
  | ins {a C dx : Addr} {fs : List (Str × V)} (e : H a = some (.ins C dx fs)) (cl : Cls K C) (ha : PySem.W.findIn K (.ref C) "__class__" = some (some (.builtin "object.__class__")))
      (hn : PySem.W.specialIn K (.builtin "object.__class__") "__get__" = some (some (.builtin "getset_descriptor.__get__"))) (htk : PySem.W.takesIn K (.builtin "object.__class__") = some true)
      (hm : PySem.W.mroIn K C (.type "object") = some true) : TyOf K H (.ref a) (.ref C)
theorem isinst_ok {x : V} {u t : Value} (I : Inv X pins σ H s) (rx : RelV x u) (ty : TyOf X.K H x t) (e : PySem.W.kitOne X.K t c = some b) (h : ∀ tk, Q (.bool b) { s with toks := tk }) :
    wpAny (model X.prog X.w) A (call (.builtin "isinstance") [u, c]) Q E s := by
  cases ty with
  | non => cases (show u = Value.none from rx); exact PySem.W.kia_one PySem.W.kitx_none I.kIn True.intro e (fun z => nomatch z) h
  | bl y => cases (show u = Value.bool y from rx); exact PySem.W.kia_one PySem.W.kitx_bool I.kIn True.intro e (fun z => nomatch z) h
  | int i => obtain ⟨t, q⟩ := (show ∃ t, u = Value.int i t from rx); cases q; exact PySem.W.kia_one PySem.W.kitx_int I.kIn True.intro e (fun z => nomatch z) h
  | str y => obtain ⟨t, q⟩ := (show ∃ t, u = Value.str y t from rx); cases q; exact PySem.W.kia_one PySem.W.kitx_str I.kIn True.intro e (fun z => nomatch z) h
  | flt y => obtain ⟨t, q⟩ := (show ∃ t, u = Value.float y t from rx); cases q; exact PySem.W.kia_one PySem.W.kitx_float I.kIn True.intro e (fun z => nomatch z) h
  | @lst a xs ea =>
    cases (show u = Value.ref a from rx)
    obtain ⟨_, _, n, _, h1⟩ := (show ObjOk X.prog X.w H s.heap a (.lst xs) from I.hok a _ ea)
    exact PySem.W.kia_one PySem.W.kitx_list I.kIn ⟨_, h1, rfl⟩ e (fun z => nomatch z) h
  | @frz a ob xs ea =>
    cases (show u = Value.ref a from rx)
    obtain ⟨_, _, _, n, _, h1⟩ := (show ObjOk X.prog X.w H s.heap a (.frz ob (.lst xs)) from I.hok a _ ea)
    exact PySem.W.kia_one PySem.W.kitx_list I.kIn ⟨_, h1, rfl⟩ e (fun z => nomatch z) h
  | @tup a xs ea =>
    cases (show u = Value.ref a from rx)
    obtain ⟨_, _, _, p⟩ := (show ObjOk X.prog X.w H s.heap a (.tup xs) from I.hok a _ ea)
    obtain ⟨o, h1, h2, _⟩ := p
    exact PySem.W.kia_one PySem.W.kitx_tuple I.kIn ⟨o, h1, h2⟩ e (fun z => nomatch z) h
  | @dK a kvs ea =>
    cases (show u = Value.ref a from rx)
    obtain ⟨_, _, vs, _, p⟩ := (show ObjOk X.prog X.w H s.heap a (.dK kvs) from I.hok a _ ea)
    obtain ⟨o, es, ep, h1, h2, _⟩ := p
    exact PySem.W.kia_one PySem.W.kitx_dict I.kIn ⟨o, h1, h2.1⟩ e (fun z => nomatch z) h
  | @ins a C dx fs ea cl ha hn htk hm =>
    cases (show u = Value.ref a from rx)
    obtain ⟨mA, O, _⟩ := ins_get I.hok ea
    obtain ⟨od, J, _⟩ := O.look
    exact PySem.W.kia_one (PySem.W.kitx_own (cl.get _) cl.hd ha hn htk hm) I.kIn J e (fun z => nomatch z) h
end
end L2
namespace L2
open PySem PySem.Spec PyProof.Rows
structure Room (k : Nat) (A : Around) : Prop where
  hd : A.handled = none
  dp : A.depth + 3 * k + 5 < recursionLimit
  un : A.units + 16 * k + 200 < cLine
theorem Room.mono {j k : Nat} {A : Around} (r : Room k A) (h : j ≤ k) : Room j A := ⟨r.hd, by have := r.dp; omega, by have := r.un; omega⟩
theorem Room.deeper {k : Nat} {A : Around} (r : Room (k + 1) A) (env : Env) : Room k (A.deeper env) :=
  ⟨r.hd, by have := r.dp; show A.depth + 1 + 3 * k + 5 < _; omega, by have := r.un; show A.units + 3 + 16 * k + 200 < _; omega⟩
theorem make_depth {A : Around} {C : Addr} {us : List Value} {kw : List (Str × Value)} : (A.under (.builtin "type.__call__" ⟨.ref C :: us, kw⟩)).depth = A.depth + 1 := by
  first | rfl | simp [Around.under, Code.weight, Code.isCreation, Code.isGuard, Code.isCaller, Code.frames, Code.isFrame, guardIds]
theorem make_units {A : Around} {C : Addr} {us : List Value} {kw : List (Str × Value)} : (A.under (.builtin "type.__call__" ⟨.ref C :: us, kw⟩)).units = A.units + 1 := by
  first | rfl | simp [Around.under, Code.cUnits, Code.frames, Code.isFrame]
theorem Room.make {k : Nat} {A : Around} (r : Room (k + 1) A) (C : Addr) (us : List Value) (kw : List (Str × Value)) : Room k (A.under (.builtin "type.__call__" ⟨.ref C :: us, kw⟩)) :=
  ⟨r.hd, by have := r.dp; rw [make_depth]; omega, by have := r.un; rw [make_units]; omega⟩
theorem Room.depth {k : Nat} {A : Around} (r : Room k A) : A.depth < recursionLimit := by have := r.dp; omega
theorem Room.units {k : Nat} {A : Around} (r : Room k A) : A.units + 64 < cLine := by have := r.un; omega
theorem Room.units0 {k : Nat} {A : Around} (r : Room k A) : A.units < cLine := by have := r.un; omega
def tNil : TA := fun _ H Q => Q [] H
def tCons (ta : TE) (tr : TA) : TA := fun σ H Q => ta σ H fun x H1 => tr σ H1 fun xs H2 => Q (x :: xs) H2
section
variable {X : Cx} {e : Expr} {es : List Expr} {te : TE} {t : TA} {pos : Pos}
theorem pa_nil : PA X [] tNil := fun _ _ _ _ H Q I h => Calls.spliced_nil ⟨[], H, I, .nil, h⟩
theorem pa_cons (ha : PE X e te) (hr : PA X es t) (hs : starEach (e :: es) X.env = (false, eval e X.env) :: starEach es X.env := by rfl) : PA X (e :: es) (tCons te t) := by
  intro pos pins s σ H Q I h
  rw [hs]
  show wpAny _ _ (spliced ((false, eval e X.env) :: backTo pos (starEach es X.env))) _ _ s
  refine Calls.spliced_cons (thn (ha pins s σ H _ I h) fun u s1 ⟨x, H1, I1, r1, q1⟩ => ?_)
  exact thn (hr pos pins s1 σ H1 _ I1 q1) fun us s2 ⟨xs, H2, I2, r2, q2⟩ => ⟨x :: xs, H2, I2, .cons r1 r2, q2⟩
def tTup (t : TA) : TE := fun σ H Q => t σ H fun xs H1 => xs.length ≤ sizeLine ∧ ∀ p, H1 p = none → Q (.ref p) (upd H1 p (.tup xs))
def tLst (t : TA) : TE := fun σ H Q => t σ H fun xs H1 => xs.length ≤ sizeLine ∧ ∀ p, H1 p = none → Q (.ref p) (upd H1 p (.lst xs))
theorem pe_tup {x1} (h : PA X es t) : PE X (.Tuple es x1 pos) (tTup t) := by
  intro pins s σ H Q I hq
  refine wpAny_Tuple_spliced (thn (h pos pins s σ H _ I hq) fun us s1 ⟨xs, H1, I1, r, z, q⟩ => ⟨by rw [← r.length]; exact z, ?_⟩)
  have hf : H1 s1.heap.objs.size = none := I1.hok.fresh (Nat.le_refl _)
  refine ⟨.ref s1.heap.objs.size, upd H1 s1.heap.objs.size (.tup xs), I1.laid (t' := s1.toks) (fun b u e => Heap.get?_push_of_some _ e) (Nat.le_refl _) ?_, rfl, q _ hf⟩
  exact ⟨z, us, r, ⟨_, Heap.get?_push_size _ rfl, rfl, _, rfl⟩⟩
theorem pe_lst (h : PA X es t) : PE X (.List es pos) (tLst t) := by
  intro pins s σ H Q I hq
  refine wpAny_List_spliced (thn (h pos pins s σ H _ I hq) fun us s1 ⟨xs, H1, I1, r, z, q⟩ => ⟨by rw [← r.length]; exact z, ?_⟩)
  have hf : H1 s1.heap.objs.size = none := I1.hok.fresh (Nat.le_refl _)
  refine ⟨.ref s1.heap.objs.size, upd H1 s1.heap.objs.size (.lst xs), I1.laid (t' := s1.toks) (fun b u e => Heap.get?_push_of_some _ e) (Nat.le_refl _) ?_, rfl, q _ hf⟩
  exact ⟨z, us, 0, r, Heap.get?_push_size _ rfl⟩
end
abbrev Sp := List V → Hp → VK → XK → Prop
abbrev CXT := List Env → Hp → Shared → XK → Value → Shared → Prop
structure Env0 (P : Program) (w : World) (K : PySem.W.Frag) (mg : Str → Option Value) (base : Heap) (A : Around) (outer : List Env) (s : Shared) (H : Hp) : Prop where
  frames : A.frames = some outer
  mod : Mod K mg base
  bs : ∀ b o, base.get? b = some o → s.heap.get? b = some o ∧ H b = none
  bsz : base.objs.size ≤ s.heap.objs.size
  funs : s.heap.FunFrames base outer
  frf : ∀ b ∈ frs outer, H b = none
  hok : HOk P w H s.heap
  bare : AllBare s.gens
def CE (outer : List Env) (P : Program) (w : World) (H : Hp) (s : Shared) (Q : VK) (u : Value) (s' : Shared) : Prop :=
  ∃ v H', s'.os = s.os ∧ AllBare s'.gens ∧ Un (frs outer) [] H H' s.heap s'.heap ∧ HOk P w H' s'.heap ∧ RelV v u ∧ Q v H'
def CR (CX : CXT) (outer : List Env) (P : Program) (w : World) (H : Hp) (s : Shared) (Q : VK) (E : XK) (r : Result) (s' : Shared) : Prop :=
  match r with
  | .ok (.ret u) => CE outer P w H s Q u s'
  | .ok _ => False
  | .error e => CX outer H s E e s'
structure FnOk (P : Program) (w : World) (K : PySem.W.Frag) (mg : Str → Option Value) (base : Heap) (CX : CXT) (k : Nat) (f : Addr) (fd : FuncData) (ps : List Str) (sp : Sp) : Prop where
  len : ∀ vs H Q E, sp vs H Q E → vs.length = ps.length
  run : ∀ (A : Around) (outer : List Env) (s : Shared) (H : Hp) (args : Args) (us : List Value) (vs : List V) (Q : VK) (E : XK), Room k A → Env0 P w K mg base A outer s H → BindsTo s fd args (ps.zip us) → Vals vs us → sp vs H Q E →
    codeAny (model P w) A (.call (.ref f) args) (CR CX outer P w H s Q E) s
theorem FnOk.mono {P : Program} {w : World} {K : PySem.W.Frag} {mg : Str → Option Value} {base : Heap} {CX : CXT} {j k : Nat} {f : Addr} {fd : FuncData} {ps : List Str} {sp : Sp} (F : FnOk P w K mg base CX j f fd ps sp) (h : j ≤ k) :
    FnOk P w K mg base CX k f fd ps sp := ⟨F.len, fun A outer s H args us vs Q E hr => F.run A outer s H args us vs Q E (hr.mono h)⟩
theorem Env0.make {P : Program} {w : World} {K : PySem.W.Frag} {mg : Str → Option Value} {base : Heap} {A : Around} {outer : List Env} {s : Shared} {H : Hp} (e : Env0 P w K mg base A outer s H) (C : Addr) (us : List Value) (kw : List (Str × Value)) :
    Env0 P w K mg base (A.under (.builtin "type.__call__" ⟨.ref C :: us, kw⟩)) outer s H := ⟨by first | exact e.frames | (simpa [Around.under, Code.envs, Code.isFrame, pushEnvs] using e.frames), e.mod, e.bs, e.bsz, e.funs, e.frf, e.hok, e.bare⟩
section
variable {X : Cx} {pins : List (Addr × Obj)} {σ : St} {H : Hp} {s s' : Shared}
theorem Inv.env0 (I : Inv X pins σ H s) : Env0 X.prog X.w X.K X.mg X.base X.A X.stack s H :=
  ⟨I.ok.frames, I.ok.mod, I.bs, Nat.le_trans I.ok.bsz I.sz, I.stack, I.stkFree, I.hok, I.bare⟩
theorem Inv.after {Q : VK} {u : Value} (I : Inv X pins σ H s) (h : CE X.stack X.prog X.w H s Q u s') : EP X pins σ Q u s' := by
  obtain ⟨v, H', os, bare, un, hok, r, q⟩ := h
  obtain ⟨hh, g, d, t, os'⟩ := s'
  obtain rfl : os' = s.os := os
  exact ⟨v, H', I.call (h' := hh) (g' := g) (d' := d) (t' := t) (ch := []) un hok bare (fun b z => absurd z (by simp)), r, q⟩
end
def tCall (sp : Sp) (dvs : List V) (E : XK) (t : TA) : TE := fun σ H Q => t σ H fun vs H1 => sp (vs ++ dvs) H1 Q E
def tMake (C : Addr) (sp : Sp) (dvs : List V) (E : XK) (t : TA) : TE := fun σ H Q => t σ H fun vs H1 => ∀ x dx, H1 x = none → H1 dx = none → dx ≠ x →
  sp (.ref x :: (vs ++ dvs)) (upd (upd H1 dx (.own x)) x (.ins C dx [])) (fun v H2 => v = .non ∧ Q (.ref x) H2) E
def Binds (K : PySem.W.Frag) (fd : FuncData) (ps : List Str) (ds : List Value) : Prop :=
  ∀ (s : Shared) (us : List Value), K.In s.heap → (us ++ ds).length = ps.length → BindsTo s fd ⟨us, []⟩ (ps.zip (us ++ ds))
theorem Binds.all {K : PySem.W.Frag} {fd : FuncData} {ps : List Str} (h : ∀ us : List Value, us.length = ps.length → bindArgs fd ⟨us, []⟩ = pure (ps.zip us)) : Binds K fd ps [] := fun s us _ hl => by
  rw [List.append_nil] at hl ⊢
  exact .of_eq (h us hl)
def Passes (CX : CXT) (X : Cx) (E : XK) : Prop := ∀ (pins : List (Addr × Obj)) (σ : St) (H : Hp) (s : Shared) (e : Value) (s' : Shared), Inv X pins σ H s → CX X.stack H s E e s' → X.xe e s'
section
variable {X : Cx} {CX : CXT} {k : Nat} {f C : Addr} {fd : FuncData} {ps : List Str} {sp : Sp} {dvs : List V} {ds : List Value} {E : XK} {x m : Str} {p pos apos : Pos} {e o : Expr} {es : List Expr} {ta : TE} {t : TA}
theorem run_fn {pins : List (Addr × Obj)} {σ : St} {H : Hp} {s : Shared} {Q : VK} {us : List Value} {vs : List V} (F : FnOk X.prog X.w X.K X.mg X.base CX k f fd ps sp) (hr : Room k X.A) (hb : Binds X.K fd ps ds) (hd : Vals dvs ds) (hx : Passes CX X E)
    (I : Inv X pins σ H s) (r : Vals vs us) (h : sp (vs ++ dvs) H Q E) : wpAny (model X.prog X.w) X.A (call (.ref f) us) (EP X pins σ Q) X.xe s := by
  have r2 : Vals (vs ++ dvs) (us ++ ds) := r.append hd
  have hl : (us ++ ds).length = ps.length := by rw [← r2.length]; exact F.len _ _ _ _ h
  refine wpAny_call (codeAny_mono (F.run X.A X.stack s H ⟨us, []⟩ (us ++ ds) (vs ++ dvs) Q E hr I.env0 (hb s us I.kIn hl) r2 h) fun r s' hq => ?_)
  cases r with
  | error e => exact hx pins σ H s e s' I hq
  | ok fl =>
    cases fl with
    | ret u => exact I.after hq
    | next => exact False.elim hq
    | brk => exact False.elim hq
    | cont => exact False.elim hq
theorem pe_call (F : FnOk X.prog X.w X.K X.mg X.base CX k f fd ps sp) (hr : Room k X.A) (hg : Gl X x) (hm : X.mg x = some (.ref f)) (hk : PySem.W.keepIn X.K (.ref f) = true) (hb : Binds X.K fd ps ds) (hd : Vals dvs ds) (hx : Passes CX X E)
    (ha : PA X (e :: es) t) (hdb : (x == ("__debug__" : Str)) = false := by decide) (he : starEach (e :: es) X.env = (false, eval e X.env) :: starEach es X.env := by rfl) (hpl : (backTo pos (starEach es X.env)).any (·.1) = false := by rfl) :
    PE X (.Call (.Name x p) (e :: es) [] pos) (tCall sp dvs E t) := by
  intro pins s σ H Q I h
  refine wpAny_Call_Name_kw (ld_glob I hg hm ?_ hdb)
  refine PySem.W.callWith_K (h₀ := X.base) I.ok.mod.kin hk (thn (ha pos pins s σ H _ I h) fun us s1 ⟨vs, H1, I1, r, q⟩ => ⟨I1.kIn, ?_⟩) he hpl
  exact run_fn F hr hb hd hx I1 r q
structure Mk (K : PySem.W.Frag) (C f : Addr) : Prop where
  makes : PySem.W.makesIn K C = true
  init : PySem.W.findIn K (.ref C) "__init__" = some (some (.ref f))
  fn : PySem.W.isFn K (.ref f) = true
  kp : PySem.W.keepIn K (.ref C) = true
theorem run_make {pins : List (Addr × Obj)} {σ : St} {H : Hp} {s : Shared} {Q : VK} {us : List Value} {vs : List V} (M : Mk X.K C f) (F : FnOk X.prog X.w X.K X.mg X.base CX k f fd ps sp) (hr : Room (k + 1) X.A) (hb : Binds X.K fd ps ds) (hd : Vals dvs ds)
    (hx : Passes CX X E) (I : Inv X pins σ H s) (r : Vals vs us)
    (h : ∀ x dx, H x = none → H dx = none → dx ≠ x → sp (.ref x :: (vs ++ dvs)) (upd (upd H dx (.own x)) x (.ins C dx [])) (fun v H2 => v = .non ∧ Q (.ref x) H2) E) :
    wpAny (model X.prog X.w) X.A (call (.ref C) us) (EP X pins σ Q) X.xe s := by
  have hq := h (s.heap.objs.size + 1) s.heap.objs.size (I.hok.fresh (Nat.le_succ _)) (I.hok.fresh (Nat.le_refl _)) (Nat.ne_of_lt (Nat.lt_succ_self _))
  have I2 := Inv.made (C := C) I
  have r2 : Vals (V.ref (s.heap.objs.size + 1) :: (vs ++ dvs)) (Value.ref (s.heap.objs.size + 1) :: (us ++ ds)) := .cons rfl (r.append hd)
  have hl : (Value.ref (s.heap.objs.size + 1) :: us ++ ds).length = ps.length := by
    have e := r2.length
    rw [F.len _ _ _ _ hq] at e
    exact e.symm
  refine wpAny_call (make_map (f := f) I.kIn M.makes M.init (beq_iff_eq.mp M.fn) (codeAny_mono (F.run _ X.stack _ _ ⟨Value.ref (s.heap.objs.size + 1) :: us, []⟩ (Value.ref (s.heap.objs.size + 1) :: (us ++ ds)) _ _ E (hr.make C us [])
    (I2.env0.make C us []) (hb _ (Value.ref (s.heap.objs.size + 1) :: us) I2.kIn hl) r2 hq) fun r s' hq' => ?_))
  cases r with
  | error e => exact hx pins σ _ _ e s' I2 hq'
  | ok fl =>
    cases fl with
    | ret u =>
      obtain ⟨v, H', I3, rv, ev, q3⟩ := I2.after hq'
      subst ev
      exact ⟨rv, ⟨V.ref (s.heap.objs.size + 1), H', I3, rfl, q3⟩⟩
    | next => exact False.elim hq'
    | brk => exact False.elim hq'
    | cont => exact False.elim hq'
theorem pe_make (M : Mk X.K C f) (F : FnOk X.prog X.w X.K X.mg X.base CX k f fd ps sp) (hr : Room (k + 1) X.A) (hg : Gl X x) (hm : X.mg x = some (.ref C)) (hb : Binds X.K fd ps ds) (hd : Vals dvs ds) (hx : Passes CX X E)
    (ha : PA X (e :: es) t) (hdb : (x == ("__debug__" : Str)) = false := by decide) (he : starEach (e :: es) X.env = (false, eval e X.env) :: starEach es X.env := by rfl) (hpl : (backTo pos (starEach es X.env)).any (·.1) = false := by rfl) :
    PE X (.Call (.Name x p) (e :: es) [] pos) (tMake C sp dvs E t) := by
  intro pins s σ H Q I h
  refine wpAny_Call_Name_kw (ld_glob I hg hm ?_ hdb)
  refine PySem.W.callWith_K (h₀ := X.base) I.ok.mod.kin M.kp (thn (ha pos pins s σ H _ I h) fun us s1 ⟨vs, H1, I1, r, q⟩ => ⟨I1.kIn, ?_⟩) he hpl
  exact run_make M F hr hb hd hx I1 r q
theorem pe_make0 (M : Mk X.K C f) (F : FnOk X.prog X.w X.K X.mg X.base CX k f fd ps sp) (hr : Room (k + 1) X.A) (hg : Gl X x) (hm : X.mg x = some (.ref C)) (hb : Binds X.K fd ps ds) (hd : Vals dvs ds) (hx : Passes CX X E)
    (hdb : (x == ("__debug__" : Str)) = false := by decide) : PE X (.Call (.Name x p) [] [] pos) (tMake C sp dvs E tNil) := by
  intro pins s σ H Q I h
  refine wpAny_Call_Name_kw (ld_glob I hg hm ?_ hdb)
  exact PySem.W.callWith_K0 I.kIn M.kp (run_make (us := []) M F hr hb hd hx I .nil h)
end
section
variable {X : Cx} {CX : CXT} {k : Nat} {f C : Addr} {fd : FuncData} {ps ks : List Str} {sp : Sp} {E : XK} {x m : Str} {p pos apos kpos : Pos} {e o : Expr} {es : List Expr} {kws : List Keyword} {te ta : TE} {t tk : TA} {nm : Option Str}
structure KBinds (K : PySem.W.Frag) (fd : FuncData) (ps ks : List Str) (g : List Value → List Value → List Value) (gV : List V → List V → List V) : Prop where
  to : ∀ (s : Shared) (us ws : List Value), K.In s.heap → (g us ws).length = ps.length → BindsTo s fd ⟨us, ks.zip ws⟩ (ps.zip (g us ws))
  rel : ∀ {vs : List V} {us : List Value} {zs : List V} {ws : List Value}, Vals vs us → Vals zs ws → Vals (gV vs zs) (g us ws)
variable {g : List Value → List Value → List Value} {gV : List V → List V → List V}
end
structure FnScope (N P : List Str) (sc : Scope) : Prop where
  kind : sc.kind = .function
  co : sc.isCoroutine = false
  gen : sc.isGenerator = false
  nd : N.Nodup
  pre : N.take P.length = P
  par : ∀ x ∈ P, sc.names.lookup x = some .local ∨ sc.names.lookup x = some .cell
  nofree : ∀ y ∈ sc.names, y.2 ≠ .free
theorem bindL_out {kindOf : Str → Option NameKind} {x : Str} : ∀ {binds : List (Str × Value)} {m : Str → Option Value}, (∀ v, (x, v) ∉ binds) → bindL kindOf binds m x = m x
  | [], _, _ => rfl
  | (n, v) :: r, m, h => by
    unfold bindL
    rw [bindL_out fun w hw => h w (List.mem_cons_of_mem _ hw)]
    split
    · have : x ≠ n := by rintro rfl; exact h v List.mem_cons_self
      simp [this]
    · rfl
theorem bindC_out {kindOf : Str → Option NameKind} {x : Str} : ∀ {binds : List (Str × Value)} {m : Str → Option Value}, (∀ v, (x, v) ∉ binds) → bindC kindOf binds m x = m x
  | [], _, _ => rfl
  | (n, v) :: r, m, h => by
    unfold bindC
    rw [bindC_out fun w hw => h w (List.mem_cons_of_mem _ hw)]
    split
    · rfl
    · have : x ≠ n := by rintro rfl; exact h v List.mem_cons_self
      simp [this]
theorem bindL_get {kindOf : Str → Option NameKind} {x : Str} {v : Value} : ∀ {P : List Str} {vs : List Value} {i : Nat} {m : Str → Option Value}, P.Nodup → P[i]? = some x → vs[i]? = some v → kindOf x = some .local →
    bindL kindOf (P.zip vs) m x = some v
  | [], _, _, _, _, h, _, _ => by simp at h
  | _ :: _, [], _, _, _, _, h, _ => by simp at h
  | p :: P, w :: vs, 0, m, nd, h1, h2, hk => by
    simp at h1 h2; subst h1; subst h2
    show bindL kindOf ((p, w) :: P.zip vs) m p = _
    unfold bindL
    rw [bindL_out fun v hv => (List.nodup_cons.mp nd).1 (List.of_mem_zip hv).1, if_pos hk]
    simp
  | p :: P, w :: vs, i + 1, m, nd, h1, h2, hk => by
    show bindL kindOf ((p, w) :: P.zip vs) m x = _
    unfold bindL
    exact bindL_get (i := i) (List.nodup_cons.mp nd).2 (by simpa using h1) (by simpa using h2) hk
theorem bindC_get {kindOf : Str → Option NameKind} {x : Str} {v : Value} : ∀ {P : List Str} {vs : List Value} {i : Nat} {m : Str → Option Value}, P.Nodup → P[i]? = some x → vs[i]? = some v → kindOf x ≠ some .local →
    bindC kindOf (P.zip vs) m x = some v
  | [], _, _, _, _, h, _, _ => by simp at h
  | _ :: _, [], _, _, _, _, h, _ => by simp at h
  | p :: P, w :: vs, 0, m, nd, h1, h2, hk => by
    simp at h1 h2; subst h1; subst h2
    show bindC kindOf ((p, w) :: P.zip vs) m p = _
    unfold bindC
    rw [bindC_out fun v hv => (List.nodup_cons.mp nd).1 (List.of_mem_zip hv).1, if_neg hk]
    simp
  | p :: P, w :: vs, i + 1, m, nd, h1, h2, hk => by
    show bindC kindOf ((p, w) :: P.zip vs) m x = _
    unfold bindC
    exact bindC_get (i := i) (List.nodup_cons.mp nd).2 (by simpa using h1) (by simpa using h2) hk
def start (N : List Str) (vs : List V) : St := vs.map some ++ List.replicate (N.length - vs.length) none
def cxOf (CX : CXT) (P : Program) (w : World) (K : PySem.W.Frag) (mg : Str → Option Value) (base : Heap) (N : List Str) (qual : Str) (scope : Scope) (f : Addr) (cd : Value) (A : Around) (outer : List Env) (s : Shared) (H : Hp) (E : XK) : Cx where
  prog := P
  w := w
  K := K
  mg := mg
  base := base
  A := A.deeper (envOfC qual scope s.heap.objs.size f cd)
  N := N
  s₀ := s
  H₀ := H
  env := envOfC qual scope s.heap.objs.size f cd
  outer := outer
  stack := envOfC qual scope s.heap.objs.size f cd :: outer
  ex := []
  calm := true
  fn := fun _ => true
  pn := []
  xe := fun e s' => wpAny (model P w) (A.deeper (envOfC qual scope s.heap.objs.size f cd)) (leaving (envOfC qual scope s.heap.objs.size f cd) e) (fun _ s'' => CX outer H s E e s'') (fun e' s'' => CX outer H s E e' s'') s'
theorem cell_has {sc : Scope} {n : Nat} {x : Str} (h : sc.names.lookup x = some .cell) : ∃ c, (cellsFrom n sc.names []).lookup x = some c := by
  have q := PySem.W.cellsFrom_some sc.names n [] (.inl h)
  exact Option.isSome_iff_exists.mp q
theorem inv_start {CX : CXT} {P : Program} {w : World} {K : PySem.W.Frag} {mg : Str → Option Value} {base : Heap} {N ps : List Str} {qual : Str} {scope : Scope} {f : Addr} {cd : Value} {A : Around} {outer : List Env} {s s1 : Shared} {H : Hp} {E : XK} {us : List Value} {vs : List V}
    (S : FnScope N ps scope) (hd : A.handled = none) (e0 : Env0 P w K mg base A outer s H) (hl : vs.length = ps.length) (r : Vals vs us)
    (x : InCallC s s.heap.objs.size (bindL (envOfC qual scope s.heap.objs.size f cd).kindOf (ps.zip us) fun _ => none) (cellsFrom (s.heap.objs.size + 1) scope.names []) (bindC (envOfC qual scope s.heap.objs.size f cd).kindOf (ps.zip us) fun _ => none) s1) :
    Inv (cxOf CX P w K mg base N qual scope f cd A outer s H E) [] (start N vs) H s1 := by
  have hpl : ps.length ≤ N.length := by have := congrArg List.length S.pre; rw [List.length_take] at this; omega
  obtain ⟨h1, tk, rfl, hk⟩ := x.done
  have noA : ∀ b : Addr, b ∉ (cxOf CX P w K mg base N qual scope f cd A outer s H E).ex := fun b z => absurd (show b ∈ ([] : List Addr) from z) (by simp)
  refine ⟨⟨e0.mod, S.kind, rfl, rfl, Nat.le_refl _, fun y z c h1 h2 => ?_, fun y hy => ?_, fun y c _ h => ?_, fun _ => hd, Around.frames_deeper e0.frames, .inr ⟨rfl, rfl⟩, fun b z => absurd z (noA b), e0.bs, e0.bsz, fun b _ _ => noA b, fun b z => absurd z (noA b), e0.funs, e0.frf⟩,
    rfl, e0.bare, Un.kept hk, ⟨_, x.toInCall.ns, fun i y v h1 h2 h3 => ?_⟩, fun y c h => ⟨_, x.cell y c h⟩, e0.hok.fresh (Nat.le_refl _), fun y c h => ?_, fun p hp => absurd (show p ∈ ([] : List (Addr × Obj)) from hp) (by simp), e0.hok.kept hk, ?_⟩
  · exact name_of_addr x.apart (PySem.mem_of_lookup h1) (PySem.mem_of_lookup h2)
  · have hy : scope.names.lookup y = some .cell ∨ scope.names.lookup y = some .free := hy
    rcases hy with hy | hy
    · exact cell_has hy
    · exact absurd rfl (S.nofree _ (PySem.mem_of_lookup hy))
  · exact Nat.le_of_lt (x.above y c (PySem.mem_of_lookup h))
  · have hi : i < vs.length := by
      unfold start at h2
      by_cases hi : i < vs.length
      · exact hi
      · rw [List.getElem?_append_right (by simpa using hi)] at h2
        rw [List.getElem?_replicate] at h2
        split at h2 <;> cases h2
    have ha : vs[i]? = some v := by
      unfold start at h2
      rw [List.getElem?_append_left (by simpa using hi), List.getElem?_map] at h2
      cases e : vs[i]? with
      | none => rw [e] at h2; cases h2
      | some a => rw [e] at h2; cases h2; rfl
    obtain ⟨u, hu, rv⟩ := r.get ha
    have hp : ps[i]? = some y := by
      rw [← S.pre, List.getElem?_take_of_lt (by omega)]; exact h1
    have ndP : ps.Nodup := by rw [← S.pre]; exact S.nd.sublist (List.take_sublist _ _)
    refine ⟨u, rv, ?_⟩
    rcases S.par y (List.mem_of_getElem? hp) with k | k
    · exact .inl ⟨k, bindL_get ndP hp hu k⟩
    · obtain ⟨c, e⟩ := cell_has (n := s.heap.objs.size + 1) k
      refine .inr ⟨.inl k, c, e, ?_⟩
      have q := x.cell y c e
      rw [bindC_get ndP hp hu (by show scope.names.lookup y ≠ _; rw [k]; decide)] at q
      exact q
  · exact e0.hok.fresh (Nat.le_of_lt (x.above y c (PySem.mem_of_lookup h)))
  · unfold start
    show _ = N.length
    rw [List.length_append, List.length_map, List.length_replicate]
    omega
theorem fn_of {CX : CXT} {P : Program} {w : World} {K : PySem.W.Frag} {mg : Str → Option Value} {base : Heap} {k : Nat} {f : Addr} {name qual : Str} {params : Arguments} {body : List Stmt} {scope : Scope} {dV kV doc pm cdv ct oc : Value} {an od : Option Addr}
    {osl : Array (Option Value)} {N ps : List Str} {sp : Sp} (lk : K.lookup f = some ⟨oc, od, .func (PySem.W.fnOf name qual params body scope dV kV doc pm an cdv ct), osl⟩) (hcd : PySem.W.codeIn K cdv qual = true) (S : FnScope N ps scope)
    (len : ∀ vs H Q E, sp vs H Q E → vs.length = ps.length)
    (hbody : ∀ (A : Around) (outer : List Env) (s : Shared) (H : Hp) (vs : List V) (Q : VK) (E : XK), Room k (A.deeper (envOfC qual scope s.heap.objs.size f cdv)) → sp vs H Q E →
      ∃ t, PSs (cxOf CX P w K mg base N qual scope f cdv A outer s H E) body t ∧ t { nx := fun _ H' => Q .non H', rt := Q } (start N vs) H) :
    FnOk P w K mg base CX (k + 1) f (PySem.W.fnOf name qual params body scope dV kV doc pm an cdv ct) ps sp := by
  refine ⟨len, fun A outer s H args us vs Q E hr e0 hb r hsp => ?_⟩
  have hl := len _ _ _ _ hsp
  have KX : K.In s.heap := e0.mod.kin.keeps fun b o e => (e0.bs b o e).1
  have lim : s.heap.NoLimit := e0.mod.nolimit.keeps fun b o e => (e0.bs b o e).1
  have hkind : ∀ y ∈ ps.zip us, scope.names.lookup y.1 = some .local ∨ (scope.names.lookup y.1 = some .cell ∧ ((cellsFrom (s.heap.objs.size + 1) scope.names []).lookup y.1).isSome = true) := fun ⟨n, v⟩ hy => by
    rcases S.par n (List.of_mem_zip hy).1 with q | q
    · exact .inl q
    · exact .inr ⟨q, PySem.W.cellsFrom_some _ _ _ (.inl q)⟩
  refine codeAny_call_function hr.depth (KX _ _ lk) rfl S.co S.gen rfl (PySem.W.codeRec_of KX hcd) (hb _ _ _ _ ?_)
  refine wpAny_newFunctionEnv_cells S.kind hkind fun env he s1 x => ?_
  subst he
  refine ⟨lim.keeps x.toInCall.keep, codeAny_func ?_⟩
  obtain ⟨t, ht, hq⟩ := hbody A outer s H vs Q E (hr.deeper _) hsp
  have I : Inv (cxOf CX P w K mg base N qual scope f cdv A outer s H E) [] (start N vs) H s1 := inv_start S hr.hd e0 hl r x
  refine wpAny_mono (ht [] s1 (start N vs) H _ I hq) (fun fl s' hs => ?_) fun e s' hs => hs
  have fin : ∀ {σ' : St} {H' : Hp} {v : V} {u : Value}, Inv (cxOf CX P w K mg base N qual scope f cdv A outer s H E) [] σ' H' s' → RelV v u → Q v H' → CE outer P w H s Q u s' :=
    fun {σ' H' v u} J rv q => ⟨v, H', J.os, J.bare, J.base, J.hok, rv, q⟩
  cases fl with
  | ret u =>
    obtain ⟨v, σ', H', J, rv, q⟩ := hs
    exact fin J rv q
  | next =>
    obtain ⟨σ', H', J, q⟩ := hs
    exact fin (v := V.non) (u := Value.none) J rfl q
  | brk =>
    obtain ⟨_, _, _, q⟩ := hs
    exact False.elim q
  | cont =>
    obtain ⟨_, _, _, q⟩ := hs
    exact False.elim q
end L2
namespace L2
open PySem PySem.Spec PyProof.Rows
section
variable {X : Cx} {x : Str} {p pos : Pos} {e : Expr} {es : List Expr} {t : TA} {id T : String} {r : List V → Hp → VK → Prop}
def tCB (r : List V → Hp → VK → Prop) (t : TA) : TE := fun σ H Q => t σ H fun vs H1 => r vs H1 Q
theorem pe_callB (hc : CallR X (.builtin id) r) (hg : Gl X x) (hm : X.mg x = none) (hv : bootBuiltins x = some (.builtin id)) (ha : PA X (e :: es) t) (hn : x ≠ "__name__" := by decide) (hdb : (x == ("__debug__" : Str)) = false := by decide)
    (he : starEach (e :: es) X.env = (false, eval e X.env) :: starEach es X.env := by rfl) (hpl : (backTo pos (starEach es X.env)).any (·.1) = false := by rfl) : PE X (.Call (.Name x p) (e :: es) [] pos) (tCB r t) := by
  intro pins s σ H Q I h
  refine wpAny_Call_Name_kw (ld_blt I hg hm hv ?_ hn hdb)
  exact PyProof.Rows.callWith_builtin1 (thn (ha pos pins s σ H _ I h) fun us s1 ⟨vs, H1, I1, r1, q1⟩ => hc pins s1 σ H1 vs us Q I1 r1 q1) he hpl
theorem pe_callTy (hc : CallR X (.type T) r) (hg : Gl X x) (hm : X.mg x = none) (hv : bootBuiltins x = some (.type T)) (ha : PA X (e :: es) t) (hn : x ≠ "__name__" := by decide) (hdb : (x == ("__debug__" : Str)) = false := by decide)
    (he : starEach (e :: es) X.env = (false, eval e X.env) :: starEach es X.env := by rfl) (hpl : (backTo pos (starEach es X.env)).any (·.1) = false := by rfl) : PE X (.Call (.Name x p) (e :: es) [] pos) (tCB r t) := by
  intro pins s σ H Q I h
  refine wpAny_Call_Name_kw (ld_blt I hg hm hv ?_ hn hdb)
  exact PyProof.Rows.callWith_type1 (thn (ha pos pins s σ H _ I h) fun us s1 ⟨vs, H1, I1, r1, q1⟩ => hc pins s1 σ H1 vs us Q I1 r1 q1) he hpl
end
end L2
namespace HT
open PySem PyProof.Rows
section
open PySem.SeqAt
open PySem.AutoSeq1 (wpAny_loadPart')
open PySem.MeetsSeq PySem.MeetsSeq2 PySem.MeetsSeq3
end
section
variable {prog : Program} {w : World} {A : Around} {E : Value → Shared → Prop} {s : Shared}
end
end HT
namespace L2
open PySem PySem.Spec PyProof.Rows
section
variable {X : Cx} {e : Expr} {te : TE} {lo hi : Option Expr} {tl th : TO} {pos p2 : Pos}
end
end L2
namespace L2
open PySem PySem.Spec PyProof.Rows
def ixN (n : Nat) (i : Int) : Option Nat := if 0 ≤ i then (if i < n then some i.toNat else none) else if -(n : Int) ≤ i then some (i + n).toNat else none
def atI {α : Type} (xs : List α) (i : Int) : Option α := (ixN xs.length i).bind fun j => xs[j]?
theorem ixN_seq {n : Nat} {i : Int} {j : Nat} (h : ixN n i = some j) : seqIndex? i n = some j ∧ j < n ∧ -(n : Int) ≤ i ∧ i < n := by
  unfold ixN at h
  by_cases h0 : 0 ≤ i
  · rw [if_pos h0] at h
    by_cases h1 : i < n
    · rw [if_pos h1] at h
      have e : i.toNat = j := Option.some.inj h
      exact ⟨by rw [seqIndex_of h0 h1, e], by omega, by omega, h1⟩
    · rw [if_neg h1] at h; cases h
  · rw [if_neg h0] at h
    by_cases h1 : -(n : Int) ≤ i
    · rw [if_pos h1] at h
      have e : (i + n).toNat = j := Option.some.inj h
      exact ⟨by rw [seqIndex_neg (by omega) h1, e], by omega, h1, by omega⟩
    · rw [if_neg h1] at h; cases h
theorem atI_get {α : Type} {xs : List α} {i : Int} {v : α} (h : atI xs i = some v) : ∃ j, seqIndex? i xs.length = some j ∧ xs[j]? = some v ∧ j < xs.length ∧ -(xs.length : Int) ≤ i ∧ i < xs.length := by
  unfold atI at h
  cases e : ixN xs.length i with
  | none => rw [e] at h; cases h
  | some j =>
    rw [e] at h
    obtain ⟨h1, h2, h3, h4⟩ := ixN_seq e
    exact ⟨j, h1, h, h2, h3, h4⟩
theorem atI_nat {α : Type} {xs : List α} {j : Nat} {v : α} (h : xs[j]? = some v) : atI xs (j : Int) = some v := by
  have hj : j < xs.length := (List.getElem?_eq_some_iff.mp h).1
  have e : ixN xs.length (j : Int) = some j := by
    unfold ixN
    rw [if_pos (by omega), if_pos (by omega)]; simp
  unfold atI; rw [e]; exact h
def PlainIx (b : Expr) : Prop := ∀ o i, subscripted b false o i = operate [o, i] (getItem o i)
def IxR (X : Cx) (r : R2) : Prop :=
  ∀ (value slice : Expr) (pins : List (Addr × Obj)) (s : Shared) (σ : St) (H : Hp) (x y : V) (v u : Value) (Q : VK), Inv X pins σ H s → RelV x v → RelV y u → r x y H Q →
    subscripted slice false v u = operate [v, u] (getItem v u) → wpAny (model X.prog X.w) X.A (subscriptTail value slice v u) (EP X pins σ Q) X.xe s
def MtR (X : Cx) (id : String) (r : V → List V → Hp → VK → Prop) : Prop :=
  ∀ (pins : List (Addr × Obj)) (s : Shared) (σ : St) (H : Hp) (x : V) (xs : List V) (v : Value) (us : List Value) (Q : VK), Inv X pins σ H s → RelV x v → Vals xs us → r x xs H Q →
    wpAny (model X.prog X.w) X.A (call (.builtin id) (v :: us)) (EP X pins σ Q) X.xe s
section
variable {X : Cx} {a b : Expr} {ta tb : TE} {pos : Pos}
theorem pe_ix {r : R2} (hr : IxR X r) (ha : PE X a ta) (hb : PE X b tb) (hs : PlainIx b) : PE X (.Subscript a b pos) (tOp r ta tb) := by
  intro pins s σ H Q I h
  exact Subscript_ (binT ha hb I h fun v u s2 x y H2 I2 rx ry q => hr a b pins s2 σ H2 x y v u Q I2 rx ry q (hs _ _))
def rIxL (K : PySem.W.Frag) : R2 := fun x y H Q => ∃ p xs i v, x = .ref p ∧ y = .int i ∧ SqL K H p xs ∧ atI xs i = some v ∧ Q v H
def rIxT (K : PySem.W.Frag) : R2 := fun x y H Q => ∃ p xs i v, x = .ref p ∧ y = .int i ∧ SqT K H p xs ∧ atI xs i = some v ∧ Q v H
theorem ix_list : IxR X (rIxL X.K) := by
  intro value slice pins s σ H x y v u Q I rx ry h hs
  obtain ⟨p, xs, i, z, rfl, rfl, hq, he, q⟩ := h
  cases rx
  obtain ⟨t, rfl⟩ := ry
  obtain ⟨its, r, pl, hz⟩ := I.list hq
  obtain ⟨j, h1, h2, h3, h4, h5⟩ := atI_get he
  obtain ⟨w, ew, rw'⟩ := r.get h2
  have hl := r.length
  have hn := line63
  have fin : EP X pins σ Q w s := ⟨z, H, I, rw', q⟩
  by_cases h0 : 0 ≤ i
  · have hj : i.toNat = j := by
      rw [seqIndex_of h0 h5] at h1
      exact Option.some.inj h1
    exact item_listR pl.isList h0 (by omega) (by rw [hj]; simpa using ew) fin hs
  · have hj : (i + (its.toArray.size : Int)).toNat = j := by
      rw [seqIndex_neg (by omega) h4] at h1
      rw [List.size_toArray, ← hl]
      exact Option.some.inj h1
    exact subscriptTail_builtinR (x := w) pl.isList.typeIs slot_list_getitem.lookup
      (wpAny_getItem_list_neg (Q := fun r s' => r = w ∧ EP X pins σ Q r s') pl.isList (by omega) (by rw [List.size_toArray] <;> omega) (by omega) (by rw [hj]; simpa using ew) ⟨rfl, fin⟩) hs
theorem ix_tup : IxR X (rIxT X.K) := by
  intro value slice pins s σ H x y v u Q I rx ry h hs
  obtain ⟨p, xs, i, z, rfl, rfl, hq, he, q⟩ := h
  cases rx
  obtain ⟨t, rfl⟩ := ry
  obtain ⟨its, r, pl, hz⟩ := I.tuple hq
  obtain ⟨j, h1, h2, h3, h4, h5⟩ := atI_get he
  obtain ⟨w, ew, rw'⟩ := r.get h2
  have hl := r.length
  have hn := line63
  have fin : EP X pins σ Q w s := ⟨z, H, I, rw', q⟩
  exact subscriptTail_builtinR (x := w) pl.typeIs slot_tuple_getitem.lookup
    (getItem_tuple (j := j) (Q := fun r s' => r = w ∧ EP X pins σ Q r s') pl (by omega) (by omega) (by rw [List.size_toArray, ← hl]; exact h1) (by simpa using ew) ⟨rfl, fin⟩) hs
theorem mapSeq_set (its : List Value) (n j : Nat) (u : Value) : Obj.mapSeq (·.setIfInBounds j u) { cls := .type "list", data := .seq its.toArray n } = { cls := .type "list", data := .seq (its.set j u).toArray n } := by
  simp [Obj.mapSeq]
theorem Inv.lst {pins : List (Addr × Obj)} {σ : St} {H : Hp} {s : Shared} {p : Addr} {xs : List V} (I : Inv X pins σ H s) (h : H p = some (.lst xs)) :
    ∃ (its : List Value) (n : Nat), Vals xs its ∧ s.heap.get? p = some { cls := .type "list", data := .seq its.toArray n } ∧ xs.length ≤ sizeLine := by
  obtain ⟨z, its, n, r, e⟩ := I.hok p _ h
  exact ⟨its, n, r, e, z⟩
theorem Inv.lstUpd {pins : List (Addr × Obj)} {σ : St} {H : Hp} {s : Shared} {p : Addr} {xs ys : List V} {its its' : List Value} {n n' : Nat} {f : Obj → Obj} (I : Inv X pins σ H s) (h : H p = some (.lst xs))
    (ho : s.heap.get? p = some { cls := .type "list", data := .seq its.toArray n }) (hf : f { cls := .type "list", data := .seq its.toArray n } = { cls := .type "list", data := .seq its'.toArray n' }) (r : Vals ys its') (hz : ys.length ≤ sizeLine) (t : Nat) :
    Inv X pins σ (upd H p (.lst ys)) { s with heap := s.heap.update p f, toks := t } := by
  have e : (s.heap.update p f).get? p = some { cls := .type "list", data := .seq its'.toArray n' } := by
    rw [Heap.get?_update_self f ho (by rw [hf] <;> rfl), hf]
  refine I.write (x := p) (e := p) (by rw [h]; trivial) (.inl rfl) (fun b u hb q => (Heap.get?_update_other _ _ (Ne.symm hb)).trans q) ⟨_, e⟩ ?_
  exact ⟨hz, its', n', r, e⟩
def rSetL : V → V → V → Hp → (Hp → Prop) → Prop := fun o i v H Q => ∃ p xs k j, o = .ref p ∧ i = .int k ∧ H p = some (.lst xs) ∧ ixN xs.length k = some j ∧ Q (upd H p (.lst (xs.set j v)))
theorem set_list : PSet X rSetL := by
  intro pins s σ H o i v ov iv u Q I ro ri rv h
  obtain ⟨p, xs, k, j, rfl, rfl, hp, hj, q⟩ := h
  cases ro
  obtain ⟨t, rfl⟩ := ri
  obtain ⟨its, n, r, ho, hz⟩ := I.lst hp
  obtain ⟨h1, h2, h3, h4⟩ := ixN_seq hj
  have hl := r.length
  have hn := line63
  have I' : Inv X pins σ (upd H p (.lst (xs.set j v))) { s with heap := s.heap.update p (Obj.mapSeq (·.setIfInBounds j u)) } :=
    I.lstUpd hp ho (mapSeq_set its n j u) (r.set rv j) (by rw [List.length_set]; exact hz) s.toks
  by_cases h0 : 0 ≤ k
  · have hk : k.toNat = j := by
      rw [seqIndex_of h0 h4] at h1
      exact Option.some.inj h1
    exact PySem.W.ki_setAt ho h0 (by omega) (by rw [List.size_toArray, ← hl]; exact h4) (by rw [hk]; exact ⟨_, I', q⟩)
  · have hk : (k + (its.toArray.size : Int)).toNat = j := by
      rw [seqIndex_neg (by omega) h3] at h1
      rw [List.size_toArray, ← hl]
      exact Option.some.inj h1
    exact PySem.W.ki_setBack ho (by omega) (by rw [List.size_toArray, ← hl]; exact h3) (by omega) (by rw [hk]; exact ⟨_, I', q⟩)
def flatV : V → Bool
  | .non => true
  | .bl _ => true
  | .int _ => true
  | .str _ => true
  | _ => false
def eqV : V → V → Bool
  | .non, .non => true
  | .bl a, .bl b => a == b
  | .bl a, .int b => (if a then 1 else 0) == b
  | .int a, .bl b => a == (if b then 1 else 0)
  | .int a, .int b => a == b
  | .str a, .str b => a == b
  | _, _ => false
theorem eqAt_V {A : Around} {s : Shared} {y x : V} {u v : Value} (ry : RelV y u) (rx : RelV x v) (fy : flatV y = true) (fx : flatV x = true) : SeqAt.EqAt A s u v (eqV y x) := by
  cases y with
  | non =>
    cases ry
    cases x with
    | non => cases rx; exact SeqAt.EqAt.same _
    | bl b => cases rx; exact SeqAt.EqAt.none_bool b
    | int b => obtain ⟨t, rfl⟩ := rx; exact SeqAt.EqAt.none_int b t
    | str b => obtain ⟨t, rfl⟩ := rx; exact SeqAt.EqAt.none_str b t
    | _ => exact absurd (show false = true from fx) Bool.false_ne_true
  | bl a =>
    cases ry
    cases x with
    | non => cases rx; exact SeqAt.EqAt.bool_none a
    | bl b => cases rx; exact SeqAt.EqAt.bool_bool a b
    | int b => obtain ⟨t, rfl⟩ := rx; exact SeqAt.EqAt.bool_int a b t
    | str b => obtain ⟨t, rfl⟩ := rx; exact SeqAt.EqAt.bool_str a b t
    | _ => exact absurd (show false = true from fx) Bool.false_ne_true
  | int a =>
    obtain ⟨t', rfl⟩ := ry
    cases x with
    | non => cases rx; exact SeqAt.EqAt.int_none a t'
    | bl b => cases rx; exact SeqAt.EqAt.int_bool a t' b
    | int b => obtain ⟨t, rfl⟩ := rx; exact SeqAt.EqAt.int_int a t' b t
    | str b => obtain ⟨t, rfl⟩ := rx; exact SeqAt.EqAt.int_str a t' b t
    | _ => exact absurd (show false = true from fx) Bool.false_ne_true
  | str a =>
    obtain ⟨t', rfl⟩ := ry
    cases x with
    | non => cases rx; exact SeqAt.EqAt.str_none a t'
    | bl b => cases rx; exact SeqAt.EqAt.str_bool a t' b
    | int b => obtain ⟨t, rfl⟩ := rx; exact SeqAt.EqAt.str_int a t' b t
    | str b => obtain ⟨t, rfl⟩ := rx; exact SeqAt.EqAt.str_str a t' b t
    | _ => exact absurd (show false = true from fx) Bool.false_ne_true
  | _ => exact absurd (show false = true from fy) Bool.false_ne_true
def eqU (x : V) (u : Value) : Bool := match u with
  | .none => eqV .non x
  | .bool b => eqV (.bl b) x
  | .int i _ => eqV (.int i) x
  | .str z _ => eqV (.str z) x
  | _ => false
theorem eqU_of {x y : V} {u : Value} (r : RelV y u) (f : flatV y = true) : eqU x u = eqV y x := by
  cases y with
  | non => cases r; rfl
  | bl b => cases r; rfl
  | int i => obtain ⟨t, rfl⟩ := r; rfl
  | str z => obtain ⟨t, rfl⟩ := r; rfl
  | _ => exact absurd (show false = true from f) Bool.false_ne_true
theorem mem_eqAt {A : Around} {s : Shared} {x : V} {v : Value} (rx : RelV x v) (fx : flatV x = true) : ∀ {xs : List V} {us : List Value}, Vals xs us → xs.all flatV = true → ∀ u ∈ us, SeqAt.EqAt A s u v (eqU x u)
  | _, _, .nil, _ => fun u hu => by cases hu
  | y :: xs, u :: us, .cons r t, f => fun u' hu => by
    rw [List.all_cons, Bool.and_eq_true] at f
    rcases List.mem_cons.mp hu with rfl | hu
    · rw [eqU_of r f.1]; exact eqAt_V r rx f.1 fx
    · exact mem_eqAt rx fx t f.2 u' hu
theorem call_len_seq : CallR X (.builtin "len") (fun xs H Q => ∃ p ys, xs = [.ref p] ∧ (SqL X.K H p ys ∨ SqT X.K H p ys) ∧ Q (.int ys.length) H) := by
  intro pins s σ H xs us Q I r h
  obtain ⟨p, ys, rfl, hq, q⟩ := h
  obtain ⟨u, rfl, rx⟩ := vals1 r
  cases rx
  have hn := line63
  rcases hq with hq | hq
  · obtain ⟨its, r', pl, hz⟩ := I.list hq
    have hlen := r'.length
    exact Calls.call_len_list pl.isList (by simp only [List.size_toArray] <;> omega) ⟨.int ys.length, H, I.tok _, ⟨s.toks + 1, by rw [List.size_toArray, hlen]⟩, q⟩
  · obtain ⟨its, r', pl, hz⟩ := I.tuple hq
    have hlen := r'.length
    exact len_tuple pl (by simp only [List.size_toArray] <;> omega) ⟨.int ys.length, H, I.tok _, ⟨s.toks + 1, by rw [List.size_toArray, hlen]⟩, q⟩
theorem call_len_str : CallR X (.builtin "len") (fun xs H Q => ∃ z, xs = [.str z] ∧ z.length ≤ sizeLine ∧ Q (.int z.length) H) := by
  intro pins s σ H xs us Q I r h
  obtain ⟨z, rfl, hz, q⟩ := h
  obtain ⟨u, rfl, t, rfl⟩ := vals1 r
  have hn := line63
  exact len_str (by omega) ⟨.int z.length, H, I.tok _, ⟨_, rfl⟩, q⟩
theorem call_list_of : CallR X (.type "list") (fun xs H Q => ∃ p ys, xs = [.ref p] ∧ (SqL X.K H p ys ∨ SqT X.K H p ys) ∧ ∀ l, H l = none → Q (.ref l) (upd H l (.lst ys))) := by
  intro pins s σ H xs us Q I r h
  obtain ⟨p, ys, rfl, hq, q⟩ := h
  obtain ⟨u, rfl, rx⟩ := vals1 r
  cases rx
  have fin : ∀ (its : List Value), Vals ys its → ys.length ≤ sizeLine → ∀ (h' : Heap) (c' : Nat), (∀ b o', s.heap.get? b = some o' → h'.get? b = some o') →
      h'.get? s.heap.objs.size = some { cls := .type "list", dict := none, data := .seq its.toArray c', slots := #[] } → EP X pins σ Q (.ref s.heap.objs.size) { s with heap := h' } := fun its r' hz h' c' kp e =>
    ⟨.ref s.heap.objs.size, _, I.laid (t' := s.toks) kp (Nat.le_refl _) (show ObjOk X.prog X.w _ h' _ (.lst ys) from ⟨hz, its, c', r', e⟩), rfl, q _ (I.hok.fresh (Nat.le_refl _))⟩
  rcases hq with hq | hq
  · obtain ⟨its, r', pl, hz⟩ := I.list hq
    have hlen := r'.length
    obtain ⟨o, ho, hc, n, hd⟩ := pl.isList
    exact call_list_seq p (.inl rfl) ho hc hd (fun h' c' kp e => fin its r' hz h' c' kp e) (by simp only [List.size_toArray] <;> omega)
  · obtain ⟨its, r', pl, hz⟩ := I.tuple hq
    have hlen := r'.length
    obtain ⟨o, ho, hc, n, hd⟩ := pl
    exact call_list_seq p (.inr rfl) ho hc hd (fun h' c' kp e => fin its r' hz h' c' kp e) (by simp only [List.size_toArray] <;> omega)
def tyV (K : PySem.W.Frag) (T : String) (x : V) (H : Hp) : Prop := match x with
  | .str _ => T = "str"
  | .int _ => T = "int"
  | .ref p => (T = "list" ∧ ∃ xs, SqL K H p xs) ∨ (T = "tuple" ∧ ∃ o, K.lookup p = some o ∧ o.cls = .type "tuple" ∧ o.dict = none) ∨
      (T = "dict" ∧ (∃ kvs, H p = some (.dK kvs))) ∨ (T = "set" ∧ ∃ S n, H p = some (.set S n))
  | _ => False
theorem tyV_is {pins : List (Addr × Obj)} {σ : St} {H : Hp} {s : Shared} {T : String} {x : V} {v : Value} (I : Inv X pins σ H s) (r : RelV x v) (ty : tyV X.K T x H) :
    s.TypeIs v T ∧ ∀ a, v = .ref a → ∃ ob, s.heap.get? a = some ob ∧ ob.dict = none := by
  cases x with
  | str z =>
    obtain ⟨t, rfl⟩ := r
    cases (show T = "str" from ty)
    exact ⟨typeIs_str s z t, fun _ e => nomatch e⟩
  | int i =>
    obtain ⟨t, rfl⟩ := r
    cases (show T = "int" from ty)
    exact ⟨typeIs_int s i t, fun _ e => nomatch e⟩
  | ref p =>
    cases r
    rcases ty with ⟨rfl, xs, hq⟩ | ⟨rfl, o, hk, hc, hd⟩ | ⟨rfl, hk⟩ | ⟨rfl, S, n, hk⟩
    · obtain ⟨its, _, pl, _⟩ := I.list hq
      refine ⟨pl.isList.typeIs, fun a e => ?_⟩
      cases e
      obtain ⟨o, n, e, c, hd, _⟩ := pl
      exact ⟨o, e, hd⟩
    · refine ⟨⟨o, I.kIn p o hk, hc⟩, fun a e => ?_⟩
      cases e
      exact ⟨o, I.kIn _ o hk, hd⟩
    · have z : ∃ o, s.heap.get? p = some o ∧ o.ExactDict := by
        obtain ⟨kvs, hk⟩ := hk
        obtain ⟨_, _, _, _, o, _, _, e, ex, _⟩ := I.hok p _ hk
        exact ⟨o, e, ex⟩
      obtain ⟨o, e, ex⟩ := z
      refine ⟨⟨o, e, ex.1⟩, fun a e2 => ?_⟩
      cases e2
      exact ⟨o, e, ex.2.1⟩
    · obtain ⟨o, _, _, _, e, ex, _⟩ := I.hok p _ hk
      refine ⟨⟨o, e, ex.1⟩, fun a e2 => ?_⟩
      cases e2
      exact ⟨o, e, ex.2.1⟩
  | _ => exact False.elim ty
def tBM (K : PySem.W.Frag) (T : String) (r : V → List V → Hp → VK → Prop) (to : TE) (t : TA) : TE := fun σ H Q => to σ H fun x H1 => tyV K T x H1 ∧ t σ H1 fun xs H2 => r x xs H2 Q
variable {o e : Expr} {es : List Expr} {to : TE} {t : TA} {name : Str} {apos cpos : Pos} {T id : String} {r : V → List V → Hp → VK → Prop}
theorem pe_bm (pa : PlainAttrs T) (slot : Slot T name id) (hty : typeOf (.builtin id) = pure (.type "method_descriptor")) (hm : MtR X id r) (ho : PE X o to) (ha : PA X (e :: es) t)
    (hbase : attributeBase o name X.env (eval o X.env) = eval o X.env := by rfl)
    (hfew : ((backTo cpos (starEach (e :: es) X.env)).all (fun x => !x.1) && (backToKw cpos (keywordEach [] X.env)).all (fun x => x.1.isSome)
      && decide ((e :: es).length + ([] : List Keyword).length + (if ([] : List Keyword).isEmpty then 0 else 1) < 30)) = true := by rfl)
    (hline : (apos.endLine == cpos.line) = true := by rfl) (hs : starEach (e :: es) X.env = (false, eval e X.env) :: starEach es X.env := by rfl) (hplain : (backTo cpos (starEach es X.env)).any (·.1) = false := by rfl) :
    PE X (.Call (.Attribute o name apos) (e :: es) [] cpos) (tBM X.K T r to t) := by
  intro pins s σ H Q I h
  refine wpAny_Call_method_late hbase hfew hline rfl (thn (ho pins s σ H _ I h) fun v s1 ⟨x, H1, I1, r1, ty, q1⟩ => ?_)
  obtain ⟨h1, h2⟩ := tyV_is I1 r1 ty
  refine ⟨T, id, pa, slot, hty, h1, h2, ?_⟩
  have hA := ha cpos pins s1 σ H1 _ I1 q1
  rw [hs] at hA ⊢
  refine Calls.callWith_builtin (by show (false || (backTo cpos (starEach es X.env)).any (·.1)) = false; rw [hplain] <;> rfl) (Calls.evalArgs_plain ?_)
  exact thn hA fun us s2 ⟨vs, H2, I2, r2, q2⟩ => hm pins s2 σ H2 x vs v us Q I2 r1 r2 q2
end
end L2
namespace L2
open PySem PySem.Spec PyProof.Rows
def MtM (X : Cx) (id : String) (r : V → List V → Hp → VK → Prop) : Prop :=
  ∀ (pins : List (Addr × Obj)) (s : Shared) (σ : St) (H : Hp) (x : V) (xs : List V) (v : Value) (us : List Value) (Q : VK), Inv X pins σ H s → RelV x v → Vals xs us → r x xs H Q →
    wpAny (model X.prog X.w) X.A (call (.builtin id) (v :: us)) (EP X pins σ Q) X.xe s
theorem Vals.one : ∀ {x : V} {us : List Value}, Vals [x] us → ∃ u, us = [u] ∧ RelV x u
  | _, _, .cons r .nil => ⟨_, rfl, r⟩
theorem Vals.two : ∀ {x y : V} {us : List Value}, Vals [x, y] us → ∃ u v, us = [u, v] ∧ RelV x u ∧ RelV y v
  | _, _, _, .cons r (.cons q .nil) => ⟨_, _, rfl, r, q⟩
theorem Vals.eraseIdx : ∀ {xs : List V} {us : List Value} (i : Nat), Vals xs us → Vals (xs.eraseIdx i) (us.eraseIdx i)
  | _, _, _, .nil => .nil
  | _, _, 0, .cons _ t => t
  | _, _, i + 1, .cons r t => .cons r (Vals.eraseIdx i t)
theorem Vals.reverse {xs : List V} {us : List Value} (h : Vals xs us) : Vals xs.reverse us.reverse := by
  induction h with
  | nil => exact .nil
  | cons r t ih => rw [List.reverse_cons, List.reverse_cons]; exact Vals.append ih (.cons r .nil)
theorem Vals.rep {xs : List V} {us : List Value} (h : Vals xs us) : ∀ k : Nat, Vals (List.replicate k xs).flatten (List.replicate k us).flatten
  | 0 => .nil
  | k + 1 => by
    rw [List.replicate_succ, List.replicate_succ, List.flatten_cons, List.flatten_cons]
    exact Vals.append h (Vals.rep h k)
theorem len_erase {α : Type} : ∀ (l : List α) (i : Nat), (l.eraseIdx i).length ≤ l.length
  | [], _ => Nat.le_refl _
  | _ :: _, 0 => Nat.le_succ _
  | _ :: r, i + 1 => Nat.succ_le_succ (len_erase r i)
theorem foldl_rep (its : List Value) : ∀ (k : Nat) (acc : List Value),
    List.foldl (fun x1 x2 => x1 ++ x2) acc.toArray (List.replicate k its.toArray) = (acc ++ (List.replicate k its).flatten).toArray
  | 0, acc => by simp
  | k + 1, acc => by
    have e : acc.toArray ++ its.toArray = (acc ++ its).toArray := by simp
    have e2 : (acc ++ its) ++ (List.replicate k its).flatten = acc ++ (List.replicate (k + 1) its).flatten := by
      rw [List.replicate_succ, List.flatten_cons, List.append_assoc]
    rw [← e2, ← foldl_rep its k (acc ++ its), ← e, List.replicate_succ, List.foldl_cons]
section
variable {X : Cx} {pins : List (Addr × Obj)} {σ : St} {H : Hp} {s : Shared} {l b : Addr} {xs ys zs : List V}
theorem Inv.lset {its its' : List Value} {n : Nat} {f : Array Value → Array Value} {t' : Nat} (I : Inv X pins σ H s) (hH : H l = some (.lst xs))
    (e : s.heap.get? l = some { cls := .type "list", data := .seq its.toArray n }) (hf : f its.toArray = its'.toArray) (hv : Vals ys its') (hz : ys.length ≤ sizeLine) :
    Inv X pins σ (upd H l (.lst ys)) { s with heap := s.heap.update l (Obj.mapSeq f), toks := t' } := by
  have q := PySem.IsL.update e f
  rw [hf] at q
  refine I.write (x := l) (e := l) (by rw [hH]; exact trivial) (.inl rfl) (fun b' u hb hu => (Heap.get?_update_other s.heap (Obj.mapSeq f) (Ne.symm hb)).trans hu) ⟨_, q⟩ ?_
  exact ⟨hz, its', _, hv, q⟩
theorem Inv.lnew {its : List Value} {t' : Nat} (I : Inv X pins σ H s) (hv : Vals ys its) (hz : ys.length ≤ sizeLine) :
    Inv X pins σ (upd H s.heap.objs.size (.lst ys)) { s with heap := s.heap.push { cls := .type "list", data := .seq its.toArray }, toks := t' } :=
  I.laid (fun _ _ q => Heap.get?_push_of_some _ q) (Nat.le_refl _) ⟨hz, its, 0, hv, Heap.get?_push_size _ rfl⟩
theorem Inv.fresh (I : Inv X pins σ H s) : H s.heap.objs.size = none := I.hok.fresh (Nat.le_refl _)
theorem Inv.lstM (I : Inv X pins σ H s) (hH : H l = some (.lst xs)) : xs.length ≤ sizeLine ∧ ∃ (its : List Value) (n : Nat), Vals xs its ∧ xs.length = its.length ∧ s.heap.get? l = some { cls := .type "list", data := .seq its.toArray n } := by
  obtain ⟨z, its, n, r, e⟩ := I.hok l _ hH
  exact ⟨z, its, n, r, r.length, e⟩
theorem notLongL {n : Nat} (h : n ≤ sizeLine) : Builtin.List.listTooLong n = false := by
  unfold Builtin.List.listTooLong
  exact decide_eq_false (by omega)
end
section
variable {X : Cx}
def rAppend : V → List V → Hp → VK → Prop := fun x vs H Q => ∃ l xs y, x = .ref l ∧ vs = [y] ∧ H l = some (.lst xs) ∧ xs.length < sizeLine ∧ Q .non (upd H l (.lst (xs ++ [y])))
theorem mt_append : MtM X "list.append" rAppend := by
  intro pins s σ H x vs v us Q I rx rv h
  obtain ⟨l, xs, y, rfl, rfl, hH, hz, q⟩ := h
  cases rx
  obtain ⟨u, rfl, ru⟩ := rv.one
  obtain ⟨z, its, n, r, hl, e⟩ := I.lstM hH
  refine call_meets F.slot_list_append ⟨_, e, rfl⟩ F.entry_list_append (F.args_list_append_2 _ _) (PySem.list_append l its.toArray n u (by rw [List.size_toArray]; omega)) ⟨e, ?_⟩
  refine ⟨.non, _, I.lset (its' := its ++ [u]) hH e (by simp) (r.append (.cons ru .nil)) ?_, rfl, q⟩
  rw [List.length_append, List.length_singleton]
  omega
def rExtend : V → List V → Hp → VK → Prop := fun x vs H Q => ∃ l b xs zs, x = .ref l ∧ vs = [.ref b] ∧ H l = some (.lst xs) ∧ H b = some (.lst zs) ∧ xs.length + zs.length ≤ sizeLine ∧ Q .non (upd H l (.lst (xs ++ zs)))
theorem mt_extend : MtM X "list.extend" rExtend := by
  intro pins s σ H x vs v us Q I rx rv h
  obtain ⟨l, b, xs, zs, rfl, rfl, hH, hB, hz, q⟩ := h
  cases rx
  obtain ⟨u, rfl, ru⟩ := rv.one
  cases ru
  obtain ⟨z, its, n, r, hl, e⟩ := I.lstM hH
  obtain ⟨z2, its2, n2, r2, hl2, e2⟩ := I.lstM hB
  have hsz : its.toArray.size + its2.toArray.size ≤ sizeLine := by rw [List.size_toArray, List.size_toArray]; omega
  have hlong : ¬ (!its.toArray.isEmpty && Builtin.List.listTooLong (its.toArray.size + its2.toArray.size)) = true := by
    rw [notLongL hsz, Bool.and_false]
    exact Bool.false_ne_true
  refine call_meets F.slot_list_extend ⟨_, e, rfl⟩ F.entry_list_extend (F.args_list_extend_2 _ _)
    (AutoSeq1.list_extend_list_list_0 l its.toArray n b its2.toArray n2 hlong (by rw [List.size_toArray]; omega) (by omega)) ⟨e, e2, ?_⟩
  refine ⟨.non, _, I.lset (its' := its ++ its2) hH e (by simp) (r.append r2) ?_, rfl, q⟩
  rw [List.length_append]
  omega
def rPopAt : V → List V → Hp → VK → Prop := fun x vs H Q => ∃ l xs i k y, x = .ref l ∧ vs = [.int i] ∧ H l = some (.lst xs) ∧ -(2 ^ 63) ≤ i ∧ i < 2 ^ 63 ∧ seqIndex? i xs.length = some k ∧ xs[k]? = some y ∧ Q y (upd H l (.lst (xs.eraseIdx k)))
theorem mt_popAt : MtM X "list.pop" rPopAt := by
  intro pins s σ H x vs v us Q I rx rv h
  obtain ⟨l, xs, i, k, y, rfl, rfl, hH, h1, h2, hk, hy, q⟩ := h
  cases rx
  obtain ⟨u, rfl, ru⟩ := rv.one
  obtain ⟨t, rfl⟩ := ru
  obtain ⟨z, its, n, r, hl, e⟩ := I.lstM hH
  obtain ⟨w, hw, rw'⟩ := r.get hy
  refine call_meets F.slot_list_pop ⟨_, e, rfl⟩ F.entry_list_pop (F.args_list_pop_2 _ _)
    (MeetsSeq.list_pop_at l its.toArray n i t k w (fitsIndex_both h1 h2) (by rw [List.size_toArray, ← hl]; exact hk) (by rw [← Array.getElem?_toList]; exact hw) (by rw [List.size_toArray]; omega)) ⟨e, ?_⟩
  refine ⟨y, _, I.lset (its' := its.eraseIdx k) hH e ?_ (r.eraseIdx k) ?_, rw', q⟩
  · show its.toArray.eraseIdxIfInBounds k = (its.eraseIdx k).toArray
    rw [List.eraseIdxIfInBounds_toArray]
  · have := len_erase xs k
    omega
def rCat : R2 := fun x y H Q => ∃ l b xs zs, x = .ref l ∧ y = .ref b ∧ H l = some (.lst xs) ∧ H b = some (.lst zs) ∧ xs.length + zs.length ≤ sizeLine ∧ ∀ p, H p = none → Q (.ref p) (upd H p (.lst (xs ++ zs)))
theorem op_cat : OpR X (binaryOp .Add) rCat := by
  intro pins s σ H x y v u Q I rx ry h
  obtain ⟨l, b, xs, zs, rfl, rfl, hH, hB, hz, q⟩ := h
  cases rx
  cases ry
  obtain ⟨z, its, n, r, hl, e⟩ := I.lstM hH
  obtain ⟨z2, its2, n2, r2, hl2, e2⟩ := I.lstM hB
  refine PySem.P.add_list e e2 ?_ (by rw [List.size_toArray, List.size_toArray]; omega)
  have ea : its.toArray ++ its2.toArray = (its ++ its2).toArray := by simp
  rw [ea]
  exact ⟨.ref _, _, I.lnew (t' := s.toks) (r.append r2) (by rw [List.length_append]; omega), rfl, q _ I.fresh⟩
def rRep : R2 := fun x y H Q => ∃ l k xs, x = .ref l ∧ y = .int k ∧ H l = some (.lst xs) ∧ -(2 ^ 63) ≤ k ∧ k < 2 ^ 63 ∧ xs.length * k.toNat ≤ sizeLine ∧
  ∀ p, H p = none → Q (.ref p) (upd H p (.lst (List.replicate k.toNat xs).flatten))
theorem len_rep {α : Type} (xs : List α) (k : Nat) : (List.replicate k xs).flatten.length = k * xs.length := by
  induction k with
  | zero => simp
  | succ k ih => rw [List.replicate_succ, List.flatten_cons, List.length_append, ih, Nat.succ_mul, Nat.add_comm]
theorem op_rep : OpR X (binaryOp .Mult) rRep := by
  intro pins s σ H x y v u Q I rx ry h
  obtain ⟨l, k, xs, rfl, rfl, hH, h1, h2, hz, q⟩ := h
  cases rx
  obtain ⟨t, rfl⟩ := ry
  obtain ⟨z, its, n, r, hl, e⟩ := I.lstM hH
  have hlen : its.toArray.size * k.toNat ≤ sizeLine := by rw [List.size_toArray, ← hl]; exact hz
  have hcap : ¬ its.toArray.size * k.toNat > (2 ^ 63 - 1) / 8 := by
    have : (sizeLine : Nat) ≤ (2 ^ 63 - 1) / 8 := by decide
    omega
  have hfit : ¬ (!Builtin.List.listFitsIndex k) = true := by
    rw [fitsIndex_both h1 h2]
    exact Bool.false_ne_true
  have hlong : ¬ Builtin.List.listTooLong (its.toArray.size * k.toNat) = true := by
    rw [notLongL hlen]
    exact Bool.false_ne_true
  have hnew : List.foldl (fun x1 x2 => x1 ++ x2) #[] (List.replicate (if its.toArray.isEmpty = true then 0 else k.toNat) its.toArray) = (List.replicate k.toNat its).flatten.toArray := by
    have f0 : ∀ m : Nat, List.foldl (fun x1 x2 => x1 ++ x2) #[] (List.replicate m its.toArray) = (List.replicate m its).flatten.toArray := fun m => by
      have := foldl_rep its m []
      rw [List.nil_append] at this
      exact this
    rw [f0]
    cases its with
    | nil => simp
    | cons a r' => rw [if_neg (by simp)]
  refine wpAny_binaryOp_repeat_ref (T := "list") (U := "int") (by decide) ⟨_, e, rfl⟩ (fun s' => typeIs_int s' k t) noFill_list_mul F.fills_int_mul F.slot_int_rmul repeat_list F.slot_int_index.lookup
    (call_meets F.slot_int_rmul (typeIs_int s k t) F.entry_int_rmul (F.args_int_rmul_2 _ _) (int___rmul___int_list k t l its.toArray n)
      ⟨e, rfl, ⟨_, e, rfl⟩, call_meets F.slot_list_mul ⟨_, e, rfl⟩ F.entry_list_mul (F.args_list_mul_2 _ _) (AutoListH.list___mul___list_int_3 l its.toArray n k t hfit hcap hlong) ⟨e, ?_⟩⟩)
  rw [hnew]
  exact ⟨.ref _, _, I.lnew (t' := s.toks) (r.rep k.toNat) (by rw [len_rep, Nat.mul_comm]; exact hz), rfl, q _ I.fresh⟩
end
section
variable {prog : Program} {w : World} {A : Around} {E : Value → Shared → Prop} {s : Shared}
end
section
variable {X : Cx}
end
end L2
namespace Att
open PySem PySem.W PySem.Calls PyProof.Rows
theorem ints_of_wellAll {P : Params} {h : Heap} : ∀ (ns : List Int) (vs : List Value), WellAll P h vs (ns.map WData.int) → IntsAre vs ns := by
  intro ns
  induction ns with
  | nil =>
    intro vs w
    rw [List.map_nil] at w
    cases w
    exact .nil
  | cons n ns ih =>
    intro vs w
    rw [List.map_cons] at w
    cases w with
    | cons a b =>
      cases a
      exact .cons _ _ (ih _ b)
theorem script_of {l : OpenLaw} {n : Nat} (hn : l.most = some n) {P : Params} {h : Heap} {args : List WData} {vals : List Value}
    (hpre : l.row.toRowW.claim.pre args = true) (hwl : WellAll P h vals args) :
    ∃ a vs ns, vals = [Value.ref a] ∧ args = [WData.list (ns.map WData.int)] ∧ h.get? a = some { cls := .type "list", data := .seq vs.toArray } ∧ IntsAre vs ns ∧ ns.length ≤ n := by
  have hsh : WShape.hasAll [] args [.list .int] = true := (pre_splitW hpre).1
  have hc : l.pre.holds [] { args := args } = true := (pre_splitW hpre).2
  obtain ⟨d, r, rfl, h1, h2⟩ := hasAllW_cons hsh
  obtain rfl := hasAllW_nil h2
  obtain ⟨xs, rfl, h3⟩ := hasW_list h1
  obtain ⟨ns, rfl⟩ := items_int h3
  have hlen : ns.length ≤ n := by
    unfold OpenLaw.pre at hc
    have h4 : (WTm.not (.lt (.lit (.int (n : Int))) (.len (.arg 0)))).holds [] { args := [.list (ns.map .int)] } = true := by
      have h4 := (holds_andW hc).1
      rw [hn] at h4
      exact h4
    have h5 := condW_of h4 (w_not (w_lt w_lit (w_len_list (w_arg rfl))))
    rw [List.length_map] at h5
    refine Nat.le_of_not_lt fun q => ?_
    have q' : (n : Int) < ((ns.length : Nat) : Int) := by omega
    first
      | (rw [decide_eq_true q'] at h5; exact absurd h5 (by decide))
      | (simp at h5; omega)
  cases hwl with
  | cons w1 w2 =>
    cases w2
    cases w1 with
    | list ho hall => exact ⟨_, _, ns, rfl, rfl, ho, ints_of_wellAll ns _ hall, hlen⟩
theorem post_true (l : OpenLaw) (args : List WData) : l.row.toRowW.claim.post args (.bool true) args = true :=
  postW_of (r := l.row.toRowW) (X := (true == true))
    (show WShape.has [] (.bool true) .bool = true by first | rfl | decide | simp [WShape.has, WShape.arms, WShape.armsAll])
    (show (WTm.eq .res (.lit (.bool true))).value [] { args := args, res := some (.bool true), after := args } = some (.bool (true == true)) from w_eq_bool (w_res rfl) w_lit) rfl
theorem attach_call {l : OpenLaw} {n : Nat} {q : Program} {loose : List Str} {XP : (Str → Option Value) → Heap → Prop} {YP : World → Heap → Prop} {d : DefRec}
    (hn : l.most = some n) (hdf : d.params.defaults = [])
    (call : ∀ (w : World) (s₀ s₁ : Shared) (mg mb : Str → Option Value) (fa : Addr) (o : Obj) (pm cd doc : Value) (a : Addr) (vs : List Value) (ns : List Int),
      Ground q loose [] XP w s₀ mg mb s₁.heap → YP w s₁.heap →
      s₁.heap.get? fa = some o → o.data = .func (docDef d.name d.params d.body d.scope pm cd doc) → s₁.heap.CodeRec cd d.name → mg d.name = some (.ref fa) →
      s₁.heap.get? a = some { cls := .type "list", data := .seq vs.toArray } → IntsAre vs ns → ns.length ≤ n → s₁.gens = #[] →
      codeAny (model l.prog w) callerA (.call (.ref fa) ⟨[.ref a], []⟩) (fun r s' => r = .ok (.ret (.bool true)) ∧ OldK s₁.heap s'.heap ∧ s'.os = s₁.os ∧ AllBare s'.gens) s₁) :
    WalkO q loose XP YP l.row.toRowW d [] (fun f vs => PySem.call f vs) := by
  intro w s₀ s₁ mg mb G Y fa o pm cd doc dV kV ho hd hcd hD hmg hg args vals as hpre hlay hrd hwl hlo
  obtain rfl : dV = .none := Dflts.none hD hdf
  obtain rfl : kV = .none := Dflts.noKw hD
  obtain ⟨a, vs, ns, rfl, rfl, hobj, hints, hlen⟩ := script_of hn hpre hwl
  refine enter_call (codeAny_mono (call w s₀ s₁ mg mb fa o pm cd doc a vs ns G Y ho (fd_plain hd) hcd hmg hobj hints hlen hg) fun r s' hq => ?_)
  obtain ⟨rfl, h2, h3, h4⟩ := hq
  exact ⟨.inl ⟨.bool true, .bool true, [], rfl, fun _ => rfl, .bool true, post_true l _, fun _ => ⟨List.Pairwise.nil, fun _ hm => (nomatch hm)⟩⟩, h2, h3, h4⟩
section
variable {prog : Program} {w : World} {A : Around} {E : Value → Shared → Prop} {s : Shared} {K : Frag}
end
end Att
namespace L2
open PySem PySem.Spec PyProof.Rows
theorem vals_ints : ∀ {vs : List Value} {ns : List Int}, IntsAre vs ns → Vals (ns.map V.int) vs
  | _, _, .nil => .nil
  | _, _, .cons n t h => .cons ⟨t, rfl⟩ (vals_ints h)
end L2
namespace L2
open PySem PySem.Spec PyProof.Rows
end L2
namespace L2
open PySem PySem.Spec PyProof.Rows
def inClass (s : Stmt) (j : Nat) : Stmt := match s with
  | .ClassDef _ _ _ body _ _ _ _ _ _ _ => body.getD j (.Pass ⟨0, 0, 0, 0⟩)
  | _ => .Pass ⟨0, 0, 0, 0⟩
def defArgs (s : Stmt) : Arguments := match s with
  | .FunctionDef _ a _ _ _ _ _ _ _ _ => a
  | _ => { posonlyargs := [], args := [], vararg := none, kwonlyargs := [], kw_defaults := [], kwarg := none, defaults := [] }
def defBody (s : Stmt) : List Stmt := match s with
  | .FunctionDef _ _ b _ _ _ _ _ _ _ => b
  | _ => []
def defScope (s : Stmt) : Scope := match s with
  | .FunctionDef _ _ _ _ _ _ sc _ _ _ => sc
  | _ => { kind := .function, names := [], isGenerator := false, isCoroutine := false }
abbrev CX0 : CXT := fun _ _ _ _ _ _ => False
abbrev E0 : XK := fun _ _ _ => False
theorem pass0 {X : Cx} : Passes CX0 X E0 := fun _ _ _ _ _ _ _ h => h.elim
structure Fun (K : PySem.W.Frag) (x qual : Str) (st : Stmt) (f : Addr) (fd : FuncData) : Prop where
  ex : ∃ (oc : Value) (od : Option Addr) (kV doc pm : Value) (an : Option Addr) (cdv ct : Value) (osl : Array (Option Value)),
    fd = PySem.W.fnOf x qual (defArgs st) (defBody st) (defScope st) .none kV doc pm an cdv ct ∧ K.lookup f = some ⟨oc, od, .func fd, osl⟩ ∧ PySem.W.codeIn K cdv qual = true
  kp : PySem.W.keepIn K (.ref f) = true
section
variable {P : Program} {w : World} {K : PySem.W.Frag} {mg : Str → Option Value} {base : Heap}
theorem Fun.ok {x qual : Str} {st : Stmt} {f : Addr} {fd : FuncData} {N ps : List Str} {k : Nat} {sp : Sp} (F : Fun K x qual st f fd) (S : FnScope N ps (defScope st)) (len : ∀ vs H Q E, sp vs H Q E → vs.length = ps.length)
    (hbody : ∀ (cdv : Value) (A : Around) (outer : List Env) (s : Shared) (H : Hp) (vs : List V) (Q : VK) (E : XK), Room k (A.deeper (envOfC qual (defScope st) s.heap.objs.size f cdv)) → sp vs H Q E →
      ∃ t, PSs (cxOf CX0 P w K mg base N qual (defScope st) f cdv A outer s H E).nox (defBody st) t ∧ t { nx := fun _ H' => Q .non H', rt := Q } (start N vs) H) : FnOk P w K mg base CX0 (k + 1) f fd ps sp := by
  obtain ⟨oc, od, kV, doc, pm, an, cdv, ct, osl, rfl, lk, hcd⟩ := F.ex
  refine fn_of lk hcd S len fun A outer s H vs Q E hr hsp => ?_
  obtain ⟨t, h, q⟩ := hbody cdv A outer s H vs Q E hr hsp
  exact ⟨t, h.nox, q⟩
theorem Fun.binds {x qual : Str} {st : Stmt} {f : Addr} {fd : FuncData} {ps : List Str} (F : Fun K x qual st f fd)
    (h : ∀ (kV doc pm : Value) (an : Option Addr) (cdv ct : Value) (us : List Value), us.length = ps.length → bindArgs (PySem.W.fnOf x qual (defArgs st) (defBody st) (defScope st) .none kV doc pm an cdv ct) ⟨us, []⟩ = pure (ps.zip us)) : Binds K fd ps [] := by
  obtain ⟨oc, od, kV, doc, pm, an, cdv, ct, osl, rfl, lk, hcd⟩ := F.ex
  exact .all (h kV doc pm an cdv ct)
theorem fun_mk {x qual : Str} {st : Stmt} {f : Addr} {oc : Value} {od an : Option Addr} {osl : Array (Option Value)} {kV doc pm cdv ct : Value} (l : K.lookup f = some ⟨oc, od, .func (PySem.W.fnOf x qual (defArgs st) (defBody st) (defScope st) .none kV doc pm an cdv ct), osl⟩)
    (c : PySem.W.codeIn K cdv qual = true) (k : PySem.W.keepIn K (.ref f) = true) : Fun K x qual st f (PySem.W.fnOf x qual (defArgs st) (defBody st) (defScope st) .none kV doc pm an cdv ct) := ⟨⟨oc, od, kV, doc, pm, an, cdv, ct, osl, rfl, l, c⟩, k⟩
end
theorem hu_of {A : Around} {k : Nat} (hr : Room k A) : A.units + 1 < cLine := Nat.lt_of_le_of_lt (Nat.add_le_add_left (by decide : 1 ≤ 64) _) hr.units
section
variable {X : Cx}
theorem pv (i : Nat) {x : Str} {pos : Pos} (hN : X.N[i]? = some x := by rfl) (hv : Vis X.env.scope x := by first | exact Or.inl rfl | exact Or.inr (Or.inl rfl) | exact Or.inr (Or.inr rfl)) (hd : (x == ("__debug__" : Str)) = false := by decide)
    (hcd : (x == ("__classdict__" : Str)) = false := by decide) : PE X (.Name x pos) (tVar i) := pe_var hN hv hd hcd
end
theorem iteF {A B : Prop} (h : B) : if false = true then A else B := by
  rw [if_neg Bool.false_ne_true]
  exact h
theorem iteT {A B : Prop} (h : A) : if true = true then A else B := by
  rw [if_pos rfl]
  exact h
theorem ite2 {c A B : Prop} [Decidable c] (h1 : c → A) (h2 : ¬ c → B) : if c then A else B := by
  by_cases h : c
  · rw [if_pos h]
    exact h1 h
  · rw [if_neg h]
    exact h2 h
def Same (H H' : Hp) : Prop := ∀ b o, H b = some o → H' b = some o
theorem Same.refl (H : Hp) : Same H H := fun _ _ h => h
theorem Same.trans {H H1 H2 : Hp} (a : Same H H1) (b : Same H1 H2) : Same H H2 := fun c o h => b c o (a c o h)
theorem Same.free {H H' : Hp} (e : Same H H') {l : Addr} (h : H' l = Option.none) : H l = Option.none := by
  cases q : H l with
  | none => rfl
  | some o =>
    rw [e l o q] at h
    cases h
end L2

set_option Elab.async false
set_option linter.all false
set_option maxRecDepth 100000
namespace L2
open PySem PySem.Spec PyProof.Rows
def ClAt (H : Hp) (a : Addr) : HO → Prop
  | .ins _ dx _ => H dx = some (.own a)
  | .frz _ u => ClAt H a u
  | _ => True
def Cl (H : Hp) : Prop := ∀ a o, H a = some o → ClAt H a o
def Imm : HO → Prop
  | .tup _ => True
  | .frz _ _ => True
  | _ => False
structure Gc (H₀ H H' : Hp) : Prop where
  sub : ∀ b o, H' b = some o → H b = some o
  cl : Cl H'
  imm : ∀ b o, Imm o → H₀ b = some o → H b = some o → H' b = some o
section
variable {P : Program} {w : World} {H H' H₀ : Hp} {h : Heap} {a l : Addr} {o : HO} {xs : List V}
theorem ObjOk.clAt (x : ObjOk P w H h a o) : ClAt H a o := by
  induction o with
  | ins C dx fs => exact x.1
  | frz ob u ih => exact ih x.2
  | _ => trivial
theorem HOk.cl (x : HOk P w H h) : Cl H := fun a o e => (x a o e).clAt
theorem ObjOk.less (x : ObjOk P w H h a o) (c : ClAt H' a o) : ObjOk P w H' h a o := by
  induction o with
  | ins C dx fs => exact ⟨c, x.2⟩
  | frz ob u ih => exact ⟨x.1, ih x.2 c⟩
  | _ => exact x
theorem HOk.less (x : HOk P w H h) (sub : ∀ b o, H' b = some o → H b = some o) (cl : Cl H') : HOk P w H' h := fun a o e => (x a o (sub a o e)).less (cl a o e)
theorem ClAt.upd (c : ClAt H a o) (n : H l = none) : ∀ u, ClAt (upd H l u) a o := by
  intro u
  induction o with
  | ins C dx fs =>
    have c' : H dx = some (.own a) := c
    show L2.upd H l u dx = _
    rw [upd_ne (ne_of_none c' n)]
    exact c'
  | frz ob v ih => exact ih c
  | _ => trivial
theorem Cl.upd {u : HO} (c : Cl H) (n : H l = none) (hu : ClAt (upd H l u) l u) : Cl (upd H l u) := fun a o e => by
  by_cases ha : a = l
  · subst ha
    rw [upd_same] at e
    cases e
    exact hu
  · rw [upd_ne ha] at e
    exact (c a o e).upd n u
theorem free_of_sub (sub : ∀ b o, H' b = some o → H b = some o) {b : Addr} (n : H b = none) : H' b = none := by
  cases q : H' b with
  | none => rfl
  | some u => rw [sub b u q] at n; cases n
theorem Gc.back (c : Cl H₀) (e : Same H₀ H) : Gc H₀ H H₀ := ⟨e, c, fun _ _ _ h _ => h⟩
theorem Gc.one {u : HO} (c : Cl H₀) (e : Same H₀ H) (n : H₀ l = none) (h : H l = some u) (hu : ClAt (upd H₀ l u) l u) : Gc H₀ H (upd H₀ l u) := by
  refine ⟨fun b o q => ?_, c.upd n hu, fun b o _ h0 _ => ?_⟩
  · by_cases hb : b = l
    · subst hb; rw [upd_same] at q; cases q; exact h
    · rw [upd_ne hb] at q; exact e b o q
  · rw [upd_ne (ne_of_none h0 n)]; exact h0
theorem Gc.refl (c : Cl H) : Gc H₀ H H := ⟨fun _ _ h => h, c, fun _ _ _ _ h => h⟩
end
section
variable {X : Cx} {pins : List (Addr × Obj)} {σ : St} {H H' : Hp} {s : Shared}
end
end L2

set_option Elab.async false
set_option linter.all false
set_option maxRecDepth 100000
namespace L2
open PySem PySem.Spec PyProof.Rows
def freesOf (names : List (Str × NameKind)) (cells : List (Str × Addr)) (acc : List (Str × Addr)) : List (Str × Addr) :=
  match names with
  | [] => acc
  | (n, k) :: r => freesOf r cells (if k == .free then (n, (cells.lookup n).getD 0) :: acc else acc)
theorem clos_go {env : Env} : ∀ (names : List (Str × NameKind)) (acc : List (Str × Addr)), names.all (fun y => y.2 != .free || (env.cells.lookup y.1).isSome) = true →
    (forIn names acc fun (x : Str × NameKind) cs => (do
      if x.2 == .free then do
        let c ← cellOf env x.1
        pure (ForInStep.yield ((x.1, c) :: cs))
      else pure (ForInStep.yield cs) : Sem (ForInStep (List (Str × Addr))))) = pure (freesOf names env.cells acc)
  | [], acc, _ => rfl
  | (n, k) :: r, acc, h => by
    have h1 : (k != .free || (env.cells.lookup n).isSome) = true := by
      have := List.all_eq_true.mp h (n, k) List.mem_cons_self
      exact this
    have h2 : r.all (fun y => y.2 != .free || (env.cells.lookup y.1).isSome) = true := List.all_eq_true.mpr fun y hy => List.all_eq_true.mp h y (List.mem_cons_of_mem _ hy)
    rw [List.forIn_cons]
    by_cases hk : k = .free
    · subst hk
      obtain ⟨c, hc⟩ := Option.isSome_iff_exists.mp (show (env.cells.lookup n).isSome = true from h1)
      have e : cellOf env n = pure c := by unfold cellOf; rw [hc]
      simp only [beq_self_eq_true, if_true, e, pure_bind]
      rw [clos_go r _ h2]
      simp only [freesOf, beq_self_eq_true, if_true, hc, Option.getD_some]
    · have hb : (k == NameKind.free) = false := by simpa using hk
      simp only [hb, Bool.false_eq_true, if_false, pure_bind]
      rw [clos_go r _ h2]
      simp only [freesOf, hb, Bool.false_eq_true, if_false]
theorem clos_eq {env : Env} {scope : Scope} (h : scope.names.all (fun y => y.2 != .free || (env.cells.lookup y.1).isSome) = true) : closureFor scope env = pure (freesOf scope.names env.cells []) := by
  unfold closureFor
  have := clos_go (env := env) scope.names [] h
  first
    | exact this
    | (simp only [bind_pure]; exact this)
    | (rw [this]; rfl)
theorem frees_sub {cells : List (Str × Addr)} : ∀ (names : List (Str × NameKind)) (acc : List (Str × Addr)), names.all (fun y => y.2 != .free || (cells.lookup y.1).isSome) = true → (∀ y c, acc.lookup y = some c → cells.lookup y = some c) →
    ∀ y c, (freesOf names cells acc).lookup y = some c → cells.lookup y = some c
  | [], acc, _, ha => ha
  | (n, k) :: r, acc, h, ha => by
    have h1 : (k != .free || (cells.lookup n).isSome) = true := List.all_eq_true.mp h (n, k) List.mem_cons_self
    have h2 : r.all (fun y => y.2 != .free || (cells.lookup y.1).isSome) = true := List.all_eq_true.mpr fun y hy => List.all_eq_true.mp h y (List.mem_cons_of_mem _ hy)
    unfold freesOf
    refine frees_sub r _ h2 ?_
    by_cases hk : k = .free
    · subst hk
      obtain ⟨c, hc⟩ := Option.isSome_iff_exists.mp (show (cells.lookup n).isSome = true from h1)
      rw [if_pos (by rfl)]
      intro y d hd
      rw [List.lookup_cons] at hd
      cases hyn : y == n with
      | true =>
        rw [hyn] at hd
        have : y = n := by simpa using hyn
        subst this
        rw [hc] at hd ⊢
        simpa using hd
      | false => rw [hyn] at hd; exact ha y d hd
    · rw [if_neg (by simpa using hk)]
      exact ha
theorem frees_has {cells : List (Str × Addr)} : ∀ (names : List (Str × NameKind)) (acc : List (Str × Addr)) (y : Str), ((y, NameKind.free) ∈ names ∨ ∃ c, acc.lookup y = some c) → ∃ c, (freesOf names cells acc).lookup y = some c
  | [], acc, y, h => by
    rcases h with h | h
    · simp at h
    · exact h
  | (n, k) :: r, acc, y, h => by
    unfold freesOf
    refine frees_has r _ y ?_
    rcases h with h | ⟨c, h⟩
    · rcases List.mem_cons.mp h with e | h
      · cases e
        refine .inr ⟨(cells.lookup n).getD 0, ?_⟩
        rw [if_pos (by rfl), List.lookup_cons, beq_self_eq_true]
      · exact .inl h
    · refine .inr ?_
      split
      · rw [List.lookup_cons]
        cases y == n with
        | true => exact ⟨_, rfl⟩
        | false => exact ⟨c, h⟩
      · exact ⟨c, h⟩
theorem lookup_relabel_free {env : Env} : ∀ {names : List (Str × NameKind)} {x : Str}, names.lookup x = some .free →
    (names.map fun (n, k) => if (k == NameKind.free && env.scope.kind == .function && env.kindOf n == some .cell) then (n, NameKind.cell) else (n, k)).lookup x = some .cell ∨
    (names.map fun (n, k) => if (k == NameKind.free && env.scope.kind == .function && env.kindOf n == some .cell) then (n, NameKind.cell) else (n, k)).lookup x = some .free
  | [], _, h => by simp at h
  | (n, k) :: r, x, h => by
    have ih := @lookup_relabel_free env r x
    simp only [List.map_cons]
    cases hx : x == n with
    | true =>
      simp only [List.lookup_cons, hx] at h
      cases h
      split <;> simp [List.lookup_cons, hx]
    | false =>
      simp only [List.lookup_cons, hx] at h
      split
      · simp only [List.lookup_cons, hx]; exact ih h
      · simp only [List.lookup_cons, hx]; exact ih h
theorem relabel_of_cell {env : Env} : ∀ {names : List (Str × NameKind)} {x : Str}, (∀ y ∈ names, y.2 ≠ .cell) →
    ((names.map fun (n, k) => if (k == NameKind.free && env.scope.kind == .function && env.kindOf n == some .cell) then (n, NameKind.cell) else (n, k)).lookup x = some .cell ∨
    (names.map fun (n, k) => if (k == NameKind.free && env.scope.kind == .function && env.kindOf n == some .cell) then (n, NameKind.cell) else (n, k)).lookup x = some .free) → (x, NameKind.free) ∈ names
  | [], _, _, h => by simp at h
  | (n, k) :: r, x, hc, h => by
    have ih := @relabel_of_cell env r x fun y hy => hc y (List.mem_cons_of_mem _ hy)
    have hk := hc (n, k) List.mem_cons_self
    simp only [List.map_cons] at h
    cases hx : x == n with
    | true =>
      have e : x = n := by simpa using hx
      subst e
      by_cases c : (k == NameKind.free && env.scope.kind == .function && env.kindOf x == some .cell) = true
      · have : k = .free := by
          simp only [Bool.and_eq_true] at c
          simpa using c.1.1
        subst this
        exact List.mem_cons_self
      · rw [if_neg c] at h
        simp only [List.lookup_cons, hx] at h
        rcases h with h | h
        · cases h; exact absurd rfl hk
        · cases h; exact List.mem_cons_self
    | false =>
      refine List.mem_cons_of_mem _ (ih ?_)
      split at h
      · simp only [List.lookup_cons, hx] at h; exact h
      · simp only [List.lookup_cons, hx] at h; exact h
def lcNames (N : List Str) (sc scope : Scope) : List Nat → List Str → Bool
  | [], [] => true
  | j :: js, y :: ys => (N[j]? == some y) && (sc.names.lookup y == some .cell) && (scope.names.lookup y == some .free) && lcNames N sc scope js ys
  | _, _ => false
theorem lcNames.at {N : List Str} {sc scope : Scope} : ∀ {js : List Nat} {ys : List Str} {k : Nat} {y : Str}, lcNames N sc scope js ys = true → ys[k]? = some y →
    ∃ j, js[k]? = some j ∧ N[j]? = some y ∧ sc.names.lookup y = some .cell ∧ scope.names.lookup y = some .free
  | [], [], k, y, _, e => by simp at e
  | j :: js, y' :: ys, 0, y, h, e => by
    simp only [lcNames, Bool.and_eq_true, beq_iff_eq] at h
    simp at e; subst e
    exact ⟨j, rfl, h.1.1.1, h.1.1.2, h.1.2⟩
  | j :: js, y' :: ys, k + 1, y, h, e => by
    simp only [lcNames, Bool.and_eq_true] at h
    obtain ⟨i, h1, h2⟩ := lcNames.at (k := k) h.2 (by simpa using e)
    exact ⟨i, by simpa using h1, h2⟩
  | [], y' :: ys, k, y, h, e => by simp [lcNames] at h
  | j :: js, [], k, y, h, e => by simp at e
theorem lcNames.len {N : List Str} {sc scope : Scope} : ∀ {js : List Nat} {ys : List Str}, lcNames N sc scope js ys = true → js.length = ys.length
  | [], [], _ => rfl
  | j :: js, y :: ys, h => by
    simp only [lcNames, Bool.and_eq_true] at h
    simp [lcNames.len h.2]
  | [], y' :: ys, h => by simp [lcNames] at h
  | j :: js, [], h => by simp [lcNames] at h
def lcCx (X : Cx) (scope : Scope) (N : List Str) (C : Addr) (s₂ : Shared) (H₁ : Hp) (fp : List Addr) : Cx where
  prog := X.prog
  w := X.w
  K := X.K
  mg := X.mg
  base := X.base
  A := X.A
  N := N
  s₀ := s₂
  H₀ := H₁
  env := compEnvC scope (freesOf scope.names X.env.cells []) C X.env
  outer := X.stack
  stack := X.stack
  ex := fp
  fn := fun _ => false
  calm := X.calm
  pn := []
  xe := fun _ _ => False
def tLC (wi : TI) (js : List Nat) (te : TE) : TE := fun σ H Q => wi σ H fun J H1 => ∃ W : Nat → Nat → List V → Hp → Prop, (∃ m, W 0 m [] H1) ∧ ∀ i m acc H, W i m acc H →
  (J.stop i H ∧ ∀ D, H D = none → Q (.ref D) (upd H D (.lst acc))) ∨
  (J.go i H ∧ acc.length < sizeLine ∧ ∀ x H', J.yld i H x H' → te (some x :: js.map fun j => σ.getD j none) H' fun y H'' => ∃ m', m' < m ∧ W (i + 1) m' (acc ++ [y]) H'')
section
variable {prog : Program} {w : World} {A : Around} {R : Result → Shared → Prop} {s : Shared}
theorem compLoop_any {elt target iter : Expr} {scope : Scope} {pos : Pos} {it acc : Value} {env : Env} (I : Nat → Shared → Prop)
    (turn : ∀ n s, I n s → wpAny (model prog w) A (pyNext it) (fun r s₁ => match r with
      | none => R (.ok .next) s₁
      | some v => wpAny (model prog w) A (letOwnedTupleGo target it v) (fun _ s₁' => wpAny (model prog w) A (assign target env v) (fun _ s₂ => wpAny (model prog w) A (eval elt env) (fun x s₃ =>
          wpAny (model prog w) A (call (.builtin "list.append") [acc, x]) (fun _ s₄ => ∃ m, m < n ∧ I m s₄) (fun _ _ => False) s₃)
          (fun _ _ => False) s₂) (fun _ _ => False) s₁') (fun _ _ => False) s₁) (fun _ _ => False) s)
    (n : Nat) (h : I n s) :
    codeAny (model prog w) A (.compLoop (.ListComp elt [⟨target, iter, [], 0⟩] scope pos) 0 it acc env) R s := by
  refine codeAny_loop rfl I (fun n s hI => ?_) n h
  show wpAny _ _ ((compTurn (.ListComp elt [⟨target, iter, [], 0⟩] scope pos) 0 it acc env).onRaise (fun x => do noteFrame x env; theTreesLotGoes x)) _ _ s
  refine wpAny_noted ?_
  rw [compTurn_list1]
  refine wpAny_bind (wpAny_standAt (wpAny_bind (wpAny_mono (turn n s hI) (fun r s₁ h₁ => ?_) fun _ _ h' => h'.elim)))
  cases r with
  | none => exact wpAny_pure h₁
  | some v =>
    refine wpAny_bind (wpAny_mono h₁ (fun _ s₁' h₁' => ?_) fun _ _ h' => h'.elim)
    exact wpAny_bind (wpAny_mono h₁' (fun _ s₂ h₂ => wpAny_bind (wpAny_bind (wpAny_mono h₂ (fun x s₃ h₃ => wpAny_bind (wpAny_mono h₃
      (fun _ s₄ h₄ => wpAny_pure (wpAny_pure ⟨rfl, h₄⟩)) fun _ _ h' => h'.elim)) fun _ _ h' => h'.elim))) fun _ _ h' => h'.elim)
end
section
variable {X : Cx}
structure LcEnd (X : Cx) (pins : List (Addr × Obj)) (σ : St) (Q : VK) (D C : Addr) (s4 : Shared) : Prop where
  run : ∃ (H4 : Hp) (acc : List V) (oC : Obj), Inv X pins σ (upd H4 D (.lst acc)) s4 ∧ Q (.ref D) (upd H4 D (.lst acc)) ∧ upd H4 D (.lst acc) C = none ∧ s4.heap.get? C = some oC ∧ ∀ v, oC.data ≠ .cell v
  ns : ∃ m, s4.heap.Ns C m
  loc : C ≠ X.env.locals
  fs : C ∉ X.fs
  new : X.s₀.heap.objs.size ≤ C
  cell : ∀ x c, X.env.cells.lookup x = some c → c ≠ C
  pin : ∀ p ∈ X.pn ++ pins, p.1 ≠ C
theorem lc_core {elt iter : Expr} {x : Str} {px pos : Pos} {scope : Scope} {ys : List Str} {js : List Nat} {wi : TI} {te : TE} (use : Option (Value → Sem Unit)) {pins : List (Addr × Obj)} {s : Shared} {σ : St} {H : Hp} {Q : VK} {Qv : Value → Shared → Prop}
    (hc : X.calm = true) (hi : PI X (.Name x px) iter wi)
    (hkind : scope.kind = .function) (hcell : ∀ y ∈ scope.names, y.2 ≠ .cell) (hloc : ∀ y ∈ scope.names, y.2 = .local → scope.names.lookup y.1 = some .local) (hx : scope.names.lookup x = some .local)
    (hfree : scope.names.all (fun y => y.2 != .free || (X.env.cells.lookup y.1).isSome) = true) (hys : lcNames X.N X.env.scope scope js ys = true) (hnd : (x :: ys).Nodup)
    (he : ∀ (C : Addr) (s₂ : Shared) (H₁ : Hp) (fp : List Addr), PE (lcCx X scope (x :: ys) C s₂ H₁ fp) elt te)
    (hs : ∀ v, foldedSetIterable iter X.env v = pure v) (I : Inv X pins σ H s) (h : tLC wi js te σ H Q)
    (hfin : ∀ D C s4, LcEnd X pins σ Q D C s4 → compPost (model X.prog X.w) X.A X.xe use Qv (.ref D) C (.ok .next) s4) :
    wpAny (model X.prog X.w) X.A (comprehension (.ListComp elt [⟨.Name x px, iter, [], 0⟩] scope pos) scope X.env (firstIterPos [⟨.Name x px, iter, [], 0⟩] pos) (newList []) (firstAsync [⟨.Name x px, iter, [], 0⟩]) (firstIter [⟨.Name x px, iter, [], 0⟩] X.env) use) Qv X.xe s := by
  refine wpAny_comprehension_free (use := use) rfl hs (clos_eq hfree) hkind hloc ?_
  refine thn (hi pins s σ H _ I h) fun v s1 h1 => thn h1 fun itv s2 h2 => ?_
  obtain ⟨it, fp, tn, J, H1, e, I2, T, st2, f2, W, ⟨m0, w0⟩, turn⟩ := h2
  subst e
  refine wpAny_newObj_type (wpAny_newFunctionEnv hcell (by intro y hy; simp at hy) (fun h₁ hns₁ hsb₁ => ?_) hkind)
  dsimp only at hns₁ hsb₁ ⊢
  generalize hD : s2.heap.objs.size = D at hns₁ hsb₁ ⊢
  generalize hH2 : s2.heap.push { cls := .type "list", dict := none, data := .seq ([] : List Value).toArray } = H2 at hns₁ hsb₁ ⊢
  generalize hCC : H2.objs.size = C at hns₁ hsb₁ ⊢
  have hC : C = D + 1 := by rw [← hCC, ← hH2, Heap.size_push, hD]
  have hDlt : D < C := by rw [hC]; exact Nat.lt_succ_self _
  have hDC : D ≠ C := Nat.ne_of_lt hDlt
  have below : ∀ b o, s2.heap.get? b = some o → b < D := fun b o q => by rw [← hD]; exact Heap.lt_size q
  have old : ∀ b o, s2.heap.get? b = some o → h₁.get? b = some o := fun b o q => hsb₁.extBut b o (Nat.ne_of_lt (Nat.lt_trans (below b o q) hDlt)) (Heap.get?_push_of_some _ (hH2 ▸ Heap.get?_push_of_some _ q))
  have hDobj : h₁.get? D = some { cls := .type "list", data := .seq ([] : List Value).toArray } := by
    refine hsb₁.extBut _ _ hDC (Heap.get?_push_of_some _ ?_)
    rw [← hH2, ← hD]
    exact Heap.get?_push_size _ rfl
  have fpD : ∀ b ∈ fp, b < D := fun b hb => by
    obtain ⟨o, q, _⟩ := T.obj 0 _ st2 b hb
    exact below b o q
  have hsub := frees_sub (cells := X.env.cells) scope.names [] hfree (by intro y c z; simp at z)
  have cellLt : ∀ y c, X.env.cells.lookup y = some c → c < D := fun y c q => by
    obtain ⟨v, o, ho, _⟩ := I2.cell y c q
    exact below c o ho
  generalize hY : lcCx X scope (x :: ys) C s2 H1 fp = Y
  have yok : Y.Ok := by
    subst hY
    refine ⟨I2.ok.mod, by simp [lcCx, compEnvC, relabel, hkind], I2.ok.glob, I2.ok.blt, ?_, fun a b c q1 q2 => I2.ok.inj a b c (hsub _ _ q1) (hsub _ _ q2), fun y hy => ?_, fun _ _ q => (Bool.false_ne_true q).elim, I2.ok.hd, I2.ok.frames, .inl rfl, fun b hb => ⟨?_, fun y c q => ?_⟩,
      I2.bs, Nat.le_trans I2.ok.bsz I2.sz, fun b o q hb => ?_, fun b hb hz => ?_, I2.stack, I2.stkFree⟩
    · show s2.heap.objs.size ≤ C
      omega
    · exact frees_has scope.names [] y (.inl (relabel_of_cell hcell hy))
    · exact Nat.ne_of_lt (Nat.lt_trans (fpD b hb) hDlt)
    · exact (f2 b hb).2.2.2.2.1 y c (hsub _ _ q)
    · rcases (f2 b hb).2.2.2.1 with z | z
      · exact I2.ok.noex b o q z
      · exact absurd (Nat.lt_of_lt_of_le (Heap.lt_size q) (Nat.le_trans I2.ok.bsz z)) (Nat.lt_irrefl _)
    · rcases List.mem_cons.mp (I2.stkSub b hz) with z | z
      · exact (f2 b hb).2.1 z
      · exact (f2 b hb).2.2.1 z
  have hnoneD : ∀ {b : Addr}, D ≤ b → H1 b = none := fun {b} hb => I2.hok.fresh (by rw [hD]; exact hb)
  have tlLen := lcNames.len hys
  generalize htl : (js.map fun j => σ.getD j none) = tl
  have start : Inv Y [(D, { cls := .type "list", data := .seq ([] : List Value).toArray })] (none :: tl) H1 { s2 with heap := h₁, toks := s2.toks + ([] : List (Str × Value)).length } := by
    subst hY
    refine ⟨yok, rfl, I2.bare, Un.kept old, ⟨_, hns₁, fun i y v q1 q2 q3 => ?_⟩, fun y c q => ?_, hnoneD (by show D ≤ C; omega), fun y c q => I2.freeC y c (hsub _ _ q), fun p hp => ?_, I2.hok.kept old, ?_⟩
    · cases i with
      | zero => simp at q2
      | succ k =>
        have q1' : ys[k]? = some y := by simpa [lcCx] using q1
        have q2' : tl[k]? = some (some v) := by simpa using q2
        obtain ⟨j, j1, j2, j3, j4⟩ := lcNames.at hys q1'
        have hv : σ[j]? = some (some v) := by
          rw [← htl, List.getElem?_map, j1] at q2'
          simp only [Option.map_some, Option.some.injEq] at q2'
          rw [List.getD_eq_getElem?_getD] at q2'
          cases e : σ[j]? with
          | none => rw [e] at q2'; simp at q2'
          | some z => rw [e] at q2'; simp at q2'; rw [q2']
        obtain ⟨m, hm, hl⟩ := I2.loc
        obtain ⟨u, ru, l⟩ := hl j y v j2 hv (.inr (.inl j3))
        refine ⟨u, ru, .inr ⟨lookup_relabel_free j4, ?_⟩⟩
        rcases l with ⟨l, _⟩ | ⟨_, c, lc, ic⟩
        · have l' : X.env.scope.names.lookup y = some .local := l
          rw [j3] at l'; cases l'
        · obtain ⟨c', hc'⟩ := frees_has (cells := X.env.cells) scope.names [] y (.inl (PySem.mem_of_lookup j4))
          have e := hsub _ _ hc'
          rw [lc] at e; cases e
          obtain ⟨o, io, id⟩ := ic
          exact ⟨c, hc', o, old c o io, id⟩
    · obtain ⟨v, o, io, id⟩ := I2.cell y c (hsub _ _ q)
      exact ⟨v, o, old c o io, id⟩
    · have e : p = (D, { cls := .type "list", data := .seq ([] : List Value).toArray }) := by simpa [lcCx] using hp
      subst e
      refine ⟨hDobj, hnoneD (Nat.le_refl _), hDC, fun z => ?_, fun v z => by cases z⟩
      obtain ⟨_, o, ho, _⟩ := I2.stack.mem z
      exact absurd (below D o ho) (Nat.lt_irrefl _)
    · show (none :: tl).length = (x :: ys).length
      rw [List.length_cons, List.length_cons, ← htl, List.length_map, tlLen]
  have stat : ∀ {pl : List (Addr × Obj)} {H' : Hp}, (∀ p ∈ pl, p.1 = D) → (∀ b ∈ fp, H' b = none) → ∀ b ∈ fp, FpOk Y pl H' b := fun {pl H'} hp hn b hb => by
    subst hY
    refine ⟨hn b hb, (yok.exf b hb).1, yok.exfs b hb, .inl hb, (yok.exf b hb).2, fun p q z => ?_⟩
    have q' : p ∈ pl := by simpa [lcCx] using q
    have e1 := hp p q'
    have e2 := fpD b hb
    rw [← z, e1] at e2
    exact Nat.lt_irrefl _ e2
  have loop : ∀ s₃ : Shared, s₃ = { s2 with heap := h₁, toks := s2.toks + ([] : List (Str × Value)).length } →
      codeAny (model X.prog X.w) X.A (.compLoop (.ListComp elt [⟨.Name x px, iter, [], 0⟩] scope pos) 0 (.ref it) (.ref D) (compEnvC scope (freesOf scope.names X.env.cells []) C X.env))
        (compPost (model X.prog X.w) X.A X.xe use Qv (.ref D) C) s₃ := by
    intro s₃ e3
    subst e3
    have hYp : Y.prog = X.prog := by subst hY; rfl
    have hYw : Y.w = X.w := by subst hY; rfl
    have hYK : Y.K = X.K := by subst hY; rfl
    have hYc : Y.calm = true := by subst hY; exact hc
    have hYA : Y.A = X.A := by subst hY; rfl
    have hYe : Y.env = compEnvC scope (freesOf scope.names X.env.cells []) C X.env := by subst hY; rfl
    have hYx : Y.xe = fun _ _ => False := by subst hY; rfl
    refine compLoop_any (fun n s' => ∃ (i k : Nat) (acc : List V) (its : List Value) (b : Option V) (H' : Hp), Inv Y [(D, { cls := .type "list", data := .seq its.toArray k })] (b :: tl) H' s' ∧ tn i s'.heap ∧ (∀ c ∈ fp, H' c = none) ∧ Vals acc its ∧ acc.length ≤ sizeLine ∧ W i n acc H') ?_ m0
      ⟨0, 0, [], [], none, H1, start, T.keep 0 _ _ st2 fun b hb o q => old b o q, fun b hb => (f2 b hb).1, .nil, Nat.zero_le _, w0⟩
    rintro n s3 ⟨i, k, acc, its, b, H3, I3, st3, fr3, va, la, w3⟩
    have pD : ∀ p ∈ [((D, { cls := .type "list", data := .seq its.toArray k }) : Addr × Obj)], p.1 = D := fun p hp => by
      have e : p = (D, { cls := .type "list", data := .seq its.toArray k }) := by simpa using hp
      rw [e]
    have pinD := I3.pin (D, { cls := .type "list", data := .seq its.toArray k }) (by simp)
    rcases turn i n acc H3 w3 with ⟨stop, qn⟩ | ⟨go, lt, step⟩
    · have t := T.done Y hYp hYw hYK hYc i _ s3 _ H3 (fun _ _ => False) I3 (stat pD fr3) st3 stop
      rw [hYA] at t
      refine thn t fun r s4 ⟨hr, I4⟩ => ?_
      subst hr
      obtain ⟨m, hm, _⟩ := I4.loc
      rw [hYe] at hm
      have p4 := I4.pin (D, { cls := .type "list", data := .seq its.toArray k }) (by simp)
      have hfs : Y.fs = frs X.stack := by subst hY; rfl
      have hex : Y.ex = fp := by subst hY; rfl
      have hH0 : Y.H₀ = H1 := by subst hY; rfl
      have hs0 : Y.s₀ = s2 := by subst hY; rfl
      have u4 := I4.base
      rw [hfs, hex, hH0, hs0] at u4
      have neD : ∀ c o, s2.heap.get? c = some o → c ≠ D := fun c o q => Nat.ne_of_lt (below c o q)
      have freeC : H3 C = none := by
        have := I4.free
        rw [hYe] at this
        exact this
      have hokD : HOk X.prog X.w (upd H3 D (.lst acc)) s4.heap := by
        have hk4 := I4.hok
        rw [hYp, hYw] at hk4
        intro a o q
        by_cases ha : a = D
        · subst ha
          rw [upd_same] at q
          cases q
          exact ⟨la, its, k, va, p4.1⟩
        · rw [upd_ne ha] at q
          exact (hk4 a o q).stay (fun c v hcv z => z) (fun c z => by rw [upd_ne (ne_of_none z p4.2.1)]; exact z) (fun c xs z => by rw [upd_ne (ne_of_none z p4.2.1)]; exact z)
      have I9 : Inv X pins σ (upd H3 D (.lst acc)) s4 := by
        refine I2.call' (s' := s4) (ch := fp) ?_ ⟨fun c o q nn hb hx => u4.keep c o q nn hb hx, fun c o q nn hb hx => u4.slot c o q nn hb hx, fun c o q nn hx => ?_, fun c o q hx => u4.there c o q hx, fun c xs q => ?_, fun c o u q => ?_, fun c ps q => ?_⟩ hokD I4.bare (fun c hb => ⟨(f2 c hb).2.2.2.1, (f2 c hb).2.1, (f2 c hb).2.2.2.2.1, (f2 c hb).2.2.2.2.2⟩)
        · have := I4.os
          rw [hs0] at this
          exact this
        · rw [upd_ne (neD c o q)]
          exact u4.free c o q nn hx
        · have z := u4.tups c xs q
          rw [upd_ne (ne_of_none z p4.2.1)]; exact z
        · have z := u4.frzs c o u q
          rw [upd_ne (ne_of_none z p4.2.1)]; exact z
        · obtain ⟨more, z⟩ := u4.tbls c ps q
          exact ⟨more, by rw [upd_ne (ne_of_none z p4.2.1)]; exact z⟩
      have atC : ∀ b o, s2.heap.get? b = some o → b ≠ C := fun b o q => Nat.ne_of_lt (Nat.lt_trans (below b o q) hDlt)
      refine hfin D C s4 ⟨?_, ⟨m, hm⟩, ?_, fun z => ?_, ?_, fun y c q => ?_, fun p hp => ?_⟩
      · obtain ⟨oC, es, ep, h1', h2', _⟩ := hm
        exact ⟨H3, acc, oC, I9, qn D p4.2.1, by rw [upd_ne (Ne.symm hDC)]; exact freeC, h1', fun v z => by rw [h2'] at z; cases z⟩
      · have := I2.lt
        rw [hD] at this
        exact Nat.ne_of_gt (Nat.lt_trans this hDlt)
      · obtain ⟨_, o, ho, _⟩ := I2.funs.mem z
        exact atC _ o ho rfl
      · have := I2.sz
        rw [hD] at this
        omega
      · exact Nat.ne_of_lt (Nat.lt_trans (cellLt y c q) hDlt)
      · exact atC _ _ (I2.pin p hp).1
    · have t := T.item Y hYp hYw hYK hYc i _ s3 _ H3 (fun _ _ => False) I3 (stat pD fr3) st3 go
      rw [hYA] at t
      refine thn t fun r s4 ⟨u, hr, h4⟩ => ?_
      subst hr
      refine thn h4 fun _ s5 ⟨xv, H5, I5, r5, y5, st5, fr5⟩ => ?_
      have I5' := I5.pinned (stat pD fr5) (T.obj _ _ st5)
      have hN : Y.N = x :: ys := by subst hY; rfl
      have stx : wpAny (model X.prog X.w) X.A (storeName (compEnvC scope (freesOf scope.names X.env.cells []) C X.env) x u) (fun _ s' => Inv Y ([(D, { cls := .type "list", data := .seq its.toArray k })] ++ pinsAt fp s5.heap) (some xv :: tl) H5 s') (fun _ _ => False) s5 := by
        rw [← hYe]
        refine store_ok (i := 0) I5' (by rw [hN]; exact hnd) (by rw [hN]; rfl) ?_ r5 (fun s' I' => I') ?_
        · rw [hYe]; exact .inl (lookup_relabel_local hx)
        · rw [hYe]; exact .inr (lookup_relabel_local hx)
      refine wpAny_assign_Name (thn stx fun _ s6 I6 => ?_)
      have el := he C s2 H1 fp
      rw [hY] at el
      have q6 := step xv H5 y5
      rw [htl] at q6
      have ev := el _ s6 _ H5 _ I6 q6
      rw [hYp, hYw, hYA, hYe, hYx] at ev
      refine thn ev fun yv s7 ⟨y, H7, I7, r7, m', hm, w7⟩ => ?_
      have p7 := I7.pin (D, { cls := .type "list", data := .seq its.toArray k }) (by simp)
      refine wpAny_list_append_plain ⟨k, p7.1⟩ (fun h8 pl8 sb8 => ?_) (by rw [List.size_toArray, ← va.length]; exact la)
      obtain ⟨k8, e8⟩ := pl8
      refine ⟨m', hm, i + 1, k8, acc ++ [y], its ++ [yv], some xv, H7, ?_, ?_, fun c hb => ?_, va.append (.cons r7 .nil), ?_, w7⟩
      · have J7 : Inv Y [] (some xv :: tl) H7 s7 := I7.pins_of (pins' := []) fun p hp => absurd hp (by simp)
        have hDs : Y.s₀.heap.objs.size ≤ D := by subst hY; show s2.heap.objs.size ≤ D; omega
        have J8 : Inv Y [] (some xv :: tl) H7 { s7 with heap := h8, toks := s7.toks } := J7.turned (it := D) (fun c o hcD q => sb8.extBut c o hcD q) p7.2.1 p7.2.2.1 (.inr hDs) (fun z c q => by
          have := hsub z c (by rw [hYe] at q; exact q)
          exact Nat.ne_of_lt (cellLt _ _ this)) (fun p hp => by
            subst hY
            have hp' : p ∈ ([] : List (Addr × Obj)) := hp
            simp at hp')
        refine J8.pins_of fun p hp => ?_
        have e : p = (D, { cls := .type "list", data := .seq (its ++ [yv]).toArray k8 }) := by simpa using hp
        subst e
        refine ⟨?_, p7.2.1, p7.2.2.1, p7.2.2.2.1, fun v z => by cases z⟩
        show h8.get? D = _
        rw [e8]
        simp
      · refine T.keep _ _ _ st5 fun c hb o q => ?_
        have z := (I7.pin (c, o) (List.mem_append_right _ (List.mem_append_right _ (mem_pinsAt hb q)))).1
        exact sb8.extBut c o (Nat.ne_of_lt (fpD c hb)) z
      · obtain ⟨o, q, d⟩ := T.obj _ _ st5 c hb
        exact (I7.pin (c, o) (List.mem_append_right _ (List.mem_append_right _ (mem_pinsAt hb q)))).2.1
      · rw [List.length_append, List.length_singleton]; omega
  exact codeAny_compStart_list (loop _ rfl) (T.self _ 0 _ _ _ (T.keep 0 _ _ st2 fun b hb o q => old b o q) (loop _ rfl))
theorem pe_lc {elt iter : Expr} {x : Str} {px pos : Pos} {scope : Scope} {ys : List Str} {js : List Nat} {wi : TI} {te : TE} (hc : X.calm = true) (hi : PI X (.Name x px) iter wi)
    (hkind : scope.kind = .function) (hcell : ∀ y ∈ scope.names, y.2 ≠ .cell) (hloc : ∀ y ∈ scope.names, y.2 = .local → scope.names.lookup y.1 = some .local) (hx : scope.names.lookup x = some .local)
    (hfree : scope.names.all (fun y => y.2 != .free || (X.env.cells.lookup y.1).isSome) = true) (hys : lcNames X.N X.env.scope scope js ys = true) (hnd : (x :: ys).Nodup)
    (he : ∀ (C : Addr) (s₂ : Shared) (H₁ : Hp) (fp : List Addr), PE (lcCx X scope (x :: ys) C s₂ H₁ fp) elt te)
    (hs : ∀ v, foldedSetIterable iter X.env v = pure v := by intro _; rfl) : PE X (.ListComp elt [⟨.Name x px, iter, [], 0⟩] scope pos) (tLC wi js te) := by
  intro pins s σ H Q I h
  rw [eval_ListComp]
  refine lc_core none hc hi hkind hcell hloc hx hfree hys hnd he hs I h fun D C s4 L => ?_
  obtain ⟨H4, acc, oC, I4, q, fc, gC, _⟩ := L.run
  obtain ⟨m, hm⟩ := L.ns
  refine ⟨m, hm, fun h' sb => ⟨.ref D, _, I4.turned (t' := s4.toks) (it := C) (fun b o hb e => sb.extBut b o hb e) fc L.loc (.inr L.new) L.cell L.pin, rfl, q⟩⟩
end
end L2

set_option Elab.async false
set_option linter.all false
set_option maxRecDepth 100000
namespace L2
open PySem PySem.Spec PyProof.Rows
section
variable {X : Cx}
def rngO (p : Addr) (i j k : Int) : HO := .ext fun h => ∃ t u v, IsRange h p i j k t u v
theorem rngO_ok {P : Program} {w : World} {H : Hp} {h : Heap} {p : Addr} {i j k : Int} {t u v : Tok} (hr : IsRange h p i j k t u v) : ObjOk P w H h p (rngO p i j k) :=
  ⟨⟨t, u, v, hr⟩, ⟨_, hr⟩, fun _ _ ⟨t, u, v, e⟩ hk => ⟨t, u, v, hk _ e⟩⟩
theorem call_rng1 : CallR X (.type "range") (fun xs H Q => ∃ j : Int, xs = [.int j] ∧ ∀ p, H p = none → Q (.ref p) (upd H p (rngO p 0 j 1))) := by
  intro pins s σ H xs us Q I r h
  obtain ⟨j, rfl, q⟩ := h
  obtain ⟨u, rfl, t, rfl⟩ := vals1 r
  refine call_range_1 ⟨.ref s.heap.objs.size, _, I.laid (fun b o e => Heap.get?_push_of_some _ e) (Nat.le_refl _) (rngO_ok (Heap.get?_push_size _ rfl)), rfl, q _ I.fresh⟩
theorem call_rng2 : CallR X (.type "range") (fun xs H Q => ∃ i j : Int, xs = [.int i, .int j] ∧ ∀ p, H p = none → Q (.ref p) (upd H p (rngO p i j 1))) := by
  intro pins s σ H xs us Q I r h
  obtain ⟨i, j, rfl, q⟩ := h
  obtain ⟨u, v, rfl, ⟨t, rfl⟩, t', rfl⟩ := vals2 r
  refine call_range_2 ⟨.ref s.heap.objs.size, _, I.laid (fun b o e => Heap.get?_push_of_some _ e) (Nat.le_refl _) (rngO_ok (Heap.get?_push_size _ rfl)), rfl, q _ I.fresh⟩
theorem vals3 {x y z : V} {us : List Value} (r : Vals [x, y, z] us) : ∃ u v w, us = [u, v, w] ∧ RelV x u ∧ RelV y v ∧ RelV z w := by
  cases r with
  | cons r1 r => cases r with
    | cons r2 r => cases r with
      | cons r3 r => cases r; exact ⟨_, _, _, rfl, r1, r2, r3⟩
theorem call_rng3 : CallR X (.type "range") (fun xs H Q => ∃ i j k : Int, xs = [.int i, .int j, .int k] ∧ k ≠ 0 ∧ k.natAbs < 1073741824 ∧ ∀ p, H p = none → Q (.ref p) (upd H p (rngO p i j k))) := by
  intro pins s σ H xs us Q I r h
  obtain ⟨i, j, k, rfl, hk, hk2, q⟩ := h
  obtain ⟨u, v, w, rfl, ⟨t, rfl⟩, ⟨t', rfl⟩, t'', rfl⟩ := vals3 r
  refine call_range_3 hk ⟨.ref s.heap.objs.size, _, I.laid (t' := s.toks) (fun b o e => Heap.get?_push_of_some _ e) (Nat.le_refl _) (rngO_ok (Heap.get?_push_size _ rfl)), rfl, q _ I.fresh⟩ (Or.inl (PyProof.noPylong_small hk2))
def rngV (i k : Int) (n : Nat) : List V := (List.range n).map fun (m : Nat) => V.int (i + (m : Int) * k)
theorem rngV_length (i k : Int) (n : Nat) : (rngV i k n).length = n := by simp [rngV]
theorem vals_of {xs : List V} {us : List Value} (hl : xs.length = us.length) (h : ∀ (i : Nat) (x : V) (u : Value), xs[i]? = some x → us[i]? = some u → RelV x u) : Vals xs us := by
  induction xs generalizing us with
  | nil => cases us with
    | nil => exact .nil
    | cons _ _ => simp at hl
  | cons x xs ih => cases us with
    | nil => simp at hl
    | cons u us =>
      refine .cons (h 0 x u rfl rfl) (ih (by simpa using hl) fun i y v h1 h2 => h (i + 1) y v (by simpa using h1) (by simpa using h2))
theorem rngV_vals {i k : Int} {n : Nat} {acc : Array Value} (h : ItemsOf (fun m v => ∃ t, v = .int (i + m * k) t) acc n) : Vals (rngV i k n) acc.toList := by
  refine vals_of (by rw [rngV_length]; simpa using h.1.symm) fun m x u h1 h2 => ?_
  obtain ⟨t, rfl⟩ := h.2 m u (by simpa using h2)
  have hm : m < n := by
    have := (List.getElem?_eq_some_iff.mp h1).1
    rwa [rngV_length] at this
  simp [rngV, hm] at h1
  subst h1
  exact ⟨t, rfl⟩
theorem call_list_rng (hc : X.calm = true) : CallR X (.type "list") (fun xs H Q => ∃ p i j k n, xs = [.ref p] ∧ H p = some (rngO p i j k) ∧ Builtin.Range.small i j k = true ∧ Builtin.Range.rangeSize i j k = (n : Nat) ∧ n ≤ 2 ^ 20 ∧
    ∀ l, H l = none → Q (.ref l) (upd H l (.lst (rngV i k n)))) := by
  intro pins s σ H xs us Q I r h
  obtain ⟨p, i, j, k, n, rfl, hp, hs, hn, hb, q⟩ := h
  obtain ⟨u, rfl, rx⟩ := vals1 r
  cases rx
  obtain ⟨⟨t, u, v, hr⟩, _⟩ := I.hok p _ hp
  refine call_list_range (I.ok.hd hc) hr hs hn (Nat.le_trans hb (by decide)) fun h' tk acc' c' hk hl ha => ?_
  refine ⟨.ref s.heap.objs.size, _, I.laid (t' := tk) (o := .lst (rngV i k n)) hk (Nat.le_refl _) ⟨?_, acc'.toList, c', rngV_vals ha, by simpa using hl⟩, rfl, q _ I.fresh⟩
  rw [rngV_length]
  exact Nat.le_trans hb (by decide)
def Itr3 (lo st : Int) (n : Nat) : It := ⟨fun i _ => i < n, fun i H x H' => H' = H ∧ x = .int (lo + i * st), fun i _ => n ≤ i⟩
theorem turn_range3 {P : Program} {w : World} {K : PySem.W.Frag} {tg : Expr} (it : Addr) (lo st : Int) (n : Nat) : Turn P w K tg (Itr3 lo st n) [it] it (fun i h => IsRangeIter h it (lo + (i : Nat) * st) ((n : Int) - (i : Nat)) st) where
  mem := by simp
  obj := fun i h st b hb => by
    have e : b = it := by simpa using hb
    subst e
    exact ⟨_, st, fun v z => by
      have z' : Data.fields _ = Data.cell v := z
      cases z'⟩
  keep := fun i h h' st k => k it (by simp) _ st
  item := by
    intro X hP hw hK hc i pins s σ H E I hf sti hg
    subst hP hw hK
    obtain ⟨f0, f1, f2, f3, f4, f5⟩ := hf it (by simp)
    have W := Walks.range (prog := X.prog) (w := X.w) (I.ok.hd hc) it lo st n
    refine W.item i s _ _ hg sti fun v h' tk hv st' kk => ?_
    obtain ⟨t, rfl⟩ := hv
    have I1 : Inv X pins σ H { s with heap := h', toks := tk } := I.turned (fun b o hb e => kk b o (by simpa using hb) e) f0 f1 f3 f4 f5
    exact ⟨_, rfl, go_of (s := { s with heap := h', toks := tk }) (n := "range_iterator") st' rfl rfl (by decide) ⟨.int (lo + i * st), H, I1, ⟨t, rfl⟩, ⟨rfl, rfl⟩, st', fun b hb => (hf b hb).1⟩⟩
  done := by
    intro X hP hw hK hc i pins s σ H E I hf st hg
    subst hP hw hK
    obtain ⟨f0, f1, f2, f3, f4, f5⟩ := hf it (by simp)
    exact wpAny_pyNext_range_end (I.ok.hd hc) st (by have : n ≤ i := hg; omega) fun h' eb => ⟨rfl, I.turned (t' := s.toks) (fun b o hb e => eb b o hb e) f0 f1 f3 f4 f5⟩
  self := fun _ _ _ _ _ st h => wpAny_pyIter_rangeiter st h
def iRngV (tl : TE) : TI := fun σ H R => tl σ H fun x H1 => ∃ p i j k n, x = .ref p ∧ H1 p = some (rngO p i j k) ∧ Builtin.Range.small i j k = true ∧ Builtin.Range.rangeSize i j k = (n : Nat) ∧ R (Itr3 i k n) H1
theorem pi_rng {tg l : Expr} {tl : TE} (hl : PE X l tl) : PI X tg l (iRngV tl) := by
  intro pins s σ H R I h
  refine thn (hl pins s σ H _ I h) fun v s1 ⟨x, H1, I1, r1, q1⟩ => ?_
  obtain ⟨p, i, j, k, n, e, hp, hs, hn, q⟩ := q1
  subst e
  cases r1
  obtain ⟨⟨t, u, v, hr⟩, _⟩ := I1.hok p _ hp
  refine wpAny_pyIter_range hr hs ?_
  refine ⟨s1.heap.objs.size, [s1.heap.objs.size], _, _, H1, rfl, I1.kept (t' := s1.toks) fun b o e => Heap.get?_push_of_some _ e, turn_range3 _ i k n, ?_, fun b hb => ?_, q⟩
  · show IsRangeIter _ _ (i + ((0 : Nat) : Int) * k) ((n : Int) - ((0 : Nat) : Int)) k
    rw [hn]
    simpa using Heap.get?_push_size _ rfl
  · have e : b = s1.heap.objs.size := by simpa using hb
    subst e
    exact I1.fpOk (Nat.le_refl _) (I1.hok.fresh (Nat.le_refl _))
theorem for_range3 {lo st : Int} {n : Nat} {g : TG} {tb : TS} {D : Ends} {σ : St} {H : Hp} (Pv : Nat → St → Hp → Prop) (h0 : Pv 0 σ H)
    (hs : ∀ i σ H, i < n → Pv i σ H → g (.int (lo + i * st)) σ H fun σ2 H2 => tb { D with nx := Pv (i + 1), ct := Pv (i + 1), bk := D.nx } σ2 H2) (hd : ∀ σ H, Pv n σ H → D.nx σ H) :
    ∃ W : Nat → Nat → St → Hp → Prop, (∃ m, W 0 m σ H) ∧ ∀ i m σ H, W i m σ H →
      ((Itr3 lo st n).stop i H ∧ D.nx σ H) ∨ ((Itr3 lo st n).go i H ∧ ∃ N : St → Hp → Prop, (∀ σ' H', N σ' H' → ∃ m', m' < m ∧ W (i + 1) m' σ' H') ∧ ∀ x H', (Itr3 lo st n).yld i H x H' → g x σ H' fun σ2 H2 => tb { D with nx := N, ct := N, bk := D.nx } σ2 H2) := by
  refine ⟨fun i m σ H => m = n - i ∧ i ≤ n ∧ Pv i σ H, ⟨n, by simp, Nat.zero_le _, h0⟩, ?_⟩
  rintro i m σ H ⟨rfl, hi, p⟩
  by_cases hlt : i < n
  · refine .inr ⟨hlt, Pv (i + 1), fun σ' H' p' => ⟨n - (i + 1), by omega, rfl, hlt, p'⟩, fun x H' y => ?_⟩
    obtain ⟨e, y⟩ := y
    subst e y
    exact hs i σ _ hlt p
  · have e : i = n := by omega
    subst e
    exact .inl ⟨Nat.le_refl _, hd σ H p⟩
theorem rng_small {i j k : Int} (hi : -1000000 ≤ i ∧ i ≤ 1000000) (hj : -1000000 ≤ j ∧ j ≤ 1000000) (hk : k ≠ 0) (hk2 : -1000000 ≤ k ∧ k ≤ 1000000) : Builtin.Range.small i j k = true := by
  have hf : ∀ z : Int, -4000000 ≤ z → z ≤ 4000000 → Builtin.Range.rangeFitsLong z = true := fun z h1 h2 => by
    unfold Builtin.Range.rangeFitsLong
    simp only [Bool.and_eq_true, decide_eq_true_eq]
    omega
  have hsz : 0 ≤ Builtin.Range.rangeSize i j k ∧ Builtin.Range.rangeSize i j k ≤ 3000000 := by
    unfold Builtin.Range.rangeSize
    have dv : ∀ a c : Int, 0 ≤ a → 0 < c → 0 ≤ a / c ∧ a / c ≤ a := fun a c ha hc => ⟨Int.ediv_nonneg ha (by omega), Int.ediv_le_self _ ha⟩
    split
    · split
      · have := dv (j - i - 1) k (by omega) (by omega); omega
      · omega
    · split
      · have := dv (i - j - 1) (-k) (by omega) (by omega); omega
      · omega
  unfold Builtin.Range.small
  rw [hf i (by omega) (by omega), hf j (by omega) (by omega), hf k (by omega) (by omega), hf _ (by omega) (by omega)]
  simp only [Bool.true_and, Bool.or_eq_true]
  refine .inr ?_
  split
  · exact hf _ (by omega) (by omega)
  · exact hf _ (by omega) (by omega)
theorem rng_up {i j : Int} : Builtin.Range.rangeSize i j 1 = ((j - i).toNat : Nat) := by
  unfold Builtin.Range.rangeSize
  simp only [show (1 : Int) > 0 by omega, if_true, Int.ediv_one]
  split <;> omega
theorem rng_down {n : Nat} : Builtin.Range.rangeSize ((n : Int) - 1) (-1) (-1) = (n : Nat) := by
  unfold Builtin.Range.rangeSize
  simp only [show ¬ ((-1 : Int) > 0) by omega, if_false, Int.neg_neg, Int.ediv_one]
  split <;> omega
theorem rng_step {j n p : Nat} (hp : 0 < p) : Builtin.Range.rangeSize (j : Int) (n : Int) (p : Int) = (((n - j + p - 1) / p : Nat) : Int) := by
  unfold Builtin.Range.rangeSize
  rw [if_pos (by omega)]
  split
  · rename_i h
    have e : (n : Int) - j - 1 = ((n - j - 1 : Nat) : Int) := by omega
    have e2 : n - j + p - 1 = (n - j - 1) + p := by omega
    rw [e, e2, Nat.add_div_right _ hp]
    rfl
  · have e2 : (n - j + p - 1) / p = 0 := Nat.div_eq_of_lt (by omega)
    rw [e2]; rfl
end
end L2

set_option Elab.async false
set_option linter.all false
set_option maxRecDepth 100000
namespace L2
open PySem PySem.Spec PyProof.Rows
section
variable {X : Cx}
def Ite (K : PySem.W.Frag) (a : Addr) : It :=
  ⟨fun i H => ∃ xs x, SqL K H a xs ∧ xs[i]? = some x, fun i H x H' => ∃ p v, x = .ref p ∧ H p = none ∧ H' = upd H p (.tup [.int i, v]) ∧ ∀ xs, SqL K H a xs → xs[i]? = some v, fun i H => ∃ xs, SqL K H a xs ∧ xs.length ≤ i⟩
theorem turn_enum {P : Program} {w : World} {K : PySem.W.Frag} {es : List Expr} {k1} {pt : Pos} (a e it : Addr) (hne : e ≠ it) :
    Turn P w K (.Tuple es k1 pt) (Ite K a) [e, it] e (fun i h => (∃ old, IsEnum h e it ((i : Nat) : Int) old) ∧ h.IsListIter it a i) where
  mem := by simp
  obj := fun i h st b hb => by
    obtain ⟨⟨old, st1⟩, o, st2, c, d⟩ := st
    rcases List.mem_cons.mp hb with z | z
    · subst z
      exact ⟨_, st1, fun v z => by
        have z' : Data.fields _ = Data.cell v := z
        cases z'⟩
    · have z' : b = it := by simpa using z
      subst z'
      exact ⟨o, st2, fun v z => by rw [d] at z; cases z⟩
  keep := fun i h h' st k => ⟨let ⟨old, st1⟩ := st.1; ⟨old, k e (by simp) _ st1⟩, st.2.at fun o q => k it (by simp) o q⟩
  item := by
    intro X hP hw hK hc i pins s σ H E I hf st hg
    subst hP hw hK
    obtain ⟨xs, x, hq, hx⟩ := hg
    obtain ⟨its, rv, p, hz⟩ := I.list hq
    obtain ⟨u, hu, ru⟩ := rv.get hx
    obtain ⟨⟨old, st1⟩, st2⟩ := st
    obtain ⟨f0, f1, f2, f3, f4, f5⟩ := hf e (by simp)
    obtain ⟨g0, g1, g2, g3, g4, g5⟩ := hf it (by simp)
    refine wpAny_pyNext_enum_item st1 st2 p.isList (x := u) (by simpa using hu) hne fun h' he' hit' ht' hz' hk' => ?_
    refine ⟨_, rfl, ?_⟩
    refine wpAny_letOwnedTupleGo_enum he' fun h2 he2 hs2 => ?_
    have hlt : e < s.heap.objs.size := Heap.lt_size st1
    have hlt2 : it < s.heap.objs.size := let ⟨o, q, _⟩ := st2; Heap.lt_size q
    have up : ∀ b o, b ≠ e → b ≠ it → s.heap.get? b = some o → h2.get? b = some o := fun b o h1 h3 q => (hs2.2 b h1).trans (hk' b o h1 h3 q)
    have I1 : Inv X pins σ H { s with heap := h2, toks := s.toks + 1 } := by
      refine I.step (g' := s.gens) (d' := s.drawn) (ch := [e, it]) (fun b hb => ?_) (fun b o _ _ hcb q _ => up b o (fun z => hcb (by simp [z])) (fun z => hcb (by simp [z])) q) (fun b o _ _ hcb q _ => ⟨o.slots, up b o (fun z => hcb (by simp [z])) (fun z => hcb (by simp [z])) q⟩)
        (fun _ _ _ _ n => n) (fun b o hcb q => ⟨o, up b o (fun z => hcb (by simp [z])) (fun z => hcb (by simp [z])) q⟩) (fun _ _ q => q) (fun _ _ _ q => q) (fun b ps q => ⟨#[], by rw [q]; simp⟩) (fun m hm => ?_) (fun b o q => ?_) I.bare
      · rcases List.mem_cons.mp hb with z | z
        · subst z; exact ⟨f3, f1, f4, f5⟩
        · have z' : b = it := by simpa using z
          subst z'; exact ⟨g3, g1, g4, g5⟩
      · obtain ⟨o, es', ep, ho, r⟩ := hm
        exact ⟨o, es', ep, up _ o (Ne.symm f1) (Ne.symm g1) ho, r⟩
      · refine (I.hok b o q).stay (fun c v hcv z => up c v ?_ ?_ z) (fun _ z => z) fun _ _ z => z
        · rcases hcv with z | z
          · rw [z]; exact ne_of_none q f0
          · exact ne_of_none z f0
        · rcases hcv with z | z
          · rw [z]; exact ne_of_none q g0
          · exact ne_of_none z g0
    have hp : h2.get? s.heap.objs.size = some { cls := .type "tuple", data := .seq #[.int i s.toks, u] } := (hs2.2 _ (Nat.ne_of_gt hlt)).trans ht'
    have fr : H s.heap.objs.size = none := I.fresh
    have hok2 : HOk X.prog X.w (upd H s.heap.objs.size (.tup [.int i, x])) h2 := by
      intro b o q
      by_cases hb : b = s.heap.objs.size
      · subst hb
        rw [upd_same] at q
        cases q
        refine ⟨?_, [.int i s.toks, u], .cons ⟨_, rfl⟩ (.cons ru .nil), ⟨_, hp, rfl, _, rfl⟩⟩
        show 2 ≤ sizeLine
        decide
      · rw [upd_ne hb] at q
        exact (I1.hok b o q).stay (fun c v _ z => z) (fun c z => by rw [upd_ne (ne_of_none z fr)]; exact z) fun c ys z => by rw [upd_ne (ne_of_none z fr)]; exact z
    have I2 : Inv X pins σ (upd H s.heap.objs.size (.tup [.int i, x])) { s with heap := h2, toks := s.toks + 1 } := by
      have nb : ∀ b o, X.s₀.heap.get? b = some o → b ≠ s.heap.objs.size := fun b o q => Nat.ne_of_lt (Nat.lt_of_lt_of_le (Heap.lt_size q) I.sz)
      refine ⟨I1.ok, I1.os, I1.bare, ⟨I1.base.keep, I1.base.slot, fun b o q n hx' => by rw [upd_ne (nb b o q)]; exact I1.base.free b o q n hx', I1.base.there, fun b ys q => ?_, fun b o v q => ?_, fun b ps q => ?_⟩, I1.loc, I1.cell, ?_, fun y c q => ?_, fun pp hpp => ?_, hok2, I1.len⟩
      · have z := I1.base.tups b ys q
        rw [upd_ne (ne_of_none z fr)]; exact z
      · have z := I1.base.frzs b o v q
        rw [upd_ne (ne_of_none z fr)]; exact z
      · obtain ⟨more, z⟩ := I1.base.tbls b ps q
        exact ⟨more, by rw [upd_ne (ne_of_none z fr)]; exact z⟩
      · rw [upd_ne (Nat.ne_of_lt I.lt)]; exact I1.free
      · obtain ⟨v, o, ho, _⟩ := I.cell y c q
        rw [upd_ne (Nat.ne_of_lt (Heap.lt_size ho))]; exact I1.freeC y c q
      · obtain ⟨a1, a2, a3⟩ := I1.pin pp hpp
        refine ⟨a1, ?_, a3⟩
        rw [upd_ne (Nat.ne_of_lt (Heap.lt_size (I.pin pp hpp).1))]
        exact a2
    refine ⟨.ref s.heap.objs.size, _, I2, rfl, ⟨_, x, rfl, fr, rfl, fun ys hy => by rw [I.list_inj hy hq]; exact hx⟩, ⟨⟨u, by simpa using he2⟩, ?_⟩, fun b hb => ?_⟩
    · exact hit'.at fun o q => (hs2.2 it (Ne.symm hne)).trans q
    · rcases List.mem_cons.mp hb with z | z
      · subst z; rw [upd_ne (Nat.ne_of_lt hlt)]; exact f0
      · have z' : b = it := by simpa using z
        subst z'; rw [upd_ne (Nat.ne_of_lt hlt2)]; exact g0
  done := by
    intro X hP hw hK hc i pins s σ H E I hf st hg
    subst hP hw hK
    obtain ⟨xs, hq, hx⟩ := hg
    obtain ⟨its, rv, p, hz⟩ := I.list hq
    obtain ⟨⟨old, st1⟩, st2⟩ := st
    obtain ⟨g0, g1, g2, g3, g4, g5⟩ := hf it (by simp)
    have hl := rv.length
    exact wpAny_pyNext_enum_end (I.ok.hd hc) st1 st2 p.isList (by simp; omega) fun h' eb => ⟨rfl, I.turned (t' := s.toks) (fun b o hb q => eb b o hb q) g0 g1 g3 g4 g5⟩
  self := fun _ _ _ _ _ st h => let ⟨⟨old, st1⟩, _⟩ := st; wpAny_pyIter_enum st1 h
def iEnum (K : PySem.W.Frag) (ta : TA) : TI := fun σ H R => ta σ H fun vs H1 => ∃ a, vs = [.ref a] ∧ (∃ xs, SqL K H1 a xs) ∧ R (Ite K a) H1
theorem pi_enum {es : List Expr} {k1} {pt : Pos} {a : Expr} {ta : TA} {p pos : Pos} (hg : Gl X "enumerate") (hm : X.mg "enumerate" = none) (ha : PA X [a] ta) (hs : starEach [a] X.env = [(false, eval a X.env)] := by rfl) :
    PI X (.Tuple es k1 pt) (.Call (.Name "enumerate" p) [a] [] pos) (iEnum X.K ta) := by
  intro pins s σ H R I h
  refine Call_ (ld_blt I hg hm (show bootBuiltins "enumerate" = some (.type "enumerate") by decide +kernel) (PyProof.Rows.callWith_type1 (thn (ha pos pins s σ H _ I h) fun us s1 ⟨vs, H1, I1, r1, q1⟩ => ?_) hs rfl))
  obtain ⟨l, e, ⟨xs, hq⟩, q⟩ := q1
  subst e
  obtain ⟨u, rfl, rx⟩ := vals1 r1
  cases rx
  obtain ⟨its, rv, pl, hz⟩ := I1.list hq
  refine call_enumerate_list pl.isList fun h' he hi hsz hk => ?_
  refine wpAny_pyIter_enum he ?_
  refine ⟨s1.heap.objs.size + 1, [s1.heap.objs.size + 1, s1.heap.objs.size], _, _, H1, rfl, I1.kept (t' := s1.toks) hk, turn_enum l _ _ (Nat.ne_of_gt (Nat.lt_succ_self _)), ⟨⟨_, he⟩, hi⟩, fun b hb => ?_, q⟩
  rcases List.mem_cons.mp hb with z | z
  · subst z; exact I1.fpOk (by omega) (I1.hok.fresh (by omega))
  · have z' : b = s1.heap.objs.size := by simpa using z
    subst z'; exact I1.fpOk (Nat.le_refl _) (I1.hok.fresh (Nat.le_refl _))
theorem for_enum {K : PySem.W.Frag} {a : Addr} {xs : List V} {g : TG} {tb : TS} {D : Ends} {σ : St} {H : Hp} (Pv : Nat → St → Hp → Prop) (h0 : Pv 0 σ H) (hl : ∀ i σ H, i ≤ xs.length → Pv i σ H → SqL K H a xs)
    (hs : ∀ i v σ H p, xs[i]? = some v → Pv i σ H → H p = none → g (.ref p) σ (upd H p (.tup [.int i, v])) fun σ2 H2 => tb { D with nx := Pv (i + 1), ct := Pv (i + 1), bk := D.nx } σ2 H2) (hd : ∀ σ H, Pv xs.length σ H → D.nx σ H) :
    ∃ W : Nat → Nat → St → Hp → Prop, (∃ m, W 0 m σ H) ∧ ∀ i m σ H, W i m σ H →
      ((Ite K a).stop i H ∧ D.nx σ H) ∨ ((Ite K a).go i H ∧ ∃ N : St → Hp → Prop, (∀ σ' H', N σ' H' → ∃ m', m' < m ∧ W (i + 1) m' σ' H') ∧ ∀ x H', (Ite K a).yld i H x H' → g x σ H' fun σ2 H2 => tb { D with nx := N, ct := N, bk := D.nx } σ2 H2) := by
  refine ⟨fun i m σ H => m = xs.length - i ∧ i ≤ xs.length ∧ Pv i σ H, ⟨xs.length, by simp, Nat.zero_le _, h0⟩, ?_⟩
  rintro i m σ H ⟨rfl, hi, p⟩
  have q := hl i σ H hi p
  by_cases hlt : i < xs.length
  · refine .inr ⟨⟨xs, xs[i], q, by simp [hlt]⟩, Pv (i + 1), fun σ' H' p' => ⟨xs.length - (i + 1), by omega, rfl, hlt, p'⟩, fun x H' y => ?_⟩
    obtain ⟨pp, v, rfl, hn, rfl, y⟩ := y
    exact hs i v σ H pp (y xs q) p hn
  · have e : i = xs.length := by omega
    subst e
    exact .inl ⟨⟨xs, q, Nat.le_refl _⟩, hd σ H p⟩
def Its (z : Str) : It := ⟨fun i _ => i < z.cps.size, fun i H x H' => H' = H ∧ ∃ c, z.cps[i]? = some c ∧ x = .str ⟨#[c]⟩, fun i _ => z.cps.size ≤ i⟩
theorem turn_str {P : Program} {w : World} {K : PySem.W.Frag} {tg : Expr} {ty : String} {t : Tok} (it : Addr) (z : Str) (hty : ty = "str_ascii_iterator" ∨ ty = "str_iterator") : Turn P w K tg (Its z) [it] it (fun i h => i ≤ z.cps.size ∧ h.IsStrIter it ty z t i) where
  mem := by simp
  obj := fun i h st b hb => by
    have e : b = it := by simpa using hb
    subst e
    obtain ⟨_, o, e, c, d⟩ := st
    exact ⟨o, e, fun v z => by rw [d] at z; cases z⟩
  keep := fun i h h' st k => ⟨st.1, let ⟨o, ho, r⟩ := st.2; ⟨o, k it (by simp) o ho, r⟩⟩
  item := by
    intro X hP hw hK hc i pins s σ H E I hf st hg
    subst hP hw hK
    obtain ⟨f0, f1, f2, f3, f4, f5⟩ := hf it (by simp)
    have hlt : i < z.cps.size := hg
    have fin : ∀ (h' : Heap) (tk : Nat) (c : Nat) (u : Tok), z.cps[i]? = some c → h'.IsStrIter it ty z t (i + 1) → (∀ b o, b ∉ [it] → s.heap.get? b = some o → h'.get? b = some o) →
        (∃ uu, some (Value.str ⟨#[c]⟩ u) = some uu ∧ wpAny (model X.prog X.w) X.A (letOwnedTupleGo tg (.ref it) uu) (fun _ s2 => ∃ x H', Inv X pins σ H' s2 ∧ RelV x uu ∧ (Its z).yld i H x H' ∧ (i + 1 ≤ z.cps.size ∧ s2.heap.IsStrIter it ty z t (i + 1)) ∧ ∀ b ∈ [it], H' b = none) E { s with heap := h', toks := tk }) := by
      intro h' tk c u hcx st' kk
      have I1 : Inv X pins σ H { s with heap := h', toks := tk } := I.turned (fun b o hb e => kk b o (by simpa using hb) e) f0 f1 f3 f4 f5
      obtain ⟨o, e, cc, d⟩ := id st'
      exact ⟨_, rfl, go_of (s := { s with heap := h', toks := tk }) (n := ty) e cc d (by rcases hty with q | q <;> (rw [q]; decide)) ⟨.str ⟨#[c]⟩, H, I1, ⟨u, rfl⟩, ⟨rfl, c, hcx, rfl⟩, ⟨hlt, st'⟩, fun b hb => (hf b hb).1⟩⟩
    rcases hty with q | q
    · subst q
      refine (Walks.strAscii (prog := X.prog) (w := X.w) (I.ok.hd hc) it z t).item i s _ _ hlt st.2 fun v h' tk hv st' kk => ?_
      obtain ⟨c, u, hcx, rfl⟩ := hv
      exact fin h' tk c u hcx st' kk
    · subst q
      refine (Walks.strWide (prog := X.prog) (w := X.w) (I.ok.hd hc) it z t).item i s _ _ hlt st.2 fun v h' tk hv st' kk => ?_
      obtain ⟨c, u, hcx, rfl⟩ := hv
      exact fin h' tk c u hcx st' kk
  done := by
    intro X hP hw hK hc i pins s σ H E I hf st hg
    subst hP hw hK
    obtain ⟨f0, f1, f2, f3, f4, f5⟩ := hf it (by simp)
    have hi : i = z.cps.size := Nat.le_antisymm st.1 hg
    have st2 := st.2
    rw [hi] at st2
    rcases hty with q | q
    · subst q
      exact (Walks.strAscii (prog := X.prog) (w := X.w) (I.ok.hd hc) it z t).done s _ _ st2 fun h' tk kk => ⟨rfl, I.turned (fun b o hb e => kk b o (by simpa using hb) e) f0 f1 f3 f4 f5⟩
    · subst q
      exact (Walks.strWide (prog := X.prog) (w := X.w) (I.ok.hd hc) it z t).done s _ _ st2 fun h' tk kk => ⟨rfl, I.turned (fun b o hb e => kk b o (by simpa using hb) e) f0 f1 f3 f4 f5⟩
  self := fun A i s Q E st h => by
    rcases hty with q | q
    · subst q
      exact wpAny_pyIter_striter_ascii st.2 h
    · subst q
      exact wpAny_pyIter_striter_wide st.2 h
def iStr (tl : TE) : TI := fun σ H R => tl σ H fun x H1 => ∃ z, x = .str z ∧ R (Its z) H1
theorem pi_str {tg l : Expr} {tl : TE} (hl : PE X l tl) : PI X tg l (iStr tl) := by
  intro pins s σ H R I h
  refine thn (hl pins s σ H _ I h) fun v s1 ⟨x, H1, I1, r1, q1⟩ => ?_
  obtain ⟨z, e, q⟩ := q1
  subst e
  obtain ⟨t, rfl⟩ := r1
  refine wpAny_pyIter_strU ?_
  refine ⟨s1.heap.objs.size, [s1.heap.objs.size], _, _, H1, rfl, I1.kept (t' := s1.toks) fun b o e => Heap.get?_push_of_some _ e, turn_str (ty := strIterType z) (t := t) _ z (by unfold strIterType; split <;> simp), ⟨Nat.zero_le _, ⟨_, Heap.get?_push_size _ rfl, rfl, rfl⟩⟩, fun b hb => ?_, q⟩
  have e : b = s1.heap.objs.size := by simpa using hb
  subst e
  exact I1.fpOk (Nat.le_refl _) (I1.hok.fresh (Nat.le_refl _))
theorem for_str {z : Str} {g : TG} {tb : TS} {D : Ends} {σ : St} {H : Hp} (Pv : Nat → St → Hp → Prop) (h0 : Pv 0 σ H)
    (hs : ∀ i c σ H, z.cps[i]? = some c → Pv i σ H → g (.str ⟨#[c]⟩) σ H fun σ2 H2 => tb { D with nx := Pv (i + 1), ct := Pv (i + 1), bk := D.nx } σ2 H2) (hd : ∀ σ H, Pv z.cps.size σ H → D.nx σ H) :
    ∃ W : Nat → Nat → St → Hp → Prop, (∃ m, W 0 m σ H) ∧ ∀ i m σ H, W i m σ H →
      ((Its z).stop i H ∧ D.nx σ H) ∨ ((Its z).go i H ∧ ∃ N : St → Hp → Prop, (∀ σ' H', N σ' H' → ∃ m', m' < m ∧ W (i + 1) m' σ' H') ∧ ∀ x H', (Its z).yld i H x H' → g x σ H' fun σ2 H2 => tb { D with nx := N, ct := N, bk := D.nx } σ2 H2) := by
  refine ⟨fun i m σ H => m = z.cps.size - i ∧ i ≤ z.cps.size ∧ Pv i σ H, ⟨z.cps.size, by simp, Nat.zero_le _, h0⟩, ?_⟩
  rintro i m σ H ⟨rfl, hi, p⟩
  by_cases hlt : i < z.cps.size
  · refine .inr ⟨hlt, Pv (i + 1), fun σ' H' p' => ⟨z.cps.size - (i + 1), by omega, rfl, hlt, p'⟩, fun x H' y => ?_⟩
    obtain ⟨e, c, hc, rfl⟩ := y
    subst e
    exact hs i c σ _ hc p
  · have e : i = z.cps.size := by omega
    subst e
    exact .inl ⟨Nat.le_refl _, hd σ H p⟩
theorem range_all_map (bs : List Bool) : (List.range bs.length).all (fun i => bs.getD i false) = bs.all id := by
  rw [Bool.eq_iff_iff, List.all_eq_true, List.all_eq_true]
  constructor
  · intro h x hx
    obtain ⟨i, hi, e⟩ := List.getElem_of_mem hx
    have := h i (List.mem_range.mpr hi)
    simp [List.getD_eq_getElem?_getD, hi, e] at this
    exact this
  · intro h i hi
    have hi' := List.mem_range.mp hi
    simp [List.getD_eq_getElem?_getD, hi']
    exact h _ (List.getElem_mem hi')
theorem vals_bls {bs : List Bool} {its : List Value} (r : Vals (bs.map V.bl) its) : its = bs.map Value.bool := by
  induction bs generalizing its with
  | nil => cases r; rfl
  | cons b bs ih => cases r with
    | cons r1 r2 => cases r1; rw [ih r2]; rfl
theorem call_all (hc : X.calm = true) : CallR X (.builtin "all") (fun xs H Q => ∃ (p : Addr) (bs : List Bool), xs = [.ref p] ∧ SqL X.K H p (bs.map V.bl) ∧ Q (.bl (bs.all id)) H) := by
  intro pins s σ H xs us Q I r h
  obtain ⟨p, bs, rfl, hq, q⟩ := h
  obtain ⟨u, rfl, rx⟩ := vals1 r
  cases rx
  obtain ⟨its, rv, pl, hz⟩ := I.list hq
  have e := vals_bls rv
  have hd : X.A.in1.handled = none := I.ok.hd hc
  refine call_all_walk (wpAny_pyIter_list pl.isList ?_)
  have hpne : p ≠ s.heap.objs.size := let ⟨o, _, q, _⟩ := pl; Nat.ne_of_lt (Heap.lt_size q)
  refine ⟨s.heap.objs.size, _, _, _, _, _, fun i => bs.getD i false, rfl, Walks.list hd s.heap.objs.size p hpne its.toArray, ⟨⟨_, Heap.get?_push_size _ rfl, rfl, rfl⟩, ?_⟩, ?_, fun h' tk hk => ?_⟩
  · exact pl.isList.at fun o q => Heap.get?_push_of_some _ q
  · intro i v s' Q' E' hv hq'
    have hv' : its[i]? = some v := by simpa using hv
    rw [e, List.getElem?_map] at hv'
    cases hb : bs[i]? with
    | none => rw [hb] at hv'; simp at hv'
    | some b =>
      rw [hb] at hv'
      simp at hv'
      subst hv'
      have : bs.getD i false = b := by simp [List.getD_eq_getElem?_getD, hb]
      dsimp only at hq'
      rw [this] at hq'
      exact wpAny_truthy_bool hq'
  · have hlen : its.toArray.size = bs.length := by rw [e]; simp
    rw [hlen, range_all_map]
    refine ⟨.bl _, H, ?_, rfl, q⟩
    exact I.kept fun b o z => hk b o (by simp; exact Nat.ne_of_lt (Heap.lt_size z)) (Heap.get?_push_of_some _ z)
end
end L2

set_option Elab.async false
set_option linter.all false
set_option maxRecDepth 100000
namespace L2
open PySem PySem.Spec PyProof.Rows
section
variable {X : Cx}
theorem ints_vals {ns : List Int} {its : List Value} (r : Vals (ns.map V.int) its) : IntsAre its ns := by
  induction ns generalizing its with
  | nil => cases r; exact .nil
  | cons n ns ih => cases r with
    | cons r1 r2 =>
      obtain ⟨t, rfl⟩ := r1
      exact .cons n t (ih r2)
def setN (ns : List Int) : Nat := (firstMet (fun i => ns.getD i 0) ns.length).length
def setS (ns : List Int) (k : Int) : Bool := (firstMet (fun i => ns.getD i 0) ns.length).any (· == k)
theorem call_set_ints (hc : X.calm = true) : CallR X (.type "set") (fun xs H Q => ∃ p ns, xs = [.ref p] ∧ SqL X.K H p (ns.map V.int) ∧ ns.length ≤ 1000 ∧ ∀ l, H l = none → Q (.ref l) (upd H l (.set (setS ns) (setN ns)))) := by
  intro pins s σ H xs us Q I r h
  obtain ⟨p, ns, rfl, hq, hz, q⟩ := h
  obtain ⟨u, rfl, rx⟩ := vals1 r
  cases rx
  obtain ⟨its, rv, pl, _⟩ := I.list hq
  have hl := rv.length
  rw [List.length_map] at hl
  refine call_set_list (I.ok.hd hc) pl.isList (ns := ns) (by simpa using ints_vals rv) (by rw [List.size_toArray, ← hl]; have : scanBound = 4096 := rfl; omega) fun h' tk hs hk => ?_
  have e : its.toArray.size = ns.length := by rw [List.size_toArray, ← hl]
  rw [e] at hs
  refine ⟨.ref s.heap.objs.size, _, I.laid (t' := tk) (fun b o e => hk b o (Heap.lt_size e) e) (Nat.le_refl _) ?_, rfl, q _ I.fresh⟩
  exact hs
theorem call_len_setO : CallR X (.builtin "len") (fun xs H Q => ∃ p S n, xs = [.ref p] ∧ H p = some (.set S n) ∧ Q (.int n) H) := by
  intro pins s σ H xs us Q I r h
  obtain ⟨p, S, n, rfl, hp, q⟩ := h
  obtain ⟨u, rfl, rx⟩ := vals1 r
  cases rx
  obtain ⟨o, es, ep, t, ho, hex, hd, _, _, hb, hf, hn⟩ := I.hok p _ hp
  have : scanBound = 4096 := rfl
  refine call_len_set ho hex hd hf (by omega) ⟨.int n, H, I.tok _, ⟨_, by rw [hn]⟩, q⟩
theorem firstMet_nodup (val : Nat → Int) : ∀ n, (∀ i j, i < n → j < n → val i = val j → i = j) → firstMet val n = (List.range n).map val
  | 0, _ => rfl
  | n + 1, h => by
    have ih := firstMet_nodup val n fun i j hi hj => h i j (by omega) (by omega)
    rw [firstMet_succ, ih, List.range_succ, List.map_append, step_dedup, if_neg]
    · rfl
    · intro hx
      rw [List.any_eq_true] at hx
      obtain ⟨y, hy, e⟩ := hx
      obtain ⟨i, hi, rfl⟩ := List.mem_map.mp hy
      have := h i n (by have := List.mem_range.mp hi; omega) (by omega) (by simpa using e)
      have := List.mem_range.mp hi
      omega
theorem setN_nodup {ns : List Int} (h : ns.Nodup) : setN ns = ns.length := by
  unfold setN
  rw [firstMet_nodup, List.length_map, List.length_range]
  intro i j hi hj e
  simp only [List.getD_eq_getElem?_getD, List.getElem?_eq_getElem hi, List.getElem?_eq_getElem hj, Option.getD_some] at e
  exact (List.getElem_inj h).mp e
def eqVs (xs ys : List V) : Bool := xs.length == ys.length && (List.range xs.length).all fun i => eqV (xs.getD i .non) (ys.getD i .non)
def rEqL (K : PySem.W.Frag) (neg : Bool) : R2 := fun x y H Q => ∃ p q xs ys, x = .ref p ∧ y = .ref q ∧ SqL K H p xs ∧ SqL K H q ys ∧ xs.all flatV = true ∧ ys.all flatV = true ∧ Q (.bl (if neg then !eqVs xs ys else eqVs xs ys)) H
theorem eqVs_at {A : Around} {s : Shared} {xs ys : List V} {us ws : List Value} (rx : Vals xs us) (ry : Vals ys ws) (fx : xs.all flatV = true) (fy : ys.all flatV = true) :
    ∀ j (h1 : j < us.toArray.size) (h2 : j < ws.toArray.size), SeqAt.EqAt A s us.toArray[j] ws.toArray[j] (eqV (xs.getD j .non) (ys.getD j .non)) := by
  intro j h1 h2
  have l1 := rx.length
  have l2 := ry.length
  have h1' : j < us.length := by simpa using h1
  have h2' : j < ws.length := by simpa using h2
  have e1 : xs[j]? = some (xs[j]'(by omega)) := List.getElem?_eq_getElem _
  have e2 : ys[j]? = some (ys[j]'(by omega)) := List.getElem?_eq_getElem _
  obtain ⟨u, hu, ru⟩ := rx.get e1
  obtain ⟨w, hw, rw'⟩ := ry.get e2
  have eu : us.toArray[j] = u := by
    have : us[j]? = some us[j] := List.getElem?_eq_getElem h1'
    rw [this] at hu
    simpa using hu
  have ew : ws.toArray[j] = w := by
    have : ws[j]? = some ws[j] := List.getElem?_eq_getElem h2'
    rw [this] at hw
    simpa using hw
  rw [eu, ew]
  have g1 : xs.getD j .non = xs[j]'(by omega) := by rw [List.getD_eq_getElem?_getD, e1]; rfl
  have g2 : ys.getD j .non = ys[j]'(by omega) := by rw [List.getD_eq_getElem?_getD, e2]; rfl
  rw [g1, g2]
  exact eqAt_V ru rw' (List.all_eq_true.mp fx _ (List.getElem_mem _)) (List.all_eq_true.mp fy _ (List.getElem_mem _))
theorem op_eqL (hu : X.A.units < cLine) : OpR X (compareOp .Eq) (rEqL X.K false) := by
  intro pins s σ H x y v u Q I rx ry h
  obtain ⟨p, q, xs, ys, rfl, rfl, hp, hq, fx, fy, k⟩ := h
  cases rx
  cases ry
  obtain ⟨its, r, pl, hz⟩ := I.list hp
  obtain ⟨its2, r2, pl2, hz2⟩ := I.list hq
  have l1 := r.length
  have l2 := r2.length
  by_cases hl : xs.length = ys.length
  · refine SeqAt.eq_listAt pl.isList pl2.isList (by simp; omega) hu (eqVs_at r r2 fx fy) ⟨.bl _, H, I, rfl, ?_⟩
    have : eqVs xs ys = (List.range its.toArray.size).all fun i => eqV (xs.getD i .non) (ys.getD i .non) := by
      unfold eqVs
      rw [hl, beq_self_eq_true, Bool.true_and, List.size_toArray, ← l1, hl]
    rw [← this]
    exact k
  · refine SeqAt.eq_list_lengthsAt pl.isList pl2.isList (by simp; omega) hu ⟨.bl _, H, I, rfl, ?_⟩
    have : eqVs xs ys = false := by
      unfold eqVs
      rw [beq_eq_false_iff_ne.mpr hl, Bool.false_and]
    rw [← this]
    exact k
theorem op_neL (hu : X.A.units < cLine) : OpR X (compareOp .NotEq) (rEqL X.K true) := by
  intro pins s σ H x y v u Q I rx ry h
  obtain ⟨p, q, xs, ys, rfl, rfl, hp, hq, fx, fy, k⟩ := h
  cases rx
  cases ry
  obtain ⟨its, r, pl, hz⟩ := I.list hp
  obtain ⟨its2, r2, pl2, hz2⟩ := I.list hq
  have l1 := r.length
  have l2 := r2.length
  by_cases hl : xs.length = ys.length
  · refine SeqAt.RcNeAt.lists pl.isList pl2.isList (by simp; omega) hu (eqVs_at r r2 fx fy) X.prog X.w X.xe (EP X pins σ Q) ⟨.bl _, H, I, rfl, ?_⟩
    have : eqVs xs ys = (List.range its.toArray.size).all fun i => eqV (xs.getD i .non) (ys.getD i .non) := by
      unfold eqVs
      rw [hl, beq_self_eq_true, Bool.true_and, List.size_toArray, ← l1, hl]
    rw [← this]
    exact k
  · refine SeqAt.RcNeAt.lists_lengths pl.isList pl2.isList (by simp; omega) hu X.prog X.w X.xe (EP X pins σ Q) ⟨.bl _, H, I, rfl, ?_⟩
    have : eqVs xs ys = false := by
      unfold eqVs
      rw [beq_eq_false_iff_ne.mpr hl, Bool.false_and]
    have k' := k
    rw [this] at k'
    exact k'
def valOf : V → Value
  | .ty n => .type n
  | .ref a => .ref a
  | _ => .none
theorem call_isi : CallR X (.builtin "isinstance") (fun xs H Q => ∃ x c t b, xs = [x, c] ∧ TyOf X.K H x t ∧ ((∃ n, c = .ty n) ∨ ∃ a, c = .ref a) ∧ PySem.W.kitOne X.K t (valOf c) = some b ∧ Q (.bl b) H) := by
  intro pins s σ H xs us Q I r h
  obtain ⟨x, c, t, b, rfl, ty, hc, hk, q⟩ := h
  obtain ⟨u, v, rfl, rx, rc⟩ := vals2 r
  have e : v = valOf c := by
    rcases hc with ⟨n, rfl⟩ | ⟨a, rfl⟩
    · exact rc
    · exact rc
  subst e
  exact isinst_ok I rx ty hk fun tk => ⟨.bl b, H, I.tok tk, rfl, q⟩
variable {P : Program} {w : World} {K : PySem.W.Frag} {mg : Str → Option Value} {base : Heap}
theorem FnOk.gc {CX : CXT} {k : Nat} {f : Addr} {fd : FuncData} {ps : List Str} {sp sp' : Sp} (F : FnOk P w K mg base CX k f fd ps sp) (len : ∀ vs H Q E, sp' vs H Q E → vs.length = ps.length)
    (h : ∀ vs H Q E, sp' vs H Q E → sp vs H (fun v H' => ∃ H'', (Cl H → Cl H' → Gc H H' H'') ∧ Q v H'') E) : FnOk P w K mg base CX k f fd ps sp' := by
  refine ⟨len, fun A outer s H args us vs Q E hr e0 hb rv hs => ?_⟩
  refine codeAny_mono (F.run A outer s H args us vs _ E hr e0 hb rv (h vs H Q E hs)) fun r s' hq => ?_
  cases r with
  | error e => exact hq
  | ok fl =>
    cases fl with
    | next => exact hq
    | brk => exact hq
    | cont => exact hq
    | ret u =>
      obtain ⟨v, H', os, bare, un, hok, r, H'', g, q⟩ := hq
      have g' := g e0.hok.cl hok.cl
      refine ⟨v, H'', os, bare, ?_, hok.less g'.sub g'.cl, r, q⟩
      exact ⟨un.keep, un.slot, fun b o e n hx => free_of_sub g'.sub (un.free b o e n hx), un.there, fun b xs e => g'.imm b _ trivial e (un.tups b xs e), fun b o v e => g'.imm b _ trivial e (un.frzs b o v e), fun b ps e => by
        obtain ⟨more, q⟩ := un.tbls b ps e
        exact (show False from hok b _ q).elim⟩
theorem Fun.okG {x qual : Str} {st : Stmt} {f : Addr} {fd : FuncData} {N ps : List Str} {k : Nat} {sp : Sp} (F : Fun K x qual st f fd) (S : FnScope N ps (defScope st)) (len : ∀ vs H Q E, sp vs H Q E → vs.length = ps.length)
    (hbody : ∀ (cdv : Value) (A : Around) (outer : List Env) (s : Shared) (H : Hp) (vs : List V) (Q : VK) (E : XK), Room k (A.deeper (envOfC qual (defScope st) s.heap.objs.size f cdv)) → sp vs H Q E →
      ∃ t, PSs (cxOf CX0 P w K mg base N qual (defScope st) f cdv A outer s H E).nox (defBody st) t ∧
        t { nx := fun _ H' => ∃ H'', (Cl H → Cl H' → Gc H H' H'') ∧ Q .non H'', rt := fun v H' => ∃ H'', (Cl H → Cl H' → Gc H H' H'') ∧ Q v H'' } (start N vs) H) : FnOk P w K mg base CX0 (k + 1) f fd ps sp := by
  have G : FnOk P w K mg base CX0 (k + 1) f fd ps (fun vs H Q' E => ∃ Q, sp vs H Q E ∧ Q' = fun v H' => ∃ H'', (Cl H → Cl H' → Gc H H' H'') ∧ Q v H'') := by
    refine F.ok S (fun vs H Q E ⟨Q0, h, _⟩ => len vs H Q0 E h) fun cdv A outer s H vs Q' E hr ⟨Q0, h, e⟩ => ?_
    subst e
    exact hbody cdv A outer s H vs Q0 E hr h
  exact G.gc len fun vs H Q E h => ⟨Q, h, rfl⟩
theorem end_same {H H' : Hp} {v : V} {Q : VK} (e : Same H H') (q : Q v H) : ∃ H'', (Cl H → Cl H' → Gc H H' H'') ∧ Q v H'' := ⟨H, fun c _ => Gc.back c e, q⟩
theorem end_lst {H H' : Hp} {l : Addr} {xs : List V} {Q : VK} (e : Same H H') (n : H l = none) (h : H' l = some (.lst xs)) (q : ∀ p, H p = none → Q (.ref p) (upd H p (.lst xs))) : ∃ H'', (Cl H → Cl H' → Gc H H' H'') ∧ Q (.ref l) H'' :=
  ⟨upd H l (.lst xs), fun c _ => Gc.one c e n h trivial, q l n⟩
theorem Same.upd {H H' : Hp} {p : Addr} {o : HO} (e : Same H H') (n : H p = none) : Same H (upd H' p o) := fun b u h => by
  rw [upd_ne (ne_of_none h n)]
  exact e b u h
theorem Same.new {H H' : Hp} {p : Addr} {o : HO} (e : Same H H') (n : H' p = none) : Same H (L2.upd H' p o) := e.upd (e.free n)
end
end L2

set_option Elab.async false
set_option linter.all false
set_option maxRecDepth 100000
namespace L2
open PySem PySem.Spec PyProof.Rows
theorem nolen_lri : typeLookup (.type "list_reverseiterator") "__len__" = pure none := by rw [typeLookup_type, builtinLookup_eq_fast]; kernel_rfl
theorem hint_lri : typeLookup (.type "list_reverseiterator") "__length_hint__" = pure (some (.builtin "list_reverseiterator.__length_hint__")) := by rw [typeLookup_type, builtinLookup_eq_fast]; kernel_rfl
section
variable {prog : Program} {w : World} {A : Around} {s : Shared} {R : Result → Shared → Prop}
variable {I : Addr} {fp wr : List Addr} {G : Array GenState → Array GenState → Prop} {n : Nat} {P : Nat → Value → Prop} {St : Nat → Shared → Prop}
theorem extend_rev (W : WalksS prog w A.in1 I fp wr G n P St) (hT : ∀ i s, St i s → s.TypeIs (.ref I) "list_reverseiterator") (S : Addr) (res : Value) (c₀ : Nat) (hst : St 0 s) (hSf : S ∉ fp) (hI : I ∈ fp)
    (hS : s.heap.get? S = some { cls := .type "list", data := .seq #[] c₀ })
    (hR : ∀ s' acc' c', Moved (S :: wr) G s s' → s'.heap.get? S = some { cls := .type "list", dict := none, data := .seq acc' c', slots := #[] } → ItemsOf P acc' n → R (.ok (.ret res)) s') (hn : n ≤ sizeLine) :
    wpAny (model prog w) A.in1 (Builtin.List.listExtendWith (.ref S) (.ref I) res)
      (fun fin s' => match fin with | .done f => R (.ok f) s' | .again c' => c'.quiet = true ∧ codeAny (model prog w) A c' R s') (fun e s' => R (.error e) s') s := by
  have hSI : S ≠ I := fun e => hSf (e ▸ hI)
  unfold Builtin.List.listExtendWith
  refine wpAny_bind (wpAny_typeOf (hT 0 _ hst) ?_)
  have h1 : Builtin.List.listSameRef (.ref S) (.ref I) = false := by simp [Builtin.List.listSameRef, hSI]
  rw [if_neg (by rw [h1]; decide)]
  refine wpAny_bind (W.self 0 _ _ _ hst ?_)
  refine wpAny_bind (wpAny_holding ?_)
  unfold Builtin.List.listLengthHint
  refine wpAny_bind (wpAny_specialOf (hT 0 _ hst) nolen_lri ?_)
  show wpAny _ A.in1 (specialOf (Value.ref I) (Str.ofString "__length_hint__") >>= _) _ _ _
  refine wpAny_bind (wpAny_specialOf (hT 0 _ hst) hint_lri ?_)
  (generalize hid : ("list_reverseiterator.__length_hint__" : String) = id0; (fail_if_success (clear hid id0)); wp_delta; rw [show splitId id0 = some ("list_reverseiterator", "__length_hint__") from by subst hid; decide +kernel]; subst hid)
  refine wpAny_bind (wpAny_isInstance (b := true) (hT 0 _ hst) (by rw [isSubtype_type]; kernel_rfl) ?_)
  refine wpAny_pure ?_
  rw [if_neg (by decide)]
  exact wpAny_pure ⟨plainId_quiet F.plain_extend_loop _, codeAny_extend_loopS W hn _ hSf _ n 0 _ _ _ rfl (Nat.zero_le _) hst hS (ItemsOf.nil P) hR⟩
theorem list_init_rev (W : WalksS prog w A.in1 I fp wr G n P St) (hT : ∀ i s, St i s → s.TypeIs (.ref I) "list_reverseiterator") (S : Addr) (hst : St 0 s) (hSf : S ∉ fp) (hI : I ∈ fp)
    (hS : s.heap.get? S = some { cls := .type "list", data := .seq #[] })
    (hR : ∀ s' acc' c', Moved (S :: wr) G s s' → s'.heap.get? S = some { cls := .type "list", dict := none, data := .seq acc' c', slots := #[] } → ItemsOf P acc' n → R (.ok (.ret .none)) s') (hn : n ≤ sizeLine) :
    wpAny (model prog w) A.in1 (Builtin.«list.__init__» ⟨[.ref S, .ref I], []⟩)
      (fun fin s' => match fin with | .done f => R (.ok f) s' | .again c' => c'.quiet = true ∧ codeAny (model prog w) A c' R s') (fun e s' => R (.error e) s') s := by
  show wpAny _ A.in1 (do let old ← Builtin.List.listItems (.ref S); Builtin.List.listUpdate (.ref S) (fun _ => #[]); letGo old.toList.reverse; Builtin.List.listExtendWith (.ref S) (.ref I) .none) _ _ s
  refine wpAny_bind ?_
  unfold Builtin.List.listItems
  refine wpAny_bind (wpAny_seqItems hS rfl (wpAny_pure ?_))
  show wpAny _ A.in1 (updateSeq S (fun _ => #[]) >>= fun _ => letGo (#[] : Array Value).toList.reverse >>= fun _ => Builtin.List.listExtendWith (.ref S) (.ref I) .none) _ _ s
  refine wpAny_bind (wpAny_updateSeq hS rfl ?_)
  have hS₂ := Heap.get?_update_self (Obj.mapSeq (fun _ => (#[] : Array Value))) hS rfl
  have oth : ∀ b o, b ≠ S → s.heap.get? b = some o → (s.heap.update S (Obj.mapSeq (fun _ => (#[] : Array Value)))).get? b = some o :=
    fun b o hb e => (Heap.get?_update_other _ _ (Ne.symm hb)).trans e
  refine wpAny_bind (wpAny_letGo ?_)
  refine extend_rev W hT S .none _ (W.frame 0 s _ s.toks hst (Nat.le_refl _) fun b hb o e => oth b o (fun h => hSf (h ▸ hb)) e) hSf hI hS₂ (fun s' acc' c' hm hS' hacc => ?_) hn
  exact hR s' acc' c' (Moved.trans W.gtrans ((Moved.refl W.grefl).then_heap (Nat.le_refl _) fun b o hb e => oth b o (fun h => hb (h ▸ List.mem_cons_self)) e) hm) hS' hacc
end
section
variable {prog : Program} {w : World} {A : Around} {E : Value → Shared → Prop} {s : Shared}
variable {I : Addr} {fp wr : List Addr} {G : Array GenState → Array GenState → Prop} {n : Nat} {P : Nat → Value → Prop} {St : Nat → Shared → Prop}
theorem list_of_rev {Q : Value → Shared → Prop} (W : WalksS prog w A.in1.in1 I fp wr G n P St) (hT : ∀ i s, St i s → s.TypeIs (.ref I) "list_reverseiterator") (hst : St 0 s) (hfp : ∀ b ∈ fp, b < s.heap.objs.size) (hI : I ∈ fp)
    (hQ : ∀ s' acc' c', Moved (s.heap.objs.size :: wr) G { s with heap := s.heap.push { cls := .type "list", data := .seq #[] } } s' →
      s'.heap.get? s.heap.objs.size = some { cls := .type "list", dict := none, data := .seq acc' c', slots := #[] } → ItemsOf P acc' n → Q (.ref s.heap.objs.size) s') (hn : n ≤ sizeLine) :
    wpAny (model prog w) A (call (.type "list") [.ref I]) Q E s := by
  have hSf : s.heap.objs.size ∉ fp := fun hm => Nat.lt_irrefl _ (hfp _ hm)
  refine callType_codes (Q₁ := fun obj s₁ => obj = .ref s.heap.objs.size ∧ s₁ = { s with heap := s.heap.push { cls := .type "list", data := .seq #[] } }) F.called_list (F.typeCall_list_1 _) F.entry_list_init
    (code_list_new _ ⟨rfl, rfl⟩) fun obj s₁ h₁ => ?_
  obtain ⟨rfl, rfl⟩ := h₁
  have hS : (s.heap.push { cls := .type "list", data := .seq #[] }).get? s.heap.objs.size = some { cls := .type "list", data := .seq #[] } := Heap.get?_push_size _ rfl
  refine ⟨⟨_, hS, rfl⟩, F.args_list_init_2 _ _, list_init_rev W hT _ (W.frame 0 s _ s.toks hst (Nat.le_refl _) fun b _ o e => Heap.get?_push_of_some _ e) hSf hI hS (fun s' acc' c' hm hS' hacc => ?_) hn⟩
  exact ⟨rfl, hQ s' acc' c' hm hS' hacc⟩
end
section
variable {X : Cx}
def tLRev (K : PySem.W.Frag) (ta : TA) : TE := fun σ H Q => ta σ H fun vs H1 => ∃ a ys, vs = [.ref a] ∧ SqL K H1 a ys ∧ ∀ l, H1 l = none → Q (.ref l) (upd H1 l (.lst ys.reverse))
theorem pe_lrev {a : Expr} {ta : TA} {p pos p' pos' : Pos} (hc : X.calm = true) (hg : Gl X "list") (hm : X.mg "list" = none) (hg' : Gl X "reversed") (hm' : X.mg "reversed" = none) (ha : PA X [a] ta) (hs : starEach [a] X.env = [(false, eval a X.env)] := by rfl)
    (hs' : starEach [.Call (.Name "reversed" p') [a] [] pos'] X.env = [(false, eval (.Call (.Name "reversed" p') [a] [] pos') X.env)] := by rfl) : PE X (.Call (.Name "list" p) [.Call (.Name "reversed" p') [a] [] pos'] [] pos) (tLRev X.K ta) := by
  intro pins s σ H Q I h
  refine Call_ (ld_blt I hg hm (show bootBuiltins "list" = some (.type "list") by decide +kernel) (PyProof.Rows.callWith_type1 ?_ hs' rfl))
  rw [hs']
  show wpAny _ _ (spliced ((false, eval (.Call (.Name "reversed" p') [a] [] pos') X.env) :: backTo pos [])) _ _ s
  refine Calls.spliced_cons (Call_ (ld_blt I hg' hm' (show bootBuiltins "reversed" = some (.type "reversed") by decide +kernel) (PyProof.Rows.callWith_type1 (thn (ha pos' pins s σ H _ I h) fun us s1 ⟨vs, H1, I1, r1, q1⟩ => ?_) hs rfl)))
  obtain ⟨b, ys, rfl, hq, q⟩ := q1
  obtain ⟨u, rfl, rx⟩ := vals1 r1
  cases rx
  obtain ⟨its, rv, pl, hz⟩ := I1.list hq
  have hl := rv.length
  refine call_reversed_list pl.isList ?_
  refine Calls.spliced_nil ?_
  generalize hpp : s1.heap.objs.size = pp
  have I2 : Inv X pins σ H1 { s1 with heap := s1.heap.push (revObj b ((its.toArray.size : Int) - 1)) } := I1.kept (t' := s1.toks) fun c o e => Heap.get?_push_of_some _ e
  have hrev : (s1.heap.push (revObj b ((its.toArray.size : Int) - 1))).IsRevIter pp b ((its.toArray.size : Int) - 1) := by rw [← hpp]; exact ⟨_, Heap.get?_push_size _ rfl, rfl, rfl⟩
  have hd : X.A.in1.in1.handled = none := I.ok.hd hc
  have hblt : b < s1.heap.objs.size := let ⟨o, n, e, _⟩ := pl; Heap.lt_size e
  have hbp : b ≠ pp := by rw [← hpp]; exact Nat.ne_of_lt hblt
  have pl2 : (s1.heap.push (revObj b ((its.toArray.size : Int) - 1))).IsList b its.toArray := pl.isList.at fun o e => Heap.get?_push_of_some _ e
  have W := (Walks.listRev (prog := X.prog) (w := X.w) hd pp b hbp its.toArray).toS
  have hsz : (s1.heap.push (revObj b ((its.toArray.size : Int) - 1))).objs.size = pp + 1 := by rw [Heap.size_push, hpp]
  refine list_of_rev W (fun i s st => st.2.1.typeIs) ⟨Nat.zero_le _, ?_, pl2⟩ (fun c hb => ?_) (by simp) (fun s' acc' c' hmv hS' hacc => ?_) (by rw [List.size_toArray, ← hl]; exact hz)
  · have e : ((its.toArray.size : Nat) : Int) - 1 - ((0 : Nat) : Int) = (its.toArray.size : Int) - 1 := by omega
    rw [e]
    exact hrev
  · show c < (s1.heap.push (revObj b ((its.toArray.size : Int) - 1))).objs.size
    rw [hsz]
    rcases List.mem_cons.mp hb with z | z
    · rw [z]; exact Nat.lt_succ_self _
    · have z' : c = b := by simpa using z
      rw [z', ← hpp]; exact Nat.lt_succ_of_lt hblt
  · have hk : ∀ c o, c ≠ pp → (s1.heap.push (revObj b ((its.toArray.size : Int) - 1))).get? c = some o → s'.heap.get? c = some o := fun c o hb e => by
      refine hmv.heap c o (fun z => ?_) (Heap.get?_push_of_some _ e)
      rcases List.mem_cons.mp z with z | z
      · exact absurd (Heap.lt_size e) (by rw [z]; exact Nat.lt_irrefl _)
      · exact hb (by simpa using z)
    have fr : H1 pp = none := by rw [← hpp]; exact I1.fresh
    have ppl : ∀ c o, s1.heap.get? c = some o → c ≠ pp := fun c o e => by rw [← hpp]; exact Nat.ne_of_lt (Heap.lt_size e)
    have I3 : Inv X pins σ H1 { s1 with heap := s'.heap, toks := s'.toks } := Inv.turned (s := { s1 with heap := s1.heap.push (revObj b ((its.toArray.size : Int) - 1)) }) (h' := s'.heap) (t' := s'.toks) (it := pp) I2 hk fr (by rw [← hpp]; exact Nat.ne_of_gt I1.lt) (.inr (by rw [← hpp]; exact I1.sz)) (fun x c e => by
      obtain ⟨v, o, ho, _⟩ := I1.cell x c e
      exact ppl c o ho) (fun pn hp => ppl _ _ (I1.pin pn hp).1)
    have es : s' = { s1 with heap := s'.heap, toks := s'.toks } := by
      obtain ⟨h', g', d', tk', os'⟩ := s'
      have e1 : g' = s1.gens := hmv.gens
      have e2 : d' = s1.drawn := hmv.drawn
      have e3 : os' = s1.os := hmv.os
      subst e1 e2 e3
      rfl
    rw [es]
    have fD : H1 (s1.heap.push (revObj b ((its.toArray.size : Int) - 1))).objs.size = none := I2.fresh
    have ha' : Vals ys.reverse acc'.toList := by
      have rr := rv.reverse
      have e : acc'.toList = its.reverse := by
        apply List.ext_getElem?
        intro i
        by_cases hi : i < its.length
        · have hi' : i < acc'.size := by rw [hacc.1, List.size_toArray]; exact hi
          have e1 : acc'[i]? = some acc'[i] := Array.getElem?_eq_getElem hi'
          have e2 := hacc.2 i _ e1
          rw [Array.getElem?_toList, e1, List.getElem?_reverse hi, ← e2]
          simp
        · have hi' : acc'.size ≤ i := by rw [hacc.1, List.size_toArray]; omega
          rw [List.getElem?_eq_none (by simpa using hi'), List.getElem?_eq_none (by simpa using hi)]
      rw [e]
      exact rr
    have okD : HOk X.prog X.w (upd H1 (s1.heap.push (revObj b ((its.toArray.size : Int) - 1))).objs.size (.lst ys.reverse)) s'.heap := by
      intro c o e
      by_cases hcD : c = (s1.heap.push (revObj b ((its.toArray.size : Int) - 1))).objs.size
      · subst hcD
        rw [upd_same] at e
        cases e
        exact ⟨by rw [List.length_reverse]; exact hz, acc'.toList, c', ha', by simpa using hS'⟩
      · rw [upd_ne hcD] at e
        exact (I3.hok c o e).stay (fun d v _ z => z) (fun d z => by rw [upd_ne (ne_of_none z fD)]; exact z) fun d zs z => by rw [upd_ne (ne_of_none z fD)]; exact z
    have ltD : ∀ c o, s1.heap.get? c = some o → c ≠ (s1.heap.push (revObj b ((its.toArray.size : Int) - 1))).objs.size := fun c o e => Nat.ne_of_lt (Heap.lt_size (Heap.get?_push_of_some _ e))
    refine ⟨.ref _, _, I1.call' (s' := { s1 with heap := s'.heap, toks := s'.toks }) (ch := []) rfl ⟨fun c o e n hb hx => hk c o (ppl c o e) (Heap.get?_push_of_some _ e), fun c o e n hb hx => ⟨o.slots, hk c o (ppl c o e) (Heap.get?_push_of_some _ e)⟩, fun c o e n hx => by rw [upd_ne (ltD c o e)]; exact n,
      fun c o e hx => ⟨o, hk c o (ppl c o e) (Heap.get?_push_of_some _ e)⟩, fun c xs e => by rw [upd_ne (ne_of_none e fD)]; exact e, fun c o u e => by rw [upd_ne (ne_of_none e fD)]; exact e, fun c ps e => ⟨#[], by rw [upd_ne (ne_of_none e fD), e]; simp⟩⟩ okD I1.bare (fun c z => absurd z (by simp)), rfl, q _ fD⟩
end
end L2

set_option Elab.async false
set_option linter.all false
set_option maxRecDepth 100000
namespace L2
open PySem PySem.Spec PyProof.Rows
def occStep (z : Str) (c : Nat) (i : Nat) (r : Array Nat × Nat) : Id (ForInStep (Array Nat × Nat)) :=
  if ((r.fst.size < z.length + 1 ∧ r.snd ≤ i) ∧ i + (Str.mk #[c]).length ≤ z.length) ∧ Builtin.Str.subAt z ⟨#[c]⟩ i = true then pure (ForInStep.yield (r.fst.push i, i + (Str.mk #[c]).length)) else pure (ForInStep.yield (r.fst, r.snd))
theorem subAt_one (z : Str) (c i d : Nat) (hi : z.cps.toList[i]? = some d) : Builtin.Str.subAt z ⟨#[c]⟩ i = (d == c) := by
  unfold Builtin.Str.subAt
  have hlt : i < z.cps.size := by simpa using (List.getElem?_eq_some_iff.mp hi).1
  have e : z.cps.extract i (i + (Str.mk #[c]).length) = #[d] := by
    apply Array.ext
    · simp [Str.length]; omega
    · intro j h1 h2
      have : j = 0 := by simp at h2; omega
      subst this
      have := (List.getElem?_eq_some_iff.mp hi).2
      simpa using this
  rw [e, Bool.eq_iff_iff]
  simp
theorem occ_go (z : Str) (c : Nat) : ∀ (k i : Nat) (found : Array Nat) (free : Nat), i + k = z.length + 1 → free ≤ i → found.size ≤ i →
    (forIn (List.range' i k) (found, free) (occStep z c) : Id _).run.fst.size = found.size + (z.cps.toList.drop i).count c
  | 0, i, found, free, h, _, _ => by
    have : z.cps.toList.drop i = [] := List.drop_of_length_le (by simp [Str.length] at h ⊢; omega)
    rw [this]
    rfl
  | k + 1, i, found, free, h, hf, hs => by
    rw [List.range'_succ, List.forIn_cons]
    cases hi : z.cps.toList[i]? with
    | some d =>
      have hlt : i < z.cps.size := by simpa using (List.getElem?_eq_some_iff.mp hi).1
      have hd : z.cps.toList.drop i = d :: z.cps.toList.drop (i + 1) := by
        rw [List.drop_eq_getElem_cons (by simpa using hlt)]
        congr 1
        exact (List.getElem?_eq_some_iff.mp hi).2
      have h1 : found.size < z.length + 1 := by show found.size < z.cps.size + 1; omega
      have h2 : i + (Str.mk #[c]).length ≤ z.length := by show i + 1 ≤ z.cps.size; omega
      unfold occStep
      by_cases hc : d = c
      · rw [if_pos ⟨⟨⟨h1, hf⟩, h2⟩, by rw [subAt_one z c i d hi]; simpa using hc⟩]
        have ih := occ_go z c k (i + 1) (found.push i) (i + (Str.mk #[c]).length) (by omega) (by show i + 1 ≤ i + 1; omega) (by rw [Array.size_push]; omega)
        simp only [pure_bind]
        refine ih.trans ?_
        rw [hd, hc, List.count_cons_self, Array.size_push]
        omega
      · rw [if_neg (by rintro ⟨_, h⟩; rw [subAt_one z c i d hi] at h; exact hc (by simpa using h))]
        have ih := occ_go z c k (i + 1) found free (by omega) (by omega) (by omega)
        simp only [pure_bind]
        refine ih.trans ?_
        rw [hd, List.count_cons_of_ne hc]
    | none =>
      have hge : z.cps.size ≤ i := by simpa using hi
      have e1 : z.cps.toList.drop i = [] := List.drop_of_length_le (by simp; omega)
      have e2 : z.cps.toList.drop (i + 1) = [] := List.drop_of_length_le (by simp; omega)
      unfold occStep
      rw [if_neg (by rintro ⟨⟨_, h⟩, _⟩; have h' : i + 1 ≤ z.cps.size := h; omega)]
      have ih := occ_go z c k (i + 1) found free (by omega) (by omega) (by omega)
      simp only [pure_bind]
      refine ih.trans ?_
      rw [e1, e2]
theorem occ_one (z : Str) (c : Nat) : (Builtin.Str.occurrences z ⟨#[c]⟩ 0 z.length (z.length + 1)).length = z.cps.toList.count c := by
  have h := occ_go z c (z.length + 1) 0 #[] 0 (by omega) (by omega) (by simp)
  rw [List.drop_zero] at h
  simp only [Array.size_empty, Nat.zero_add] at h
  rw [← h]
  unfold Builtin.Str.occurrences
  simp
  rfl
def repS (z : Str) (k : Nat) : Str := ⟨(List.replicate k z.cps.toList).flatten.toArray⟩
theorem rep_fold (z : Str) : ∀ (k : Nat) (acc : List Nat), (List.replicate k z.cps).foldl (· ++ ·) acc.toArray = (acc ++ (List.replicate k z.cps.toList).flatten).toArray
  | 0, acc => by simp
  | k + 1, acc => by
    have e : acc.toArray ++ z.cps = (acc ++ z.cps.toList).toArray := by simp
    rw [List.replicate_succ, List.foldl_cons, e, rep_fold z k, List.replicate_succ, List.flatten_cons, List.append_assoc]
theorem mul_repS (z : Str) (k : Nat) : Txt.mul z (k : Int) = repS z k := by
  unfold Txt.mul repS
  split
  · have : k = 0 := by omega
    subst this
    rfl
  · split
    · rename_i h1 h2
      simp only [Bool.or_eq_true, beq_iff_eq] at h2
      rcases h2 with h2 | h2
      · have : k = 1 := by omega
        subst this
        simp
      · have hz : z.cps = #[] := Array.eq_empty_of_size_eq_zero h2
        have : z = ⟨#[]⟩ := by cases z; simp at hz; rw [hz]
        subst this
        simp
    · have := rep_fold z k []
      simp only [List.nil_append, Int.toNat_natCast] at this ⊢
      rw [← this]
section
variable {X : Cx}
theorem mt_count : MtM X "str.count" (fun x xs H Q => ∃ z c, x = .str z ∧ xs = [.str ⟨#[c]⟩] ∧ Q (.int (z.cps.toList.count c : Nat)) H) := by
  intro pins s σ H x xs v us Q I rx rv h
  obtain ⟨z, c, rfl, rfl, q⟩ := h
  obtain ⟨t, rfl⟩ := rx
  obtain ⟨u, rfl, t', rfl⟩ := rv.one
  refine call_gives F.slot_str_count (typeIs_str _ _ _) F.entry_str_count (F.args_str_count_2 _ _) (gives_str_count z ⟨#[c]⟩ t t') ?_
  exact ⟨.int _, H, I.tok _, ⟨_, by rw [occ_one]⟩, q⟩
theorem op_mulS : OpR X (binaryOp .Mult) (fun x y H Q => ∃ (z : Str) (k : Nat), x = .str z ∧ y = .int k ∧ z.length ≤ 1000 ∧ k ≤ 1000 ∧ Q (.str (repS z k)) H) := by
  intro pins s σ H x y v u Q I rx ry h
  obtain ⟨z, k, rfl, rfl, hz, hk, q⟩ := h
  obtain ⟨t, rfl⟩ := rx
  obtain ⟨t', rfl⟩ := ry
  refine SB.mul ⟨?_, ?_, ?_⟩ fun t'' k' => ⟨.str _, H, I.tok _, ⟨t'', by rw [mul_repS]⟩, q⟩
  · simp only [Bool.or_eq_false_iff, decide_eq_false_iff_not]; omega
  · intro h1 _ h2
    have : (2 ^ 63 - 1 : Int) / (k : Int) ≥ 1000000 := by
      have hk' : (0 : Int) < k := by omega
      exact Int.le_ediv_of_mul_le hk' (by omega)
    omega
  · intro h1 _
    have : z.length * (k : Int).toNat ≤ 1000 * 1000 := Nat.mul_le_mul hz (by omega)
    unfold Builtin.Str.tooLong
    simp only [decide_eq_false_iff_not]
    have h3 : sizeLine ≥ 1000000 := by decide
    omega
end
end L2

set_option Elab.async false
set_option linter.all false
set_option maxRecDepth 100000
namespace L2
open PySem PySem.Spec PyProof.Rows
section
variable (P : Program) (w : World) (K : PySem.W.Frag) (mg : Str → Option Value) (base : Heap)
structure Fn1 (k : Nat) (x : Str) (sp : Sp) : Prop where
  ex : ∃ (f : Addr) (fd : FuncData) (ps : List Str), FnOk P w K mg base CX0 k f fd ps sp ∧ mg x = some (.ref f) ∧ PySem.W.keepIn K (.ref f) = true ∧ Binds K fd ps []
structure Mth (k : Nat) (C : Addr) (m : Str) (sp : Sp) : Prop where
  cls : Cls K C
  ex : ∃ (f : Addr) (fd : FuncData) (ps : List Str), Meth K C m f ∧ FnOk P w K mg base CX0 k f fd ps sp ∧ Binds K fd ps []
structure Mk1 (k : Nat) (x : Str) (C : Addr) (sp : Sp) : Prop where
  ex : ∃ (f : Addr) (fd : FuncData) (ps : List Str), Mk K C f ∧ FnOk P w K mg base CX0 k f fd ps sp ∧ Binds K fd ps [] ∧ mg x = some (.ref C)
end
section
variable {X : Cx} {k j : Nat} {x m : Str} {sp : Sp} {C : Addr} {p pos apos : Pos} {e o : Expr} {es : List Expr} {ta : TE} {t : TA}
theorem pe_fn (F : Fn1 X.prog X.w X.K X.mg X.base k x sp) (hr : Room j X.A) (hg : Gl X x) (ha : PA X (e :: es) t) (hk : k ≤ j := by decide) (hdb : (x == ("__debug__" : Str)) = false := by decide) (he : starEach (e :: es) X.env = (false, eval e X.env) :: starEach es X.env := by rfl)
    (hpl : (backTo pos (starEach es X.env)).any (·.1) = false := by rfl) : PE X (.Call (.Name x p) (e :: es) [] pos) (tCall sp [] E0 t) := by
  obtain ⟨f, fd, ps, G, hm, kp, b⟩ := F.ex
  exact pe_call G (hr.mono hk) hg hm kp b .nil pass0 ha hdb he hpl
theorem pe_mk (F : Mk1 X.prog X.w X.K X.mg X.base k x C sp) (hr : Room j X.A) (hg : Gl X x) (ha : PA X (e :: es) t) (hk : k + 1 ≤ j := by decide) (hdb : (x == ("__debug__" : Str)) = false := by decide) (he : starEach (e :: es) X.env = (false, eval e X.env) :: starEach es X.env := by rfl)
    (hpl : (backTo pos (starEach es X.env)).any (·.1) = false := by rfl) : PE X (.Call (.Name x p) (e :: es) [] pos) (tMake C sp [] E0 t) := by
  obtain ⟨f, fd, ps, M, G, b, hm⟩ := F.ex
  exact pe_make M G (hr.mono hk) hg hm b .nil pass0 ha hdb he hpl
theorem pe_mk0 (F : Mk1 X.prog X.w X.K X.mg X.base k x C sp) (hr : Room j X.A) (hg : Gl X x) (hk : k + 1 ≤ j := by decide) (hdb : (x == ("__debug__" : Str)) = false := by decide) : PE X (.Call (.Name x p) [] [] pos) (tMake C sp [] E0 tNil) := by
  obtain ⟨f, fd, ps, M, G, b, hm⟩ := F.ex
  exact pe_make0 M G (hr.mono hk) hg hm b .nil pass0 hdb
def tMethD (P : Program) (w : World) (K : PySem.W.Frag) (mg : Str → Option Value) (base : Heap) (k : Nat) (m : Str) (ta : TE) (t : TA) : TE := fun σ H Q => ta σ H fun x H1 => ∃ a C dx fs sp, x = .ref a ∧ H1 a = some (.ins C dx fs) ∧ fs.lookup m = none ∧ Mth P w K mg base k C m sp ∧
  t σ H1 fun vs H2 => sp (x :: vs) H2 Q E0
theorem pe_mtD {pl : Sem Bool} (k : Nat) (hr : Room j X.A) (he : PE X o ta) (ha : PA X (e :: es) t) (hk : k ≤ j := by decide)
    (hst : starEach (e :: es) X.env = (false, eval e X.env) :: starEach es X.env := by rfl) (hpl : (backTo pos (starEach es X.env)).any (·.1) = false := by rfl)
    (ht : eval (.Call (.Attribute o m apos) (e :: es) [] pos) X.env = (do
      let ov ← eval o X.env
      standAt apos.atName
      let (f, first) ← holding [ov] (getMethod ov m pl)
      callWith pos f first (backTo pos (starEach (e :: es) X.env)) (backToKw pos (keywordEach [] X.env))) := by rfl) :
    PE X (.Call (.Attribute o m apos) (e :: es) [] pos) (tMethD X.prog X.w X.K X.mg X.base k m ta t) := by
  intro pins s σ H Q I h
  refine PySem.W.methodCall_KW (pl := pl) (thn (he pins s σ H _ I h) fun u s1 ⟨x, H1, I1, rx, a, C, dx, fs, sp, ex, ea, l, M, q⟩ => ?_) ht
  subst ex
  obtain rfl : u = Value.ref a := rx
  obtain ⟨f, fd, ps, hm, F, hb⟩ := M.ex
  refine getmeth_ok I1 ea M.cls hm l ?_
  refine PySem.W.callWith_K (first := [.ref a]) (h₀ := X.base) I.ok.mod.kin hm.kp (thn (ha pos pins s1 σ H1 _ I1 q) fun us s2 ⟨vs, H2, I2, r, q2⟩ => ⟨I2.kIn, ?_⟩) hst hpl
  exact run_fn (us := .ref a :: us) (vs := .ref a :: vs) (dvs := []) F (hr.mono hk) hb .nil pass0 I2 (.cons rfl r) (by rw [List.append_nil]; exact q2)
theorem pe_globI {i : Int} (hg : Gl X x) (hm : ∃ t, X.mg x = some (.int i t)) (hd : (x == ("__debug__" : Str)) = false := by decide) : PE X (.Name x pos) (tC (.int i)) := by
  obtain ⟨t, hm⟩ := hm
  exact pe_glob hg hm ⟨t, rfl⟩ hd
theorem pe_neg {i : Int} {c p1 p2} : PE X (.UnaryOp .USub (.Constant (.int i) c p1) p2) (tC (.int (-i))) := by
  intro pins s σ H Q I h
  exact pe_un un_neg pe_int pins s σ H Q I ⟨i, rfl, h⟩
end
end L2
namespace L2
open PySem PySem.Spec PyProof.Rows
section
variable {X : Cx} {K : PySem.W.Frag}
theorem call_len_seqK (h : X.K = K) : CallR X (.builtin "len") (fun xs H Q => ∃ p ys, xs = [.ref p] ∧ (SqL K H p ys ∨ SqT K H p ys) ∧ Q (.int ys.length) H) := by subst h; exact call_len_seq
theorem ix_listK (h : X.K = K) : IxR X (rIxL K) := by subst h; exact ix_list
theorem ix_tupK (h : X.K = K) : IxR X (rIxT K) := by subst h; exact ix_tup
end
end L2
namespace L2
open PySem PySem.Spec PyProof.Rows
def tK (vs : List V) : TA := fun _ H Q => Q vs H
end L2

set_option Elab.async false
set_option linter.all false
set_option maxRecDepth 100000
namespace L2
open PySem PySem.Spec PyProof.Rows
section
variable {κ : Type} [DecidableEq κ]
def valV (kvs : List (κ × V)) (k : κ) : Option V := (kvs.find? fun kv => decide (kv.1 = k)).map (·.2)
def putK (kvs : List (κ × V)) (k : κ) (v : V) : List (κ × V) :=
  if (kvs.any fun kv => decide (kv.1 = k)) = true then kvs.map (fun kv => if kv.1 = k then (kv.1, v) else kv) else kvs ++ [(k, v)]
theorem valV_pos {p : κ × V} {r : List (κ × V)} {k : κ} (e : p.1 = k) : valV (p :: r) k = some p.2 := by simp [valV, List.find?_cons, e]
theorem valV_neg {p : κ × V} {r : List (κ × V)} {k : κ} (e : ¬ p.1 = k) : valV (p :: r) k = valV r k := by simp [valV, List.find?_cons, e]
theorem valV_any (k : κ) : ∀ kvs : List (κ × V), (kvs.any fun kv => decide (kv.1 = k)) = (valV kvs k).isSome
  | [] => rfl
  | p :: r => by
    rw [List.any_cons]
    by_cases e : p.1 = k
    · simp only [valV_pos e, decide_eq_true e, Bool.true_or, Option.isSome_some]
    · rw [valV_neg e, decide_eq_false e, Bool.false_or]; exact valV_any k r
theorem valV_map (k j : κ) (y : V) : ∀ kvs : List (κ × V), valV (kvs.map fun kv => if kv.1 = k then (kv.1, y) else kv) j = (valV kvs j).map fun x => if j = k then y else x
  | [] => rfl
  | p :: r => by
    have ih := valV_map k j y r
    rw [List.map_cons]
    by_cases h : p.1 = k
    · rw [if_pos h]
      by_cases e : p.1 = j
      · rw [valV_pos (p := (p.1, y)) e, valV_pos e, Option.map_some, if_pos (e.symm.trans h)]
      · rw [valV_neg (p := (p.1, y)) e, valV_neg e, ih]
    · rw [if_neg h]
      by_cases e : p.1 = j
      · rw [valV_pos (p := p) e, valV_pos e, Option.map_some, if_neg (fun z => h (e.trans z))]
      · rw [valV_neg (p := p) e, valV_neg e, ih]
theorem valV_snoc (k j : κ) (y : V) : ∀ kvs : List (κ × V), valV kvs k = none → valV (kvs ++ [(k, y)]) j = if j = k then some y else valV kvs j
  | [], _ => by
    by_cases e : k = j
    · rw [if_pos e.symm]; exact valV_pos (p := (k, y)) e
    · rw [if_neg (fun z => e z.symm)]; exact valV_neg (p := (k, y)) e
  | p :: r, hn => by
    rw [List.cons_append]
    have hk : ¬ p.1 = k := fun z => by rw [valV_pos z] at hn; cases hn
    rw [valV_neg hk] at hn
    have ih := valV_snoc k j y r hn
    by_cases e : p.1 = j
    · rw [valV_pos e, valV_pos e, if_neg (fun z => hk (e.trans z))]
    · rw [valV_neg e, valV_neg e, ih]
theorem valV_put (kvs : List (κ × V)) (k j : κ) (y : V) : valV (putK kvs k y) j = if j = k then some y else valV kvs j := by
  unfold putK
  by_cases a : (kvs.any fun kv => decide (kv.1 = k)) = true
  · rw [if_pos a, valV_map]
    rw [valV_any] at a
    by_cases e : j = k
    · obtain ⟨x, hx⟩ := Option.isSome_iff_exists.mp a
      rw [if_pos e, e, hx, Option.map_some, if_pos rfl]
    · rw [if_neg e]
      cases valV kvs j with
      | none => rfl
      | some x => rw [Option.map_some, if_neg e]
  · rw [if_neg a]
    refine valV_snoc k j y kvs ?_
    rw [valV_any] at a
    cases q : valV kvs k with
    | none => rfl
    | some x => rw [q] at a; exact (a rfl).elim
theorem length_putK (kvs : List (κ × V)) (k : κ) (v : V) : (putK kvs k v).length ≤ kvs.length + 1 := by
  unfold putK
  split
  · rw [List.length_map]; omega
  · rw [List.length_append, List.length_cons, List.length_nil]; omega
theorem RelO.isSome_eq {o : Option V} {u : Option Value} (r : RelO o u) : o.isSome = u.isSome := by
  cases o with
  | none => cases u with
    | none => rfl
    | some _ => exact (show False from r).elim
  | some _ => cases u with
    | none => exact (show False from r).elim
    | some _ => rfl
theorem KV.val {kvs : List (κ × V)} {vs : List (κ × Value)} (r : KV kvs vs) (k : κ) : RelO (valV kvs k) (valueAt vs k) := by
  unfold KV at r
  induction r with
  | nil => exact True.intro
  | @cons p q ps qs h t ih =>
    obtain ⟨h1, h2⟩ := h
    by_cases e : p.1 = k
    · have e' : q.1 = k := h1.symm.trans e
      have b : valueAt (q :: qs) k = some q.2 := by simp [valueAt, List.find?_cons, e']
      rw [valV_pos e, b]; exact h2
    · have e' : ¬ q.1 = k := fun z => e (h1.trans z)
      have b : valueAt (q :: qs) k = valueAt qs k := by simp [valueAt, List.find?_cons, e']
      rw [valV_neg e, b]; exact ih
theorem KV.any {kvs : List (κ × V)} {vs : List (κ × Value)} (r : KV kvs vs) (k : κ) : (kvs.any fun kv => decide (kv.1 = k)) = vs.any fun kv => decide (kv.1 = k) := by
  unfold KV at r
  induction r with
  | nil => rfl
  | cons h t ih => rw [List.any_cons, List.any_cons, ih, h.1]
theorem KV.repl {kvs : List (κ × V)} {vs : List (κ × Value)} (r : KV kvs vs) (k : κ) {y : V} {u : Value} (ry : RelV y u) :
    KV (kvs.map fun kv => if kv.1 = k then (kv.1, y) else kv) (vs.map fun kv => if kv.1 = k then (kv.1, u) else kv) := by
  unfold KV at r ⊢
  induction r with
  | nil => exact .nil
  | @cons p q ps qs h t ih =>
    rw [List.map_cons, List.map_cons]
    refine .cons ?_ ih
    obtain ⟨h1, h2⟩ := h
    by_cases e : p.1 = k
    · rw [if_pos e, if_pos (h1.symm.trans e)]; exact ⟨h1, ry⟩
    · rw [if_neg e, if_neg (fun z => e (h1.trans z))]; exact ⟨h1, h2⟩
theorem KV.put {kvs : List (κ × V)} {vs : List (κ × Value)} (r : KV kvs vs) (k : κ) {y : V} {u : Value} (ry : RelV y u) : KV (putK kvs k y) (stored vs k u) := by
  unfold putK stored
  rw [r.any k]
  by_cases e : (vs.any fun kv => decide (kv.1 = k)) = true
  · rw [if_pos e, if_pos e]; exact r.repl k ry
  · rw [if_neg e, if_neg e]; exact Paired.snoc r ⟨rfl, ry⟩
theorem KV.length {kvs : List (κ × V)} {vs : List (κ × Value)} (r : KV kvs vs) : kvs.length = vs.length := Paired.length r
end
theorem kV_is {P : Program} {w : World} {k : Key} {u : Value} (r : RelV (kV k) u) : (mixKind P w).is k u = true := by
  cases k with
  | inl i => obtain ⟨t, e⟩ := (show ∃ t, u = Value.int i t from r); subst e; exact mixKind_int P w i t
  | inr x => obtain ⟨t, e⟩ := (show ∃ t, u = Value.str x t from r); subst e; exact mixKind_str P w x t
section
variable {X : Cx} {pins : List (Addr × Obj)} {σ : St} {H : Hp} {s : Shared} {a : Addr}
theorem Inv.big (I : Inv X pins σ H s) : sysModules < s.heap.objs.size := by
  have h : mainGlobals < s.heap.objs.size := (I.mod.glob.keeps I.bk).lt
  exact Nat.lt_trans (by decide) h
theorem d_write {h' : Heap} {t' : Nat} {ob : HO} (I : Inv X pins σ H s) (mu : Mut (H a)) (hs : Heap.SameBut a s.heap h') (he : ∃ q, h'.get? a = some q) (new : ObjOk X.prog X.w (upd H a ob) h' a ob) :
    Inv X pins σ (upd H a ob) { s with heap := h', toks := t' } :=
  I.write (x := a) (e := a) mu (.inl rfl) (fun b q hb z => (hs.2 b hb).trans z) he new
theorem dk_new {P : Program} {w : World} {H' : Hp} {h' : Heap} {kvs : List (Key × V)} {vs : List (Key × Value)} (z : kvs.length ≤ sizeLine) (hd : (a == sysModules) = false) (rel : KV kvs vs) (dd : h'.DictOf (mixKind P w) a vs) :
    ObjOk P w H' h' a (.dK kvs) := ⟨z, hd, vs, rel, dd⟩
end
end L2

set_option Elab.async false
set_option linter.all false
set_option maxRecDepth 100000
namespace L2
open PySem PySem.Spec PyProof.Rows
section
variable {X : Cx}
def tDNew : TE := fun _ H Q => ∀ p, H p = none → Q (.ref p) (upd H p (.dK []))
theorem pe_dnew {pos : Pos} : PE X (.Dict [] [] pos) tDNew := fun pins s σ H Q I h =>
  wpAny_Dict_empty ⟨.ref s.heap.objs.size, _, I.laid (a := s.heap.objs.size) (o := .dK []) (t' := s.toks) (fun _ _ q => Heap.get?_push_of_some _ q) (Nat.le_refl _)
    ⟨Nat.zero_le _, beq_eq_false_iff_ne.mpr (Ne.symm (Nat.ne_of_lt I.big)), [], .nil, Heap.DictOf.new s.heap⟩, rfl, h _ (I.hok.fresh (Nat.le_refl _))⟩
def rNotInD : R2 := fun x y H Q => ∃ (i : Int) (d : Addr) (kvs : List (Key × V)), x = .int i ∧ y = .ref d ∧ H d = some (.dK kvs) ∧ Q (.bl (!(valV kvs (.inl i)).isSome)) H
theorem op_notin_d : OpR X (compareOp .NotIn) rNotInD := by
  intro pins s σ H x y v u Q I rx ry h
  obtain ⟨i, d, kvs, rfl, rfl, e, q⟩ := h
  obtain rfl : u = Value.ref d := ry
  obtain ⟨z, hd, vs, rel, dd⟩ := (show ObjOk X.prog X.w H s.heap d (.dK kvs) from I.hok d _ e)
  refine wpAny_notIn_of (kV_is (k := .inl i) rx) hd dd.mapOf ?_
  rw [← (rel.val (.inl i)).isSome_eq]
  exact ⟨.bl _, H, I.tok _, rfl, q⟩
def rSetD : V → V → V → Hp → (Hp → Prop) → Prop := fun o i v H Q => ∃ d k kvs, o = .ref d ∧ i = .int k ∧ H d = some (.dK kvs) ∧ kvs.length < sizeLine ∧ Q (upd H d (.dK (putK kvs (.inl k) v)))
theorem set_d : PSet X rSetD := by
  intro pins s σ H o i v ov iv u Q I ro ri rv h
  obtain ⟨d, k, kvs, rfl, rfl, e, l, q⟩ := h
  obtain rfl : ov = Value.ref d := ro
  obtain ⟨z, hd, vs, rel, dd⟩ := (show ObjOk X.prog X.w H s.heap d (.dK kvs) from I.hok d _ e)
  have hz : vs.length ≤ sizeLine := by rw [← rel.length]; exact z
  have hl : (putK kvs (.inl k) v).length ≤ sizeLine := by have := length_putK kvs (.inl k) v; omega
  refine wpAny_setItem_pairs (hsz := hz) (kV_is (k := .inl k) ri) dd fun h' dd' hs => ?_
  have he : ∃ q, h'.get? d = some q := let ⟨q, _, _, hq, _⟩ := dd'; ⟨q, hq⟩
  exact ⟨_, d_write I (by rw [e]; exact True.intro) hs he (dk_new hl hd (rel.put (.inl k) rv) dd'), q⟩
def rIndex (K : PySem.W.Frag) : V → List V → Hp → VK → Prop := fun x vs H Q => ∃ l xs y j, x = .ref l ∧ vs = [y] ∧ SqL K H l xs ∧ flatV y = true ∧ xs.all flatV = true ∧ j < xs.length ∧ eqV (xs.getD j .non) y = true ∧ (∀ m, m < j → eqV (xs.getD m .non) y = false) ∧ Q (.int (j : Nat)) H
theorem mt_index : MtM X "list.index" (rIndex X.K) := by
  intro pins s σ H x vs v us Q I rx rv h
  obtain ⟨l, xs, y, j, rfl, rfl, hq, fy, fs, hj, h1, h2, q⟩ := h
  cases rx
  obtain ⟨u, rfl, ru⟩ := rv.one
  obtain ⟨its, r, pl, hz⟩ := I.list hq
  have hl := r.length
  have line := line63
  have tI := pl.isList.typeIs
  obtain ⟨o, n, ho, hc, hd, hs⟩ := pl
  obtain ⟨oc, od, oda, osl⟩ := o
  simp only at hc hd hs
  subst hc hd hs
  have hj' : j < its.toArray.size := by rw [List.size_toArray, ← hl]; exact hj
  have at_ : ∀ m (hm : m < its.toArray.size), eqU y its.toArray[m] = eqV (xs.getD m .non) y := fun m hm => by
    have hm' : m < xs.length := by rw [List.size_toArray, ← hl] at hm; exact hm
    have e1 : xs[m]? = some xs[m] := List.getElem?_eq_getElem hm'
    obtain ⟨w, hw, rw'⟩ := r.get e1
    have hm2 : m < its.length := by omega
    rw [List.getElem?_eq_getElem hm2] at hw
    have ew : its.toArray[m] = w := by simpa using hw
    rw [ew, eqU_of rw' (List.all_eq_true.mp fs _ (List.getElem_mem _)), List.getD_eq_getElem?_getD, e1]
    rfl
  refine call_meets F.slot_list_index tI F.entry_list_index (F.args_list_index_2 _ _)
    (SeqAt.list_indexAt l its.toArray n none osl u (eqU y) j hj' (by omega) (by rw [at_ j hj']; exact h1) (fun m hm hmj => by rw [at_ m hm]; exact h2 m hmj)) ⟨ho, fun w hw => mem_eqAt ru fy r fs w (by simpa using hw), ?_⟩
  exact ⟨.int (j : Nat), H, I.tok _, ⟨_, rfl⟩, q⟩
end
section
variable {X : Cx} {K : PySem.W.Frag}
end
end L2

set_option Elab.async false
set_option linter.all false
set_option maxRecDepth 100000
namespace L2
open PySem PySem.Spec PyProof.Rows
theorem lc_gen {K : PySem.W.Frag} {js : List Nat} {te : TE} {σ : St} {H : Hp} {S : Addr → Hp → List V → Prop} {a : Addr} {xs : List V} (I : Nat → List V → Hp → Prop) (h0 : I 0 [] H) (hz : xs.length ≤ 100000) (hl : ∀ i acc H', I i acc H' → SqL K H' a xs)
    (he : ∀ i x acc H' R, xs[i]? = some x → I i acc H' → (∀ y H'', I (i + 1) (acc ++ [y]) H'' → R y H'') → te (some x :: js.map fun j => σ.getD j none) H' R) (q : ∀ acc H', I xs.length acc H' → ∀ D, H' D = none → S D H' acc) :
    ∃ W : Nat → Nat → List V → Hp → Prop, (∃ m, W 0 m [] H) ∧ ∀ i m acc H, W i m acc H → ((Itl K a).stop i H ∧ ∀ D, H D = none → S D H acc) ∨
      ((Itl K a).go i H ∧ acc.length < sizeLine ∧ ∀ x H', (Itl K a).yld i H x H' → te (some x :: js.map fun j => σ.getD j none) H' fun y H'' => ∃ m', m' < m ∧ W (i + 1) m' (acc ++ [y]) H'') := by
  refine ⟨fun i m acc H' => I i acc H' ∧ m = xs.length - i ∧ i ≤ xs.length ∧ acc.length = i, ⟨xs.length, h0, rfl, Nat.zero_le _, rfl⟩, ?_⟩
  rintro i m acc H' ⟨hI, rfl, hi, hacc⟩
  have hx := hl i acc H' hI
  by_cases hlt : i < xs.length
  · refine .inr ⟨⟨xs, xs[i], hx, by simp [hlt]⟩, ?_, fun x H'' y => ?_⟩
    · have : (100000 : Nat) < sizeLine := by decide
      omega
    · obtain ⟨e, y⟩ := y
      subst e
      have hxi := y xs hx
      exact he i x acc _ _ hxi hI fun y H'' hI' => ⟨xs.length - (i + 1), by omega, hI', rfl, hlt, by rw [List.length_append, hacc]; rfl⟩
  · have e : i = xs.length := by omega
    subst e
    exact .inl ⟨⟨xs, hx, Nat.le_refl _⟩, q acc H' hI⟩
section
variable {X : Cx}
def rIns0 : V → List V → Hp → VK → Prop := fun x vs H Q => ∃ l xs y, x = .ref l ∧ vs = [.int 0, y] ∧ H l = some (.lst xs) ∧ xs.length < sizeLine ∧ Q .non (upd H l (.lst (y :: xs)))
theorem mt_insert0 : MtM X "list.insert" rIns0 := by
  intro pins s σ H x vs v us Q I rx rv h
  obtain ⟨l, xs, y, rfl, rfl, hH, hz, q⟩ := h
  cases rx
  obtain ⟨u0, u, rfl, r0, ru⟩ := rv.two
  obtain ⟨t0, rfl⟩ := r0
  obtain ⟨z, its, n, r, hl, e⟩ := I.lstM hH
  refine call_meets F.slot_list_insert ⟨_, e, rfl⟩ F.entry_list_insert (F.args_list_insert_3 _ _ _) (AutoSeq1.list_insert_list_int_val_1 l its.toArray n 0 t0 u (by decide) (by rw [List.size_toArray]; omega)) ⟨e, ?_⟩
  refine ⟨.non, _, I.lset (its' := u :: its) hH e (by simp) (.cons ru r) ?_, rfl, q⟩
  rw [List.length_cons]
  omega
end
end L2

set_option Elab.async false
set_option linter.all false
set_option maxRecDepth 100000
namespace L2
open PySem PySem.Spec PyProof.Rows
section
variable {prog : Program} {w : World} {A : Around} {R : Result → Shared → Prop} {s : Shared}
end
section
variable {X : Cx}
theorem op_eqLK {K : PySem.W.Frag} (h : X.K = K) (hu : X.A.units < cLine) : OpR X (compareOp .Eq) (rEqL K false) := by subst h; exact op_eqL hu
end
end L2

set_option Elab.async false
set_option linter.all false
set_option maxRecDepth 100000
namespace L2
open PySem PySem.Spec PyProof.Rows
section
variable {A : Around} {E : Value → Shared → Prop} {s : Shared} {K : PySem.W.Frag} {p C dx : Addr} {i : Int} {t : Tok} {prog : Program} {w : World}
end
section
variable {X : Cx}
end
end L2

set_option Elab.async false
set_option linter.all false
set_option maxRecDepth 100000
namespace L2
open PySem PySem.Spec PyProof.Rows
def Tr (B : Heap) (e : Addr) (cls : Value) (d : Option Addr) (fl : Value) (h : Heap) : Prop :=
  ∃ (ob : Obj) (ws : Array Value) (T : Addr) (ot : Obj) (us : Array Value), h.get? e = some ob ∧ ob.cls = cls ∧ ob.dict = none ∧ ob.data = .fields ws ∧ ws[1]? = some (.ref T) ∧ ws[2]? = some (d.elim .none .ref) ∧ B.get? T = none ∧ T ≠ e ∧
    h.get? T = some ot ∧ ot.data = .fields us ∧ us[3]? = some fl
structure Fl (B : Heap) (l : List Env) (e : Addr) (cls : Value) (d : Option Addr) (fl : Value) (h : Heap) : Prop where
  st : B.StaysIn h
  no : B.get? e = none
  fr : h.FunFrames B l
  tr : Tr B e cls d fl h
theorem mapFields_dict (o : Obj) (f : Array Value → Array Value) : (o.mapFields f).dict = o.dict := by
  obtain ⟨c, d, dt, sl⟩ := o
  cases dt <;> rfl
section
variable {M : Model} {A : Around} {E : Value → Shared → Prop} {s : Shared} {B : Heap} {env : Env} {outer l : List Env} {L e : Addr} {cls fl : Value} {d : Option Addr} {Q : Unit → Shared → Prop}
theorem entry_go {ob : Obj} {ws : Array Value} {hd : Value} {more : Bool} (hA : A.frames = some (env :: outer)) (ff : s.heap.FunFrames B (env :: outer)) (hf : env.frame = some L) (he : s.heap.get? e = some ob) (sb : B.StaysIn s.heap) (no : B.get? e = none) (hdt : ob.data = .fields ws)
    (h1 : 1 < ws.size) (h2 : ws[2]? = some (d.elim .none .ref)) (hdi : ob.dict = none) (k : ∀ h', Fl B (env :: outer) e ob.cls d (rawInt L) h' → s.heap.UpToSlots h' → Q () { s with heap := h' }) :
    wpAny M A (do setField (.ref e) 1 (← EntryCells.newEntry hd (← frameOf env) .none (rawInt L) .none (← entryPlaceOf L more))) Q E s := by
  have ne' : e ∉ (env :: outer).filterMap (·.frame) := fun z => by
    obtain ⟨_, o, q, nf⟩ := ff.mem z
    rw [he] at q
    cases q
    exact nf ws hdt
  refine wpAny_bind (wpAny_frameOf_fun hA ff hf fun g1 so => wpAny_bind (wpAny_entryPlaceOf fun pl hpl => ?_))
  unfold EntryCells.newEntry newFields
  refine wpAny_bind (wpAny_newObj_type ?_ (hpl.sizeOk5 _ _ _ _ _))
  have q1 : g1.get? e = some ob := (so.2.1 e ne').trans he
  have s1 : B.StaysIn g1 := fun b o q => (so.2.1 b fun z => by rw [(ff.mem z).1] at q; cases q).trans (sb b o q)
  have nT : B.get? g1.objs.size = none := s1.fresh
  have Te : g1.objs.size ≠ e := Nat.ne_of_gt (Heap.lt_size q1)
  refine wpAny_setField (Heap.get?_push_of_some _ q1) hdt h1 (k _ ?_ ?_)
  · have kp : ∀ b o, b ≠ e → g1.get? b = some o → ∀ nw, ((g1.push nw).update e (Obj.mapFields (·.setIfInBounds 1 (Value.ref g1.objs.size)))).get? b = some o := fun b o nb q nw => by
      rw [Heap.get?_update_other _ _ (Ne.symm nb)]
      exact Heap.get?_push_of_some _ q
    refine ⟨fun b o q => kp b o (fun z => by rw [z, no] at q; cases q) (s1 b o q) _, no, ff.of_keeps fun b o q nf => ?_, ?_⟩
    · obtain ⟨sl, z⟩ := so.2.2 b o q
      refine ⟨_, kp b _ (fun y => ?_) z _, rfl⟩
      rw [y, he] at q
      cases q
      exact nf ws hdt
    · have dd := Obj.data_mapFields hdt (·.setIfInBounds 1 (Value.ref g1.objs.size))
      refine ⟨_, _, g1.objs.size, _, _, Heap.get?_update_self _ (Heap.get?_push_of_some _ q1) (Obj.isFreed_of_fields dd), Obj.cls_mapFields _ _, by rw [mapFields_dict]; exact hdi, dd, by simp [h1], by rw [Array.getElem?_setIfInBounds_ne (by decide)]; exact h2, nT, Te,
        (Heap.get?_update_other _ _ (Ne.symm Te)).trans (Heap.get?_push_size g1 rfl), rfl, ?_⟩
      first
        | (simp; done)
        | (rcases hpl with rfl | ⟨_, _, _, _, _, _, _, rfl⟩ <;> simp)
  · intro b o q nf
    obtain ⟨sl, z⟩ := so.2.2 b o q
    refine ⟨sl, ?_⟩
    rw [Heap.get?_update_other _ _ fun y => ?_]
    · exact Heap.get?_push_of_some _ z
    · rw [← y, he] at q
      cases q
      exact nf ws hdt
theorem note_go (hA : A.frames = some (env :: outer)) (hf : env.frame = some L) (F : Fl B (env :: outer) e cls d fl s.heap) (k : ∀ h', Fl B (env :: outer) e cls d (rawInt L) h' → s.heap.UpToSlots h' → Q () { s with heap := h' }) :
    wpAny M A (noteFrame (.ref e) env) Q E s := by
  obtain ⟨ob, ws, T, ot, us, he, rfl, hdi, hdt, h1, h2, nT, Te, hT, dT, h3⟩ := F.tr
  unfold noteFrame
  simp only [hf]
  refine wpAny_bind (wpAny_field he hdt h1 ?_)
  rw [if_pos (by simp : (Value.ref T != Value.none) = true)]
  refine wpAny_bind (wpAny_field hT dT h3 ?_)
  by_cases hm : (fl == rawInt L) = true
  · rw [if_pos hm]
    have e' : fl = rawInt L := eq_of_beq hm
    exact wpAny_pure (k s.heap ⟨F.st, F.no, F.fr, ob, ws, T, ot, us, he, rfl, hdi, hdt, h1, h2, nT, Te, hT, dT, by rw [← e']; exact h3⟩ (Heap.UpToSlots.refl _))
  · rw [if_neg hm]
    refine wpAny_bind (wpAny_setField hT dT (Array.getElem?_eq_some_iff.mp h3).1 ?_)
    have ot' : ∀ b, b ≠ T → (s.heap.update T (Obj.mapFields (·.setIfInBounds 3 Value.none))).get? b = s.heap.get? b := fun b nb => Heap.get?_update_other _ _ (Ne.symm nb)
    have nr : ∀ b o, s.heap.get? b = some o → (∀ vs, o.data ≠ .fields vs) → b ≠ T := fun b o q nf z => by
      rw [z, hT] at q
      cases q
      exact nf us dT
    refine entry_go hA (F.fr.of_keeps fun b o q nf => ⟨o, (ot' b (nr b o q nf)).trans q, rfl⟩) hf ((ot' e (Ne.symm Te)).trans he) (fun b o q => (ot' b fun z => by rw [z, nT] at q; cases q).trans (F.st b o q)) F.no hdt (Array.getElem?_eq_some_iff.mp h1).1 h2 hdi
      fun h' F' up => k h' F' fun b o q nf => up b o ((ot' b (nr b o q nf)).trans q) nf
theorem land_go {fr : Option Addr} (F : Fl B l e cls d fl s.heap) (k : ∀ h', Fl B l e cls d (fr.elim .none fun f => rawInt f) h' → s.heap.UpToSlots h' → Q () { s with heap := h' }) : wpAny M A (setFlight (.ref e) fr) Q E s := by
  obtain ⟨ob, ws, T, ot, us, he, hc, hdi, hdt, h1, h2, nT, Te, hT, dT, h3⟩ := F.tr
  have sz : 3 < us.size := (Array.getElem?_eq_some_iff.mp h3).1
  unfold setFlight
  refine wpAny_bind (wpAny_field he hdt h1 ?_)
  rw [if_pos (by simp : (Value.ref T != Value.none) = true)]
  have ot' : ∀ b, b ≠ T → (s.heap.update T (Obj.mapFields (·.setIfInBounds 3 (fr.elim .none fun f => rawInt f)))).get? b = s.heap.get? b := fun b nb => Heap.get?_update_other _ _ (Ne.symm nb)
  have nr : ∀ b o, s.heap.get? b = some o → (∀ vs, o.data ≠ .fields vs) → b ≠ T := fun b o q nf z => by
    rw [z, hT] at q
    cases q
    exact nf us dT
  refine wpAny_setField hT dT sz (k _ ⟨fun b o q => (ot' b fun z => by rw [z, nT] at q; cases q).trans (F.st b o q), F.no, F.fr.of_keeps fun b o q nf => ⟨o, (ot' b (nr b o q nf)).trans q, rfl⟩, ?_⟩ fun b o q nf => ⟨o.slots, (ot' b (nr b o q nf)).trans q⟩)
  exact ⟨ob, ws, T, _, _, (ot' e (Ne.symm Te)).trans he, hc, hdi, hdt, h1, h2, nT, Te, Heap.get?_update_self _ hT (Obj.isFreed_of_fields (Obj.data_mapFields dT _)), Obj.data_mapFields dT _, by simp [sz]⟩
theorem Fl.tail (F : Fl B (env :: outer) e cls d fl s.heap) : Fl B outer e cls d fl s.heap := ⟨F.st, F.no, by obtain ⟨_, _, r⟩ := F.fr; exact r, F.tr⟩
theorem leave_go (hA : A.frames = some (env :: outer)) (hf : env.frame = some L) (F : Fl B (env :: outer) e cls d fl s.heap) (k : ∀ h', Fl B outer e cls d .none h' → s.heap.UpToSlots h' → Q () { s with heap := h' }) :
    wpAny M A (leaving env (.ref e)) Q E s := by
  unfold leaving
  refine wpAny_bind (note_go hA hf F fun g F' up => ?_)
  refine land_go (s := { s with heap := g }) F' fun h' F'' up' => k h' (Fl.tail (s := { s with heap := h' }) F'') (up.trans up')
theorem made_go {h : Heap} {ob : Obj} {ws : Array Value} (hA : A.frames = some (env :: outer)) (hf : env.frame = some L) (sb : B.StaysIn s.heap) (ff : s.heap.FunFrames B (env :: outer)) (no : B.get? e = none) (he : s.heap.get? e = some ob) (hc : ob.cls = cls) (hdi : ob.dict = none)
    (hdt : ob.data = .fields ws) (h1 : ws[1]? = some .none) (h2 : ws[2]? = some (d.elim .none .ref)) (k : ∀ h', Fl B outer e cls d .none h' → s.heap.UpToSlots h' → Q () { s with heap := h' }) : wpAny M A (leaving env (.ref e)) Q E s := by
  subst hc
  unfold leaving noteFrame
  simp only [hf]
  refine wpAny_bind (wpAny_bind (wpAny_field he hdt h1 ?_))
  rw [if_neg (by decide)]
  refine entry_go hA ff hf he sb no hdt (Array.getElem?_eq_some_iff.mp h1).1 h2 hdi fun g F up => ?_
  exact land_go (s := { s with heap := g }) F fun h' F'' up' => k h' (Fl.tail (s := { s with heap := h' }) F'') (up.trans up')
end
def CXe (P : Program) (w : World) : CXT := fun outer H s E e s' => ∃ (x : Addr) (cls : Value) (d : Option Addr) (B : Heap) (H' : Hp), e = .ref x ∧ s'.os = s.os ∧ AllBare s'.gens ∧ Un (frs outer) [] H H' s.heap s'.heap ∧ HOk P w H' s'.heap ∧
  Fl B outer x cls d .none s'.heap ∧ (∀ b o, s'.heap.get? b = some o → b ∉ frs outer → ((∃ o₀, s.heap.get? b = some o₀) ∨ H' b ≠ none) → B.get? b = some o) ∧ H' x = none ∧ E cls d H'
theorem ObjOk.there {P : Program} {w : World} {H : Hp} {h : Heap} {a : Addr} {o : HO} (x : ObjOk P w H h a o) : ∃ u, h.get? a = some u := by
  cases o with
  | lst xs => obtain ⟨_, _, _, _, e⟩ := x; exact ⟨_, e⟩
  | tup xs => obtain ⟨_, _, _, ob, e, _⟩ := x; exact ⟨_, e⟩
  | dK kvs => obtain ⟨_, _, _, _, o, _, _, e, _⟩ := x; exact ⟨_, e⟩
  | set S n => obtain ⟨o, _, _, _, e, _⟩ := x; exact ⟨_, e⟩
  | ins C dx fs => obtain ⟨_, _, _, e, _⟩ := x; exact ⟨_, e⟩
  | own y => obtain ⟨_, e⟩ := x; exact ⟨_, e⟩
  | xd fs => obtain ⟨_, ⟨_, _, _, e, _⟩, _⟩ := x; exact ⟨_, e⟩
  | rng lo hi => obtain ⟨_, _, _, e⟩ := x; exact ⟨_, e⟩
  | frz ob u => obtain ⟨e, _⟩ := x; exact ⟨_, e⟩
  | tbl ps => exact False.elim x
  | met f y => exact ⟨_, (show h.get? a = some _ from x)⟩
  | ext φ => obtain ⟨_, ⟨_, e⟩, _⟩ := x; exact ⟨_, e⟩
section
variable {X : Cx} {pins : List (Addr × Obj)} {σ : St} {H : Hp} {s : Shared} {h' : Heap}
theorem Cx.Ok.inStack (ok : X.Ok) {b : Addr} (hb : b ∈ frs X.stack) : b ∈ X.fs ∨ b = X.env.locals := by
  rcases ok.stk with e | ⟨e, f⟩
  · rw [e] at hb; exact .inl hb
  · rw [e] at hb
    unfold frs at hb
    rw [List.filterMap_cons, f] at hb
    rcases List.mem_cons.mp hb with z | z
    · exact .inr z
    · exact .inl z
theorem slots_step (I : Inv X pins σ H s) (hex : X.ex = []) (up : s.heap.UpToSlots h') (kb : ∀ b o, s.heap.get? b = some o → b ∉ frs X.stack → ((∃ o₀, X.s₀.heap.get? b = some o₀) ∨ H b ≠ none) → h'.get? b = some o) :
    Un X.fs X.ex X.H₀ H X.s₀.heap h' ∧ HOk X.prog X.w H h' := by
  have nst : ∀ b o, X.s₀.heap.get? b = some o → b ∉ X.fs → b ∉ frs X.stack := fun b o q nb hb => by
    rcases I.ok.inStack hb with z | z
    · exact nb z
    · have h1 := Heap.lt_size q
      have h2 := I.ok.above
      rw [z] at h1
      exact absurd (Nat.lt_of_lt_of_le h1 h2) (Nat.lt_irrefl _)
  have fr : ∀ b, b ∈ X.fs → ∃ o, X.s₀.heap.get? b = some o ∧ ∀ vs, o.data ≠ .fields vs := fun b hb => (I.ok.funs.mem hb).2
  refine ⟨⟨fun b o q n nf nx => kb b o (I.base.keep b o q n nf nx) (nst b o q nf) (.inl ⟨_, q⟩), fun b o q n hf nx => ?_, I.base.free, fun b o q nx => ?_, I.base.tups, I.base.frzs, I.base.tbls⟩, fun a o e => ?_⟩
  · obtain ⟨sl, e1⟩ := I.base.slot b o q n hf nx
    obtain ⟨o', q', nf⟩ := fr b hf
    rw [q] at q'
    cases q'
    obtain ⟨sl2, e2⟩ := up b _ e1 nf
    exact ⟨sl2, e2⟩
  · by_cases hf : b ∈ X.fs
    · obtain ⟨sl, e1⟩ := I.base.slot b o q (I.ok.frf b hf) hf nx
      obtain ⟨o', q', nf⟩ := fr b hf
      rw [q] at q'
      cases q'
      obtain ⟨sl2, e2⟩ := up b _ e1 nf
      exact ⟨_, e2⟩
    · obtain ⟨o', e1⟩ := I.base.there b o q nx
      exact ⟨o', kb b o' e1 (nst b o q hf) (.inl ⟨_, q⟩)⟩
  · refine (I.hok a o e).stay (fun b u hb q => kb b u q (fun hm => ?_) (.inr ?_)) (fun _ z => z) fun _ _ z => z
    · have hn := I.stkFree b hm
      rcases hb with z | z
      · rw [z, e] at hn; cases hn
      · rw [z] at hn; cases hn
    · rcases hb with z | z
      · rw [z, e]; exact fun z => by cases z
      · rw [z]; exact fun z => by cases z
structure Leaves (X : Cx) (E : XK) : Prop where
  xe : X.xe = fun e s' => wpAny (model X.prog X.w) X.A (leaving X.env e) (fun _ s'' => CXe X.prog X.w X.outer X.H₀ X.s₀ E e s'') (fun e' s'' => CXe X.prog X.w X.outer X.H₀ X.s₀ E e' s'') s'
  st : X.stack = X.env :: X.outer
  fr : X.env.frame = some X.env.locals
  ex : X.ex = []
def InB (X : Cx) (B : Heap) (H : Hp) (h : Heap) : Prop := ∀ b o, h.get? b = some o → b ∉ frs X.stack → ((∃ o₀, X.s₀.heap.get? b = some o₀) ∨ H b ≠ none) → B.get? b = some o
theorem Inv.old (I : Inv X pins σ H s) (hex : X.ex = []) {b : Addr} (c : (∃ o₀, X.s₀.heap.get? b = some o₀) ∨ H b ≠ none) : ∃ o, s.heap.get? b = some o := by
  rcases c with ⟨o₀, q₀⟩ | c
  · exact I.base.there b o₀ q₀ (by rw [hex]; simp)
  · cases e : H b with
    | none => exact absurd e c
    | some u => exact (I.hok b u e).there
theorem Inv.nst (I : Inv X pins σ H s) {b : Addr} (nb : b ∉ X.fs) (c : (∃ o₀, X.s₀.heap.get? b = some o₀) ∨ H b ≠ none) : b ∉ frs X.stack := fun hm => by
  rcases I.ok.inStack hm with z | z
  · exact nb z
  · rcases c with ⟨o₀, q₀⟩ | c
    · have h1 := Heap.lt_size q₀
      rw [z] at h1
      exact absurd (Nat.lt_of_lt_of_le h1 I.ok.above) (Nat.lt_irrefl _)
    · rw [z] at c
      exact c I.free
theorem leave_end {E : XK} {x : Addr} {cls : Value} {d : Option Addr} {B : Heap} (hex : X.ex = []) (I : Inv X pins σ H s) (inB : InB X B H s.heap) (nx : H x = none) (hE : E cls d H) (fl : Fl B X.outer x cls d .none h') (up : s.heap.UpToSlots h') :
    CXe X.prog X.w X.outer X.H₀ X.s₀ E (.ref x) { s with heap := h' } := by
  obtain ⟨un', hok'⟩ := slots_step I hex up (fun b o q nb c => fl.st b o (inB b o q nb c))
  rw [hex] at un'
  refine ⟨x, cls, d, B, H, rfl, I.os, I.bare, un', hok', fl, fun b o q nb c => ?_, nx, hE⟩
  obtain ⟨o', q'⟩ := I.old hex c
  have hB := inB b o' q' (I.nst nb c) c
  have := fl.st b o' hB
  have q2 : h'.get? b = some o := q
  rw [q2] at this
  cases this
  exact hB
theorem leave_on {E : XK} {x : Addr} {cls fl : Value} {d : Option Addr} {B : Heap} (L : Leaves X E) (I : Inv X pins σ H s) (F : Fl B X.stack x cls d fl s.heap) (inB : InB X B H s.heap) (nx : H x = none) (hE : E cls d H) : X.xe (.ref x) s := by
  rw [L.xe]
  rw [L.st] at F
  have hfr := I.ok.frames
  rw [L.st] at hfr
  exact leave_go hfr L.fr F fun h' F' up => leave_end L.ex I inB nx hE F' up
theorem Leaves.pass {E E' : XK} (L : Leaves X E') (mono : ∀ c d H, E c d H → E' c d H) : Passes (CXe X.prog X.w) X E := by
  intro pins σ H s e s' I h
  obtain ⟨x, cls, d, B, H', rfl, os, bare, un, hok, fl, inB, nx, hE⟩ := h
  have I' : Inv X pins σ H' s' := I.call' (ch := []) os un hok bare (fun b hb => by simp at hb)
  refine leave_on L I' fl (fun b o q nb c => inB b o q nb ?_) nx (mono _ _ _ hE)
  rcases c with ⟨o₀, q₀⟩ | c
  · obtain ⟨o1, q1⟩ := I.base.there b o₀ q₀ (by rw [L.ex]; simp)
    exact .inl ⟨o1, q1⟩
  · exact .inr c
def bmV : List Value := [.type "ValueError", .type "Exception", .type "BaseException", .type "object"]
theorem exc_obj {K : PySem.W.Frag} {h : Heap} {C : Addr} {bmB : List Value} {newId : String} (X : K.In h) (q : PySem.W.excIn K C bmB newId = true) :
    ∃ bm N nm qn bs hdct sn sub ab col dd k0 k1 k2 k3 k5 mN, h.get? C = some (excClassObj nm qn C N bs bm hdct sn sub ab col dd k0 k1 k2 k3 k5 newId) ∧ h.Ns N mN ∧ mN "__init__" = none ∧ OwnTail h bmB bm := by
  unfold PySem.W.excIn at q
  cases hl : K.lookup C with
  | none => rw [hl] at q; simp at q
  | some ob =>
    rw [hl] at q
    obtain ⟨oc, od, oda, osl⟩ := ob
    split at q
    · rename_i dd cd sl he
      cases he
      split at q
      · rename_i C' bm k0 k1 k2 k3 n k5 hm hs
        simp only [Bool.and_eq_true, beq_iff_eq, Bool.not_eq_true'] at q
        obtain ⟨⟨⟨⟨⟨e1, e2⟩, hdel⟩, ht⟩, hok⟩, hni⟩ := q
        subst e1 e2
        obtain ⟨nm, bs, mro, ns, qn, hd, sn, sub, ab, col, del⟩ := cd
        simp only at hm hdel hok hni
        subst hm hdel
        obtain ⟨l⟩ := osl
        simp only at hs
        subst hs
        exact ⟨bm, ns, nm, qn, bs, hd, sn, sub, ab, col, od, k0, k1, k2, k3, k5, _, X _ _ hl, .of_isNs (PySem.W.isNs_of_in X hok), PySem.W.nsMap_none_of_in X hok hni, PySem.W.tail_of_in X ht⟩
      · cases q
    · cases q
theorem leave_made {E : XK} {e : Addr} {cls : Value} {ob : Obj} {ws : Array Value} {d : Option Addr} (L : Leaves X E) (I : Inv X pins σ H s) (kp : ∀ b o, s.heap.get? b = some o → h'.get? b = some o) (new : s.heap.get? e = none) (he : h'.get? e = some ob) (hc : ob.cls = cls) (hdi : ob.dict = none)
    (hdt : ob.data = .fields ws) (h1 : ws[1]? = some .none) (h2 : ws[2]? = some (d.elim .none .ref)) (hE : E cls d H) : X.xe (.ref e) { s with heap := h' } := by
  rw [L.xe]
  have hfr := I.ok.frames
  rw [L.st] at hfr
  have hstk := I.stack
  rw [L.st] at hstk
  have I' : Inv X pins σ H { s with heap := h', toks := s.toks } := I.kept kp
  have hid : s.heap.FunFrames (PySem.W.hideAll s.heap (frs (X.env :: X.outer))) (X.env :: X.outer) := PySem.W.funFrames_hide hstk fun env he b hb => List.mem_filterMap.mpr ⟨env, he, hb⟩
  have inHide : InB X (PySem.W.hideAll s.heap (frs (X.env :: X.outer))) H h' := fun b o q nb c => by
    obtain ⟨o1, q1⟩ := I.old L.ex c
    have := kp b o1 q1
    rw [q] at this
    cases this
    rw [L.st] at nb
    exact PySem.W.hideAll_get _ q1 nb
  have nx : H e = none := by
    cases z : H e with
    | none => rfl
    | some u =>
      obtain ⟨o, q⟩ := (I.hok e u z).there
      rw [new] at q
      cases q
  refine made_go (h := s.heap) (s := { s with heap := h' }) hfr L.fr (fun b o q => kp b o (PySem.W.of_hideAll _ q)) (hid.of_keeps fun b o q _ => ⟨o, kp b o q, rfl⟩) ?_ he hc hdi hdt h1 h2 fun g F up => leave_end (s := { s with heap := h', toks := s.toks }) L.ex I' inHide nx hE F up
  cases z : (PySem.W.hideAll s.heap (frs (X.env :: X.outer))).get? e with
  | none => rfl
  | some o =>
    have := PySem.W.of_hideAll _ z
    rw [new] at this
    cases this
def tRaise (ta : TA) (C : Addr) (E : XK) : TS := fun _ σ H => ta σ H fun vs H1 => vs.length ≤ sizeLine ∧ E (.ref C) none H1
theorem ps_raise {E : XK} {x : Str} {C : Addr} {e : Expr} {es : List Expr} {ta : TA} {np cpos pos : Pos} (L : Leaves X E) (hc : X.calm = true) (hg : Gl X x) (hm : X.mg x = some (.ref C)) (hx : PySem.W.excIn X.K C bmV "ValueError.__new__" = true)
    (ha : PA X (e :: es) ta) (hdb : (x == ("__debug__" : Str)) = false := by decide) (he : starEach (e :: es) X.env = (false, eval e X.env) :: starEach es X.env := by rfl) (hpl : (backTo cpos (starEach es X.env)).any (·.1) = false := by rfl) :
    PS X (.Raise (some (.Call (.Name x np) (e :: es) [] cpos)) none pos) (tRaise ta C E) := by
  intro pins s σ H D I h
  obtain ⟨bm, N, nm, qn, bs, hdct, sn, sub, ab, col, dd, k0, k1, k2, k3, k5, mN, hC, hN, hni, T⟩ := exc_obj I.ok.mod.kin hx
  refine wpAny_Raise_call_subT (nm := nm) (q := qn) (N := N) (bs := bs) (bm := bm) (hdct := hdct) (sn := sn) (sub := sub) (ab := ab) (col := col) (dd := dd) (k0 := k0) (k1 := k1) (k2 := k2) (k3 := k3) (k5 := k5) (mN := mN) F.excBase_ValueError (T.hasType F.excBase_ValueError.hasBase) (I.ok.hd hc) (by rw [he]; exact hpl) hni (ld_glob I hg hm ⟨rfl, ?_⟩ hdb)
  have key := ha cpos pins s σ H _ I h
  rw [he] at key ⊢
  refine Calls.evalArgs_plain (thn key fun us s1 z => ?_)
  obtain ⟨vs, H1, I1, r, len, hE⟩ := z
  refine ⟨rfl, ?_, I1.bk _ _ hC, hN.keeps I1.bk, T.keeps I1.bk, fun h' e' hmade => ?_⟩
  · rw [← r.length]
    exact len
  · obtain ⟨t0, q0, _, _⟩ := hmade.there
    exact leave_made L I1 hmade.keeps hmade.new q0 rfl rfl rfl rfl rfl hE
end
section
open PySem.W
variable {K : Frag} {prog : Program} {w : World} {A : Around} {E : Value → Shared → Prop} {s : Shared} {x D : Addr} {ox : Obj}
structure ExcCl (K : Frag) (D : Addr) : Prop where
  ex : excIn K D bmV "ValueError.__new__" = true
  cls : (clsIn K D).isSome = true
  ga : findIn K (.ref D) "__getattribute__" = some (some (.builtin "BaseException.__getattribute__"))
  gt : findIn K (.ref D) "__getattr__" = some none
  fo : findObj K D none "__class__" = some (.bind (.builtin "getset_descriptor.__get__") (.builtin "object.__class__"))
  mB : mroIn K D (.type "BaseException") = some true
  mo : mroIn K D (.type "object") = some true
  ty : typeIn K (.ref D) = some (.type "type")
theorem exc_class {Q : Option Value → Shared → Prop} (C : ExcCl K D) (X : K.In s.heap) (I : InstAt s.heap x ox D none) (h : Q (some (.ref D)) { s with toks := s.toks + 1 }) : wpAny (model prog w) A (getAttr? (.ref x) "__class__") Q E s := by
  obtain ⟨hh, g, d, t, os⟩ := s
  have L0 := I.type (M := model prog w)
  have L1 := looks_findIn (M := model prog w) X C.ga
  have L2 := looks_findIn (M := model prog w) X C.gt
  have L3 := looks_find (M := model prog w) X I C.fo
  have LB := looks_mroIn (M := model prog w) X C.mB
  have f3 := F.attr_ValueError.ga.bind (.ref x)
  unfold getAttr? getAttrBy? getAttrBy
  refine wpAny_bind (wpAny_mkText (wpAny_bind (wpAny_attempt (wpAny_holding (wpAny_bind (L0.at (wpAny_bind (L1.at ?_))))))))
  show wpAny _ _ (getAttrByItsOwn _ _ _ _ _ _) _ _ _
  unfold getAttrByItsOwn hookBefore
  have cB : ∀ {Q : Unit → Shared → Prop} {E : Value → Shared → Prop} {A : Around} {n : Value} {k : Nat}, Q () ⟨hh, g, d, k, os⟩ → wpAny (model prog w) A (checkBuiltinCall "BaseException.__getattribute__" ⟨[.ref x, n], []⟩) Q E ⟨hh, g, d, k, os⟩ := by
    intro Q E A n k hq
    have ha := F.args_bexc_ga (.ref x) n
    simp only [checkBuiltinCall, show builtinKind "BaseException.__getattribute__" = some .slot by decide +kernel, show splitId "BaseException.__getattribute__" = some ("BaseException", "__getattribute__") by decide +kernel]
    unfold isInstance
    repeat (first | with_reducible exact hq | lk | wp_step)
  have go : ∀ {R : Result → Shared → Prop} {A : Around} {tk : Tok} {k : Nat}, R (.ok (.ret (.ref D))) ⟨hh, g, d, k, os⟩ → codeAny (model prog w) A (.call (.builtin "BaseException.__getattribute__") ⟨[.ref x, .str "__class__" tk], []⟩) R ⟨hh, g, d, k, os⟩ := by
    intro R A tk k hq
    refine codeAny_call_builtin F.attr_ValueError.ga.plain F.entry_bexc_ga (cB ?_)
    unfold Builtin.«object.__getattribute__»
    repeat (first | with_reducible refine wpAny_call ?_ | lk)
    refine class_get (s := ⟨hh, g, d, k, os⟩) (ox := ox) (od := none) X I C.mo ?_
    repeat lk
    exact hq
  unfold callGetattribute boundAndCalled
  simp only [Bool.false_and, Bool.false_eq_true, if_false, f3]
  repeat (first | with_reducible refine wpAny_call ?_ | with_reducible refine wpAny_attempt ?_ | lk)
  refine go ?_
  repeat lk
  exact h
theorem kitx_exc (C : ExcCl K D) : KitX K (.ref x) (.ref D) (fun h => ∃ ox : Obj, InstAt h x ox D none) where
  ty := fun _ _ _ ⟨_, I⟩ => I.type
  it := fun _ _ X _ => by
    obtain ⟨cd, hc⟩ := Option.isSome_iff_exists.mp C.cls
    unfold clsIn at hc
    split at hc
    · rename_i ho
      intro A' Q' E' s' k q
      unfold isType loadHead
      exact wpAny_bind (wpAny_loadPart (k _ _ (X _ _ ho)) (wpAny_pure q))
    · cases hc
  ne := fun h tp dd its n sl X htp => by
    obtain ⟨cd, hc⟩ := Option.isSome_iff_exists.mp C.cls
    refine Bool.eq_false_iff.mpr fun q => ?_
    have e : D = tp := Value.ref.inj (beq_iff_eq.mp q)
    subst e
    unfold clsIn at hc
    split at hc
    · rename_i ho
      have z := (X _ _ ho).symm.trans htp
      cases z
    · cases hc
  ca := fun X ⟨_, I⟩ k => exc_class C X I k
theorem exc_matches {C : Addr} {b : Bool} {Q : Bool → Shared → Prop} (kin : K.In s.heap) (he : s.heap.get? x = some ox) (hcls : ox.cls = .ref D) (hB : mroIn K C (.type "BaseException") = some true) (ht : typeIn K (.ref C) = some (.type "type")) (hc : (clsIn K C).isSome = true) (hs : mroIn K D (.ref C) = some b)
    (hq : Q b s) : wpAny (model prog w) A (excMatches (.ref x) (.ref C)) Q E s := by
  obtain ⟨hh, g, d, t, os⟩ := s
  have L0 := looks_typeIn (M := model prog w) kin ht
  have L1 := looks_mroIn (M := model prog w) kin hB
  have L2 := looks_mroIn (M := model prog w) kin hs
  have L3 : Looks (model prog w) hh (typeOf (.ref x)) (.ref D) := (Looks.ld he).andThen (by rw [hcls]; exact .now)
  have LI : Looks (model prog w) hh (isInstance (.ref C) (.type "tuple")) false := L0.andThen (Looks.of_pure tc_notTuple)
  have LT : Looks (model prog w) hh (isType (.ref C)) true := by
    obtain ⟨cd, hc⟩ := Option.isSome_iff_exists.mp hc
    unfold clsIn at hc
    split at hc
    · rename_i ho
      intro A' Q' E' s' k q
      unfold isType loadHead
      exact wpAny_bind (wpAny_loadPart (k _ _ (kin _ _ ho)) (wpAny_pure q))
    · cases hc
  have LE : Looks (model prog w) hh (isExcClass (.ref C)) true := LT.andThen L1
  unfold excMatches
  repeat lk
  cases b <;> (repeat lk) <;> exact hq
end
end L2

set_option Elab.async false
set_option linter.all false
set_option maxRecDepth 100000
namespace L2
open PySem PySem.Spec PyProof.Rows
section
variable {P : Program} {w : World} {K : PySem.W.Frag} {mg : Str → Option Value} {base : Heap}
theorem leaves_of {N : List Str} {qual : Str} {sc : Scope} {f : Addr} {cdv : Value} {A : Around} {outer : List Env} {s : Shared} {H : Hp} {E : XK} : Leaves (cxOf (CXe P w) P w K mg base N qual sc f cdv A outer s H E) E := ⟨rfl, rfl, rfl, rfl⟩
theorem Fun.okX {x qual : Str} {st : Stmt} {f : Addr} {fd : FuncData} {N ps : List Str} {k : Nat} {sp : Sp} (F : Fun K x qual st f fd) (S : FnScope N ps (defScope st)) (len : ∀ vs H Q E, sp vs H Q E → vs.length = ps.length)
    (hbody : ∀ (cdv : Value) (A : Around) (outer : List Env) (s : Shared) (H : Hp) (vs : List V) (Q : VK) (E : XK), Room k (A.deeper (envOfC qual (defScope st) s.heap.objs.size f cdv)) → sp vs H Q E →
      Leaves (cxOf (CXe P w) P w K mg base N qual (defScope st) f cdv A outer s H E) E →
      ∃ t, PSs (cxOf (CXe P w) P w K mg base N qual (defScope st) f cdv A outer s H E) (defBody st) t ∧
        t { nx := fun _ H' => ∃ H'', (Cl H → Cl H' → Gc H H' H'') ∧ Q .non H'', rt := fun v H' => ∃ H'', (Cl H → Cl H' → Gc H H' H'') ∧ Q v H'' } (start N vs) H) : FnOk P w K mg base (CXe P w) (k + 1) f fd ps sp := by
  have G : FnOk P w K mg base (CXe P w) (k + 1) f fd ps (fun vs H Q' E => ∃ Q, sp vs H Q E ∧ Q' = fun v H' => ∃ H'', (Cl H → Cl H' → Gc H H' H'') ∧ Q v H'') := by
    obtain ⟨oc, od, kV, doc, pm, an, cdv, ct, osl, rfl, lk, hcd⟩ := F.ex
    refine fn_of lk hcd S (fun vs H Q E ⟨Q0, h, _⟩ => len vs H Q0 E h) fun A outer s H vs Q' E hr ⟨Q0, h, e⟩ => ?_
    subst e
    exact hbody cdv A outer s H vs Q0 E hr h leaves_of
  exact G.gc len fun vs H Q E h => ⟨Q, h, rfl⟩
end
section
variable (P : Program) (w : World) (K : PySem.W.Frag) (mg : Str → Option Value) (base : Heap)
structure FnX (k : Nat) (x : Str) (sp : Sp) : Prop where
  ex : ∃ (f : Addr) (fd : FuncData) (ps : List Str), FnOk P w K mg base (CXe P w) k f fd ps sp ∧ mg x = some (.ref f) ∧ PySem.W.keepIn K (.ref f) = true ∧ Binds K fd ps []
structure MkX (k : Nat) (x : Str) (C : Addr) (sp : Sp) : Prop where
  ex : ∃ (f : Addr) (fd : FuncData) (ps : List Str), Mk K C f ∧ FnOk P w K mg base (CXe P w) k f fd ps sp ∧ Binds K fd ps [] ∧ mg x = some (.ref C)
end
section
variable {X : Cx} {k j : Nat} {x m : Str} {sp : Sp} {C : Addr} {p pos apos : Pos} {e o : Expr} {es : List Expr} {ta : TE} {t : TA} {E : XK}
theorem pe_fnx (hx : Passes (CXe X.prog X.w) X E) (F : FnX X.prog X.w X.K X.mg X.base k x sp) (hr : Room j X.A) (hg : Gl X x) (ha : PA X (e :: es) t) (hk : k ≤ j := by decide) (hdb : (x == ("__debug__" : Str)) = false := by decide)
    (he : starEach (e :: es) X.env = (false, eval e X.env) :: starEach es X.env := by rfl) (hpl : (backTo pos (starEach es X.env)).any (·.1) = false := by rfl) : PE X (.Call (.Name x p) (e :: es) [] pos) (tCall sp [] E t) := by
  obtain ⟨f, fd, ps, G, hm, kp, b⟩ := F.ex
  exact pe_call G (hr.mono hk) hg hm kp b .nil hx ha hdb he hpl
theorem pe_mkx (hx : Passes (CXe X.prog X.w) X E) (F : MkX X.prog X.w X.K X.mg X.base k x C sp) (hr : Room j X.A) (hg : Gl X x) (ha : PA X (e :: es) t) (hk : k + 1 ≤ j := by decide) (hdb : (x == ("__debug__" : Str)) = false := by decide)
    (he : starEach (e :: es) X.env = (false, eval e X.env) :: starEach es X.env := by rfl) (hpl : (backTo pos (starEach es X.env)).any (·.1) = false := by rfl) : PE X (.Call (.Name x p) (e :: es) [] pos) (tMake C sp [] E t) := by
  obtain ⟨f, fd, ps, M, G, b, hm⟩ := F.ex
  exact pe_make M G (hr.mono hk) hg hm b .nil hx ha hdb he hpl
end
abbrev Cx.tr (X : Cx) (pn : List (Addr × Obj)) (xe : Value → Shared → Prop) : Cx := { X with pn := pn, xe := xe }
abbrev Cx.hnd (X : Cx) (e : Addr) : Cx := { X with A := X.A.mark (some (.ref e)), calm := false, xe := fun _ _ => False }
section
variable {X : Cx} {pins : List (Addr × Obj)} {σ : St} {H : Hp} {s : Shared} {h' : Heap}
theorem Inv.toTr (I : Inv X pins σ H s) (xe : Value → Shared → Prop) : Inv (X.tr (X.pn ++ pins) xe) [] σ H s :=
  let ok := I.ok
  ⟨⟨ok.mod, ok.kind, ok.glob, ok.blt, ok.above, ok.inj, ok.has, ok.cab, ok.hd, ok.frames, ok.stk, ok.exf, ok.bs, ok.bsz, ok.noex, ok.exfs, ok.funs, ok.frf⟩, I.os, I.bare, I.base, I.loc, I.cell, I.free, I.freeC, fun p hp => I.pin p (by simpa using hp), I.hok, I.len⟩
theorem Inv.ofTr {pins2 : List (Addr × Obj)} {xe : Value → Shared → Prop} (I : Inv (X.tr (X.pn ++ pins) xe) pins2 σ H s) : Inv X pins σ H s :=
  let ok := I.ok
  ⟨⟨ok.mod, ok.kind, ok.glob, ok.blt, ok.above, ok.inj, ok.has, ok.cab, ok.hd, ok.frames, ok.stk, ok.exf, ok.bs, ok.bsz, ok.noex, ok.exfs, ok.funs, ok.frf⟩, I.os, I.bare, I.base, I.loc, I.cell, I.free, I.freeC, fun p hp => I.pin p (List.mem_append_left _ hp), I.hok, I.len⟩
theorem Inv.toHnd (I : Inv X pins σ H s) (e : Addr) : Inv (X.hnd e) pins σ H s :=
  let ok := I.ok
  ⟨⟨ok.mod, ok.kind, ok.glob, ok.blt, ok.above, ok.inj, ok.has, ok.cab, (fun z => by cases z), ok.frames, ok.stk, ok.exf, ok.bs, ok.bsz, ok.noex, ok.exfs, ok.funs, ok.frf⟩, I.os, I.bare, I.base, I.loc, I.cell, I.free, I.freeC, I.pin, I.hok, I.len⟩
theorem Inv.ofHnd {e : Addr} (I : Inv (X.hnd e) pins σ H s) (hd : X.calm = true → X.A.handled = none) : Inv X pins σ H s :=
  let ok := I.ok
  ⟨⟨ok.mod, ok.kind, ok.glob, ok.blt, ok.above, ok.inj, ok.has, ok.cab, hd, ok.frames, ok.stk, ok.exf, ok.bs, ok.bsz, ok.noex, ok.exfs, ok.funs, ok.frf⟩, I.os, I.bare, I.base, I.loc, I.cell, I.free, I.freeC, I.pin, I.hok, I.len⟩
theorem SP.ofTr {xe : Value → Shared → Prop} {D : Ends} {f : Flow} {s' : Shared} (h : SP (X.tr (X.pn ++ pins) xe) [] D f s') : SP X pins D f s' := by
  cases f with
  | next => obtain ⟨σ', H', I, q⟩ := h; exact ⟨σ', H', I.ofTr, q⟩
  | brk => obtain ⟨σ', H', I, q⟩ := h; exact ⟨σ', H', I.ofTr, q⟩
  | cont => obtain ⟨σ', H', I, q⟩ := h; exact ⟨σ', H', I.ofTr, q⟩
  | ret u => obtain ⟨v, σ', H', I, r, q⟩ := h; exact ⟨v, σ', H', I.ofTr, r, q⟩
theorem Inv.slots (I : Inv X pins σ H s) (hex : X.ex = []) (up : s.heap.UpToSlots h') (kb : ∀ b o, s.heap.get? b = some o → b ∉ frs X.stack → ((∃ o₀, X.s₀.heap.get? b = some o₀) ∨ H b ≠ none) → h'.get? b = some o) (kp : ∀ p ∈ X.pn ++ pins, h'.get? p.1 = some p.2) :
    Inv X pins σ H { s with heap := h' } := by
  obtain ⟨un', hok'⟩ := slots_step I hex up kb
  have cl : ∀ c v, s.heap.IsCell c v → h'.IsCell c v := fun c v ⟨o, q, dd⟩ => by
    obtain ⟨sl, z⟩ := up c o q fun vs y => by rw [dd] at y; cases y
    exact ⟨_, z, dd⟩
  refine ⟨I.ok, I.os, I.bare, un', ?_, fun x c q => ?_, I.free, I.freeC, fun p hp => ?_, hok', I.len⟩
  · obtain ⟨m, hn, hl⟩ := I.loc
    refine ⟨m, up.ns hn, fun i x v e1 e2 e3 => ?_⟩
    obtain ⟨u, r, l⟩ := hl i x v e1 e2 e3
    refine ⟨u, r, ?_⟩
    rcases l with l | ⟨k, c, lc, ic⟩
    · exact .inl l
    · exact .inr ⟨k, c, lc, cl _ _ ic⟩
  · obtain ⟨v, z⟩ := I.cell x c q
    exact ⟨v, cl _ _ z⟩
  · obtain ⟨_, q⟩ := I.pin p hp
    exact ⟨kp p hp, q⟩
def Fly (X : Cx) (pins : List (Addr × Obj)) (E : XK) (e : Value) (s' : Shared) : Prop := ∃ (x : Addr) (cls : Value) (d : Option Addr) (B : Heap) (σ : St) (H : Hp), e = .ref x ∧ Inv X pins σ H s' ∧ Fl B X.stack x cls d .none s'.heap ∧ InB X B H s'.heap ∧
  (∀ p ∈ X.pn ++ pins, B.get? p.1 = some p.2) ∧ H x = none ∧ E cls d H
theorem Fly.pass {E : XK} (hex : X.ex = []) : Passes (CXe X.prog X.w) (X.tr (X.pn ++ pins) (Fly X pins E)) E := by
  intro pins2 σ H s e s' I h
  obtain ⟨x, cls, d, B, H', rfl, os, bare, un, hok, fl, inB, nx, hE⟩ := h
  have I' : Inv (X.tr (X.pn ++ pins) (Fly X pins E)) pins2 σ H' s' := I.call' (ch := []) os un hok bare (fun b hb => by simp at hb)
  have nst : ∀ p ∈ X.pn ++ pins, p.1 ∉ frs X.stack := fun p hp z => by
    obtain ⟨_, _, n1, n2, _⟩ := I.pin p (List.mem_append_left _ hp)
    rcases List.mem_cons.mp (I.stkSub p.1 z) with y | y
    · exact n1 y
    · exact n2 y
  refine ⟨x, cls, d, B, σ, H', rfl, I'.ofTr, fl, fun b o q nb c => inB b o q nb ?_, fun p hp => ?_, nx, hE⟩
  · rcases c with ⟨o₀, q₀⟩ | c
    · obtain ⟨o1, q1⟩ := I.base.there b o₀ q₀ (by show b ∉ X.ex; rw [hex]; simp)
      exact .inl ⟨o1, q1⟩
    · exact .inr c
  · exact inB p.1 p.2 (I'.pin p (List.mem_append_left _ hp)).1 (nst p hp) (.inl ⟨p.2, (I.pin p (List.mem_append_left _ hp)).1⟩)
theorem Inv.unname {t' : Nat} {m' : Str → Option Value} (I : Inv X pins σ H s) (hex : X.ex = []) (hn : h'.Ns X.env.locals m') (sb : Heap.SameBut X.env.locals s.heap h') : Inv X pins (List.replicate X.N.length none) H { s with heap := h', toks := t' } := by
  have kb : ∀ b o, b ≠ X.env.locals → s.heap.get? b = some o → h'.get? b = some o := fun b o nb q => sb.extBut b o nb q
  have below : ∀ b o, X.s₀.heap.get? b = some o → b ≠ X.env.locals := fun b o q z => by
    have h1 := Heap.lt_size q
    rw [z] at h1
    exact absurd (Nat.lt_of_lt_of_le h1 I.ok.above) (Nat.lt_irrefl _)
  refine ⟨I.ok, I.os, I.bare, ⟨fun b o q n nf nx => kb b o (below b o q) (I.base.keep b o q n nf nx), fun b o q n hf nx => ?_, I.base.free, fun b o q nx => ?_, I.base.tups, I.base.frzs, I.base.tbls⟩, ⟨m', hn, fun i x v _ e2 _ => ?_⟩, fun x c q => ?_, I.free, I.freeC, fun p hp => ?_, fun a o e => ?_, by simp⟩
  · obtain ⟨sl, z⟩ := I.base.slot b o q n hf nx
    exact ⟨sl, kb b _ (below b o q) z⟩
  · obtain ⟨o', z⟩ := I.base.there b o q nx
    exact ⟨o', kb b _ (below b o q) z⟩
  · rw [List.getElem?_replicate] at e2
    split at e2 <;> cases e2
  · obtain ⟨v, o, z, dd⟩ := I.cell x c q
    exact ⟨v, o, kb c o (I.cne x c q) z, dd⟩
  · obtain ⟨q, r⟩ := I.pin p hp
    exact ⟨kb _ _ r.2.1 q, r⟩
  · refine (I.hok a o e).stay (fun b u hb q => kb b u (fun z => ?_) q) (fun _ z => z) fun _ _ z => z
    have hn := I.free
    rcases hb with y | y
    · rw [← z, y, e] at hn; cases hn
    · rw [← z, y] at hn; cases hn
def excO (e : Addr) (cls : Value) : HO := .ext fun h => ∃ o : Obj, h.get? e = some o ∧ o.cls = cls ∧ o.dict = none ∧ ∃ ws, o.data = .fields ws
theorem Inv.caught {B : Heap} {l : List Env} {x : Addr} {cls fl : Value} {d : Option Addr} (I : Inv X pins σ H s) (F : Fl B l x cls d fl s.heap) (nx : H x = none) (ns : ∀ o, X.s₀.heap.get? x ≠ some o) (np : ∀ p ∈ X.pn ++ pins, p.1 ≠ x) : Inv X pins σ (upd H x (excO x cls)) s := by
  obtain ⟨ob, ws, T, ot, us, he, hc, hdi, hdt, r⟩ := F.tr
  have un : Un X.fs X.ex X.H₀ (upd H x (excO x cls)) X.s₀.heap s.heap := by
    refine ⟨I.base.keep, I.base.slot, fun b o q n nx' => ?_, I.base.there, fun b xs q => ?_, fun b o v q => ?_, fun b ps q => ?_⟩
    · rw [upd_ne (fun z => ns o (by rw [← z]; exact q))]
      exact I.base.free b o q n nx'
    · have z := I.base.tups b xs q
      rw [upd_ne (ne_of_none z nx)]
      exact z
    · have z := I.base.frzs b o v q
      rw [upd_ne (ne_of_none z nx)]
      exact z
    · obtain ⟨more, z⟩ := I.base.tbls b ps q
      exact ⟨more, by rw [upd_ne (ne_of_none z nx)]; exact z⟩
  have hL : x ≠ X.env.locals := fun z => by
    obtain ⟨m, ⟨o', es, ep, q, dd, _⟩, _⟩ := I.loc
    rw [← z, he] at q
    cases q
    rw [hdt] at dd
    cases dd
  refine ⟨I.ok, I.os, I.bare, un, I.loc, I.cell, by rw [upd_ne (Ne.symm hL)]; exact I.free, fun y c q => ?_, fun p hp => ?_, fun a o e => ?_, I.len⟩
  · have : c ≠ x := fun z => by
      obtain ⟨v, o, q', dd⟩ := I.cell y c q
      rw [z, he] at q'
      cases q'
      rw [hdt] at dd
      cases dd
    rw [upd_ne this]
    exact I.freeC y c q
  · obtain ⟨q, n, r⟩ := I.pin p hp
    exact ⟨q, by rw [upd_ne (np p hp)]; exact n, r⟩
  · by_cases ha : a = x
    · subst ha
      rw [upd_same] at e
      cases e
      refine ⟨⟨ob, he, hc, hdi, ws, hdt⟩, ⟨ob, he⟩, ?_⟩
      rintro h1 h2 ⟨o, q, z⟩ k
      exact ⟨o, k o q, z⟩
    · rw [upd_ne ha] at e
      exact (I.hok a o e).stay (fun b u hb q => q) (fun b z => by rw [upd_ne (ne_of_none z nx)]; exact z) (fun b xs z => by rw [upd_ne (ne_of_none z nx)]; exact z)
def tTryAs (i k : Nat) (Eh : XK) (tb ts : TS) : TS := fun D σ H => tb D σ H ∧ ∀ (e : Addr) (cls : Value) (d : Option Addr) (H' : Hp), Eh cls d H' → H' e = none → ts { nx := fun _ _ => False, rt := D.rt } ((List.replicate k none).set i (some (.ref e))) (upd H' e (excO e cls))
theorem ps_tryAs {Eh : XK} {body : List Stmt} {b₀ : Stmt} {suite : List Stmt} {tb ts : TS} {c n : Str} {C : Addr} {i k : Nat} {np hpos pos : Pos}
    (hst : X.stack = X.env :: X.outer) (hfr : X.env.frame = some X.env.locals) (hex : X.ex = []) (hN : X.N.Nodup) (hi : X.N[i]? = some n) (hl : X.env.scope.names.lookup n = some .local) (hk : X.N.length = k)
    (hg : Gl X c) (hm : X.mg c = some (.ref C)) (hC : ExcCl X.K C) (hE : ∀ cls d H, Eh cls d H → ∃ D, cls = .ref D ∧ PySem.W.mroIn X.K D (.ref C) = some true)
    (hb : ∀ pn xe, Passes (CXe X.prog X.w) (X.tr pn xe) Eh → PSs (X.tr pn xe) body tb) (hs : ∀ e, PSs (X.hnd e) (b₀ :: suite) ts) (hdb : (c == ("__debug__" : Str)) = false := by decide) :
    PS X (.Try body [.ExceptHandler (some (.Name c np)) (some n) (b₀ :: suite) hpos] [] [] pos) (tTryAs i k Eh tb ts) := by
  intro pins s σ H D I h
  obtain ⟨h1, h2⟩ := h
  refine wpAny_Try_except (wpAny_mono (hb (X.pn ++ pins) (Fly X pins Eh) (Fly.pass hex) [] s σ H D (I.toTr _) h1) (fun f s1 q => ?_) fun e s1 q => ?_)
  · have q' := SP.ofTr q
    cases f with
    | next =>
      obtain ⟨σ', H', I', r⟩ := q'
      exact pss_nil pins s1 σ' H' D I' r
    | brk => exact q'
    | cont => exact q'
    | ret u => exact q'
  · obtain ⟨x, cls, d, B, σ1, H1, rfl, I1, fl, inB, inP, nx, hE1⟩ := q
    have hA := I.ok.frames
    rw [hst] at hA
    rw [hst] at fl
    refine note_go hA hfr fl fun g F1 up1 => ?_
    refine land_go (fr := none) (s := { s1 with heap := g }) F1 fun g2 F2 up2 => ?_
    have I2 : Inv X pins σ1 H1 { s1 with heap := g2 } := I1.slots hex (up1.trans up2) (fun b o q nb c => F2.st b o (inB b o q nb c)) fun p hp => F2.st _ _ (inP p hp)
    refine wpAny_handleBy_cons (codeAny_handlers_test ?_) (by intro q; cases q)
    refine ld_glob (I2.toHnd x) hg hm ?_ hdb
    obtain ⟨D', rfl, hsub⟩ := hE cls d H1 hE1
    obtain ⟨ob, _, _, _, _, he, hcls, _⟩ := id F2.tr
    refine exc_matches (K := X.K) (s := { s1 with heap := g2 }) I2.kIn he hcls hC.mB hC.ty hC.cls hsub ?_
    refine codeAny_handlers_suite_as ?_
    refine land_go (fr := none) (s := { s1 with heap := g2 }) F2 fun g3 F3 up3 => ?_
    have I3 : Inv X pins σ1 H1 { s1 with heap := g3 } := I1.slots hex ((up1.trans up2).trans up3) (fun b o q nb c => F3.st b o (inB b o q nb c)) fun p hp => F3.st _ _ (inP p hp)
    have I4 := I3.caught F3 nx (fun o q => ?_) (fun p hp z => ?_)
    · refine store_ok (X := X.hnd x) (i := i) (I4.toHnd x) hN hi (.inl hl) (show RelV (.ref x) (.ref x) from rfl) (fun s5 I5 => ?_) (.inr hl)
      have lt : i < X.N.length := (List.getElem?_eq_some_iff.mp hi).1
      have I6 : Inv (X.hnd x) pins ((List.replicate k none).set i (some (.ref x))) (upd H1 x (excO x (.ref D'))) s5 := I5.weak (by rw [List.length_set, List.length_set, List.length_replicate, ← hk]; exact I1.len.symm) fun j v e => by
        by_cases hj : j = i
        · subst hj
          rw [List.getElem?_set_self (by rw [List.length_replicate, ← hk]; exact lt)] at e
          rw [List.getElem?_set_self (by rw [I1.len]; exact lt)]
          exact e
        · rw [List.getElem?_set_ne (Ne.symm hj), List.getElem?_replicate] at e
          split at e <;> cases e
      refine wpAny_mono (hs x pins s5 _ _ _ I6 (h2 x _ d H1 hE1 nx)) (fun f s6 q6 => ?_) fun _ _ z => z.elim
      cases f with
      | next => obtain ⟨_, _, _, z⟩ := q6; exact z.elim
      | brk => obtain ⟨_, _, _, z⟩ := q6; exact z.elim
      | cont => obtain ⟨_, _, _, z⟩ := q6; exact z.elim
      | ret u =>
        obtain ⟨v, σ7, H7, I7, r7, q7⟩ := q6
        have I8 := I7.ofHnd I.ok.hd
        obtain ⟨m, hm8, _⟩ := I8.loc
        refine wpAny_nameGoes hl hm8 (by rw [I.ok.kind]; rfl) fun h' m' hn' sb => ?_
        exact ⟨v, _, H7, I8.unname hex hn' sb, r7, q7⟩
    · have z1 := I1.base.there x o q (by rw [hex]; simp)
      obtain ⟨o1, q1⟩ := z1
      by_cases hx : x ∈ frs X.stack
      · obtain ⟨_, o', q', nf⟩ := I3.stack.mem hx
        obtain ⟨ob3, ws3, _, _, _, he3, _, _, hdt3, _⟩ := F3.tr
        have q'' : g3.get? x = some o' := q'
        rw [he3] at q''
        cases q''
        exact nf _ hdt3
      · have := inB x o1 q1 hx (.inl ⟨o, q⟩)
        rw [F3.no] at this
        cases this
    · have := inP p hp
      rw [z, F3.no] at this
      cases this
end
end L2

set_option Elab.async false
set_option linter.all false
set_option maxRecDepth 100000
namespace L2
open PySem PySem.Spec PyProof.Rows
section
variable {X : Cx}
theorem call_isiX : CallR X (.builtin "isinstance") (fun xs H Q => ∃ e D c b, xs = [.ref e, c] ∧ H e = some (excO e (.ref D)) ∧ ExcCl X.K D ∧ ((∃ n, c = .ty n) ∨ ∃ a, c = .ref a) ∧ PySem.W.kitOne X.K (.ref D) (valOf c) = some b ∧ Q (.bl b) H) := by
  intro pins s σ H xs us Q I r h
  obtain ⟨e, D, c, b, rfl, he, C, hc, hk, q⟩ := h
  obtain ⟨u, v, rfl, rx, rc⟩ := vals2 r
  have ev : v = valOf c := by
    rcases hc with ⟨n, rfl⟩ | ⟨a, rfl⟩
    · exact rc
    · exact rc
  subst ev
  cases (show u = Value.ref e from rx)
  obtain ⟨⟨o, h1, h2, h3, ws, h4⟩, _⟩ := (show ObjOk X.prog X.w H s.heap e (excO e (.ref D)) from I.hok e _ he)
  have J : PySem.W.InstAt s.heap e o D none := ⟨h1, h2, by obtain ⟨oc, od, dt, sl⟩ := o; cases h4; rfl, by rw [h3]; trivial⟩
  exact PySem.W.kia_one (kitx_exc C) I.kIn ⟨o, J⟩ hk (fun z => nomatch z) fun tk => ⟨.bl b, H, I.tok tk, rfl, q⟩
end
section
variable {M : Model} {A : Around} {E : Value → Shared → Prop} {s : Shared} {B : Heap} {env : Env} {l : List Env} {e x : Addr} {cls fl : Value} {d : Option Addr}
end
section
variable {X : Cx}
end
end L2

set_option Elab.async false
set_option linter.all false
set_option maxRecDepth 100000
namespace L2
open PySem PySem.Spec PyProof.Rows
section
variable {prog : Program} {w : World} {A : Around} {R : Result → Shared → Prop} {s : Shared}
end
section
variable {X : Cx}
end
end L2

set_option Elab.async false
set_option linter.all false
set_option maxRecDepth 100000
namespace L2
open PySem PySem.Spec PyProof.Rows
section
variable {X : Cx} {st : Stmt} {rest : List Stmt} {t : TS}
def tCut (t : TS) : TS := fun D σ H => t { D with nx := fun _ _ => False } σ H
theorem pss_cut (h : PS X st t) : PSs X (st :: rest) (tCut t) := by
  intro pins s σ H D I hq
  refine wpAny_execs_cons (thn (h pins s σ H _ I hq) fun f s1 q => ?_)
  cases f with
  | next => obtain ⟨_, _, _, z⟩ := q; exact z.elim
  | brk => exact q
  | cont => exact q
  | ret u => exact q
def tIfK (b : Bool) (c : TT) (t : TS) : TS := fun D σ H => c σ H fun b' H1 => b' = b ∧ t D σ H1
theorem ps_ifT {c : Expr} {a b : List Stmt} {tc : TT} {pos : Pos} (hc : PT X c tc) (ha : PSs X a t) : PS X (.If c a b pos) (tIfK true tc t) := by
  intro pins s σ H D I h
  refine wpAny_If (thn (hc pins s σ H _ I h) fun d s1 ⟨H1, I1, e, q1⟩ => ?_)
  subst e
  exact ha pins s1 σ H1 D I1 q1
theorem ps_ifF {c : Expr} {a b : List Stmt} {tc : TT} {pos : Pos} (hc : PT X c tc) (hb : PSs X b t) : PS X (.If c a b pos) (tIfK false tc t) := by
  intro pins s σ H D I h
  refine wpAny_If (thn (hc pins s σ H _ I h) fun d s1 ⟨H1, I1, e, q1⟩ => ?_)
  subst e
  exact hb pins s1 σ H1 D I1 q1
end
structure RoomH (k : Nat) (A : Around) : Prop where
  dp : A.depth + 3 * k + 5 < recursionLimit
  un : A.units + 16 * k + 200 < cLine
structure FnOkH (P : Program) (w : World) (K : PySem.W.Frag) (mg : Str → Option Value) (base : Heap) (k : Nat) (f : Addr) (fd : FuncData) (ps : List Str) (sp : Sp) : Prop where
  len : ∀ vs H Q E, sp vs H Q E → vs.length = ps.length
  run : ∀ (A : Around) (outer : List Env) (s : Shared) (H : Hp) (args : Args) (us : List Value) (vs : List V) (Q : VK), RoomH k A → Env0 P w K mg base A outer s H → BindsTo s fd args (ps.zip us) → Vals vs us → sp vs H Q E0 →
    codeAny (model P w) A (.call (.ref f) args) (CR CX0 outer P w H s Q E0) s
abbrev cxH (P : Program) (w : World) (K : PySem.W.Frag) (mg : Str → Option Value) (base : Heap) (N : List Str) (qual : Str) (scope : Scope) (f : Addr) (cd : Value) (A : Around) (outer : List Env) (s : Shared) (H : Hp) : Cx :=
  { cxOf CX0 P w K mg base N qual scope f cd A outer s H E0 with calm := false, xe := fun _ _ => False }
section
variable {P : Program} {w : World} {K : PySem.W.Frag} {mg : Str → Option Value} {base : Heap}
theorem Fun.okH {x qual : Str} {st : Stmt} {f : Addr} {fd : FuncData} {N ps : List Str} {k : Nat} {sp : Sp} (F : Fun K x qual st f fd) (S : FnScope N ps (defScope st)) (len : ∀ vs H Q E, sp vs H Q E → vs.length = ps.length)
    (hbody : ∀ (cdv : Value) (A : Around) (outer : List Env) (s : Shared) (H : Hp) (vs : List V) (Q : VK), sp vs H Q E0 →
      ∃ t, PSs (cxH P w K mg base N qual (defScope st) f cdv A outer s H) (defBody st) t ∧
        t { nx := fun _ H' => ∃ H'', (Cl H → Cl H' → Gc H H' H'') ∧ Q .non H'', rt := fun v H' => ∃ H'', (Cl H → Cl H' → Gc H H' H'') ∧ Q v H'' } (start N vs) H) : FnOkH P w K mg base (k + 1) f fd ps sp := by
  obtain ⟨oc, od, kV, doc, pm, an, cdv, ct, osl, rfl, lk, hcd⟩ := F.ex
  refine ⟨len, fun A outer s H args us vs Q hr e0 hb r hsp => ?_⟩
  have hl := len _ _ _ _ hsp
  have KX : K.In s.heap := e0.mod.kin.keeps fun b o e => (e0.bs b o e).1
  have lim : s.heap.NoLimit := e0.mod.nolimit.keeps fun b o e => (e0.bs b o e).1
  have hkind : ∀ y ∈ ps.zip us, (defScope st).names.lookup y.1 = some .local ∨ ((defScope st).names.lookup y.1 = some .cell ∧ ((cellsFrom (s.heap.objs.size + 1) (defScope st).names []).lookup y.1).isSome = true) := fun ⟨n, v⟩ hy => by
    rcases S.par n (List.of_mem_zip hy).1 with q | q
    · exact .inl q
    · exact .inr ⟨q, PySem.W.cellsFrom_some _ _ _ (.inl q)⟩
  refine codeAny_call_function (by have := hr.dp; omega) (KX _ _ lk) rfl S.co S.gen rfl (PySem.W.codeRec_of KX hcd) (hb _ _ _ _ ?_)
  refine wpAny_newFunctionEnv_cells S.kind hkind fun env he s1 x => ?_
  subst he
  refine ⟨lim.keeps x.toInCall.keep, codeAny_func ?_⟩
  obtain ⟨t, ht, hq⟩ := hbody cdv A outer s H vs Q hsp
  have e1 : Env0 P w K mg base { A with handled := none } outer s H := ⟨e0.frames, e0.mod, e0.bs, e0.bsz, e0.funs, e0.frf, e0.hok, e0.bare⟩
  have I0 : Inv (cxOf CX0 P w K mg base N qual (defScope st) f cdv { A with handled := none } outer s H E0) [] (start N vs) H s1 := inv_start S rfl e1 hl r x
  have I : Inv (cxH P w K mg base N qual (defScope st) f cdv A outer s H) [] (start N vs) H s1 :=
    let ok := I0.ok
    ⟨⟨ok.mod, ok.kind, ok.glob, ok.blt, ok.above, ok.inj, ok.has, ok.cab, (fun z => by cases z), Around.frames_deeper e0.frames, ok.stk, ok.exf, ok.bs, ok.bsz, ok.noex, ok.exfs, ok.funs, ok.frf⟩, I0.os, I0.bare, I0.base, I0.loc, I0.cell, I0.free, I0.freeC, I0.pin, I0.hok, I0.len⟩
  refine wpAny_mono (ht [] s1 (start N vs) H _ I hq) (fun fl s' hs => ?_) fun e s' hs => hs.elim
  have fin : ∀ {σ' : St} {H' : Hp} {v : V} {u : Value}, Inv (cxH P w K mg base N qual (defScope st) f cdv A outer s H) [] σ' H' s' → RelV v u → (∃ H'', (Cl H → Cl H' → Gc H H' H'') ∧ Q v H'') → CE outer P w H s Q u s' := by
    intro σ' H' v u J rv ⟨H'', g, q⟩
    have un : Un (frs outer) [] H H' s.heap s'.heap := J.base
    have hok : HOk P w H' s'.heap := J.hok
    have g' := g e0.hok.cl hok.cl
    refine ⟨v, H'', J.os, J.bare, ?_, hok.less g'.sub g'.cl, rv, q⟩
    exact ⟨un.keep, un.slot, fun b o e n hx => free_of_sub g'.sub (un.free b o e n hx), un.there, fun b xs e => g'.imm b _ trivial e (un.tups b xs e), fun b o v e => g'.imm b _ trivial e (un.frzs b o v e), fun b ps e => by
      obtain ⟨more, q⟩ := un.tbls b ps e
      exact (show False from hok b _ q).elim⟩
  cases fl with
  | ret u =>
    obtain ⟨v, σ', H', J, rv, q⟩ := hs
    exact fin J rv q
  | next =>
    obtain ⟨σ', H', J, q⟩ := hs
    exact fin (v := V.non) (u := Value.none) J rfl q
  | brk =>
    obtain ⟨_, _, _, q⟩ := hs
    exact False.elim q
  | cont =>
    obtain ⟨_, _, _, q⟩ := hs
    exact False.elim q
end
section
variable (P : Program) (w : World) (K : PySem.W.Frag) (mg : Str → Option Value) (base : Heap)
structure FnH (k : Nat) (x : Str) (sp : Sp) : Prop where
  ex : ∃ (f : Addr) (fd : FuncData) (ps : List Str), FnOkH P w K mg base k f fd ps sp ∧ mg x = some (.ref f) ∧ PySem.W.keepIn K (.ref f) = true ∧ Binds K fd ps []
structure Ask (k : Nat) (f : Addr) (sp : Sp) : Prop where
  kp : ∀ (H : Hp) (h : Heap) (vs : List V) (Q : VK) (E : XK), sp vs H Q E → HOk P w H h → K.In h → ∃ kk, (kk = Keeper.frame ∨ kk = Keeper.machine ∨ kk = Keeper.boundFrame) ∧ PySem.W.Looks (model P w) h (keeperOf (.ref f)) kk
  run : ∀ (A : Around) (outer : List Env) (s : Shared) (H : Hp) (us : List Value) (vs : List V) (Q : VK) (E : XK), Room k A → Env0 P w K mg base A outer s H → Vals vs us → sp vs H Q E →
    codeAny (model P w) A (.call (.ref f) ⟨us, []⟩) (CR (CXe P w) outer P w H s Q E) s
end
section
variable {X : Cx} {k j i : Nat} {x : Str} {sp : Sp} {p pos : Pos} {e : Expr} {es : List Expr} {t : TA} {E : XK}
theorem pe_fnh (F : FnH X.prog X.w X.K X.mg X.base k x sp) (hr : RoomH j X.A) (hg : Gl X x) (ha : PA X (e :: es) t) (hk : k ≤ j := by decide) (hdb : (x == ("__debug__" : Str)) = false := by decide)
    (he : starEach (e :: es) X.env = (false, eval e X.env) :: starEach es X.env := by rfl) (hpl : (backTo pos (starEach es X.env)).any (·.1) = false := by rfl) : PE X (.Call (.Name x p) (e :: es) [] pos) (tCall sp [] E0 t) := by
  obtain ⟨f, fd, ps, G, hm, kp, hb⟩ := F.ex
  intro pins s σ H Q I h
  refine wpAny_Call_Name_kw (ld_glob I hg hm ?_ hdb)
  refine PySem.W.callWith_K (h₀ := X.base) I.ok.mod.kin kp (thn (ha pos pins s σ H _ I h) fun us s1 ⟨vs, H1, I1, r, q⟩ => ⟨I1.kIn, ?_⟩) he hpl
  have hl : (us ++ []).length = ps.length := by
    have := G.len _ _ _ _ q
    rw [List.append_nil] at this ⊢
    rw [← r.length]
    exact this
  have q' : sp vs H1 Q E0 := by
    have z : sp (vs ++ []) H1 Q E0 := q
    rw [List.append_nil] at z
    exact z
  have hb' := hb s1 us I1.kIn hl
  rw [List.append_nil] at hb'
  refine wpAny_call (codeAny_mono (G.run X.A X.stack s1 H1 ⟨us, []⟩ us vs Q ⟨by have := hr.dp; omega, by have := hr.un; omega⟩ I1.env0 hb' r q') fun r s' hq => ?_)
  cases r with
  | error e => exact hq.elim
  | ok fl =>
    cases fl with
    | ret u => exact I1.after hq
    | next => exact False.elim hq
    | brk => exact False.elim hq
    | cont => exact False.elim hq
def tAsk (P : Program) (w : World) (K : PySem.W.Frag) (mg : Str → Option Value) (base : Heap) (k i : Nat) (E : XK) (t : TA) : TE := fun σ H Q => ∃ (f : Addr) (sp : Sp), σ[i]? = some (some (.ref f)) ∧ Ask P w K mg base k f sp ∧ t σ H fun vs H1 => sp vs H1 Q E
theorem pe_ask (hx : Passes (CXe X.prog X.w) X E) (hr : Room j X.A) (hv : PE X (.Name x p) (tVar i)) (ha : PA X (e :: es) t) (hk : k ≤ j := by decide)
    (he : starEach (e :: es) X.env = (false, eval e X.env) :: starEach es X.env := by rfl) (hpl : (backTo pos (starEach es X.env)).any (·.1) = false := by rfl) : PE X (.Call (.Name x p) (e :: es) [] pos) (tAsk X.prog X.w X.K X.mg X.base k i E t) := by
  intro pins s σ H Q I ⟨f, sp, hσ, G, h⟩
  refine wpAny_Call_Name_kw (thn (hv pins s σ H (fun v H' => v = .ref f ∧ H' = H) I ⟨_, hσ, rfl, rfl⟩) fun u s0 z => ?_)
  obtain ⟨v, H0, I0, rv, ev, eH⟩ := z
  subst ev eH
  obtain rfl : u = Value.ref f := rv
  have key := ha pos pins s0 σ H0 _ I0 h
  rw [he] at key ⊢
  refine PySem.W.callWith_of (P := fun h => ∃ kk, (kk = Keeper.frame ∨ kk = Keeper.machine ∨ kk = Keeper.boundFrame) ∧ PySem.W.Looks (model X.prog X.w) h (keeperOf (.ref f)) kk) (by show ((false || (backTo pos (starEach es X.env)).any (·.1)) || false) = false; rw [hpl]; rfl) (fun h z => z) (Calls.evalArgs_plain (thn key fun us s1 z => ?_))
  obtain ⟨vs, H1, I1, r, q⟩ := z
  refine ⟨G.kp H1 s1.heap vs Q E q I1.hok I1.kIn, wpAny_call (codeAny_mono (G.run X.A X.stack s1 H1 us vs Q E (hr.mono hk) I1.env0 r q) fun r s' hq => ?_)⟩
  cases r with
  | error e => exact hx pins σ H1 s1 e s' I1 hq
  | ok fl =>
    cases fl with
    | ret u => exact I1.after hq
    | next => exact False.elim hq
    | brk => exact False.elim hq
    | cont => exact False.elim hq
theorem FnX.ask {P : Program} {w : World} {K : PySem.W.Frag} {mg : Str → Option Value} {base : Heap} {f : Addr} (F : FnX P w K mg base k x sp) (hm : mg x = some (.ref f)) : Ask P w K mg base k f sp := by
  obtain ⟨f', fd, ps, G, hm', kp, hb⟩ := F.ex
  rw [hm] at hm'
  cases hm'
  refine ⟨fun H h vs Q E _ _ X => PySem.W.keeps_K kp h X, fun A outer s H us vs Q E hr e0 r q => ?_⟩
  have KX : K.In s.heap := e0.mod.kin.keeps fun b o e => (e0.bs b o e).1
  have hl : (us ++ []).length = ps.length := by
    rw [List.append_nil, ← r.length]
    exact G.len _ _ _ _ q
  have hb' := hb s us KX hl
  rw [List.append_nil] at hb'
  exact G.run A outer s H ⟨us, []⟩ us vs Q E hr e0 hb' r q
end
end L2

set_option Elab.async false
set_option linter.all false
set_option maxRecDepth 100000
namespace L2
open PySem PySem.Spec PyProof.Rows
def tabO (a : Addr) (ps : Array Value) : HO := .ext fun h => h.get? a = some (PySem.W.tabObj ps)
def codO (c : Addr) (q : Str) : HO := .ext fun h => h.CodeRec (.ref c) q
structure Lam where
  qual : Str
  params : Arguments
  body : Expr
  scope : Scope
def lamO (f c : Addr) (l : Lam) : HO := .ext fun h => ∃ pm ctv, h.get? f = some (PySem.W.kla_obj "<lambda>" l.qual l.params l.body l.scope [] pm c ctv)
section
variable {X : Cx} {pins : List (Addr × Obj)} {σ : St} {H : Hp} {s : Shared} {h' : Heap}
theorem Inv.track {x : Addr} {o : HO} (I : Inv X pins σ H s) (nx : H x = none) (new : ObjOk X.prog X.w (upd H x o) s.heap x o) (ns : ∀ u, X.s₀.heap.get? x ≠ some u) (np : ∀ p ∈ X.pn ++ pins, p.1 ≠ x) (hL : x ≠ X.env.locals) (hc : ∀ y c, X.env.cells.lookup y = some c → c ≠ x) :
    Inv X pins σ (upd H x o) s := by
  have un : Un X.fs X.ex X.H₀ (upd H x o) X.s₀.heap s.heap := by
    refine ⟨I.base.keep, I.base.slot, fun b u q n nx' => ?_, I.base.there, fun b xs q => ?_, fun b u v q => ?_, fun b ps q => ?_⟩
    · rw [upd_ne (fun z => ns u (by rw [← z]; exact q))]
      exact I.base.free b u q n nx'
    · have z := I.base.tups b xs q
      rw [upd_ne (ne_of_none z nx)]
      exact z
    · have z := I.base.frzs b u v q
      rw [upd_ne (ne_of_none z nx)]
      exact z
    · obtain ⟨more, z⟩ := I.base.tbls b ps q
      exact ⟨more, by rw [upd_ne (ne_of_none z nx)]; exact z⟩
  refine ⟨I.ok, I.os, I.bare, un, I.loc, I.cell, by rw [upd_ne (Ne.symm hL)]; exact I.free, fun y c q => by rw [upd_ne (hc y c q)]; exact I.freeC y c q, fun p hp => ?_, fun a u e => ?_, I.len⟩
  · obtain ⟨q, n, r⟩ := I.pin p hp
    exact ⟨q, by rw [upd_ne (np p hp)]; exact n, r⟩
  · by_cases ha : a = x
    · subst ha
      rw [upd_same] at e
      cases e
      exact new
    · rw [upd_ne ha] at e
      exact (I.hok a u e).stay (fun b v hb q => q) (fun b z => by rw [upd_ne (ne_of_none z nx)]; exact z) (fun b xs z => by rw [upd_ne (ne_of_none z nx)]; exact z)
def tLam (T : Addr) (l : Lam) (pos : Pos) : TE := fun _ H Q => ∃ ps : Array Value, H T = some (tabO T ps) ∧ TriplesOk ps.toList ∧
  ((codeAmong pos ps.toList = none ∧ ∀ f c, H f = none → H c = none → f ≠ c → Q (.ref f) (upd (upd (upd H T (tabO T (ps ++ #[rawInt pos.line, rawInt pos.col, .ref c]))) c (codO c l.qual)) f (lamO f c l))) ∨
   ∃ c, codeAmong pos ps.toList = some (.ref c) ∧ H c = some (codO c l.qual) ∧ ∀ f, H f = none → Q (.ref f) (upd H f (lamO f c l)))
theorem pe_lam {T c : Addr} {params : Arguments} {body : Expr} {scope : Scope} {pos : Pos} (hcd : X.env.code = .ref c) (Chd : PySem.W.CodeHd X.base c T) (hcl : closureFor scope X.env = pure []) (hdef : defaultsOf params X.env = ([], [])) (hgT : mainGlobals ≠ T) (Hb : X.base.BuiltinsAt X.mg T) :
    PE X (.Lambda params body scope pos) (tLam T ⟨X.env.qual ++ "<lambda>", params, body, scope⟩ pos) := by
  intro pins s σ H Q I h
  obtain ⟨ps, hT, htr, alt⟩ := h
  have hTo : s.heap.get? T = some (PySem.W.tabObj ps) := (show ObjOk X.prog X.w H s.heap T (tabO T ps) from I.hok T _ hT).1
  refine PySem.W.kla_eval hdef ?_
  have fx : ∀ b o, s.heap.get? b = some o → ∀ c, s.heap.objs.size ≤ c → b ≠ c := fun b o q c hc => Nat.ne_of_lt (Nat.lt_of_lt_of_le (Heap.lt_size q) hc)
  rcases alt with ⟨hnf, q⟩ | ⟨c', hf, hc', q⟩
  · refine PySem.W.kla_makeFunction (mg := X.mg) hcl I.ok.glob (I.mod.glob.keeps I.bk) hcd (Chd.keeps I.bk) hTo htr hnf hgT (Hb.keeps I.bk) fun c' ctv h' tk hx hge hlt hrec htb => ?_
    have nT : T < s.heap.objs.size := Heap.lt_size hTo
    have nc : H c' = none := I.hok.fresh hge
    have nTc : T ≠ c' := Nat.ne_of_lt (Nat.lt_of_lt_of_le nT hge)
    have I1 : Inv X pins σ (upd H T (tabO T (ps ++ #[rawInt pos.line, rawInt pos.col, .ref c']))) { s with heap := h', toks := tk } := by
      refine I.write (x := T) (e := T) (by rw [hT]; trivial) (.inl rfl) (fun b u nb e => hx b u nb e) ⟨_, htb⟩ ?_
      exact ⟨htb, ⟨_, htb⟩, fun h1 h2 e k => k _ e⟩
    have nc1 : upd H T (tabO T (ps ++ #[rawInt pos.line, rawInt pos.col, .ref c'])) c' = none := by rw [upd_ne (Ne.symm nTc)]; exact nc
    have I2 := I1.track (o := codO c' (X.env.qual ++ "<lambda>")) nc1 (by
      obtain ⟨c₂, oc, vs, t, e2, hoc, hd, hv⟩ := id hrec
      cases e2
      refine ⟨hrec, ⟨_, hoc⟩, ?_⟩
      rintro h1 h2 ⟨c₃, oc', vs', t', e3, hoc', hd', hv'⟩ k
      cases e3
      exact ⟨c', oc', vs', t', rfl, k _ hoc', hd', hv'⟩) (fun u e => fx c' u (by
        have := Heap.lt_size e
        exact absurd (Nat.lt_of_lt_of_le this (Nat.le_trans I.sz hge)) (Nat.lt_irrefl _)) c' hge rfl) (fun p hp => fx _ _ (I.pin p hp).1 _ hge) (Nat.ne_of_gt (Nat.lt_of_lt_of_le I.lt hge)) (fun y d e => by
        obtain ⟨v, o, io, _⟩ := I.cell y d e
        exact fx _ _ io _ hge)
    have fle : s.heap.objs.size ≤ h'.objs.size := Nat.le_of_lt (Nat.lt_of_le_of_lt hge hlt)
    have nf : H h'.objs.size = none := I.hok.fresh fle
    have ncf : h'.objs.size ≠ c' := Nat.ne_of_gt hlt
    refine ⟨.ref h'.objs.size, _, Inv.laid (s := { s with heap := h', toks := tk }) (t' := tk) (o := lamO h'.objs.size c' ⟨X.env.qual ++ "<lambda>", params, body, scope⟩) I2 (fun b u e => Heap.get?_push_of_some _ e) (Nat.le_refl _) ?_, rfl, q _ c' nf nc ncf⟩
    refine ⟨⟨_, _, Heap.get?_push_size _ rfl⟩, ⟨_, Heap.get?_push_size _ rfl⟩, ?_⟩
    rintro h1 h2 ⟨pm, ct, e⟩ k
    exact ⟨pm, ct, k _ e⟩
  · refine PySem.W.kla_makeFunctionHit (mg := X.mg) hcl I.ok.glob (I.mod.glob.keeps I.bk) hcd (Chd.keeps I.bk) hTo htr hf (Hb.keeps I.bk) fun ctv h' tk hk hsz => ?_
    have I1 : Inv X pins σ H { s with heap := h', toks := tk } := I.kept hk
    have nf : H h'.objs.size = none := I.hok.fresh hsz
    refine ⟨.ref h'.objs.size, _, Inv.laid (s := { s with heap := h', toks := tk }) (t' := tk) (o := lamO h'.objs.size c' ⟨X.env.qual ++ "<lambda>", params, body, scope⟩) I1 (fun b u e => Heap.get?_push_of_some _ e) (Nat.le_refl _) ?_, rfl, q _ nf⟩
    refine ⟨⟨_, _, Heap.get?_push_size _ rfl⟩, ⟨_, Heap.get?_push_size _ rfl⟩, ?_⟩
    rintro h1 h2 ⟨pm, ct, e⟩ k
    exact ⟨pm, ct, k _ e⟩
end
section
variable {P : Program} {w : World} {K : PySem.W.Frag} {mg : Str → Option Value} {base : Heap}
theorem lam_ask {k : Nat} {f c : Addr} {l : Lam} {N : List Str} {sp : Sp} (S : FnScope N N l.scope) (len : ∀ vs H Q E, sp vs H Q E → vs.length = N.length)
    (hbind : ∀ (pm ctv : Value) (us : List Value), us.length = N.length → bindArgs (PySem.W.kla_fn "<lambda>" l.qual l.params l.body l.scope [] pm (.ref c) ctv) ⟨us, []⟩ = pure (N.zip us))
    (hbody : ∀ (A : Around) (outer : List Env) (s : Shared) (H : Hp) (vs : List V) (Q : VK) (E : XK), Room k (A.deeper (envOfC l.qual l.scope s.heap.objs.size f (.ref c))) → sp vs H Q E → Leaves (cxOf (CXe P w) P w K mg base N l.qual l.scope f (.ref c) A outer s H E) E →
      ∃ t, PE (cxOf (CXe P w) P w K mg base N l.qual l.scope f (.ref c) A outer s H E) l.body t ∧ t (start N vs) H Q) :
    Ask P w K mg base (k + 1) f (fun vs H Q E => H f = some (lamO f c l) ∧ H c = some (codO c l.qual) ∧ sp vs H Q E) := by
  refine ⟨fun H h vs Q E hs hok _ => ?_, fun A outer s H us vs Q E hr e0 r hs => ?_⟩
  · obtain ⟨⟨pm, ctv, e⟩, _⟩ := (show ObjOk P w H h f (lamO f c l) from hok f _ hs.1)
    exact ⟨.frame, .inl rfl, (PySem.W.Looks.ld (part := none) e).andThen .now⟩
  · obtain ⟨h1, h2, hsp⟩ := hs
    obtain ⟨⟨pm, ctv, hf⟩, _⟩ := (show ObjOk P w H s.heap f (lamO f c l) from e0.hok f _ h1)
    obtain ⟨hc, _⟩ := (show ObjOk P w H s.heap c (codO c l.qual) from e0.hok c _ h2)
    have hl := len _ _ _ _ hsp
    have lim : s.heap.NoLimit := e0.mod.nolimit.keeps fun b o e => (e0.bs b o e).1
    have hkind : ∀ y ∈ N.zip us, l.scope.names.lookup y.1 = some .local ∨ (l.scope.names.lookup y.1 = some .cell ∧ ((cellsFrom (s.heap.objs.size + 1) l.scope.names []).lookup y.1).isSome = true) := fun ⟨n, v⟩ hy => by
      rcases S.par n (List.of_mem_zip hy).1 with q | q
      · exact .inl q
      · exact .inr ⟨q, PySem.W.cellsFrom_some _ _ _ (.inl q)⟩
    refine PySem.W.kla_callFunE hr.depth hf rfl S.co S.gen rfl hc ?_
    rw [hbind pm ctv us (by rw [← r.length]; exact hl)]
    refine wpAny_pure (wpAny_newFunctionEnv_cells S.kind hkind fun env he s1 x => ?_)
    subst he
    refine ⟨lim.keeps x.toInCall.keep, PySem.W.kla_codeExpr ?_⟩
    obtain ⟨t, ht, hq⟩ := hbody A outer s H vs Q E (hr.deeper _) hsp leaves_of
    have I : Inv (cxOf (CXe P w) P w K mg base N l.qual l.scope f (.ref c) A outer s H E) [] (start N vs) H s1 := inv_start S hr.hd e0 hl r x
    refine wpAny_mono (ht [] s1 (start N vs) H _ I hq) (fun u s' z => ?_) fun e s' z => z
    obtain ⟨v, H', J, rv, q⟩ := z
    exact ⟨v, H', J.os, J.bare, J.base, J.hok, rv, q⟩
end
end L2

set_option Elab.async false
set_option linter.all false
set_option maxRecDepth 100000
namespace L2
open PySem PySem.Spec PyProof.Rows
section
variable {P : Program} {w : World} {K : PySem.W.Frag} {mg : Str → Option Value} {base : Heap} {k j : Nat} {f : Addr} {fd : FuncData} {ps : List Str} {sp sp' : Sp} {x m : Str} {C : Addr}
theorem FnOk.either (F : FnOk P w K mg base CX0 k f fd ps sp) (G : FnOk P w K mg base (CXe P w) j f fd ps sp') (h : k ≤ j) : FnOk P w K mg base (CXe P w) j f fd ps (fun vs H Q E => sp vs H Q E0 ∨ sp' vs H Q E) := by
  refine ⟨fun vs H Q E h => ?_, fun A outer s H args us vs Q E hr e0 hb r h' => ?_⟩
  · rcases h with h | h
    · exact F.len _ _ _ _ h
    · exact G.len _ _ _ _ h
  · rcases h' with h' | h'
    · refine codeAny_mono (F.run A outer s H args us vs Q E0 (hr.mono h) e0 hb r h') fun r s' q => ?_
      cases r with
      | error e => exact False.elim q
      | ok fl => cases fl <;> exact q
    · exact G.run A outer s H args us vs Q E hr e0 hb r h'
end
theorem FnOk.never {P : Program} {w : World} {K : PySem.W.Frag} {mg : Str → Option Value} {base : Heap} {CX : CXT} {k : Nat} {f : Addr} {fd : FuncData} {ps : List Str} {sp : Sp} (h : ∀ vs H Q E, ¬ sp vs H Q E) : FnOk P w K mg base CX k f fd ps sp :=
  ⟨fun vs H Q E z => (h vs H Q E z).elim, fun _ _ _ H _ _ vs Q E _ _ _ _ z => (h vs H Q E z).elim⟩
section
variable (P : Program) (w : World) (K : PySem.W.Frag) (mg : Str → Option Value) (base : Heap)
structure MthX (k : Nat) (C : Addr) (m : Str) (sp : Sp) : Prop where
  cls : Cls K C
  ex : ∃ (f : Addr) (fd : FuncData) (ps : List Str), Meth K C m f ∧ FnOk P w K mg base (CXe P w) k f fd ps sp ∧ Binds K fd ps []
end
def tMethX (P : Program) (w : World) (K : PySem.W.Frag) (mg : Str → Option Value) (base : Heap) (k : Nat) (m : Str) (E : XK) (ta : TE) (t : TA) : TE := fun σ H Q => ta σ H fun x H1 => ∃ a C dx fs sp, x = .ref a ∧ H1 a = some (.ins C dx fs) ∧ fs.lookup m = none ∧ MthX P w K mg base k C m sp ∧
  t σ H1 fun vs H2 => sp (x :: vs) H2 Q E
section
variable {X : Cx} {k j : Nat} {x m : Str} {sp : Sp} {C : Addr} {p pos apos : Pos} {e o : Expr} {es : List Expr} {ta : TE} {t : TA} {E : XK}
theorem pe_mtX {pl : Sem Bool} (k : Nat) (hx : Passes (CXe X.prog X.w) X E) (hr : Room j X.A) (he : PE X o ta) (ha : PA X (e :: es) t) (hk : k ≤ j := by decide)
    (hst : starEach (e :: es) X.env = (false, eval e X.env) :: starEach es X.env := by rfl) (hpl : (backTo pos (starEach es X.env)).any (·.1) = false := by rfl)
    (ht : eval (.Call (.Attribute o m apos) (e :: es) [] pos) X.env = (do
      let ov ← eval o X.env
      standAt apos.atName
      let (f, first) ← holding [ov] (getMethod ov m pl)
      callWith pos f first (backTo pos (starEach (e :: es) X.env)) (backToKw pos (keywordEach [] X.env))) := by rfl) :
    PE X (.Call (.Attribute o m apos) (e :: es) [] pos) (tMethX X.prog X.w X.K X.mg X.base k m E ta t) := by
  intro pins s σ H Q I h
  refine PySem.W.methodCall_KW (pl := pl) (thn (he pins s σ H _ I h) fun u s1 ⟨x, H1, I1, rx, a, C, dx, fs, sp, ex, ea, l, M, q⟩ => ?_) ht
  subst ex
  obtain rfl : u = Value.ref a := rx
  obtain ⟨f, fd, ps, hm, F, hb⟩ := M.ex
  refine getmeth_ok I1 ea M.cls hm l ?_
  refine PySem.W.callWith_K (first := [.ref a]) (h₀ := X.base) I.ok.mod.kin hm.kp (thn (ha pos pins s1 σ H1 _ I1 q) fun us s2 ⟨vs, H2, I2, r, q2⟩ => ⟨I2.kIn, ?_⟩) hst hpl
  exact run_fn (us := .ref a :: us) (vs := .ref a :: vs) (dvs := []) F (hr.mono hk) hb .nil hx I2 (.cons rfl r) (by rw [List.append_nil]; exact q2)
theorem Ask.mono {P : Program} {w : World} {K : PySem.W.Frag} {mg : Str → Option Value} {base : Heap} {f : Addr} (A : Ask P w K mg base k f sp) (h : k ≤ j) : Ask P w K mg base j f sp :=
  ⟨A.kp, fun A' outer s H us vs Q E hr => A.run A' outer s H us vs Q E (hr.mono h)⟩
theorem FnX.named {P : Program} {w : World} {K : PySem.W.Frag} {mg : Str → Option Value} {base : Heap} (F : FnX P w K mg base k x sp) (h : k ≤ j) : ∃ f, mg x = some (.ref f) ∧ Ask P w K mg base j f sp := by
  obtain ⟨f, fd, ps, G, hm, kp, hb⟩ := F.ex
  exact ⟨f, hm, (FnX.ask ⟨f, fd, ps, G, hm, kp, hb⟩ hm).mono h⟩
end
end L2

set_option Elab.async false
set_option linter.all false
set_option maxRecDepth 100000
namespace L2
open PySem PySem.Spec PyProof.Rows
theorem among_app {pos : Pos} {a b : Int} {v : Value} : ∀ l : List Value, TriplesOk l → codeAmong pos (l ++ [rawInt a, rawInt b, v]) = codeAmong pos l ∨ (codeAmong pos l = none ∧ codeAmong pos (l ++ [rawInt a, rawInt b, v]) = some v)
  | [], _ => by
    have e := codeAmong.eq_1 pos a 0 b 0 v []
    have e0 : codeAmong pos ([] ++ [rawInt a, rawInt b, v]) = codeAmong pos [Value.int a 0, Value.int b 0, v] := rfl
    rw [e0, e]
    by_cases h : (a == (pos.line : Int) && b == (pos.col : Int)) = true
    · rw [if_pos h]
      exact .inr ⟨rfl, rfl⟩
    · rw [if_neg h]
      exact .inl rfl
  | .int i t1 :: .int j t2 :: c :: r, h => by
    have h' : TriplesOk r := by rw [TriplesOk.eq_2] at h; exact h
    have ih := among_app (pos := pos) (a := a) (b := b) (v := v) r h'
    have e0 : codeAmong pos ((Value.int i t1 :: Value.int j t2 :: c :: r) ++ [rawInt a, rawInt b, v]) = codeAmong pos (Value.int i t1 :: Value.int j t2 :: c :: (r ++ [rawInt a, rawInt b, v])) := rfl
    rw [e0, codeAmong.eq_1, codeAmong.eq_1]
    by_cases hc : (i == (pos.line : Int) && j == (pos.col : Int)) = true
    · rw [if_pos hc, if_pos hc]
      exact .inl rfl
    · rw [if_neg hc, if_neg hc]
      exact ih
def TabOk (H : Hp) (T : Addr) (q : Str) : Prop := ∃ ps : Array Value, H T = some (tabO T ps) ∧ TriplesOk ps.toList ∧ ∀ pos, codeAmong pos ps.toList = none ∨ ∃ c, codeAmong pos ps.toList = some (.ref c) ∧ c ≠ T ∧ H c = some (codO c q)
def SBt (T : Addr) (H H' : Hp) : Prop := ∀ b o, b ≠ T → H b = some o → H' b = some o
section
variable {H H' : Hp} {T b : Addr} {q : Str}
theorem TabOk.ne {o : HO} (h : TabOk H T q) (hb : H b = some o) (ho : ∀ φ, o ≠ .ext φ) : b ≠ T := fun e => by
  obtain ⟨ps, hT, _⟩ := h
  subst e
  rw [hb] at hT
  cases hT
  exact ho _ rfl
theorem TabOk.at_ {o : HO} (h : TabOk H T q) (s : SBt T H H') (hb : H b = some o) (ho : ∀ φ, o ≠ .ext φ) : H' b = some o := s _ _ (h.ne hb ho) hb
theorem TabOk.keep (h : TabOk H T q) (s : Same H H') : TabOk H' T q := by
  obtain ⟨ps, hT, tr, al⟩ := h
  refine ⟨ps, s _ _ hT, tr, fun pos => ?_⟩
  rcases al pos with z | ⟨c, z, n, hc⟩
  · exact .inl z
  · exact .inr ⟨c, z, n, s _ _ hc⟩
theorem TabOk.nil (h : H T = some (tabO T #[])) : TabOk H T q := ⟨#[], h, trivial, fun pos => .inl rfl⟩
theorem lam_go {l : Lam} {pos : Pos} {σ : St} {Q : VK} (h : TabOk H T l.qual) (k : ∀ (f c : Addr) (H1 : Hp), H1 f = some (lamO f c l) → H1 c = some (codO c l.qual) → TabOk H1 T l.qual → SBt T H H1 → Q (.ref f) H1) : tLam T l pos σ H Q := by
  have h0 := id h
  obtain ⟨ps, hT, tr, al⟩ := h
  refine ⟨ps, hT, tr, ?_⟩
  rcases al pos with z | ⟨c, z, n, hc⟩
  · refine .inl ⟨z, fun f c nf nc nfc => ?_⟩
    have nTc : c ≠ T := fun e => by rw [e, hT] at nc; cases nc
    have nTf : f ≠ T := fun e => by rw [e, hT] at nf; cases nf
    refine k f c _ upd_same (by rw [upd_ne (Ne.symm nfc)]; exact upd_same) ⟨_, by rw [upd_ne (Ne.symm nTf), upd_ne (Ne.symm nTc)]; exact upd_same, ?_, fun pos' => ?_⟩ fun b o hb e => ?_
    · rw [Array.toList_append]
      exact TriplesOk_snoc _ _ _ _ tr
    · rw [Array.toList_append]
      rcases among_app (pos := pos') (a := (pos.line : Int)) (b := (pos.col : Int)) (v := .ref c) ps.toList tr with y | ⟨_, y⟩
      · rcases al pos' with x | ⟨c', x, n', hc'⟩
        · exact .inl (y.trans x)
        · refine .inr ⟨c', y.trans x, n', ?_⟩
          rw [upd_ne (fun e => by rw [e, nf] at hc'; cases hc'), upd_ne (fun e => by rw [e, nc] at hc'; cases hc'), upd_ne n']
          exact hc'
      · exact .inr ⟨c, y, nTc, by rw [upd_ne (Ne.symm nfc)]; exact upd_same⟩
    · rw [upd_ne (fun e' => by rw [e', nf] at e; cases e), upd_ne (fun e' => by rw [e', nc] at e; cases e), upd_ne hb]
      exact e
  · refine .inr ⟨c, z, hc, fun f nf => ?_⟩
    have s := Same.new (Same.refl H) (o := lamO f c l) nf
    exact k f c _ upd_same (s _ _ hc) (h0.keep s) fun b o _ e => s _ _ e
end
section
variable {P : Program} {w : World} {K : PySem.W.Frag} {mg : Str → Option Value} {base : Heap}
theorem Fun.okC {x qual : Str} {st : Stmt} {f : Addr} {fd : FuncData} {N ps : List Str} {k : Nat} {sp : Sp} {cdv : Value} (F : Fun K x qual st f fd) (hc : fd.code = cdv) (S : FnScope N ps (defScope st)) (len : ∀ vs H Q E, sp vs H Q E → vs.length = ps.length)
    (hbody : ∀ (A : Around) (outer : List Env) (s : Shared) (H : Hp) (vs : List V) (Q : VK) (E : XK), Room k (A.deeper (envOfC qual (defScope st) s.heap.objs.size f cdv)) → sp vs H Q E →
      ∃ t, PSs (cxOf CX0 P w K mg base N qual (defScope st) f cdv A outer s H E).nox (defBody st) t ∧
        t { nx := fun _ H' => ∃ H'', (Cl H → Cl H' → Gc H H' H'') ∧ Q .non H'', rt := fun v H' => ∃ H'', (Cl H → Cl H' → Gc H H' H'') ∧ Q v H'' } (start N vs) H) : FnOk P w K mg base CX0 (k + 1) f fd ps sp := by
  have G : FnOk P w K mg base CX0 (k + 1) f fd ps (fun vs H Q' E => ∃ Q, sp vs H Q E ∧ Q' = fun v H' => ∃ H'', (Cl H → Cl H' → Gc H H' H'') ∧ Q v H'') := by
    obtain ⟨oc, od, kV, doc, pm, an, cdv', ct, osl, rfl, lk, hcd⟩ := F.ex
    obtain rfl : cdv' = cdv := hc
    refine fn_of lk hcd S (fun vs H Q E ⟨Q0, h, _⟩ => len vs H Q0 E h) fun A outer s H vs Q' E hr ⟨Q0, h, e⟩ => ?_
    subst e
    obtain ⟨t, h', q⟩ := hbody A outer s H vs Q0 E hr h
    exact ⟨t, h'.nox, q⟩
  exact G.gc len fun vs H Q E h => ⟨Q, h, rfl⟩
end
def OnlyT (T : Addr) (H : Hp) : Prop := ∀ b, b ≠ T → H b = none ∨ ∃ o xs, H b = some (.frz o (.lst xs))
theorem law_callT {P : Program} {w : World} {K : PySem.W.Frag} {mg mb : Str → Option Value} {CX : CXT} {k : Nat} {fa a c T : Addr} {fd : FuncData} {x : Str} {sp : Sp} {s₁ : Shared} {vs : List Value} {ns : List Int}
    (KX : K.In s₁.heap) (hns : s₁.heap.Ns mainGlobals mg) (hb : s₁.heap.Ns builtinsNs mb) (hbb : ∀ x : Str, x ≠ "__name__" → mb x = bootBuiltins x) (hlim : s₁.heap.NoLimit) (hg : s₁.gens = #[])
    (ha : s₁.heap.get? a = some { cls := .type "list", data := .seq vs.toArray }) (hi : IntsAre vs ns) (hl : ns.length ≤ sizeLine) (hr : Room k callerA)
    (hT : s₁.heap.get? T = some (PySem.W.tabObj #[])) (hKT : K.lookup T = none) (hcT : PySem.W.CodeHd s₁.heap c T) (hBt : s₁.heap.BuiltinsAt mg T)
    (F : ∀ base : Heap, K.In base → base.Ns mainGlobals mg → base.BuiltinsAt mg T → FnOk P w K mg base CX k fa fd [x] sp) (hbind : ∀ (s : Shared) (u : Value), BindsTo s fd ⟨[u], []⟩ [(x, u)])
    (hsp : ∀ H : Hp, H T = some (tabO T #[]) → SqL K H a (ns.map V.int) → sp [.ref a] H (fun v H' => v = .bl true ∧ ∃ ps, H' T = some (tabO T ps)) fun _ _ _ => False)
    (hCX : ∀ H e s', CX [] H s₁ (fun _ _ _ => False) e s' → False) :
    codeAny (model P w) callerA (.call (.ref fa) ⟨[.ref a], []⟩) (fun r s' => r = .ok (.ret (.bool true)) ∧ OldK s₁.heap s'.heap ∧ s'.os = s₁.os ∧ AllBare s'.gens) s₁ := by
  have rv := vals_ints hi
  have lenV := hi.length
  have naT : a ≠ T := fun e => by
    rw [e, hT] at ha
    cases ha
  have core : ∀ H : Hp, OnlyT T H → H T = some (tabO T #[]) → SqL K H a (ns.map V.int) → HOk P w H s₁.heap → (∀ b, H b ≠ none → b = a ∨ b = T) → (H a ≠ none → K.lookup a = none) →
      codeAny (model P w) callerA (.call (.ref fa) ⟨[.ref a], []⟩) (fun r s' => r = .ok (.ret (.bool true)) ∧ OldK s₁.heap s'.heap ∧ s'.os = s₁.os ∧ AllBare s'.gens) s₁ := by
    intro H hO hHT hS hok hA hK
    have base_of : ∀ {b : Addr} {o : Obj}, s₁.heap.get? b = some o → H b = none → (hidT s₁.heap H).get? b = some o := fun e n => hidT_get e n
    have noH : ∀ {b : Addr}, b ≠ a → b ≠ T → H b = none := fun {b} n1 n2 => by
      cases q : H b with
      | none => rfl
      | some u =>
        rcases hA b (by rw [q]; simp) with z | z
        · exact absurd z n1
        · exact absurd z n2
    have noA : ∀ {b : Addr} {o : Obj} {es : Array DictEntry} {ep : Nat}, s₁.heap.get? b = some o → o.data = .dict es ep → H b = none := fun {b o es ep} e d => noH
      (fun z => by
        subst z
        rw [ha] at e; cases e
        have d' : Data.seq vs.toArray _ = Data.dict es ep := d
        cases d')
      (fun z => by
        subst z
        rw [hT] at e; cases e
        have d' : Data.fields #[] = Data.dict es ep := d
        cases d')
    have nsK : ∀ {b : Addr} {m : Str → Option Value}, s₁.heap.Ns b m → (hidT s₁.heap H).Ns b m := fun {b m} ⟨o, es, ep, e, d, r⟩ => ⟨o, es, ep, base_of e (noA e d), d, r⟩
    have hKb : K.In (hidT s₁.heap H) := fun b o e => base_of (KX b o e) (by
      cases q : H b with
      | none => rfl
      | some u =>
        rcases hA b (by rw [q]; simp) with e' | e'
        · subst e'
          rw [hK (by rw [q]; simp)] at e; cases e
        · subst e'
          rw [hKT] at e; cases e)
    have hBb : (hidT s₁.heap H).BuiltinsAt mg T := by
      obtain ⟨bm, o, h1, h2, h3, h4, h5, h6, h7, h8⟩ := hBt
      refine ⟨bm, o, h1, h2, h3, h4, base_of h5 (noH (fun z => ?_) h4), h6, h7, h8⟩
      subst z
      rw [ha] at h5
      cases h5
      have h6' : Value.type "list" = Value.type "module" := h6
      exact absurd h6' (by decide)
    have hM : Mod K mg (hidT s₁.heap H) := ⟨hKb, nsK hns, ⟨mb, nsK hb, hbb⟩, let ⟨mc, h1, h2⟩ := hlim; ⟨mc, nsK h1, h2⟩⟩
    have e0 : Env0 P w K mg (hidT s₁.heap H) callerA [] s₁ H := ⟨rfl, hM, fun b o e => of_hidT e, Nat.le_of_eq (hidT_size _ _), trivial, fun b hb => absurd (show b ∈ ([] : List Addr) from hb) (by simp), hok, .of_eq hg⟩
    refine codeAny_mono ((F _ hKb (nsK hns) hBb).run callerA [] s₁ H ⟨[.ref a], []⟩ [.ref a] [.ref a] _ _ hr e0 (hbind s₁ (.ref a)) (.cons rfl .nil) (hsp H hHT hS)) fun r s' h => ?_
    cases r with
    | error e => exact (hCX H e s' h).elim
    | ok fl =>
      cases fl with
      | next => exact False.elim h
      | brk => exact False.elim h
      | cont => exact False.elim h
      | ret u =>
        obtain ⟨v, H', os, bare, un, hok', r', q, psT, hT'⟩ := h
        have q' : v = .bl true := q
        subst q'
        obtain rfl : u = Value.bool true := r'
        have kp : ∀ b o, s₁.heap.get? b = some o → b ≠ T → s'.heap.get? b = some o := fun b o e nb => by
          cases q : H b with
          | none => exact un.keep b o e q (by intro z; exact absurd (show b ∈ ([] : List Addr) from z) (by simp)) (by simp)
          | some u =>
            rcases hO b nb with z | ⟨ob, xs, z⟩
            · rw [q] at z; cases z
            · have z2 := un.frzs b ob _ z
              obtain ⟨e1, _⟩ := hok b _ z
              obtain ⟨e2, _⟩ := hok' b _ z2
              rw [e] at e1; cases e1
              exact e2
        have tT : s'.heap.get? T = some (PySem.W.tabObj psT) := (show ObjOk P w H' s'.heap T (tabO T psT) from hok' T _ hT').1
        refine ⟨rfl, ⟨fun b o e => ?_, fun b o e => ?_⟩, os, bare⟩
        · by_cases hb : b = T
          · subst hb
            rw [hT] at e
            cases e
            refine .inr (.inl ⟨?_, rfl, #[], psT, rfl, ?_⟩)
            · obtain ⟨o, vs', _, _, _, _, _, _, _, h1, h2, h3, h4, _⟩ := hcT
              exact ⟨c, o, vs', h1, h2, h3, h4⟩
            · rw [Array.empty_append]
              exact tT
          · exact .inl (kp b o e hb)
        · by_cases hb : b = T
          · subst hb
            exact ⟨_, tT⟩
          · exact ⟨_, kp b o e hb⟩
  have extT : ∀ H : Hp, ObjOk P w H s₁.heap T (tabO T #[]) := fun H => ⟨hT, ⟨_, hT⟩, fun h1 h2 e k => k _ e⟩
  cases hk : K.lookup a with
  | some o =>
    have e := KX a o hk
    rw [ha] at e
    cases e
    refine core (fun b => if b = T then some (tabO T #[]) else none) (fun b hb => .inl (if_neg hb)) (if_pos rfl) (.inr ⟨_, vs.toArray, _, hk, rfl, rfl, rfl, by rw [List.size_toArray, lenV]; exact hl, by simpa using rv⟩) (fun b u z => ?_) (fun b z => ?_) fun z => absurd (if_neg naT) z
    · by_cases hb : b = T
      · have z' := (if_pos hb).symm.trans z
        cases z'
        subst hb
        exact extT _
      · have z' := (if_neg hb).symm.trans z
        cases z'
    · by_cases hb : b = T
      · exact .inr hb
      · exact absurd (if_neg hb) z
  | none =>
    have at_a : (fun b => if b = a then some (.frz { cls := .type "list", data := .seq vs.toArray } (.lst (ns.map V.int))) else if b = T then some (tabO T #[]) else none : Hp) a = some (.frz { cls := .type "list", data := .seq vs.toArray } (.lst (ns.map V.int))) := if_pos rfl
    refine core (fun b => if b = a then some (.frz { cls := .type "list", data := .seq vs.toArray } (.lst (ns.map V.int))) else if b = T then some (tabO T #[]) else none) (fun b hT' => ?_) ((if_neg (Ne.symm naT)).trans (if_pos rfl)) (.inl (.inr ⟨{ cls := .type "list", data := .seq vs.toArray }, at_a⟩)) (fun b u z => ?_) (fun b z => ?_) fun _ => hk
    · by_cases hb : b = a
      · exact .inr ⟨_, _, if_pos hb⟩
      · exact .inl ((if_neg hb).trans (if_neg hT'))
    · by_cases hb : b = a
      · have z' := (if_pos hb).symm.trans z
        cases z'
        subst hb
        exact ⟨ha, by rw [List.length_map]; exact hl, vs, _, rv, ha⟩
      · have z' := (if_neg hb).symm.trans z
        by_cases hb2 : b = T
        · have z2 := (if_pos hb2).symm.trans z'
          cases z2
          subst hb2
          exact extT _
        · have z2 := (if_neg hb2).symm.trans z'
          cases z2
    · by_cases hb : b = a
      · exact .inl hb
      · by_cases hb2 : b = T
        · exact .inr hb2
        · exact absurd ((if_neg hb).trans (if_neg hb2)) z
theorem lookup_no {T : Addr} : ∀ {K : PySem.W.Frag}, T ∉ K.map (fun x => x.1) → K.lookup T = none
  | [], _ => rfl
  | (b, o) :: r, h => by
    rw [List.map_cons, List.mem_cons, not_or] at h
    rw [List.lookup_cons, show (T == b) = false from beq_eq_false_iff_ne.mpr h.1]
    exact lookup_no h.2
theorem km_no {K : Params → PySem.W.Frag} {as : List Addr} {e : ∀ (P : Params), as = List.map (fun x => x.fst) (K P)} {ts : List Addr} {w : World} {h : Heap} (_ : (PySem.W.kmHook K as e ts).says w h) {T : Addr} (hT : as.contains T = false) : (K w.params).lookup T = none := by
  refine lookup_no fun z => ?_
  rw [← e w.params] at z
  have := List.contains_iff_mem.mpr z
  rw [hT] at this
  cases this
theorem code_hd {K : PySem.W.Frag} {h : Heap} {c T : Addr} {od : Option Addr} {vs : Array Value} {sl : Array (Option Value)} {fl : Str} {tf tg tt : Tok} {fg tx : Int} {ib : Bool} (X : K.In h) (l : K.lookup c = some ⟨.type "code", od, .fields vs, sl⟩) (h11 : vs[11]? = some (.ref T)) (g11 : vs.getD 11 .none = .ref T)
    (g18 : vs.getD 18 .none = .str fl tf) (g7 : vs.getD 7 .none = .int fg tg) (g9 : vs.getD 9 .none = .bool ib) (g10 : vs.getD 10 .none = .int tx tt) (ne : c ≠ T) : PySem.W.CodeHd h c T :=
  ⟨_, vs, fl, tf, fg, tg, ib, tx, tt, X _ _ l, rfl, rfl, h11, g11, g18, g7, g9, g10, ne⟩
theorem walk_ofT {l : PySem.W.OpenLaw} {n k : Nat} {q : Program} {loose : List Str} {XP : (Str → Option Value) → Heap → Prop} {YP : World → Heap → Prop} {d : DefRec} {K : Params → PySem.W.Frag} {CX : World → CXT} {sp : World → Sp} {x : Str} {T : Addr}
    (hn : l.most = some n) (hn2 : n ≤ sizeLine) (hdf : d.params.defaults = []) (hr : Room k callerA)
    (hY : ∀ (w : World) (h : Heap), YP w h → (K w.params).In h ∧ h.get? T = some (PySem.W.tabObj #[]) ∧ (K w.params).lookup T = none)
    (F : ∀ (w : World) (mg : Str → Option Value) (fa : Addr) (h : Heap), (K w.params).In h → h.Ns mainGlobals mg → mg d.name = some (.ref fa) → mainGlobals ≠ T →
      ∃ (fd : FuncData) (c : Addr), PySem.W.CodeHd h c T ∧ (∀ (s : Shared) (u : Value), BindsTo s fd ⟨[u], []⟩ [(x, u)]) ∧
        ∀ base : Heap, (K w.params).In base → base.Ns mainGlobals mg → base.BuiltinsAt mg T → FnOk l.prog w (K w.params) mg base (CX w) k fa fd [x] (sp w))
    (hsp : ∀ (w : World) (H : Hp) (a : Addr) (ns : List Int), ns.length ≤ n → H T = some (tabO T #[]) → SqL (K w.params) H a (ns.map V.int) → sp w [.ref a] H (fun v H' => v = .bl true ∧ ∃ ps, H' T = some (tabO T ps)) fun _ _ _ => False)
    (hCX : ∀ (w : World) (H : Hp) (s : Shared) (e : Value) (s' : Shared), CX w [] H s (fun _ _ _ => False) e s' → False) :
    PySem.W.WalkO q loose XP YP l.row.toRowW d [] (fun f vs => PySem.call f vs) := by
  refine Att.attach_call hn hdf fun w s₀ s₁ mg mb fa o pm cd doc a vs ns G Y ho hd hcd hmg hobj hints hlen hg => ?_
  obtain ⟨KX, hT, hKT⟩ := hY w _ Y
  have hgT : mainGlobals ≠ T := fun e => by
    obtain ⟨o, es, ep, g1, g2, _⟩ := G.T.g
    rw [e, hT] at g1
    cases g1
    have g2' : Data.fields #[] = Data.dict es ep := g2
    cases g2'
  obtain ⟨fd, c, hcT, hb, hF⟩ := F w mg fa _ KX G.T.g hmg hgT
  have hBt : s₁.heap.BuiltinsAt mg T := by
    obtain ⟨bm, ob, h1, h2, h3, h4, h5, h6⟩ := G.T.bmain
    refine ⟨bm, ob, h1, h2, fun e => ?_, fun e => ?_, h3, h4, h5, h6⟩
    · obtain ⟨o, es, ep, g1, g2, _⟩ := G.T.g
      rw [e, g1] at h3
      cases h3
      rw [g2] at h6
      cases h6
    · rw [e, hT] at h3
      cases h3
      have h4' : Value.none = Value.type "module" := h4
      cases h4'
  exact law_callT KX G.T.g G.T.b G.T.builtins G.T.nolimit hg hobj hints (Nat.le_trans hlen hn2) hr hT hKT hcT hBt hF hb (fun H hHT hS => hsp w H a ns hlen hHT hS) fun H e s' => hCX w H s₁ e s'
def conV : Expr → Option V
  | .Constant .none _ _ => some .non
  | .Constant (.bool b) _ _ => some (.bl b)
  | .Constant (.int i) _ _ => some (.int i)
  | .Constant (.str x) _ _ => some (.str x)
  | _ => none
def conVs : List Expr → Option (List V)
  | [] => some []
  | e :: es => match conV e, conVs es with
    | some v, some vs => some (v :: vs)
    | _, _ => none
structure Itm (e : Expr) (te : TE) : Prop where
  pe : ∀ X : Cx, PE X e te
  st : ∀ (es : List Expr) (env : Env), starEach (e :: es) env = (false, eval e env) :: starEach es env
theorem itm_con : ∀ {e : Expr} {v : V}, conV e = some v → Itm e (tC v) := by
  intro e v h
  unfold conV at h
  split at h
  · cases h; exact ⟨fun X => pe_non, fun es env => rfl⟩
  · cases h; exact ⟨fun X => pe_bl, fun es env => rfl⟩
  · cases h; exact ⟨fun X => pe_int, fun es env => rfl⟩
  · cases h; exact ⟨fun X => pe_str, fun es env => rfl⟩
  · cases h
theorem pa_I {X : Cx} {e : Expr} {es : List Expr} {te : TE} {t : TA} (h : Itm e te) (hr : PA X es t) : PA X (e :: es) (tCons te t) := pa_cons (h.pe X) hr (h.st es X.env)
theorem pa_conVs {X : Cx} : ∀ {es : List Expr} {vs : List V}, conVs es = some vs → PA X es (tK vs)
  | [], vs, h => by
    cases h
    exact pa_nil
  | e :: es, vs, h => by
    unfold conVs at h
    cases h1 : conV e with
    | none => rw [h1] at h; cases h
    | some v =>
      cases h2 : conVs es with
      | none => rw [h1, h2] at h; cases h
      | some ws =>
        rw [h1, h2] at h
        cases h
        intro pos pins s σ H Q I q
        exact pa_I (X := X) (itm_con h1) (pa_conVs h2) pos pins s σ H Q I q
theorem itm_lst {es : List Expr} {vs : List V} {p : Pos} (h : conVs es = some vs) : Itm (.List es p) (tLst (tK vs)) := ⟨fun X => pe_lst (pa_conVs h), fun _ _ => rfl⟩
theorem itm_tup {es : List Expr} {vs : List V} {k} {p : Pos} (h : conVs es = some vs) : Itm (.Tuple es k p) (tTup (tK vs)) := ⟨fun X => pe_tup (pa_conVs h), fun _ _ => rfl⟩
theorem itm_dict {p : Pos} : Itm (.Dict [] [] p) tDNew := ⟨fun X => pe_dnew, fun _ _ => rfl⟩
def ifB : Stmt → List Stmt
  | .If _ b _ _ => b
  | _ => []
def ifE : Stmt → List Stmt
  | .If _ _ b _ => b
  | _ => []
def forB : Stmt → List Stmt
  | .For _ _ b _ _ => b
  | _ => []
theorem pe_askK {X : Cx} {P : Program} {w : World} {K : PySem.W.Frag} {mg : Str → Option Value} {base : Heap} {k j i : Nat} {x : Str} {p pos : Pos} {e : Expr} {es : List Expr} {t : TA} {E : XK}
    (hX : X.prog = P ∧ X.w = w ∧ X.K = K ∧ X.mg = mg ∧ X.base = base) (hx : Passes (CXe X.prog X.w) X E) (hr : Room j X.A) (hv : PE X (.Name x p) (tVar i)) (ha : PA X (e :: es) t) (hk : k ≤ j := by decide)
    (he : starEach (e :: es) X.env = (false, eval e X.env) :: starEach es X.env := by rfl) (hpl : (backTo pos (starEach es X.env)).any (·.1) = false := by rfl) : PE X (.Call (.Name x p) (e :: es) [] pos) (tAsk P w K mg base k i E t) := by
  obtain ⟨rfl, rfl, rfl, rfl, rfl⟩ := hX
  exact pe_ask hx hr hv ha hk he hpl
section
variable {X : Cx}
def rEqLL (K : PySem.W.Frag) : R2 := fun x y H Q => ∃ (p q : Addr) (rs ss : List Addr), x = .ref p ∧ y = .ref q ∧ SqL K H p (rs.map V.ref) ∧ SqL K H q (ss.map V.ref) ∧ rs.length = ss.length ∧
  (∀ (i : Nat) (a b : Addr), rs[i]? = some a → ss[i]? = some b → a ≠ b ∧ ∃ xs, SqL K H a xs ∧ SqL K H b xs ∧ xs.all flatV = true ∧ eqVs xs xs = true) ∧ Q (.bl true) H
theorem op_eqLL (hu : X.A.units + 1 < cLine) : OpR X (compareOp .Eq) (rEqLL X.K) := by
  intro pins s σ H x y v u Q I rx ry h
  obtain ⟨p, q, rs, ss, rfl, rfl, hp, hq, hl, hall, k⟩ := h
  cases rx
  cases ry
  obtain ⟨its, r, pl, hz⟩ := I.list hp
  obtain ⟨its2, r2, pl2, hz2⟩ := I.list hq
  have l1 := r.length
  have l2 := r2.length
  rw [List.length_map] at l1 l2
  refine SeqAt.eq_listAt (e := fun _ => true) pl.isList pl2.isList (by simp; omega) (by omega) (fun j h1 h2 => ?_) ⟨.bl _, H, I, rfl, ?_⟩
  · have h1' : j < its.length := by simpa using h1
    have h2' : j < its2.length := by simpa using h2
    have e1 : rs[j]? = some (rs[j]'(by omega)) := List.getElem?_eq_getElem _
    have e2 : ss[j]? = some (ss[j]'(by omega)) := List.getElem?_eq_getElem _
    obtain ⟨u, hu1, ru⟩ := r.get (i := j) (x := .ref (rs[j]'(by omega))) (by rw [List.getElem?_map, e1]; rfl)
    obtain ⟨w, hw1, rw'⟩ := r2.get (i := j) (x := .ref (ss[j]'(by omega))) (by rw [List.getElem?_map, e2]; rfl)
    cases ru
    cases rw'
    have eu : its.toArray[j] = Value.ref (rs[j]'(by omega)) := by
      rw [List.getElem?_eq_getElem h1'] at hu1
      simpa using hu1
    have ew : its2.toArray[j] = Value.ref (ss[j]'(by omega)) := by
      rw [List.getElem?_eq_getElem h2'] at hw1
      simpa using hw1
    rw [eu, ew]
    obtain ⟨hne, xs, ha, hb, fx, hxx⟩ := hall j _ _ e1 e2
    obtain ⟨ia, ra, pa, za⟩ := I.list ha
    obtain ⟨ib, rb, pb, zb⟩ := I.list hb
    have la := ra.length
    have lb := rb.length
    refine SeqAt.EqAt.of_refs hne ?_
    have := SeqAt.RcAt.lists (A := X.A.in1) pa.isList pb.isList (by simp; omega) (by show X.A.units + 1 < cLine; exact hu) (eqVs_at ra rb fx fx)
    have e3 : eqVs xs xs = (List.range ia.toArray.size).all fun i => eqV (xs.getD i .non) (xs.getD i .non) := by
      unfold eqVs
      rw [beq_self_eq_true, Bool.true_and, List.size_toArray, ← la]
    rw [← e3, hxx] at this
    exact this
  · rw [show ((List.range its.toArray.size).all fun _ => true) = true from List.all_eq_true.mpr (fun _ _ => rfl)]
    exact k
def rEqLen (K : PySem.W.Frag) : R2 := fun x y H Q => ∃ (p q : Addr) (xs ys : List V), x = .ref p ∧ y = .ref q ∧ SqL K H p xs ∧ SqL K H q ys ∧ xs.length ≠ ys.length ∧ Q (.bl false) H
theorem op_eqLen (hu : X.A.units < cLine) : OpR X (compareOp .Eq) (rEqLen X.K) := by
  intro pins s σ H x y v u Q I rx ry h
  obtain ⟨p, q, xs, ys, rfl, rfl, hp, hq, hl, k⟩ := h
  cases rx
  cases ry
  obtain ⟨its, r, pl, hz⟩ := I.list hp
  obtain ⟨its2, r2, pl2, hz2⟩ := I.list hq
  have l1 := r.length
  have l2 := r2.length
  exact SeqAt.eq_list_lengthsAt pl.isList pl2.isList (by simp; omega) hu ⟨.bl _, H, I, rfl, k⟩
end
theorem ExcCl.of {K : PySem.W.Frag} {D : Addr} (ex : PySem.W.excIn K D bmV "ValueError.__new__" = true) (ga : PySem.W.findIn K (.ref D) "__getattribute__" = some (some (.builtin "BaseException.__getattribute__"))) (gt : PySem.W.findIn K (.ref D) "__getattr__" = some none)
    (ha : PySem.W.findIn K (.ref D) "__class__" = some (some (.builtin "object.__class__"))) (yg : PySem.W.specialIn K (.builtin "object.__class__") "__get__" = some (some (.builtin "getset_descriptor.__get__"))) (yt : PySem.W.takesIn K (.builtin "object.__class__") = some true)
    (mB : PySem.W.mroIn K D (.type "BaseException") = some true) (mo : PySem.W.mroIn K D (.type "object") = some true) (ty : PySem.W.typeIn K (.ref D) = some (.type "type")) : ExcCl K D := by
  obtain ⟨cd, hc, _⟩ := Option.bind_eq_some_iff.mp mo
  refine ⟨ex, by rw [hc]; rfl, ga, gt, ?_, mB, mo, ty⟩
  unfold PySem.W.findObj
  rw [hc, Option.bind_some, ha, Option.bind_some]
  simp [yg, yt]
end L2

namespace Rf
open List
def IsOrd (xs : List Nat) : Prop := xs.Perm (range xs.length)
theorem IsOrd.lt {xs : List Nat} (h : IsOrd xs) : ∀ x ∈ xs, x < xs.length := fun _ hx => mem_range.mp (h.mem_iff.mp hx)
theorem IsOrd.nodup {xs : List Nat} (h : IsOrd xs) : xs.Nodup := h.nodup_iff.mpr nodup_range
theorem IsOrd.of_perm {xs ys : List Nat} (h : IsOrd xs) (p : ys.Perm xs) : IsOrd ys := by
  unfold IsOrd at *; rw [p.length_eq]; exact p.trans h
def pick (xs src : List Nat) : List Nat := src.map fun i => xs.getD i 0
def unGo (xs : List Nat) : List Nat → Nat → List Nat → List Nat
  | [], _, b => b
  | s :: r, i, b => unGo xs r (i + 1) (b.set s (xs.getD i 0))
def unpick (xs src : List Nat) : List Nat := unGo xs src 0 xs
theorem pick_length (xs src : List Nat) : (pick xs src).length = src.length := by simp [pick]
theorem unGo_length (xs : List Nat) : ∀ (src : List Nat) (i : Nat) (b : List Nat), (unGo xs src i b).length = b.length
  | [], _, _ => rfl
  | s :: r, i, b => by simp [unGo, unGo_length xs r]
theorem unGo_out (xs : List Nat) : ∀ (src : List Nat) (i : Nat) (b : List Nat) (j : Nat), j ∉ src → (unGo xs src i b)[j]? = b[j]?
  | [], _, _, _, _ => rfl
  | s :: r, i, b, j, h => by
    rw [unGo, unGo_out xs r _ _ j (fun z => h (mem_cons_of_mem _ z)), getElem?_set_ne]
    intro e; exact h (by rw [e]; exact mem_cons_self)
theorem unGo_in (xs : List Nat) : ∀ (src : List Nat) (i : Nat) (b : List Nat) (k j : Nat), src.Nodup → (∀ s ∈ src, s < b.length) → src[k]? = some j → (unGo xs src i b)[j]? = some (xs.getD (i + k) 0)
  | [], _, _, _, _, _, _, h => by simp at h
  | s :: r, i, b, 0, j, nd, hl, h => by
    simp at h; subst h
    rw [unGo, unGo_out xs r _ _ s (nodup_cons.mp nd).1]
    simp [hl s mem_cons_self]
  | s :: r, i, b, k + 1, j, nd, hl, h => by
    rw [unGo, unGo_in xs r (i + 1) _ k j (nodup_cons.mp nd).2 (fun t ht => by simpa using hl t (mem_cons_of_mem _ ht)) (by simpa using h)]
    congr 2; omega
theorem perm_lt {src : List Nat} {n : Nat} (p : src.Perm (range n)) : ∀ s ∈ src, s < n := fun _ hs => mem_range.mp (p.mem_iff.mp hs)
theorem perm_len {src : List Nat} {n : Nat} (p : src.Perm (range n)) : src.length = n := by simpa using p.length_eq
theorem perm_nodup {src : List Nat} {n : Nat} (p : src.Perm (range n)) : src.Nodup := p.nodup_iff.mpr nodup_range
theorem pick_map_range (xs : List Nat) : pick xs (range xs.length) = xs := by
  apply ext_getElem?
  intro j
  by_cases hj : j < xs.length
  · simp [pick, hj, getD_eq_getElem?_getD]
  · rw [getElem?_eq_none (by rw [pick_length, length_range]; omega), getElem?_eq_none (by omega)]
theorem pick_ord {xs src : List Nat} (h : IsOrd xs) (p : src.Perm (range xs.length)) : IsOrd (pick xs src) := by
  refine h.of_perm ?_
  have := p.map (fun i => xs.getD i 0)
  exact this.trans (by rw [show (range xs.length).map (fun i => xs.getD i 0) = xs from pick_map_range xs])
def srcCut (m n : Nat) : List Nat := range' m (n - m) ++ range m
def srcTurn (n : Nat) : List Nat := (range n).reverse
theorem srcCut_perm {m n : Nat} (h : m ≤ n) : (srcCut m n).Perm (range n) := by
  unfold srcCut
  refine perm_append_comm.trans ?_
  have : range n = range m ++ range' m (n - m) := by
    rw [range_eq_range', range_eq_range', show n = m + (n - m) by omega, ← range'_append_1]
    simp
  rw [this]
theorem srcTurn_perm (n : Nat) : (srcTurn n).Perm (range n) := reverse_perm _
def underGo {α} : List α → List α → List α
  | [], laid => laid
  | [x], laid => laid ++ [x]
  | x :: y :: r, laid => underGo (r ++ [y]) (laid ++ [x])
termination_by pack _ => pack.length
decreasing_by simp
def under {α} (xs : List α) : List α := (underGo xs []).reverse
theorem underGo_perm {α} (pack laid : List α) : (underGo pack laid).Perm (laid ++ pack) := by
  induction pack, laid using underGo.induct with
  | case1 laid => simp [underGo]
  | case2 x laid => simp [underGo]
  | case3 x y r laid ih =>
    rw [underGo]
    refine ih.trans ?_
    rw [append_assoc]
    refine (Perm.append_left _ ?_)
    simp only [cons_append, nil_append]
    exact (Perm.cons _ (perm_append_comm (l₁ := r) (l₂ := [y])))
theorem under_perm {α} (xs : List α) : (under xs).Perm xs := (reverse_perm _).trans (by simpa using underGo_perm xs [])
def rif {α} : List Bool → List α → List α → List α
  | true :: w, x :: u, l => x :: rif w u l
  | false :: w, u, y :: l => y :: rif w u l
  | _, _, _ => []
def ruf : List Bool → Nat → Nat → List Nat
  | [], _, _ => []
  | true :: w, i, j => i :: ruf w (i + 1) j
  | false :: w, i, j => j :: ruf w i (j + 1)
def cntA (w : List Bool) : Nat := w.count true
def cntB (w : List Bool) : Nat := w.count false
theorem cnt_len (w : List Bool) : cntA w + cntB w = w.length := by
  induction w with
  | nil => rfl
  | cons b w ih =>
    unfold cntA cntB at *
    cases b <;> simp <;> omega
theorem ruf_rif : ∀ (w : List Bool) (i j : Nat), ruf w i j = rif w (range' i (cntA w)) (range' j (cntB w))
  | [], _, _ => by simp [ruf, rif]
  | true :: w, i, j => by
    have := ruf_rif w (i + 1) j
    have e : cntA (true :: w) = cntA w + 1 := by simp [cntA]
    have e2 : cntB (true :: w) = cntB w := by simp [cntB]
    rw [ruf, this, e, e2, range'_succ, rif]
  | false :: w, i, j => by
    have := ruf_rif w i (j + 1)
    have e : cntA (false :: w) = cntA w := by simp [cntA]
    have e2 : cntB (false :: w) = cntB w + 1 := by simp [cntB]
    rw [ruf, this, e, e2, range'_succ]
    cases h : range' i (cntA w) <;> simp [rif]
theorem rif_perm {α} : ∀ (w : List Bool) (u l : List α), u.length = cntA w → l.length = cntB w → (rif w u l).Perm (u ++ l)
  | [], u, l, hu, hl => by
    simp [cntA, cntB] at hu hl
    simp [rif, hu, hl]
  | true :: w, [], l, hu, _ => by simp [cntA] at hu
  | true :: w, x :: u, l, hu, hl => by
    rw [rif]
    exact (rif_perm w u l (by simp [cntA] at hu ⊢; omega) (by simp [cntB] at hl ⊢; omega)).cons x
  | false :: w, u, [], _, hl => by simp [cntB] at hl
  | false :: w, u, y :: l, hu, hl => by
    have h := rif_perm w u l (by simp [cntA] at hu ⊢; omega) (by simp [cntB] at hl ⊢; omega)
    have e : rif (false :: w) u (y :: l) = y :: rif w u l := by cases u <;> simp [rif]
    rw [e]
    exact (h.cons y).trans perm_middle.symm
def srcRif (w : List Bool) : List Nat := ruf w 0 (cntA w)
theorem range_split (a b : Nat) : range' 0 a ++ range' a b = range (a + b) := by
  rw [range_eq_range', ← range'_append_1]; simp
theorem srcRif_perm (w : List Bool) : (srcRif w).Perm (range w.length) := by
  unfold srcRif
  rw [ruf_rif]
  refine (rif_perm w _ _ (by simp) (by simp)).trans ?_
  rw [range_split, cnt_len]
def stepsOf (j n p : Nat) : List Nat := (range n).filter fun i => i % p == j
theorem stepsOf_succ (j n p : Nat) : stepsOf j (n + 1) p = stepsOf j n p ++ if n % p = j then [n] else [] := by
  unfold stepsOf
  rw [range_succ, filter_append]
  by_cases h : n % p = j <;> simp [h]
theorem cnt_step {j n p : Nat} (hj : j < p) : (n + 1 - j + p - 1) / p = (n - j + p - 1) / p + if n % p = j then 1 else 0 := by
  have hp : 0 < p := by omega
  by_cases hnj : n < j
  · have e1 : n + 1 - j = 0 := by omega
    have e2 : n - j = 0 := by omega
    have e3 : n % p = n := Nat.mod_eq_of_lt (by omega)
    rw [e1, e2, e3, if_neg (by omega)]; simp
  · obtain ⟨d, rfl⟩ : ∃ d, n = j + d := ⟨n - j, by omega⟩
    have e1 : j + d + 1 - j + p - 1 = d + p := by omega
    have e2 : j + d - j + p - 1 = d + p - 1 := by omega
    rw [e1, e2, Nat.add_div_right _ hp]
    have hd := Nat.div_add_mod d p
    have hlt := Nat.mod_lt d hp
    by_cases hm : d % p = 0
    · have : (j + d) % p = j := by
        rw [Nat.add_mod, hm, Nat.add_zero, Nat.mod_mod, Nat.mod_eq_of_lt hj]
      rw [if_pos this]
      have : d + p - 1 = (p - 1) + p * (d / p) := by omega
      rw [this, Nat.add_mul_div_left _ _ hp, Nat.div_eq_of_lt (show p - 1 < p by omega)]; omega
    · have hne : (j + d) % p ≠ j := by
        intro h
        have h2 : (j + d) % p = (j + d % p) % p := by rw [Nat.add_mod, Nat.mod_eq_of_lt hj]
        rw [h2] at h
        by_cases hs : j + d % p < p
        · rw [Nat.mod_eq_of_lt hs] at h; omega
        · rw [Nat.mod_eq_sub_mod (by omega), Nat.mod_eq_of_lt (by omega)] at h; omega
      rw [if_neg hne]
      have : d + p - 1 = (d % p - 1) + p * (d / p + 1) := by rw [Nat.mul_add]; omega
      rw [this, Nat.add_mul_div_left _ _ hp, Nat.div_eq_of_lt (show d % p - 1 < p by omega)]; omega
theorem last_step {j n p : Nat} (hj : j < p) (h : n % p = j) : j + p * ((n - j + p - 1) / p) = n := by
  have hp : 0 < p := by omega
  have hd := Nat.div_add_mod n p
  have e : n - j = p * (n / p) := by omega
  have : n - j + p - 1 = (p - 1) + p * (n / p) := by omega
  rw [this, Nat.add_mul_div_left _ _ hp, Nat.div_eq_of_lt (show p - 1 < p by omega), Nat.zero_add]
  omega
def rng3 (j n p : Nat) : List Nat := range' j ((n - j + p - 1) / p) p
theorem rng3_steps {j p : Nat} (hj : j < p) : ∀ n, rng3 j n p = stepsOf j n p
  | 0 => by
    unfold rng3 stepsOf
    have : (0 - j + p - 1) / p = 0 := Nat.div_eq_of_lt (by omega)
    rw [this]; rfl
  | n + 1 => by
    have ih := rng3_steps hj n
    unfold rng3 at *
    rw [stepsOf_succ, ← ih, cnt_step hj]
    by_cases h : n % p = j
    · rw [if_pos h, if_pos h, range'_concat, last_step hj h]
    · rw [if_neg h, if_neg h]; simp
def srcDeal (p n : Nat) : List Nat := ((range p).reverse.map fun j => (rng3 j n p).reverse).flatten
theorem filter_parts (p : Nat) (hp : 0 < p) : ∀ n, ((range p).map fun j => stepsOf j n p).flatten.Perm (range n) := by
  intro n
  rw [perm_iff_count]
  intro a
  rw [count_flatten, map_map]
  have h1 : ∀ j, ((fun l => count a l) ∘ fun j => stepsOf j n p) j = if a % p = j then (if a < n then 1 else 0) else 0 := by
    intro j
    simp only [Function.comp, stepsOf]
    by_cases hj : a % p = j
    · rw [if_pos hj, count_filter (by simpa using hj), count_range]
    · rw [if_neg hj]
      apply count_eq_zero.mpr
      simp [hj]
  rw [show ((range p).map ((fun l => count a l) ∘ fun j => stepsOf j n p)) = (range p).map (fun j => if a % p = j then (if a < n then 1 else 0) else 0) from map_congr_left (fun j _ => h1 j)]
  have h2 : ∀ (m v : Nat) (c : Nat), ((range m).map (fun j => if c = j then v else 0)).sum = if c < m then v else 0 := by
    intro m v c
    induction m with
    | zero => simp
    | succ m ih =>
      rw [range_succ, map_append, sum_append, ih]
      by_cases hc : c = m
      · subst hc; simp
      · by_cases hlt : c < m
        · simp [hlt, hc, show c < m + 1 by omega]
        · simp [hlt, hc, show ¬ c < m + 1 by omega]
  rw [h2, if_pos (Nat.mod_lt a hp), count_range]
theorem flatten_map_perm {α β} (f g : α → List β) : ∀ (l : List α), (∀ a ∈ l, (f a).Perm (g a)) → (l.map f).flatten.Perm (l.map g).flatten
  | [], _ => by simp
  | a :: l, h => by
    simp only [map_cons, flatten_cons]
    exact (h a mem_cons_self).append (flatten_map_perm f g l fun b hb => h b (mem_cons_of_mem _ hb))
theorem srcDeal_perm {p n : Nat} (hp : 0 < p) : (srcDeal p n).Perm (range n) := by
  refine Perm.trans ?_ (filter_parts p hp n)
  unfold srcDeal
  refine Perm.trans ?_ (Perm.flatten ((reverse_perm (range p)).map _))
  refine flatten_map_perm _ _ _ fun j hj => ?_
  have hj' : j < p := by simpa using hj
  rw [rng3_steps hj']
  exact reverse_perm _
end Rf

namespace Rf
open List
def it (g : Nat → Nat) : Nat → Nat → Nat
  | 0, s => s
  | k + 1, s => g (it g k s)
structure PermF (g : Nat → Nat) (n : Nat) : Prop where
  lt : ∀ x, x < n → g x < n
  inj : ∀ x y, x < n → y < n → g x = g y → x = y
theorem it_add (g : Nat → Nat) (a b s : Nat) : it g (a + b) s = it g a (it g b s) := by
  induction a with
  | zero => rw [Nat.zero_add]; rfl
  | succ a ih => rw [Nat.succ_add]; show g (it g (a + b) s) = g (it g a (it g b s)); rw [ih]
section
variable {g : Nat → Nat} {n : Nat} (P : PermF g n)
include P
theorem it_lt (k : Nat) {s : Nat} (hs : s < n) : it g k s < n := by
  induction k with
  | zero => exact hs
  | succ k ih => exact P.lt _ ih
theorem it_inj (k : Nat) {x y : Nat} (hx : x < n) (hy : y < n) (h : it g k x = it g k y) : x = y := by
  induction k with
  | zero => exact h
  | succ k ih => exact ih (P.inj _ _ (it_lt P k hx) (it_lt P k hy) h)
theorem it_back {i j s : Nat} (hij : i < j) (hs : s < n) (h : it g i s = it g j s) : it g (j - i) s = s := by
  have e : j = i + (j - i) := by omega
  rw [e, it_add] at h
  exact (it_inj P i hs (it_lt P _ hs) h).symm
theorem it_returns {s : Nat} (hs : s < n) : ∃ k, 1 ≤ k ∧ k ≤ n ∧ it g k s = s := by
  apply Classical.byContradiction
  intro hno
  have nd : ((range (n + 1)).map fun i => it g i s).Nodup := by
    unfold Nodup
    rw [pairwise_map]
    refine Pairwise.imp_of_mem ?_ (nodup_range (n := n + 1))
    intro a b ha hb hab e
    have ha' := mem_range.mp ha
    have hb' := mem_range.mp hb
    rcases Nat.lt_or_gt_of_ne hab with h | h
    · exact hno ⟨b - a, by omega, by omega, it_back P h hs e⟩
    · exact hno ⟨a - b, by omega, by omega, it_back P h hs e.symm⟩
  have hsub : ((range (n + 1)).map fun i => it g i s) ⊆ range n := by
    intro x hx
    obtain ⟨i, _, rfl⟩ := mem_map.mp hx
    exact mem_range.mpr (it_lt P i hs)
  have := nd.length_le_of_subset hsub
  rw [length_map, length_range, length_range] at this
  omega
end
def clenGo (g : Nat → Nat) (s : Nat) : Nat → Nat → Nat
  | 0, k => k
  | f + 1, k => if it g k s = s then k else clenGo g s f (k + 1)
def clen (g : Nat → Nat) (n s : Nat) : Nat := clenGo g s n 1
theorem clenGo_spec (g : Nat → Nat) (s : Nat) : ∀ (f k m : Nat), 1 ≤ k → k ≤ m → m ≤ k + f → it g m s = s → (∀ j, 1 ≤ j → j < k → it g j s ≠ s) →
    1 ≤ clenGo g s f k ∧ clenGo g s f k ≤ m ∧ it g (clenGo g s f k) s = s ∧ ∀ j, 1 ≤ j → j < clenGo g s f k → it g j s ≠ s
  | 0, k, m, h1, hk, hm, e, hj => by
    have : k = m := by omega
    subst this
    exact ⟨h1, Nat.le_refl _, e, hj⟩
  | f + 1, k, m, h1, hk, hm, e, hj => by
    unfold clenGo
    by_cases h : it g k s = s
    · rw [if_pos h]; exact ⟨h1, hk, h, hj⟩
    · rw [if_neg h]
      have hkm : k ≠ m := fun z => h (z ▸ e)
      exact clenGo_spec g s f (k + 1) m (by omega) (by omega) (by omega) e fun j a b => by
        by_cases hjk : j = k
        · rw [hjk]; exact h
        · exact hj j a (by omega)
section
variable {g : Nat → Nat} {n : Nat} (P : PermF g n)
include P
theorem clen_spec {s : Nat} (hs : s < n) : 1 ≤ clen g n s ∧ clen g n s ≤ n ∧ it g (clen g n s) s = s ∧ ∀ j, 1 ≤ j → j < clen g n s → it g j s ≠ s := by
  obtain ⟨k, h1, hk, e⟩ := it_returns P hs
  have := clenGo_spec g s n 1 k (Nat.le_refl _) h1 (by omega) e (fun j a b => by omega)
  exact ⟨this.1, Nat.le_trans this.2.1 hk, this.2.2⟩
end
def ring (g : Nat → Nat) (n s : Nat) : List Nat := (range (clen g n s)).map fun i => it g i s
theorem ring_length (g : Nat → Nat) (n s : Nat) : (ring g n s).length = clen g n s := by simp [ring]
section
variable {g : Nat → Nat} {n : Nat} (P : PermF g n)
include P
theorem it_mul {s : Nat} (hs : s < n) (m : Nat) : it g (m * clen g n s) s = s := by
  induction m with
  | zero => rw [Nat.zero_mul]; rfl
  | succ m ih => rw [Nat.succ_mul, it_add, (clen_spec P hs).2.2.1, ih]
theorem it_mod {s : Nat} (hs : s < n) (k : Nat) : it g (k % clen g n s) s = it g k s := by
  have e : k = k % clen g n s + (k / clen g n s) * clen g n s := by
    have := Nat.mod_add_div k (clen g n s)
    rw [Nat.mul_comm] at this
    omega
  conv => rhs; rw [e, it_add, it_mul P hs]
theorem mem_ring {s x : Nat} (hs : s < n) : x ∈ ring g n s ↔ ∃ j, x = it g j s := by
  constructor
  · intro h
    obtain ⟨i, _, rfl⟩ := mem_map.mp h
    exact ⟨i, rfl⟩
  · rintro ⟨j, rfl⟩
    rw [← it_mod P hs]
    exact mem_map.mpr ⟨_, mem_range.mpr (Nat.mod_lt _ (clen_spec P hs).1), rfl⟩
theorem ring_lt {s : Nat} (hs : s < n) : ∀ x ∈ ring g n s, x < n := fun x h => by
  obtain ⟨j, rfl⟩ := (mem_ring P hs).mp h
  exact it_lt P j hs
theorem ring_nodup {s : Nat} (hs : s < n) : (ring g n s).Nodup := by
  unfold ring Nodup
  rw [pairwise_map]
  refine Pairwise.imp_of_mem ?_ (nodup_range (n := clen g n s))
  intro a b ha hb hab e
  have ha' := mem_range.mp ha
  have hb' := mem_range.mp hb
  have sp := (clen_spec P hs).2.2.2
  rcases Nat.lt_or_gt_of_ne hab with h | h
  · exact sp (b - a) (by omega) (by omega) (it_back P h hs e)
  · exact sp (a - b) (by omega) (by omega) (it_back P h hs e.symm)
theorem ring_meets {s u x : Nat} (hs : s < n) (hu : u < n) (h1 : x ∈ ring g n s) (h2 : x ∈ ring g n u) : u ∈ ring g n s := by
  obtain ⟨i, rfl⟩ := (mem_ring P hs).mp h1
  obtain ⟨j, e⟩ := (mem_ring P hu).mp h2
  have hc := (clen_spec P hu).1
  refine (mem_ring P hs).mpr ⟨(j * clen g n u - j) + i, ?_⟩
  rw [it_add, e, ← it_add]
  have hj : j ≤ j * clen g n u := Nat.le_mul_of_pos_right j hc
  rw [show j * clen g n u - j + j = j * clen g n u by omega]
  exact (it_mul P hu j).symm
end
def ringsTo (g : Nat → Nat) (n : Nat) : Nat → List (List Nat)
  | 0 => []
  | i + 1 => if i ∈ (ringsTo g n i).flatten then ringsTo g n i else ringsTo g n i ++ [ring g n i]
section
variable {g : Nat → Nat} {n : Nat} (P : PermF g n)
include P
theorem ringsTo_all : ∀ i, i ≤ n → (∀ r ∈ ringsTo g n i, ∃ s, s < i ∧ r = ring g n s) ∧ (∀ s, s < i → s ∈ (ringsTo g n i).flatten) ∧ (ringsTo g n i).flatten.Nodup
  | 0, _ => by
    refine ⟨?_, ?_, ?_⟩
    · intro r h; simp [ringsTo] at h
    · intro s h; omega
    · simp [ringsTo]
  | i + 1, hi => by
    obtain ⟨h1, h2, h3⟩ := ringsTo_all i (by omega)
    unfold ringsTo
    by_cases hm : i ∈ (ringsTo g n i).flatten
    · rw [if_pos hm]
      refine ⟨fun r hr => ?_, fun s hs => ?_, h3⟩
      · obtain ⟨s, a, b⟩ := h1 r hr
        exact ⟨s, by omega, b⟩
      · by_cases e : s = i
        · rw [e]; exact hm
        · exact h2 s (by omega)
    · rw [if_neg hm]
      have hself : i ∈ ring g n i := (mem_ring P (by omega)).mpr ⟨0, rfl⟩
      refine ⟨fun r hr => ?_, fun s hs => ?_, ?_⟩
      · rcases mem_append.mp hr with hr | hr
        · obtain ⟨s, a, b⟩ := h1 r hr
          exact ⟨s, by omega, b⟩
        · exact ⟨i, by omega, by simpa using hr⟩
      · rw [flatten_append, mem_append]
        by_cases e : s = i
        · rw [e]; right; simpa using hself
        · left; exact h2 s (by omega)
      · rw [flatten_append]
        simp only [flatten_cons, flatten_nil, append_nil]
        rw [nodup_append]
        refine ⟨h3, ring_nodup P (by omega), fun a ha b hb e => ?_⟩
        subst e
        obtain ⟨r, hr, har⟩ := mem_flatten.mp ha
        obtain ⟨s, hs, rfl⟩ := h1 r hr
        exact hm (mem_flatten.mpr ⟨_, hr, ring_meets P (by omega) (by omega) har hb⟩)
end
def ringsOf (g : Nat → Nat) (n : Nat) : List (List Nat) := ringsTo g n n
section
variable {g : Nat → Nat} {n : Nat} (P : PermF g n)
include P
theorem rings_is : ∀ r ∈ ringsOf g n, ∃ s, s < n ∧ r = ring g n s := (ringsTo_all P n (Nat.le_refl _)).1
theorem rings_flat : (ringsOf g n).flatten.Perm (range n) := by
  obtain ⟨h1, h2, h3⟩ := ringsTo_all P n (Nat.le_refl _)
  show (ringsTo g n n).flatten.Perm (range n)
  rw [perm_ext_iff_of_nodup h3 nodup_range]
  intro a
  constructor
  · intro ha
    obtain ⟨r, hr, har⟩ := mem_flatten.mp ha
    obtain ⟨s, hs, rfl⟩ := h1 r hr
    exact mem_range.mpr (ring_lt P hs a har)
  · intro ha
    exact h2 a (mem_range.mp ha)
end
def iter {α} (f : α → α) : Nat → α → α
  | 0, x => x
  | k + 1, x => f (iter f k x)
def putAll (g : Nat → Nat) (t : Nat) (xs : List Nat) : List Nat → List Nat → List Nat
  | [], b => b
  | p :: ps, b => putAll g t xs ps (b.set (it g t p) (xs.getD p 0))
theorem putAll_length (g : Nat → Nat) (t : Nat) (xs : List Nat) : ∀ ps b, (putAll g t xs ps b).length = b.length
  | [], _ => rfl
  | p :: ps, b => by rw [putAll, putAll_length g t xs ps]; simp
theorem putAll_append (g : Nat → Nat) (t : Nat) (xs : List Nat) : ∀ ps qs b, putAll g t xs (ps ++ qs) b = putAll g t xs qs (putAll g t xs ps b)
  | [], _, _ => rfl
  | p :: ps, qs, b => by rw [cons_append, putAll, putAll, putAll_append g t xs ps]
section
variable {g : Nat → Nat} {n : Nat} (P : PermF g n)
include P
theorem putAll_out (t : Nat) (xs : List Nat) : ∀ (ps b : List Nat) (p : Nat), p < n → (∀ q ∈ ps, q < n) → p ∉ ps → (putAll g t xs ps b)[it g t p]? = b[it g t p]?
  | [], _, _, _, _, _ => rfl
  | q :: ps, b, p, hp, hq, h => by
    rw [putAll, putAll_out t xs ps _ p hp (fun z hz => hq z (mem_cons_of_mem _ hz)) (fun z => h (mem_cons_of_mem _ z)), getElem?_set_ne]
    intro e
    exact h (by rw [it_inj P t (hq q mem_cons_self) hp e]; exact mem_cons_self)
theorem putAll_in (t : Nat) (xs : List Nat) : ∀ (ps b : List Nat) (p : Nat), ps.Nodup → (∀ q ∈ ps, q < n) → b.length = n → p ∈ ps → (putAll g t xs ps b)[it g t p]? = some (xs.getD p 0)
  | [], _, _, _, _, _, h => by simp at h
  | q :: ps, b, p, nd, hq, hb, h => by
    rw [putAll]
    have hqn := hq q mem_cons_self
    rcases mem_cons.mp h with e | h
    · subst e
      rw [putAll_out P t xs ps _ p hqn (fun z hz => hq z (mem_cons_of_mem _ hz)) (nodup_cons.mp nd).1, getElem?_set_self (by rw [hb]; exact it_lt P t hqn)]
    · exact putAll_in t xs ps _ p (nodup_cons.mp nd).2 (fun z hz => hq z (mem_cons_of_mem _ hz)) (by simpa using hb) h
theorem it_surj (t : Nat) {q : Nat} (hq : q < n) : ∃ p, p < n ∧ it g t p = q := by
  have nd : ((range n).map fun i => it g t i).Nodup := by
    unfold Nodup
    rw [pairwise_map]
    refine Pairwise.imp_of_mem ?_ (nodup_range (n := n))
    intro a b ha hb hab e
    exact hab (it_inj P t (mem_range.mp ha) (mem_range.mp hb) e)
  apply Classical.byContradiction
  intro hno
  have nd2 : (q :: (range n).map fun i => it g t i).Nodup := nodup_cons.mpr ⟨fun h => by
    obtain ⟨p, hp, e⟩ := mem_map.mp h
    exact hno ⟨p, mem_range.mp hp, e⟩, nd⟩
  have hsub : (q :: (range n).map fun i => it g t i) ⊆ range n := by
    intro x hx
    rcases mem_cons.mp hx with e | hx
    · rw [e]; exact mem_range.mpr hq
    · obtain ⟨i, hi, rfl⟩ := mem_map.mp hx
      exact mem_range.mpr (it_lt P t (mem_range.mp hi))
  have := nd2.length_le_of_subset hsub
  rw [length_cons, length_map, length_range] at this
  omega
end
def goes (src : List Nat) (n : Nat) : List Nat := unGo (range n) src 0 src
def gOf (src : List Nat) (n : Nat) (x : Nat) : Nat := (goes src n).getD x 0
theorem goes_at {src : List Nat} {n : Nat} (p : src.Perm (range n)) {k s : Nat} (h : src[k]? = some s) : (goes src n)[s]? = some k := by
  have hl := perm_len p
  have hk := (List.getElem?_eq_some_iff.mp h).1
  have := unGo_in (range n) src 0 src k s (perm_nodup p) (fun z hz => by rw [hl]; exact perm_lt p z hz) h
  rw [hl] at hk
  rw [goes, this, Nat.zero_add, getD_eq_getElem?_getD, getElem?_range hk]
  rfl
theorem gOf_at {src : List Nat} {n : Nat} (p : src.Perm (range n)) {k s : Nat} (h : src[k]? = some s) : gOf src n s = k := by
  unfold gOf
  rw [getD_eq_getElem?_getD, goes_at p h]
  rfl
theorem src_of {src : List Nat} {n : Nat} (p : src.Perm (range n)) {x : Nat} (hx : x < n) : ∃ k, k < n ∧ src[k]? = some x ∧ gOf src n x = k := by
  have hm : x ∈ src := p.mem_iff.mpr (mem_range.mpr hx)
  obtain ⟨k, hk, e⟩ := getElem_of_mem hm
  have h : src[k]? = some x := by simp [hk, e]
  exact ⟨k, by rw [perm_len p] at hk; exact hk, h, gOf_at p h⟩
theorem gOf_perm {src : List Nat} {n : Nat} (p : src.Perm (range n)) : PermF (gOf src n) n := by
  refine ⟨fun x hx => ?_, fun x y hx hy e => ?_⟩
  · obtain ⟨k, hk, _, e⟩ := src_of p hx
    rw [e]; exact hk
  · obtain ⟨k, hk, h1, e1⟩ := src_of p hx
    obtain ⟨j, hj, h2, e2⟩ := src_of p hy
    rw [e1, e2] at e
    subst e
    rw [h1] at h2
    exact Option.some.inj h2
def movedN (src xs : List Nat) (t : Nat) : List Nat := iter (fun ys => pick ys src) t xs
theorem movedN_length {src xs : List Nat} {n : Nat} (p : src.Perm (range n)) (hx : xs.length = n) : ∀ t, (movedN src xs t).length = n
  | 0 => hx
  | t + 1 => by show (pick _ src).length = n; rw [pick_length, perm_len p]
theorem movedN_at {src xs : List Nat} {n : Nat} (p : src.Perm (range n)) (hx : xs.length = n) (t : Nat) {q : Nat} (hq : q < n) : (movedN src xs t)[it (gOf src n) t q]? = xs[q]? := by
  have P := gOf_perm p
  induction t with
  | zero => rfl
  | succ t ih =>
    show (pick (movedN src xs t) src)[gOf src n (it (gOf src n) t q)]? = _
    obtain ⟨k, hk, h, e⟩ := src_of p (it_lt P t hq)
    rw [e, pick, getElem?_map, h, Option.map_some, ← ih, getD_eq_getElem?_getD]
    have : it (gOf src n) t q < (movedN src xs t).length := by rw [movedN_length p hx]; exact it_lt P t hq
    simp [this]
def repOf (src xs : List Nat) (t : Nat) : List Nat := putAll (gOf src xs.length) t xs (ringsOf (gOf src xs.length) xs.length).flatten xs
theorem rep_moved {src xs : List Nat} (p : src.Perm (range xs.length)) (t : Nat) : repOf src xs t = movedN src xs t := by
  have P := gOf_perm p
  have hp := rings_flat P
  apply ext_getElem?
  intro j
  by_cases hj : j < xs.length
  · obtain ⟨q, hq, rfl⟩ := it_surj P t hj
    rw [movedN_at p rfl t hq, repOf, putAll_in P t xs _ _ q (hp.nodup_iff.mpr nodup_range) (fun z hz => mem_range.mp (hp.mem_iff.mp hz)) rfl (hp.mem_iff.mpr (mem_range.mpr hq))]
    simp [getD_eq_getElem?_getD, hq]
  · rw [getElem?_eq_none (by rw [repOf, putAll_length]; omega), getElem?_eq_none (by rw [movedN_length p rfl]; omega)]
def perOf (rs : List (List Nat)) : Nat := rs.foldl (fun t r => Nat.lcm t r.length) 1
theorem perOf_dvd_go : ∀ (rs : List (List Nat)) (t : Nat), t ∣ rs.foldl (fun t r => Nat.lcm t r.length) t ∧ ∀ r ∈ rs, r.length ∣ rs.foldl (fun t r => Nat.lcm t r.length) t
  | [], t => ⟨Nat.dvd_refl _, by simp⟩
  | r :: rs, t => by
    obtain ⟨h1, h2⟩ := perOf_dvd_go rs (Nat.lcm t r.length)
    refine ⟨Nat.dvd_trans (Nat.dvd_lcm_left _ _) h1, fun u hu => ?_⟩
    rcases mem_cons.mp hu with e | hu
    · rw [e]; exact Nat.dvd_trans (Nat.dvd_lcm_right _ _) h1
    · exact h2 u hu
theorem perOf_dvd (rs : List (List Nat)) : ∀ r ∈ rs, r.length ∣ perOf rs := (perOf_dvd_go rs 1).2
theorem it_per {g : Nat → Nat} {n : Nat} (P : PermF g n) (m : Nat) {q : Nat} (hq : q < n) : it g (m * perOf (ringsOf g n)) q = q := by
  have hm := (rings_flat P).mem_iff.mpr (mem_range.mpr hq)
  obtain ⟨r, hr, hqr⟩ := mem_flatten.mp hm
  obtain ⟨s, hs, rfl⟩ := rings_is P r hr
  obtain ⟨c, hc⟩ := perOf_dvd _ _ hr
  rw [ring_length] at hc
  obtain ⟨j, rfl⟩ := (mem_ring P hs).mp hqr
  rw [← it_add, Nat.add_comm, it_add, hc, ← Nat.mul_assoc, Nat.mul_comm m, Nat.mul_assoc, Nat.mul_comm, it_mul P hs]
theorem moved_per {src xs : List Nat} (p : src.Perm (range xs.length)) (t m : Nat) : movedN src xs (t + m * perOf (ringsOf (gOf src xs.length) xs.length)) = movedN src xs t := by
  have P := gOf_perm p
  apply ext_getElem?
  intro j
  by_cases hj : j < xs.length
  · obtain ⟨q, hq, rfl⟩ := it_surj P t hj
    rw [movedN_at p rfl t hq, ← movedN_at p rfl (t + m * perOf (ringsOf (gOf src xs.length) xs.length)) hq, it_add, it_per P m hq]
  · rw [getElem?_eq_none (by rw [movedN_length p rfl]; omega), getElem?_eq_none (by rw [movedN_length p rfl]; omega)]
end Rf

namespace Rf
open List
section
variable {g : Nat → Nat} {n : Nat} (P : PermF g n)
include P
theorem ring_at {s k : Nat} (hs : s < n) (hk : k < clen g n s) : (ring g n s)[k]? = some (it g k s) := by simp [ring, hk]
theorem ring_turn {s k t : Nat} (hs : s < n) (hk : k < clen g n s) : (ring g n s)[(k + t) % (ring g n s).length]? = some (it g t (it g k s)) := by
  rw [ring_length, ring_at P hs (Nat.mod_lt _ (clen_spec P hs).1), it_mod P hs, Nat.add_comm, it_add]
theorem ringsTo_len (i : Nat) (hi : i ≤ n) : (ringsTo g n i).length ≤ i := by
  induction i with
  | zero => simp [ringsTo]
  | succ i ih =>
    unfold ringsTo
    split
    · exact Nat.le_succ_of_le (ih (by omega))
    · rw [length_append]; have := ih (by omega); simp; omega
end
end Rf

namespace Rf
open List
def addRow (L : List (List Nat)) (b : Bool) (c : Nat) : List (List Nat) := if b then L.dropLast ++ [L.getLastD [] ++ [c]] else L ++ [[c]]
def rowsTo (xs : List Nat) : Nat → List (List Nat)
  | 0 => [[0]]
  | k + 1 => addRow (rowsTo xs k) (decide (xs.idxOf k < xs.idxOf (k + 1))) (k + 1)
def rowsOf (xs : List Nat) : List (List Nat) := rowsTo xs (xs.length - 1)
theorem rowsTo_ne (xs : List Nat) : ∀ k, rowsTo xs k ≠ []
  | 0 => by simp [rowsTo]
  | k + 1 => by
    rw [rowsTo, addRow]
    split <;> simp
theorem addRow_len {L : List (List Nat)} (h : L ≠ []) (b : Bool) (c : Nat) : (addRow L b c).length = L.length + if b then 0 else 1 := by
  cases b
  · simp [addRow]
  · have := length_pos_iff.mpr h
    simp [addRow]
    omega
theorem rowsTo_len (xs : List Nat) (k : Nat) : (rowsTo xs (k + 1)).length = (rowsTo xs k).length + if xs.idxOf k < xs.idxOf (k + 1) then 0 else 1 := by
  rw [rowsTo, addRow_len (rowsTo_ne xs k)]
  by_cases h : xs.idxOf k < xs.idxOf (k + 1) <;> simp [h]
theorem dropLast_last {L : List (List Nat)} (h : L ≠ []) : L.dropLast ++ [L.getLastD []] = L := by
  rw [getLastD_eq_getLast?, getLast?_eq_some_getLast h]
  exact dropLast_concat_getLast h
theorem addRow_flat {L : List (List Nat)} (h : L ≠ []) (b : Bool) (c : Nat) : (addRow L b c).flatten = L.flatten ++ [c] := by
  cases b
  · simp [addRow]
  · conv => rhs; rw [← dropLast_last h]
    simp [addRow]
theorem rowsTo_flat (xs : List Nat) : ∀ k, (rowsTo xs k).flatten = range (k + 1)
  | 0 => by simp [rowsTo]
  | k + 1 => by rw [rowsTo, addRow_flat (rowsTo_ne xs k), rowsTo_flat xs k, ← range_succ]
theorem rowsTo_le (xs : List Nat) : ∀ k, (rowsTo xs k).length ≤ k + 1
  | 0 => by simp [rowsTo]
  | k + 1 => by
    rw [rowsTo_len]
    have := rowsTo_le xs k
    split <;> omega
theorem row_le (xs : List Nat) (k : Nat) : ∀ r ∈ rowsTo xs k, r.length ≤ k + 1 := fun r hr => by
  have h : r.length ≤ (rowsTo xs k).flatten.length := by
    have := (sublist_flatten_of_mem hr).length_le
    exact this
  rw [rowsTo_flat, length_range] at h
  exact h
end Rf

namespace Rf
open List
def eulNext (size : Nat) (row : List Nat) : List Nat := 0 :: (range 60).map fun i => (i + 1) * row.getD (i + 1) 0 + (size - i) * row.getD i 0
def eulAt : Nat → List Nat
  | 0 => 0 :: 1 :: replicate 59 0
  | k + 1 => eulNext (k + 2) (eulAt k)
theorem eulNext_len (s : Nat) (r : List Nat) : (eulNext s r).length = 61 := by simp [eulNext]
theorem eulAt_len : ∀ k, (eulAt k).length = 61
  | 0 => by simp [eulAt]
  | k + 1 => eulNext_len _ _
theorem eulNext_at (s : Nat) (r : List Nat) {i : Nat} (h : i < 60) : (eulNext s r).getD (i + 1) 0 = (i + 1) * r.getD (i + 1) 0 + (s - i) * r.getD i 0 := by
  simp [eulNext, List.getD_eq_getElem?_getD, h]
theorem eulAt_big : ∀ k i, k + 1 < i → (eulAt k).getD i 0 = 0
  | 0, i, h => by
    match i, h with
    | i + 2, _ =>
      simp only [eulAt, getD_cons_succ]
      rw [List.getD_eq_getElem?_getD, getElem?_replicate]
      split <;> rfl
  | k + 1, i, h => by
    match i, h with
    | i + 1, h =>
      by_cases h2 : i < 60
      · show (eulNext _ _).getD _ _ = 0
        rw [eulNext_at _ _ h2, eulAt_big k (i + 1) (by omega), eulAt_big k i (by omega)]
        simp
      · rw [List.getD_eq_getElem?_getD, getElem?_eq_none (by rw [eulAt_len]; omega)]
        rfl
theorem eul_int (k i : Nat) (h : i < 60) : ((eulAt (k + 1)).getD (i + 1) 0 : Int) = ((i + 1 : Nat) : Int) * ((eulAt k).getD (i + 1) 0 : Int) + (((k + 2 : Nat) : Int) - ((i + 1 : Nat) : Int) + 1) * ((eulAt k).getD i 0 : Int) := by
  show (((eulNext _ _).getD _ _ : Nat) : Int) = _
  rw [eulNext_at _ _ h]
  by_cases h2 : i ≤ k + 1
  · have : ((k + 2 : Nat) : Int) - ((i + 1 : Nat) : Int) + 1 = ((k + 2 - i : Nat) : Int) := by omega
    rw [this]
    push_cast
    rfl
  · rw [eulAt_big k i (by omega)]
    simp
def forceN {α} (n : Nat) (f : Nat → α) : α := match n with | 0 => f 0 | k + 1 => f (k + 1)
theorem forceN_eq {α} (n : Nat) (f : Nat → α) : forceN n f = f n := by cases n <;> rfl
def forceL {α} : List Nat → (List Nat → α) → α
  | [], f => f []
  | x :: xs, f => forceN x fun x => forceL xs fun xs => f (x :: xs)
theorem forceL_eq {α} : ∀ (l : List Nat) (f : List Nat → α), forceL l f = f l
  | [], _ => rfl
  | x :: xs, f => by rw [forceL, forceN_eq, forceL_eq xs]
def allRows (t : Nat → List Nat → Bool) : Nat → Nat → List Nat → Bool
  | 0, _, _ => true
  | f + 1, k, row => t k row && forceL (eulNext (k + 2) row) fun r => allRows t f (k + 1) r
theorem allRows_at {t : Nat → List Nat → Bool} : ∀ (f k : Nat), allRows t f k (eulAt k) = true → ∀ i, i < f → t (k + i) (eulAt (k + i)) = true
  | f + 1, k, h, i, hi => by
    rw [allRows, forceL_eq, Bool.and_eq_true] at h
    match i with
    | 0 => exact h.1
    | i + 1 =>
      have := allRows_at f (k + 1) h.2 i (by omega)
      rwa [show k + (i + 1) = k + 1 + i by omega]
def symRow (k : Nat) (row : List Nat) : Bool := (range (k + 1)).all (fun i => row.getD (i + 1) 0 == row.getD (k + 1 - i) 0) && row.getD 1 0 == 1
theorem symRows : allRows symRow 60 0 (eulAt 0) = true := by decide +kernel
theorem eul_sym {k i : Nat} (hk : k < 60) (hi : i ≤ k) : (eulAt k).getD (i + 1) 0 = (eulAt k).getD (k + 1 - i) 0 := by
  have := allRows_at 60 0 symRows k hk
  rw [Nat.zero_add, symRow, Bool.and_eq_true] at this
  have h2 := (all_eq_true.mp this.1) i (mem_range.mpr (by omega))
  exact eq_of_beq h2
theorem eul_one {k : Nat} (hk : k < 60) : (eulAt k).getD 1 0 = 1 := by
  have := allRows_at 60 0 symRows k hk
  rw [Nat.zero_add, symRow, Bool.and_eq_true] at this
  exact eq_of_beq this.2
def chooseN (whole chosen : Nat) : Nat := (range chosen).foldl (fun f s => f * (whole - s) / (s + 1)) 1
end Rf

namespace Rf
open List
def chooseTo (whole : Nat) : Nat → Nat
  | 0 => 1
  | k + 1 => chooseTo whole k * (whole - k) / (k + 1)
theorem chooseTo_eq (whole k : Nat) : chooseN whole k = chooseTo whole k := by
  induction k with
  | zero => rfl
  | succ k ih =>
    unfold chooseN at ih ⊢
    rw [range_succ, foldl_append, ih]
    rfl
theorem chooseTo_zero {whole : Nat} : ∀ k, whole < k → chooseTo whole k = 0
  | k + 1, h => by
    rw [chooseTo]
    by_cases e : whole = k
    · subst e; simp
    · rw [chooseTo_zero k (by omega)]; simp
end Rf

namespace Rf
open List
def bitsOf (p : Nat) : List Nat := if h : p = 0 then [] else bitsOf (p / 2) ++ [p % 2]
termination_by p
decreasing_by omega
theorem bitsOf_pos {p : Nat} (h : 0 < p) : bitsOf p = bitsOf (p / 2) ++ [p % 2] := by
  rw [bitsOf, dif_neg (by omega)]
theorem bitsOf_zero : bitsOf 0 = [] := by rw [bitsOf, dif_pos rfl]
theorem bitsOf_len (p : Nat) : ∀ k, p < 2 ^ k → (bitsOf p).length ≤ k
  | 0, h => by
    have : p = 0 := by simpa using h
    subst this
    rw [bitsOf_zero]; simp
  | k + 1, h => by
    by_cases h0 : 0 < p
    · rw [bitsOf_pos h0, length_append]
      have := bitsOf_len (p / 2) k (by rw [Nat.pow_succ] at h; omega)
      simp
      omega
    · have : p = 0 := by omega
      subst this
      rw [bitsOf_zero]; simp
end Rf

set_option Elab.async false
set_option linter.all false
set_option maxRecDepth 100000
namespace Rf
open PySem L2
def top (i : Nat) : Stmt := PySem.Challenge.pw_riffles_k10_refused.main.body.getD i (.Pass ⟨0, 0, 0, 0⟩)
abbrev s_is_number : Stmt := top 8
abbrev s_is_order : Stmt := top 9
abbrev s_check_order : Stmt := top 10
abbrev s_check_cards : Stmt := top 11
abbrev s_Move_done : Stmt := inClass (top 13) 2
abbrev s_Move_undone : Stmt := inClass (top 13) 3
abbrev s_Cut___init__ : Stmt := inClass (top 14) 0
abbrev s_Cut_sources : Stmt := inClass (top 14) 1
abbrev s_Turn___init__ : Stmt := inClass (top 15) 0
abbrev s_Turn_sources : Stmt := inClass (top 15) 1
abbrev s_Deal___init__ : Stmt := inClass (top 16) 0
abbrev s_Deal_sources : Stmt := inClass (top 16) 1
abbrev s_Under___init__ : Stmt := inClass (top 17) 0
abbrev s_Under_sources : Stmt := inClass (top 17) 1
abbrev s_Weave___init__ : Stmt := inClass (top 18) 0
abbrev s_Weave_sources : Stmt := inClass (top 18) 1
abbrev s_Riffle___init__ : Stmt := inClass (top 19) 0
abbrev s_Riffle_sources : Stmt := inClass (top 19) 1
abbrev s_is_word : Stmt := top 20
abbrev s_riffle_sources : Stmt := top 21
abbrev s_check_move : Stmt := top 22
abbrev s_check_moves : Stmt := top 23
abbrev s_done_all : Stmt := top 24
abbrev s_rings : Stmt := top 26
abbrev s_period : Stmt := top 27
abbrev s_repeated : Stmt := top 28
abbrev s_targets : Stmt := top 29
abbrev s_ring_from : Stmt := top 30
abbrev s_common_divisor : Stmt := top 31
abbrev s_rows : Stmt := top 33
abbrev s_riffles_to : Stmt := top 34
abbrev s_ways : Stmt := top 35
abbrev s_orders_with : Stmt := top 36
abbrev s_row_numbers : Stmt := top 37
abbrev s_choices : Stmt := top 38
abbrev s_written : Stmt := top 40
abbrev s_move_written : Stmt := top 41
abbrev s_brought : Stmt := top 43
abbrev s_Mixed___init__ : Stmt := inClass (top 45) 0
abbrev s_Fault___init__ : Stmt := inClass (top 46) 0
abbrev s_mixed : Stmt := top 47
abbrev s__law_cell_at : Stmt := top 49
abbrev s__law_kinds : Stmt := top 50
abbrev s__law_told : Stmt := top 51
abbrev s__law_orders : Stmt := top 52
abbrev s__law_with_order : Stmt := top 53
abbrev s__law_made : Stmt := top 54
abbrev s__law_with_move : Stmt := top 55
abbrev s__law_unfit : Stmt := top 56
abbrev s__law_with_number : Stmt := top 57
abbrev s__law_all : Stmt := top 58
abbrev s_law : Stmt := top 59
theorem sc_is_number : FnScope ["value", "least", "most"] ["value", "least", "most"] (defScope s_is_number) := ⟨rfl, rfl, rfl, by decide +kernel, rfl, by decide +kernel, by decide +kernel⟩
theorem sc_is_order : FnScope ["value"] ["value"] (defScope s_is_order) := ⟨rfl, rfl, rfl, by decide +kernel, rfl, by decide +kernel, by decide +kernel⟩
theorem sc_check_order : FnScope ["value"] ["value"] (defScope s_check_order) := ⟨rfl, rfl, rfl, by decide +kernel, rfl, by decide +kernel, by decide +kernel⟩
theorem sc_check_cards : FnScope ["value"] ["value"] (defScope s_check_cards) := ⟨rfl, rfl, rfl, by decide +kernel, rfl, by decide +kernel, by decide +kernel⟩
theorem sc_Move_done : FnScope ["self", "order"] ["self", "order"] (defScope s_Move_done) := ⟨rfl, rfl, rfl, by decide +kernel, rfl, by decide +kernel, by decide +kernel⟩
theorem sc_Move_undone : FnScope ["self", "order", "before", "place", "source"] ["self", "order"] (defScope s_Move_undone) := ⟨rfl, rfl, rfl, by decide +kernel, rfl, by decide +kernel, by decide +kernel⟩
theorem sc_Cut___init__ : FnScope ["self", "many"] ["self", "many"] (defScope s_Cut___init__) := ⟨rfl, rfl, rfl, by decide +kernel, rfl, by decide +kernel, by decide +kernel⟩
theorem sc_Cut_sources : FnScope ["self", "cards"] ["self", "cards"] (defScope s_Cut_sources) := ⟨rfl, rfl, rfl, by decide +kernel, rfl, by decide +kernel, by decide +kernel⟩
theorem sc_Turn___init__ : FnScope ["self"] ["self"] (defScope s_Turn___init__) := ⟨rfl, rfl, rfl, by decide +kernel, rfl, by decide +kernel, by decide +kernel⟩
theorem sc_Turn_sources : FnScope ["self", "cards"] ["self", "cards"] (defScope s_Turn_sources) := ⟨rfl, rfl, rfl, by decide +kernel, rfl, by decide +kernel, by decide +kernel⟩
theorem sc_Deal___init__ : FnScope ["self", "piles"] ["self", "piles"] (defScope s_Deal___init__) := ⟨rfl, rfl, rfl, by decide +kernel, rfl, by decide +kernel, by decide +kernel⟩
theorem sc_Deal_sources : FnScope ["self", "cards", "places", "pile", "dealt"] ["self", "cards"] (defScope s_Deal_sources) := ⟨rfl, rfl, rfl, by decide +kernel, rfl, by decide +kernel, by decide +kernel⟩
theorem sc_Under___init__ : FnScope ["self"] ["self"] (defScope s_Under___init__) := ⟨rfl, rfl, rfl, by decide +kernel, rfl, by decide +kernel, by decide +kernel⟩
theorem sc_Under_sources : FnScope ["self", "cards", "pack", "laid"] ["self", "cards"] (defScope s_Under_sources) := ⟨rfl, rfl, rfl, by decide +kernel, rfl, by decide +kernel, by decide +kernel⟩
theorem sc_Weave___init__ : FnScope ["self", "first"] ["self", "first"] (defScope s_Weave___init__) := ⟨rfl, rfl, rfl, by decide +kernel, rfl, by decide +kernel, by decide +kernel⟩
theorem sc_Weave_sources : FnScope ["self", "cards", "turn"] ["self", "cards"] (defScope s_Weave_sources) := ⟨rfl, rfl, rfl, by decide +kernel, rfl, by decide +kernel, by decide +kernel⟩
theorem sc_Riffle___init__ : FnScope ["self", "word"] ["self", "word"] (defScope s_Riffle___init__) := ⟨rfl, rfl, rfl, by decide +kernel, rfl, by decide +kernel, by decide +kernel⟩
theorem sc_Riffle_sources : FnScope ["self", "cards"] ["self", "cards"] (defScope s_Riffle_sources) := ⟨rfl, rfl, rfl, by decide +kernel, rfl, by decide +kernel, by decide +kernel⟩
theorem sc_is_word : FnScope ["value"] ["value"] (defScope s_is_word) := ⟨rfl, rfl, rfl, by decide +kernel, rfl, by decide +kernel, by decide +kernel⟩
theorem sc_riffle_sources : FnScope ["word", "upper", "lower", "places", "sign"] ["word"] (defScope s_riffle_sources) := ⟨rfl, rfl, rfl, by decide +kernel, rfl, by decide +kernel, by decide +kernel⟩
theorem sc_check_move : FnScope ["value"] ["value"] (defScope s_check_move) := ⟨rfl, rfl, rfl, by decide +kernel, rfl, by decide +kernel, by decide +kernel⟩
theorem sc_check_moves : FnScope ["value", "move"] ["value"] (defScope s_check_moves) := ⟨rfl, rfl, rfl, by decide +kernel, rfl, by decide +kernel, by decide +kernel⟩
theorem sc_done_all : FnScope ["moves", "order", "after", "move"] ["moves", "order"] (defScope s_done_all) := ⟨rfl, rfl, rfl, by decide +kernel, rfl, by decide +kernel, by decide +kernel⟩
theorem sc_rings : FnScope ["move", "many", "goes_to", "seen", "found", "place", "ring", "member"] ["move", "many"] (defScope s_rings) := ⟨rfl, rfl, rfl, by decide +kernel, rfl, by decide +kernel, by decide +kernel⟩
theorem sc_period : FnScope ["move", "many", "times", "ring"] ["move", "many"] (defScope s_period) := ⟨rfl, rfl, rfl, by decide +kernel, rfl, by decide +kernel, by decide +kernel⟩
theorem sc_repeated : FnScope ["move", "order", "times", "after", "ring", "step", "place"] ["move", "order", "times"] (defScope s_repeated) := ⟨rfl, rfl, rfl, by decide +kernel, rfl, by decide +kernel, by decide +kernel⟩
theorem sc_targets : FnScope ["sources", "places", "place", "source"] ["sources"] (defScope s_targets) := ⟨rfl, rfl, rfl, by decide +kernel, rfl, by decide +kernel, by decide +kernel⟩
theorem sc_ring_from : FnScope ["goes_to", "start", "ring", "place"] ["goes_to", "start"] (defScope s_ring_from) := ⟨rfl, rfl, rfl, by decide +kernel, rfl, by decide +kernel, by decide +kernel⟩
theorem sc_common_divisor : FnScope ["one", "other", "rest"] ["one", "other"] (defScope s_common_divisor) := ⟨rfl, rfl, rfl, by decide +kernel, rfl, by decide +kernel, by decide +kernel⟩
theorem sc_rows : FnScope ["order", "found", "card"] ["order"] (defScope s_rows) := ⟨rfl, rfl, rfl, by decide +kernel, rfl, by decide +kernel, by decide +kernel⟩
theorem sc_riffles_to : FnScope ["order", "numbers", "left", "words", "word"] ["order"] (defScope s_riffles_to) := ⟨rfl, rfl, rfl, by decide +kernel, rfl, by decide +kernel, by decide +kernel⟩
theorem sc_ways : FnScope ["order", "many", "numbers", "riffle"] ["order", "many"] (defScope s_ways) := ⟨rfl, rfl, rfl, by decide +kernel, rfl, by decide +kernel, by decide +kernel⟩
theorem sc_orders_with : FnScope ["cards", "many", "counts", "size", "grown", "number"] ["cards", "many"] (defScope s_orders_with) := ⟨rfl, rfl, rfl, by decide +kernel, rfl, by decide +kernel, by decide +kernel⟩
theorem sc_row_numbers : FnScope ["order", "numbers", "number", "row"] ["order"] (defScope s_row_numbers) := ⟨rfl, rfl, rfl, by decide +kernel, rfl, by decide +kernel, by decide +kernel⟩
theorem sc_choices : FnScope ["whole", "chosen", "found", "step"] ["whole", "chosen"] (defScope s_choices) := ⟨rfl, rfl, rfl, by decide +kernel, rfl, by decide +kernel, by decide +kernel⟩
theorem sc_written : FnScope ["moves"] ["moves"] (defScope s_written) := ⟨rfl, rfl, rfl, by decide +kernel, rfl, by decide +kernel, by decide +kernel⟩
theorem sc_brought : FnScope ["cards", "place", "weaves", "left"] ["cards", "place"] (defScope s_brought) := ⟨rfl, rfl, rfl, by decide +kernel, rfl, by decide +kernel, by decide +kernel⟩
theorem sc_mixed : FnScope ["order", "many", "top"] ["order"] (defScope s_mixed) := ⟨rfl, rfl, rfl, by decide +kernel, rfl, by decide +kernel, by decide +kernel⟩
theorem sc__law_cell_at : FnScope ["_law_script", "_law_k"] ["_law_script", "_law_k"] (defScope s__law_cell_at) := ⟨rfl, rfl, rfl, by decide +kernel, rfl, by decide +kernel, by decide +kernel⟩
theorem sc__law_kinds : FnScope ["_law_error", "_law_found"] ["_law_error"] (defScope s__law_kinds) := ⟨rfl, rfl, rfl, by decide +kernel, rfl, by decide +kernel, by decide +kernel⟩
theorem sc__law_told : FnScope ["_law_ask", "_law_one", "_law_other", "_law_error"] ["_law_ask", "_law_one", "_law_other"] (defScope s__law_told) := ⟨rfl, rfl, rfl, by decide +kernel, rfl, by decide +kernel, by decide +kernel⟩
theorem sc__law_orders : FnScope ["_law_far", "_law_bad"] ["_law_far"] (defScope s__law_orders) := ⟨rfl, rfl, rfl, by decide +kernel, rfl, by decide +kernel, by decide +kernel⟩
theorem sc__law_with_order : FnScope ["_law_door", "_law_order"] ["_law_door", "_law_order"] (defScope s__law_with_order) := ⟨rfl, rfl, rfl, by decide +kernel, rfl, by decide +kernel, by decide +kernel⟩
theorem sc__law_made : FnScope ["_law_door", "_law_bad"] ["_law_door", "_law_bad"] (defScope s__law_made) := ⟨rfl, rfl, rfl, by decide +kernel, rfl, by decide +kernel, by decide +kernel⟩
theorem sc__law_with_move : FnScope ["_law_door", "_law_bad"] ["_law_door", "_law_bad"] (defScope s__law_with_move) := ⟨rfl, rfl, rfl, by decide +kernel, rfl, by decide +kernel, by decide +kernel⟩
theorem sc__law_unfit : FnScope ["_law_door", "_law_way", "_law_move"] ["_law_door", "_law_way"] (defScope s__law_unfit) := ⟨rfl, rfl, rfl, by decide +kernel, rfl, by decide +kernel, by decide +kernel⟩
theorem sc__law_with_number : FnScope ["_law_door", "_law_bad"] ["_law_door", "_law_bad"] (defScope s__law_with_number) := ⟨rfl, rfl, rfl, by decide +kernel, rfl, by decide +kernel, by decide +kernel⟩
theorem sc__law_all : FnScope ["_law_ask", "_law_doors", "_law_things", "_law_due", "_law_door", "_law_thing"] ["_law_ask", "_law_doors", "_law_things", "_law_due"] (defScope s__law_all) := ⟨rfl, rfl, rfl, by decide +kernel, rfl, by decide +kernel, by decide +kernel⟩
theorem sc_law : FnScope ["_law_script", "_law_far", "_law_order", "_law_move", "_law_number", "_law_beyond", "_law_thing", "_law_odd", "_law_pair"] ["_law_script"] (defScope s_law) := ⟨rfl, rfl, rfl, by decide +kernel, rfl, by decide +kernel, by decide +kernel⟩
abbrev nv (xs : List Nat) : List V := xs.map fun (n : Nat) => V.int (n : Int)
def wordOf (w : List Bool) : Str := ⟨(w.map fun b => if b then 97 else 98).toArray⟩
inductive Mv where
  | cut (m : Nat) | turn | deal (p : Nat) | under | weave (f : Nat) | riffle (w : List Bool)
def weaveWord (f n : Nat) : List Bool := (List.replicate (n / 2) (if f = 0 then [true, false] else [false, true])).flatten
namespace Mv
def ok : Mv → Prop
  | cut m => m ≤ 60
  | deal p => 1 ≤ p ∧ p ≤ 60
  | weave f => f ≤ 1
  | riffle w => 1 ≤ w.length ∧ w.length ≤ 60
  | _ => True
def fits : Mv → Nat → Prop
  | cut m, n => m ≤ n
  | weave _, n => n % 2 = 0
  | riffle w, n => w.length = n
  | _, _ => True
def src : Mv → Nat → List Nat
  | cut m, n => srcCut m n
  | turn, n => srcTurn n
  | deal p, n => srcDeal p n
  | under, n => Rf.under (List.range n)
  | weave f, n => srcRif (weaveWord f n)
  | riffle w, _ => srcRif w
end Mv
theorem weaveWord_length (f n : Nat) (h : n % 2 = 0) : (weaveWord f n).length = n := by
  unfold weaveWord
  have : ∀ (k : Nat) (l : List Bool), l.length = 2 → (List.replicate k l).flatten.length = 2 * k := by
    intro k l hl
    induction k with
    | zero => rfl
    | succ k ih => rw [List.replicate_succ, List.flatten_cons, List.length_append, ih, hl]; omega
  rw [this _ _ (by split <;> rfl)]
  omega
theorem Mv.src_perm {mv : Mv} {n : Nat} (o : mv.ok) (f : mv.fits n) : (mv.src n).Perm (List.range n) := by
  cases mv with
  | cut m => exact srcCut_perm f
  | turn => exact srcTurn_perm n
  | deal p => exact srcDeal_perm o.1
  | under => exact under_perm _
  | weave k =>
    have := srcRif_perm (weaveWord k n)
    rw [weaveWord_length k n f] at this
    exact this
  | riffle w =>
    have := srcRif_perm w
    rw [show w.length = n from f] at this
    exact this
structure Adr where
  (move cut turn deal under weave riffle ans mix flt : Addr)
def Mv.cls (t : Adr) : Mv → Addr
  | .cut _ => t.cut | .turn => t.turn | .deal _ => t.deal | .under => t.under | .weave _ => t.weave | .riffle _ => t.riffle
def Mv.flds : Mv → List (Str × V)
  | .cut m => [("many", .int (m : Int))] | .turn => [] | .deal p => [("piles", .int (p : Int))] | .under => [] | .weave f => [("first", .int (f : Int))] | .riffle w => [("word", .str (wordOf w))]
def IsMv (t : Adr) (H : Hp) (p : Addr) (mv : Mv) : Prop := ∃ dx, H p = some (.ins (mv.cls t) dx mv.flds)
structure Txt (K : PySem.W.Frag) (mg : Str → Option Value) (t : Adr) : Prop where
  no_isinstance : mg "isinstance" = none
  no_bool : mg "bool" = none
  no_int : mg "int" = none
  no_list : mg "list" = none
  no_str : mg "str" = none
  no_len : mg "len" = none
  no_all : mg "all" = none
  no_any : mg "any" = none
  no_min : mg "min" = none
  no_max : mg "max" = none
  no_sum : mg "sum" = none
  no_range : mg "range" = none
  no_set : mg "set" = none
  no_reversed : mg "reversed" = none
  no_enumerate : mg "enumerate" = none
  mg_MOST_CARDS : ∃ k, mg "MOST_CARDS" = some (.int 60 k)
  mg_Move : mg "Move" = some (.ref t.move)
  cl : ∀ mv : Mv, Cls K (mv.cls t)
  na_many : NoAttr K t.cut "many"
  na_piles : NoAttr K t.deal "piles"
  na_first : NoAttr K t.weave "first"
  na_word : NoAttr K t.riffle "word"
  mg_Answer : mg "Answer" = some (.ref t.ans)
  mg_Mixed : mg "Mixed" = some (.ref t.mix)
  mg_Fault : mg "Fault" = some (.ref t.flt)
  cl_mix : Cls K t.mix
  cl_flt : Cls K t.flt
  na_Mixed_many : NoAttr K t.mix "many"
  na_Mixed_word : NoAttr K t.mix "word"
  na_Fault_many : NoAttr K t.flt "many"
  mg_Cut : mg "Cut" = some (.ref t.cut)
  mg_Turn : mg "Turn" = some (.ref t.turn)
  mg_Deal : mg "Deal" = some (.ref t.deal)
  mg_Under : mg "Under" = some (.ref t.under)
  mg_Weave : mg "Weave" = some (.ref t.weave)
  mg_Riffle : mg "Riffle" = some (.ref t.riffle)
def spNum : Sp := fun vs H Q _ => ∃ (i a b : Int), vs = [.int i, .int a, .int b] ∧ Q (.bl (decide (a ≤ i) && decide (i ≤ b))) H
def Good (xs : List Nat) : Prop := IsOrd xs ∧ 1 ≤ xs.length ∧ xs.length ≤ 60
def spIsOrder : Sp := fun vs H Q _ => ∃ (a : Addr) (xs : List Nat), vs = [.ref a] ∧ H a = some (.lst (nv xs)) ∧ Good xs ∧ Q (.bl true) H
def spCheckOrder : Sp := fun vs H Q _ => ∃ (a : Addr) (xs : List Nat), vs = [.ref a] ∧ H a = some (.lst (nv xs)) ∧ Good xs ∧ Q .non H
def spSrc (t : Adr) (mv : Mv) : Sp := fun vs H Q _ => ∃ (p : Addr) (n : Nat), vs = [.ref p, .int (n : Int)] ∧ IsMv t H p mv ∧ mv.ok ∧ mv.fits n ∧ 1 ≤ n ∧ n ≤ 60 ∧ ∀ l, H l = none → Q (.ref l) (upd H l (.lst (nv (mv.src n))))
def spDone (t : Adr) (mv : Mv) : Sp := fun vs H Q _ => ∃ (p a : Addr) (xs : List Nat), vs = [.ref p, .ref a] ∧ IsMv t H p mv ∧ mv.ok ∧ mv.fits xs.length ∧ H a = some (.lst (nv xs)) ∧ Good xs ∧ ∀ l, H l = none → Q (.ref l) (upd H l (.lst (nv (pick xs (mv.src xs.length)))))
def spUndone (t : Adr) (mv : Mv) : Sp := fun vs H Q _ => ∃ (p a : Addr) (xs : List Nat), vs = [.ref p, .ref a] ∧ IsMv t H p mv ∧ mv.ok ∧ mv.fits xs.length ∧ H a = some (.lst (nv xs)) ∧ Good xs ∧ ∀ l, H l = none → Q (.ref l) (upd H l (.lst (nv (unpick xs (mv.src xs.length)))))
def spInit1 (t : Adr) (v : Mv → V) (is : Mv → Prop) : Sp := fun vs H Q _ => ∃ (p dx : Addr) (mv : Mv), is mv ∧ vs = [.ref p, v mv] ∧ mv.ok ∧ H p = some (.ins (mv.cls t) dx []) ∧ Q .non (upd H p (.ins (mv.cls t) dx mv.flds))
theorem nv_length (xs : List Nat) : (nv xs).length = xs.length := by simp [nv]
theorem nv_get {xs : List Nat} {i x : Nat} (h : xs[i]? = some x) : (nv xs)[i]? = some (.int (x : Int)) := by simp [nv, h]
theorem rngV_nv (i : Nat) : ∀ n, rngV (i : Int) 1 n = nv (List.range' i n) := by
  intro n
  apply List.ext_getElem?
  intro j
  by_cases h : j < n <;> simp [rngV, nv, h]
end Rf

set_option Elab.async false
set_option linter.all false
set_option maxRecDepth 100000
namespace Rf
open PySem L2
section
variable {P : Program} {w : World} {K : PySem.W.Frag} {mg : Str → Option Value} {base : Heap} {t : Adr}
theorem kit_int_bool : PySem.W.kitOne K (.type "int") (.type "bool") = some false := rfl
theorem kit_int_int : PySem.W.kitOne K (.type "int") (.type "int") = some true := rfl
theorem kit_list_list : PySem.W.kitOne K (.type "list") (.type "list") = some true := rfl
theorem kit_str_str : PySem.W.kitOne K (.type "str") (.type "str") = some true := rfl
theorem ok_is_number {f : Addr} {fd : FuncData} (F : Fun K "is_number" "is_number" s_is_number f fd) (T : Txt K mg t) : FnOk P w K mg base CX0 1 f fd ["value", "least", "most"] spNum := by
  refine F.okG sc_is_number (fun vs H Q E h => ?_) (fun cdv A outer s H vs Q E hr h => ?_)
  · obtain ⟨i, a, b, rfl, _⟩ := h
    rfl
  · obtain ⟨i, a, b, rfl, q⟩ := h
    refine ⟨_, (pss_cons (ps_if (PW.pt (pw_or (pt_val (pe_callB call_isi (by rfl) T.no_isinstance (show bootBuiltins "isinstance" = some (.builtin "isinstance") by decide +kernel) (pa_cons (pv 0) (pa_cons (pe_bltn (v := .ty "bool") rfl T.no_bool (show bootBuiltins "bool" = some (.type "bool") by decide +kernel) rfl) pa_nil)))) (pw_or1 (pt_not (pt_val (pe_callB call_isi (by rfl) T.no_isinstance (show bootBuiltins "isinstance" = some (.builtin "isinstance") by decide +kernel) (pa_cons (pv 0) (pa_cons (pe_bltn (v := .ty "int") rfl T.no_int (show bootBuiltins "int" = some (.type "int") by decide +kernel) rfl) pa_nil))))))))
 (pss_one (ps_ret pe_bl))
 pss_nil)
 (pss_one (ps_ret (pe_and (pe_cmpR op_ge (pv 0) (pv 1) (nomark _)) (pe_one (pe_cmpR op_le (pv 0) (pv 2) (nomark _))))))), ?_⟩
    refine ⟨_, rfl, _, _, _, _, rfl, .int i, .inl ⟨_, rfl⟩, kit_int_bool, _, rfl, ?_⟩
    refine iteF ?_
    refine ⟨_, rfl, _, _, _, _, rfl, .int i, .inl ⟨_, rfl⟩, kit_int_int, _, rfl, ?_⟩
    refine iteF ?_
    refine ⟨_, rfl, _, rfl, _, _, rfl, rfl, _, rfl, ?_⟩
    refine ite2 (fun c => ?_) fun c => ?_
    · refine ⟨_, rfl, _, rfl, _, _, rfl, rfl, ?_⟩
      refine end_same (Same.refl H) ?_
      rw [c, Bool.true_and] at q
      exact q
    · refine end_same (Same.refl H) ?_
      rw [Bool.not_eq_true] at c
      rw [c, Bool.false_and] at q
      exact q
theorem nodup_cast : ∀ {xs : List Nat}, xs.Nodup → (xs.map fun (n : Nat) => (n : Int)).Nodup
  | [], _ => List.nodup_nil
  | x :: xs, h => by
    rw [List.map_cons, List.nodup_cons]
    refine ⟨fun hm => ?_, nodup_cast (List.nodup_cons.mp h).2⟩
    obtain ⟨y, hy, e⟩ := List.mem_map.mp hm
    have e' : y = x := by omega
    exact (List.nodup_cons.mp h).1 (e' ▸ hy)
theorem all_true {bs : List Bool} (h : ∀ b ∈ bs, b = true) : bs.all id = true := by
  rw [List.all_eq_true]
  exact h
theorem lc_list {K : PySem.W.Frag} {tl : TE} {js : List Nat} {te : TE} {σ : St} {H : Hp} {Q : VK} {a : Addr} {xs : List V} (f : Nat → V → V) (hl : tl σ H fun x H1 => x = .ref a ∧ H1 = H) (mono : ∀ R : VK, (tl σ H fun x H1 => x = .ref a ∧ H1 = H) → R (.ref a) H → tl σ H R)
    (hx : SqL K H a xs) (hz : xs.length ≤ 1000) (he : ∀ i x R, xs[i]? = some x → R (f i x) H → te (some x :: js.map fun j => σ.getD j none) H R) (q : ∀ D, H D = none → Q (.ref D) (upd H D (.lst (xs.mapIdx f)))) : tLC (iList K tl) js te σ H Q := by
  refine mono _ hl ⟨a, rfl, ⟨xs, hx⟩, fun i m acc H' => H' = H ∧ m = xs.length - i ∧ i ≤ xs.length ∧ acc = (xs.mapIdx f).take i, ⟨xs.length, rfl, rfl, Nat.zero_le _, by simp⟩, ?_⟩
  rintro i m acc H' ⟨rfl, rfl, hi, rfl⟩
  by_cases hlt : i < xs.length
  · refine .inr ⟨⟨xs, xs[i], hx, by simp [hlt]⟩, ?_, fun x H'' y => ?_⟩
    · have : (1000 : Nat) < sizeLine := by decide
      rw [List.length_take]
      omega
    · obtain ⟨e, y⟩ := y
      subst e
      have hxi := y xs hx
      refine he i x _ hxi ⟨xs.length - (i + 1), by omega, rfl, rfl, hlt, ?_⟩
      rw [List.take_add_one]
      simp [hxi]
  · have e : i = xs.length := by omega
    subst e
    refine .inl ⟨⟨xs, hx, Nat.le_refl _⟩, ?_⟩
    have e2 : (xs.mapIdx f).take xs.length = xs.mapIdx f := List.take_of_length_le (by simp)
    rw [e2]
    exact q
theorem ok_is_order {f : Addr} {fd : FuncData} (F : Fun K "is_order" "is_order" s_is_order f fd) (T : Txt K mg t) (f_is_number : Fn1 P w K mg base 1 "is_number" spNum) : FnOk P w K mg base CX0 2 f fd ["value"] spIsOrder := by
  refine F.okG sc_is_order (fun vs H Q E h => ?_) (fun cdv A outer s H vs Q E hr h => ?_)
  · obtain ⟨a, xs, rfl, _⟩ := h
    rfl
  · obtain ⟨a, xs, rfl, ha, ⟨ho, h1, h60⟩, q⟩ := h
    have hl : (nv xs).length = xs.length := nv_length xs
    refine ⟨_, (pss_cons (ps_if (PW.pt (pw_or (pt_not (pt_val (pe_callB call_isi (by rfl) T.no_isinstance (show bootBuiltins "isinstance" = some (.builtin "isinstance") by decide +kernel) (pa_cons (pv 0) (pa_cons (pe_bltn (v := .ty "list") rfl T.no_list (show bootBuiltins "list" = some (.type "list") by decide +kernel) rfl) pa_nil))))) (pw_or1 (pt_not (pt_val (pe_fn f_is_number hr (by rfl) (pa_cons (pe_callB call_len_seq (by rfl) T.no_len (show bootBuiltins "len" = some (.builtin "len") by decide +kernel) (pa_cons (pv 0) pa_nil)) (pa_cons pe_int (pa_cons (pe_globI rfl T.mg_MOST_CARDS) pa_nil)))))))))
 (pss_one (ps_ret pe_bl))
 pss_nil)
 (pss_cons (ps_if (pt_not (pt_val (pe_callB (call_all rfl) (by rfl) T.no_all (show bootBuiltins "all" = some (.builtin "all") by decide +kernel) (pa_cons (pe_lc (ys := ["value"]) (js := [0]) rfl (pi_list (pv 0)) rfl (by decide +kernel) (by decide +kernel) rfl rfl rfl (by decide +kernel) (fun _ _ _ _ => (pe_fn f_is_number hr (by rfl) (pa_cons (pv 0) (pa_cons pe_int (pa_cons (pe_op op_sub (pe_callB (call_len_seqK (K := K) rfl) (by rfl) T.no_len (show bootBuiltins "len" = some (.builtin "len") by decide +kernel) (pa_cons (pv 1) pa_nil)) pe_int) pa_nil)))))) pa_nil))))
 (pss_one (ps_ret pe_bl))
 pss_nil)
 (pss_one (ps_ret (pe_cmpR op_eq (pe_callB call_len_setO (by rfl) T.no_len (show bootBuiltins "len" = some (.builtin "len") by decide +kernel) (pa_cons (pe_callTy (call_set_ints rfl) (by rfl) T.no_set (show bootBuiltins "set" = some (.type "set") by decide +kernel) (pa_cons (pv 0) pa_nil)) pa_nil)) (pe_callB call_len_seq (by rfl) T.no_len (show bootBuiltins "len" = some (.builtin "len") by decide +kernel) (pa_cons (pv 0) pa_nil)) (nomark _)))))), ?_⟩
    refine ⟨_, rfl, _, _, _, _, rfl, .lst ha, .inl ⟨_, rfl⟩, kit_list_list, _, rfl, ?_⟩
    refine iteF ?_
    refine ⟨_, rfl, _, _, rfl, .inl (SqL.of ha), _, _, _, rfl, _, rfl, ?_⟩
    rw [hl, show (decide ((1 : Int) ≤ (xs.length : Int)) && decide ((xs.length : Int) ≤ 60)) = true by simp; omega]
    refine iteF ?_
    dsimp only [tNext, tSeq, tIfS, tNot, tB, tCB, tCons]
    refine lc_list (a := a) (xs := nv xs) (fun _ _ => .bl true) ⟨_, rfl, rfl, rfl⟩ (fun R h q => ⟨_, rfl, q⟩) (SqL.of ha) (by omega) (fun i x R hx hR => ?_) fun D hD => ?_
    · have hx' : ∃ n, xs[i]? = some n ∧ x = .int (n : Int) := by
        simp only [nv, List.getElem?_map] at hx
        cases e : xs[i]? with
        | none => rw [e] at hx; simp at hx
        | some n => rw [e] at hx; simp at hx; exact ⟨n, rfl, hx.symm⟩
      obtain ⟨n, hn, rfl⟩ := hx'
      refine ⟨_, rfl, _, rfl, _, _, rfl, .inl (SqL.of ha), _, _, rfl, rfl, _, _, _, rfl, ?_⟩
      have := ho.lt n (List.mem_of_getElem? hn)
      rw [hl, show (decide ((0 : Int) ≤ (n : Int)) && decide ((n : Int) ≤ (xs.length : Int) - 1)) = true by simp; omega]
      exact hR
    · have e : (nv xs).mapIdx (fun _ _ => V.bl true) = (List.replicate xs.length true).map V.bl := by
        apply List.ext_getElem?
        intro j
        by_cases hj : j < xs.length <;> simp [nv, hj]
      rw [e]
      refine ⟨_, _, rfl, SqL.of upd_same, _, rfl, ?_⟩
      rw [all_true (fun b hb => (List.mem_replicate.mp hb).2)]
      refine iteF ?_
      have nad : a ≠ D := ne_of_none ha hD
      have ha' : upd H D (.lst ((List.replicate xs.length true).map V.bl)) a = some (.lst (nv xs)) := by rw [upd_ne nad]; exact ha
      have ei : nv xs = (xs.map fun (n : Nat) => (n : Int)).map V.int := by simp [nv]
      refine ⟨_, rfl, _, (xs.map fun (n : Nat) => (n : Int)), rfl, SqL.of (by rw [← ei]; exact ha'), by simp; omega, fun l8 h8 => ?_⟩
      have nal : a ≠ l8 := ne_of_none ha' h8
      refine ⟨_, _, _, rfl, upd_same, _, rfl, _, _, rfl, .inl (SqL.of (by rw [upd_ne nal]; exact ha')), rfl, ?_⟩
      have hn : setN (xs.map fun (n : Nat) => (n : Int)) = xs.length := by
        rw [setN_nodup, List.length_map]
        exact nodup_cast ho.nodup
      rw [hn, hl, decide_eq_true rfl]
      exact end_same (((Same.refl H).new hD).new h8) q
theorem ok_check_order {f : Addr} {fd : FuncData} (F : Fun K "check_order" "check_order" s_check_order f fd) (T : Txt K mg t) (f_is_order : Fn1 P w K mg base 2 "is_order" spIsOrder) : FnOk P w K mg base CX0 3 f fd ["value"] spCheckOrder := by
  refine F.okG sc_check_order (fun vs H Q E h => ?_) (fun cdv A outer s H vs Q E hr h => ?_)
  · obtain ⟨a, xs, rfl, _⟩ := h
    rfl
  · obtain ⟨a, xs, rfl, ha, g, q⟩ := h
    refine ⟨_, (pss_one (ps_if (pt_not (pt_val (pe_fn f_is_order hr (by rfl) (pa_cons (pv 0) pa_nil))))
 pss_never
 pss_nil)), ?_⟩
    refine ⟨_, rfl, _, _, rfl, ha, g, _, rfl, ?_⟩
    refine iteF ?_
    exact end_same (Same.refl H) q
end
end Rf

set_option Elab.async false
set_option linter.all false
set_option maxRecDepth 100000
namespace Rf
open PySem L2
section
variable {P : Program} {w : World} {K : PySem.W.Frag} {mg : Str → Option Value} {base : Heap} {t : Adr}
def isCut : Mv → Prop | .cut _ => True | _ => False
def vCut : Mv → V | .cut m => .int (m : Int) | _ => .non
theorem ok_Cut___init__ {f : Addr} {fd : FuncData} (F : Fun K "__init__" "Cut.__init__" s_Cut___init__ f fd) (T : Txt K mg t) (f_is_number : Fn1 P w K mg base 1 "is_number" spNum) : FnOk P w K mg base CX0 2 f fd ["self", "many"] (spInit1 t vCut isCut) := by
  refine F.okG sc_Cut___init__ (fun vs H Q E h => ?_) (fun cdv A outer s H vs Q E hr h => ?_)
  · obtain ⟨p, dx, mv, _, rfl, _⟩ := h
    rfl
  · obtain ⟨p, dx, mv, hi, rfl, ok, hp, q⟩ := h
    cases mv with
    | cut m =>
      have ok' : m ≤ 60 := ok
      refine ⟨_, (pss_cons (ps_if (pt_not (pt_val (pe_fn f_is_number hr (by rfl) (pa_cons (pv 1) (pa_cons pe_int (pa_cons (pe_globI rfl T.mg_MOST_CARDS) pa_nil))))))
 pss_never
 pss_nil)
 (pss_one (ps_fld (pv 0) (pv 1) rfl))), ?_⟩
      refine ⟨_, rfl, _, _, _, rfl, _, rfl, ?_⟩
      rw [show (decide ((0 : Int) ≤ (m : Int)) && decide ((m : Int) ≤ 60)) = true by simp; omega]
      refine iteF ?_
      refine ⟨_, rfl, _, rfl, _, _, _, _, rfl, hp, T.cl (.cut m), T.na_many, (by decide), ?_⟩
      exact ⟨_, fun _ c => Gc.refl c, q⟩
    | _ => exact False.elim hi
def isDeal : Mv → Prop | .deal _ => True | _ => False
def vDeal : Mv → V | .deal m => .int (m : Int) | _ => .non
theorem ok_Deal___init__ {f : Addr} {fd : FuncData} (F : Fun K "__init__" "Deal.__init__" s_Deal___init__ f fd) (T : Txt K mg t) (f_is_number : Fn1 P w K mg base 1 "is_number" spNum) : FnOk P w K mg base CX0 2 f fd ["self", "piles"] (spInit1 t vDeal isDeal) := by
  refine F.okG sc_Deal___init__ (fun vs H Q E h => ?_) (fun cdv A outer s H vs Q E hr h => ?_)
  · obtain ⟨p, dx, mv, _, rfl, _⟩ := h
    rfl
  · obtain ⟨p, dx, mv, hi, rfl, ok, hp, q⟩ := h
    cases mv with
    | deal m =>
      have ok' : 1 ≤ m ∧ m ≤ 60 := ok
      refine ⟨_, (pss_cons (ps_if (pt_not (pt_val (pe_fn f_is_number hr (by rfl) (pa_cons (pv 1) (pa_cons pe_int (pa_cons (pe_globI rfl T.mg_MOST_CARDS) pa_nil))))))
 pss_never
 pss_nil)
 (pss_one (ps_fld (pv 0) (pv 1) rfl))), ?_⟩
      refine ⟨_, rfl, _, _, _, rfl, _, rfl, ?_⟩
      rw [show (decide ((1 : Int) ≤ (m : Int)) && decide ((m : Int) ≤ 60)) = true by simp; omega]
      refine iteF ?_
      refine ⟨_, rfl, _, rfl, _, _, _, _, rfl, hp, T.cl (.deal m), T.na_piles, (by decide), ?_⟩
      exact ⟨_, fun _ c => Gc.refl c, q⟩
    | _ => exact False.elim hi
def isWeave : Mv → Prop | .weave _ => True | _ => False
def vWeave : Mv → V | .weave m => .int (m : Int) | _ => .non
theorem ok_Weave___init__ {f : Addr} {fd : FuncData} (F : Fun K "__init__" "Weave.__init__" s_Weave___init__ f fd) (T : Txt K mg t) (f_is_number : Fn1 P w K mg base 1 "is_number" spNum) : FnOk P w K mg base CX0 2 f fd ["self", "first"] (spInit1 t vWeave isWeave) := by
  refine F.okG sc_Weave___init__ (fun vs H Q E h => ?_) (fun cdv A outer s H vs Q E hr h => ?_)
  · obtain ⟨p, dx, mv, _, rfl, _⟩ := h
    rfl
  · obtain ⟨p, dx, mv, hi, rfl, ok, hp, q⟩ := h
    cases mv with
    | weave m =>
      have ok' : m ≤ 1 := ok
      refine ⟨_, (pss_cons (ps_if (pt_not (pt_val (pe_fn f_is_number hr (by rfl) (pa_cons (pv 1) (pa_cons pe_int (pa_cons pe_int pa_nil))))))
 pss_never
 pss_nil)
 (pss_one (ps_fld (pv 0) (pv 1) rfl))), ?_⟩
      refine ⟨_, rfl, _, _, _, rfl, _, rfl, ?_⟩
      rw [show (decide ((0 : Int) ≤ (m : Int)) && decide ((m : Int) ≤ 1)) = true by simp; omega]
      refine iteF ?_
      refine ⟨_, rfl, _, rfl, _, _, _, _, rfl, hp, T.cl (.weave m), T.na_first, (by decide), ?_⟩
      exact ⟨_, fun _ c => Gc.refl c, q⟩
    | _ => exact False.elim hi
theorem word_size (w : List Bool) : (wordOf w).cps.size = w.length := by simp [wordOf]
theorem word_len (w : List Bool) : (wordOf w).length = w.length := word_size w
theorem word_a (w : List Bool) : (wordOf w).cps.toList.count 97 = cntA w := by
  unfold wordOf cntA
  induction w with
  | nil => rfl
  | cons b w ih => cases b <;> simp at ih ⊢ <;> omega
theorem word_b (w : List Bool) : (wordOf w).cps.toList.count 98 = cntB w := by
  unfold wordOf cntB
  induction w with
  | nil => rfl
  | cons b w ih => cases b <;> simp at ih ⊢ <;> omega
def spIsWord : Sp := fun vs H Q _ => ∃ (w : List Bool), vs = [.str (wordOf w)] ∧ 1 ≤ w.length ∧ w.length ≤ 60 ∧ Q (.bl true) H
theorem ok_is_word {f : Addr} {fd : FuncData} (F : Fun K "is_word" "is_word" s_is_word f fd) (T : Txt K mg t) (f_is_number : Fn1 P w K mg base 1 "is_number" spNum) : FnOk P w K mg base CX0 2 f fd ["value"] spIsWord := by
  refine F.okG sc_is_word (fun vs H Q E h => ?_) (fun cdv A outer s H vs Q E hr h => ?_)
  · obtain ⟨w, rfl, _⟩ := h
    rfl
  · obtain ⟨w, rfl, h1, h60, q⟩ := h
    have hz : (wordOf w).length ≤ sizeLine := by rw [word_len]; exact Nat.le_trans h60 (by decide)
    refine ⟨_, (pss_cons (ps_if (PW.pt (pw_or (pt_not (pt_val (pe_callB call_isi (by rfl) T.no_isinstance (show bootBuiltins "isinstance" = some (.builtin "isinstance") by decide +kernel) (pa_cons (pv 0) (pa_cons (pe_bltn (v := .ty "str") rfl T.no_str (show bootBuiltins "str" = some (.type "str") by decide +kernel) rfl) pa_nil))))) (pw_or1 (pt_not (pt_val (pe_fn f_is_number hr (by rfl) (pa_cons (pe_callB call_len_str (by rfl) T.no_len (show bootBuiltins "len" = some (.builtin "len") by decide +kernel) (pa_cons (pv 0) pa_nil)) (pa_cons pe_int (pa_cons (pe_globI rfl T.mg_MOST_CARDS) pa_nil)))))))))
 (pss_one (ps_ret pe_bl))
 pss_nil)
 (pss_one (ps_ret (pe_cmpR op_eq (pe_op op_add (pe_bm PySem.F.plainAttrs_str PySem.F.slot_str_count PySem.F.type_str_count mt_count (pv 0) (pa_cons pe_str pa_nil)) (pe_bm PySem.F.plainAttrs_str PySem.F.slot_str_count PySem.F.type_str_count mt_count (pv 0) (pa_cons pe_str pa_nil))) (pe_callB call_len_str (by rfl) T.no_len (show bootBuiltins "len" = some (.builtin "len") by decide +kernel) (pa_cons (pv 0) pa_nil)) (nomark _))))), ?_⟩
    refine ⟨_, rfl, _, _, _, _, rfl, .str _, .inl ⟨_, rfl⟩, kit_str_str, _, rfl, ?_⟩
    refine iteF ?_
    refine ⟨_, rfl, _, rfl, hz, _, _, _, rfl, _, rfl, ?_⟩
    rw [word_len, show (decide ((1 : Int) ≤ (w.length : Int)) && decide ((w.length : Int) ≤ 60)) = true by simp; omega]
    refine iteF ?_
    refine ⟨_, rfl, rfl, _, 97, rfl, rfl, _, rfl, rfl, _, 98, rfl, rfl, _, _, rfl, rfl, _, rfl, _, rfl, hz, rfl, ?_⟩
    rw [word_a, word_b, word_len]
    have : V.int ((cntA w : Int) + (cntB w : Int)) = V.int (w.length : Int) := by
      have := cnt_len w
      congr 1
      omega
    rw [decide_eq_true this]
    exact end_same (Same.refl H) q
def isRiffle : Mv → Prop | .riffle _ => True | _ => False
def vRiffle : Mv → V | .riffle w => .str (wordOf w) | _ => .non
theorem ok_Riffle___init__ {f : Addr} {fd : FuncData} (F : Fun K "__init__" "Riffle.__init__" s_Riffle___init__ f fd) (T : Txt K mg t) (f_is_word : Fn1 P w K mg base 2 "is_word" spIsWord) : FnOk P w K mg base CX0 3 f fd ["self", "word"] (spInit1 t vRiffle isRiffle) := by
  refine F.okG sc_Riffle___init__ (fun vs H Q E h => ?_) (fun cdv A outer s H vs Q E hr h => ?_)
  · obtain ⟨p, dx, mv, _, rfl, _⟩ := h
    rfl
  · obtain ⟨p, dx, mv, hi, rfl, ok, hp, q⟩ := h
    cases mv with
    | riffle m =>
      have ok' : 1 ≤ m.length ∧ m.length ≤ 60 := ok
      refine ⟨_, (pss_cons (ps_if (pt_not (pt_val (pe_fn f_is_word hr (by rfl) (pa_cons (pv 1) pa_nil))))
 pss_never
 pss_nil)
 (pss_one (ps_fld (pv 0) (pv 1) rfl))), ?_⟩
      refine ⟨_, rfl, _, rfl, ok'.1, ok'.2, _, rfl, ?_⟩
      refine iteF ?_
      refine ⟨_, rfl, _, rfl, _, _, _, _, rfl, hp, T.cl (.riffle m), T.na_word, (by decide), ?_⟩
      exact ⟨_, fun _ c => Gc.refl c, q⟩
    | _ => exact False.elim hi
def spInit0 (t : Adr) (mv : Mv) : Sp := fun vs H Q _ => ∃ (p dx : Addr), vs = [.ref p] ∧ H p = some (.ins (mv.cls t) dx []) ∧ Q .non H
theorem ok_Turn___init__ {f : Addr} {fd : FuncData} (F : Fun K "__init__" "Turn.__init__" s_Turn___init__ f fd) : FnOk P w K mg base CX0 1 f fd ["self"] (spInit0 t .turn) := by
  refine F.okG sc_Turn___init__ (fun vs H Q E h => ?_) (fun cdv A outer s H vs Q E hr h => ?_)
  · obtain ⟨p, dx, rfl, _⟩ := h
    rfl
  · obtain ⟨p, dx, rfl, hp, q⟩ := h
    refine ⟨_, (pss_one ps_pass), ?_⟩
    exact ⟨_, fun _ c => Gc.refl c, q⟩
theorem ok_Under___init__ {f : Addr} {fd : FuncData} (F : Fun K "__init__" "Under.__init__" s_Under___init__ f fd) : FnOk P w K mg base CX0 1 f fd ["self"] (spInit0 t .under) := by
  refine F.okG sc_Under___init__ (fun vs H Q E h => ?_) (fun cdv A outer s H vs Q E hr h => ?_)
  · obtain ⟨p, dx, rfl, _⟩ := h
    rfl
  · obtain ⟨p, dx, rfl, hp, q⟩ := h
    refine ⟨_, (pss_one ps_pass), ?_⟩
    exact ⟨_, fun _ c => Gc.refl c, q⟩
end
end Rf

set_option Elab.async false
set_option linter.all false
set_option maxRecDepth 100000
namespace Rf
open PySem L2
theorem rngV_down (n : Nat) : rngV ((n : Int) - 1) (-1) n = nv (srcTurn n) := by
  apply List.ext_getElem?
  intro j
  by_cases h : j < n
  · simp [rngV, nv, srcTurn, h, List.getElem?_reverse]
    omega
  · simp [rngV, nv, srcTurn, h]
theorem rngV_step (i p n : Nat) : rngV (i : Int) (p : Int) n = nv (List.range' i n p) := by
  apply List.ext_getElem?
  intro j
  by_cases h : j < n
  · simp [rngV, nv, h, Int.mul_comm]
  · simp [rngV, nv, h]
theorem nv_append (xs ys : List Nat) : nv xs ++ nv ys = nv (xs ++ ys) := by simp [nv]
theorem nv_reverse (xs : List Nat) : (nv xs).reverse = nv xs.reverse := by simp [nv]
theorem seq0 (n : Nat) (h : 0 < n) : seqIndex? 0 n = some 0 := by
  have := (ixN_seq (n := n) (i := 0) (j := 0) (by unfold ixN; simp; omega)).1
  exact this
section
variable {P : Program} {w : World} {K : PySem.W.Frag} {mg : Str → Option Value} {base : Heap} {t : Adr}
theorem ok_Cut_sources {f : Addr} {fd : FuncData} (F : Fun K "sources" "Cut.sources" s_Cut_sources f fd) {m : Nat} (T : Txt K mg t) : FnOk P w K mg base CX0 2 f fd ["self", "cards"] (spSrc t (.cut m)) := by
  refine F.okG sc_Cut_sources (fun vs H Q E h => ?_) (fun cdv A outer s H vs Q E hr h => ?_)
  · obtain ⟨p, n, rfl, _⟩ := h
    rfl
  · obtain ⟨p, n, rfl, ⟨dx, hp⟩, ok, fit, h1, h60, q⟩ := h
    have ok' : m ≤ 60 := ok
    have fit' : m ≤ n := fit
    refine ⟨_, (pss_cons (ps_if (pt_cmpR op_gt (pe_fld (pv 0) rfl) (pv 1) (nomark _))
 pss_never
 pss_nil)
 (pss_one (ps_ret (pe_op op_cat (pe_callTy (call_list_rng rfl) (by rfl) T.no_list (show bootBuiltins "list" = some (.type "list") by decide +kernel) (pa_cons (pe_callTy call_rng2 (by rfl) T.no_range (show bootBuiltins "range" = some (.type "range") by decide +kernel) (pa_cons (pe_fld (pv 0) rfl) (pa_cons (pv 1) pa_nil))) pa_nil)) (pe_callTy (call_list_rng rfl) (by rfl) T.no_list (show bootBuiltins "list" = some (.type "list") by decide +kernel) (pa_cons (pe_callTy call_rng1 (by rfl) T.no_range (show bootBuiltins "range" = some (.type "range") by decide +kernel) (pa_cons (pe_fld (pv 0) rfl) pa_nil)) pa_nil)))))), ?_⟩
    refine ⟨_, rfl, _, _, _, _, _, rfl, hp, T.cl (.cut m), T.na_many, rfl, _, rfl, _, _, rfl, rfl, _, rfl, ?_⟩
    rw [show decide ((n : Int) < (m : Int)) = false by simp; omega]
    refine iteF ?_
    refine ⟨_, rfl, _, _, _, _, _, rfl, hp, T.cl (.cut m), T.na_many, rfl, _, rfl, _, _, rfl, fun r1 hr1 => ?_⟩
    refine ⟨_, _, _, _, _, rfl, upd_same, rng_small ⟨by omega, by omega⟩ ⟨by omega, by omega⟩ (by decide) (by decide), rng_up, by omega, fun l1 hl1 => ?_⟩
    have e1 := ((Same.refl H).new (o := rngO r1 m n 1) hr1).new (o := .lst (rngV m 1 ((n : Int) - m).toNat)) hl1
    refine ⟨_, rfl, _, _, _, _, _, rfl, e1 _ _ hp, T.cl (.cut m), T.na_many, rfl, _, rfl, fun r2 hr2 => ?_⟩
    refine ⟨_, _, _, _, _, rfl, upd_same, rng_small ⟨by omega, by omega⟩ ⟨by omega, by omega⟩ (by decide) (by decide), rng_up, by omega, fun l2 hl2 => ?_⟩
    have e2 := (Same.new (Same.refl _) (o := rngO r2 0 m 1) hr2).new (o := .lst (rngV 0 1 ((m : Int) - 0).toNat)) hl2
    refine ⟨_, _, _, _, rfl, rfl, e2 _ _ upd_same, upd_same, ?_, fun l3 hl3 => ?_⟩
    · rw [rngV_length, rngV_length]
      have : (1000 : Nat) < sizeLine := by decide
      omega
    · refine end_lst ((e1.trans e2).new hl3) ((e1.trans e2).free hl3) upd_same ?_
      have e : rngV (m : Int) 1 ((n : Int) - m).toNat ++ rngV 0 1 ((m : Int) - 0).toNat = nv (srcCut m n) := by
        rw [show ((n : Int) - m).toNat = n - m by omega, show ((m : Int) - 0).toNat = m by omega, rngV_nv, show (0 : Int) = ((0 : Nat) : Int) from rfl, rngV_nv, nv_append, srcCut, List.range_eq_range']
      rw [e]
      exact q
theorem ok_Turn_sources {f : Addr} {fd : FuncData} (F : Fun K "sources" "Turn.sources" s_Turn_sources f fd) (T : Txt K mg t) : FnOk P w K mg base CX0 2 f fd ["self", "cards"] (spSrc t .turn) := by
  refine F.okG sc_Turn_sources (fun vs H Q E h => ?_) (fun cdv A outer s H vs Q E hr h => ?_)
  · obtain ⟨p, n, rfl, _⟩ := h
    rfl
  · obtain ⟨p, n, rfl, ⟨dx, hp⟩, ok, fit, h1, h60, q⟩ := h
    refine ⟨_, (pss_one (ps_ret (pe_callTy (call_list_rng rfl) (by rfl) T.no_list (show bootBuiltins "list" = some (.type "list") by decide +kernel) (pa_cons (pe_callTy call_rng3 (by rfl) T.no_range (show bootBuiltins "range" = some (.type "range") by decide +kernel) (pa_cons (pe_op op_sub (pv 1) pe_int) (pa_cons (pe_neg) (pa_cons (pe_neg) pa_nil)))) pa_nil)))), ?_⟩
    refine ⟨_, rfl, _, _, rfl, rfl, _, _, _, rfl, by decide, by decide, fun r1 hr1 => ?_⟩
    refine ⟨_, _, _, _, _, rfl, upd_same, rng_small ⟨by omega, by omega⟩ (by decide) (by decide) (by decide), rng_down, by omega, fun l1 hl1 => ?_⟩
    have e1 := (Same.refl H).new (o := rngO r1 ((n : Int) - 1) (-1) (-1)) hr1
    refine end_lst (e1.new hl1) (e1.free hl1) upd_same ?_
    rw [rngV_down]
    exact q
def dealAcc (p n i : Nat) : List Nat := (((List.range p).reverse.take i).map fun j => (rng3 j n p).reverse).flatten
theorem dealAcc_succ (p n i : Nat) (h : i < p) : dealAcc p n (i + 1) = dealAcc p n i ++ (rng3 (p - 1 - i) n p).reverse := by
  unfold dealAcc
  rw [List.take_add_one, List.map_append, List.flatten_append]
  congr 1
  have : (List.range p).reverse[i]? = some (p - 1 - i) := by
    rw [List.getElem?_reverse (by simpa using h), List.length_range, List.getElem?_range (by omega)]
  rw [this]
  simp
theorem dealAcc_all (p n : Nat) : dealAcc p n p = srcDeal p n := by
  unfold dealAcc srcDeal
  rw [List.take_of_length_le (by simp)]
theorem dealAcc_le (p n i : Nat) (hp : 0 < p) : (dealAcc p n i).length ≤ n := by
  have h1 := (srcDeal_perm (p := p) (n := n) hp).length_eq
  rw [List.length_range] at h1
  have h2 : srcDeal p n = dealAcc p n i ++ (((List.range p).reverse.drop i).map fun j => (rng3 j n p).reverse).flatten := by
    unfold srcDeal dealAcc
    rw [← List.flatten_append, ← List.map_append, List.take_append_drop]
  rw [h2, List.length_append] at h1
  omega
theorem ok_Deal_sources {f : Addr} {fd : FuncData} (F : Fun K "sources" "Deal.sources" s_Deal_sources f fd) {m : Nat} (T : Txt K mg t) : FnOk P w K mg base CX0 2 f fd ["self", "cards"] (spSrc t (.deal m)) := by
  refine F.okG sc_Deal_sources (fun vs H Q E h => ?_) (fun cdv A outer s H vs Q E hr h => ?_)
  · obtain ⟨p, n, rfl, _⟩ := h
    rfl
  · obtain ⟨p, n, rfl, ⟨dx, hp⟩, ok, fit, h1, h60, q⟩ := h
    have ok' : 1 ≤ m ∧ m ≤ 60 := ok
    have nd := sc_Deal_sources.nd
    have big : (1000 : Nat) < sizeLine := by decide
    refine ⟨_, (pss_cons (ps_set (i := 2) nd rfl (Or.inl rfl) (pe_lst pa_nil))
 (pss_cons (ps_for PassesOwn.never rfl (pi_rng (pe_callTy call_rng3 (by rfl) T.no_range (show bootBuiltins "range" = some (.type "range") by decide +kernel) (pa_cons (pe_op op_sub (pe_fld (pv 0) rfl) pe_int) (pa_cons (pe_neg) (pa_cons (pe_neg) pa_nil))))) (pg_name (i := 3) nd rfl (Or.inl rfl))
 (pss_cons (ps_set (i := 4) nd rfl (Or.inl rfl) (pe_callTy (call_list_rng rfl) (by rfl) T.no_list (show bootBuiltins "list" = some (.type "list") by decide +kernel) (pa_cons (pe_callTy call_rng3 (by rfl) T.no_range (show bootBuiltins "range" = some (.type "range") by decide +kernel) (pa_cons (pv 3) (pa_cons (pv 1) (pa_cons (pe_fld (pv 0) rfl) pa_nil)))) pa_nil)))
 (pss_one (ps_expr (pe_bm PySem.F.plainAttrs_list PySem.F.slot_list_extend PySem.F.type_list_extend mt_extend (pv 2) (pa_cons (pe_lrev rfl (by rfl) T.no_list (by rfl) T.no_reversed (pa_cons (pv 4) pa_nil)) pa_nil))))))
 (pss_one (ps_ret (pv 2))))), ?_⟩
    refine ⟨(by decide), fun l1 hl1 => ?_⟩
    have e0 := (Same.refl H).new (o := .lst []) hl1
    refine ⟨_, rfl, _, _, _, _, _, rfl, e0 _ _ hp, T.cl (.deal m), T.na_piles, rfl, _, _, rfl, rfl, _, _, _, rfl, by decide, by decide, fun r1 hr1 => ?_⟩
    refine ⟨_, _, _, _, _, rfl, upd_same, rng_small ⟨by omega, by omega⟩ (by decide) (by decide) (by decide), rng_down, ?_⟩
    refine for_range3 (fun i σ H' => ∃ a b, σ = [some (.ref p), some (.int (n : Int)), some (.ref l1), a, b] ∧ Same H H' ∧ H' l1 = some (.lst (nv (dealAcc m n i)))) ⟨_, _, rfl, e0.new hr1, (by rw [upd_ne (ne_of_none upd_same hr1), upd_same]; rfl)⟩ ?_ ?_
    · rintro i σ H' hi ⟨a, b, rfl, se, hl⟩
      have ej : (m : Int) - 1 + (i : Int) * -1 = ((m - 1 - i : Nat) : Int) := by omega
      rw [ej]
      refine ⟨_, rfl, _, rfl, _, rfl, _, _, _, _, _, rfl, se _ _ hp, T.cl (.deal m), T.na_piles, rfl, _, _, _, rfl, by omega, by omega, fun r2 hr2 => ?_⟩
      refine ⟨_, _, _, _, _, rfl, upd_same, rng_small ⟨by omega, by omega⟩ ⟨by omega, by omega⟩ (by omega) ⟨by omega, by omega⟩, rng_step (by omega), ?_, fun l2 hl2 => ?_⟩
      · have : (n - (m - 1 - i) + m - 1) / m ≤ n - (m - 1 - i) + m - 1 := Nat.div_le_self _ _
        omega
      have e2 := (Same.new (Same.refl H') (o := rngO r2 ((m - 1 - i : Nat) : Int) n m) hr2).new (o := .lst (rngV ((m - 1 - i : Nat) : Int) m ((n - (m - 1 - i) + m - 1) / m))) hl2
      refine ⟨_, rfl, .inl ⟨rfl, _, SqL.of (e2 _ _ hl)⟩, _, rfl, _, _, rfl, SqL.of upd_same, fun l3 hl3 => ?_⟩
      have e3 := e2.new (o := .lst (rngV ((m - 1 - i : Nat) : Int) m ((n - (m - 1 - i) + m - 1) / m)).reverse) hl3
      have er : (rngV ((m - 1 - i : Nat) : Int) m ((n - (m - 1 - i) + m - 1) / m)).reverse = nv (rng3 (m - 1 - i) n m).reverse := by rw [rngV_step, nv_reverse]; rfl
      have ea : nv (dealAcc m n i) ++ nv (rng3 (m - 1 - i) n m).reverse = nv (dealAcc m n (i + 1)) := by rw [nv_append, dealAcc_succ m n i hi]
      rw [er] at e3 ⊢
      refine ⟨_, _, _, _, rfl, rfl, e3 _ _ hl, upd_same, ?_, ?_⟩
      · have h2 := dealAcc_le m n (i + 1) (by omega)
        rw [← List.length_append, ea, nv_length]
        omega
      · rw [ea]
        refine ⟨_, _, rfl, ?_, upd_same⟩
        exact (se.trans e3).upd hl1
    · rintro σ H' ⟨a, b, rfl, se, hl⟩
      refine ⟨_, rfl, ?_⟩
      rw [dealAcc_all] at hl
      exact end_lst se hl1 hl q
end
end Rf

set_option Elab.async false
set_option linter.all false
set_option maxRecDepth 100000
namespace Rf
open PySem L2
theorem lc_go {K : PySem.W.Frag} {js : List Nat} {te : TE} {σ : St} {H : Hp} {S : Addr → Hp → List V → Prop} {a : Addr} {xs : List V} (f : Nat → V → V) (hx : SqL K H a xs) (hz : xs.length ≤ 1000)
    (he : ∀ i x R, xs[i]? = some x → R (f i x) H → te (some x :: js.map fun j => σ.getD j none) H R) (q : ∀ D, H D = none → S D H (xs.mapIdx f)) :
    ∃ W : Nat → Nat → List V → Hp → Prop, (∃ m, W 0 m [] H) ∧ ∀ i m acc H, W i m acc H → ((Itl K a).stop i H ∧ ∀ D, H D = none → S D H acc) ∨
      ((Itl K a).go i H ∧ acc.length < sizeLine ∧ ∀ x H', (Itl K a).yld i H x H' → te (some x :: js.map fun j => σ.getD j none) H' fun y H'' => ∃ m', m' < m ∧ W (i + 1) m' (acc ++ [y]) H'') := by
  refine ⟨fun i m acc H' => H' = H ∧ m = xs.length - i ∧ i ≤ xs.length ∧ acc = (xs.mapIdx f).take i, ⟨xs.length, rfl, rfl, Nat.zero_le _, by simp⟩, ?_⟩
  rintro i m acc H' ⟨rfl, rfl, hi, rfl⟩
  by_cases hlt : i < xs.length
  · refine .inr ⟨⟨xs, xs[i], hx, by simp [hlt]⟩, ?_, fun x H'' y => ?_⟩
    · have : (1000 : Nat) < sizeLine := by decide
      rw [List.length_take]
      omega
    · obtain ⟨e, y⟩ := y
      subst e
      have hxi := y xs hx
      refine he i x _ hxi ⟨xs.length - (i + 1), by omega, rfl, rfl, hlt, ?_⟩
      rw [List.take_add_one]
      simp [hxi]
  · have e : i = xs.length := by omega
    subst e
    refine .inl ⟨⟨xs, hx, Nat.le_refl _⟩, ?_⟩
    have e2 : (xs.mapIdx f).take xs.length = xs.mapIdx f := List.take_of_length_le (by simp)
    rw [e2]
    exact q
theorem nv_at {xs : List Nat} {i : Nat} {x : V} (h : (nv xs)[i]? = some x) : ∃ n, xs[i]? = some n ∧ x = .int (n : Int) := by
  simp only [nv, List.getElem?_map] at h
  cases e : xs[i]? with
  | none => rw [e] at h; simp at h
  | some n => rw [e] at h; simp at h; exact ⟨n, rfl, h.symm⟩
section
variable {P : Program} {w : World} {K : PySem.W.Frag} {mg : Str → Option Value} {base : Heap} {t : Adr}
theorem ok_Under_sources {f : Addr} {fd : FuncData} (F : Fun K "sources" "Under.sources" s_Under_sources f fd) (T : Txt K mg t) : FnOk P w K mg base CX0 2 f fd ["self", "cards"] (spSrc t .under) := by
  refine F.okG sc_Under_sources (fun vs H Q E h => ?_) (fun cdv A outer s H vs Q E hr h => ?_)
  · obtain ⟨p, n, rfl, _⟩ := h
    rfl
  · obtain ⟨p, n, rfl, ⟨dx, hp⟩, ok, fit, h1, h60, q⟩ := h
    have nd := sc_Under_sources.nd
    have big : (1000 : Nat) < sizeLine := by decide
    refine ⟨_, (pss_cons (ps_set (i := 2) nd rfl (Or.inl rfl) (pe_callTy (call_list_rng rfl) (by rfl) T.no_list (show bootBuiltins "list" = some (.type "list") by decide +kernel) (pa_cons (pe_callTy call_rng1 (by rfl) T.no_range (show bootBuiltins "range" = some (.type "range") by decide +kernel) (pa_cons (pv 1) pa_nil)) pa_nil)))
 (pss_cons (ps_set (i := 3) nd rfl (Or.inl rfl) (pe_lst pa_nil))
 (pss_cons (ps_while PassesOwn.never (pt_cmpR op_gt (pe_callB call_len_seq (by rfl) T.no_len (show bootBuiltins "len" = some (.builtin "len") by decide +kernel) (pa_cons (pv 2) pa_nil)) pe_int (nomark _))
 (pss_cons (ps_expr (pe_bm PySem.F.plainAttrs_list PySem.F.slot_list_append PySem.F.type_list_append mt_append (pv 3) (pa_cons (pe_bm PySem.F.plainAttrs_list PySem.F.slot_list_pop PySem.F.type_list_pop mt_popAt (pv 2) (pa_cons pe_int pa_nil)) pa_nil)))
 (pss_one (ps_if (pt_cmpR op_gt (pe_callB call_len_seq (by rfl) T.no_len (show bootBuiltins "len" = some (.builtin "len") by decide +kernel) (pa_cons (pv 2) pa_nil)) pe_int (nomark _))
 (pss_one (ps_expr (pe_bm PySem.F.plainAttrs_list PySem.F.slot_list_append PySem.F.type_list_append mt_append (pv 2) (pa_cons (pe_bm PySem.F.plainAttrs_list PySem.F.slot_list_pop PySem.F.type_list_pop mt_popAt (pv 2) (pa_cons pe_int pa_nil)) pa_nil))))
 pss_nil))))
 (pss_one (ps_ret (pe_lrev rfl (by rfl) T.no_list (by rfl) T.no_reversed (pa_cons (pv 3) pa_nil))))))), ?_⟩
    refine ⟨_, rfl, _, rfl, fun r1 hr1 => ?_⟩
    refine ⟨_, _, _, _, _, rfl, upd_same, rng_small (by decide) ⟨by omega, by omega⟩ (by decide) (by decide), rng_up, by omega, fun lp hlp => ?_⟩
    refine ⟨(by decide), fun ll hll => ?_⟩
    have er : rngV 0 1 ((n : Int) - 0).toNat = nv (List.range n) := by rw [show ((n : Int) - 0).toNat = n by omega, show (0 : Int) = ((0 : Nat) : Int) from rfl, rngV_nv, List.range_eq_range']
    rw [er] at hll ⊢
    have e1 := (Same.refl H).new (o := rngO r1 0 n 1) hr1
    have e2 := e1.new (o := .lst (nv (List.range n))) hlp
    have e3 := e2.new (o := .lst []) hll
    have nl : lp ≠ ll := ne_of_none upd_same hll
    have nH : H lp = none := e1.free hlp
    have nL : H ll = none := e2.free hll
    refine ⟨fun m σ H' => ∃ pack laid, σ = [some (.ref p), some (.int (n : Int)), some (.ref lp), some (.ref ll)] ∧ Same H H' ∧ H' lp = some (.lst (nv pack)) ∧ H' ll = some (.lst (nv laid)) ∧ underGo pack laid = underGo (List.range n) [] ∧ pack.length + laid.length = n ∧ m = pack.length,
      ⟨_, List.range n, [], rfl, e3, by rw [upd_ne nl, upd_same], upd_same, rfl, by simp, rfl⟩, ?_⟩
    rintro m σ H' ⟨pack, laid, rfl, se, hP, hL, hu, hn, rfl⟩
    refine ⟨_, rfl, _, _, rfl, .inl (SqL.of hP), _, _, rfl, rfl, _, rfl, ?_⟩
    rw [nv_length]
    cases pack with
    | nil =>
      refine iteF ?_
      refine ⟨_, rfl, _, _, rfl, SqL.of hL, fun l1 hl1 => ?_⟩
      refine end_lst (se.new hl1) (se.free hl1) upd_same ?_
      have e : laid = underGo (List.range n) [] := by rw [← hu]; simp [underGo]
      rw [nv_reverse, e]
      exact q
    | cons x r =>
      rw [show decide ((0 : Int) < ((x :: r).length : Int)) = true from decide_eq_true (by rw [List.length_cons]; omega)]
      refine iteT ?_
      refine ⟨fun σ' H'' => ∃ m', m' < (x :: r).length ∧ ∃ pack laid, σ' = [some (.ref p), some (.int (n : Int)), some (.ref lp), some (.ref ll)] ∧ Same H H'' ∧ H'' lp = some (.lst (nv pack)) ∧ H'' ll = some (.lst (nv laid)) ∧ underGo pack laid = underGo (List.range n) [] ∧ pack.length + laid.length = n ∧ m' = pack.length, fun _ _ h => h, ?_⟩
      rw [List.length_cons] at hn
      have s1 : Same H (upd H' lp (.lst (nv r))) := se.upd nH
      have hL1 : upd H' lp (.lst (nv r)) ll = some (.lst (nv laid)) := by rw [upd_ne (Ne.symm nl)]; exact hL
      refine ⟨_, rfl, .inl ⟨rfl, _, SqL.of hL⟩, _, rfl, .inl ⟨rfl, _, SqL.of hP⟩, _, _, _, 0, _, rfl, rfl, hP, by decide, by decide, seq0 _ (by simp [nv]), rfl, _, _, _, rfl, rfl, hL1, by rw [nv_length]; omega, ?_⟩
      have e4 : nv laid ++ [V.int (x : Int)] = nv (laid ++ [x]) := by simp [nv]
      have s2 : Same H (upd (upd H' lp (.lst (nv r))) ll (.lst (nv laid ++ [V.int (x : Int)]))) := s1.upd nL
      have hP2 : upd (upd H' lp (.lst (nv r))) ll (.lst (nv laid ++ [V.int (x : Int)])) lp = some (.lst (nv r)) := by rw [upd_ne nl, upd_same]
      refine ⟨_, rfl, _, _, rfl, .inl (SqL.of hP2), _, _, rfl, rfl, _, rfl, ?_⟩
      rw [nv_length]
      cases r with
      | nil =>
        refine iteF ?_
        refine ⟨0, by simp, [], laid ++ [x], rfl, s2, hP2, by rw [upd_same, e4], ?_, by simp at hn ⊢; omega, rfl⟩
        rw [← hu]
        simp [underGo]
      | cons y r2 =>
        rw [show decide ((0 : Int) < ((y :: r2).length : Int)) = true from decide_eq_true (by rw [List.length_cons]; omega)]
        refine iteT ?_
        refine ⟨_, rfl, .inl ⟨rfl, _, SqL.of hP2⟩, _, rfl, .inl ⟨rfl, _, SqL.of hP2⟩, _, _, _, 0, _, rfl, rfl, hP2, by decide, by decide, seq0 _ (by simp [nv]), rfl, _, _, _, rfl, rfl, upd_same, by simp [nv] at hn ⊢; omega, ?_⟩
        have e5 : (nv (y :: r2)).eraseIdx 0 ++ [V.int (y : Int)] = nv (r2 ++ [y]) := by simp [nv]
        refine ⟨r2.length + 1, by simp, r2 ++ [y], laid ++ [x], rfl, (s2.upd nH).upd nH, by rw [upd_same, e5], by rw [upd_ne (Ne.symm nl), upd_ne (Ne.symm nl), upd_same, e4], ?_, by simp at hn ⊢; omega, by simp⟩
        rw [← hu]
        simp [underGo]
def spRifSrc : Sp := fun vs H Q _ => ∃ (w : List Bool), vs = [.str (wordOf w)] ∧ w.length ≤ 60 ∧ ∀ l, H l = none → Q (.ref l) (upd H l (.lst (nv (srcRif w))))
theorem word_at {w : List Bool} {i c : Nat} (h : (wordOf w).cps[i]? = some c) : ∃ b, w[i]? = some b ∧ c = if b then 97 else 98 := by
  have h' : (w.map fun b => if b then 97 else 98)[i]? = some c := by simpa [wordOf] using h
  rw [List.getElem?_map] at h'
  cases e : w[i]? with
  | none => rw [e] at h'; simp at h'
  | some b => rw [e] at h'; simp at h'; exact ⟨b, rfl, h'.symm⟩
theorem drop_at {α} {w : List α} {i : Nat} {b : α} (h : w[i]? = some b) : w.drop i = b :: w.drop (i + 1) := by
  have hi := (List.getElem?_eq_some_iff.mp h).1
  rw [List.drop_eq_getElem_cons hi]
  congr 1
  exact (List.getElem?_eq_some_iff.mp h).2
theorem ok_riffle_sources {f : Addr} {fd : FuncData} (F : Fun K "riffle_sources" "riffle_sources" s_riffle_sources f fd) (T : Txt K mg t) : FnOk P w K mg base CX0 1 f fd ["word"] spRifSrc := by
  refine F.okG sc_riffle_sources (fun vs H Q E h => ?_) (fun cdv A outer s H vs Q E hr h => ?_)
  · obtain ⟨w, rfl, _⟩ := h
    rfl
  · obtain ⟨w, rfl, h60, q⟩ := h
    have nd := sc_riffle_sources.nd
    have big : (1000 : Nat) < sizeLine := by decide
    refine ⟨_, (pss_cons (ps_set (i := 1) nd rfl (Or.inl rfl) pe_int)
 (pss_cons (ps_set (i := 2) nd rfl (Or.inl rfl) (pe_bm PySem.F.plainAttrs_str PySem.F.slot_str_count PySem.F.type_str_count mt_count (pv 0) (pa_cons pe_str pa_nil)))
 (pss_cons (ps_set (i := 3) nd rfl (Or.inl rfl) (pe_lst pa_nil))
 (pss_cons (ps_for PassesOwn.never rfl (pi_str (pv 0)) (pg_name (i := 4) nd rfl (Or.inl rfl))
 (pss_one (ps_if (pt_cmpR op_eq (pv 4) pe_str (nomark _))
 (pss_cons (ps_expr (pe_bm PySem.F.plainAttrs_list PySem.F.slot_list_append PySem.F.type_list_append mt_append (pv 3) (pa_cons (pv 1) pa_nil)))
 (pss_one (ps_set (i := 1) nd rfl (Or.inl rfl) (pe_op op_add (pv 1) pe_int))))
 (pss_cons (ps_expr (pe_bm PySem.F.plainAttrs_list PySem.F.slot_list_append PySem.F.type_list_append mt_append (pv 3) (pa_cons (pv 2) pa_nil)))
 (pss_one (ps_set (i := 2) nd rfl (Or.inl rfl) (pe_op op_add (pv 2) pe_int)))))))
 (pss_one (ps_ret (pv 3))))))), ?_⟩
    refine ⟨_, rfl, rfl, _, 97, rfl, rfl, (by decide), fun l1 hl1 => ?_⟩
    refine ⟨_, rfl, _, rfl, ?_⟩
    refine for_str (fun i σ H' => ∃ (acc : List Nat) (u l : Nat) (s : Option V), σ = [some (.str (wordOf w)), some (.int (u : Int)), some (.int (l : Int)), some (.ref l1), s] ∧ Same H H' ∧ H' l1 = some (.lst (nv acc)) ∧ acc.length = i ∧ acc ++ ruf (w.drop i) u l = srcRif w) ⟨[], 0, cntA w, none, ?_, (Same.refl H).new hl1, upd_same, rfl, rfl⟩ ?_ ?_
    · rw [word_a]; rfl
    · rintro i c σ H' hc ⟨acc, u, l, sv, rfl, se, hl, hi, hr'⟩
      obtain ⟨b, hb, rfl⟩ := word_at hc
      rw [drop_at hb] at hr'
      have hlt := (List.getElem?_eq_some_iff.mp hb).1
      have sn : ∀ o, Same H (upd H' l1 o) := fun o => se.upd hl1
      refine ⟨_, rfl, rfl, _, rfl, ?_⟩
      cases b with
      | true =>
        refine iteT ?_
        refine ⟨_, rfl, .inl ⟨rfl, _, SqL.of hl⟩, _, rfl, _, _, _, rfl, rfl, hl, by rw [nv_length]; omega, _, rfl, _, _, rfl, rfl, ?_⟩
        refine ⟨acc ++ [u], u + 1, l, _, rfl, sn _, by rw [upd_same]; simp [nv], by simp [hi], ?_⟩
        rw [← hr', ruf]
        simp
      | false =>
        refine iteF ?_
        refine ⟨_, rfl, .inl ⟨rfl, _, SqL.of hl⟩, _, rfl, _, _, _, rfl, rfl, hl, by rw [nv_length]; omega, _, rfl, _, _, rfl, rfl, ?_⟩
        refine ⟨acc ++ [l], u, l + 1, _, rfl, sn _, by rw [upd_same]; simp [nv], by simp [hi], ?_⟩
        rw [← hr', ruf]
        simp
    · rintro σ H' ⟨acc, u, l, sv, rfl, se, hl, hi, hr'⟩
      rw [word_size] at hi hr'
      rw [List.drop_of_length_le (Nat.le_refl _), ruf, List.append_nil] at hr'
      rw [hr'] at hl
      exact ⟨_, rfl, end_lst se hl1 hl q⟩
theorem rep_map {α β} (f : α → β) (l : List α) : ∀ k, (List.replicate k (l.map f)).flatten = (List.replicate k l).flatten.map f
  | 0 => rfl
  | k + 1 => by rw [List.replicate_succ, List.flatten_cons, List.replicate_succ, List.flatten_cons, List.map_append, rep_map f l k]
theorem weave_word (k : Nat) (w0 : List Bool) : repS (wordOf w0) k = wordOf (List.replicate k w0).flatten := by
  unfold repS wordOf
  congr 1
  simp only [rep_map]
theorem ok_Weave_sources {f : Addr} {fd : FuncData} (F : Fun K "sources" "Weave.sources" s_Weave_sources f fd) {m : Nat} (T : Txt K mg t) (f_riffle_sources : Fn1 P w K mg base 1 "riffle_sources" spRifSrc) : FnOk P w K mg base CX0 2 f fd ["self", "cards"] (spSrc t (.weave m)) := by
  refine F.okG sc_Weave_sources (fun vs H Q E h => ?_) (fun cdv A outer s H vs Q E hr h => ?_)
  · obtain ⟨p, n, rfl, _⟩ := h
    rfl
  · obtain ⟨p, n, rfl, ⟨dx, hp⟩, ok, fit, h1, h60, q⟩ := h
    have ok' : m ≤ 1 := ok
    have fit' : n % 2 = 0 := fit
    have nd := sc_Weave_sources.nd
    refine ⟨_, (pss_cons (ps_if (pt_cmpR op_eq (pe_op op_mod (pv 1) pe_int) pe_int (nomark _))
 pss_never
 pss_nil)
 (pss_cons (ps_set (i := 2) nd rfl (Or.inl rfl) (pe_ifExp (pt_cmpR op_eq (pe_fld (pv 0) rfl) pe_int (nomark _)) pe_str pe_str))
 (pss_one (ps_ret (pe_fn f_riffle_sources hr (by rfl) (pa_cons (pe_op op_mulS (pv 2) (pe_op op_fdiv (pv 1) pe_int)) pa_nil)))))), ?_⟩
    refine ⟨_, rfl, _, _, rfl, rfl, (by decide : (0 : Int) < 2), rfl, _, rfl, ?_⟩
    rw [show decide (V.int ((n : Int) % 2) = V.int 1) = false by simp; omega]
    refine iteF ?_
    refine ⟨_, rfl, _, _, _, _, _, rfl, hp, T.cl (.weave m), T.na_first, rfl, rfl, _, rfl, ?_⟩
    have hd : ((n : Int) / 2) = ((n / 2 : Nat) : Int) := by omega
    have hlen : (weaveWord m n).length = n := weaveWord_length m n fit'
    refine ite2 (fun c => ?_) fun c => ?_
    · have hm : m = 0 := by
        have := of_decide_eq_true c
        injection this with this
        omega
      refine ⟨_, rfl, _, rfl, _, _, rfl, rfl, ⟨by decide, by decide⟩, _, n / 2, rfl, by show V.int ((n : Int) / 2) = _; rw [hd], by decide, by omega, weaveWord m n, ?_, by omega, fun l hl => ⟨_, fun c _ => Gc.refl (c.upd hl trivial), q l hl⟩⟩
      have e : Str.ofString "ab" = wordOf [true, false] := by rfl
      rw [e, weave_word, weaveWord, if_pos hm]
      rfl
    · have hm : ¬ m = 0 := fun z => c (by subst z; rfl)
      refine ⟨_, rfl, _, rfl, _, _, rfl, rfl, ⟨by decide, by decide⟩, _, n / 2, rfl, by show V.int ((n : Int) / 2) = _; rw [hd], by decide, by omega, weaveWord m n, ?_, by omega, fun l hl => ⟨_, fun c _ => Gc.refl (c.upd hl trivial), q l hl⟩⟩
      have e : Str.ofString "ba" = wordOf [false, true] := by rfl
      rw [e, weave_word, weaveWord, if_neg hm]
      rfl
theorem ok_Riffle_sources {f : Addr} {fd : FuncData} (F : Fun K "sources" "Riffle.sources" s_Riffle_sources f fd) {m : List Bool} (T : Txt K mg t) (f_riffle_sources : Fn1 P w K mg base 1 "riffle_sources" spRifSrc) : FnOk P w K mg base CX0 2 f fd ["self", "cards"] (spSrc t (.riffle m)) := by
  refine F.okG sc_Riffle_sources (fun vs H Q E h => ?_) (fun cdv A outer s H vs Q E hr h => ?_)
  · obtain ⟨p, n, rfl, _⟩ := h
    rfl
  · obtain ⟨p, n, rfl, ⟨dx, hp⟩, ok, fit, h1, h60, q⟩ := h
    have fit' : m.length = n := fit
    have hz : (wordOf m).length ≤ sizeLine := by rw [word_len]; exact Nat.le_trans (by omega : m.length ≤ 60) (by decide)
    refine ⟨_, (pss_cons (ps_if (pt_cmpR op_ne (pe_callB call_len_str (by rfl) T.no_len (show bootBuiltins "len" = some (.builtin "len") by decide +kernel) (pa_cons (pe_fld (pv 0) rfl) pa_nil)) (pv 1) (nomark _))
 pss_never
 pss_nil)
 (pss_one (ps_ret (pe_fn f_riffle_sources hr (by rfl) (pa_cons (pe_fld (pv 0) rfl) pa_nil))))), ?_⟩
    refine ⟨_, rfl, _, _, _, _, _, rfl, hp, T.cl (.riffle m), T.na_word, rfl, _, rfl, hz, _, rfl, rfl, _, rfl, ?_⟩
    rw [word_len, fit', decide_eq_true rfl]
    refine iteF ?_
    refine ⟨_, rfl, _, _, _, _, _, rfl, hp, T.cl (.riffle m), T.na_word, rfl, m, rfl, by omega, ?_⟩
    exact fun l hl => ⟨_, fun c _ => Gc.refl (c.upd hl trivial), q l hl⟩
end
end Rf

set_option Elab.async false
set_option linter.all false
set_option maxRecDepth 100000
namespace Rf
open PySem L2
theorem unGo_snoc (xs : List Nat) : ∀ (l : List Nat) (s i : Nat) (b : List Nat), unGo xs (l ++ [s]) i b = (unGo xs l i b).set s (xs.getD (i + l.length) 0)
  | [], s, i, b => rfl
  | y :: l, s, i, b => by
    rw [List.cons_append, unGo, unGo, unGo_snoc xs l s (i + 1)]
    congr 2
    rw [List.length_cons]
    omega
theorem ixN_nat {n s : Nat} (h : s < n) : ixN n (s : Int) = some s := by
  unfold ixN
  rw [if_pos (by omega), if_pos (by omega)]
  rfl
theorem nv_set (xs : List Nat) (i v : Nat) : (nv xs).set i (.int (v : Int)) = nv (xs.set i v) := by
  simp [nv, List.map_set]
theorem Mv.no_sources (mv : Mv) : mv.flds.lookup ("sources" : Str) = none := by cases mv <;> rfl
theorem Mv.no_done (mv : Mv) : mv.flds.lookup ("done" : Str) = none := by cases mv <;> rfl
theorem Mv.no_undone (mv : Mv) : mv.flds.lookup ("undone" : Str) = none := by cases mv <;> rfl
def Mv.sort : Mv → Nat
  | .cut _ => 0 | .turn => 1 | .deal _ => 2 | .under => 3 | .weave _ => 4 | .riffle _ => 5
def clsN (t : Adr) : Nat → Addr
  | 0 => t.cut | 1 => t.turn | 2 => t.deal | 3 => t.under | 4 => t.weave | _ => t.riffle
structure TyTxt (K : PySem.W.Frag) (t : Adr) : Prop where
  cls : ∀ mv : Mv, PySem.W.findIn K (.ref (mv.cls t)) "__class__" = some (some (.builtin "object.__class__"))
  get : PySem.W.specialIn K (.builtin "object.__class__") "__get__" = some (some (.builtin "getset_descriptor.__get__"))
  tk : PySem.W.takesIn K (.builtin "object.__class__") = some true
  mro : ∀ mv : Mv, PySem.W.mroIn K (mv.cls t) (.type "object") = some true
  move : ∀ mv : Mv, PySem.W.kitOne K (.ref (mv.cls t)) (.ref t.move) = some true
  kits : ∀ (mv : Mv) (i : Nat), i < 6 → PySem.W.kitOne K (.ref (mv.cls t)) (.ref (clsN t i)) = some (decide (mv.sort = i))
theorem TyTxt.ty {K : PySem.W.Frag} {mg : Str → Option Value} {t : Adr} {H : Hp} {p : Addr} {mv : Mv} (Y : TyTxt K t) (T : Txt K mg t) (h : IsMv t H p mv) : TyOf K H (.ref p) (.ref (mv.cls t)) := by
  obtain ⟨dx, h⟩ := h
  exact .ins h (T.cl mv) (Y.cls mv) Y.get Y.tk (Y.mro mv)
section
variable {P : Program} {w : World} {K : PySem.W.Frag} {mg : Str → Option Value} {base : Heap} {t : Adr}
theorem ok_Move_done {f : Addr} {fd : FuncData} (F : Fun K "done" "Move.done" s_Move_done f fd) {mv : Mv} (T : Txt K mg t) (f_check_order : Fn1 P w K mg base 3 "check_order" spCheckOrder) (m_sources : Mth P w K mg base 2 (mv.cls t) "sources" (spSrc t mv)) : FnOk P w K mg base CX0 4 f fd ["self", "order"] (spDone t mv) := by
  refine F.okG sc_Move_done (fun vs H Q E h => ?_) (fun cdv A outer s H vs Q E hr h => ?_)
  · obtain ⟨p, a, xs, rfl, _⟩ := h
    rfl
  · obtain ⟨p, a, xs, rfl, ⟨dx, hp⟩, ok, fit, ha, g, q⟩ := h
    have hl : (nv xs).length = xs.length := nv_length xs
    refine ⟨_, (pss_cons (ps_expr (pe_fn f_check_order hr (by rfl) (pa_cons (pv 1) pa_nil)))
 (pss_one (ps_ret (pe_lc (ys := ["order"]) (js := [1]) rfl (pi_list (pe_mtD 2 hr (pv 0) (pa_cons (pe_callB call_len_seq (by rfl) T.no_len (show bootBuiltins "len" = some (.builtin "len") by decide +kernel) (pa_cons (pv 1) pa_nil)) pa_nil))) rfl (by decide +kernel) (by decide +kernel) rfl rfl rfl (by decide +kernel) (fun _ _ _ _ => (pe_ix (ix_listK (K := K) rfl) (pv 1) (pv 0) (fun _ _ => rfl))))))), ?_⟩
    refine ⟨_, rfl, _, _, rfl, ha, g, _, rfl, _, _, _, _, _, rfl, hp, mv.no_sources, m_sources, _, rfl, _, _, rfl, .inl (SqL.of ha), _, _, rfl, ⟨dx, hp⟩, ok, by rw [hl]; exact fit, by rw [hl]; exact g.2.1, by rw [hl]; exact g.2.2, fun l1 hl1 => ?_⟩
    rw [hl]
    have perm := Mv.src_perm ok fit
    have e1 := (Same.refl H).new (o := .lst (nv (mv.src xs.length))) hl1
    refine ⟨_, rfl, ⟨_, SqL.of upd_same⟩, ?_⟩
    refine lc_go (xs := nv (mv.src xs.length)) (fun _ x => match x with | .int s => V.int ((xs.getD s.toNat 0 : Nat) : Int) | v => v) (SqL.of upd_same) ?_ (fun i x R hx hR => ?_) fun D hD => ?_
    · rw [nv_length, perm_len perm]
      have := g.2.2
      omega
    · obtain ⟨s', hs, rfl⟩ := nv_at hx
      have hlt := perm_lt perm s' (List.mem_of_getElem? hs)
      have hat : xs[s']? = some (xs.getD s' 0) := by simp [List.getD_eq_getElem?_getD, hlt]
      exact ⟨_, rfl, _, rfl, _, _, _, _, rfl, rfl, SqL.of (e1 _ _ ha), atI_nat (nv_get hat), hR⟩
    · refine end_lst (e1.new hD) (e1.free hD) upd_same ?_
      have e : ((nv (mv.src xs.length)).mapIdx fun _ x => match x with | .int s => V.int ((xs.getD s.toNat 0 : Nat) : Int) | v => v) = nv (pick xs (mv.src xs.length)) := by
        apply List.ext_getElem?
        intro j
        simp only [List.getElem?_mapIdx, nv, pick, List.getElem?_map]
        cases (mv.src xs.length)[j]? <;> simp
      rw [e]
      exact q
theorem ok_Move_undone {f : Addr} {fd : FuncData} (F : Fun K "undone" "Move.undone" s_Move_undone f fd) {mv : Mv} (T : Txt K mg t) (f_check_order : Fn1 P w K mg base 3 "check_order" spCheckOrder) (m_sources : Mth P w K mg base 2 (mv.cls t) "sources" (spSrc t mv)) : FnOk P w K mg base CX0 4 f fd ["self", "order"] (spUndone t mv) := by
  refine F.okG sc_Move_undone (fun vs H Q E h => ?_) (fun cdv A outer s H vs Q E hr h => ?_)
  · obtain ⟨p, a, xs, rfl, _⟩ := h
    rfl
  · obtain ⟨p, a, xs, rfl, ⟨dx, hp⟩, ok, fit, ha, g, q⟩ := h
    have hl : (nv xs).length = xs.length := nv_length xs
    have nd := sc_Move_undone.nd
    have perm := Mv.src_perm ok fit
    refine ⟨_, (pss_cons (ps_expr (pe_fn f_check_order hr (by rfl) (pa_cons (pv 1) pa_nil)))
 (pss_cons (ps_set (i := 2) nd rfl (Or.inl rfl) (pe_callTy call_list_of (by rfl) T.no_list (show bootBuiltins "list" = some (.type "list") by decide +kernel) (pa_cons (pv 1) pa_nil)))
 (pss_cons (ps_for PassesOwn.never rfl (pi_enum (by rfl) T.no_enumerate (pa_cons (pe_mtD 2 hr (pv 0) (pa_cons (pe_callB call_len_seq (by rfl) T.no_len (show bootBuiltins "len" = some (.builtin "len") by decide +kernel) (pa_cons (pv 1) pa_nil)) pa_nil)) pa_nil)) (pg_tup rfl (pgs_cons (pg_name (i := 3) nd rfl (Or.inl rfl)) (pgs_cons (pg_name (i := 4) nd rfl (Or.inl rfl)) pgs_nil)))
 (pss_one (ps_asg (pe_ix ix_list (pv 1) (pv 3) (fun _ _ => rfl)) (pg_sub (pv 2) (pv 4) set_list))))
 (pss_one (ps_ret (pv 2)))))), ?_⟩
    refine ⟨_, rfl, _, _, rfl, ha, g, _, rfl, _, _, rfl, .inl (SqL.of ha), fun lb hlb => ?_⟩
    have e0 := (Same.refl H).new (o := .lst (nv xs)) hlb
    refine ⟨_, rfl, _, _, _, _, _, rfl, e0 _ _ hp, mv.no_sources, m_sources, _, rfl, _, _, rfl, .inl (SqL.of (e0 _ _ ha)), _, _, rfl, ⟨dx, e0 _ _ hp⟩, ok, by rw [hl]; exact fit, by rw [hl]; exact g.2.1, by rw [hl]; exact g.2.2, fun l1 hl1 => ?_⟩
    rw [hl]
    have e1 := e0.new (o := .lst (nv (mv.src xs.length))) hl1
    have nlb : lb ≠ l1 := ne_of_none upd_same hl1
    have nHl : H l1 = none := e0.free hl1
    refine ⟨_, rfl, ⟨_, SqL.of upd_same⟩, ?_⟩
    refine for_enum (xs := nv (mv.src xs.length)) (fun i σ H' => ∃ b c, σ = [some (.ref p), some (.ref a), some (.ref lb), b, c] ∧ Same H H' ∧ H' l1 = some (.lst (nv (mv.src xs.length))) ∧ H' lb = some (.lst (nv (unGo xs ((mv.src xs.length).take i) 0 xs))))
      ⟨none, none, rfl, e1, upd_same, by rw [upd_ne nlb, upd_same]; rfl⟩ (fun i σ H' _ z => ?_) ?_ ?_
    · obtain ⟨_, _, _, _, z, _⟩ := z
      exact SqL.of z
    · rintro i v σ H' p2 hv ⟨b, c, rfl, se, hL, hB⟩ hp2
      obtain ⟨s', hs, rfl⟩ := nv_at hv
      have hlt := perm_lt perm s' (List.mem_of_getElem? hs)
      have hi : i < xs.length := by
        have := (List.getElem?_eq_some_iff.mp hs).1
        rw [perm_len perm] at this
        exact this
      have e2 := Same.new (Same.refl H') (o := .tup [.int (i : Int), .int (s' : Int)]) hp2
      have hat : xs[i]? = some (xs.getD i 0) := by simp [List.getD_eq_getElem?_getD, hi]
      refine ⟨_, _, rfl, SqT.of upd_same, rfl, _, _, rfl, _, _, rfl, rfl, _, rfl, _, rfl, _, _, _, _, rfl, rfl, SqL.of (e2 _ _ (se _ _ ha)), atI_nat (nv_get hat), _, rfl, _, rfl, _, _, _, _, rfl, rfl, e2 _ _ hB, ixN_nat (by rw [nv_length, unGo_length]; exact hlt), ?_⟩
      refine ⟨_, _, rfl, (se.trans e2).upd hlb, by rw [upd_ne (Ne.symm nlb)]; exact e2 _ _ hL, ?_⟩
      rw [upd_same, nv_set]
      have e3 : (mv.src xs.length).take (i + 1) = (mv.src xs.length).take i ++ [s'] := by
        rw [List.take_add_one, hs]; rfl
      have e4 : ((mv.src xs.length).take i).length = i := by rw [List.length_take, perm_len perm]; omega
      rw [e3, unGo_snoc, e4, Nat.zero_add]
    · rintro σ H' ⟨b, c, rfl, se, hL, hB⟩
      refine ⟨_, rfl, ?_⟩
      rw [nv_length, List.take_of_length_le (Nat.le_refl _)] at hB
      exact end_lst se hlb hB q
def spCheckMove (t : Adr) : Sp := fun vs H Q _ => ∃ (p : Addr) (mv : Mv), vs = [.ref p] ∧ IsMv t H p mv ∧ Q .non H
theorem ok_check_move {f : Addr} {fd : FuncData} (F : Fun K "check_move" "check_move" s_check_move f fd) (T : Txt K mg t) (Y : TyTxt K t) : FnOk P w K mg base CX0 1 f fd ["value"] (spCheckMove t) := by
  refine F.okG sc_check_move (fun vs H Q E h => ?_) (fun cdv A outer s H vs Q E hr h => ?_)
  · obtain ⟨p, mv, rfl, _⟩ := h
    rfl
  · obtain ⟨p, mv, rfl, hp, q⟩ := h
    refine ⟨_, (pss_one (ps_if (pt_not (pt_val (pe_callB call_isi (by rfl) T.no_isinstance (show bootBuiltins "isinstance" = some (.builtin "isinstance") by decide +kernel) (pa_cons (pv 0) (pa_cons (pe_glob (v := .ref _) rfl T.mg_Move rfl) pa_nil)))))
 pss_never
 pss_nil)), ?_⟩
    refine ⟨_, rfl, _, _, _, _, rfl, Y.ty T hp, .inr ⟨_, rfl⟩, Y.move mv, _, rfl, ?_⟩
    refine iteF ?_
    exact end_same (Same.refl H) q
def spCheckMoves (t : Adr) : Sp := fun vs H Q _ => ∃ (l : Addr) (ms : List (Addr × Mv)), vs = [.ref l] ∧ H l = some (.lst (ms.map fun x => V.ref x.1)) ∧ (∀ x ∈ ms, IsMv t H x.1 x.2) ∧ Q .non H
theorem ok_check_moves {f : Addr} {fd : FuncData} (F : Fun K "check_moves" "check_moves" s_check_moves f fd) (T : Txt K mg t) (f_check_move : Fn1 P w K mg base 1 "check_move" (spCheckMove t)) : FnOk P w K mg base CX0 2 f fd ["value"] (spCheckMoves t) := by
  refine F.okG sc_check_moves (fun vs H Q E h => ?_) (fun cdv A outer s H vs Q E hr h => ?_)
  · obtain ⟨l, ms, rfl, _⟩ := h
    rfl
  · obtain ⟨l, ms, rfl, hl, hm, q⟩ := h
    have nd := sc_check_moves.nd
    refine ⟨_, (pss_cons (ps_if (pt_not (pt_val (pe_callB call_isi (by rfl) T.no_isinstance (show bootBuiltins "isinstance" = some (.builtin "isinstance") by decide +kernel) (pa_cons (pv 0) (pa_cons (pe_bltn (v := .ty "list") rfl T.no_list (show bootBuiltins "list" = some (.type "list") by decide +kernel) rfl) pa_nil)))))
 pss_never
 pss_nil)
 (pss_one (ps_for PassesOwn.never rfl (pi_list (pv 0)) (pg_name (i := 1) nd rfl (Or.inl rfl))
 (pss_one (ps_expr (pe_fn f_check_move hr (by rfl) (pa_cons (pv 1) pa_nil))))))), ?_⟩
    refine ⟨_, rfl, _, _, _, _, rfl, .lst hl, .inl ⟨_, rfl⟩, kit_list_list, _, rfl, ?_⟩
    refine iteF ?_
    refine ⟨_, rfl, _, rfl, ⟨_, SqL.of hl⟩, ?_⟩
    refine for_list (xs := ms.map fun x => V.ref x.1) (fun i σ H' => H' = H ∧ ∃ b, σ = [some (.ref l), b]) ⟨rfl, none, rfl⟩ (fun i σ H' _ z => by rw [z.1]; exact SqL.of hl) ?_ ?_
    · rintro i x σ H' hx ⟨rfl, b, rfl⟩
      rw [List.getElem?_map] at hx
      cases e : ms[i]? with
      | none => rw [e] at hx; simp at hx
      | some y =>
        rw [e] at hx
        simp at hx
        subst hx
        exact ⟨_, rfl, y.1, y.2, rfl, hm y (List.mem_of_getElem? e), rfl, _, rfl⟩
    · rintro σ H' ⟨rfl, b, rfl⟩
      exact end_same (Same.refl _) q
theorem Good.pick {xs : List Nat} {mv : Mv} (g : Good xs) (ok : mv.ok) (fit : mv.fits xs.length) : Good (pick xs (mv.src xs.length)) ∧ (Rf.pick xs (mv.src xs.length)).length = xs.length := by
  have p := Mv.src_perm ok fit
  have e : (Rf.pick xs (mv.src xs.length)).length = xs.length := by rw [pick_length, perm_len p]
  exact ⟨⟨pick_ord g.1 p, by rw [e]; exact g.2.1, by rw [e]; exact g.2.2⟩, e⟩
end
end Rf

set_option Elab.async false
set_option linter.all false
set_option maxRecDepth 100000
namespace Rf
open PySem L2
section
variable {P : Program} {w : World} {K : PySem.W.Frag} {mg : Str → Option Value} {base : Heap} {t : Adr}
end
end Rf

set_option Elab.async false
set_option linter.all false
set_option maxRecDepth 100000
namespace Rf
open PySem L2
def spCell (K : PySem.W.Frag) : Sp := fun vs H Q _ => ∃ (a : Addr) (ns : List Int) (k : Nat), vs = [.ref a, .int (k : Int)] ∧ SqL K H a (ns.map V.int) ∧ ∀ z : Int, Q (.int z) H
section
variable {P : Program} {w : World} {K : PySem.W.Frag} {mg : Str → Option Value} {base : Heap} {t : Adr}
theorem ok__law_cell_at {f : Addr} {fd : FuncData} (F : Fun K "_law_cell_at" "_law_cell_at" s__law_cell_at f fd) (T : Txt K mg t) : FnOk P w K mg base CX0 1 f fd ["_law_script", "_law_k"] (spCell K) := by
  refine F.okG sc__law_cell_at (fun vs H Q E h => ?_) (fun cdv A outer s H vs Q E hr h => ?_)
  · obtain ⟨a, ns, k, rfl, _⟩ := h
    rfl
  · obtain ⟨a, ns, k, rfl, ha, q⟩ := h
    refine ⟨_, (pss_cons (ps_if (pt_cmpR op_lt (pv 1) (pe_callB call_len_seq (by rfl) T.no_len (show bootBuiltins "len" = some (.builtin "len") by decide +kernel) (pa_cons (pv 0) pa_nil)) (nomark _))
 (pss_one (ps_ret (pe_ix ix_list (pv 0) (pv 1) (fun _ _ => rfl))))
 pss_nil)
 (pss_one (ps_ret pe_int))), ?_⟩
    refine ⟨_, rfl, _, rfl, _, _, rfl, .inl ha, _, _, rfl, rfl, _, rfl, ?_⟩
    refine ite2 (fun c => ?_) fun c => ?_
    · have c' : (k : Int) < ((ns.map V.int).length : Int) := of_decide_eq_true c
      have hk : k < ns.length := by rw [List.length_map] at c'; omega
      refine ⟨_, rfl, _, rfl, _, _, _, _, rfl, rfl, ha, atI_nat (v := V.int ns[k]) (by simp [hk]), ?_⟩
      exact end_same (Same.refl H) (q _)
    · exact end_same (Same.refl H) (q 0)
end
end Rf

set_option Elab.async false
set_option linter.all false
set_option maxRecDepth 100000
namespace Rf
open PySem L2
theorem eqV_int (a b : Int) : eqV (.int a) (.int b) = (a == b) := rfl
theorem nv_flat (xs : List Nat) : (nv xs).all flatV = true := by
  rw [List.all_eq_true]
  intro v hv
  obtain ⟨n, _, rfl⟩ := List.mem_map.mp hv
  rfl
theorem eqVs_self (xs : List Nat) : eqVs (nv xs) (nv xs) = true := by
  unfold eqVs
  rw [beq_self_eq_true, Bool.true_and, List.all_eq_true]
  intro i hi
  have hi' : i < xs.length := by have := List.mem_range.mp hi; rwa [nv_length] at this
  have : (nv xs).getD i .non = .int ((xs[i] : Nat) : Int) := by simp [nv, List.getD_eq_getElem?_getD, hi']
  rw [this, eqV_int, beq_self_eq_true]
section
variable {P : Program} {w : World} {K : PySem.W.Frag} {mg : Str → Option Value} {base : Heap} {t : Adr}
end
end Rf

set_option Elab.async false
set_option linter.all false
set_option maxRecDepth 100000
namespace Rf
open PySem L2
section
variable {P : Program} {w : World} {K : PySem.W.Frag} {mg : Str → Option Value} {base : Heap} {t : Adr}
end
end Rf

set_option Elab.async false
set_option linter.all false
set_option maxRecDepth 100000
namespace Rf
open PySem L2
section
variable {P : Program} {w : World} {K : PySem.W.Frag} {mg : Str → Option Value} {base : Heap} {t : Adr}
end
end Rf

set_option Elab.async false
set_option linter.all false
set_option maxRecDepth 100000
namespace Rf
open PySem L2
section
variable {P : Program} {w : World} {K : PySem.W.Frag} {mg : Str → Option Value} {base : Heap} {t : Adr}
end
end Rf

set_option Elab.async false
set_option linter.all false
set_option maxRecDepth 100000
namespace Rf
open PySem L2
def spCards : Sp := fun vs H Q _ => ∃ n : Nat, vs = [.int (n : Int)] ∧ 1 ≤ n ∧ n ≤ 60 ∧ Q .non H
def spTargets : Sp := fun vs H Q _ => ∃ (a : Addr) (src : List Nat), vs = [.ref a] ∧ H a = some (.lst (nv src)) ∧ src.Perm (List.range src.length) ∧ ∀ l, H l = none → Q (.ref l) (upd H l (.lst (nv (goes src src.length))))
def spRingFrom : Sp := fun vs H Q _ => ∃ (a : Addr) (src : List Nat) (n s : Nat), vs = [.ref a, .int (s : Int)] ∧ H a = some (.lst (nv (goes src n))) ∧ src.Perm (List.range n) ∧ s < n ∧ n ≤ 60 ∧ ∀ l, H l = none → Q (.ref l) (upd H l (.lst (nv (ring (gOf src n) n s))))
def spGcd : Sp := fun vs H Q _ => ∃ a b : Nat, vs = [.int (a : Int), .int (b : Int)] ∧ Q (.int (Nat.gcd a b : Nat)) H
section
variable {P : Program} {w : World} {K : PySem.W.Frag} {mg : Str → Option Value} {base : Heap} {t : Adr}
theorem ok_check_cards {f : Addr} {fd : FuncData} (F : Fun K "check_cards" "check_cards" s_check_cards f fd) (T : Txt K mg t) (f_is_number : Fn1 P w K mg base 1 "is_number" spNum) : FnOk P w K mg base CX0 2 f fd ["value"] spCards := by
  refine F.okG sc_check_cards (fun vs H Q E h => ?_) (fun cdv A outer s H vs Q E hr h => ?_)
  · obtain ⟨n, rfl, _⟩ := h
    rfl
  · obtain ⟨n, rfl, h1, h60, q⟩ := h
    refine ⟨_, (pss_one (ps_if (pt_not (pt_val (pe_fn f_is_number hr (by rfl) (pa_cons (pv 0) (pa_cons pe_int (pa_cons (pe_globI rfl T.mg_MOST_CARDS) pa_nil))))))
 pss_never
 pss_nil)), ?_⟩
    refine ⟨_, rfl, _, _, _, rfl, _, rfl, ?_⟩
    rw [decide_eq_true (by omega : (1 : Int) ≤ (n : Int)), decide_eq_true (by omega : (n : Int) ≤ 60)]
    refine iteF ?_
    exact end_same (Same.refl H) q
theorem ok_targets {f : Addr} {fd : FuncData} (F : Fun K "targets" "targets" s_targets f fd) (T : Txt K mg t) : FnOk P w K mg base CX0 1 f fd ["sources"] spTargets := by
  refine F.okG sc_targets (fun vs H Q E h => ?_) (fun cdv A outer s H vs Q E hr h => ?_)
  · obtain ⟨a, src, rfl, _⟩ := h
    rfl
  · obtain ⟨a, src, rfl, ha, perm, q⟩ := h
    have nd := sc_targets.nd
    refine ⟨_, (pss_cons (ps_set (i := 1) nd rfl (Or.inl rfl) (pe_callTy call_list_of (by rfl) T.no_list (show bootBuiltins "list" = some (.type "list") by decide +kernel) (pa_cons (pv 0) pa_nil)))
 (pss_cons (ps_for PassesOwn.never rfl (pi_enum (by rfl) T.no_enumerate (pa_cons (pv 0) pa_nil)) (pg_tup rfl (pgs_cons (pg_name (i := 2) nd rfl (Or.inl rfl)) (pgs_cons (pg_name (i := 3) nd rfl (Or.inl rfl)) pgs_nil)))
 (pss_one (ps_asg (pv 2) (pg_sub (pv 1) (pv 3) set_list))))
 (pss_one (ps_ret (pv 1))))), ?_⟩
    refine ⟨_, rfl, _, _, rfl, .inl (SqL.of ha), fun lb hlb => ?_⟩
    have e0 := (Same.refl H).new (o := .lst (nv src)) hlb
    refine ⟨_, rfl, _, rfl, ⟨_, SqL.of (e0 _ _ ha)⟩, ?_⟩
    refine for_enum (xs := nv src) (fun i σ H' => ∃ b c, σ = [some (.ref a), some (.ref lb), b, c] ∧ Same H H' ∧ H' lb = some (.lst (nv (unGo (List.range src.length) (src.take i) 0 src))))
      ⟨none, none, rfl, e0, by rw [upd_same]; rfl⟩ (fun i σ H' _ z => ?_) ?_ ?_
    · obtain ⟨_, _, _, se, _⟩ := z
      exact SqL.of (se _ _ ha)
    · rintro i v σ H' p2 hv ⟨b, c, rfl, se, hB⟩ hp2
      obtain ⟨s', hs, rfl⟩ := nv_at hv
      have hlt := perm_lt perm s' (List.mem_of_getElem? hs)
      have hi : i < src.length := (List.getElem?_eq_some_iff.mp hs).1
      have e2 := Same.new (Same.refl H') (o := .tup [.int (i : Int), .int (s' : Int)]) hp2
      refine ⟨_, _, rfl, SqT.of upd_same, rfl, _, _, rfl, _, _, rfl, rfl, _, rfl, _, rfl, _, rfl, _, _, _, _, rfl, rfl, e2 _ _ hB, ixN_nat (by rw [nv_length, unGo_length]; exact hlt), ?_⟩
      refine ⟨_, _, rfl, (se.trans e2).upd hlb, ?_⟩
      rw [upd_same, nv_set]
      have e3 : src.take (i + 1) = src.take i ++ [s'] := by
        rw [List.take_add_one, hs]; rfl
      have e4 : (src.take i).length = i := by rw [List.length_take]; omega
      have e5 : (List.range src.length).getD i 0 = i := by rw [List.getD_eq_getElem?_getD, List.getElem?_range hi]; rfl
      rw [e3, unGo_snoc, e4, Nat.zero_add, e5]
    · rintro σ H' ⟨b, c, rfl, se, hB⟩
      refine ⟨_, rfl, ?_⟩
      rw [nv_length, List.take_of_length_le (Nat.le_refl _)] at hB
      exact end_lst se hlb hB q
theorem goes_get {src : List Nat} {n x : Nat} (p : src.Perm (List.range n)) (hx : x < n) : (goes src n)[x]? = some (gOf src n x) := by
  obtain ⟨k, hk, h1, h2⟩ := src_of p hx
  rw [goes_at p h1, h2]
theorem ring_steps {g : Nat → Nat} {s k : Nat} : ((List.range (k + 1)).map fun i => it g i s) = ((List.range k).map fun i => it g i s) ++ [it g k s] := by
  rw [List.range_succ, List.map_append]; rfl
theorem ok_ring_from {f : Addr} {fd : FuncData} (F : Fun K "ring_from" "ring_from" s_ring_from f fd) (T : Txt K mg t) : FnOk P w K mg base CX0 1 f fd ["goes_to", "start"] spRingFrom := by
  refine F.okG sc_ring_from (fun vs H Q E h => ?_) (fun cdv A outer s H vs Q E hr h => ?_)
  · obtain ⟨a, src, n, s, rfl, _⟩ := h
    rfl
  · obtain ⟨a, src, n, s', rfl, ha, perm, hs, h60, q⟩ := h
    have nd := sc_ring_from.nd
    have PF := gOf_perm perm
    obtain ⟨c1, c2, c3, c4⟩ := clen_spec PF hs
    have big : (1000 : Nat) < sizeLine := by decide
    refine ⟨_, (pss_cons (ps_set (i := 2) nd rfl (Or.inl rfl) (pe_lst (pa_cons (pv 1) pa_nil)))
 (pss_cons (ps_set (i := 3) nd rfl (Or.inl rfl) (pe_ix ix_list (pv 0) (pv 1) (fun _ _ => rfl)))
 (pss_cons (ps_while PassesOwn.never (pt_cmpR op_ne (pv 3) (pv 1) (nomark _))
 (pss_cons (ps_expr (pe_bm PySem.F.plainAttrs_list PySem.F.slot_list_append PySem.F.type_list_append mt_append (pv 2) (pa_cons (pv 3) pa_nil)))
 (pss_one (ps_set (i := 3) nd rfl (Or.inl rfl) (pe_ix ix_list (pv 0) (pv 3) (fun _ _ => rfl))))))
 (pss_one (ps_ret (pv 2)))))), ?_⟩
    refine ⟨_, rfl, (by show 1 ≤ sizeLine; decide), fun l1 hl1 => ?_⟩
    have e1 := (Same.refl H).new (o := .lst [V.int (s' : Int)]) hl1
    refine ⟨_, rfl, _, rfl, _, _, _, _, rfl, rfl, SqL.of (e1 _ _ ha), atI_nat (nv_get (goes_get perm hs)), ?_⟩
    refine ⟨fun m σ H' => ∃ k, 1 ≤ k ∧ k ≤ clen (gOf src n) n s' ∧ m = clen (gOf src n) n s' - k ∧ σ = [some (.ref a), some (.int (s' : Int)), some (.ref l1), some (.int (it (gOf src n) k s' : Nat))] ∧ Same H H' ∧ H' l1 = some (.lst (nv ((List.range k).map fun i => it (gOf src n) i s'))),
      ⟨_, 1, Nat.le_refl _, c1, rfl, rfl, e1, upd_same⟩, ?_⟩
    rintro m σ H' ⟨k, hk1, hk2, rfl, rfl, se, hL⟩
    refine ⟨_, rfl, _, rfl, rfl, _, rfl, ?_⟩
    by_cases hk : k = clen (gOf src n) n s'
    · have e : it (gOf src n) k s' = s' := by rw [hk]; exact c3
      rw [e]
      rw [show (!decide (V.int (s' : Int) = V.int (s' : Int))) = false by simp]
      refine iteF ?_
      refine ⟨_, rfl, ?_⟩
      rw [hk] at hL
      exact end_lst se hl1 hL q
    · have ne := c4 k hk1 (by omega)
      rw [show (!decide (V.int ((it (gOf src n) k s' : Nat) : Int) = V.int (s' : Int))) = true by simp; omega]
      refine iteT ?_
      have hlt := it_lt PF k hs
      refine ⟨fun σ' H'' => ∃ m', m' < clen (gOf src n) n s' - k ∧ ∃ k, 1 ≤ k ∧ k ≤ clen (gOf src n) n s' ∧ m' = clen (gOf src n) n s' - k ∧ σ' = [some (.ref a), some (.int (s' : Int)), some (.ref l1), some (.int (it (gOf src n) k s' : Nat))] ∧ Same H H'' ∧ H'' l1 = some (.lst (nv ((List.range k).map fun i => it (gOf src n) i s'))), fun _ _ h => h, ?_⟩
      have se2 : Same H (upd H' l1 (.lst (nv ((List.range k).map fun i => it (gOf src n) i s') ++ [V.int (it (gOf src n) k s' : Nat)]))) := se.upd hl1
      refine ⟨_, rfl, .inl ⟨rfl, _, SqL.of hL⟩, _, rfl, _, _, _, rfl, rfl, hL, by rw [nv_length, List.length_map, List.length_range]; omega, _, rfl, _, rfl, _, _, _, _, rfl, rfl, SqL.of (se2 _ _ ha), atI_nat (nv_get (goes_get perm hlt)), ?_⟩
      refine ⟨_, by omega, k + 1, by omega, by omega, rfl, rfl, se2, ?_⟩
      rw [upd_same, ring_steps]
      simp [nv]
theorem ok_common_divisor {f : Addr} {fd : FuncData} (F : Fun K "common_divisor" "common_divisor" s_common_divisor f fd) : FnOk P w K mg base CX0 1 f fd ["one", "other"] spGcd := by
  refine F.okG sc_common_divisor (fun vs H Q E h => ?_) (fun cdv A outer s H vs Q E hr h => ?_)
  · obtain ⟨a, b, rfl, _⟩ := h
    rfl
  · obtain ⟨a, b, rfl, q⟩ := h
    have nd := sc_common_divisor.nd
    refine ⟨_, (pss_cons (ps_while PassesOwn.never (pt_cmpR op_ne (pv 1) pe_int (nomark _))
 (pss_cons (ps_set (i := 2) nd rfl (Or.inl rfl) (pe_op op_mod (pv 0) (pv 1)))
 (pss_cons (ps_set (i := 0) nd rfl (Or.inl rfl) (pv 1))
 (pss_one (ps_set (i := 1) nd rfl (Or.inl rfl) (pv 2))))))
 (pss_one (ps_ret (pv 0)))), ?_⟩
    refine ⟨fun m σ H' => ∃ (x y : Nat) (c : Option V), σ = [some (.int (x : Int)), some (.int (y : Int)), c] ∧ H' = H ∧ Nat.gcd x y = Nat.gcd a b ∧ m = y, ⟨_, a, b, none, rfl, rfl, rfl, rfl⟩, ?_⟩
    rintro y σ H' ⟨x, y', c, rfl, rfl, hg, rfl⟩
    refine ⟨_, rfl, rfl, _, rfl, ?_⟩
    by_cases hy : y = 0
    · subst hy
      refine iteF ?_
      refine ⟨_, rfl, ?_⟩
      rw [Nat.gcd_zero_right] at hg
      rw [hg]
      exact end_same (Same.refl _) q
    · rw [show (!decide (V.int (y : Int) = V.int 0)) = true by simp; omega]
      refine iteT ?_
      refine ⟨fun σ' H'' => ∃ m', m' < y ∧ ∃ (x y : Nat) (c : Option V), σ' = [some (.int (x : Int)), some (.int (y : Int)), c] ∧ H'' = H' ∧ Nat.gcd x y = Nat.gcd a b ∧ m' = y, fun _ _ h => h, ?_⟩
      refine ⟨_, rfl, _, rfl, _, _, rfl, rfl, (by omega : (0 : Int) < (y : Int)), _, rfl, _, rfl, ?_⟩
      refine ⟨x % y, Nat.mod_lt _ (by omega), y, x % y, _, by rw [Int.natCast_emod]; rfl, rfl, ?_, rfl⟩
      rw [← hg, Nat.gcd_comm x y, Nat.gcd_rec y x, Nat.gcd_comm]
end
end Rf

set_option Elab.async false
set_option linter.all false
set_option maxRecDepth 100000
namespace Rf
open PySem L2
structure Rgs (H H' : Hp) (l : Addr) (rs : List Addr) (L : List (List Nat)) : Prop where
  same : Same H H'
  lst : H' l = some (.lst (rs.map V.ref))
  new : H l = none
  len : rs.length = L.length
  at_ : ∀ (i : Nat) (r : Addr), rs[i]? = some r → H r = none ∧ r ≠ l ∧ H' r = some (.lst (nv (L.getD i [])))
def rgsOf (mv : Mv) (n : Nat) : List (List Nat) := ringsOf (gOf (mv.src n) n) n
def spRings (t : Adr) : Sp := fun vs H Q _ => ∃ (p : Addr) (n : Nat) (mv : Mv), vs = [.ref p, .int (n : Int)] ∧ IsMv t H p mv ∧ mv.ok ∧ mv.fits n ∧ 1 ≤ n ∧ n ≤ 60 ∧ ∀ l rs H', Rgs H H' l rs (rgsOf mv n) → Q (.ref l) H'
theorem sees_put {kvs : List (Key × V)} {v : V} {m x : Nat} : (valV (putK kvs (.inl (m : Int)) v) (.inl (x : Int))).isSome = (decide (x = m) || (valV kvs (.inl (x : Int))).isSome) := by
  rw [valV_put]
  by_cases h : x = m
  · subst h
    rw [if_pos rfl]
    simp
  · rw [if_neg (by intro e; apply h; have := Sum.inl.inj e; omega), decide_eq_false h, Bool.false_or]
section
variable {P : Program} {w : World} {K : PySem.W.Frag} {mg : Str → Option Value} {base : Heap} {t : Adr}
theorem ok_rings {f : Addr} {fd : FuncData} (F : Fun K "rings" "rings" s_rings f fd) (T : Txt K mg t) (f_check_move : Fn1 P w K mg base 1 "check_move" (spCheckMove t)) (f_check_cards : Fn1 P w K mg base 2 "check_cards" spCards) (f_targets : Fn1 P w K mg base 1 "targets" spTargets) (f_ring_from : Fn1 P w K mg base 1 "ring_from" spRingFrom) (m_sources : ∀ mv : Mv, Mth P w K mg base 2 (mv.cls t) "sources" (spSrc t mv)) : FnOk P w K mg base CX0 3 f fd ["move", "many"] (spRings t) := by
  refine F.okG sc_rings (fun vs H Q E h => ?_) (fun cdv A outer s H vs Q E hr h => ?_)
  · obtain ⟨p, n, mv, rfl, _⟩ := h
    rfl
  · obtain ⟨p, n, mv, rfl, ⟨dx, hp⟩, ok, fit, h1, h60, q⟩ := h
    have nd := sc_rings.nd
    have perm := Mv.src_perm ok fit
    have PF := gOf_perm perm
    have big : (10000 : Nat) < sizeLine := by decide
    refine ⟨_, (pss_cons (ps_expr (pe_fn f_check_move hr (by rfl) (pa_cons (pv 0) pa_nil)))
 (pss_cons (ps_expr (pe_fn f_check_cards hr (by rfl) (pa_cons (pv 1) pa_nil)))
 (pss_cons (ps_set (i := 2) nd rfl (Or.inl rfl) (pe_fn f_targets hr (by rfl) (pa_cons (pe_mtD 2 hr (pv 0) (pa_cons (pv 1) pa_nil)) pa_nil)))
 (pss_cons (ps_set (i := 3) nd rfl (Or.inl rfl) pe_dnew)
 (pss_cons (ps_set (i := 4) nd rfl (Or.inl rfl) (pe_lst pa_nil))
 (pss_cons (ps_for PassesOwn.never rfl (pi_rng (pe_callTy call_rng1 (by rfl) T.no_range (show bootBuiltins "range" = some (.type "range") by decide +kernel) (pa_cons (pv 1) pa_nil))) (pg_name (i := 5) nd rfl (Or.inl rfl))
 (pss_one (ps_if (pt_cmpR op_notin_d (pv 5) (pv 3) (by rfl))
 (pss_cons (ps_set (i := 6) nd rfl (Or.inl rfl) (pe_fn f_ring_from hr (by rfl) (pa_cons (pv 2) (pa_cons (pv 5) pa_nil))))
 (pss_cons (ps_for PassesOwn.never rfl (pi_list (pv 6)) (pg_name (i := 7) nd rfl (Or.inl rfl))
 (pss_one (ps_asg pe_bl (pg_sub (pv 3) (pv 7) set_d))))
 (pss_one (ps_expr (pe_bm PySem.F.plainAttrs_list PySem.F.slot_list_append PySem.F.type_list_append mt_append (pv 4) (pa_cons (pv 6) pa_nil))))))
 pss_nil)))
 (pss_one (ps_ret (pv 4))))))))), ?_⟩
    refine ⟨_, rfl, p, mv, rfl, ⟨dx, hp⟩, _, rfl, n, rfl, h1, h60, _, rfl, _, _, _, _, _, rfl, hp, mv.no_sources, m_sources mv, _, rfl, _, _, rfl, ⟨dx, hp⟩, ok, fit, h1, h60, fun ls hls => ?_⟩
    have e1 := (Same.refl H).new (o := .lst (nv (mv.src n))) hls
    have hn : (mv.src n).length = n := perm_len perm
    refine ⟨_, mv.src n, rfl, upd_same, by rw [hn]; exact perm, fun lg hlg => ?_⟩
    rw [hn]
    have e2 := e1.new (o := .lst (nv (goes (mv.src n) n))) hlg
    intro d hd
    have e3 := e2.new (o := .dK []) hd
    refine ⟨(by decide), fun lf hlf => ?_⟩
    have e4 := e3.new (o := .lst []) hlf
    have nLG : H lg = none := e1.free hlg
    have nD : H d = none := e2.free hd
    have nF : H lf = none := e3.free hlf
    have ngd : lg ≠ d := ne_of_none upd_same hd
    have ngf : lg ≠ lf := ne_of_none (by rw [upd_ne ngd]; exact upd_same) hlf
    have ndf : d ≠ lf := ne_of_none upd_same hlf
    refine ⟨_, rfl, _, rfl, fun r7 hr7 => ?_⟩
    have e5 := e4.new (o := rngO r7 0 n 1) hr7
    have s5 := Same.new (Same.refl _) (o := rngO r7 0 n 1) hr7
    refine ⟨_, _, _, _, _, rfl, upd_same, rng_small (by decide) ⟨by omega, by omega⟩ (by decide) (by decide), rng_up, ?_⟩
    have en : ((n : Int) - 0).toNat = n := by omega
    rw [en]
    refine for_range3 (fun i σ H' => ∃ (rs : List Addr) (kvs : List (Key × V)) (b c e : Option V), σ = [some (.ref p), some (.int (n : Int)), some (.ref lg), some (.ref d), some (.ref lf), b, c, e] ∧ Same H H' ∧ H' lg = some (.lst (nv (goes (mv.src n) n))) ∧
        H' d = some (.dK kvs) ∧ kvs.length ≤ i * 60 ∧ (∀ x : Nat, (valV kvs (.inl (x : Int))).isSome = decide (x ∈ (ringsTo (gOf (mv.src n) n) n i).flatten)) ∧
        H' lf = some (.lst (rs.map V.ref)) ∧ rs.length = (ringsTo (gOf (mv.src n) n) n i).length ∧ ∀ (j : Nat) (r : Addr), rs[j]? = some r → H r = none ∧ r ≠ lf ∧ r ≠ d ∧ H' r = some (.lst (nv ((ringsTo (gOf (mv.src n) n) n i).getD j []))))
      ⟨[], [], none, none, none, rfl, e5, s5 _ _ (by rw [upd_ne ngf, upd_ne ngd, upd_same]), s5 _ _ (by rw [upd_ne ndf, upd_same]), by simp, fun x => by simp [valV, ringsTo], s5 _ _ upd_same, by simp [ringsTo], fun j r hj => by simp at hj⟩ ?_ ?_
    · rintro i σ H' hi ⟨rs, kvs, b, c, e, rfl, se, hG, hD, hK, hS, hF, hl, hR⟩
      have eV : (0 : Int) + (i : Int) * 1 = (i : Int) := by omega
      rw [eV]
      refine ⟨_, rfl, _, rfl, (i : Int), d, kvs, rfl, rfl, hD, _, rfl, ?_⟩
      rw [hS i]
      by_cases hm : i ∈ (ringsTo (gOf (mv.src n) n) n i).flatten
      · rw [decide_eq_true hm]
        refine iteF ?_
        have er : ringsTo (gOf (mv.src n) n) n (i + 1) = ringsTo (gOf (mv.src n) n) n i := by rw [ringsTo, if_pos hm]
        refine ⟨rs, kvs, _, _, _, rfl, se, hG, hD, by omega, ?_, hF, ?_, ?_⟩
        · intro x; rw [er]; exact hS x
        · rw [er]; exact hl
        · intro j r hj; rw [er]; exact hR j r hj
      · rw [decide_eq_false hm]
        refine iteT ?_
        have er : ringsTo (gOf (mv.src n) n) n (i + 1) = ringsTo (gOf (mv.src n) n) n i ++ [ring (gOf (mv.src n) n) n i] := by rw [ringsTo, if_neg hm]
        obtain ⟨c1, c2, _, _⟩ := clen_spec PF hi
        refine ⟨_, rfl, _, rfl, _, mv.src n, n, i, rfl, hG, perm, hi, h60, fun rg hrg => ?_⟩
        have s1 := Same.new (Same.refl H') (o := .lst (nv (ring (gOf (mv.src n) n) n i))) hrg
        have nRD : d ≠ rg := ne_of_none hD hrg
        have nRF : lf ≠ rg := ne_of_none hF hrg
        have nRG : lg ≠ rg := ne_of_none hG hrg
        refine ⟨_, rfl, _, rfl, ⟨_, SqL.of upd_same⟩, ?_⟩
        refine for_list (xs := nv (ring (gOf (mv.src n) n) n i)) (fun j σ H'' => ∃ (kvs' : List (Key × V)) (e' : Option V), σ = [some (.ref p), some (.int (n : Int)), some (.ref lg), some (.ref d), some (.ref lf), some (.int (i : Int)), some (.ref rg), e'] ∧
            H'' = upd (upd H' rg (.lst (nv (ring (gOf (mv.src n) n) n i)))) d (.dK kvs') ∧ kvs'.length ≤ kvs.length + j ∧ (∀ x : Nat, (valV kvs' (.inl (x : Int))).isSome = (decide (x ∈ (ringsTo (gOf (mv.src n) n) n i).flatten) || decide (x ∈ (ring (gOf (mv.src n) n) n i).take j))))
          ⟨kvs, _, rfl, ?_, by omega, fun x => by rw [hS x]; simp⟩ (fun j σ H'' _ z => ?_) ?_ ?_
        · funext z
          by_cases hz : z = d
          · rw [hz, upd_same, upd_ne nRD, hD]
          · rw [upd_ne hz]
        · obtain ⟨kvs', e', rfl, rfl, _⟩ := z
          exact SqL.of (by rw [upd_ne (Ne.symm nRD), upd_same])
        · rintro j x σ H'' hx ⟨kvs', e', rfl, rfl, hk', hS'⟩
          obtain ⟨m, hmr, rfl⟩ := nv_at hx
          have hj : j < (ring (gOf (mv.src n) n) n i).length := (List.getElem?_eq_some_iff.mp hmr).1
          rw [ring_length] at hj
          have hi60 : i * 60 ≤ 3600 := by omega
          refine ⟨_, rfl, _, rfl, d, (m : Int), kvs', rfl, rfl, upd_same, by omega, ?_⟩
          refine ⟨putK kvs' (.inl (m : Int)) (.bl true), _, rfl, by rw [upd_upd], ?_, fun x => ?_⟩
          · have := length_putK kvs' (.inl (m : Int)) (.bl true)
            omega
          · rw [sees_put, hS' x, List.take_add_one, hmr]
            simp only [Option.toList, List.mem_append, List.mem_singleton]
            by_cases h2 : x = m <;> by_cases h3 : x ∈ (ringsTo (gOf (mv.src n) n) n i).flatten <;> by_cases h4 : x ∈ (ring (gOf (mv.src n) n) n i).take j <;> simp [h2, h3, h4]
        · rintro σ H'' ⟨kvs', e', rfl, rfl, hk', hS'⟩
          rw [nv_length, List.take_of_length_le (Nat.le_refl _)] at hS'
          rw [nv_length, ring_length] at hk'
          have hF2 : upd (upd H' rg (.lst (nv (ring (gOf (mv.src n) n) n i)))) d (.dK kvs') lf = some (.lst (rs.map V.ref)) := by rw [upd_ne (Ne.symm ndf), upd_ne nRF]; exact hF
          have lrs : rs.length ≤ 60 := by rw [hl]; have := ringsTo_len PF i (by omega); omega
          refine ⟨_, rfl, .inl ⟨rfl, _, SqL.of hF2⟩, _, rfl, _, _, _, rfl, rfl, hF2, by rw [List.length_map]; omega, ?_⟩
          refine ⟨rs ++ [rg], kvs', _, _, _, rfl, ((se.new hrg).upd nD).upd nF, by rw [upd_ne ngf, upd_ne ngd, upd_ne nRG]; exact hG, by rw [upd_ne ndf, upd_same], by omega, fun x => ?_, ?_, ?_, fun j r hj => ?_⟩
          · rw [hS' x, er, List.flatten_append]
            by_cases h3 : x ∈ (ringsTo (gOf (mv.src n) n) n i).flatten <;> by_cases h4 : x ∈ ring (gOf (mv.src n) n) n i <;> simp [h3, h4]
          · rw [upd_same, List.map_append]; rfl
          · rw [er, List.length_append, List.length_append, hl]; rfl
          · rw [er]
            by_cases hjl : j < rs.length
            · rw [List.getElem?_append_left hjl] at hj
              obtain ⟨r1, r2, r3, r4⟩ := hR j r hj
              have nr : r ≠ rg := ne_of_none r4 hrg
              refine ⟨r1, r2, r3, ?_⟩
              rw [upd_ne r2, upd_ne r3, upd_ne nr, r4]
              have e7 : (ringsTo (gOf (mv.src n) n) n i ++ [ring (gOf (mv.src n) n) n i]).getD j [] = (ringsTo (gOf (mv.src n) n) n i).getD j [] := by
                rw [List.getD_eq_getElem?_getD, List.getD_eq_getElem?_getD, List.getElem?_append_left (by omega)]
              rw [e7]
            · rw [List.getElem?_append_right (by omega)] at hj
              have hj0 : j = rs.length := by
                have := (List.getElem?_eq_some_iff.mp hj).1
                simp at this
                omega
              subst hj0
              rw [Nat.sub_self] at hj
              have : rg = r := by simpa using hj
              subst this
              refine ⟨se.free hrg, Ne.symm nRF, Ne.symm nRD, ?_⟩
              rw [upd_ne (Ne.symm nRF), upd_ne (Ne.symm nRD), upd_same]
              have e7 : (ringsTo (gOf (mv.src n) n) n i ++ [ring (gOf (mv.src n) n) n i]).getD rs.length [] = ring (gOf (mv.src n) n) n i := by
                rw [List.getD_eq_getElem?_getD, hl, List.getElem?_append_right (Nat.le_refl _), Nat.sub_self]
                rfl
              rw [e7]
    · rintro σ H' ⟨rs, kvs, b, c, e, rfl, se, hG, hD, hK, hS, hF, hl, hR⟩
      refine ⟨_, rfl, ⟨_, fun _ c => Gc.refl c, q lf rs H' ⟨se, hF, nF, hl, fun j r hj => ?_⟩⟩⟩
      obtain ⟨r1, r2, _, r4⟩ := hR j r hj
      exact ⟨r1, r2, r4⟩
end
end Rf

set_option Elab.async false
set_option linter.all false
set_option maxRecDepth 100000
namespace Rf
open PySem L2
def spRepeated (t : Adr) : Sp := fun vs H Q _ => ∃ (p a : Addr) (xs : List Nat) (k : Nat) (mv : Mv), vs = [.ref p, .ref a, .int (k : Int)] ∧ IsMv t H p mv ∧ mv.ok ∧ mv.fits xs.length ∧ H a = some (.lst (nv xs)) ∧ Good xs ∧ k ≤ 10 ^ 18 ∧
  ∀ l, H l = none → Q (.ref l) (upd H l (.lst (nv (movedN (mv.src xs.length) xs k))))
def SB (x : Addr) (H H' : Hp) : Prop := ∀ b o, b ≠ x → H b = some o → H' b = some o
theorem SB.refl (x : Addr) (H : Hp) : SB x H H := fun _ _ _ h => h
theorem SB.at_ {x : Addr} {H H' : Hp} {o : HO} (e : SB x H H') : SB x H (upd H' x o) := fun b u hb h => by rw [upd_ne hb]; exact e b u hb h
theorem SB.new {x p : Addr} {H H' : Hp} {o : HO} (e : SB x H H') (n : H' p = none) : SB x H (upd H' p o) := fun b u hb h => by
  have h2 := e b u hb h
  rw [upd_ne (ne_of_none h2 n)]
  exact h2
theorem SB.same {x : Addr} {H0 H H' : Hp} (e : SB x H H') (s : Same H0 H) (n : H0 x = none) : Same H0 H' := fun b o h => e b o (ne_of_none h n) (s b o h)
theorem getD_some {α} {L : List α} {i : Nat} {d : α} (h : i < L.length) : L[i]? = some (L.getD i d) := by simp [List.getD_eq_getElem?_getD, h]
section
variable {P : Program} {w : World} {K : PySem.W.Frag} {mg : Str → Option Value} {base : Heap} {t : Adr}
theorem ok_repeated {f : Addr} {fd : FuncData} (F : Fun K "repeated" "repeated" s_repeated f fd) (T : Txt K mg t) (f_check_move : Fn1 P w K mg base 1 "check_move" (spCheckMove t)) (f_check_order : Fn1 P w K mg base 3 "check_order" spCheckOrder) (f_is_number : Fn1 P w K mg base 1 "is_number" spNum) (f_rings : Fn1 P w K mg base 3 "rings" (spRings t)) : FnOk P w K mg base CX0 4 f fd ["move", "order", "times"] (spRepeated t) := by
  refine F.okG sc_repeated (fun vs H Q E h => ?_) (fun cdv A outer s H vs Q E hr h => ?_)
  · obtain ⟨p, a, xs, k, mv, rfl, _⟩ := h
    rfl
  · obtain ⟨p, a, xs, k, mv, rfl, hp, ok, fit, ha, g, hk, q⟩ := h
    have nd := sc_repeated.nd
    have perm := Mv.src_perm ok fit
    have PF := gOf_perm perm
    have hl : (nv xs).length = xs.length := nv_length xs
    refine ⟨_, (pss_cons (ps_expr (pe_fn f_check_move hr (by rfl) (pa_cons (pv 0) pa_nil)))
 (pss_cons (ps_expr (pe_fn f_check_order hr (by rfl) (pa_cons (pv 1) pa_nil)))
 (pss_cons (ps_if (pt_not (pt_val (pe_fn f_is_number hr (by rfl) (pa_cons (pv 2) (pa_cons pe_int (pa_cons (pe_op op_pow pe_int pe_int) pa_nil))))))
 pss_never
 pss_nil)
 (pss_cons (ps_set (i := 3) nd rfl (Or.inl rfl) (pe_callTy call_list_of (by rfl) T.no_list (show bootBuiltins "list" = some (.type "list") by decide +kernel) (pa_cons (pv 1) pa_nil)))
 (pss_cons (ps_for PassesOwn.never rfl (pi_list (pe_fn f_rings hr (by rfl) (pa_cons (pv 0) (pa_cons (pe_callB call_len_seq (by rfl) T.no_len (show bootBuiltins "len" = some (.builtin "len") by decide +kernel) (pa_cons (pv 1) pa_nil)) pa_nil)))) (pg_name (i := 4) nd rfl (Or.inl rfl))
 (pss_one (ps_for PassesOwn.never rfl (pi_enum (by rfl) T.no_enumerate (pa_cons (pv 4) pa_nil)) (pg_tup rfl (pgs_cons (pg_name (i := 5) nd rfl (Or.inl rfl)) (pgs_cons (pg_name (i := 6) nd rfl (Or.inl rfl)) pgs_nil)))
 (pss_one (ps_asg (pe_ix ix_list (pv 1) (pv 6) (fun _ _ => rfl)) (pg_sub (pv 3) (pe_ix ix_list (pv 4) (pe_op op_mod (pe_op op_add (pv 5) (pv 2)) (pe_callB call_len_seq (by rfl) T.no_len (show bootBuiltins "len" = some (.builtin "len") by decide +kernel) (pa_cons (pv 4) pa_nil))) (fun _ _ => rfl)) set_list))))))
 (pss_one (ps_ret (pv 3)))))))), ?_⟩
    refine ⟨_, rfl, p, mv, rfl, hp, _, rfl, a, xs, rfl, ha, g, _, rfl, _, _, rfl, rfl, ⟨by decide, by decide, by decide⟩, _, _, _, rfl, _, rfl, ?_⟩
    have h18 : (k : Int) ≤ 10 ^ (18 : Int).toNat := by
      have : (10 : Int) ^ (18 : Int).toNat = ((10 ^ 18 : Nat) : Int) := rfl
      rw [this]
      exact Int.ofNat_le.mpr hk
    rw [decide_eq_true (by omega : (0 : Int) ≤ (k : Int)), decide_eq_true h18]
    refine iteF ?_
    refine ⟨_, rfl, _, _, rfl, .inl (SqL.of ha), fun lb hlb => ?_⟩
    have e0 := (Same.refl H).new (o := .lst (nv xs)) hlb
    have hp0 : IsMv t (upd H lb (.lst (nv xs))) p mv := by
      obtain ⟨dx, h⟩ := hp
      exact ⟨dx, e0 _ _ h⟩
    refine ⟨_, rfl, _, rfl, _, _, rfl, .inl (SqL.of (e0 _ _ ha)), p, (nv xs).length, mv, rfl, hp0, ok, by rw [hl]; exact fit, by rw [hl]; exact g.2.1, by rw [hl]; exact g.2.2, fun l rs H' R => ?_⟩
    rw [hl] at R
    refine ⟨_, rfl, ⟨_, SqL.of R.lst⟩, ?_⟩
    have nlb : H' lb = some (.lst (nv xs)) := R.same _ _ upd_same
    have nl : l ≠ lb := fun z => by have := R.new; rw [z, upd_same] at this; cases this
    have seH : Same H H' := e0.trans R.same
    refine for_list (xs := rs.map V.ref) (fun i σ H'' => ∃ b c d, σ = [some (.ref p), some (.ref a), some (.int (k : Int)), some (.ref lb), b, c, d] ∧ SB lb H' H'' ∧ H'' lb = some (.lst (nv (putAll (gOf (mv.src xs.length) xs.length) k xs ((rgsOf mv xs.length).take i).flatten xs))))
      ⟨none, none, none, rfl, SB.refl _ _, nlb⟩ (fun i σ H'' _ z => ?_) ?_ ?_
    · obtain ⟨_, _, _, _, sb, _⟩ := z
      exact SqL.of (sb _ _ nl R.lst)
    · rintro i x σ H'' hx ⟨b, c, d, rfl, sb, hB⟩
      rw [List.getElem?_map] at hx
      cases hri : rs[i]? with
      | none => rw [hri] at hx; simp at hx
      | some r =>
        rw [hri] at hx
        simp at hx
        subst hx
        obtain ⟨r1, r2, r3⟩ := R.at_ i r hri
        have nr : r ≠ lb := fun z => by rw [z, upd_same] at r1; cases r1
        have hi : i < (rgsOf mv xs.length).length := by rw [← R.len]; exact (List.getElem?_eq_some_iff.mp hri).1
        have hLi : (rgsOf mv xs.length)[i]? = some ((rgsOf mv xs.length).getD i []) := getD_some hi
        obtain ⟨s0, hs0, er⟩ := rings_is PF _ (List.mem_of_getElem? hLi)
        rw [er] at r3 hLi
        refine ⟨_, rfl, _, rfl, ⟨_, SqL.of (sb _ _ nr r3)⟩, ?_⟩
        refine for_enum (xs := nv (ring (gOf (mv.src xs.length) xs.length) xs.length s0)) (fun j σ H3 => ∃ c d, σ = [some (.ref p), some (.ref a), some (.int (k : Int)), some (.ref lb), some (.ref r), c, d] ∧ SB lb H' H3 ∧
            H3 lb = some (.lst (nv (putAll (gOf (mv.src xs.length) xs.length) k xs (((rgsOf mv xs.length).take i).flatten ++ (ring (gOf (mv.src xs.length) xs.length) xs.length s0).take j) xs))))
          ⟨_, _, rfl, sb, by rw [List.take_zero, List.append_nil]; exact hB⟩ (fun j σ H3 _ z => ?_) ?_ ?_
        · obtain ⟨_, _, _, sb3, _⟩ := z
          exact SqL.of (sb3 _ _ nr r3)
        · rintro j v σ H3 p2 hv ⟨c, d, rfl, sb3, hB3⟩ hp2
          obtain ⟨pl, hpl, rfl⟩ := nv_at hv
          have hj : j < clen (gOf (mv.src xs.length) xs.length) xs.length s0 := by
            have := (List.getElem?_eq_some_iff.mp hpl).1
            rw [ring_length] at this
            exact this
          have epl : pl = it (gOf (mv.src xs.length) xs.length) j s0 := by
            rw [ring_at PF hs0 hj] at hpl
            exact (Option.some.inj hpl).symm
          have hpn : pl < xs.length := by rw [epl]; exact it_lt PF j hs0
          have htn : it (gOf (mv.src xs.length) xs.length) k pl < xs.length := it_lt PF k hpn
          have sb4 := sb3.new (o := .tup [.int (j : Int), .int (pl : Int)]) hp2
          have nlp : lb ≠ p2 := ne_of_none hB3 hp2
          have hA : upd H3 p2 (.tup [.int (j : Int), .int (pl : Int)]) a = some (.lst (nv xs)) := sb4 _ _ (ne_of_none ha hlb) (seH _ _ ha)
          have hR4 := sb4 _ _ nr r3
          have hB4 : upd H3 p2 (.tup [.int (j : Int), .int (pl : Int)]) lb = some (.lst (nv (putAll (gOf (mv.src xs.length) xs.length) k xs (((rgsOf mv xs.length).take i).flatten ++ (ring (gOf (mv.src xs.length) xs.length) xs.length s0).take j) xs))) := by rw [upd_ne nlp]; exact hB3
          have hat : xs[pl]? = some (xs.getD pl 0) := getD_some hpn
          have hrl : (nv (ring (gOf (mv.src xs.length) xs.length) xs.length s0)).length = (ring (gOf (mv.src xs.length) xs.length) xs.length s0).length := nv_length _
          have hpos : 0 < (ring (gOf (mv.src xs.length) xs.length) xs.length s0).length := by rw [ring_length]; exact (clen_spec PF hs0).1
          have emod : ((j : Int) + (k : Int)) % ((nv (ring (gOf (mv.src xs.length) xs.length) xs.length s0)).length : Int) = (((j + k) % (ring (gOf (mv.src xs.length) xs.length) xs.length s0).length : Nat) : Int) := by
            rw [hrl, Int.natCast_emod, Int.natCast_add]
          have hturn := ring_turn PF (t := k) hs0 hj
          rw [← epl] at hturn
          refine ⟨_, _, rfl, SqT.of upd_same, rfl, _, _, rfl, _, _, rfl, rfl, _, rfl, _, rfl, _, _, _, _, rfl, rfl, SqL.of hA, atI_nat (nv_get hat), _, rfl, _, rfl, _, rfl, _, rfl, _, _, rfl, rfl, _, rfl, _, _, rfl, .inl (SqL.of hR4), _, _, rfl, rfl, (by rw [hrl]; omega), _, _, _, _, rfl, rfl, SqL.of hR4, (by rw [emod]; exact atI_nat (nv_get hturn)), _, _, _, _, rfl, rfl, hB4, ixN_nat (by rw [nv_length, putAll_length]; exact htn), ?_⟩
          refine ⟨_, _, rfl, sb4.at_, ?_⟩
          rw [upd_same, nv_set, List.take_add_one, hpl]
          simp only [Option.toList]
          rw [← List.append_assoc, putAll_append _ _ _ (_ ++ _) [pl]]
          rfl
        · rintro σ H3 ⟨c, d, rfl, sb3, hB3⟩
          refine ⟨_, _, _, rfl, sb3, ?_⟩
          rw [hB3, nv_length, List.take_of_length_le (Nat.le_refl _), List.take_add_one, hLi]
          simp
    · rintro σ H'' ⟨b, c, d, rfl, sb, hB⟩
      refine ⟨_, rfl, ?_⟩
      rw [List.length_map, R.len, List.take_of_length_le (Nat.le_refl _)] at hB
      have e9 : putAll (gOf (mv.src xs.length) xs.length) k xs (rgsOf mv xs.length).flatten xs = movedN (mv.src xs.length) xs k := rep_moved perm k
      rw [e9] at hB
      exact end_lst (sb.same seH hlb) hlb hB q
end
end Rf

set_option Elab.async false
set_option linter.all false
set_option maxRecDepth 100000
namespace Rf
open PySem L2
theorem nvA_getD {ys : List Nat} {m y : Nat} (h : ys[m]? = some y) : (nv ys).getD m .non = .int (y : Int) := by
  rw [List.getD_eq_getElem?_getD, nv_get h]
  rfl
theorem index_idx {xs : List Nat} {x : Nat} (hx : x ∈ xs) :
    xs.idxOf x < (nv xs).length ∧ eqV ((nv xs).getD (xs.idxOf x) .non) (.int (x : Int)) = true ∧ ∀ m, m < xs.idxOf x → eqV ((nv xs).getD m .non) (.int (x : Int)) = false := by
  have hl : xs.idxOf x < xs.length := List.idxOf_lt_length_iff.mpr hx
  refine ⟨by rw [nv_length]; exact hl, ?_, fun m hm => ?_⟩
  · rw [nvA_getD (List.getElem?_eq_getElem hl), List.getElem_idxOf hl]
    simp [eqV]
  · have hm2 : m < xs.length := by omega
    rw [nvA_getD (List.getElem?_eq_getElem hm2)]
    have := List.not_of_lt_findIdx (p := (· == x)) (xs := xs) hm
    simp at this
    simp [eqV]
    omega
theorem atI_last {α : Type} {xs : List α} {v : α} (h : xs.getLast? = some v) : atI xs (-1) = some v := by
  have hne : xs ≠ [] := by intro e; rw [e] at h; cases h
  have hp := List.length_pos_iff.mpr hne
  unfold atI ixN
  rw [if_neg (by omega), if_pos (by omega)]
  rw [List.getLast?_eq_getElem?] at h
  have e : (-1 + (xs.length : Int)).toNat = xs.length - 1 := by omega
  rw [e]
  exact h
structure Rws (H H' : Hp) (l : Addr) (rs : List Addr) (L : List (List Nat)) : Prop where
  same : Same H H'
  lst : H' l = some (.lst (rs.map V.ref))
  new : H l = none
  len : rs.length = L.length
  nd : rs.Nodup
  at_ : ∀ (i : Nat) (r : Addr), rs[i]? = some r → H r = none ∧ r ≠ l ∧ H' r = some (.lst (nv (L.getD i [])))
section
variable {H H' : Hp} {l : Addr} {rs : List Addr} {L : List (List Nat)}
theorem Rws.add (R : Rws H H' l rs L) {p : Addr} {o : HO} (n : H' p = none) : Rws H (upd H' p o) l rs L where
  same := R.same.new n
  lst := by rw [upd_ne (ne_of_none R.lst n)]; exact R.lst
  new := R.new
  len := R.len
  nd := R.nd
  at_ := fun i r h => by
    obtain ⟨h1, h2, h3⟩ := R.at_ i r h
    exact ⟨h1, h2, by rw [upd_ne (ne_of_none h3 n)]; exact h3⟩
theorem Rws.last (R : Rws H H' l rs L) (hL : L ≠ []) : ∃ r, rs.getLast? = some r ∧ H r = none ∧ r ≠ l ∧ H' r = some (.lst (nv (L.getLastD []))) := by
  have hl := List.length_pos_iff.mpr hL
  have hr : rs ≠ [] := List.length_pos_iff.mp (by rw [R.len]; exact hl)
  have e := List.getLast?_eq_some_getLast hr
  refine ⟨_, e, ?_⟩
  rw [List.getLast?_eq_getElem?] at e
  obtain ⟨h1, h2, h3⟩ := R.at_ _ _ e
  refine ⟨h1, h2, ?_⟩
  rw [h3, List.getLastD_eq_getLast?, List.getLast?_eq_getElem?, List.getD_eq_getElem?_getD, R.len]
theorem nodup_last {xs : List Addr} (nd : xs.Nodup) {i : Nat} {r : Addr} (h : xs[i]? = some r) (hl : xs.getLast? = some r) : i = xs.length - 1 := by
  rw [List.getLast?_eq_getElem?] at hl
  have h1 := (List.getElem?_eq_some_iff.mp h).1
  have := (List.getElem?_inj h1 nd).mp (h.trans hl.symm)
  exact this
theorem Rws.grow (R : Rws H H' l rs L) (hL : L ≠ []) {r : Addr} (hr : rs.getLast? = some r) (c : Nat) : Rws H (upd H' r (.lst (nv (L.getLastD []) ++ [.int (c : Int)]))) l rs (addRow L true c) where
  same := by
    obtain ⟨r', e, h1, _⟩ := R.last hL
    rw [hr] at e; cases e
    exact R.same.upd h1
  lst := by
    obtain ⟨r', e, h1, h2, _⟩ := R.last hL
    rw [hr] at e; cases e
    rw [upd_ne (Ne.symm h2)]; exact R.lst
  new := R.new
  len := by
    rw [addRow_len hL]; exact R.len
  nd := R.nd
  at_ := fun i r' h => by
    obtain ⟨h1, h2, h3⟩ := R.at_ i r' h
    refine ⟨h1, h2, ?_⟩
    have hil := (List.getElem?_eq_some_iff.mp h).1
    have hLl := List.length_pos_iff.mpr hL
    have hlen := R.len
    have hdl : L.dropLast.length = L.length - 1 := List.length_dropLast
    by_cases hi : i = rs.length - 1
    · have er : r' = r := by
        rw [List.getLast?_eq_getElem?, ← hi, h] at hr
        exact Option.some.inj hr
      rw [er, upd_same]
      have : (addRow L true c).getD i [] = L.getLastD [] ++ [c] := by
        rw [addRow, if_pos rfl, List.getD_eq_getElem?_getD, List.getElem?_append_right (by omega)]
        have : i - L.dropLast.length = 0 := by omega
        rw [this]
        rfl
      rw [this]
      simp [nv]
    · have hne : r' ≠ r := fun e => hi (nodup_last R.nd h (by rw [e]; exact hr))
      rw [upd_ne hne, h3]
      have : (addRow L true c).getD i [] = L.getD i [] := by
        rw [addRow, if_pos rfl, List.getD_eq_getElem?_getD, List.getElem?_append_left (by omega), List.getD_eq_getElem?_getD, List.getElem?_dropLast, if_pos (by omega)]
      rw [this]
theorem Rws.more (R : Rws H H' l rs L) {r : Addr} (n : H' r = none) (ys : List Nat) : Rws H (upd (upd H' r (.lst (nv ys))) l (.lst (rs.map V.ref ++ [.ref r]))) l (rs ++ [r]) (L ++ [ys]) where
  same := (R.same.new n).upd R.new
  lst := by rw [upd_same, List.map_append]; rfl
  new := R.new
  len := by simp [R.len]
  nd := by
    rw [List.nodup_append]
    refine ⟨R.nd, by simp, fun a ha b hb => ?_⟩
    have : b = r := by simpa using hb
    subst this
    obtain ⟨i, hi⟩ := List.mem_iff_getElem?.mp ha
    exact ne_of_none (R.at_ i a hi).2.2 n
  at_ := fun i r' h => by
    by_cases hi : i < rs.length
    · rw [List.getElem?_append_left hi] at h
      obtain ⟨h1, h2, h3⟩ := R.at_ i r' h
      refine ⟨h1, h2, ?_⟩
      rw [upd_ne h2, upd_ne (ne_of_none h3 n), h3, List.getD_eq_getElem?_getD, List.getD_eq_getElem?_getD, List.getElem?_append_left (by rw [← R.len]; exact hi)]
    · rw [List.getElem?_append_right (by omega)] at h
      have hi0 : i - rs.length = 0 := by
        have := (List.getElem?_eq_some_iff.mp h).1
        simp at this
        omega
      rw [hi0] at h
      have : r = r' := by simpa using h
      subst this
      have nl : r ≠ l := Ne.symm (ne_of_none R.lst n)
      refine ⟨R.same.free n, nl, ?_⟩
      rw [upd_ne nl, upd_same, List.getD_eq_getElem?_getD, List.getElem?_append_right (by rw [← R.len]; omega), ← R.len, hi0]
      rfl
end
def spRows : Sp := fun vs H Q _ => ∃ (a : Addr) (xs : List Nat), vs = [.ref a] ∧ H a = some (.lst (nv xs)) ∧ Good xs ∧ ∀ l rs H', Rws H H' l rs (rowsOf xs) → Q (.ref l) H'
section
variable {P : Program} {w : World} {K : PySem.W.Frag} {mg : Str → Option Value} {base : Heap} {t : Adr}
theorem ok_rows {f : Addr} {fd : FuncData} (F : Fun K "rows" "rows" s_rows f fd) (T : Txt K mg t) (f_check_order : Fn1 P w K mg base 3 "check_order" spCheckOrder) : FnOk P w K mg base CX0 4 f fd ["order"] spRows := by
  refine F.okG sc_rows (fun vs H Q E h => ?_) (fun cdv A outer s H vs Q E hr h => ?_)
  · obtain ⟨a, xs, rfl, _⟩ := h
    rfl
  · obtain ⟨a, xs, rfl, ha, g, q⟩ := h
    have nd := sc_rows.nd
    have big : (1000 : Nat) < sizeLine := by decide
    have hl : (nv xs).length = xs.length := nv_length xs
    have hg1 := g.2.1
    have hg60 := g.2.2
    refine ⟨_, (pss_cons (ps_expr (pe_fn f_check_order hr (by rfl) (pa_cons (pv 0) pa_nil)))
 (pss_cons (ps_set (i := 1) nd rfl (Or.inl rfl) (pe_lst (pa_cons (pe_lst (pa_cons pe_int pa_nil)) pa_nil)))
 (pss_cons (ps_for PassesOwn.never rfl (pi_rng (pe_callTy call_rng2 (by rfl) T.no_range (show bootBuiltins "range" = some (.type "range") by decide +kernel) (pa_cons pe_int (pa_cons (pe_callB call_len_seq (by rfl) T.no_len (show bootBuiltins "len" = some (.builtin "len") by decide +kernel) (pa_cons (pv 0) pa_nil)) pa_nil)))) (pg_name (i := 2) nd rfl (Or.inl rfl))
 (pss_one (ps_if (pt_cmpR op_gt (pe_bm PySem.F.plainAttrs_list PySem.F.slot_list_index PySem.F.type_list_index mt_index (pv 0) (pa_cons (pv 2) pa_nil)) (pe_bm PySem.F.plainAttrs_list PySem.F.slot_list_index PySem.F.type_list_index mt_index (pv 0) (pa_cons (pe_op op_sub (pv 2) pe_int) pa_nil)) (nomark _))
 (pss_one (ps_expr (pe_bm PySem.F.plainAttrs_list PySem.F.slot_list_append PySem.F.type_list_append mt_append (pe_ix ix_list (pv 1) (pe_neg) (fun _ _ => rfl)) (pa_cons (pv 2) pa_nil))))
 (pss_one (ps_expr (pe_bm PySem.F.plainAttrs_list PySem.F.slot_list_append PySem.F.type_list_append mt_append (pv 1) (pa_cons (pe_lst (pa_cons (pv 2) pa_nil)) pa_nil)))))))
 (pss_one (ps_ret (pv 1)))))), ?_⟩
    refine ⟨_, rfl, a, xs, rfl, ha, g, (by decide), fun l1 h1 => ⟨(by show 1 ≤ sizeLine; decide), fun l2 h2 => ?_⟩⟩
    have R0 : Rws H (upd (upd H l1 (.lst [.int 0])) l2 (.lst [.ref l1])) l2 [l1] (rowsTo xs 0) := by
      have n2 := ((Same.refl H).new (o := .lst [.int 0]) h1).free h2
      have n12 : l1 ≠ l2 := ne_of_none upd_same h2
      refine ⟨((Same.refl H).new h1).new h2, upd_same, n2, rfl, by simp, fun i r h => ?_⟩
      cases i with
      | zero =>
        have : l1 = r := by simpa using h
        subst this
        exact ⟨h1, n12, by rw [upd_ne n12, upd_same]; rfl⟩
      | succ i => simp at h
    revert R0
    generalize upd (upd H l1 (.lst [.int 0])) l2 (.lst [.ref l1]) = H0
    intro R0
    refine ⟨_, rfl, _, _, rfl, .inl (SqL.of (R0.same _ _ ha)), _, _, rfl, fun r6 h6 => ?_⟩
    refine ⟨_, _, _, _, _, rfl, upd_same, rng_small (by decide) (by rw [hl]; omega) (by decide) (by decide), rng_up, ?_⟩
    rw [show (((nv xs).length : Int) - 1).toNat = xs.length - 1 by rw [hl]; omega]
    refine for_range3 (fun i σ H' => ∃ (rs : List Addr) (b : Option V), σ = [some (.ref a), some (.ref l2), b] ∧ Rws H H' l2 rs (rowsTo xs i))
      ⟨_, none, rfl, R0.add h6⟩ ?_ ?_
    · rintro i σ H' hi ⟨rs, b, rfl, R⟩
      have eV : (1 : Int) + (i : Int) * 1 = ((i + 1 : Nat) : Int) := by omega
      rw [eV]
      have eW : (((i + 1 : Nat) : Int) - 1) = ((i : Nat) : Int) := by omega
      have hA := R.same _ _ ha
      have m1 : i + 1 ∈ xs := g.1.mem_iff.mpr (List.mem_range.mpr (by omega))
      have m0 : i ∈ xs := g.1.mem_iff.mpr (List.mem_range.mpr (by omega))
      obtain ⟨a1, a2, a3⟩ := index_idx m1
      obtain ⟨b1, b2, b3⟩ := index_idx m0
      have hrl := rowsTo_le xs i
      refine ⟨_, rfl, .inl ⟨rfl, _, SqL.of hA⟩, _, rfl, _, _, _, _, rfl, rfl, SqL.of hA, rfl, nv_flat _, a1, a2, a3, _, rfl, .inl ⟨rfl, _, SqL.of hA⟩, _, rfl, _, _, rfl, rfl, _, _, _, xs.idxOf i, rfl, rfl, SqL.of hA, rfl, nv_flat _, b1, by show eqV _ (V.int (((i + 1 : Nat) : Int) - 1)) = true; rw [eW]; exact b2, by show ∀ m, m < xs.idxOf i → eqV _ (V.int (((i + 1 : Nat) : Int) - 1)) = false; rw [eW]; exact b3, _, _, rfl, rfl, _, rfl, ?_⟩
      have er : rowsTo xs (i + 1) = addRow (rowsTo xs i) (decide (xs.idxOf i < xs.idxOf (i + 1))) (i + 1) := rfl
      refine ite2 (fun hc => ?_) fun hc => ?_
      · have hc' : xs.idxOf i < xs.idxOf (i + 1) := by have := of_decide_eq_true hc; omega
        rw [decide_eq_true hc'] at er
        obtain ⟨r, e, n1, n2, n3⟩ := R.last (rowsTo_ne xs i)
        have hll : (L : List (List Nat)) → L ≠ [] → L.getLastD [] ∈ L := fun L h => by
          rw [List.getLastD_eq_getLast?, List.getLast?_eq_some_getLast h]
          exact List.getLast_mem h
        have hrow := row_le xs i _ (hll _ (rowsTo_ne xs i))
        refine ⟨_, rfl, _, _, _, _, rfl, rfl, SqL.of R.lst, atI_last (v := V.ref r) (by rw [List.getLast?_map, e]; rfl), .inl ⟨rfl, _, SqL.of n3⟩, _, rfl, _, _, _, rfl, rfl, n3, by rw [nv_length]; omega, ?_⟩
        refine ⟨rs, _, rfl, ?_⟩
        rw [er]
        exact R.grow (rowsTo_ne xs i) e (i + 1)
      · have hc' : ¬ xs.idxOf i < xs.idxOf (i + 1) := fun h => hc (decide_eq_true (by omega))
        rw [decide_eq_false hc'] at er
        refine ⟨_, rfl, .inl ⟨rfl, _, SqL.of R.lst⟩, _, rfl, (by show 1 ≤ sizeLine; decide), fun l66 h66 => ?_⟩
        have nl : l2 ≠ l66 := ne_of_none R.lst h66
        refine ⟨_, _, _, rfl, rfl, (by rw [upd_ne nl]; exact R.lst), by rw [List.length_map, R.len]; omega, ?_⟩
        refine ⟨rs ++ [l66], _, rfl, ?_⟩
        rw [er]
        exact R.more h66 [i + 1]
    · rintro σ H' ⟨rs, b, rfl, R⟩
      exact ⟨_, rfl, ⟨_, fun _ c => Gc.refl c, q l2 rs H' R⟩⟩
end
end Rf

set_option Elab.async false
set_option linter.all false
set_option maxRecDepth 100000
namespace Rf
open PySem L2
def spOw : Sp := fun vs H Q _ => ∃ n m : Nat, vs = [.int (n : Int), .int (m : Int)] ∧ 1 ≤ n ∧ n ≤ 60 ∧ m ≤ 60 ∧ Q (.int ((eulAt (n - 1)).getD m 0 : Nat)) H
theorem getD_get {L : List Nat} {i : Nat} (h : i < L.length) : L[i]? = some (L.getD i 0) := by simp [List.getD_eq_getElem?_getD, h]
section
variable {P : Program} {w : World} {K : PySem.W.Frag} {mg : Str → Option Value} {base : Heap} {t : Adr}
theorem ok_orders_with {f : Addr} {fd : FuncData} (F : Fun K "orders_with" "orders_with" s_orders_with f fd) (T : Txt K mg t) (f_check_cards : Fn1 P w K mg base 2 "check_cards" spCards) (f_is_number : Fn1 P w K mg base 1 "is_number" spNum) : FnOk P w K mg base CX0 3 f fd ["cards", "many"] spOw := by
  refine F.okG sc_orders_with (fun vs H Q E h => ?_) (fun cdv A outer s H vs Q E hr h => ?_)
  · obtain ⟨n, m, rfl, _⟩ := h
    rfl
  · obtain ⟨n, m, rfl, h1, h60, hm, q⟩ := h
    have nd := sc_orders_with.nd
    have big : (1000 : Nat) < sizeLine := by decide
    refine ⟨_, (pss_cons (ps_expr (pe_fn f_check_cards hr (by rfl) (pa_cons (pv 0) pa_nil)))
 (pss_cons (ps_if (pt_not (pt_val (pe_fn f_is_number hr (by rfl) (pa_cons (pv 1) (pa_cons pe_int (pa_cons (pe_globI rfl T.mg_MOST_CARDS) pa_nil))))))
 pss_never
 pss_nil)
 (pss_cons (ps_set (i := 2) nd rfl (Or.inl rfl) (pe_op op_cat (pe_lst (pa_cons pe_int (pa_cons pe_int pa_nil))) (pe_op op_rep (pe_lst (pa_cons pe_int pa_nil)) (pe_op op_sub (pe_globI rfl T.mg_MOST_CARDS) pe_int))))
 (pss_cons (ps_for PassesOwn.never rfl (pi_rng (pe_callTy call_rng2 (by rfl) T.no_range (show bootBuiltins "range" = some (.type "range") by decide +kernel) (pa_cons pe_int (pa_cons (pe_op op_add (pv 0) pe_int) pa_nil)))) (pg_name (i := 3) nd rfl (Or.inl rfl))
 (pss_cons (ps_set (i := 4) nd rfl (Or.inl rfl) (pe_lst (pa_cons pe_int pa_nil)))
 (pss_cons (ps_for PassesOwn.never rfl (pi_rng (pe_callTy call_rng2 (by rfl) T.no_range (show bootBuiltins "range" = some (.type "range") by decide +kernel) (pa_cons pe_int (pa_cons (pe_op op_add (pe_globI rfl T.mg_MOST_CARDS) pe_int) pa_nil)))) (pg_name (i := 5) nd rfl (Or.inl rfl))
 (pss_one (ps_expr (pe_bm PySem.F.plainAttrs_list PySem.F.slot_list_append PySem.F.type_list_append mt_append (pv 4) (pa_cons (pe_op op_add (pe_op op_mul (pv 5) (pe_ix ix_list (pv 2) (pv 5) (fun _ _ => rfl))) (pe_op op_mul (pe_op op_add (pe_op op_sub (pv 3) (pv 5)) pe_int) (pe_ix ix_list (pv 2) (pe_op op_sub (pv 5) pe_int) (fun _ _ => rfl)))) pa_nil)))))
 (pss_one (ps_set (i := 2) nd rfl (Or.inl rfl) (pv 4))))))
 (pss_one (ps_ret (pe_ix ix_list (pv 2) (pv 1) (fun _ _ => rfl)))))))), ?_⟩
    refine ⟨_, rfl, n, rfl, h1, h60, _, rfl, _, _, _, rfl, _, rfl, ?_⟩
    rw [decide_eq_true (by omega : (0 : Int) ≤ (m : Int)), decide_eq_true (by omega : (m : Int) ≤ 60)]
    refine iteF ?_
    refine ⟨(by decide), fun l1 k1 => ⟨(by decide), fun l2 k2 => ?_⟩⟩
    have n12 : l1 ≠ l2 := ne_of_none upd_same k2
    refine ⟨_, _, rfl, rfl, _, _, _, rfl, rfl, upd_same, by decide, by decide, by decide, fun l3 k3 => ?_⟩
    have s3 := Same.new (Same.refl _) (o := .lst (List.replicate (60 - 1 : Int).toNat [V.int 0]).flatten) k3
    refine ⟨_, _, _, _, rfl, rfl, s3 _ _ (by rw [upd_ne n12]; exact upd_same), upd_same, by decide, fun l9 k9 => ?_⟩
    have e9 := (((Same.refl H).new (o := .lst [.int 0, .int 1]) k1).new (o := .lst [.int 0]) k2).new k3 |>.new (o := .lst ([V.int 0, V.int 1] ++ (List.replicate (60 - 1 : Int).toNat [V.int 0]).flatten)) k9
    have hC9 : ([V.int 0, V.int 1] ++ (List.replicate (60 - 1 : Int).toNat [V.int 0]).flatten) = nv (eulAt 0) := by decide
    rw [hC9] at e9 ⊢
    have hL9 : upd (upd (upd (upd H l1 (.lst [.int 0, .int 1])) l2 (.lst [.int 0])) l3 (.lst (List.replicate (60 - 1 : Int).toNat [V.int 0]).flatten)) l9 (.lst (nv (eulAt 0))) l9 = some (.lst (nv (eulAt 0))) := upd_same
    revert e9 hL9
    generalize upd (upd (upd (upd H l1 (.lst [.int 0, .int 1])) l2 (.lst [.int 0])) l3 (.lst (List.replicate (60 - 1 : Int).toNat [V.int 0]).flatten)) l9 (.lst (nv (eulAt 0))) = H1
    intro e9 hL9
    refine ⟨_, rfl, _, _, rfl, rfl, _, _, rfl, fun r15 k15 => ?_⟩
    have e15 := Same.new (Same.refl H1) (o := rngO r15 2 ((n : Int) + 1) 1) k15
    refine ⟨_, _, _, _, _, rfl, upd_same, rng_small (by decide) ⟨by omega, by omega⟩ (by decide) (by decide), rng_up, ?_⟩
    rw [show (((n : Int) + 1) - 2).toNat = n - 1 by omega]
    refine for_range3 (fun i σ H' => ∃ (lc : Addr) (b c d : Option V), σ = [some (.int (n : Int)), some (.int (m : Int)), some (.ref lc), b, c, d] ∧ Same H H' ∧ H' lc = some (.lst (nv (eulAt i))))
      ⟨l9, none, none, none, rfl, e9.trans e15, e15 _ _ hL9⟩ ?_ ?_
    · rintro i σ H' hi ⟨lc, b, c, d, rfl, se, hC⟩
      have eV : (2 : Int) + (i : Int) * 1 = ((i + 2 : Nat) : Int) := by omega
      rw [eV]
      refine ⟨(by decide), fun lg kg => ?_⟩
      have s1 := Same.new (Same.refl H') (o := .lst [.int 0]) kg
      have ncg : lc ≠ lg := ne_of_none hC kg
      refine ⟨_, _, rfl, rfl, _, _, rfl, fun r24 k24 => ?_⟩
      have s2 := s1.new (o := rngO r24 1 (60 + 1) 1) k24
      have ngr : lg ≠ r24 := ne_of_none upd_same k24
      refine ⟨_, _, _, _, _, rfl, upd_same, rng_small (by decide) (by decide) (by decide) (by decide), rng_up, ?_⟩
      rw [show (((60 : Int) + 1) - 1).toNat = 60 by decide]
      refine for_range3 (fun j σ H'' => ∃ (d' : Option V), σ = [some (.int (n : Int)), some (.int (m : Int)), some (.ref lc), some (.int ((i + 2 : Nat) : Int)), some (.ref lg), d'] ∧ Same H' H'' ∧ H'' lg = some (.lst (nv ((eulAt (i + 1)).take (j + 1)))))
        ⟨d, rfl, s2, by rw [upd_ne ngr, upd_same]; rfl⟩ ?_ ?_
      · rintro j σ H'' hj ⟨d', rfl, s3, hG⟩
        have eW : (1 : Int) + (j : Int) * 1 = ((j + 1 : Nat) : Int) := by omega
        rw [eW]
        have hC2 := s3 _ _ hC
        have hl61 : (eulAt i).length = 61 := eulAt_len i
        have g1 : (nv (eulAt i))[j + 1]? = some (.int ((eulAt i).getD (j + 1) 0 : Nat)) := nv_get (getD_get (by omega))
        have g0 : (nv (eulAt i))[j]? = some (.int ((eulAt i).getD j 0 : Nat)) := nv_get (getD_get (by omega))
        have eX : (((j + 1 : Nat) : Int) - 1) = (j : Int) := by omega
        refine ⟨_, rfl, .inl ⟨rfl, _, SqL.of hG⟩, _, rfl, _, rfl, _, rfl, _, _, _, _, rfl, rfl, SqL.of hC2, atI_nat g1, _, _, rfl, rfl, .inl ⟨by omega, by omega⟩, _, rfl, _, rfl, _, _, rfl, rfl, _, _, rfl, rfl, _, rfl, _, rfl, _, _, rfl, rfl, _, _, _, _, rfl, rfl, SqL.of hC2, by rw [eX]; exact atI_nat g0, _, _, rfl, rfl, .inl ⟨by omega, by omega⟩, _, _, rfl, rfl, _, _, _, rfl, rfl, hG, by rw [nv_length, List.length_take]; omega, ?_⟩
        refine ⟨_, rfl, s3.upd (kg), ?_⟩
        rw [upd_same]
        show some (HO.lst (_ ++ [V.int (((j + 1 : Nat) : Int) * (((eulAt i).getD (j + 1) 0 : Nat) : Int) + (((i + 2 : Nat) : Int) - ((j + 1 : Nat) : Int) + 1) * (((eulAt i).getD j 0 : Nat) : Int))])) = _
        rw [← eul_int i j hj]
        have e5 : (eulAt (i + 1)).take (j + 1 + 1) = (eulAt (i + 1)).take (j + 1) ++ [(eulAt (i + 1)).getD (j + 1) 0] := by
          rw [List.take_add_one, getD_get (by rw [eulAt_len]; omega)]
          rfl
        rw [e5]
        simp [nv]
      · rintro σ H'' ⟨d', rfl, s3, hG⟩
        refine ⟨_, rfl, ?_⟩
        refine ⟨lg, _, _, _, rfl, se.trans s3, ?_⟩
        rw [hG, List.take_of_length_le (by rw [eulAt_len]; omega)]
    · rintro σ H' ⟨lc, b, c, d, rfl, se, hC⟩
      refine ⟨_, rfl, _, rfl, _, _, _, _, rfl, rfl, SqL.of hC, atI_nat (nv_get (getD_get (by rw [eulAt_len]; omega))), ?_⟩
      exact end_same se q
structure LL (H : Hp) (l : Addr) (rs : List Addr) (L : List (List Nat)) : Prop where
  lst : H l = some (.lst (rs.map V.ref))
  len : rs.length = L.length
  at_ : ∀ (i : Nat) (r : Addr), rs[i]? = some r → H r = some (.lst (nv (L.getD i [])))
end
end Rf

set_option Elab.async false
set_option linter.all false
set_option maxRecDepth 100000
set_option maxHeartbeats 1000000
namespace Rf
open PySem L2
def spChoices : Sp := fun vs H Q _ => ∃ u k : Nat, vs = [.int (u : Int), .int (k : Int)] ∧ u ≤ 1099511627776 ∧ k ≤ 60 ∧ Q (.int (chooseN u k : Nat)) H
def waysN (n r m : Nat) : Nat := chooseN (2 ^ m + n - r) n
def spWays : Sp := fun vs H Q _ => ∃ (a : Addr) (xs : List Nat) (m : Nat), vs = [.ref a, .int (m : Int)] ∧ H a = some (.lst (nv xs)) ∧ Good xs ∧ m ≤ 30 ∧ Q (.int (waysN xs.length (rowsOf xs).length m : Nat)) H
theorem choose_int (u k : Nat) : ((chooseTo u k : Nat) : Int) * ((u : Int) - (k : Int)) / ((k : Int) + 1) = ((chooseTo u (k + 1) : Nat) : Int) := by
  rw [chooseTo]
  by_cases h : k ≤ u
  · rw [show (u : Int) - (k : Int) = ((u - k : Nat) : Int) by omega, show (k : Int) + 1 = ((k + 1 : Nat) : Int) by omega, ← Int.natCast_mul, ← Int.natCast_ediv]
  · rw [chooseTo_zero k (by omega)]
    simp
section
variable {P : Program} {w : World} {K : PySem.W.Frag} {mg : Str → Option Value} {base : Heap} {t : Adr}
theorem ok_choices {f : Addr} {fd : FuncData} (F : Fun K "choices" "choices" s_choices f fd) (T : Txt K mg t) : FnOk P w K mg base CX0 1 f fd ["whole", "chosen"] spChoices := by
  refine F.okG sc_choices (fun vs H Q E h => ?_) (fun cdv A outer s H vs Q E hr h => ?_)
  · obtain ⟨u, k, rfl, _⟩ := h
    rfl
  · obtain ⟨u, k, rfl, hu40, hk, q⟩ := h
    have nd := sc_choices.nd
    refine ⟨_, (pss_cons (ps_set (i := 2) nd rfl (Or.inl rfl) pe_int)
 (pss_cons (ps_for PassesOwn.never rfl (pi_rng (pe_callTy call_rng1 (by rfl) T.no_range (show bootBuiltins "range" = some (.type "range") by decide +kernel) (pa_cons (pv 1) pa_nil))) (pg_name (i := 3) nd rfl (Or.inl rfl))
 (pss_one (ps_set (i := 2) nd rfl (Or.inl rfl) (pe_op op_fdiv (pe_op op_mul (pv 2) (pe_op op_sub (pv 0) (pv 3))) (pe_op op_add (pv 3) pe_int)))))
 (pss_one (ps_ret (pv 2))))), ?_⟩
    refine ⟨_, rfl, _, rfl, fun r3 k3 => ?_⟩
    have e3 := (Same.refl H).new (o := rngO r3 0 (k : Int) 1) k3
    refine ⟨_, _, _, _, _, rfl, upd_same, rng_small (by decide) ⟨by omega, by omega⟩ (by decide) (by decide), rng_up, ?_⟩
    rw [show ((k : Int) - 0).toNat = k by omega]
    refine for_range3 (fun i σ H' => ∃ b, σ = [some (.int (u : Int)), some (.int (k : Int)), some (.int (chooseTo u i : Nat)), b] ∧ H' = upd H r3 (rngO r3 0 (k : Int) 1)) ⟨none, rfl, rfl⟩ ?_ ?_
    · rintro i σ H' hi ⟨b, rfl, rfl⟩
      have eV : (0 : Int) + (i : Int) * 1 = (i : Int) := by omega
      rw [eV]
      refine ⟨_, rfl, _, rfl, _, rfl, _, _, rfl, rfl, _, _, rfl, rfl, .inr ⟨?_, ?_⟩, _, rfl, _, _, rfl, rfl, _, _, rfl, rfl, ⟨?_, ?_⟩, ?_⟩
      · show -(2 ^ 64 : Int) < (u : Int) - (i : Int); omega
      · show (u : Int) - (i : Int) < 2 ^ 64; omega
      · show (0 : Int) < (i : Int) + 1; omega
      · show (i : Int) + 1 < 1073741824; omega
      · refine ⟨some (V.int (i : Int)), ?_, rfl⟩
        show [some (V.int (u : Int)), some (V.int (k : Int)), some (V.int (((chooseTo u i : Nat) : Int) * ((u : Int) - (i : Int)) / ((i : Int) + 1))), some (V.int (i : Int))] = _
        rw [choose_int]
    · rintro σ H' ⟨b, rfl, rfl⟩
      refine ⟨_, rfl, ?_⟩
      rw [← chooseTo_eq]
      exact end_same e3 q
theorem ok_ways {f : Addr} {fd : FuncData} (F : Fun K "ways" "ways" s_ways f fd) (T : Txt K mg t) (f_check_order : Fn1 P w K mg base 3 "check_order" spCheckOrder) (f_is_number : Fn1 P w K mg base 1 "is_number" spNum) (f_rows : Fn1 P w K mg base 4 "rows" spRows) (f_choices : Fn1 P w K mg base 1 "choices" spChoices) : FnOk P w K mg base CX0 5 f fd ["order", "many"] spWays := by
  refine F.okG sc_ways (fun vs H Q E h => ?_) (fun cdv A outer s H vs Q E hr h => ?_)
  · obtain ⟨a, xs, m, rfl, _⟩ := h
    rfl
  · obtain ⟨a, xs, m, rfl, ha, g, hm, q⟩ := h
    have nd := sc_ways.nd
    have hg1 := g.2.1
    have hg60 := g.2.2
    have hl : (nv xs).length = xs.length := nv_length xs
    refine ⟨_, (pss_cons (ps_expr (pe_fn f_check_order hr (by rfl) (pa_cons (pv 0) pa_nil)))
 (pss_cons (ps_if (pt_not (pt_val (pe_fn f_is_number hr (by rfl) (pa_cons (pv 1) (pa_cons pe_int (pa_cons pe_int pa_nil))))))
 pss_never
 pss_nil)
 (pss_cons (ps_set (i := 2) nd rfl (Or.inl rfl) pe_int)
 (pss_cons (ps_for PassesOwn.never rfl (pi_rng (pe_callTy call_rng1 (by rfl) T.no_range (show bootBuiltins "range" = some (.type "range") by decide +kernel) (pa_cons (pv 1) pa_nil))) (pg_name (i := 3) nd rfl (Or.inl rfl))
 (pss_one (ps_set (i := 2) nd rfl (Or.inl rfl) (pe_op op_mul (pv 2) pe_int))))
 (pss_one (ps_ret (pe_fn f_choices hr (by rfl) (pa_cons (pe_op op_sub (pe_op op_add (pv 2) (pe_callB call_len_seq (by rfl) T.no_len (show bootBuiltins "len" = some (.builtin "len") by decide +kernel) (pa_cons (pv 0) pa_nil))) (pe_callB call_len_seq (by rfl) T.no_len (show bootBuiltins "len" = some (.builtin "len") by decide +kernel) (pa_cons (pe_fn f_rows hr (by rfl) (pa_cons (pv 0) pa_nil)) pa_nil))) (pa_cons (pe_callB call_len_seq (by rfl) T.no_len (show bootBuiltins "len" = some (.builtin "len") by decide +kernel) (pa_cons (pv 0) pa_nil)) pa_nil))))))))), ?_⟩
    refine ⟨_, rfl, a, xs, rfl, ha, g, _, rfl, _, _, _, rfl, _, rfl, ?_⟩
    rw [decide_eq_true (by omega : (0 : Int) ≤ (m : Int)), decide_eq_true (by omega : (m : Int) ≤ 30)]
    refine iteF ?_
    refine ⟨_, rfl, _, rfl, fun r3 k3 => ?_⟩
    have e3 := (Same.refl H).new (o := rngO r3 0 (m : Int) 1) k3
    refine ⟨_, _, _, _, _, rfl, upd_same, rng_small (by decide) ⟨by omega, by omega⟩ (by decide) (by decide), rng_up, ?_⟩
    rw [show ((m : Int) - 0).toNat = m by omega]
    refine for_range3 (fun i σ H' => ∃ b, σ = [some (.ref a), some (.int (m : Int)), some (.int (2 ^ i : Nat)), b] ∧ H' = upd H r3 (rngO r3 0 (m : Int) 1)) ⟨none, rfl, rfl⟩ ?_ ?_
    · rintro i σ H' hi ⟨b, rfl, rfl⟩
      refine ⟨_, rfl, _, _, rfl, rfl, .inr ⟨by decide, by decide⟩, ?_⟩
      refine ⟨some (V.int (0 + (i : Int) * 1)), ?_, rfl⟩
      · show [some (V.ref a), some (V.int (m : Int)), some (V.int (((2 ^ i : Nat) : Int) * 2)), some (V.int (0 + (i : Int) * 1))] = _
        rw [show ((2 ^ i : Nat) : Int) * 2 = ((2 ^ (i + 1) : Nat) : Int) by rw [Nat.pow_succ]; push_cast; rfl]
    · rintro σ H' ⟨b, rfl, rfl⟩
      have hA := e3 _ _ ha
      have hr60 : (rowsOf xs).length ≤ xs.length := by have := rowsTo_le xs (xs.length - 1); unfold rowsOf; omega
      have hp : 2 ^ m ≤ 2 ^ 30 := Nat.pow_le_pow_right (by decide) hm
      have h30 : (2 : Nat) ^ 30 = 1073741824 := by decide
      have hcast : ∀ z n r : Nat, r ≤ n → ((z : Nat) : Int) + (n : Int) - (r : Int) = ((z + n - r : Nat) : Int) := fun z n r h => by omega
      rw [h30] at hp
      refine ⟨_, rfl, _, rfl, _, _, rfl, .inl (SqL.of hA), _, _, rfl, rfl, _, rfl, a, xs, rfl, hA, g, fun l rs H2 R => ?_⟩
      refine ⟨_, _, rfl, .inl (SqL.of R.lst), _, _, rfl, rfl, _, rfl, _, _, rfl, .inl (SqL.of (R.same _ _ hA)), 2 ^ m + xs.length - (rowsOf xs).length, xs.length, ?_, ?_, hg60, ?_⟩
      · show [V.int (((2 ^ m : Nat) : Int) + ((nv xs).length : Int) - ((rs.map V.ref).length : Int)), V.int ((nv xs).length : Int)] ++ [] = _
        rw [hl, List.length_map, R.len, hcast _ _ _ hr60]
        rfl
      · show 2 ^ m + xs.length - (rowsOf xs).length ≤ 1099511627776
        generalize 2 ^ m = z at hp ⊢
        omega
      exact end_same (e3.trans R.same) q
end
end Rf

set_option Elab.async false
set_option linter.all false
set_option maxRecDepth 100000
set_option maxHeartbeats 1000000
namespace Rf
open PySem L2
section
variable {P : Program} {w : World} {K : PySem.W.Frag} {mg : Str → Option Value} {base : Heap} {t : Adr}
structure Wvs (t : Adr) (H H' : Hp) (l : Addr) (ms : List Addr) (bs : List Nat) : Prop where
  same : Same H H'
  new : H l = none
  lst : H' l = some (.lst (ms.map V.ref))
  len : ms.length = bs.length
  at_ : ∀ (i : Nat) (r : Addr), ms[i]? = some r → r ≠ l ∧ IsMv t H' r (.weave (bs.getD i 0))
theorem Wvs.keep {H H' H'' : Hp} {l : Addr} {ms : List Addr} {bs : List Nat} (x : Wvs t H H' l ms bs) (s : Same H' H'') : Wvs t H H'' l ms bs :=
  ⟨x.same.trans s, x.new, s _ _ x.lst, x.len, fun i r h => by obtain ⟨h1, dx, h2⟩ := x.at_ i r h; exact ⟨h1, dx, s _ _ h2⟩⟩
def spBrought (t : Adr) : Sp := fun vs H Q _ => ∃ n p : Nat, vs = [.int (n : Int), .int (p : Int)] ∧ 2 ≤ n ∧ n ≤ 60 ∧ n % 2 = 0 ∧ p < n ∧ ∀ l ms H', Wvs t H H' l ms (bitsOf p) → Q (.ref l) H'
def brInv (t : Adr) (H : Hp) (n p : Nat) (l : Addr) (m : Nat) (σ : St) (H' : Hp) : Prop := ∃ (ms : List Addr) (bs : List Nat), bitsOf p = bitsOf m ++ bs ∧ m ≤ p ∧ σ = [some (.int (n : Int)), some (.int (p : Int)), some (.ref l), some (.int (m : Int))] ∧ Wvs t H H' l ms bs ∧ ms.length ≤ 60
theorem ok_brought {f : Addr} {fd : FuncData} (F : Fun K "brought" "brought" s_brought f fd) (T : Txt K mg t) (f_is_number : Fn1 P w K mg base 1 "is_number" spNum) (k_Weave : Mk1 P w K mg base 3 "Weave" t.weave (spInit1 t vWeave isWeave)) : FnOk P w K mg base CX0 5 f fd ["cards", "place"] (spBrought t) := by
  refine F.okG sc_brought (fun vs H Q E h => ?_) (fun cdv A outer s H vs Q E hr h => ?_)
  · obtain ⟨n, p, rfl, _⟩ := h
    rfl
  · obtain ⟨n, p, rfl, h2, h60, hev, hp, q⟩ := h
    have nd := sc_brought.nd
    have big : (1000 : Nat) < sizeLine := by decide
    refine ⟨_, (pss_cons (ps_if (PW.pt (pw_or (pt_not (pt_val (pe_fn f_is_number hr (by rfl) (pa_cons (pv 0) (pa_cons pe_int (pa_cons (pe_globI rfl T.mg_MOST_CARDS) pa_nil)))))) (pw_or1 (pt_cmpR op_eq (pe_op op_mod (pv 0) pe_int) pe_int (nomark _)))))
 pss_never
 pss_nil)
 (pss_cons (ps_if (pt_not (pt_val (pe_fn f_is_number hr (by rfl) (pa_cons (pv 1) (pa_cons pe_int (pa_cons (pe_op op_sub (pv 0) pe_int) pa_nil))))))
 pss_never
 pss_nil)
 (pss_cons (ps_set (i := 2) nd rfl (Or.inl rfl) (pe_lst pa_nil))
 (pss_cons (ps_set (i := 3) nd rfl (Or.inl rfl) (pv 1))
 (pss_cons (ps_while PassesOwn.never (pt_cmpR op_gt (pv 3) pe_int (nomark _))
 (pss_cons (ps_expr (pe_bm PySem.F.plainAttrs_list PySem.F.slot_list_insert PySem.F.type_list_insert mt_insert0 (pv 2) (pa_cons pe_int (pa_cons (pe_mk k_Weave hr (by rfl) (pa_cons (pe_op op_mod (pv 3) pe_int) pa_nil)) pa_nil))))
 (pss_one (ps_set (i := 3) nd rfl (Or.inl rfl) (pe_op op_fdiv (pv 3) pe_int)))))
 (pss_one (ps_ret (pv 2)))))))), ?_⟩
    refine ⟨_, rfl, _, _, _, rfl, _, rfl, ?_⟩
    rw [decide_eq_true (by omega : (2 : Int) ≤ (n : Int)), decide_eq_true (by omega : (n : Int) ≤ 60)]
    refine iteF ?_
    refine ⟨_, rfl, _, _, rfl, rfl, (by show (0 : Int) < 2; decide), rfl, _, rfl, ?_⟩
    rw [show decide (V.int ((n : Int) % 2) = V.int 1) = false from decide_eq_false (fun e => by injection e with e; omega)]
    refine iteF ?_
    refine ⟨_, rfl, _, rfl, _, _, rfl, rfl, _, _, _, rfl, _, rfl, ?_⟩
    rw [decide_eq_true (by omega : (0 : Int) ≤ (p : Int)), show decide ((p : Int) ≤ (n : Int) - 1) = true from decide_eq_true (by omega)]
    refine iteF ?_
    refine ⟨(by decide), fun l11 k11 => ?_⟩
    have e1 := (Same.refl H).new (o := .lst []) k11
    refine ⟨_, rfl, ?_⟩
    refine ⟨brInv t H n p l11, ⟨p, [], [], by simp, Nat.le_refl _, rfl, ⟨e1, k11, upd_same, rfl, fun i r h => by simp at h⟩, by simp⟩, ?_⟩
    rintro m σ H' ⟨ms, bs, hb, hmp, rfl, W, hms⟩
    refine ⟨_, rfl, _, _, rfl, rfl, _, rfl, ?_⟩
    refine ite2 (fun hc => ?_) fun hc => ?_
    · have hm0 : 0 < m := by have := of_decide_eq_true hc; omega
      refine ⟨fun σ' H'' => ∃ m', m' < m ∧ brInv t H n p l11 m' σ' H'', fun _ _ h => h, ?_⟩
      refine ⟨_, rfl, .inl ⟨rfl, _, SqL.of W.lst⟩, _, rfl, _, _, rfl, rfl, (by show (0 : Int) < 2; decide), ?_⟩
      intro x dx nx ndx nex
      have okm : (Mv.weave (m % 2)).ok := by show m % 2 ≤ 1; omega
      refine ⟨x, dx, .weave (m % 2), trivial, ?_, okm, upd_same, rfl, ?_⟩
      · show [V.ref x, V.int ((m : Int) % 2)] ++ [] = [V.ref x, V.int ((m % 2 : Nat) : Int)]
        rw [show (m : Int) % 2 = ((m % 2 : Nat) : Int) by omega]
        rfl
      rw [upd_upd]
      have s2 := (Same.new (Same.refl H') (o := .own x) ndx).new (o := .ins (Mv.cls t (.weave (m % 2))) dx (Mv.flds (.weave (m % 2)))) (by rw [upd_ne (Ne.symm nex)]; exact nx)
      have hx : IsMv t (upd (upd H' dx (.own x)) x (.ins (Mv.cls t (.weave (m % 2))) dx (Mv.flds (.weave (m % 2))))) x (.weave (m % 2)) := ⟨dx, upd_same⟩
      have nxl : x ≠ l11 := Ne.symm (ne_of_none W.lst nx)
      have W2 := W.keep s2
      revert hx W2
      generalize upd (upd H' dx (.own x)) x (.ins (Mv.cls t (.weave (m % 2))) dx (Mv.flds (.weave (m % 2)))) = H2
      intro hx W2
      refine ⟨_, _, _, rfl, rfl, W2.lst, by rw [List.length_map]; omega, ?_⟩
      refine ⟨_, rfl, _, _, rfl, rfl, ⟨by decide, by decide⟩, ?_⟩
      have hlen : ms.length + 1 ≤ 60 := by
        have h1 := bitsOf_len p 6 (by omega)
        rw [hb, List.length_append, bitsOf_pos hm0, List.length_append, W.len.symm] at h1
        simp at h1
        omega
      refine ⟨m / 2, by omega, x :: ms, m % 2 :: bs, ?_, by omega, ?_, ⟨W2.same.upd W2.new, W2.new, upd_same, by simp [W.len], fun i r h => ?_⟩, hlen⟩
      · rw [hb, bitsOf_pos hm0]
        simp
      · show [some (V.int (n : Int)), some (V.int (p : Int)), some (V.ref l11), some (V.int ((m : Int) / 2))] = _
        rw [show (m : Int) / 2 = ((m / 2 : Nat) : Int) by omega]
      · cases i with
        | zero =>
          have : x = r := by simpa using h
          subst this
          obtain ⟨dx', h'⟩ := hx
          exact ⟨nxl, dx', by rw [upd_ne nxl]; exact h'⟩
        | succ i =>
          obtain ⟨h1, dx', h'⟩ := W2.at_ i r (by simpa using h)
          exact ⟨h1, dx', by rw [upd_ne h1]; exact h'⟩
    · have hm0 : m = 0 := by
        have : ¬ (0 : Int) < (m : Int) := fun h => hc (decide_eq_true h)
        omega
      subst hm0
      rw [bitsOf_zero, List.nil_append] at hb
      rw [← hb] at W
      exact ⟨_, rfl, ⟨_, fun _ c => Gc.refl c, q l11 ms H' W⟩⟩
end
end Rf

set_option Elab.async false
set_option linter.all false
set_option maxRecDepth 100000
set_option maxHeartbeats 1000000
namespace Rf
open PySem L2
structure XA where
  (pack order move number text : Addr)
inductive Rz where
  | o | m | n
def XA.at_ (u : XA) : Rz → Addr
  | .o => u.order | .m => u.move | .n => u.number
def kindsB : Rz → List Bool
  | .o => [true, false, false, false, true] | .m => [false, true, false, false, true] | .n => [false, false, true, false, true]
structure ExcTxt (K : PySem.W.Frag) (mg : Str → Option Value) (u : XA) : Prop where
  mg_PackError : mg "PackError" = some (.ref u.pack)
  mg_BadOrder : mg "BadOrder" = some (.ref u.order)
  mg_BadMove : mg "BadMove" = some (.ref u.move)
  mg_BadNumber : mg "BadNumber" = some (.ref u.number)
  mg_BadText : mg "BadText" = some (.ref u.text)
  no_ValueError : mg "ValueError" = none
  c_PackError : ExcCl K u.pack
  c_at : ∀ r, ExcCl K (u.at_ r)
  m_pack : ∀ r, PySem.W.mroIn K (u.at_ r) (.ref u.pack) = some true
  k_order : ∀ r, PySem.W.kitOne K (.ref (u.at_ r)) (.ref u.order) = some ((kindsB r).getD 0 false)
  k_move : ∀ r, PySem.W.kitOne K (.ref (u.at_ r)) (.ref u.move) = some ((kindsB r).getD 1 false)
  k_number : ∀ r, PySem.W.kitOne K (.ref (u.at_ r)) (.ref u.number) = some ((kindsB r).getD 2 false)
  k_text : ∀ r, PySem.W.kitOne K (.ref (u.at_ r)) (.ref u.text) = some false
  k_value : ∀ r, PySem.W.kitOne K (.ref (u.at_ r)) (.type "ValueError") = some true
theorem ExcTxt.c_BadOrder {K : PySem.W.Frag} {mg : Str → Option Value} {u : XA} (Z : ExcTxt K mg u) : ExcCl K u.order := Z.c_at .o
theorem ExcTxt.c_BadMove {K : PySem.W.Frag} {mg : Str → Option Value} {u : XA} (Z : ExcTxt K mg u) : ExcCl K u.move := Z.c_at .m
theorem ExcTxt.c_BadNumber {K : PySem.W.Frag} {mg : Str → Option Value} {u : XA} (Z : ExcTxt K mg u) : ExcCl K u.number := Z.c_at .n
structure NoMv (K : PySem.W.Frag) (t : Adr) : Prop where
  non : PySem.W.kitOne K (.type "NoneType") (.ref t.move) = some false
  str : PySem.W.kitOne K (.type "str") (.ref t.move) = some false
  int : PySem.W.kitOne K (.type "int") (.ref t.move) = some false
  list : PySem.W.kitOne K (.type "list") (.ref t.move) = some false
  dict : PySem.W.kitOne K (.type "dict") (.ref t.move) = some false
def spR (u : XA) (bad : Rz → List V → Hp → Prop) : Sp := fun vs H _ E => ∃ r, bad r vs H ∧ ∀ H', Same H H' → E (.ref (u.at_ r)) none H'
section
variable {K : PySem.W.Frag} {H H' : Hp} {v : V} {ty : Value} {t : Adr}
theorem ty_keep (s : Same H H') (h : TyOf K H v ty) : TyOf K H' v ty := by
  cases h with
  | non => exact .non
  | bl x => exact .bl x
  | int i => exact .int i
  | str x => exact .str x
  | flt x => exact .flt x
  | lst e => exact .lst (s _ _ e)
  | frz e => exact .frz (s _ _ e)
  | tup e => exact .tup (s _ _ e)
  | dK e => exact .dK (s _ _ e)
  | ins e cl ha hn htk hm => exact .ins (s _ _ e) cl ha hn htk hm
def NoTy (K : PySem.W.Frag) (H : Hp) (v : V) (c : Value) : Prop := ∃ ty, TyOf K H v ty ∧ PySem.W.kitOne K ty c = some false
theorem NoTy.keep {c : Value} (h : NoTy K H v c) (s : Same H H') : NoTy K H' v c := by
  obtain ⟨ty, a, b⟩ := h
  exact ⟨ty, ty_keep s a, b⟩
def NotInt (K : PySem.W.Frag) (H : Hp) (v : V) : Prop := (∀ i, v ≠ .int i) ∧ ∃ ty, TyOf K H v ty ∧ (PySem.W.kitOne K ty (.type "bool") = some true ∨ (PySem.W.kitOne K ty (.type "bool") = some false ∧ PySem.W.kitOne K ty (.type "int") = some false))
theorem NotInt.keep (h : NotInt K H v) (s : Same H H') : NotInt K H' v := by
  obtain ⟨n, ty, a, b⟩ := h
  exact ⟨n, ty, ty_keep s a, b⟩
theorem ni_non : NotInt K H .non := ⟨(fun _ z => by cases z), _, .non, .inr ⟨rfl, rfl⟩⟩
theorem ni_bl (b : Bool) : NotInt K H (.bl b) := ⟨(fun _ z => by cases z), _, .bl b, .inl rfl⟩
theorem ni_str (z : Str) : NotInt K H (.str z) := ⟨(fun _ z => by cases z), _, .str z, .inr ⟨rfl, rfl⟩⟩
theorem ni_lst {a : Addr} {xs : List V} (e : H a = some (.lst xs)) : NotInt K H (.ref a) := ⟨(fun _ z => by cases z), _, .lst e, .inr ⟨rfl, rfl⟩⟩
theorem ni_tup {a : Addr} {xs : List V} (e : H a = some (.tup xs)) : NotInt K H (.ref a) := ⟨(fun _ z => by cases z), _, .tup e, .inr ⟨rfl, rfl⟩⟩
def Known (K : PySem.W.Frag) (H : Hp) (v : V) : Prop := (∃ i, v = .int i) ∨ NotInt K H v
theorem Known.keep (h : Known K H v) (s : Same H H') : Known K H' v := by
  rcases h with h | h
  · exact .inl h
  · exact .inr (h.keep s)
def goodB (v : V) (lo hi : Int) : Bool := match v with | .int i => decide (lo ≤ i) && decide (i ≤ hi) | _ => false
theorem goodB_not (h : NotInt K H v) (lo hi : Int) : goodB v lo hi = false := by
  cases v with
  | int i => exact absurd rfl (h.1 i)
  | _ => rfl
def BadNum (K : PySem.W.Frag) (H : Hp) (v : V) (lo hi : Int) : Prop := Known K H v ∧ goodB v lo hi = false
theorem BadNum.keep {lo hi : Int} (h : BadNum K H v lo hi) (s : Same H H') : BadNum K H' v lo hi := ⟨h.1.keep s, h.2⟩
theorem NotInt.bad {lo hi : Int} (h : NotInt K H v) : BadNum K H v lo hi := ⟨.inr h, goodB_not h lo hi⟩
theorem bad_int {i lo hi : Int} (h : ¬ (lo ≤ i ∧ i ≤ hi)) : BadNum K H (.int i) lo hi := by
  refine ⟨.inl ⟨i, rfl⟩, ?_⟩
  show (decide (lo ≤ i) && decide (i ≤ hi)) = false
  cases e : (decide (lo ≤ i) && decide (i ≤ hi)) with
  | false => rfl
  | true =>
    rw [Bool.and_eq_true] at e
    exact absurd ⟨of_decide_eq_true e.1, of_decide_eq_true e.2⟩ h
theorem good_int {i lo hi : Int} (h : lo ≤ i ∧ i ≤ hi) : goodB (.int i) lo hi = true := by
  show (decide (lo ≤ i) && decide (i ≤ hi)) = true
  rw [decide_eq_true h.1, decide_eq_true h.2]
  rfl
def BadOrd (K : PySem.W.Frag) (H : Hp) (v : V) : Prop := NoTy K H v (.type "list") ∨ ∃ (l : Addr) (xs : List V), v = .ref l ∧ H l = some (.lst xs) ∧ xs.length ≤ 1000 ∧ (∀ x ∈ xs, Known K H x) ∧
  ((xs.length = 0 ∨ 60 < xs.length) ∨ (1 ≤ xs.length ∧ xs.length ≤ 60 ∧ ∃ x ∈ xs, goodB x 0 ((xs.length : Int) - 1) = false) ∨ xs = [.int 0, .int 0])
theorem BadOrd.keep (h : BadOrd K H v) (s : Same H H') : BadOrd K H' v := by
  rcases h with h | ⟨l, xs, e, hl, hz, kn, r⟩
  · exact .inl (h.keep s)
  · exact .inr ⟨l, xs, e, s _ _ hl, hz, fun x hx => (kn x hx).keep s, r⟩
def BadWord (K : PySem.W.Frag) (H : Hp) (v : V) : Prop := NoTy K H v (.type "str") ∨ ∃ z : Str, v = .str z ∧ z.length ≤ 1000 ∧ ((z.length = 0 ∨ 60 < z.length) ∨ (1 ≤ z.length ∧ z.length ≤ 60 ∧ z.cps.toList.count 97 + z.cps.toList.count 98 ≠ z.length))
theorem BadWord.keep (h : BadWord K H v) (s : Same H H') : BadWord K H' v := by
  rcases h with h | h
  · exact .inl (h.keep s)
  · exact .inr h
def NoMove (K : PySem.W.Frag) (t : Adr) (H : Hp) (v : V) : Prop := NoTy K H v (.ref t.move)
theorem NoMove.keep (h : NoMove K t H v) (s : Same H H') : NoMove K t H' v := NoTy.keep h s
theorem mv_keep {p : Addr} {mv : Mv} (h : IsMv t H p mv) (s : Same H H') : IsMv t H' p mv := by
  obtain ⟨dx, h⟩ := h
  exact ⟨dx, s _ _ h⟩
def BadMoves (K : PySem.W.Frag) (t : Adr) (H : Hp) (v : V) : Prop := NoTy K H v (.type "list") ∨ ∃ (l : Addr) (xs : List V) (n : Nat) (b : V), v = .ref l ∧ H l = some (.lst xs) ∧ xs[n]? = some b ∧ NoMove K t H b ∧ ∀ j y, j < n → xs[j]? = some y → ∃ p mv, y = .ref p ∧ IsMv t H p mv
theorem BadMoves.keep (h : BadMoves K t H v) (s : Same H H') : BadMoves K t H' v := by
  rcases h with h | ⟨l, xs, n, b, e, hl, hn, nb, r⟩
  · exact .inl (h.keep s)
  · refine .inr ⟨l, xs, n, b, e, s _ _ hl, hn, nb.keep s, fun j y hj hy => ?_⟩
    obtain ⟨p, mv, e1, e2⟩ := r j y hj hy
    exact ⟨p, mv, e1, mv_keep e2 s⟩
end
def badN (K : PySem.W.Frag) (c : Rz) (lo hi : Int) : Rz → List V → Hp → Prop := fun r vs H => r = c ∧ ∃ v, vs = [v] ∧ BadNum K H v lo hi
def badO (K : PySem.W.Frag) : Rz → List V → Hp → Prop := fun r vs H => r = .o ∧ ∃ v, vs = [v] ∧ BadOrd K H v
def badM (K : PySem.W.Frag) (t : Adr) : Rz → List V → Hp → Prop := fun r vs H => r = .m ∧ ∃ v, vs = [v] ∧ NoMove K t H v
def badI (K : PySem.W.Frag) (bad : Hp → V → Prop) : Rz → List V → Hp → Prop := fun r vs H => r = .m ∧ ∃ p v, vs = [p, v] ∧ bad H v
def badSrc (t : Adr) (mv : Mv) : Rz → List V → Hp → Prop := fun r vs H => r = .m ∧ ∃ (p : Addr) (n : Nat), vs = [.ref p, .int (n : Int)] ∧ IsMv t H p mv ∧ mv.ok ∧ ¬ mv.fits n
section
variable {P : Program} {w : World} {K : PySem.W.Frag} {mg : Str → Option Value} {base : Heap} {t : Adr} {u : XA}
def spNumAny (K : PySem.W.Frag) : Sp := fun vs H Q _ => ∃ (v : V) (lo hi : Int), vs = [v, .int lo, .int hi] ∧ Known K H v ∧ Q (.bl (goodB v lo hi)) H
theorem okn_is_number {f : Addr} {fd : FuncData} (F : Fun K "is_number" "is_number" s_is_number f fd) (T : Txt K mg t) : FnOk P w K mg base CX0 1 f fd ["value", "least", "most"] (spNumAny K) := by
  refine F.okG sc_is_number (fun vs H Q E h => ?_) (fun cdv A outer s H vs Q E hr h => ?_)
  · obtain ⟨v, lo, hi, rfl, _⟩ := h
    rfl
  · obtain ⟨v, lo, hi, rfl, kn, q⟩ := h
    refine ⟨_, (pss_cons (ps_if (PW.pt (pw_or (pt_val (pe_callB call_isi (by rfl) T.no_isinstance (show bootBuiltins "isinstance" = some (.builtin "isinstance") by decide +kernel) (pa_cons (pv 0) (pa_cons (pe_bltn (v := .ty "bool") rfl T.no_bool (show bootBuiltins "bool" = some (.type "bool") by decide +kernel) rfl) pa_nil)))) (pw_or1 (pt_not (pt_val (pe_callB call_isi (by rfl) T.no_isinstance (show bootBuiltins "isinstance" = some (.builtin "isinstance") by decide +kernel) (pa_cons (pv 0) (pa_cons (pe_bltn (v := .ty "int") rfl T.no_int (show bootBuiltins "int" = some (.type "int") by decide +kernel) rfl) pa_nil))))))))
 (pss_one (ps_ret pe_bl))
 pss_nil)
 (pss_one (ps_ret (pe_and (pe_cmpR op_ge (pv 0) (pv 1) (nomark _)) (pe_one (pe_cmpR op_le (pv 0) (pv 2) (nomark _))))))), ?_⟩
    rcases kn with ⟨i, rfl⟩ | ni
    · refine ⟨_, rfl, _, _, _, _, rfl, .int i, .inl ⟨_, rfl⟩, kit_int_bool, _, rfl, ?_⟩
      refine iteF ?_
      refine ⟨_, rfl, _, _, _, _, rfl, .int i, .inl ⟨_, rfl⟩, kit_int_int, _, rfl, ?_⟩
      refine iteF ?_
      refine ⟨_, rfl, _, rfl, _, _, rfl, rfl, _, rfl, ?_⟩
      have q' : Q (.bl (decide (lo ≤ i) && decide (i ≤ hi))) H := q
      refine ite2 (fun c => ?_) fun c => ?_
      · refine ⟨_, rfl, _, rfl, _, _, rfl, rfl, ?_⟩
        refine end_same (Same.refl H) ?_
        rw [c, Bool.true_and] at q'
        exact q'
      · refine end_same (Same.refl H) ?_
        rw [Bool.not_eq_true] at c
        rw [c, Bool.false_and] at q'
        exact q'
    · rw [goodB_not ni lo hi] at q
      obtain ⟨_, ty, hty, alt⟩ := ni
      rcases alt with h1 | ⟨h1, h2⟩
      · refine ⟨_, rfl, _, _, _, _, rfl, hty, .inl ⟨_, rfl⟩, h1, _, rfl, ?_⟩
        refine iteT ?_
        refine iteT ?_
        exact end_same (Same.refl H) q
      · refine ⟨_, rfl, _, _, _, _, rfl, hty, .inl ⟨_, rfl⟩, h1, _, rfl, ?_⟩
        refine iteF ?_
        refine ⟨_, rfl, _, _, _, _, rfl, hty, .inl ⟨_, rfl⟩, h2, _, rfl, ?_⟩
        refine iteT ?_
        exact end_same (Same.refl H) q
def spOrdBad (K : PySem.W.Frag) : Sp := fun vs H Q _ => ∃ v, vs = [v] ∧ BadOrd K H v ∧ Q (.bl false) H
theorem okn_is_order {f : Addr} {fd : FuncData} (F : Fun K "is_order" "is_order" s_is_order f fd) (T : Txt K mg t) (f_is_number : Fn1 P w K mg base 1 "is_number" (spNumAny K)) : FnOk P w K mg base CX0 2 f fd ["value"] (spOrdBad K) := by
  refine F.okG sc_is_order (fun vs H Q E h => ?_) (fun cdv A outer s H vs Q E hr h => ?_)
  · obtain ⟨v, rfl, _⟩ := h
    rfl
  · obtain ⟨v, rfl, hb, q⟩ := h
    refine ⟨_, (pss_cons (ps_if (PW.pt (pw_or (pt_not (pt_val (pe_callB call_isi (by rfl) T.no_isinstance (show bootBuiltins "isinstance" = some (.builtin "isinstance") by decide +kernel) (pa_cons (pv 0) (pa_cons (pe_bltn (v := .ty "list") rfl T.no_list (show bootBuiltins "list" = some (.type "list") by decide +kernel) rfl) pa_nil))))) (pw_or1 (pt_not (pt_val (pe_fn f_is_number hr (by rfl) (pa_cons (pe_callB call_len_seq (by rfl) T.no_len (show bootBuiltins "len" = some (.builtin "len") by decide +kernel) (pa_cons (pv 0) pa_nil)) (pa_cons pe_int (pa_cons (pe_globI rfl T.mg_MOST_CARDS) pa_nil)))))))))
 (pss_one (ps_ret pe_bl))
 pss_nil)
 (pss_cons (ps_if (pt_not (pt_val (pe_callB (call_all rfl) (by rfl) T.no_all (show bootBuiltins "all" = some (.builtin "all") by decide +kernel) (pa_cons (pe_lc (ys := ["value"]) (js := [0]) rfl (pi_list (pv 0)) rfl (by decide +kernel) (by decide +kernel) rfl rfl rfl (by decide +kernel) (fun _ _ _ _ => (pe_fn f_is_number hr (by rfl) (pa_cons (pv 0) (pa_cons pe_int (pa_cons (pe_op op_sub (pe_callB (call_len_seqK (K := K) rfl) (by rfl) T.no_len (show bootBuiltins "len" = some (.builtin "len") by decide +kernel) (pa_cons (pv 1) pa_nil)) pe_int) pa_nil)))))) pa_nil))))
 (pss_one (ps_ret pe_bl))
 pss_nil)
 (pss_one (ps_ret (pe_cmpR op_eq (pe_callB call_len_setO (by rfl) T.no_len (show bootBuiltins "len" = some (.builtin "len") by decide +kernel) (pa_cons (pe_callTy (call_set_ints rfl) (by rfl) T.no_set (show bootBuiltins "set" = some (.type "set") by decide +kernel) (pa_cons (pv 0) pa_nil)) pa_nil)) (pe_callB call_len_seq (by rfl) T.no_len (show bootBuiltins "len" = some (.builtin "len") by decide +kernel) (pa_cons (pv 0) pa_nil)) (nomark _)))))), ?_⟩
    rcases hb with ⟨ty, hty, hk⟩ | ⟨l, xs, rfl, hl, hz, kn, alt⟩
    · refine ⟨_, rfl, _, _, _, _, rfl, hty, .inl ⟨_, rfl⟩, hk, _, rfl, ?_⟩
      refine iteT ?_
      refine iteT ?_
      exact end_same (Same.refl H) q
    · refine ⟨_, rfl, _, _, _, _, rfl, .lst hl, .inl ⟨_, rfl⟩, kit_list_list, _, rfl, ?_⟩
      refine iteF ?_
      refine ⟨_, rfl, _, _, rfl, .inl (SqL.of hl), _, _, _, rfl, .inl ⟨_, rfl⟩, _, rfl, ?_⟩
      have em : ∀ g : V → Bool, (xs.mapIdx fun _ x => V.bl (g x)) = (xs.map g).map V.bl := fun g => by
        apply List.ext_getElem?
        intro j
        simp only [List.getElem?_mapIdx, List.getElem?_map]
        cases xs[j]? <;> rfl
      by_cases h0 : xs.length = 0 ∨ 60 < xs.length
      · rw [show goodB (V.int (xs.length : Int)) 1 60 = false from (bad_int (K := K) (H := H) (by omega)).2]
        refine iteT ?_
        exact end_same (Same.refl H) q
      · rw [show goodB (V.int (xs.length : Int)) 1 60 = true from good_int (by omega)]
        refine iteF ?_
        dsimp only [tNext, tSeq, tIfS, tNot, tB, tCB, tCons]
        refine lc_list (a := l) (xs := xs) (fun _ x => .bl (goodB x 0 ((xs.length : Int) - 1))) ⟨_, rfl, rfl, rfl⟩ (fun R h q => ⟨_, rfl, q⟩) (SqL.of hl) (by omega) (fun i x R hx hR => ?_) fun D hD => ?_
        · exact ⟨_, rfl, _, rfl, _, _, rfl, .inl (SqL.of hl), _, _, rfl, rfl, _, _, _, rfl, kn x (List.mem_of_getElem? hx), hR⟩
        · rw [em]
          refine ⟨_, _, rfl, SqL.of upd_same, _, rfl, ?_⟩
          rcases alt with z | ⟨h1, h60, x, hx, hbx⟩ | rfl
          · exact absurd z h0
          · rw [show ((xs.map fun x => goodB x 0 ((xs.length : Int) - 1)).all id) = false by
              rw [List.all_eq_false]
              exact ⟨false, List.mem_map.mpr ⟨x, hx, hbx⟩, by decide⟩]
            refine iteT ?_
            exact end_same ((Same.refl H).new hD) q
          · rw [show ((([.int 0, .int 0] : List V).map fun x => goodB x 0 ((([.int 0, .int 0] : List V).length : Int) - 1)).all id) = true by decide]
            refine iteF ?_
            have nad : l ≠ D := ne_of_none hl hD
            have hl' : upd H D (.lst ((([.int 0, .int 0] : List V).map fun x => goodB x 0 ((([.int 0, .int 0] : List V).length : Int) - 1)).map V.bl)) l = some (.lst (([0, 0] : List Int).map V.int)) := by rw [upd_ne nad]; exact hl
            refine ⟨_, rfl, _, ([0, 0] : List Int), rfl, SqL.of hl', by decide, fun l8 h8 => ?_⟩
            have nal : l ≠ l8 := ne_of_none hl' h8
            refine ⟨_, _, _, rfl, upd_same, _, rfl, _, _, rfl, .inl (SqL.of (by rw [upd_ne nal]; exact hl')), rfl, ?_⟩
            rw [show decide (V.int ((setN [0, 0] : Nat) : Int) = V.int (((([0, 0] : List Int).map V.int).length : Nat) : Int)) = false by decide +kernel]
            exact end_same (((Same.refl H).new hD).new h8) q
def spWordBad (K : PySem.W.Frag) : Sp := fun vs H Q _ => ∃ v, vs = [v] ∧ BadWord K H v ∧ Q (.bl false) H
theorem okn_is_word {f : Addr} {fd : FuncData} (F : Fun K "is_word" "is_word" s_is_word f fd) (T : Txt K mg t) (f_is_number : Fn1 P w K mg base 1 "is_number" (spNumAny K)) : FnOk P w K mg base CX0 2 f fd ["value"] (spWordBad K) := by
  refine F.okG sc_is_word (fun vs H Q E h => ?_) (fun cdv A outer s H vs Q E hr h => ?_)
  · obtain ⟨v, rfl, _⟩ := h
    rfl
  · obtain ⟨v, rfl, hb, q⟩ := h
    refine ⟨_, (pss_cons (ps_if (PW.pt (pw_or (pt_not (pt_val (pe_callB call_isi (by rfl) T.no_isinstance (show bootBuiltins "isinstance" = some (.builtin "isinstance") by decide +kernel) (pa_cons (pv 0) (pa_cons (pe_bltn (v := .ty "str") rfl T.no_str (show bootBuiltins "str" = some (.type "str") by decide +kernel) rfl) pa_nil))))) (pw_or1 (pt_not (pt_val (pe_fn f_is_number hr (by rfl) (pa_cons (pe_callB call_len_str (by rfl) T.no_len (show bootBuiltins "len" = some (.builtin "len") by decide +kernel) (pa_cons (pv 0) pa_nil)) (pa_cons pe_int (pa_cons (pe_globI rfl T.mg_MOST_CARDS) pa_nil)))))))))
 (pss_one (ps_ret pe_bl))
 pss_nil)
 (pss_one (ps_ret (pe_cmpR op_eq (pe_op op_add (pe_bm PySem.F.plainAttrs_str PySem.F.slot_str_count PySem.F.type_str_count mt_count (pv 0) (pa_cons pe_str pa_nil)) (pe_bm PySem.F.plainAttrs_str PySem.F.slot_str_count PySem.F.type_str_count mt_count (pv 0) (pa_cons pe_str pa_nil))) (pe_callB call_len_str (by rfl) T.no_len (show bootBuiltins "len" = some (.builtin "len") by decide +kernel) (pa_cons (pv 0) pa_nil)) (nomark _))))), ?_⟩
    rcases hb with ⟨ty, hty, hk⟩ | ⟨z, rfl, hz, alt⟩
    · refine ⟨_, rfl, _, _, _, _, rfl, hty, .inl ⟨_, rfl⟩, hk, _, rfl, ?_⟩
      refine iteT ?_
      refine iteT ?_
      exact end_same (Same.refl H) q
    · have hz' : z.length ≤ sizeLine := Nat.le_trans hz (by decide)
      refine ⟨_, rfl, _, _, _, _, rfl, .str _, .inl ⟨_, rfl⟩, kit_str_str, _, rfl, ?_⟩
      refine iteF ?_
      refine ⟨_, rfl, _, rfl, hz', _, _, _, rfl, .inl ⟨_, rfl⟩, _, rfl, ?_⟩
      rcases alt with h0 | ⟨h1, h60, hc⟩
      · rw [show goodB (V.int (z.length : Int)) 1 60 = false from (bad_int (K := K) (H := H) (by omega)).2]
        refine iteT ?_
        exact end_same (Same.refl H) q
      · rw [show goodB (V.int (z.length : Int)) 1 60 = true from good_int (by omega)]
        refine iteF ?_
        refine ⟨_, rfl, rfl, _, 97, rfl, rfl, _, rfl, rfl, _, 98, rfl, rfl, _, _, rfl, rfl, _, rfl, _, rfl, hz', rfl, ?_⟩
        rw [show decide (V.int ((z.cps.toList.count 97 : Int) + (z.cps.toList.count 98 : Int)) = V.int (z.length : Int)) = false from decide_eq_false (fun e => by injection e with e; omega)]
        exact end_same (Same.refl H) q
theorem okx_check_order {f : Addr} {fd : FuncData} (F : Fun K "check_order" "check_order" s_check_order f fd) (T : Txt K mg t) (Z : ExcTxt K mg u) (f_is_order : Fn1 P w K mg base 2 "is_order" (spOrdBad K)) : FnOk P w K mg base (CXe P w) 3 f fd ["value"] (spR u (badO K)) := by
  refine F.okX sc_check_order (fun vs H Q E h => ?_) (fun cdv A outer s H vs Q E hr h Lv => ?_)
  · obtain ⟨r, ⟨_, v, rfl, _⟩, _⟩ := h
    rfl
  · obtain ⟨r, ⟨rfl, v, rfl, hb⟩, hE⟩ := h
    refine ⟨_, (pss_one (ps_if (pt_not (pt_val (pe_fn f_is_order hr (by rfl) (pa_cons (pv 0) pa_nil))))
 (pss_one (ps_raise Lv rfl (by rfl) Z.mg_BadOrder Z.c_BadOrder.ex (pa_cons pe_str pa_nil)))
 pss_nil)), ?_⟩
    refine ⟨_, rfl, v, rfl, hb, _, rfl, ?_⟩
    refine iteT ?_
    exact ⟨by decide, hE _ (Same.refl H)⟩
theorem okx_check_cards {f : Addr} {fd : FuncData} (F : Fun K "check_cards" "check_cards" s_check_cards f fd) (T : Txt K mg t) (Z : ExcTxt K mg u) (f_is_number : Fn1 P w K mg base 1 "is_number" (spNumAny K)) : FnOk P w K mg base (CXe P w) 2 f fd ["value"] (spR u (badN K .n 1 60)) := by
  refine F.okX sc_check_cards (fun vs H Q E h => ?_) (fun cdv A outer s H vs Q E hr h Lv => ?_)
  · obtain ⟨r, ⟨_, v, rfl, _⟩, _⟩ := h
    rfl
  · obtain ⟨r, ⟨rfl, v, rfl, kn, hb⟩, hE⟩ := h
    refine ⟨_, (pss_one (ps_if (pt_not (pt_val (pe_fn f_is_number hr (by rfl) (pa_cons (pv 0) (pa_cons pe_int (pa_cons (pe_globI rfl T.mg_MOST_CARDS) pa_nil))))))
 (pss_one (ps_raise Lv rfl (by rfl) Z.mg_BadNumber Z.c_BadNumber.ex (pa_cons pe_str pa_nil)))
 pss_nil)), ?_⟩
    refine ⟨_, rfl, _, _, _, rfl, kn, _, rfl, ?_⟩
    rw [hb]
    refine iteT ?_
    exact ⟨by decide, hE _ (Same.refl H)⟩
theorem okx_check_move {f : Addr} {fd : FuncData} (F : Fun K "check_move" "check_move" s_check_move f fd) (T : Txt K mg t) (Z : ExcTxt K mg u) : FnOk P w K mg base (CXe P w) 1 f fd ["value"] (spR u (badM K t)) := by
  refine F.okX sc_check_move (fun vs H Q E h => ?_) (fun cdv A outer s H vs Q E hr h Lv => ?_)
  · obtain ⟨r, ⟨_, v, rfl, _⟩, _⟩ := h
    rfl
  · obtain ⟨r, ⟨rfl, v, rfl, ty, hty, hk⟩, hE⟩ := h
    refine ⟨_, (pss_one (ps_if (pt_not (pt_val (pe_callB call_isi (by rfl) T.no_isinstance (show bootBuiltins "isinstance" = some (.builtin "isinstance") by decide +kernel) (pa_cons (pv 0) (pa_cons (pe_glob (v := .ref _) rfl T.mg_Move rfl) pa_nil)))))
 (pss_one (ps_raise Lv rfl (by rfl) Z.mg_BadMove Z.c_BadMove.ex (pa_cons pe_str pa_nil)))
 pss_nil)), ?_⟩
    refine ⟨_, rfl, _, _, _, _, rfl, hty, .inr ⟨_, rfl⟩, hk, _, rfl, ?_⟩
    refine iteT ?_
    exact ⟨by decide, hE _ (Same.refl H)⟩
theorem okx_Cut___init__ {f : Addr} {fd : FuncData} (F : Fun K "__init__" "Cut.__init__" s_Cut___init__ f fd) (T : Txt K mg t) (Z : ExcTxt K mg u) (f_is_number : Fn1 P w K mg base 1 "is_number" (spNumAny K)) : FnOk P w K mg base (CXe P w) 2 f fd ["self", "many"] (spR u (badI K fun H v => BadNum K H v 0 60)) := by
  refine F.okX sc_Cut___init__ (fun vs H Q E h => ?_) (fun cdv A outer s H vs Q E hr h Lv => ?_)
  · obtain ⟨r, ⟨_, p, v, rfl, _⟩, _⟩ := h
    rfl
  · obtain ⟨r, ⟨rfl, p, v, rfl, kn, hb⟩, hE⟩ := h
    refine ⟨_, pss_cut (ps_if (pt_not (pt_val (pe_fn f_is_number hr (by rfl) (pa_cons (pv 1) (pa_cons pe_int (pa_cons (pe_globI rfl T.mg_MOST_CARDS) pa_nil))))))
 (pss_one (ps_raise Lv rfl (by rfl) Z.mg_BadMove Z.c_BadMove.ex (pa_cons pe_str pa_nil)))
 pss_nil), ?_⟩
    refine ⟨_, rfl, _, _, _, rfl, kn, _, rfl, ?_⟩
    rw [hb]
    refine iteT ?_
    exact ⟨by decide, hE _ (Same.refl H)⟩
theorem okx_Deal___init__ {f : Addr} {fd : FuncData} (F : Fun K "__init__" "Deal.__init__" s_Deal___init__ f fd) (T : Txt K mg t) (Z : ExcTxt K mg u) (f_is_number : Fn1 P w K mg base 1 "is_number" (spNumAny K)) : FnOk P w K mg base (CXe P w) 2 f fd ["self", "piles"] (spR u (badI K fun H v => BadNum K H v 1 60)) := by
  refine F.okX sc_Deal___init__ (fun vs H Q E h => ?_) (fun cdv A outer s H vs Q E hr h Lv => ?_)
  · obtain ⟨r, ⟨_, p, v, rfl, _⟩, _⟩ := h
    rfl
  · obtain ⟨r, ⟨rfl, p, v, rfl, kn, hb⟩, hE⟩ := h
    refine ⟨_, pss_cut (ps_if (pt_not (pt_val (pe_fn f_is_number hr (by rfl) (pa_cons (pv 1) (pa_cons pe_int (pa_cons (pe_globI rfl T.mg_MOST_CARDS) pa_nil))))))
 (pss_one (ps_raise Lv rfl (by rfl) Z.mg_BadMove Z.c_BadMove.ex (pa_cons pe_str pa_nil)))
 pss_nil), ?_⟩
    refine ⟨_, rfl, _, _, _, rfl, kn, _, rfl, ?_⟩
    rw [hb]
    refine iteT ?_
    exact ⟨by decide, hE _ (Same.refl H)⟩
theorem okx_Weave___init__ {f : Addr} {fd : FuncData} (F : Fun K "__init__" "Weave.__init__" s_Weave___init__ f fd) (T : Txt K mg t) (Z : ExcTxt K mg u) (f_is_number : Fn1 P w K mg base 1 "is_number" (spNumAny K)) : FnOk P w K mg base (CXe P w) 2 f fd ["self", "first"] (spR u (badI K fun H v => BadNum K H v 0 1)) := by
  refine F.okX sc_Weave___init__ (fun vs H Q E h => ?_) (fun cdv A outer s H vs Q E hr h Lv => ?_)
  · obtain ⟨r, ⟨_, p, v, rfl, _⟩, _⟩ := h
    rfl
  · obtain ⟨r, ⟨rfl, p, v, rfl, kn, hb⟩, hE⟩ := h
    refine ⟨_, pss_cut (ps_if (pt_not (pt_val (pe_fn f_is_number hr (by rfl) (pa_cons (pv 1) (pa_cons pe_int (pa_cons pe_int pa_nil))))))
 (pss_one (ps_raise Lv rfl (by rfl) Z.mg_BadMove Z.c_BadMove.ex (pa_cons pe_str pa_nil)))
 pss_nil), ?_⟩
    refine ⟨_, rfl, _, _, _, rfl, kn, _, rfl, ?_⟩
    rw [hb]
    refine iteT ?_
    exact ⟨by decide, hE _ (Same.refl H)⟩
theorem okx_Riffle___init__ {f : Addr} {fd : FuncData} (F : Fun K "__init__" "Riffle.__init__" s_Riffle___init__ f fd) (T : Txt K mg t) (Z : ExcTxt K mg u) (f_is_word : Fn1 P w K mg base 2 "is_word" (spWordBad K)) : FnOk P w K mg base (CXe P w) 3 f fd ["self", "word"] (spR u (badI K fun H v => BadWord K H v)) := by
  refine F.okX sc_Riffle___init__ (fun vs H Q E h => ?_) (fun cdv A outer s H vs Q E hr h Lv => ?_)
  · obtain ⟨r, ⟨_, p, v, rfl, _⟩, _⟩ := h
    rfl
  · obtain ⟨r, ⟨rfl, p, v, rfl, hb⟩, hE⟩ := h
    refine ⟨_, pss_cut (ps_if (pt_not (pt_val (pe_fn f_is_word hr (by rfl) (pa_cons (pv 1) pa_nil))))
 (pss_one (ps_raise Lv rfl (by rfl) Z.mg_BadMove Z.c_BadMove.ex (pa_cons pe_str pa_nil)))
 pss_nil), ?_⟩
    refine ⟨_, rfl, v, rfl, hb, _, rfl, ?_⟩
    refine iteT ?_
    exact ⟨by decide, hE _ (Same.refl H)⟩
theorem okx_Cut_sources {f : Addr} {fd : FuncData} (F : Fun K "sources" "Cut.sources" s_Cut_sources f fd) {m : Nat} (T : Txt K mg t) (Z : ExcTxt K mg u) : FnOk P w K mg base (CXe P w) 2 f fd ["self", "cards"] (spR u (badSrc t (.cut m))) := by
  refine F.okX sc_Cut_sources (fun vs H Q E h => ?_) (fun cdv A outer s H vs Q E hr h Lv => ?_)
  · obtain ⟨r, ⟨_, p, n, rfl, _⟩, _⟩ := h
    rfl
  · obtain ⟨r, ⟨rfl, p, n, rfl, ⟨dx, hp⟩, ok, nf⟩, hE⟩ := h
    have nf' : ¬ m ≤ n := nf
    refine ⟨_, pss_cut (ps_if (pt_cmpR op_gt (pe_fld (pv 0) rfl) (pv 1) (nomark _))
 (pss_one (ps_raise Lv rfl (by rfl) Z.mg_BadMove Z.c_BadMove.ex (pa_cons pe_str pa_nil)))
 pss_nil), ?_⟩
    refine ⟨_, rfl, _, _, _, _, _, rfl, hp, T.cl (.cut m), T.na_many, rfl, _, rfl, _, _, rfl, rfl, _, rfl, ?_⟩
    rw [show decide ((n : Int) < (m : Int)) = true by simp; omega]
    refine iteT ?_
    exact ⟨by decide, hE _ (Same.refl H)⟩
theorem okx_Weave_sources {f : Addr} {fd : FuncData} (F : Fun K "sources" "Weave.sources" s_Weave_sources f fd) {m : Nat} (T : Txt K mg t) (Z : ExcTxt K mg u) : FnOk P w K mg base (CXe P w) 2 f fd ["self", "cards"] (spR u (badSrc t (.weave m))) := by
  refine F.okX sc_Weave_sources (fun vs H Q E h => ?_) (fun cdv A outer s H vs Q E hr h Lv => ?_)
  · obtain ⟨r, ⟨_, p, n, rfl, _⟩, _⟩ := h
    rfl
  · obtain ⟨r, ⟨rfl, p, n, rfl, ⟨dx, hp⟩, ok, nf⟩, hE⟩ := h
    have nf' : ¬ n % 2 = 0 := nf
    refine ⟨_, pss_cut (ps_if (pt_cmpR op_eq (pe_op op_mod (pv 1) pe_int) pe_int (nomark _))
 (pss_one (ps_raise Lv rfl (by rfl) Z.mg_BadMove Z.c_BadMove.ex (pa_cons pe_str pa_nil)))
 pss_nil), ?_⟩
    refine ⟨_, rfl, _, _, rfl, rfl, (by decide : (0 : Int) < 2), rfl, _, rfl, ?_⟩
    rw [show decide (V.int ((n : Int) % 2) = V.int 1) = true by simp; omega]
    refine iteT ?_
    exact ⟨by decide, hE _ (Same.refl H)⟩
theorem okx_Riffle_sources {f : Addr} {fd : FuncData} (F : Fun K "sources" "Riffle.sources" s_Riffle_sources f fd) {m : List Bool} (T : Txt K mg t) (Z : ExcTxt K mg u) : FnOk P w K mg base (CXe P w) 2 f fd ["self", "cards"] (spR u (badSrc t (.riffle m))) := by
  refine F.okX sc_Riffle_sources (fun vs H Q E h => ?_) (fun cdv A outer s H vs Q E hr h Lv => ?_)
  · obtain ⟨r, ⟨_, p, n, rfl, _⟩, _⟩ := h
    rfl
  · obtain ⟨r, ⟨rfl, p, n, rfl, ⟨dx, hp⟩, ok, nf⟩, hE⟩ := h
    have nf' : ¬ m.length = n := nf
    have hz : (wordOf m).length ≤ sizeLine := by rw [word_len]; exact Nat.le_trans ok.2 (by decide)
    refine ⟨_, pss_cut (ps_if (pt_cmpR op_ne (pe_callB call_len_str (by rfl) T.no_len (show bootBuiltins "len" = some (.builtin "len") by decide +kernel) (pa_cons (pe_fld (pv 0) rfl) pa_nil)) (pv 1) (nomark _))
 (pss_one (ps_raise Lv rfl (by rfl) Z.mg_BadMove Z.c_BadMove.ex (pa_cons pe_str pa_nil)))
 pss_nil), ?_⟩
    refine ⟨_, rfl, _, _, _, _, _, rfl, hp, T.cl (.riffle m), T.na_word, rfl, _, rfl, hz, _, rfl, rfl, _, rfl, ?_⟩
    rw [word_len, show (!decide (V.int (m.length : Int) = V.int (n : Int))) = true by simp; omega]
    refine iteT ?_
    exact ⟨by decide, hE _ (Same.refl H)⟩
end
end Rf

set_option Elab.async false
set_option linter.all false
set_option maxRecDepth 100000
set_option maxHeartbeats 1000000
namespace Rf
open PySem L2
def spCM (K : PySem.W.Frag) (t : Adr) (u : XA) : Sp := fun vs H Q E => spCheckMove t vs H Q E0 ∨ spR u (badM K t) vs H Q E
def badMs (K : PySem.W.Frag) (t : Adr) : Rz → List V → Hp → Prop := fun r vs H => r = .m ∧ ∃ v, vs = [v] ∧ BadMoves K t H v
def badDone (K : PySem.W.Frag) (t : Adr) (mv : Mv) : Rz → List V → Hp → Prop := fun r vs H => ∃ (p : Addr) (v : V), vs = [.ref p, v] ∧ IsMv t H p mv ∧
  ((r = .o ∧ BadOrd K H v) ∨ (r = .m ∧ mv.ok ∧ ∃ (a : Addr) (xs : List Nat), v = .ref a ∧ H a = some (.lst (nv xs)) ∧ Good xs ∧ ¬ mv.fits xs.length))
def spDoneX (K : PySem.W.Frag) (t : Adr) (u : XA) (mv : Mv) : Sp := fun vs H Q E => spDone t mv vs H Q E0 ∨ spR u (badDone K t mv) vs H Q E
def badAll (K : PySem.W.Frag) (t : Adr) : Rz → List V → Hp → Prop := fun r vs H => ∃ v o : V, vs = [v, o] ∧ ((r = .m ∧ BadMoves K t H v) ∨ ∃ (l : Addr) (ms : List (Addr × Mv)), v = .ref l ∧ H l = some (.lst (ms.map fun x => V.ref x.1)) ∧ (∀ x ∈ ms, IsMv t H x.1 x.2) ∧
  ((r = .o ∧ BadOrd K H o) ∨ (r = .m ∧ ∃ (a : Addr) (xs : List Nat) (p1 p2 : Addr) (mv : Mv), o = .ref a ∧ H a = some (.lst (nv xs)) ∧ Good xs ∧ ms = [(p1, .turn), (p2, mv)] ∧ mv.ok ∧ ¬ mv.fits xs.length)))
def badRings (K : PySem.W.Frag) (t : Adr) : Rz → List V → Hp → Prop := fun r vs H => ∃ v o : V, vs = [v, o] ∧ ((r = .m ∧ NoMove K t H v) ∨ ∃ (p : Addr) (mv : Mv), v = .ref p ∧ IsMv t H p mv ∧
  ((r = .n ∧ BadNum K H o 1 60) ∨ (r = .m ∧ mv.ok ∧ ∃ n : Nat, o = .int (n : Int) ∧ 1 ≤ n ∧ n ≤ 60 ∧ ¬ mv.fits n)))
def badRep (K : PySem.W.Frag) (t : Adr) : Rz → List V → Hp → Prop := fun r vs H => ∃ v o k : V, vs = [v, o, k] ∧ ((r = .m ∧ NoMove K t H v) ∨ ∃ (p : Addr) (mv : Mv), v = .ref p ∧ IsMv t H p mv ∧
  ((r = .o ∧ BadOrd K H o) ∨ ∃ (a : Addr) (xs : List Nat), o = .ref a ∧ H a = some (.lst (nv xs)) ∧ Good xs ∧ ((r = .n ∧ BadNum K H k 0 (10 ^ (18 : Int).toNat)) ∨ (r = .m ∧ mv.ok ∧ k = .int 0 ∧ ¬ mv.fits xs.length))))
def badWays (K : PySem.W.Frag) : Rz → List V → Hp → Prop := fun r vs H => ∃ o k : V, vs = [o, k] ∧ ((r = .o ∧ BadOrd K H o) ∨ ∃ (a : Addr) (xs : List Nat), o = .ref a ∧ H a = some (.lst (nv xs)) ∧ Good xs ∧ r = .n ∧ BadNum K H k 0 30)
def badOw (K : PySem.W.Frag) : Rz → List V → Hp → Prop := fun r vs H => ∃ c k : V, vs = [c, k] ∧ r = .n ∧ (BadNum K H c 1 60 ∨ ∃ n : Nat, c = .int (n : Int) ∧ 1 ≤ n ∧ n ≤ 60 ∧ BadNum K H k 0 60)
def badBr (K : PySem.W.Frag) : Rz → List V → Hp → Prop := fun r vs H => ∃ c k : V, vs = [c, k] ∧ r = .n ∧ (BadNum K H c 2 60 ∨ ∃ n : Nat, c = .int (n : Int) ∧ 2 ≤ n ∧ n ≤ 60 ∧ (n % 2 = 1 ∨ (n % 2 = 0 ∧ BadNum K H k 0 ((n : Int) - 1))))
section
variable {P : Program} {w : World} {K : PySem.W.Frag} {mg : Str → Option Value} {base : Heap} {t : Adr} {u : XA}
theorem okx_check_moves {f : Addr} {fd : FuncData} (F : Fun K "check_moves" "check_moves" s_check_moves f fd) (T : Txt K mg t) (Z : ExcTxt K mg u) (x_check_move : FnX P w K mg base 1 "check_move" (spCM K t u)) : FnOk P w K mg base (CXe P w) 2 f fd ["value"] (spR u (badMs K t)) := by
  refine F.okX sc_check_moves (fun vs H Q E h => ?_) (fun cdv A outer s H vs Q E hr h Lv => ?_)
  · obtain ⟨r, ⟨_, v, rfl, _⟩, _⟩ := h
    rfl
  · obtain ⟨r, ⟨rfl, v, rfl, hb⟩, hE⟩ := h
    have nd := sc_check_moves.nd
    refine ⟨_, pss_cons (ps_if (pt_not (pt_val (pe_callB call_isi (by rfl) T.no_isinstance (show bootBuiltins "isinstance" = some (.builtin "isinstance") by decide +kernel) (pa_cons (pv 0) (pa_cons (pe_bltn (v := .ty "list") rfl T.no_list (show bootBuiltins "list" = some (.type "list") by decide +kernel) rfl) pa_nil)))))
 (pss_one (ps_raise Lv rfl (by rfl) Z.mg_BadMove Z.c_BadMove.ex (pa_cons pe_str pa_nil)))
 pss_nil) (pss_cut (ps_for PassesOwn.leaving rfl (pi_list (pv 0)) (pg_name (i := 1) nd rfl (Or.inl rfl))
 (pss_one (ps_expr (pe_fnx (Lv.pass fun _ _ _ h => h) x_check_move hr (by rfl) (pa_cons (pv 1) pa_nil)))))), ?_⟩
    rcases hb with ⟨ty, hty, hk⟩ | ⟨l, xs, n, b, rfl, hl, hn, nb, pre⟩
    · refine ⟨_, rfl, _, _, _, _, rfl, hty, .inl ⟨_, rfl⟩, hk, _, rfl, ?_⟩
      refine iteT ?_
      exact ⟨by decide, hE _ (Same.refl H)⟩
    · refine ⟨_, rfl, _, _, _, _, rfl, .lst hl, .inl ⟨_, rfl⟩, kit_list_list, _, rfl, ?_⟩
      refine iteF ?_
      refine ⟨_, rfl, _, rfl, ⟨_, SqL.of hl⟩, ?_⟩
      have hlt := (List.getElem?_eq_some_iff.mp hn).1
      refine for_list (xs := xs) (fun i σ H' => H' = H ∧ i ≤ n ∧ ∃ b, σ = [some (.ref l), b]) ⟨rfl, Nat.zero_le _, none, rfl⟩ (fun i σ H' _ z => by rw [z.1]; exact SqL.of hl) ?_ ?_
      · rintro i x σ H' hx ⟨rfl, hi, b', rfl⟩
        by_cases hin : i = n
        · subst hin
          rw [hn] at hx
          cases hx
          exact ⟨_, rfl, .inr ⟨.m, ⟨rfl, _, rfl, nb⟩, hE⟩⟩
        · obtain ⟨p, mv, rfl, hm⟩ := pre i x (by omega) hx
          exact ⟨_, rfl, .inl ⟨p, mv, rfl, hm, rfl, by omega, _, rfl⟩⟩
      · rintro σ H' ⟨_, hi, _⟩
        exact absurd hlt (by omega)
theorem okx_Move_done {f : Addr} {fd : FuncData} (F : Fun K "done" "Move.done" s_Move_done f fd) {mv : Mv} (T : Txt K mg t) (Z : ExcTxt K mg u) (x_check_order : FnX P w K mg base 3 "check_order" (spR u (badO K))) (f_check_order : Fn1 P w K mg base 3 "check_order" spCheckOrder) (x_sources : MthX P w K mg base 2 (mv.cls t) "sources" (spR u (badSrc t mv))) : FnOk P w K mg base (CXe P w) 4 f fd ["self", "order"] (spR u (badDone K t mv)) := by
  refine F.okX sc_Move_done (fun vs H Q E h => ?_) (fun cdv A outer s H vs Q E hr h Lv => ?_)
  · obtain ⟨r, ⟨p, v, rfl, _⟩, _⟩ := h
    rfl
  · obtain ⟨r, ⟨p, v, rfl, ⟨dx, hp⟩, alt⟩, hE⟩ := h
    rcases alt with ⟨rfl, hb⟩ | ⟨rfl, ok, a, xs, rfl, ha, g, nf⟩
    · refine ⟨_, pss_cut (ps_expr (pe_fnx (Lv.pass fun _ _ _ h => h) x_check_order hr (by rfl) (pa_cons (pv 1) pa_nil))), ?_⟩
      exact ⟨_, rfl, .o, ⟨rfl, v, rfl, hb⟩, hE⟩
    · have hl : (nv xs).length = xs.length := nv_length xs
      refine ⟨_, pss_cons (ps_expr (pe_fn f_check_order hr (by rfl) (pa_cons (pv 1) pa_nil))) (pss_one (ps_ret (pe_lc (ys := ["order"]) (js := [1]) rfl (pi_list (pe_mtX 2 (Lv.pass fun _ _ _ h => h) hr (pv 0) (pa_cons (pe_callB call_len_seq (by rfl) T.no_len (show bootBuiltins "len" = some (.builtin "len") by decide +kernel) (pa_cons (pv 1) pa_nil)) pa_nil))) rfl (by decide +kernel) (by decide +kernel) rfl rfl rfl (by decide +kernel) (fun _ _ _ _ => (pe_ix (ix_listK (K := K) rfl) (pv 1) (pv 0) (fun _ _ => rfl)))))), ?_⟩
      exact ⟨_, rfl, _, _, rfl, ha, g, _, rfl, _, _, _, _, _, rfl, hp, mv.no_sources, x_sources, _, rfl, _, _, rfl, .inl (SqL.of ha), .m, ⟨rfl, p, _, rfl, ⟨dx, hp⟩, ok, by rw [hl]; exact nf⟩, hE⟩
theorem okx_Move_undone {f : Addr} {fd : FuncData} (F : Fun K "undone" "Move.undone" s_Move_undone f fd) {mv : Mv} (T : Txt K mg t) (Z : ExcTxt K mg u) (x_check_order : FnX P w K mg base 3 "check_order" (spR u (badO K))) (f_check_order : Fn1 P w K mg base 3 "check_order" spCheckOrder) (x_sources : MthX P w K mg base 2 (mv.cls t) "sources" (spR u (badSrc t mv))) : FnOk P w K mg base (CXe P w) 4 f fd ["self", "order"] (spR u (badDone K t mv)) := by
  refine F.okX sc_Move_undone (fun vs H Q E h => ?_) (fun cdv A outer s H vs Q E hr h Lv => ?_)
  · obtain ⟨r, ⟨p, v, rfl, _⟩, _⟩ := h
    rfl
  · obtain ⟨r, ⟨p, v, rfl, ⟨dx, hp⟩, alt⟩, hE⟩ := h
    have nd := sc_Move_undone.nd
    rcases alt with ⟨rfl, hb⟩ | ⟨rfl, ok, a, xs, rfl, ha, g, nf⟩
    · refine ⟨_, pss_cut (ps_expr (pe_fnx (Lv.pass fun _ _ _ h => h) x_check_order hr (by rfl) (pa_cons (pv 1) pa_nil))), ?_⟩
      exact ⟨_, rfl, .o, ⟨rfl, v, rfl, hb⟩, hE⟩
    · have hl : (nv xs).length = xs.length := nv_length xs
      refine ⟨_, pss_cons (ps_expr (pe_fn f_check_order hr (by rfl) (pa_cons (pv 1) pa_nil))) (pss_cons (ps_set (i := 2) nd rfl (Or.inl rfl) (pe_callTy call_list_of (by rfl) T.no_list (show bootBuiltins "list" = some (.type "list") by decide +kernel) (pa_cons (pv 1) pa_nil))) (pss_cut (ps_for PassesOwn.leaving rfl (pi_enum (by rfl) T.no_enumerate (pa_cons (pe_mtX 2 (Lv.pass fun _ _ _ h => h) hr (pv 0) (pa_cons (pe_callB call_len_seq (by rfl) T.no_len (show bootBuiltins "len" = some (.builtin "len") by decide +kernel) (pa_cons (pv 1) pa_nil)) pa_nil)) pa_nil)) (pg_tup rfl (pgs_cons (pg_name (i := 3) nd rfl (Or.inl rfl)) (pgs_cons (pg_name (i := 4) nd rfl (Or.inl rfl)) pgs_nil)))
 (pss_one (ps_asg (pe_ix ix_list (pv 1) (pv 3) (fun _ _ => rfl)) (pg_sub (pv 2) (pv 4) set_list)))))), ?_⟩
      refine ⟨_, rfl, _, _, rfl, ha, g, _, rfl, _, _, rfl, .inl (SqL.of ha), fun lb hlb => ?_⟩
      have e0 := (Same.refl H).new (o := .lst (nv xs)) hlb
      exact ⟨_, rfl, _, _, _, _, _, rfl, e0 _ _ hp, mv.no_sources, x_sources, _, rfl, _, _, rfl, .inl (SqL.of (e0 _ _ ha)), .m, ⟨rfl, p, _, rfl, ⟨dx, e0 _ _ hp⟩, ok, by rw [hl]; exact nf⟩, fun H' s' => hE H' (e0.trans s')⟩
theorem okx_done_all {f : Addr} {fd : FuncData} (F : Fun K "done_all" "done_all" s_done_all f fd) (T : Txt K mg t) (Z : ExcTxt K mg u) (x_check_moves : FnX P w K mg base 2 "check_moves" (spR u (badMs K t))) (f_check_moves : Fn1 P w K mg base 2 "check_moves" (spCheckMoves t)) (x_check_order : FnX P w K mg base 3 "check_order" (spR u (badO K))) (f_check_order : Fn1 P w K mg base 3 "check_order" spCheckOrder) (x_done : ∀ mv : Mv, MthX P w K mg base 4 (mv.cls t) "done" (spDoneX K t u mv)) : FnOk P w K mg base (CXe P w) 5 f fd ["moves", "order"] (spR u (badAll K t)) := by
  refine F.okX sc_done_all (fun vs H Q E h => ?_) (fun cdv A outer s H vs Q E hr h Lv => ?_)
  · obtain ⟨r, ⟨v, o, rfl, _⟩, _⟩ := h
    rfl
  · obtain ⟨r, ⟨v, o, rfl, alt⟩, hE⟩ := h
    have nd := sc_done_all.nd
    rcases alt with ⟨rfl, hb⟩ | ⟨l, ms, rfl, hl, hm, alt⟩
    · refine ⟨_, pss_cut (ps_expr (pe_fnx (Lv.pass fun _ _ _ h => h) x_check_moves hr (by rfl) (pa_cons (pv 0) pa_nil))), ?_⟩
      exact ⟨_, rfl, .m, ⟨rfl, v, rfl, hb⟩, hE⟩
    · rcases alt with ⟨rfl, hb⟩ | ⟨rfl, a, xs, p1, p2, mv, rfl, ha, g, rfl, ok, nf⟩
      · refine ⟨_, pss_cons (ps_expr (pe_fn f_check_moves hr (by rfl) (pa_cons (pv 0) pa_nil))) (pss_cut (ps_expr (pe_fnx (Lv.pass fun _ _ _ h => h) x_check_order hr (by rfl) (pa_cons (pv 1) pa_nil)))), ?_⟩
        exact ⟨_, rfl, _, ms, rfl, hl, hm, _, rfl, .o, ⟨rfl, o, rfl, hb⟩, hE⟩
      · refine ⟨_, pss_cons (ps_expr (pe_fn f_check_moves hr (by rfl) (pa_cons (pv 0) pa_nil))) (pss_cons (ps_expr (pe_fn f_check_order hr (by rfl) (pa_cons (pv 1) pa_nil))) (pss_cons (ps_set (i := 2) nd rfl (Or.inl rfl) (pe_callTy call_list_of (by rfl) T.no_list (show bootBuiltins "list" = some (.type "list") by decide +kernel) (pa_cons (pv 1) pa_nil))) (pss_cut (ps_for PassesOwn.leaving rfl (pi_list (pv 0)) (pg_name (i := 3) nd rfl (Or.inl rfl))
 (pss_one (ps_set (i := 2) nd rfl (Or.inl rfl) (pe_mtX 4 (Lv.pass fun _ _ _ h => h) hr (pv 3) (pa_cons (pv 2) pa_nil)))))))), ?_⟩
        refine ⟨_, rfl, _, _, rfl, hl, hm, _, rfl, _, _, rfl, ha, g, _, rfl, _, _, rfl, .inl (SqL.of ha), fun l1 hl1 => ?_⟩
        have e1 := (Same.refl H).new (o := .lst (nv xs)) hl1
        refine ⟨_, rfl, _, rfl, ⟨_, SqL.of (e1 _ _ hl)⟩, ?_⟩
        obtain ⟨dx1, h1⟩ := hm (p1, .turn) (List.mem_cons_self)
        obtain ⟨dx2, h2⟩ := hm (p2, mv) (List.mem_cons_of_mem _ List.mem_cons_self)
        refine for_list (xs := [V.ref p1, V.ref p2]) (fun i σ H' => i ≤ 1 ∧ ∃ l2 b ys, σ = [some (.ref l), some (.ref a), some (.ref l2), b] ∧ Same H H' ∧ H' l2 = some (.lst (nv ys)) ∧ Good ys ∧ ys.length = xs.length)
          ⟨Nat.zero_le _, l1, none, xs, rfl, e1, upd_same, g, rfl⟩ (fun i σ H' _ z => ?_) ?_ ?_
        · obtain ⟨_, _, _, _, _, se, _⟩ := z
          exact SqL.of (se _ _ hl)
        · rintro i x σ H' hx ⟨hi, l2, b, ys, rfl, se, hL, gy, ly⟩
          match i, hi with
          | 0, _ =>
            cases hx
            have gp := gy.pick (mv := .turn) trivial trivial
            refine ⟨_, rfl, _, _, _, _, _, rfl, se _ _ h1, Mv.no_done .turn, x_done .turn, _, rfl, .inl ⟨_, _, ys, rfl, ⟨dx1, se _ _ h1⟩, trivial, trivial, hL, gy, fun l3 hl3 => ?_⟩⟩
            exact ⟨Nat.le_refl _, l3, _, _, rfl, se.new hl3, upd_same, gp.1, by rw [gp.2, ly]⟩
          | 1, _ =>
            cases hx
            exact ⟨_, rfl, _, _, _, _, _, rfl, se _ _ h2, mv.no_done, x_done mv, _, rfl, .inr ⟨.m, ⟨p2, _, rfl, ⟨dx2, se _ _ h2⟩, .inr ⟨rfl, ok, _, ys, rfl, hL, gy, by rw [ly]; exact nf⟩⟩, fun H'' s'' => hE H'' (se.trans s'')⟩⟩
        · rintro σ H' ⟨hi, _⟩
          exact absurd hi (by show ¬ 2 ≤ 1; decide)
theorem okx_rings {f : Addr} {fd : FuncData} (F : Fun K "rings" "rings" s_rings f fd) (T : Txt K mg t) (Z : ExcTxt K mg u) (x_check_move : FnX P w K mg base 1 "check_move" (spCM K t u)) (f_check_move : Fn1 P w K mg base 1 "check_move" (spCheckMove t)) (x_check_cards : FnX P w K mg base 2 "check_cards" (spR u (badN K .n 1 60))) (f_check_cards : Fn1 P w K mg base 2 "check_cards" spCards) (f_targets : Fn1 P w K mg base 1 "targets" spTargets) (x_sources : ∀ mv : Mv, MthX P w K mg base 2 (mv.cls t) "sources" (spR u (badSrc t mv))) : FnOk P w K mg base (CXe P w) 3 f fd ["move", "many"] (spR u (badRings K t)) := by
  refine F.okX sc_rings (fun vs H Q E h => ?_) (fun cdv A outer s H vs Q E hr h Lv => ?_)
  · obtain ⟨r, ⟨v, o, rfl, _⟩, _⟩ := h
    rfl
  · obtain ⟨r, ⟨v, o, rfl, alt⟩, hE⟩ := h
    have nd := sc_rings.nd
    rcases alt with ⟨rfl, hb⟩ | ⟨p, mv, rfl, ⟨dx, hp⟩, alt⟩
    · refine ⟨_, pss_cut (ps_expr (pe_fnx (Lv.pass fun _ _ _ h => h) x_check_move hr (by rfl) (pa_cons (pv 0) pa_nil))), ?_⟩
      exact ⟨_, rfl, .inr ⟨.m, ⟨rfl, v, rfl, hb⟩, hE⟩⟩
    · rcases alt with ⟨rfl, hb⟩ | ⟨rfl, ok, n, rfl, h1, h60, nf⟩
      · refine ⟨_, pss_cons (ps_expr (pe_fn f_check_move hr (by rfl) (pa_cons (pv 0) pa_nil))) (pss_cut (ps_expr (pe_fnx (Lv.pass fun _ _ _ h => h) x_check_cards hr (by rfl) (pa_cons (pv 1) pa_nil)))), ?_⟩
        exact ⟨_, rfl, p, mv, rfl, ⟨dx, hp⟩, _, rfl, .n, ⟨rfl, o, rfl, hb⟩, hE⟩
      · refine ⟨_, pss_cons (ps_expr (pe_fn f_check_move hr (by rfl) (pa_cons (pv 0) pa_nil))) (pss_cons (ps_expr (pe_fn f_check_cards hr (by rfl) (pa_cons (pv 1) pa_nil))) (pss_cut (ps_set (i := 2) nd rfl (Or.inl rfl) (pe_fn f_targets hr (by rfl) (pa_cons (pe_mtX 2 (Lv.pass fun _ _ _ h => h) hr (pv 0) (pa_cons (pv 1) pa_nil)) pa_nil))))), ?_⟩
        exact ⟨_, rfl, p, mv, rfl, ⟨dx, hp⟩, _, rfl, n, rfl, h1, h60, _, rfl, _, _, _, _, _, rfl, hp, mv.no_sources, x_sources mv, _, rfl, .m, ⟨rfl, p, n, rfl, ⟨dx, hp⟩, ok, nf⟩, hE⟩
theorem okx_period {f : Addr} {fd : FuncData} (F : Fun K "period" "period" s_period f fd) (T : Txt K mg t) (Z : ExcTxt K mg u) (x_rings : FnX P w K mg base 3 "rings" (spR u (badRings K t))) (f_common_divisor : Fn1 P w K mg base 1 "common_divisor" spGcd) : FnOk P w K mg base (CXe P w) 4 f fd ["move", "many"] (spR u (badRings K t)) := by
  refine F.okX sc_period (fun vs H Q E h => ?_) (fun cdv A outer s H vs Q E hr h Lv => ?_)
  · obtain ⟨r, ⟨v, o, rfl, _⟩, _⟩ := h
    rfl
  · obtain ⟨r, ⟨v, o, rfl, alt⟩, hE⟩ := h
    have nd := sc_period.nd
    refine ⟨_, pss_cons (ps_set (i := 2) nd rfl (Or.inl rfl) pe_int) (pss_cut (ps_for PassesOwn.leaving rfl (pi_list (pe_fnx (Lv.pass fun _ _ _ h => h) x_rings hr (by rfl) (pa_cons (pv 0) (pa_cons (pv 1) pa_nil)))) (pg_name (i := 3) nd rfl (Or.inl rfl))
 (pss_one (ps_set (i := 2) nd rfl (Or.inl rfl) (pe_op op_fdiv (pe_op op_mul (pv 2) (pe_callB call_len_seq (by rfl) T.no_len (show bootBuiltins "len" = some (.builtin "len") by decide +kernel) (pa_cons (pv 3) pa_nil))) (pe_fn f_common_divisor hr (by rfl) (pa_cons (pv 2) (pa_cons (pe_callB call_len_seq (by rfl) T.no_len (show bootBuiltins "len" = some (.builtin "len") by decide +kernel) (pa_cons (pv 3) pa_nil)) pa_nil)))))))), ?_⟩
    exact ⟨_, rfl, _, rfl, r, ⟨v, o, rfl, alt⟩, hE⟩
theorem okx_repeated {f : Addr} {fd : FuncData} (F : Fun K "repeated" "repeated" s_repeated f fd) (T : Txt K mg t) (Z : ExcTxt K mg u) (x_check_move : FnX P w K mg base 1 "check_move" (spCM K t u)) (f_check_move : Fn1 P w K mg base 1 "check_move" (spCheckMove t)) (x_check_order : FnX P w K mg base 3 "check_order" (spR u (badO K))) (f_check_order : Fn1 P w K mg base 3 "check_order" spCheckOrder) (f_is_number : Fn1 P w K mg base 1 "is_number" (spNumAny K)) (x_rings : FnX P w K mg base 3 "rings" (spR u (badRings K t))) : FnOk P w K mg base (CXe P w) 4 f fd ["move", "order", "times"] (spR u (badRep K t)) := by
  refine F.okX sc_repeated (fun vs H Q E h => ?_) (fun cdv A outer s H vs Q E hr h Lv => ?_)
  · obtain ⟨r, ⟨v, o, k, rfl, _⟩, _⟩ := h
    rfl
  · obtain ⟨r, ⟨v, o, k, rfl, alt⟩, hE⟩ := h
    have nd := sc_repeated.nd
    rcases alt with ⟨rfl, hb⟩ | ⟨p, mv, rfl, hp, alt⟩
    · refine ⟨_, pss_cut (ps_expr (pe_fnx (Lv.pass fun _ _ _ h => h) x_check_move hr (by rfl) (pa_cons (pv 0) pa_nil))), ?_⟩
      exact ⟨_, rfl, .inr ⟨.m, ⟨rfl, v, rfl, hb⟩, hE⟩⟩
    · rcases alt with ⟨rfl, hb⟩ | ⟨a, xs, rfl, ha, g, alt⟩
      · refine ⟨_, pss_cons (ps_expr (pe_fn f_check_move hr (by rfl) (pa_cons (pv 0) pa_nil))) (pss_cut (ps_expr (pe_fnx (Lv.pass fun _ _ _ h => h) x_check_order hr (by rfl) (pa_cons (pv 1) pa_nil)))), ?_⟩
        exact ⟨_, rfl, p, mv, rfl, hp, _, rfl, .o, ⟨rfl, o, rfl, hb⟩, hE⟩
      · have hl : (nv xs).length = xs.length := nv_length xs
        rcases alt with ⟨rfl, kn, hb⟩ | ⟨rfl, ok, rfl, nf⟩
        · refine ⟨_, pss_cons (ps_expr (pe_fn f_check_move hr (by rfl) (pa_cons (pv 0) pa_nil))) (pss_cons (ps_expr (pe_fn f_check_order hr (by rfl) (pa_cons (pv 1) pa_nil))) (pss_cut (ps_if (pt_not (pt_val (pe_fn f_is_number hr (by rfl) (pa_cons (pv 2) (pa_cons pe_int (pa_cons (pe_op op_pow pe_int pe_int) pa_nil))))))
 (pss_one (ps_raise Lv rfl (by rfl) Z.mg_BadNumber Z.c_BadNumber.ex (pa_cons pe_str pa_nil)))
 pss_nil))), ?_⟩
          refine ⟨_, rfl, p, mv, rfl, hp, _, rfl, a, xs, rfl, ha, g, _, rfl, _, _, rfl, rfl, ⟨by decide, by decide, by decide⟩, _, _, _, rfl, kn, _, rfl, ?_⟩
          rw [hb]
          refine iteT ?_
          exact ⟨by decide, hE _ (Same.refl H)⟩
        · refine ⟨_, pss_cons (ps_expr (pe_fn f_check_move hr (by rfl) (pa_cons (pv 0) pa_nil))) (pss_cons (ps_expr (pe_fn f_check_order hr (by rfl) (pa_cons (pv 1) pa_nil))) (pss_cons (ps_if (pt_not (pt_val (pe_fn f_is_number hr (by rfl) (pa_cons (pv 2) (pa_cons pe_int (pa_cons (pe_op op_pow pe_int pe_int) pa_nil))))))
 (pss_one (ps_raise Lv rfl (by rfl) Z.mg_BadNumber Z.c_BadNumber.ex (pa_cons pe_str pa_nil)))
 pss_nil) (pss_cons (ps_set (i := 3) nd rfl (Or.inl rfl) (pe_callTy call_list_of (by rfl) T.no_list (show bootBuiltins "list" = some (.type "list") by decide +kernel) (pa_cons (pv 1) pa_nil))) (pss_cut (ps_for PassesOwn.leaving rfl (pi_list (pe_fnx (Lv.pass fun _ _ _ h => h) x_rings hr (by rfl) (pa_cons (pv 0) (pa_cons (pe_callB call_len_seq (by rfl) T.no_len (show bootBuiltins "len" = some (.builtin "len") by decide +kernel) (pa_cons (pv 1) pa_nil)) pa_nil)))) (pg_name (i := 4) nd rfl (Or.inl rfl))
 (pss_one (ps_for PassesOwn.leaving rfl (pi_enum (by rfl) T.no_enumerate (pa_cons (pv 4) pa_nil)) (pg_tup rfl (pgs_cons (pg_name (i := 5) nd rfl (Or.inl rfl)) (pgs_cons (pg_name (i := 6) nd rfl (Or.inl rfl)) pgs_nil)))
 (pss_one (ps_asg (pe_ix ix_list (pv 1) (pv 6) (fun _ _ => rfl)) (pg_sub (pv 3) (pe_ix ix_list (pv 4) (pe_op op_mod (pe_op op_add (pv 5) (pv 2)) (pe_callB call_len_seq (by rfl) T.no_len (show bootBuiltins "len" = some (.builtin "len") by decide +kernel) (pa_cons (pv 4) pa_nil))) (fun _ _ => rfl)) set_list)))))))))), ?_⟩
          refine ⟨_, rfl, p, mv, rfl, hp, _, rfl, a, xs, rfl, ha, g, _, rfl, _, _, rfl, rfl, ⟨by decide, by decide, by decide⟩, _, _, _, rfl, .inl ⟨_, rfl⟩, _, rfl, ?_⟩
          rw [show goodB (V.int 0) 0 (10 ^ (18 : Int).toNat) = true from good_int (by decide)]
          refine iteF ?_
          refine ⟨_, rfl, _, _, rfl, .inl (SqL.of ha), fun lb hlb => ?_⟩
          have e0 := (Same.refl H).new (o := .lst (nv xs)) hlb
          exact ⟨_, rfl, _, rfl, _, _, rfl, .inl (SqL.of (e0 _ _ ha)), .m, ⟨_, _, rfl, .inr ⟨p, mv, rfl, mv_keep hp e0, .inr ⟨rfl, ok, _, rfl, by rw [hl]; exact g.2.1, by rw [hl]; exact g.2.2, by rw [hl]; exact nf⟩⟩⟩, fun H' s' => hE H' (e0.trans s')⟩
theorem okx_rows {f : Addr} {fd : FuncData} (F : Fun K "rows" "rows" s_rows f fd) (T : Txt K mg t) (Z : ExcTxt K mg u) (x_check_order : FnX P w K mg base 3 "check_order" (spR u (badO K))) : FnOk P w K mg base (CXe P w) 4 f fd ["order"] (spR u (badO K)) := by
  refine F.okX sc_rows (fun vs H Q E h => ?_) (fun cdv A outer s H vs Q E hr h Lv => ?_)
  · obtain ⟨r, ⟨_, v, rfl, _⟩, _⟩ := h
    rfl
  · obtain ⟨r, ⟨rfl, v, rfl, hb⟩, hE⟩ := h
    refine ⟨_, pss_cut (ps_expr (pe_fnx (Lv.pass fun _ _ _ h => h) x_check_order hr (by rfl) (pa_cons (pv 0) pa_nil))), ?_⟩
    exact ⟨_, rfl, .o, ⟨rfl, v, rfl, hb⟩, hE⟩
theorem okx_row_numbers {f : Addr} {fd : FuncData} (F : Fun K "row_numbers" "row_numbers" s_row_numbers f fd) (T : Txt K mg t) (Z : ExcTxt K mg u) (x_rows : FnX P w K mg base 4 "rows" (spR u (badO K))) : FnOk P w K mg base (CXe P w) 5 f fd ["order"] (spR u (badO K)) := by
  refine F.okX sc_row_numbers (fun vs H Q E h => ?_) (fun cdv A outer s H vs Q E hr h Lv => ?_)
  · obtain ⟨r, ⟨_, v, rfl, _⟩, _⟩ := h
    rfl
  · obtain ⟨r, ⟨rfl, v, rfl, hb⟩, hE⟩ := h
    have nd := sc_row_numbers.nd
    refine ⟨_, pss_cons (ps_set (i := 1) nd rfl (Or.inl rfl) (pe_lst pa_nil)) (pss_cut (ps_for PassesOwn.leaving rfl (pi_enum (by rfl) T.no_enumerate (pa_cons (pe_fnx (Lv.pass fun _ _ _ h => h) x_rows hr (by rfl) (pa_cons (pv 0) pa_nil)) pa_nil)) (pg_tup rfl (pgs_cons (pg_name (i := 2) nd rfl (Or.inl rfl)) (pgs_cons (pg_name (i := 3) nd rfl (Or.inl rfl)) pgs_nil)))
 (pss_one (ps_expr (pe_bm PySem.F.plainAttrs_list PySem.F.slot_list_extend PySem.F.type_list_extend mt_extend (pv 1) (pa_cons (pe_op op_rep (pe_lst (pa_cons (pv 2) pa_nil)) (pe_callB call_len_seq (by rfl) T.no_len (show bootBuiltins "len" = some (.builtin "len") by decide +kernel) (pa_cons (pv 3) pa_nil))) pa_nil)))))), ?_⟩
    refine ⟨(by decide), fun l1 h1 => ?_⟩
    have e0 := (Same.refl H).new (o := .lst []) h1
    exact ⟨_, rfl, .o, ⟨rfl, v, rfl, hb.keep e0⟩, fun H' s' => hE H' (e0.trans s')⟩
theorem okx_riffles_to {f : Addr} {fd : FuncData} (F : Fun K "riffles_to" "riffles_to" s_riffles_to f fd) (T : Txt K mg t) (Z : ExcTxt K mg u) (x_row_numbers : FnX P w K mg base 5 "row_numbers" (spR u (badO K))) : FnOk P w K mg base (CXe P w) 6 f fd ["order"] (spR u (badO K)) := by
  refine F.okX sc_riffles_to (fun vs H Q E h => ?_) (fun cdv A outer s H vs Q E hr h Lv => ?_)
  · obtain ⟨r, ⟨_, v, rfl, _⟩, _⟩ := h
    rfl
  · obtain ⟨r, ⟨rfl, v, rfl, hb⟩, hE⟩ := h
    have nd := sc_riffles_to.nd
    refine ⟨_, pss_cut (ps_set (i := 1) nd rfl (Or.inr rfl) (pe_fnx (Lv.pass fun _ _ _ h => h) x_row_numbers hr (by rfl) (pa_cons (pv 0) pa_nil))), ?_⟩
    exact ⟨_, rfl, .o, ⟨rfl, v, rfl, hb⟩, hE⟩
theorem okx_mixed {f : Addr} {fd : FuncData} (F : Fun K "mixed" "mixed" s_mixed f fd) (T : Txt K mg t) (Z : ExcTxt K mg u) (x_check_order : FnX P w K mg base 3 "check_order" (spR u (badO K))) : FnOk P w K mg base (CXe P w) 4 f fd ["order"] (spR u (badO K)) := by
  refine F.okX sc_mixed (fun vs H Q E h => ?_) (fun cdv A outer s H vs Q E hr h Lv => ?_)
  · obtain ⟨r, ⟨_, v, rfl, _⟩, _⟩ := h
    rfl
  · obtain ⟨r, ⟨rfl, v, rfl, hb⟩, hE⟩ := h
    refine ⟨_, pss_cut (ps_expr (pe_fnx (Lv.pass fun _ _ _ h => h) x_check_order hr (by rfl) (pa_cons (pv 0) pa_nil))), ?_⟩
    exact ⟨_, rfl, .o, ⟨rfl, v, rfl, hb⟩, hE⟩
theorem okx_ways {f : Addr} {fd : FuncData} (F : Fun K "ways" "ways" s_ways f fd) (T : Txt K mg t) (Z : ExcTxt K mg u) (x_check_order : FnX P w K mg base 3 "check_order" (spR u (badO K))) (f_check_order : Fn1 P w K mg base 3 "check_order" spCheckOrder) (f_is_number : Fn1 P w K mg base 1 "is_number" (spNumAny K)) : FnOk P w K mg base (CXe P w) 5 f fd ["order", "many"] (spR u (badWays K)) := by
  refine F.okX sc_ways (fun vs H Q E h => ?_) (fun cdv A outer s H vs Q E hr h Lv => ?_)
  · obtain ⟨r, ⟨o, k, rfl, _⟩, _⟩ := h
    rfl
  · obtain ⟨r, ⟨o, k, rfl, alt⟩, hE⟩ := h
    rcases alt with ⟨rfl, hb⟩ | ⟨a, xs, rfl, ha, g, rfl, kn, hb⟩
    · refine ⟨_, pss_cut (ps_expr (pe_fnx (Lv.pass fun _ _ _ h => h) x_check_order hr (by rfl) (pa_cons (pv 0) pa_nil))), ?_⟩
      exact ⟨_, rfl, .o, ⟨rfl, o, rfl, hb⟩, hE⟩
    · refine ⟨_, pss_cons (ps_expr (pe_fn f_check_order hr (by rfl) (pa_cons (pv 0) pa_nil))) (pss_cut (ps_if (pt_not (pt_val (pe_fn f_is_number hr (by rfl) (pa_cons (pv 1) (pa_cons pe_int (pa_cons pe_int pa_nil))))))
 (pss_one (ps_raise Lv rfl (by rfl) Z.mg_BadNumber Z.c_BadNumber.ex (pa_cons pe_str pa_nil)))
 pss_nil)), ?_⟩
      refine ⟨_, rfl, a, xs, rfl, ha, g, _, rfl, _, _, _, rfl, kn, _, rfl, ?_⟩
      rw [hb]
      refine iteT ?_
      exact ⟨by decide, hE _ (Same.refl H)⟩
theorem okx_orders_with {f : Addr} {fd : FuncData} (F : Fun K "orders_with" "orders_with" s_orders_with f fd) (T : Txt K mg t) (Z : ExcTxt K mg u) (x_check_cards : FnX P w K mg base 2 "check_cards" (spR u (badN K .n 1 60))) (f_check_cards : Fn1 P w K mg base 2 "check_cards" spCards) (f_is_number : Fn1 P w K mg base 1 "is_number" (spNumAny K)) : FnOk P w K mg base (CXe P w) 3 f fd ["cards", "many"] (spR u (badOw K)) := by
  refine F.okX sc_orders_with (fun vs H Q E h => ?_) (fun cdv A outer s H vs Q E hr h Lv => ?_)
  · obtain ⟨r, ⟨o, k, rfl, _⟩, _⟩ := h
    rfl
  · obtain ⟨r, ⟨o, k, rfl, rfl, alt⟩, hE⟩ := h
    rcases alt with hb | ⟨n, rfl, h1, h60, kn, hb⟩
    · refine ⟨_, pss_cut (ps_expr (pe_fnx (Lv.pass fun _ _ _ h => h) x_check_cards hr (by rfl) (pa_cons (pv 0) pa_nil))), ?_⟩
      exact ⟨_, rfl, .n, ⟨rfl, o, rfl, hb⟩, hE⟩
    · refine ⟨_, pss_cons (ps_expr (pe_fn f_check_cards hr (by rfl) (pa_cons (pv 0) pa_nil))) (pss_cut (ps_if (pt_not (pt_val (pe_fn f_is_number hr (by rfl) (pa_cons (pv 1) (pa_cons pe_int (pa_cons (pe_globI rfl T.mg_MOST_CARDS) pa_nil))))))
 (pss_one (ps_raise Lv rfl (by rfl) Z.mg_BadNumber Z.c_BadNumber.ex (pa_cons pe_str pa_nil)))
 pss_nil)), ?_⟩
      refine ⟨_, rfl, n, rfl, h1, h60, _, rfl, _, _, _, rfl, kn, _, rfl, ?_⟩
      rw [hb]
      refine iteT ?_
      exact ⟨by decide, hE _ (Same.refl H)⟩
theorem okx_brought {f : Addr} {fd : FuncData} (F : Fun K "brought" "brought" s_brought f fd) (T : Txt K mg t) (Z : ExcTxt K mg u) (f_is_number : Fn1 P w K mg base 1 "is_number" (spNumAny K)) : FnOk P w K mg base (CXe P w) 5 f fd ["cards", "place"] (spR u (badBr K)) := by
  refine F.okX sc_brought (fun vs H Q E h => ?_) (fun cdv A outer s H vs Q E hr h Lv => ?_)
  · obtain ⟨r, ⟨o, k, rfl, _⟩, _⟩ := h
    rfl
  · obtain ⟨r, ⟨o, k, rfl, rfl, alt⟩, hE⟩ := h
    rcases alt with ⟨kn, hb⟩ | ⟨n, rfl, h2, h60, alt⟩
    · refine ⟨_, pss_cut (ps_if (PW.pt (pw_or (pt_not (pt_val (pe_fn f_is_number hr (by rfl) (pa_cons (pv 0) (pa_cons pe_int (pa_cons (pe_globI rfl T.mg_MOST_CARDS) pa_nil)))))) (pw_or1 (pt_cmpR op_eq (pe_op op_mod (pv 0) pe_int) pe_int (nomark _)))))
 (pss_one (ps_raise Lv rfl (by rfl) Z.mg_BadNumber Z.c_BadNumber.ex (pa_cons pe_str pa_nil)))
 pss_nil), ?_⟩
      refine ⟨_, rfl, _, _, _, rfl, kn, _, rfl, ?_⟩
      rw [hb]
      refine iteT ?_
      refine iteT ?_
      exact ⟨by decide, hE _ (Same.refl H)⟩
    · rcases alt with hodd | ⟨hev, kn, hb⟩
      · refine ⟨_, pss_cut (ps_if (PW.pt (pw_or (pt_not (pt_val (pe_fn f_is_number hr (by rfl) (pa_cons (pv 0) (pa_cons pe_int (pa_cons (pe_globI rfl T.mg_MOST_CARDS) pa_nil)))))) (pw_or1 (pt_cmpR op_eq (pe_op op_mod (pv 0) pe_int) pe_int (nomark _)))))
 (pss_one (ps_raise Lv rfl (by rfl) Z.mg_BadNumber Z.c_BadNumber.ex (pa_cons pe_str pa_nil)))
 pss_nil), ?_⟩
        refine ⟨_, rfl, _, _, _, rfl, .inl ⟨_, rfl⟩, _, rfl, ?_⟩
        rw [show goodB (V.int (n : Int)) 2 60 = true from good_int (by omega)]
        refine iteF ?_
        refine ⟨_, rfl, _, _, rfl, rfl, (by show (0 : Int) < 2; decide), rfl, _, rfl, ?_⟩
        rw [show decide (V.int ((n : Int) % 2) = V.int 1) = true from decide_eq_true (by congr 1; omega)]
        refine iteT ?_
        exact ⟨by decide, hE _ (Same.refl H)⟩
      · refine ⟨_, pss_cons (ps_if (PW.pt (pw_or (pt_not (pt_val (pe_fn f_is_number hr (by rfl) (pa_cons (pv 0) (pa_cons pe_int (pa_cons (pe_globI rfl T.mg_MOST_CARDS) pa_nil)))))) (pw_or1 (pt_cmpR op_eq (pe_op op_mod (pv 0) pe_int) pe_int (nomark _)))))
 (pss_one (ps_raise Lv rfl (by rfl) Z.mg_BadNumber Z.c_BadNumber.ex (pa_cons pe_str pa_nil)))
 pss_nil) (pss_cut (ps_if (pt_not (pt_val (pe_fn f_is_number hr (by rfl) (pa_cons (pv 1) (pa_cons pe_int (pa_cons (pe_op op_sub (pv 0) pe_int) pa_nil))))))
 (pss_one (ps_raise Lv rfl (by rfl) Z.mg_BadNumber Z.c_BadNumber.ex (pa_cons pe_str pa_nil)))
 pss_nil)), ?_⟩
        refine ⟨_, rfl, _, _, _, rfl, .inl ⟨_, rfl⟩, _, rfl, ?_⟩
        rw [show goodB (V.int (n : Int)) 2 60 = true from good_int (by omega)]
        refine iteF ?_
        refine ⟨_, rfl, _, _, rfl, rfl, (by show (0 : Int) < 2; decide), rfl, _, rfl, ?_⟩
        rw [show decide (V.int ((n : Int) % 2) = V.int 1) = false from decide_eq_false (fun e => by injection e with e; omega)]
        refine iteF ?_
        refine ⟨_, rfl, _, rfl, _, _, rfl, rfl, _, _, _, rfl, kn, _, rfl, ?_⟩
        rw [show goodB k 0 ((n : Int) - 1) = false from hb]
        refine iteT ?_
        exact ⟨by decide, hE _ (Same.refl H)⟩
theorem okx_written {f : Addr} {fd : FuncData} (F : Fun K "written" "written" s_written f fd) (T : Txt K mg t) (Z : ExcTxt K mg u) (x_check_moves : FnX P w K mg base 2 "check_moves" (spR u (badMs K t))) : FnOk P w K mg base (CXe P w) 3 f fd ["moves"] (spR u (badMs K t)) := by
  refine F.okX sc_written (fun vs H Q E h => ?_) (fun cdv A outer s H vs Q E hr h Lv => ?_)
  · obtain ⟨r, ⟨_, v, rfl, _⟩, _⟩ := h
    rfl
  · obtain ⟨r, ⟨rfl, v, rfl, hb⟩, hE⟩ := h
    refine ⟨_, pss_cut (ps_expr (pe_fnx (Lv.pass fun _ _ _ h => h) x_check_moves hr (by rfl) (pa_cons (pv 0) pa_nil))), ?_⟩
    exact ⟨_, rfl, .m, ⟨rfl, v, rfl, hb⟩, hE⟩
end
end Rf

set_option Elab.async false
set_option linter.all false
set_option maxRecDepth 100000
set_option maxHeartbeats 1000000
namespace L2
open PySem
theorem call_isiXK {X : Cx} {K : PySem.W.Frag} (h : X.K = K) : CallR X (.builtin "isinstance") (fun xs H Q => ∃ e D c b, xs = [.ref e, c] ∧ H e = some (excO e (.ref D)) ∧ ExcCl K D ∧ ((∃ n, c = .ty n) ∨ ∃ a, c = .ref a) ∧ PySem.W.kitOne K (.ref D) (valOf c) = some b ∧ Q (.bl b) H) := by
  subst h
  exact call_isiX
end L2
namespace Rf
open PySem L2
def kindsV (r : Rz) : List V := (kindsB r).map V.bl
theorem kinds_flat (r : Rz) : (kindsV r).all flatV = true := by cases r <;> rfl
theorem kinds_five (r : Rz) : [V.bl ((kindsB r).getD 0 false), V.bl ((kindsB r).getD 1 false), V.bl ((kindsB r).getD 2 false)] ++ [V.bl false, V.bl true] = kindsV r := by cases r <;> rfl
theorem kinds_eq (r : Rz) : eqVs (kindsV r) (kindsV r) = true := by cases r <;> decide
def spKinds (u : XA) : Sp := fun vs H Q _ => ∃ (e : Addr) (r : Rz), vs = [.ref e] ∧ H e = some (excO e (.ref (u.at_ r))) ∧ ∀ l, H l = none → Q (.ref l) (upd H l (.lst (kindsV r)))
def spTold10 (P : Program) (w : World) (K : PySem.W.Frag) (mg : Str → Option Value) (base : Heap) (u : XA) : Sp := fun vs H Q _ => ∃ (f : Addr) (v1 v2 : V) (r : Rz) (sp : Sp), vs = [.ref f, v1, v2] ∧ Ask P w K mg base 7 f sp ∧
  (∀ (Q : VK) (E : XK), (∀ H', Same H H' → E (.ref (u.at_ r)) none H') → sp [v1, v2] H Q E) ∧ ∀ l, H l = none → Q (.ref l) (upd H l (.lst (kindsV r)))
def spAllL (P : Program) (w : World) (K : PySem.W.Frag) (mg : Str → Option Value) (base : Heap) (u : XA) : Sp := fun vs H Q _ => ∃ (f l d : Addr) (n : Nat) (r : Rz) (sp : Sp) (ths : List V), vs = [.ref f, .int (n : Int), .ref l, .ref d] ∧ n ≤ 100 ∧ Ask P w K mg base 7 f sp ∧
  H l = some (.lst ths) ∧ H d = some (.lst (kindsV r)) ∧ (∀ (i : Nat) (v : V) (H' : Hp) (Q : VK) (E : XK), i < n → v ∈ ths → Same H H' → (∀ H'', Same H' H'' → E (.ref (u.at_ r)) none H'') → sp [.int (i : Int), v] H' Q E) ∧ Q (.bl true) H
def spOrds (K : PySem.W.Frag) : Sp := fun vs H Q _ => ∃ far : Nat, vs = [.int (far : Int)] ∧ far < 1000000 ∧ ∀ (l : Addr) (ths : List V) (H' : Hp), Same H H' → H' l = some (.lst ths) → (∀ v ∈ ths, BadOrd K H' v) → Q (.ref l) H'
def badMade (K : PySem.W.Frag) : Rz → List V → Hp → Prop := fun r vs H => r = .m ∧ ∃ (d : Nat) (v : V), vs = [.int (d : Int), v] ∧ ((d = 0 ∧ BadNum K H v 0 60) ∨ (d = 1 ∧ BadNum K H v 1 60) ∨ (d = 2 ∧ BadNum K H v 0 1) ∨ (d = 3 ∧ BadWord K H v))
theorem same_mk {H : Hp} {x dx : Addr} {C : Addr} {fs : List (Str × V)} (nx : H x = none) (ndx : H dx = none) : Same H (upd (upd H dx (.own x)) x (.ins C dx fs)) := ((Same.refl H).new ndx).upd nx
section
variable {K : PySem.W.Frag} {H : Hp} {l : Addr} {xs : List V}
theorem bo_no {v : V} (h : NoTy K H v (.type "list")) : BadOrd K H v := .inl h
theorem bo_long (h : H l = some (.lst xs)) (hz : 60 < xs.length ∧ xs.length ≤ 1000) (kn : ∀ x ∈ xs, Known K H x) : BadOrd K H (.ref l) := .inr ⟨l, xs, rfl, h, hz.2, kn, .inl (.inr hz.1)⟩
theorem bo_two {a b : V} (h : H l = some (.lst [a, b])) (ka : Known K H a) (kb : Known K H b) (hb : goodB a 0 1 = false ∨ goodB b 0 1 = false) : BadOrd K H (.ref l) := by
  refine .inr ⟨l, [a, b], rfl, h, (by show 2 ≤ 1000; decide), fun x hx => ?_, .inr (.inl ⟨(by show 1 ≤ 2; decide), (by show 2 ≤ 60; decide), ?_⟩)⟩
  · rcases List.mem_cons.mp hx with z | z
    · rw [z]; exact ka
    · rw [List.mem_singleton.mp z]; exact kb
  · rcases hb with z | z
    · exact ⟨a, List.mem_cons_self, z⟩
    · exact ⟨b, List.mem_cons_of_mem _ List.mem_cons_self, z⟩
end
theorem body__law_orders {C : Prop} (k : ∀ p1 e1 e2 e3 e4 e5 e6 e7 p2 p3 p4 p5 p6 p7 p8 p9 p10 p11 e8 p12 e9 e10 e11 p13 p14, defBody s__law_orders = [.Assign [.Name "_law_bad" p1] (.List [e1, e2, e3, e4, e5, e6, .List [e7, .BinOp (.Constant (.int 2) p2 p3) .Add (.Name "_law_far" p4) p5] p6, .List [.BinOp (.UnaryOp .USub (.Constant (.int 1) p7 p8) p9) .Sub (.Name "_law_far" p10) p11, e8] p12, e9, e10, e11] p13) p14,
    ((defBody s__law_orders).getD 1 (.Pass ⟨0, 0, 0, 0⟩))] → Itm e1 (tC (.non)) → Itm e2 (tLst (tK [])) → Itm e3 (tTup (tK [.int 0, .int 1])) → Itm e4 (tC (.str (Str.ofString "01"))) → Itm e5 (tLst (tK [.int 0, .int 0])) → Itm e6 (tLst (tK [.int 1, .int 2])) → Itm e7 (tC (.int 0)) → Itm e8 (tC (.int 0)) → Itm e9 (tLst (tK [.bl true, .int 0])) → Itm e10 (tLst (tK [.str (Str.ofString "0"), .str (Str.ofString "1")])) → Itm e11 (tLst (tK [.int 0, .non])) → C) : C := k _ _ _ _ _ _ _ _ _ _ _ _ _ _ _ _ _ _ _ _ _ _ _ _ _ rfl (itm_con rfl) (itm_lst rfl) (itm_tup rfl) (itm_con rfl) (itm_lst rfl) (itm_lst rfl) (itm_con rfl) (itm_con rfl) (itm_lst rfl) (itm_lst rfl) (itm_lst rfl)
section
variable {P : Program} {w : World} {K : PySem.W.Frag} {mg : Str → Option Value} {base : Heap} {t : Adr} {u : XA}
theorem okh__law_kinds {f : Addr} {fd : FuncData} (F : Fun K "_law_kinds" "_law_kinds" s__law_kinds f fd) (T : Txt K mg t) (Z : ExcTxt K mg u) : FnOkH P w K mg base 1 f fd ["_law_error"] (spKinds u) := by
  refine F.okH sc__law_kinds (fun vs H Q E h => ?_) (fun cdv A outer s H vs Q h => ?_)
  · obtain ⟨e, r, rfl, _⟩ := h
    rfl
  · obtain ⟨e, r, rfl, he, q⟩ := h
    have nd := sc__law_kinds.nd
    refine ⟨_, (pss_cons (ps_set (i := 1) nd rfl (Or.inl rfl) (pe_lst (pa_cons (pe_callB (call_isiXK (K := K) rfl) (by rfl) T.no_isinstance (show bootBuiltins "isinstance" = some (.builtin "isinstance") by decide +kernel) (pa_cons (pv 0) (pa_cons (pe_glob (v := .ref _) rfl Z.mg_BadOrder rfl) pa_nil))) (pa_cons (pe_callB (call_isiXK (K := K) rfl) (by rfl) T.no_isinstance (show bootBuiltins "isinstance" = some (.builtin "isinstance") by decide +kernel) (pa_cons (pv 0) (pa_cons (pe_glob (v := .ref _) rfl Z.mg_BadMove rfl) pa_nil))) (pa_cons (pe_callB (call_isiXK (K := K) rfl) (by rfl) T.no_isinstance (show bootBuiltins "isinstance" = some (.builtin "isinstance") by decide +kernel) (pa_cons (pv 0) (pa_cons (pe_glob (v := .ref _) rfl Z.mg_BadNumber rfl) pa_nil))) pa_nil)))))
 (pss_one (ps_ret (pe_op op_cat (pv 1) (pe_lst (pa_cons (pe_callB (call_isiXK (K := K) rfl) (by rfl) T.no_isinstance (show bootBuiltins "isinstance" = some (.builtin "isinstance") by decide +kernel) (pa_cons (pv 0) (pa_cons (pe_glob (v := .ref _) rfl Z.mg_BadText rfl) pa_nil))) (pa_cons (pe_callB (call_isiXK (K := K) rfl) (by rfl) T.no_isinstance (show bootBuiltins "isinstance" = some (.builtin "isinstance") by decide +kernel) (pa_cons (pv 0) (pa_cons (pe_bltn (v := .ty "ValueError") rfl Z.no_ValueError (show bootBuiltins "ValueError" = some (.type "ValueError") by decide +kernel) rfl) pa_nil))) pa_nil))))))), ?_⟩
    refine ⟨_, rfl, e, _, _, _, rfl, he, Z.c_at r, .inr ⟨_, rfl⟩, Z.k_order r, _, rfl, e, _, _, _, rfl, he, Z.c_at r, .inr ⟨_, rfl⟩, Z.k_move r, _, rfl, e, _, _, _, rfl, he, Z.c_at r, .inr ⟨_, rfl⟩, Z.k_number r, (by show 3 ≤ sizeLine; decide), fun l1 h1 => ?_⟩
    have s1 := (Same.refl H).new (o := .lst [V.bl ((kindsB r).getD 0 false), V.bl ((kindsB r).getD 1 false), V.bl ((kindsB r).getD 2 false)]) h1
    refine ⟨_, rfl, _, rfl, e, _, _, _, rfl, s1 _ _ he, Z.c_at r, .inr ⟨_, rfl⟩, Z.k_text r, _, rfl, e, _, _, _, rfl, s1 _ _ he, Z.c_at r, .inl ⟨_, rfl⟩, Z.k_value r, (by show 2 ≤ sizeLine; decide), fun l2 h2 => ?_⟩
    refine ⟨_, _, _, _, rfl, rfl, Same.new (Same.refl _) h2 _ _ upd_same, upd_same, (by show 5 ≤ sizeLine; decide), fun l3 h3 => ?_⟩
    refine end_lst ((s1.new h2).new h3) ((s1.new h2).free h3) upd_same ?_
    rw [kinds_five]
    exact q
theorem okn__law_told {f : Addr} {fd : FuncData} (F : Fun K "_law_told" "_law_told" s__law_told f fd) (T : Txt K mg t) (Z : ExcTxt K mg u) (h__law_kinds : FnH P w K mg base 1 "_law_kinds" (spKinds u)) : FnOk P w K mg base CX0 8 f fd ["_law_ask", "_law_one", "_law_other"] (spTold10 P w K mg base u) := by
  refine F.okG sc__law_told (fun vs H Q E h => ?_) (fun cdv A outer s H vs Q E hr h => ?_)
  · obtain ⟨f, v1, v2, r, sp, rfl, _⟩ := h
    rfl
  · obtain ⟨fa, v1, v2, r, sp, rfl, hA, hsp, q⟩ := h
    have nd := sc__law_told.nd
    refine ⟨_, pss_cons (ps_tryAs (i := 3) (Eh := fun cls d H' => cls = .ref (u.at_ r) ∧ Same H H') rfl rfl rfl nd rfl rfl rfl (by rfl) Z.mg_PackError Z.c_PackError (fun _ _ _ h => ⟨u.at_ r, h.1, Z.m_pack r⟩)
      (fun pn xe hx => pss_one (ps_expr (pe_askK (P := P) (w := w) (K := K) (mg := mg) (base := base) (k := 7) ⟨rfl, rfl, rfl, rfl, rfl⟩ hx hr (pv 0) (pa_cons (pv 1) (pa_cons (pv 2) pa_nil)))))
      (fun e => pss_one (ps_ret (pe_fnh h__law_kinds (j := 7) ⟨hr.dp, hr.un⟩ (by rfl) (pa_cons (pv 3) pa_nil)))))
      (pss_one (ps_ret (pe_lst pa_nil))), ?_⟩
    refine ⟨⟨fa, sp, rfl, hA, _, rfl, _, rfl, hsp _ _ fun H' s' => ⟨rfl, s'⟩⟩, ?_⟩
    rintro e cls d H' ⟨rfl, s'⟩ ne
    refine ⟨_, rfl, e, r, rfl, upd_same, fun l hl => ?_⟩
    exact end_lst ((s'.new ne).new hl) ((s'.new ne).free hl) upd_same q
theorem okn__law_all {f : Addr} {fd : FuncData} (F : Fun K "_law_all" "_law_all" s__law_all f fd) (T : Txt K mg t) (f__law_told : Fn1 P w K mg base 8 "_law_told" (spTold10 P w K mg base u)) : FnOk P w K mg base CX0 9 f fd ["_law_ask", "_law_doors", "_law_things", "_law_due"] (spAllL P w K mg base u) := by
  refine F.okG sc__law_all (fun vs H Q E h => ?_) (fun cdv A outer s H vs Q E hr h => ?_)
  · obtain ⟨f, l, d, n, r, sp, ths, rfl, _⟩ := h
    rfl
  · obtain ⟨fa, l, d, n, r, sp, ths, rfl, hn, hA, hl, hd, hbad, q⟩ := h
    have nd := sc__law_all.nd
    have hu := hr.units0
    refine ⟨_, (pss_cons (ps_for PassesOwn.never rfl (pi_rng (pe_callTy call_rng1 (by rfl) T.no_range (show bootBuiltins "range" = some (.type "range") by decide +kernel) (pa_cons (pv 1) pa_nil))) (pg_name (i := 4) nd rfl (Or.inl rfl))
 (pss_one (ps_for PassesOwn.never rfl (pi_list (pv 2)) (pg_name (i := 5) nd rfl (Or.inl rfl))
 (pss_one (ps_if (pt_cmpR (op_neL hu) (pe_fn f__law_told hr (by rfl) (pa_cons (pv 0) (pa_cons (pv 4) (pa_cons (pv 5) pa_nil)))) (pv 3) (nomark _))
 (pss_one (ps_ret pe_bl))
 pss_nil)))))
 (pss_one (ps_ret pe_bl))), ?_⟩
    refine ⟨_, rfl, _, rfl, fun r1 h1 => ?_⟩
    refine ⟨_, _, _, _, _, rfl, upd_same, rng_small (by decide) ⟨by omega, by omega⟩ (by decide) (by decide), rng_up, ?_⟩
    rw [show ((n : Int) - 0).toNat = n by omega]
    have s0 := (Same.refl H).new (o := rngO r1 0 (n : Int) 1) h1
    refine for_range3 (fun i σ H' => ∃ a b, σ = [some (.ref fa), some (.int (n : Int)), some (.ref l), some (.ref d), a, b] ∧ Same H H') ⟨none, none, rfl, s0⟩ ?_ ?_
    · rintro i σ H1 hi ⟨a, b, rfl, se⟩
      rw [show (0 : Int) + (i : Int) * 1 = (i : Int) by omega]
      refine ⟨_, rfl, _, rfl, ⟨_, SqL.of (se _ _ hl)⟩, ?_⟩
      refine for_list (xs := ths) (fun j σ H' => ∃ b, σ = [some (.ref fa), some (.int (n : Int)), some (.ref l), some (.ref d), some (.int (i : Int)), b] ∧ Same H H') ⟨_, rfl, se⟩ (fun j σ H' _ z => ?_) ?_ ?_
      · obtain ⟨_, _, se'⟩ := z
        exact SqL.of (se' _ _ hl)
      · rintro j v σ H2 hv ⟨b2, rfl, se2⟩
        refine ⟨_, rfl, _, rfl, _, rfl, fa, _, _, r, sp, rfl, hA, fun Q' E' hE => hbad i v _ Q' E' hi (List.mem_of_getElem? hv) se2 hE, fun l3 h3 => ?_⟩
        have s3 := Same.new (Same.refl H2) (o := .lst (kindsV r)) h3
        refine ⟨_, rfl, _, _, _, _, rfl, rfl, SqL.of upd_same, SqL.of (s3 _ _ (se2 _ _ hd)), kinds_flat r, kinds_flat r, _, rfl, ?_⟩
        rw [kinds_eq]
        refine iteF ?_
        exact ⟨_, rfl, se2.trans s3⟩
      · rintro σ H2 ⟨b2, rfl, se2⟩
        exact ⟨_, _, rfl, se2⟩
    · rintro σ H1 ⟨a, b, rfl, se⟩
      exact end_same se q
theorem okx__law_made {f : Addr} {fd : FuncData} (F : Fun K "_law_made" "_law_made" s__law_made f fd) (T : Txt K mg t) (Z : ExcTxt K mg u) (y_Cut : MkX P w K mg base 3 "Cut" t.cut (spR u (badI K fun H v => BadNum K H v 0 60))) (y_Deal : MkX P w K mg base 3 "Deal" t.deal (spR u (badI K fun H v => BadNum K H v 1 60))) (y_Weave : MkX P w K mg base 3 "Weave" t.weave (spR u (badI K fun H v => BadNum K H v 0 1))) (y_Riffle : MkX P w K mg base 3 "Riffle" t.riffle (spR u (badI K fun H v => BadWord K H v))) : FnOk P w K mg base (CXe P w) 5 f fd ["_law_door", "_law_bad"] (spR u (badMade K)) := by
  refine F.okX sc__law_made (fun vs H Q E h => ?_) (fun cdv A outer s H vs Q E hr h Lv => ?_)
  · obtain ⟨r, ⟨_, d, v, rfl, _⟩, _⟩ := h
    rfl
  · obtain ⟨r, ⟨rfl, d, v, rfl, alt⟩, hE⟩ := h
    rcases alt with ⟨rfl, hb⟩ | ⟨rfl, hb⟩ | ⟨rfl, hb⟩ | ⟨rfl, hb⟩
    · refine ⟨_, (pss_cut (ps_ifT (pt_cmpR op_eq (pv 0) pe_int (nomark _))
 (pss_one (ps_ret (pe_mkx (Lv.pass fun _ _ _ h => h) y_Cut hr (by rfl) (pa_cons (pv 1) pa_nil)))))), ?_⟩
      refine ⟨_, rfl, rfl, _, rfl, (by decide +kernel), _, rfl, fun x dx nx ndx nex => ⟨.m, ⟨rfl, _, _, rfl, hb.keep (same_mk nx ndx)⟩, fun H' s' => hE H' ((same_mk nx ndx).trans s')⟩⟩
    · refine ⟨_, (pss_cons (ps_ifF (pt_cmpR op_eq (pv 0) pe_int (nomark _)) pss_nil)
 (pss_cut (ps_ifT (pt_cmpR op_eq (pv 0) pe_int (nomark _))
 (pss_one (ps_ret (pe_mkx (Lv.pass fun _ _ _ h => h) y_Deal hr (by rfl) (pa_cons (pv 1) pa_nil))))))), ?_⟩
      refine ⟨_, rfl, rfl, _, rfl, (by decide +kernel), _, rfl, rfl, _, rfl, (by decide +kernel), _, rfl, fun x dx nx ndx nex => ⟨.m, ⟨rfl, _, _, rfl, hb.keep (same_mk nx ndx)⟩, fun H' s' => hE H' ((same_mk nx ndx).trans s')⟩⟩
    · refine ⟨_, (pss_cons (ps_ifF (pt_cmpR op_eq (pv 0) pe_int (nomark _)) pss_nil)
 (pss_cons (ps_ifF (pt_cmpR op_eq (pv 0) pe_int (nomark _)) pss_nil)
 (pss_cut (ps_ifT (pt_cmpR op_eq (pv 0) pe_int (nomark _))
 (pss_one (ps_ret (pe_mkx (Lv.pass fun _ _ _ h => h) y_Weave hr (by rfl) (pa_cons (pv 1) pa_nil)))))))), ?_⟩
      refine ⟨_, rfl, rfl, _, rfl, (by decide +kernel), _, rfl, rfl, _, rfl, (by decide +kernel), _, rfl, rfl, _, rfl, (by decide +kernel), _, rfl, fun x dx nx ndx nex => ⟨.m, ⟨rfl, _, _, rfl, hb.keep (same_mk nx ndx)⟩, fun H' s' => hE H' ((same_mk nx ndx).trans s')⟩⟩
    · refine ⟨_, (pss_cons (ps_ifF (pt_cmpR op_eq (pv 0) pe_int (nomark _)) pss_nil)
 (pss_cons (ps_ifF (pt_cmpR op_eq (pv 0) pe_int (nomark _)) pss_nil)
 (pss_cons (ps_ifF (pt_cmpR op_eq (pv 0) pe_int (nomark _)) pss_nil)
 (pss_one (ps_ret (pe_mkx (Lv.pass fun _ _ _ h => h) y_Riffle hr (by rfl) (pa_cons (pv 1) pa_nil))))))), ?_⟩
      refine ⟨_, rfl, rfl, _, rfl, (by decide +kernel), _, rfl, rfl, _, rfl, (by decide +kernel), _, rfl, rfl, _, rfl, (by decide +kernel), _, rfl, fun x dx nx ndx nex => ⟨.m, ⟨rfl, _, _, rfl, hb.keep (same_mk nx ndx)⟩, fun H' s' => hE H' ((same_mk nx ndx).trans s')⟩⟩
theorem bo_nil {H : Hp} {l : Addr} (h : H l = some (.lst [])) : BadOrd K H (.ref l) := .inr ⟨l, [], rfl, h, by decide, fun x hx => absurd hx List.not_mem_nil, .inl (.inl rfl)⟩
theorem bo_zz {H : Hp} {l : Addr} (h : H l = some (.lst [.int 0, .int 0])) : BadOrd K H (.ref l) := .inr ⟨l, _, rfl, h, by decide, fun x hx => by
    rcases List.mem_cons.mp hx with z | z
    · exact .inl ⟨0, z⟩
    · exact .inl ⟨0, List.mem_singleton.mp z⟩, .inr (.inr rfl)⟩
theorem bo_one {H : Hp} {l a : Addr} {xs : List V} (ha : H a = some (.lst xs)) (h : H l = some (.lst [.ref a])) : BadOrd K H (.ref l) := .inr ⟨l, _, rfl, h, (by show 1 ≤ 1000; decide), fun x hx => by
    rw [List.mem_singleton.mp hx]
    exact .inr (ni_lst ha), .inr (.inl ⟨(by show 1 ≤ 1; decide), (by show 1 ≤ 60; decide), .ref a, List.mem_cons_self, rfl⟩)⟩
theorem rng_known {H : Hp} {lo st : Int} {n : Nat} : ∀ x ∈ rngV lo st n, Known K H x := by
  intro x hx
  unfold rngV at hx
  obtain ⟨i, _, rfl⟩ := List.mem_map.mp hx
  exact .inl ⟨_, rfl⟩
theorem okn__law_orders {f : Addr} {fd : FuncData} (F : Fun K "_law_orders" "_law_orders" s__law_orders f fd) (T : Txt K mg t) : FnOk P w K mg base CX0 1 f fd ["_law_far"] (spOrds K) := by
  refine F.okG sc__law_orders (fun vs H Q E h => ?_) (fun cdv A outer s H vs Q E hr h => ?_)
  · obtain ⟨far, rfl, _⟩ := h
    rfl
  · obtain ⟨far, rfl, hf, q⟩ := h
    have nd := sc__law_orders.nd
    refine body__law_orders fun p1 e1 e2 e3 e4 e5 e6 e7 p2 p3 p4 p5 p6 p7 p8 p9 p10 p11 e8 p12 e9 e10 e11 p13 p14 eb he1 he2 he3 he4 he5 he6 he7 he8 he9 he10 he11 => ?_
    rw [eb]
    refine ⟨_, (pss_cons (ps_set (i := 1) nd rfl (Or.inl rfl) (pe_lst (pa_I he1 (pa_I he2 (pa_I he3 (pa_I he4 (pa_I he5 (pa_I he6 (pa_cons (pe_lst (pa_I he7 (pa_cons (pe_op op_add pe_int (pv 0)) pa_nil))) (pa_cons (pe_lst (pa_cons (pe_op op_sub (pe_neg) (pv 0)) (pa_I he8 pa_nil))) (pa_I he9 (pa_I he10 (pa_I he11 pa_nil)))))))))))))
 (pss_one (ps_ret (pe_op op_cat (pv 1) (pe_lst (pa_cons (pe_callTy (call_list_rng rfl) (by rfl) T.no_list (show bootBuiltins "list" = some (.type "list") by decide +kernel) (pa_cons (pe_callTy call_rng1 (by rfl) T.no_range (show bootBuiltins "range" = some (.type "range") by decide +kernel) (pa_cons pe_int pa_nil)) pa_nil)) (pa_cons (pe_callTy (call_list_rng rfl) (by rfl) T.no_list (show bootBuiltins "list" = some (.type "list") by decide +kernel) (pa_cons (pe_callTy call_rng1 (by rfl) T.no_range (show bootBuiltins "range" = some (.type "range") by decide +kernel) (pa_cons (pe_op op_add pe_int (pe_op op_mod (pv 0) pe_int)) pa_nil)) pa_nil)) (pa_cons (pe_lst (pa_cons (pe_lst (pa_cons pe_int pa_nil)) pa_nil)) (pa_cons pe_dnew pa_nil))))))))), ?_⟩
    have s := Same.refl H
    refine ⟨(by show 0 ≤ sizeLine; decide), fun l1 h1 => ?_⟩
    have sa := Same.new (Same.refl H) (o := .lst []) h1
    have ga : upd H l1 (.lst []) l1 = some (.lst []) := upd_same
    revert sa ga
    generalize upd H l1 (.lst []) = H1
    intro sa ga
    replace s := s.trans sa
    have b_l1 : BadOrd K H1 (.ref l1) := bo_nil ga
    refine ⟨(by show 2 ≤ sizeLine; decide), fun l2 h2 => ?_⟩
    have sa := Same.new (Same.refl H1) (o := .tup [.int 0, .int 1]) h2
    have ga : upd H1 l2 (.tup [.int 0, .int 1]) l2 = some (.tup [.int 0, .int 1]) := upd_same
    revert sa ga
    generalize upd H1 l2 (.tup [.int 0, .int 1]) = H2
    intro sa ga
    replace s := s.trans sa
    replace b_l1 := b_l1.keep sa
    have b_l2 : BadOrd K H2 (.ref l2) := bo_no ⟨_, .tup ga, rfl⟩
    refine ⟨(by show 2 ≤ sizeLine; decide), fun l3 h3 => ?_⟩
    have sa := Same.new (Same.refl H2) (o := .lst [.int 0, .int 0]) h3
    have ga : upd H2 l3 (.lst [.int 0, .int 0]) l3 = some (.lst [.int 0, .int 0]) := upd_same
    revert sa ga
    generalize upd H2 l3 (.lst [.int 0, .int 0]) = H3
    intro sa ga
    replace s := s.trans sa
    replace b_l1 := b_l1.keep sa
    replace b_l2 := b_l2.keep sa
    have b_l3 : BadOrd K H3 (.ref l3) := bo_zz ga
    refine ⟨(by show 2 ≤ sizeLine; decide), fun l4 h4 => ?_⟩
    have sa := Same.new (Same.refl H3) (o := .lst [.int 1, .int 2]) h4
    have ga : upd H3 l4 (.lst [.int 1, .int 2]) l4 = some (.lst [.int 1, .int 2]) := upd_same
    revert sa ga
    generalize upd H3 l4 (.lst [.int 1, .int 2]) = H4
    intro sa ga
    replace s := s.trans sa
    replace b_l1 := b_l1.keep sa
    replace b_l2 := b_l2.keep sa
    replace b_l3 := b_l3.keep sa
    have b_l4 : BadOrd K H4 (.ref l4) := bo_two ga (.inl ⟨_, rfl⟩) (.inl ⟨_, rfl⟩) (.inr (by decide))
    refine ⟨_, rfl, _, _, rfl, rfl, (by show 2 ≤ sizeLine; decide), fun l5 h5 => ?_⟩
    have sa := Same.new (Same.refl H4) (o := .lst [.int 0, .int (2 + (far : Int))]) h5
    have ga : upd H4 l5 (.lst [.int 0, .int (2 + (far : Int))]) l5 = some (.lst [.int 0, .int (2 + (far : Int))]) := upd_same
    revert sa ga
    generalize upd H4 l5 (.lst [.int 0, .int (2 + (far : Int))]) = H5
    intro sa ga
    replace s := s.trans sa
    replace b_l1 := b_l1.keep sa
    replace b_l2 := b_l2.keep sa
    replace b_l3 := b_l3.keep sa
    replace b_l4 := b_l4.keep sa
    have b_l5 : BadOrd K H5 (.ref l5) := bo_two ga (.inl ⟨_, rfl⟩) (.inl ⟨_, rfl⟩) (.inr (bad_int (K := K) (H := H) (by omega)).2)
    refine ⟨_, rfl, _, _, rfl, rfl, (by show 2 ≤ sizeLine; decide), fun l6 h6 => ?_⟩
    have sa := Same.new (Same.refl H5) (o := .lst [.int (-1 - (far : Int)), .int 0]) h6
    have ga : upd H5 l6 (.lst [.int (-1 - (far : Int)), .int 0]) l6 = some (.lst [.int (-1 - (far : Int)), .int 0]) := upd_same
    revert sa ga
    generalize upd H5 l6 (.lst [.int (-1 - (far : Int)), .int 0]) = H6
    intro sa ga
    replace s := s.trans sa
    replace b_l1 := b_l1.keep sa
    replace b_l2 := b_l2.keep sa
    replace b_l3 := b_l3.keep sa
    replace b_l4 := b_l4.keep sa
    replace b_l5 := b_l5.keep sa
    have b_l6 : BadOrd K H6 (.ref l6) := bo_two ga (.inl ⟨_, rfl⟩) (.inl ⟨_, rfl⟩) (.inl (bad_int (K := K) (H := H) (by omega)).2)
    refine ⟨(by show 2 ≤ sizeLine; decide), fun l7 h7 => ?_⟩
    have sa := Same.new (Same.refl H6) (o := .lst [.bl true, .int 0]) h7
    have ga : upd H6 l7 (.lst [.bl true, .int 0]) l7 = some (.lst [.bl true, .int 0]) := upd_same
    revert sa ga
    generalize upd H6 l7 (.lst [.bl true, .int 0]) = H7
    intro sa ga
    replace s := s.trans sa
    replace b_l1 := b_l1.keep sa
    replace b_l2 := b_l2.keep sa
    replace b_l3 := b_l3.keep sa
    replace b_l4 := b_l4.keep sa
    replace b_l5 := b_l5.keep sa
    replace b_l6 := b_l6.keep sa
    have b_l7 : BadOrd K H7 (.ref l7) := bo_two ga (.inr (ni_bl _)) (.inl ⟨_, rfl⟩) (.inl rfl)
    refine ⟨(by show 2 ≤ sizeLine; decide), fun l8 h8 => ?_⟩
    have sa := Same.new (Same.refl H7) (o := .lst [.str (Str.ofString "0"), .str (Str.ofString "1")]) h8
    have ga : upd H7 l8 (.lst [.str (Str.ofString "0"), .str (Str.ofString "1")]) l8 = some (.lst [.str (Str.ofString "0"), .str (Str.ofString "1")]) := upd_same
    revert sa ga
    generalize upd H7 l8 (.lst [.str (Str.ofString "0"), .str (Str.ofString "1")]) = H8
    intro sa ga
    replace s := s.trans sa
    replace b_l1 := b_l1.keep sa
    replace b_l2 := b_l2.keep sa
    replace b_l3 := b_l3.keep sa
    replace b_l4 := b_l4.keep sa
    replace b_l5 := b_l5.keep sa
    replace b_l6 := b_l6.keep sa
    replace b_l7 := b_l7.keep sa
    have b_l8 : BadOrd K H8 (.ref l8) := bo_two ga (.inr (ni_str _)) (.inr (ni_str _)) (.inl rfl)
    refine ⟨(by show 2 ≤ sizeLine; decide), fun l9 h9 => ?_⟩
    have sa := Same.new (Same.refl H8) (o := .lst [.int 0, .non]) h9
    have ga : upd H8 l9 (.lst [.int 0, .non]) l9 = some (.lst [.int 0, .non]) := upd_same
    revert sa ga
    generalize upd H8 l9 (.lst [.int 0, .non]) = H9
    intro sa ga
    replace s := s.trans sa
    replace b_l1 := b_l1.keep sa
    replace b_l2 := b_l2.keep sa
    replace b_l3 := b_l3.keep sa
    replace b_l4 := b_l4.keep sa
    replace b_l5 := b_l5.keep sa
    replace b_l6 := b_l6.keep sa
    replace b_l7 := b_l7.keep sa
    replace b_l8 := b_l8.keep sa
    have b_l9 : BadOrd K H9 (.ref l9) := bo_two ga (.inl ⟨_, rfl⟩) (.inr ni_non) (.inr rfl)
    refine ⟨(by show 11 ≤ sizeLine; decide), fun l10 h10 => ?_⟩
    have sa := Same.new (Same.refl H9) (o := .lst [.non, .ref l1, .ref l2, .str (Str.ofString "01"), .ref l3, .ref l4, .ref l5, .ref l6, .ref l7, .ref l8, .ref l9]) h10
    have ga : upd H9 l10 (.lst [.non, .ref l1, .ref l2, .str (Str.ofString "01"), .ref l3, .ref l4, .ref l5, .ref l6, .ref l7, .ref l8, .ref l9]) l10 = some (.lst [.non, .ref l1, .ref l2, .str (Str.ofString "01"), .ref l3, .ref l4, .ref l5, .ref l6, .ref l7, .ref l8, .ref l9]) := upd_same
    revert sa ga
    generalize upd H9 l10 (.lst [.non, .ref l1, .ref l2, .str (Str.ofString "01"), .ref l3, .ref l4, .ref l5, .ref l6, .ref l7, .ref l8, .ref l9]) = H10
    intro sa ga
    replace s := s.trans sa
    replace b_l1 := b_l1.keep sa
    replace b_l2 := b_l2.keep sa
    replace b_l3 := b_l3.keep sa
    replace b_l4 := b_l4.keep sa
    replace b_l5 := b_l5.keep sa
    replace b_l6 := b_l6.keep sa
    replace b_l7 := b_l7.keep sa
    replace b_l8 := b_l8.keep sa
    replace b_l9 := b_l9.keep sa
    have g_l10 := ga
    refine ⟨_, rfl, _, rfl, fun r1 k1 => ?_⟩
    have sa := Same.new (Same.refl H10) (o := rngO r1 0 61 1) k1
    have ga : upd H10 r1 (rngO r1 0 61 1) r1 = some (rngO r1 0 61 1) := upd_same
    revert sa ga
    generalize upd H10 r1 (rngO r1 0 61 1) = H11
    intro sa ga
    replace s := s.trans sa
    replace b_l1 := b_l1.keep sa
    replace b_l2 := b_l2.keep sa
    replace b_l3 := b_l3.keep sa
    replace b_l4 := b_l4.keep sa
    replace b_l5 := b_l5.keep sa
    replace b_l6 := b_l6.keep sa
    replace b_l7 := b_l7.keep sa
    replace b_l8 := b_l8.keep sa
    replace b_l9 := b_l9.keep sa
    replace g_l10 := sa _ _ g_l10
    have g_r1 := ga
    refine ⟨_, _, _, _, _, rfl, g_r1, rng_small (by decide) (by decide) (by decide) (by decide), rng_up, (by decide), fun l11 h11 => ?_⟩
    have sa := Same.new (Same.refl H11) (o := .lst (rngV 0 1 ((61 : Int) - 0).toNat)) h11
    have ga : upd H11 l11 (.lst (rngV 0 1 ((61 : Int) - 0).toNat)) l11 = some (.lst (rngV 0 1 ((61 : Int) - 0).toNat)) := upd_same
    revert sa ga
    generalize upd H11 l11 (.lst (rngV 0 1 ((61 : Int) - 0).toNat)) = H12
    intro sa ga
    replace s := s.trans sa
    replace b_l1 := b_l1.keep sa
    replace b_l2 := b_l2.keep sa
    replace b_l3 := b_l3.keep sa
    replace b_l4 := b_l4.keep sa
    replace b_l5 := b_l5.keep sa
    replace b_l6 := b_l6.keep sa
    replace b_l7 := b_l7.keep sa
    replace b_l8 := b_l8.keep sa
    replace b_l9 := b_l9.keep sa
    replace g_l10 := sa _ _ g_l10
    replace g_r1 := sa _ _ g_r1
    have b_l11 : BadOrd K H12 (.ref l11) := bo_long ga (by rw [rngV_length]; decide) rng_known
    refine ⟨_, rfl, _, _, rfl, rfl, (by decide : (0 : Int) < 40), _, _, rfl, rfl, _, rfl, fun r2 k2 => ?_⟩
    have sa := Same.new (Same.refl H12) (o := rngO r2 0 (61 + (far : Int) % 40) 1) k2
    have ga : upd H12 r2 (rngO r2 0 (61 + (far : Int) % 40) 1) r2 = some (rngO r2 0 (61 + (far : Int) % 40) 1) := upd_same
    revert sa ga
    generalize upd H12 r2 (rngO r2 0 (61 + (far : Int) % 40) 1) = H13
    intro sa ga
    replace s := s.trans sa
    replace b_l1 := b_l1.keep sa
    replace b_l2 := b_l2.keep sa
    replace b_l3 := b_l3.keep sa
    replace b_l4 := b_l4.keep sa
    replace b_l5 := b_l5.keep sa
    replace b_l6 := b_l6.keep sa
    replace b_l7 := b_l7.keep sa
    replace b_l8 := b_l8.keep sa
    replace b_l9 := b_l9.keep sa
    replace b_l11 := b_l11.keep sa
    replace g_l10 := sa _ _ g_l10
    replace g_r1 := sa _ _ g_r1
    have g_r2 := ga
    refine ⟨_, _, _, _, _, rfl, g_r2, rng_small (by decide) ⟨by omega, by omega⟩ (by decide) (by decide), rng_up, (by omega), fun l12 h12 => ?_⟩
    have sa := Same.new (Same.refl H13) (o := .lst (rngV 0 1 ((61 + (far : Int) % 40) - 0).toNat)) h12
    have ga : upd H13 l12 (.lst (rngV 0 1 ((61 + (far : Int) % 40) - 0).toNat)) l12 = some (.lst (rngV 0 1 ((61 + (far : Int) % 40) - 0).toNat)) := upd_same
    revert sa ga
    generalize upd H13 l12 (.lst (rngV 0 1 ((61 + (far : Int) % 40) - 0).toNat)) = H14
    intro sa ga
    replace s := s.trans sa
    replace b_l1 := b_l1.keep sa
    replace b_l2 := b_l2.keep sa
    replace b_l3 := b_l3.keep sa
    replace b_l4 := b_l4.keep sa
    replace b_l5 := b_l5.keep sa
    replace b_l6 := b_l6.keep sa
    replace b_l7 := b_l7.keep sa
    replace b_l8 := b_l8.keep sa
    replace b_l9 := b_l9.keep sa
    replace b_l11 := b_l11.keep sa
    replace g_l10 := sa _ _ g_l10
    replace g_r1 := sa _ _ g_r1
    replace g_r2 := sa _ _ g_r2
    have b_l12 : BadOrd K H14 (.ref l12) := bo_long ga (by rw [rngV_length]; omega) rng_known
    refine ⟨(by show 1 ≤ sizeLine; decide), fun l13 h13 => ?_⟩
    have sa := Same.new (Same.refl H14) (o := .lst [.int 0]) h13
    have ga : upd H14 l13 (.lst [.int 0]) l13 = some (.lst [.int 0]) := upd_same
    revert sa ga
    generalize upd H14 l13 (.lst [.int 0]) = H15
    intro sa ga
    replace s := s.trans sa
    replace b_l1 := b_l1.keep sa
    replace b_l2 := b_l2.keep sa
    replace b_l3 := b_l3.keep sa
    replace b_l4 := b_l4.keep sa
    replace b_l5 := b_l5.keep sa
    replace b_l6 := b_l6.keep sa
    replace b_l7 := b_l7.keep sa
    replace b_l8 := b_l8.keep sa
    replace b_l9 := b_l9.keep sa
    replace b_l11 := b_l11.keep sa
    replace b_l12 := b_l12.keep sa
    replace g_l10 := sa _ _ g_l10
    replace g_r1 := sa _ _ g_r1
    replace g_r2 := sa _ _ g_r2
    have g_l13 := ga
    refine ⟨(by show 1 ≤ sizeLine; decide), fun l14 h14 => ?_⟩
    have sa := Same.new (Same.refl H15) (o := .lst [.ref l13]) h14
    have ga : upd H15 l14 (.lst [.ref l13]) l14 = some (.lst [.ref l13]) := upd_same
    revert sa ga
    generalize upd H15 l14 (.lst [.ref l13]) = H16
    intro sa ga
    replace s := s.trans sa
    replace b_l1 := b_l1.keep sa
    replace b_l2 := b_l2.keep sa
    replace b_l3 := b_l3.keep sa
    replace b_l4 := b_l4.keep sa
    replace b_l5 := b_l5.keep sa
    replace b_l6 := b_l6.keep sa
    replace b_l7 := b_l7.keep sa
    replace b_l8 := b_l8.keep sa
    replace b_l9 := b_l9.keep sa
    replace b_l11 := b_l11.keep sa
    replace b_l12 := b_l12.keep sa
    replace g_l10 := sa _ _ g_l10
    replace g_r1 := sa _ _ g_r1
    replace g_r2 := sa _ _ g_r2
    replace g_l13 := sa _ _ g_l13
    have b_l14 : BadOrd K H16 (.ref l14) := bo_one g_l13 ga
    refine fun l15 h15 => ?_
    have sa := Same.new (Same.refl H16) (o := .dK []) h15
    have ga : upd H16 l15 (.dK []) l15 = some (.dK []) := upd_same
    revert sa ga
    generalize upd H16 l15 (.dK []) = H17
    intro sa ga
    replace s := s.trans sa
    replace b_l1 := b_l1.keep sa
    replace b_l2 := b_l2.keep sa
    replace b_l3 := b_l3.keep sa
    replace b_l4 := b_l4.keep sa
    replace b_l5 := b_l5.keep sa
    replace b_l6 := b_l6.keep sa
    replace b_l7 := b_l7.keep sa
    replace b_l8 := b_l8.keep sa
    replace b_l9 := b_l9.keep sa
    replace b_l11 := b_l11.keep sa
    replace b_l12 := b_l12.keep sa
    replace b_l14 := b_l14.keep sa
    replace g_l10 := sa _ _ g_l10
    replace g_r1 := sa _ _ g_r1
    replace g_r2 := sa _ _ g_r2
    replace g_l13 := sa _ _ g_l13
    have b_l15 : BadOrd K H17 (.ref l15) := bo_no ⟨_, .dK ga, rfl⟩
    refine ⟨(by show 4 ≤ sizeLine; decide), fun l16 h16 => ?_⟩
    have sa := Same.new (Same.refl H17) (o := .lst [.ref l11, .ref l12, .ref l14, .ref l15]) h16
    have ga : upd H17 l16 (.lst [.ref l11, .ref l12, .ref l14, .ref l15]) l16 = some (.lst [.ref l11, .ref l12, .ref l14, .ref l15]) := upd_same
    revert sa ga
    generalize upd H17 l16 (.lst [.ref l11, .ref l12, .ref l14, .ref l15]) = H18
    intro sa ga
    replace s := s.trans sa
    replace b_l1 := b_l1.keep sa
    replace b_l2 := b_l2.keep sa
    replace b_l3 := b_l3.keep sa
    replace b_l4 := b_l4.keep sa
    replace b_l5 := b_l5.keep sa
    replace b_l6 := b_l6.keep sa
    replace b_l7 := b_l7.keep sa
    replace b_l8 := b_l8.keep sa
    replace b_l9 := b_l9.keep sa
    replace b_l11 := b_l11.keep sa
    replace b_l12 := b_l12.keep sa
    replace b_l14 := b_l14.keep sa
    replace b_l15 := b_l15.keep sa
    replace g_l10 := sa _ _ g_l10
    replace g_r1 := sa _ _ g_r1
    replace g_r2 := sa _ _ g_r2
    replace g_l13 := sa _ _ g_l13
    have g_l16 := ga
    refine ⟨_, _, _, _, rfl, rfl, g_l10, g_l16, (by show 15 ≤ sizeLine; decide), fun l17 h17 => ?_⟩
    have sa := Same.new (Same.refl H18) (o := .lst ([.non, .ref l1, .ref l2, .str (Str.ofString "01"), .ref l3, .ref l4, .ref l5, .ref l6, .ref l7, .ref l8, .ref l9] ++ [.ref l11, .ref l12, .ref l14, .ref l15])) h17
    have ga : upd H18 l17 (.lst ([.non, .ref l1, .ref l2, .str (Str.ofString "01"), .ref l3, .ref l4, .ref l5, .ref l6, .ref l7, .ref l8, .ref l9] ++ [.ref l11, .ref l12, .ref l14, .ref l15])) l17 = some (.lst ([.non, .ref l1, .ref l2, .str (Str.ofString "01"), .ref l3, .ref l4, .ref l5, .ref l6, .ref l7, .ref l8, .ref l9] ++ [.ref l11, .ref l12, .ref l14, .ref l15])) := upd_same
    revert sa ga
    generalize upd H18 l17 (.lst ([.non, .ref l1, .ref l2, .str (Str.ofString "01"), .ref l3, .ref l4, .ref l5, .ref l6, .ref l7, .ref l8, .ref l9] ++ [.ref l11, .ref l12, .ref l14, .ref l15])) = H19
    intro sa ga
    replace s := s.trans sa
    replace b_l1 := b_l1.keep sa
    replace b_l2 := b_l2.keep sa
    replace b_l3 := b_l3.keep sa
    replace b_l4 := b_l4.keep sa
    replace b_l5 := b_l5.keep sa
    replace b_l6 := b_l6.keep sa
    replace b_l7 := b_l7.keep sa
    replace b_l8 := b_l8.keep sa
    replace b_l9 := b_l9.keep sa
    replace b_l11 := b_l11.keep sa
    replace b_l12 := b_l12.keep sa
    replace b_l14 := b_l14.keep sa
    replace b_l15 := b_l15.keep sa
    replace g_l10 := sa _ _ g_l10
    replace g_r1 := sa _ _ g_r1
    replace g_r2 := sa _ _ g_r2
    replace g_l13 := sa _ _ g_l13
    replace g_l16 := sa _ _ g_l16
    have g_l17 := ga
    refine ⟨_, fun _ c => Gc.refl c, q l17 _ _ s g_l17 fun v hv => ?_⟩
    simp only [List.mem_append, List.mem_cons, List.not_mem_nil, or_false] at hv
    rcases hv with (rfl | rfl | rfl | rfl | rfl | rfl | rfl | rfl | rfl | rfl | rfl) | rfl | rfl | rfl | rfl
    · exact bo_no ⟨_, .non, rfl⟩
    · exact b_l1
    · exact b_l2
    · exact bo_no ⟨_, .str _, rfl⟩
    · exact b_l3
    · exact b_l4
    · exact b_l5
    · exact b_l6
    · exact b_l7
    · exact b_l8
    · exact b_l9
    · exact b_l11
    · exact b_l12
    · exact b_l14
    · exact b_l15
end
end Rf

set_option Elab.async false
set_option linter.all false
set_option maxRecDepth 100000
set_option maxHeartbeats 2000000
namespace Rf
open PySem L2
theorem made0 {t : Adr} {H : Hp} {x dx : Addr} {mv : Mv} (nx : H x = none) (ndx : H dx = none) (hf : mv.flds = []) : Same H (upd (upd H dx (.own x)) x (.ins (mv.cls t) dx [])) ∧ IsMv t (upd (upd H dx (.own x)) x (.ins (mv.cls t) dx [])) x mv :=
  ⟨same_mk nx ndx, dx, by rw [hf]; exact upd_same⟩
theorem made1 {t : Adr} {H : Hp} {x dx : Addr} {mv : Mv} (nx : H x = none) (ndx : H dx = none) : Same H (upd (upd (upd H dx (.own x)) x (.ins (mv.cls t) dx [])) x (.ins (mv.cls t) dx mv.flds)) ∧ IsMv t (upd (upd (upd H dx (.own x)) x (.ins (mv.cls t) dx [])) x (.ins (mv.cls t) dx mv.flds)) x mv :=
  ⟨(same_mk nx ndx).upd nx, dx, upd_same⟩
def badWo (K : PySem.W.Frag) : Rz → List V → Hp → Prop := fun r vs H => r = .o ∧ ∃ (d : Nat) (v : V), vs = [.int (d : Int), v] ∧ d < 18 ∧ BadOrd K H v
def badWm (K : PySem.W.Frag) (t : Adr) : Rz → List V → Hp → Prop := fun r vs H => r = .m ∧ ∃ (d : Nat) (v : V), vs = [.int (d : Int), v] ∧ d < 6 ∧ NoMove K t H v ∧ BadMoves K t H v
def badUf : Rz → List V → Hp → Prop := fun r vs H => r = .m ∧ ∃ d k : Nat, vs = [.int (d : Int), .int (k : Int)] ∧ d < 6 ∧ k < 5
def lim : Nat → Int × Int
  | 0 => (1, 60) | 1 => (1, 60) | 2 => (0, 10 ^ (18 : Int).toNat) | 3 => (0, 30) | 4 => (1, 60) | 5 => (0, 60) | 6 => (2, 60) | _ => (0, 7)
def badWn (K : PySem.W.Frag) : Rz → List V → Hp → Prop := fun r vs H => r = .n ∧ ∃ (d : Nat) (v : V), vs = [.int (d : Int), v] ∧ d < 8 ∧ BadNum K H v (lim d).1 (lim d).2
theorem good012 : Good [0, 1, 2] := ⟨(by show List.Perm [0, 1, 2] (List.range 3); decide), by decide, by decide⟩
theorem good210 : Good [2, 1, 0] := ⟨(by show List.Perm [2, 1, 0] (List.range 3); decide), by decide, by decide⟩
theorem good01 : Good [0, 1] := ⟨(by show List.Perm [0, 1] (List.range 2); decide), by decide, by decide⟩
theorem pick6 {t : Adr} {H : Hp} {x0 x1 x2 x3 x4 x5 : Addr} {a0 a1 a2 a3 a4 a5 : Mv} (m0 : IsMv t H x0 a0) (m1 : IsMv t H x1 a1) (m2 : IsMv t H x2 a2) (m3 : IsMv t H x3 a3) (m4 : IsMv t H x4 a4) (m5 : IsMv t H x5 a5) :
    ∀ d, d < 6 → ∃ (p : Addr) (mv : Mv), ([V.ref x0, V.ref x1, V.ref x2, V.ref x3, V.ref x4, V.ref x5] : List V)[d]? = some (.ref p) ∧ IsMv t H p mv
  | 0, _ => ⟨x0, _, rfl, m0⟩ | 1, _ => ⟨x1, _, rfl, m1⟩ | 2, _ => ⟨x2, _, rfl, m2⟩ | 3, _ => ⟨x3, _, rfl, m3⟩ | 4, _ => ⟨x4, _, rfl, m4⟩ | 5, _ => ⟨x5, _, rfl, m5⟩
  | n + 6, h => absurd h (by omega)
theorem pick5 {t : Adr} {H : Hp} {x0 x1 x2 x3 x4 : Addr} (m0 : IsMv t H x0 (.cut 4)) (m1 : IsMv t H x1 (.weave 0)) (m2 : IsMv t H x2 (.weave 1)) (m3 : IsMv t H x3 (.riffle [true, false])) (m4 : IsMv t H x4 (.riffle [true, false, true, false])) :
    ∀ k, k < 5 → ∃ (p : Addr) (mv : Mv), ([V.ref x0, V.ref x1, V.ref x2, V.ref x3, V.ref x4] : List V)[k]? = some (.ref p) ∧ IsMv t H p mv ∧ mv.ok ∧ ¬ mv.fits 3
  | 0, _ => ⟨x0, _, rfl, m0, (show 4 ≤ 60 by decide), (by show ¬ 4 ≤ 3; decide)⟩ | 1, _ => ⟨x1, _, rfl, m1, (show 0 ≤ 1 by decide), (by show ¬ 3 % 2 = 0; decide)⟩ | 2, _ => ⟨x2, _, rfl, m2, (show 1 ≤ 1 by decide), (by show ¬ 3 % 2 = 0; decide)⟩
  | 3, _ => ⟨x3, _, rfl, m3, ⟨by decide, by decide⟩, (by show ¬ 2 = 3; decide)⟩ | 4, _ => ⟨x4, _, rfl, m4, ⟨by decide, by decide⟩, (by show ¬ 4 = 3; decide)⟩
  | n + 5, h => absurd h (by omega)
section
variable {P : Program} {w : World} {K : PySem.W.Frag} {mg : Str → Option Value} {base : Heap} {t : Adr} {u : XA}
theorem okx__law_with_order {f : Addr} {fd : FuncData} (F : Fun K "_law_with_order" "_law_with_order" s__law_with_order f fd) (T : Txt K mg t) (k_Cut : Mk1 P w K mg base 3 "Cut" t.cut (spInit1 t vCut isCut)) (k_Turn : Mk1 P w K mg base 3 "Turn" t.turn (spInit0 t .turn)) (k_Deal : Mk1 P w K mg base 3 "Deal" t.deal (spInit1 t vDeal isDeal)) (k_Under : Mk1 P w K mg base 3 "Under" t.under (spInit0 t .under)) (k_Weave : Mk1 P w K mg base 3 "Weave" t.weave (spInit1 t vWeave isWeave)) (k_Riffle : Mk1 P w K mg base 3 "Riffle" t.riffle (spInit1 t vRiffle isRiffle)) (x_done : ∀ mv : Mv, MthX P w K mg base 4 (mv.cls t) "done" (spDoneX K t u mv)) (x_undone : ∀ mv : Mv, MthX P w K mg base 4 (mv.cls t) "undone" (spR u (badDone K t mv))) (x_done_all : FnX P w K mg base 5 "done_all" (spR u (badAll K t))) (x_repeated : FnX P w K mg base 4 "repeated" (spR u (badRep K t))) (x_rows : FnX P w K mg base 4 "rows" (spR u (badO K))) (x_riffles_to : FnX P w K mg base 6 "riffles_to" (spR u (badO K))) (x_ways : FnX P w K mg base 5 "ways" (spR u (badWays K))) (x_mixed : FnX P w K mg base 4 "mixed" (spR u (badO K))) : FnOk P w K mg base (CXe P w) 7 f fd ["_law_door", "_law_order"] (spR u (badWo K)) := by
  refine F.okX sc__law_with_order (fun vs H Q E h => ?_) (fun cdv A outer s H vs Q E hr h Lv => ?_)
  · obtain ⟨r, ⟨_, d, v, rfl, _⟩, _⟩ := h
    rfl
  · obtain ⟨r, ⟨rfl, d, v, rfl, hd, hb⟩, hE⟩ := h
    have s := Same.refl H
    by_cases hd0 : d < 6
    · refine ⟨_, (pss_cut (ps_ifT (pt_cmpR op_lt (pv 0) pe_int (nomark _))
 (pss_one (ps_ret (pe_mtX 4 (Lv.pass fun _ _ _ h => h) hr (pe_ix ix_tup (pe_tup (pa_cons (pe_mk0 k_Turn hr (by rfl)) (pa_cons (pe_mk0 k_Under hr (by rfl)) (pa_cons (pe_mk k_Deal hr (by rfl) (pa_cons pe_int pa_nil)) (pa_cons (pe_mk k_Cut hr (by rfl) (pa_cons pe_int pa_nil)) (pa_cons (pe_mk k_Weave hr (by rfl) (pa_cons pe_int pa_nil)) (pa_cons (pe_mk k_Riffle hr (by rfl) (pa_cons pe_str pa_nil)) pa_nil))))))) (pv 0) (fun _ _ => rfl)) (pa_cons (pv 1) pa_nil)))))), ?_⟩
      refine ⟨_, rfl, _, _, rfl, rfl, _, rfl, (decide_eq_true (by omega)), ?_⟩
      refine fun x0 dx0 nx0 ndx0 nex0 => ⟨x0, dx0, rfl, upd_same, rfl, ?_⟩
      obtain ⟨sa, m0⟩ := made0 (t := t) (mv := .turn) nx0 ndx0 rfl
      replace s := s.trans sa
      refine fun x1 dx1 nx1 ndx1 nex1 => ⟨x1, dx1, rfl, upd_same, rfl, ?_⟩
      obtain ⟨sa, m1⟩ := made0 (t := t) (mv := .under) nx1 ndx1 rfl
      replace s := s.trans sa
      replace m0 := mv_keep m0 sa
      refine fun x2 dx2 nx2 ndx2 nex2 => ⟨x2, dx2, .deal 2, trivial, rfl, ⟨by decide, by decide⟩, upd_same, rfl, ?_⟩
      obtain ⟨sa, m2⟩ := made1 (t := t) (mv := .deal 2) nx2 ndx2
      replace s := s.trans sa
      replace m0 := mv_keep m0 sa
      replace m1 := mv_keep m1 sa
      refine fun x3 dx3 nx3 ndx3 nex3 => ⟨x3, dx3, .cut 60, trivial, rfl, (show 60 ≤ 60 by decide), upd_same, rfl, ?_⟩
      obtain ⟨sa, m3⟩ := made1 (t := t) (mv := .cut 60) nx3 ndx3
      replace s := s.trans sa
      replace m0 := mv_keep m0 sa
      replace m1 := mv_keep m1 sa
      replace m2 := mv_keep m2 sa
      refine fun x4 dx4 nx4 ndx4 nex4 => ⟨x4, dx4, .weave 0, trivial, rfl, (show 0 ≤ 1 by decide), upd_same, rfl, ?_⟩
      obtain ⟨sa, m4⟩ := made1 (t := t) (mv := .weave 0) nx4 ndx4
      replace s := s.trans sa
      replace m0 := mv_keep m0 sa
      replace m1 := mv_keep m1 sa
      replace m2 := mv_keep m2 sa
      replace m3 := mv_keep m3 sa
      refine fun x5 dx5 nx5 ndx5 nex5 => ⟨x5, dx5, .riffle [true, false], trivial, rfl, ⟨by decide, by decide⟩, upd_same, rfl, ?_⟩
      obtain ⟨sa, m5⟩ := made1 (t := t) (mv := .riffle [true, false]) nx5 ndx5
      replace s := s.trans sa
      replace m0 := mv_keep m0 sa
      replace m1 := mv_keep m1 sa
      replace m2 := mv_keep m2 sa
      replace m3 := mv_keep m3 sa
      replace m4 := mv_keep m4 sa
      refine ⟨(by show 6 ≤ sizeLine; decide), fun tp htp => ?_⟩
      have sa := Same.new (Same.refl _) (o := .tup [.ref x0, .ref x1, .ref x2, .ref x3, .ref x4, .ref x5]) htp
      replace s := s.trans sa
      replace m0 := mv_keep m0 sa
      replace m1 := mv_keep m1 sa
      replace m2 := mv_keep m2 sa
      replace m3 := mv_keep m3 sa
      replace m4 := mv_keep m4 sa
      replace m5 := mv_keep m5 sa
      obtain ⟨p, mv, hat, dx, hp⟩ := pick6 m0 m1 m2 m3 m4 m5 (d) (by omega)
      exact ⟨_, rfl, _, _, _, _, rfl, rfl, SqT.of upd_same, atI_nat hat, _, _, _, _, _, rfl, hp, mv.no_done, x_done mv, _, rfl, .inr ⟨.o, ⟨p, v, rfl, ⟨dx, hp⟩, .inl ⟨rfl, hb.keep s⟩⟩, fun H' s' => hE H' (s.trans s')⟩⟩
    by_cases hd1 : d < 12
    · refine ⟨_, (pss_cons (ps_ifF (pt_cmpR op_lt (pv 0) pe_int (nomark _)) pss_nil)
 (pss_cut (ps_ifT (pt_cmpR op_lt (pv 0) pe_int (nomark _))
 (pss_one (ps_ret (pe_mtX 4 (Lv.pass fun _ _ _ h => h) hr (pe_ix ix_tup (pe_tup (pa_cons (pe_mk0 k_Turn hr (by rfl)) (pa_cons (pe_mk0 k_Under hr (by rfl)) (pa_cons (pe_mk k_Deal hr (by rfl) (pa_cons pe_int pa_nil)) (pa_cons (pe_mk k_Cut hr (by rfl) (pa_cons pe_int pa_nil)) (pa_cons (pe_mk k_Weave hr (by rfl) (pa_cons pe_int pa_nil)) (pa_cons (pe_mk k_Riffle hr (by rfl) (pa_cons pe_str pa_nil)) pa_nil))))))) (pe_op op_sub (pv 0) pe_int) (fun _ _ => rfl)) (pa_cons (pv 1) pa_nil))))))), ?_⟩
      refine ⟨_, rfl, _, _, rfl, rfl, _, rfl, (decide_eq_false (by omega)), _, rfl, _, _, rfl, rfl, _, rfl, (decide_eq_true (by omega)), ?_⟩
      refine fun x0 dx0 nx0 ndx0 nex0 => ⟨x0, dx0, rfl, upd_same, rfl, ?_⟩
      obtain ⟨sa, m0⟩ := made0 (t := t) (mv := .turn) nx0 ndx0 rfl
      replace s := s.trans sa
      refine fun x1 dx1 nx1 ndx1 nex1 => ⟨x1, dx1, rfl, upd_same, rfl, ?_⟩
      obtain ⟨sa, m1⟩ := made0 (t := t) (mv := .under) nx1 ndx1 rfl
      replace s := s.trans sa
      replace m0 := mv_keep m0 sa
      refine fun x2 dx2 nx2 ndx2 nex2 => ⟨x2, dx2, .deal 2, trivial, rfl, ⟨by decide, by decide⟩, upd_same, rfl, ?_⟩
      obtain ⟨sa, m2⟩ := made1 (t := t) (mv := .deal 2) nx2 ndx2
      replace s := s.trans sa
      replace m0 := mv_keep m0 sa
      replace m1 := mv_keep m1 sa
      refine fun x3 dx3 nx3 ndx3 nex3 => ⟨x3, dx3, .cut 60, trivial, rfl, (show 60 ≤ 60 by decide), upd_same, rfl, ?_⟩
      obtain ⟨sa, m3⟩ := made1 (t := t) (mv := .cut 60) nx3 ndx3
      replace s := s.trans sa
      replace m0 := mv_keep m0 sa
      replace m1 := mv_keep m1 sa
      replace m2 := mv_keep m2 sa
      refine fun x4 dx4 nx4 ndx4 nex4 => ⟨x4, dx4, .weave 1, trivial, rfl, (show 1 ≤ 1 by decide), upd_same, rfl, ?_⟩
      obtain ⟨sa, m4⟩ := made1 (t := t) (mv := .weave 1) nx4 ndx4
      replace s := s.trans sa
      replace m0 := mv_keep m0 sa
      replace m1 := mv_keep m1 sa
      replace m2 := mv_keep m2 sa
      replace m3 := mv_keep m3 sa
      refine fun x5 dx5 nx5 ndx5 nex5 => ⟨x5, dx5, .riffle [true, false], trivial, rfl, ⟨by decide, by decide⟩, upd_same, rfl, ?_⟩
      obtain ⟨sa, m5⟩ := made1 (t := t) (mv := .riffle [true, false]) nx5 ndx5
      replace s := s.trans sa
      replace m0 := mv_keep m0 sa
      replace m1 := mv_keep m1 sa
      replace m2 := mv_keep m2 sa
      replace m3 := mv_keep m3 sa
      replace m4 := mv_keep m4 sa
      refine ⟨(by show 6 ≤ sizeLine; decide), fun tp htp => ?_⟩
      have sa := Same.new (Same.refl _) (o := .tup [.ref x0, .ref x1, .ref x2, .ref x3, .ref x4, .ref x5]) htp
      replace s := s.trans sa
      replace m0 := mv_keep m0 sa
      replace m1 := mv_keep m1 sa
      replace m2 := mv_keep m2 sa
      replace m3 := mv_keep m3 sa
      replace m4 := mv_keep m4 sa
      replace m5 := mv_keep m5 sa
      obtain ⟨p, mv, hat, dx, hp⟩ := pick6 m0 m1 m2 m3 m4 m5 (d - 6) (by omega)
      exact ⟨_, rfl, _, _, rfl, rfl, _, _, _, _, rfl, rfl, SqT.of upd_same, (by rw [show ((d : Int) - 6) = ((d - 6 : Nat) : Int) by omega]; exact atI_nat hat), _, _, _, _, _, rfl, hp, mv.no_undone, x_undone mv, _, rfl, .o, ⟨p, v, rfl, ⟨dx, hp⟩, .inl ⟨rfl, hb.keep s⟩⟩, fun H' s' => hE H' (s.trans s')⟩
    have hk : d = 12 ∨ d = 13 ∨ d = 14 ∨ d = 15 ∨ d = 16 ∨ d = 17 := by omega
    rcases hk with rfl | rfl | rfl | rfl | rfl | rfl
    · refine ⟨_, (pss_cons (ps_ifF (pt_cmpR op_lt (pv 0) pe_int (nomark _)) pss_nil)
 (pss_cons (ps_ifF (pt_cmpR op_lt (pv 0) pe_int (nomark _)) pss_nil)
 (pss_cut (ps_ifT (pt_cmpR op_eq (pv 0) pe_int (nomark _))
 (pss_one (ps_ret (pe_fnx (Lv.pass fun _ _ _ h => h) x_done_all hr (by rfl) (pa_cons (pe_lst (pa_cons (pe_mk k_Weave hr (by rfl) (pa_cons pe_int pa_nil)) pa_nil)) (pa_cons (pv 1) pa_nil))))))))), ?_⟩
      refine ⟨_, rfl, _, _, rfl, rfl, _, rfl, (by decide +kernel), _, rfl, _, _, rfl, rfl, _, rfl, (by decide +kernel), _, rfl, rfl, _, rfl, (by decide +kernel), ?_⟩
      refine fun x0 dx0 nx0 ndx0 nex0 => ⟨x0, dx0, .weave 0, trivial, rfl, (show 0 ≤ 1 by decide), upd_same, rfl, (by show 1 ≤ sizeLine; decide), fun l hl => ?_⟩
      obtain ⟨sa, m0⟩ := made1 (t := t) (mv := .weave 0) nx0 ndx0
      have sb := Same.new (Same.refl _) (o := .lst [.ref x0]) hl
      replace s := (s.trans sa).trans sb
      refine ⟨_, rfl, .o, ⟨_, _, rfl, .inr ⟨l, [(x0, .weave 0)], rfl, upd_same, fun x hx => ?_, .inl ⟨rfl, hb.keep s⟩⟩⟩, fun H' s' => hE H' (s.trans s')⟩
      rw [List.mem_singleton.mp hx]
      exact mv_keep m0 sb
    · refine ⟨_, (pss_cons (ps_ifF (pt_cmpR op_lt (pv 0) pe_int (nomark _)) pss_nil)
 (pss_cons (ps_ifF (pt_cmpR op_lt (pv 0) pe_int (nomark _)) pss_nil)
 (pss_cons (ps_ifF (pt_cmpR op_eq (pv 0) pe_int (nomark _)) pss_nil)
 (pss_cut (ps_ifT (pt_cmpR op_eq (pv 0) pe_int (nomark _))
 (pss_one (ps_ret (pe_fnx (Lv.pass fun _ _ _ h => h) x_repeated hr (by rfl) (pa_cons (pe_mk0 k_Turn hr (by rfl)) (pa_cons (pv 1) (pa_cons pe_non pa_nil))))))))))), ?_⟩
      refine ⟨_, rfl, _, _, rfl, rfl, _, rfl, (by decide +kernel), _, rfl, _, _, rfl, rfl, _, rfl, (by decide +kernel), _, rfl, rfl, _, rfl, (by decide +kernel), _, rfl, rfl, _, rfl, (by decide +kernel), ?_⟩
      refine fun x0 dx0 nx0 ndx0 nex0 => ⟨x0, dx0, rfl, upd_same, rfl, ?_⟩
      obtain ⟨sa, m0⟩ := made0 (t := t) (mv := .turn) nx0 ndx0 rfl
      replace s := s.trans sa
      exact ⟨_, rfl, .o, ⟨_, _, _, rfl, .inr ⟨x0, .turn, rfl, m0, .inl ⟨rfl, hb.keep s⟩⟩⟩, fun H' s' => hE H' (s.trans s')⟩
    · refine ⟨_, (pss_cons (ps_ifF (pt_cmpR op_lt (pv 0) pe_int (nomark _)) pss_nil)
 (pss_cons (ps_ifF (pt_cmpR op_lt (pv 0) pe_int (nomark _)) pss_nil)
 (pss_cons (ps_ifF (pt_cmpR op_eq (pv 0) pe_int (nomark _)) pss_nil)
 (pss_cons (ps_ifF (pt_cmpR op_eq (pv 0) pe_int (nomark _)) pss_nil)
 (pss_cut (ps_ifT (pt_cmpR op_eq (pv 0) pe_int (nomark _))
 (pss_one (ps_ret (pe_fnx (Lv.pass fun _ _ _ h => h) x_rows hr (by rfl) (pa_cons (pv 1) pa_nil)))))))))), ?_⟩
      refine ⟨_, rfl, _, _, rfl, rfl, _, rfl, (by decide +kernel), _, rfl, _, _, rfl, rfl, _, rfl, (by decide +kernel), _, rfl, rfl, _, rfl, (by decide +kernel), _, rfl, rfl, _, rfl, (by decide +kernel), _, rfl, rfl, _, rfl, (by decide +kernel), ?_⟩
      exact ⟨_, rfl, .o, ⟨rfl, v, rfl, hb⟩, hE⟩
    · refine ⟨_, (pss_cons (ps_ifF (pt_cmpR op_lt (pv 0) pe_int (nomark _)) pss_nil)
 (pss_cons (ps_ifF (pt_cmpR op_lt (pv 0) pe_int (nomark _)) pss_nil)
 (pss_cons (ps_ifF (pt_cmpR op_eq (pv 0) pe_int (nomark _)) pss_nil)
 (pss_cons (ps_ifF (pt_cmpR op_eq (pv 0) pe_int (nomark _)) pss_nil)
 (pss_cons (ps_ifF (pt_cmpR op_eq (pv 0) pe_int (nomark _)) pss_nil)
 (pss_cut (ps_ifT (pt_cmpR op_eq (pv 0) pe_int (nomark _))
 (pss_one (ps_ret (pe_fnx (Lv.pass fun _ _ _ h => h) x_riffles_to hr (by rfl) (pa_cons (pv 1) pa_nil))))))))))), ?_⟩
      refine ⟨_, rfl, _, _, rfl, rfl, _, rfl, (by decide +kernel), _, rfl, _, _, rfl, rfl, _, rfl, (by decide +kernel), _, rfl, rfl, _, rfl, (by decide +kernel), _, rfl, rfl, _, rfl, (by decide +kernel), _, rfl, rfl, _, rfl, (by decide +kernel), _, rfl, rfl, _, rfl, (by decide +kernel), ?_⟩
      exact ⟨_, rfl, .o, ⟨rfl, v, rfl, hb⟩, hE⟩
    · refine ⟨_, (pss_cons (ps_ifF (pt_cmpR op_lt (pv 0) pe_int (nomark _)) pss_nil)
 (pss_cons (ps_ifF (pt_cmpR op_lt (pv 0) pe_int (nomark _)) pss_nil)
 (pss_cons (ps_ifF (pt_cmpR op_eq (pv 0) pe_int (nomark _)) pss_nil)
 (pss_cons (ps_ifF (pt_cmpR op_eq (pv 0) pe_int (nomark _)) pss_nil)
 (pss_cons (ps_ifF (pt_cmpR op_eq (pv 0) pe_int (nomark _)) pss_nil)
 (pss_cons (ps_ifF (pt_cmpR op_eq (pv 0) pe_int (nomark _)) pss_nil)
 (pss_cut (ps_ifT (pt_cmpR op_eq (pv 0) pe_int (nomark _))
 (pss_one (ps_ret (pe_fnx (Lv.pass fun _ _ _ h => h) x_ways hr (by rfl) (pa_cons (pv 1) (pa_cons (pe_neg) pa_nil))))))))))))), ?_⟩
      refine ⟨_, rfl, _, _, rfl, rfl, _, rfl, (by decide +kernel), _, rfl, _, _, rfl, rfl, _, rfl, (by decide +kernel), _, rfl, rfl, _, rfl, (by decide +kernel), _, rfl, rfl, _, rfl, (by decide +kernel), _, rfl, rfl, _, rfl, (by decide +kernel), _, rfl, rfl, _, rfl, (by decide +kernel), _, rfl, rfl, _, rfl, (by decide +kernel), ?_⟩
      exact ⟨_, rfl, .o, ⟨v, _, rfl, .inl ⟨rfl, hb⟩⟩, hE⟩
    · refine ⟨_, (pss_cons (ps_ifF (pt_cmpR op_lt (pv 0) pe_int (nomark _)) pss_nil)
 (pss_cons (ps_ifF (pt_cmpR op_lt (pv 0) pe_int (nomark _)) pss_nil)
 (pss_cons (ps_ifF (pt_cmpR op_eq (pv 0) pe_int (nomark _)) pss_nil)
 (pss_cons (ps_ifF (pt_cmpR op_eq (pv 0) pe_int (nomark _)) pss_nil)
 (pss_cons (ps_ifF (pt_cmpR op_eq (pv 0) pe_int (nomark _)) pss_nil)
 (pss_cons (ps_ifF (pt_cmpR op_eq (pv 0) pe_int (nomark _)) pss_nil)
 (pss_cons (ps_ifF (pt_cmpR op_eq (pv 0) pe_int (nomark _)) pss_nil)
 (pss_one (ps_ret (pe_fnx (Lv.pass fun _ _ _ h => h) x_mixed hr (by rfl) (pa_cons (pv 1) pa_nil))))))))))), ?_⟩
      refine ⟨_, rfl, _, _, rfl, rfl, _, rfl, (by decide +kernel), _, rfl, _, _, rfl, rfl, _, rfl, (by decide +kernel), _, rfl, rfl, _, rfl, (by decide +kernel), _, rfl, rfl, _, rfl, (by decide +kernel), _, rfl, rfl, _, rfl, (by decide +kernel), _, rfl, rfl, _, rfl, (by decide +kernel), _, rfl, rfl, _, rfl, (by decide +kernel), ?_⟩
      exact ⟨_, rfl, .o, ⟨rfl, v, rfl, hb⟩, hE⟩
theorem okx__law_with_move {f : Addr} {fd : FuncData} (F : Fun K "_law_with_move" "_law_with_move" s__law_with_move f fd) (T : Txt K mg t) (k_Turn : Mk1 P w K mg base 3 "Turn" t.turn (spInit0 t .turn)) (x_done_all : FnX P w K mg base 5 "done_all" (spR u (badAll K t))) (x_rings : FnX P w K mg base 3 "rings" (spR u (badRings K t))) (x_period : FnX P w K mg base 4 "period" (spR u (badRings K t))) (x_repeated : FnX P w K mg base 4 "repeated" (spR u (badRep K t))) (x_written : FnX P w K mg base 3 "written" (spR u (badMs K t))) : FnOk P w K mg base (CXe P w) 6 f fd ["_law_door", "_law_bad"] (spR u (badWm K t)) := by
  refine F.okX sc__law_with_move (fun vs H Q E h => ?_) (fun cdv A outer s H vs Q E hr h Lv => ?_)
  · obtain ⟨r, ⟨_, d, v, rfl, _⟩, _⟩ := h
    rfl
  · obtain ⟨r, ⟨rfl, d, v, rfl, hd, nm, bm⟩, hE⟩ := h
    have s := Same.refl H
    have hk : d = 0 ∨ d = 1 ∨ d = 2 ∨ d = 3 ∨ d = 4 ∨ d = 5 := by omega
    rcases hk with rfl | rfl | rfl | rfl | rfl | rfl
    · refine ⟨_, (pss_cut (ps_ifT (pt_cmpR op_eq (pv 0) pe_int (nomark _))
 (pss_one (ps_ret (pe_fnx (Lv.pass fun _ _ _ h => h) x_done_all hr (by rfl) (pa_cons (pv 1) (pa_cons pe_non pa_nil))))))), ?_⟩
      refine ⟨_, rfl, rfl, _, rfl, (by decide +kernel), ?_⟩
      exact ⟨_, rfl, .m, ⟨v, _, rfl, .inl ⟨rfl, bm⟩⟩, hE⟩
    · refine ⟨_, (pss_cons (ps_ifF (pt_cmpR op_eq (pv 0) pe_int (nomark _)) pss_nil)
 (pss_cut (ps_ifT (pt_cmpR op_eq (pv 0) pe_int (nomark _))
 (pss_one (ps_ret (pe_fnx (Lv.pass fun _ _ _ h => h) x_done_all hr (by rfl) (pa_cons (pe_lst (pa_cons (pe_mk0 k_Turn hr (by rfl)) (pa_cons (pv 1) pa_nil))) (pa_cons pe_non pa_nil)))))))), ?_⟩
      refine ⟨_, rfl, rfl, _, rfl, (by decide +kernel), _, rfl, rfl, _, rfl, (by decide +kernel), ?_⟩
      refine fun x0 dx0 nx0 ndx0 nex0 => ⟨x0, dx0, rfl, upd_same, rfl, _, rfl, (by show 2 ≤ sizeLine; decide), fun l hl => ?_⟩
      obtain ⟨sa, m0⟩ := made0 (t := t) (mv := .turn) nx0 ndx0 rfl
      have sb := Same.new (Same.refl _) (o := .lst [.ref x0, v]) hl
      replace s := (s.trans sa).trans sb
      refine ⟨.m, ⟨_, _, rfl, .inl ⟨rfl, .inr ⟨l, _, 1, v, rfl, upd_same, rfl, nm.keep s, fun j y hj hy => ?_⟩⟩⟩, fun H' s' => hE H' (s.trans s')⟩
      obtain rfl : j = 0 := by omega
      cases hy
      exact ⟨x0, .turn, rfl, mv_keep m0 sb⟩
    · refine ⟨_, (pss_cons (ps_ifF (pt_cmpR op_eq (pv 0) pe_int (nomark _)) pss_nil)
 (pss_cons (ps_ifF (pt_cmpR op_eq (pv 0) pe_int (nomark _)) pss_nil)
 (pss_cut (ps_ifT (pt_cmpR op_eq (pv 0) pe_int (nomark _))
 (pss_one (ps_ret (pe_fnx (Lv.pass fun _ _ _ h => h) x_rings hr (by rfl) (pa_cons (pv 1) (pa_cons pe_int pa_nil))))))))), ?_⟩
      refine ⟨_, rfl, rfl, _, rfl, (by decide +kernel), _, rfl, rfl, _, rfl, (by decide +kernel), _, rfl, rfl, _, rfl, (by decide +kernel), ?_⟩
      exact ⟨_, rfl, .m, ⟨v, _, rfl, .inl ⟨rfl, nm⟩⟩, hE⟩
    · refine ⟨_, (pss_cons (ps_ifF (pt_cmpR op_eq (pv 0) pe_int (nomark _)) pss_nil)
 (pss_cons (ps_ifF (pt_cmpR op_eq (pv 0) pe_int (nomark _)) pss_nil)
 (pss_cons (ps_ifF (pt_cmpR op_eq (pv 0) pe_int (nomark _)) pss_nil)
 (pss_cut (ps_ifT (pt_cmpR op_eq (pv 0) pe_int (nomark _))
 (pss_one (ps_ret (pe_fnx (Lv.pass fun _ _ _ h => h) x_period hr (by rfl) (pa_cons (pv 1) (pa_cons pe_int pa_nil)))))))))), ?_⟩
      refine ⟨_, rfl, rfl, _, rfl, (by decide +kernel), _, rfl, rfl, _, rfl, (by decide +kernel), _, rfl, rfl, _, rfl, (by decide +kernel), _, rfl, rfl, _, rfl, (by decide +kernel), ?_⟩
      exact ⟨_, rfl, .m, ⟨v, _, rfl, .inl ⟨rfl, nm⟩⟩, hE⟩
    · refine ⟨_, (pss_cons (ps_ifF (pt_cmpR op_eq (pv 0) pe_int (nomark _)) pss_nil)
 (pss_cons (ps_ifF (pt_cmpR op_eq (pv 0) pe_int (nomark _)) pss_nil)
 (pss_cons (ps_ifF (pt_cmpR op_eq (pv 0) pe_int (nomark _)) pss_nil)
 (pss_cons (ps_ifF (pt_cmpR op_eq (pv 0) pe_int (nomark _)) pss_nil)
 (pss_cut (ps_ifT (pt_cmpR op_eq (pv 0) pe_int (nomark _))
 (pss_one (ps_ret (pe_fnx (Lv.pass fun _ _ _ h => h) x_repeated hr (by rfl) (pa_cons (pv 1) (pa_cons pe_non (pa_cons (pe_neg) pa_nil)))))))))))), ?_⟩
      refine ⟨_, rfl, rfl, _, rfl, (by decide +kernel), _, rfl, rfl, _, rfl, (by decide +kernel), _, rfl, rfl, _, rfl, (by decide +kernel), _, rfl, rfl, _, rfl, (by decide +kernel), _, rfl, rfl, _, rfl, (by decide +kernel), ?_⟩
      exact ⟨_, rfl, .m, ⟨v, _, _, rfl, .inl ⟨rfl, nm⟩⟩, hE⟩
    · refine ⟨_, (pss_cons (ps_ifF (pt_cmpR op_eq (pv 0) pe_int (nomark _)) pss_nil)
 (pss_cons (ps_ifF (pt_cmpR op_eq (pv 0) pe_int (nomark _)) pss_nil)
 (pss_cons (ps_ifF (pt_cmpR op_eq (pv 0) pe_int (nomark _)) pss_nil)
 (pss_cons (ps_ifF (pt_cmpR op_eq (pv 0) pe_int (nomark _)) pss_nil)
 (pss_cons (ps_ifF (pt_cmpR op_eq (pv 0) pe_int (nomark _)) pss_nil)
 (pss_one (ps_ret (pe_fnx (Lv.pass fun _ _ _ h => h) x_written hr (by rfl) (pa_cons (pe_lst (pa_cons (pv 1) (pa_cons (pe_mk0 k_Turn hr (by rfl)) pa_nil))) pa_nil))))))))), ?_⟩
      refine ⟨_, rfl, rfl, _, rfl, (by decide +kernel), _, rfl, rfl, _, rfl, (by decide +kernel), _, rfl, rfl, _, rfl, (by decide +kernel), _, rfl, rfl, _, rfl, (by decide +kernel), _, rfl, rfl, _, rfl, (by decide +kernel), ?_⟩
      refine ⟨_, rfl, ?_⟩
      refine fun x0 dx0 nx0 ndx0 nex0 => ⟨x0, dx0, rfl, upd_same, rfl, (by show 2 ≤ sizeLine; decide), fun l hl => ?_⟩
      obtain ⟨sa, m0⟩ := made0 (t := t) (mv := .turn) nx0 ndx0 rfl
      have sb := Same.new (Same.refl _) (o := .lst [v, .ref x0]) hl
      replace s := (s.trans sa).trans sb
      exact ⟨.m, ⟨rfl, _, rfl, .inr ⟨l, _, 0, v, rfl, upd_same, rfl, nm.keep s, fun j y hj hy => absurd hj (Nat.not_lt_zero _)⟩⟩, fun H' s' => hE H' (s.trans s')⟩
theorem okx__law_unfit {f : Addr} {fd : FuncData} (F : Fun K "_law_unfit" "_law_unfit" s__law_unfit f fd) (T : Txt K mg t) (k_Cut : Mk1 P w K mg base 3 "Cut" t.cut (spInit1 t vCut isCut)) (k_Turn : Mk1 P w K mg base 3 "Turn" t.turn (spInit0 t .turn)) (k_Deal : Mk1 P w K mg base 3 "Deal" t.deal (spInit1 t vDeal isDeal)) (k_Under : Mk1 P w K mg base 3 "Under" t.under (spInit0 t .under)) (k_Weave : Mk1 P w K mg base 3 "Weave" t.weave (spInit1 t vWeave isWeave)) (k_Riffle : Mk1 P w K mg base 3 "Riffle" t.riffle (spInit1 t vRiffle isRiffle)) (x_done : ∀ mv : Mv, MthX P w K mg base 4 (mv.cls t) "done" (spDoneX K t u mv)) (x_undone : ∀ mv : Mv, MthX P w K mg base 4 (mv.cls t) "undone" (spR u (badDone K t mv))) (x_done_all : FnX P w K mg base 5 "done_all" (spR u (badAll K t))) (x_rings : FnX P w K mg base 3 "rings" (spR u (badRings K t))) (x_period : FnX P w K mg base 4 "period" (spR u (badRings K t))) (x_repeated : FnX P w K mg base 4 "repeated" (spR u (badRep K t))) : FnOk P w K mg base (CXe P w) 6 f fd ["_law_door", "_law_way"] (spR u badUf) := by
  refine F.okX sc__law_unfit (fun vs H Q E h => ?_) (fun cdv A outer s H vs Q E hr h Lv => ?_)
  · obtain ⟨r, ⟨_, d, k, rfl, _⟩, _⟩ := h
    rfl
  · obtain ⟨r, ⟨rfl, d, k, rfl, hd, hk⟩, hE⟩ := h
    have nd := sc__law_unfit.nd
    have s := Same.refl H
    have hd6 : d = 0 ∨ d = 1 ∨ d = 2 ∨ d = 3 ∨ d = 4 ∨ d = 5 := by omega
    rcases hd6 with rfl | rfl | rfl | rfl | rfl | rfl
    · refine ⟨_, (pss_cons (ps_set (i := 2) nd rfl (Or.inl rfl) (pe_ix ix_tup (pe_tup (pa_cons (pe_mk k_Cut hr (by rfl) (pa_cons pe_int pa_nil)) (pa_cons (pe_mk k_Weave hr (by rfl) (pa_cons pe_int pa_nil)) (pa_cons (pe_mk k_Weave hr (by rfl) (pa_cons pe_int pa_nil)) (pa_cons (pe_mk k_Riffle hr (by rfl) (pa_cons pe_str pa_nil)) (pa_cons (pe_mk k_Riffle hr (by rfl) (pa_cons pe_str pa_nil)) pa_nil)))))) (pv 1) (fun _ _ => rfl)))
 (pss_cut (ps_ifT (pt_cmpR op_eq (pv 0) pe_int (nomark _))
 (pss_one (ps_ret (pe_mtX 4 (Lv.pass fun _ _ _ h => h) hr (pv 2) (pa_cons (pe_lst (pa_cons pe_int (pa_cons pe_int (pa_cons pe_int pa_nil)))) pa_nil))))))), ?_⟩
      refine fun x0 dx0 nx0 ndx0 nex0 => ⟨x0, dx0, .cut 4, trivial, rfl, (show 4 ≤ 60 by decide), upd_same, rfl, ?_⟩
      obtain ⟨sa, m0⟩ := made1 (t := t) (mv := .cut 4) nx0 ndx0
      replace s := s.trans sa
      refine fun x1 dx1 nx1 ndx1 nex1 => ⟨x1, dx1, .weave 0, trivial, rfl, (show 0 ≤ 1 by decide), upd_same, rfl, ?_⟩
      obtain ⟨sa, m1⟩ := made1 (t := t) (mv := .weave 0) nx1 ndx1
      replace s := s.trans sa
      replace m0 := mv_keep m0 sa
      refine fun x2 dx2 nx2 ndx2 nex2 => ⟨x2, dx2, .weave 1, trivial, rfl, (show 1 ≤ 1 by decide), upd_same, rfl, ?_⟩
      obtain ⟨sa, m2⟩ := made1 (t := t) (mv := .weave 1) nx2 ndx2
      replace s := s.trans sa
      replace m0 := mv_keep m0 sa
      replace m1 := mv_keep m1 sa
      refine fun x3 dx3 nx3 ndx3 nex3 => ⟨x3, dx3, .riffle [true, false], trivial, rfl, ⟨by decide, by decide⟩, upd_same, rfl, ?_⟩
      obtain ⟨sa, m3⟩ := made1 (t := t) (mv := .riffle [true, false]) nx3 ndx3
      replace s := s.trans sa
      replace m0 := mv_keep m0 sa
      replace m1 := mv_keep m1 sa
      replace m2 := mv_keep m2 sa
      refine fun x4 dx4 nx4 ndx4 nex4 => ⟨x4, dx4, .riffle [true, false, true, false], trivial, rfl, ⟨by decide, by decide⟩, upd_same, rfl, ?_⟩
      obtain ⟨sa, m4⟩ := made1 (t := t) (mv := .riffle [true, false, true, false]) nx4 ndx4
      replace s := s.trans sa
      replace m0 := mv_keep m0 sa
      replace m1 := mv_keep m1 sa
      replace m2 := mv_keep m2 sa
      replace m3 := mv_keep m3 sa
      refine ⟨(by show 5 ≤ sizeLine; decide), fun tp htp => ?_⟩
      have sa := Same.new (Same.refl _) (o := .tup [.ref x0, .ref x1, .ref x2, .ref x3, .ref x4]) htp
      replace s := s.trans sa
      replace m0 := mv_keep m0 sa
      replace m1 := mv_keep m1 sa
      replace m2 := mv_keep m2 sa
      replace m3 := mv_keep m3 sa
      replace m4 := mv_keep m4 sa
      obtain ⟨p, mv, hat, mp, ok, nf⟩ := pick5 m0 m1 m2 m3 m4 k hk
      obtain ⟨dx, hp⟩ := id mp
      refine ⟨_, rfl, _, _, _, _, rfl, rfl, SqT.of upd_same, atI_nat hat, _, rfl, rfl, _, rfl, (by decide +kernel), ?_⟩
      refine ⟨_, rfl, _, _, _, _, _, rfl, hp, mv.no_done, x_done mv, (by show 3 ≤ sizeLine; decide), fun l hl => ?_⟩
      have sb := Same.new (Same.refl _) (o := .lst (nv [0, 1, 2])) hl
      replace s := s.trans sb
      exact .inr ⟨.m, ⟨p, _, rfl, mv_keep mp sb, .inr ⟨rfl, ok, l, [0, 1, 2], rfl, upd_same, good012, nf⟩⟩, fun H' s' => hE H' (s.trans s')⟩
    · refine ⟨_, (pss_cons (ps_set (i := 2) nd rfl (Or.inl rfl) (pe_ix ix_tup (pe_tup (pa_cons (pe_mk k_Cut hr (by rfl) (pa_cons pe_int pa_nil)) (pa_cons (pe_mk k_Weave hr (by rfl) (pa_cons pe_int pa_nil)) (pa_cons (pe_mk k_Weave hr (by rfl) (pa_cons pe_int pa_nil)) (pa_cons (pe_mk k_Riffle hr (by rfl) (pa_cons pe_str pa_nil)) (pa_cons (pe_mk k_Riffle hr (by rfl) (pa_cons pe_str pa_nil)) pa_nil)))))) (pv 1) (fun _ _ => rfl)))
 (pss_cons (ps_ifF (pt_cmpR op_eq (pv 0) pe_int (nomark _)) pss_nil)
 (pss_cut (ps_ifT (pt_cmpR op_eq (pv 0) pe_int (nomark _))
 (pss_one (ps_ret (pe_mtX 4 (Lv.pass fun _ _ _ h => h) hr (pv 2) (pa_cons (pe_lst (pa_cons pe_int (pa_cons pe_int (pa_cons pe_int pa_nil)))) pa_nil)))))))), ?_⟩
      refine fun x0 dx0 nx0 ndx0 nex0 => ⟨x0, dx0, .cut 4, trivial, rfl, (show 4 ≤ 60 by decide), upd_same, rfl, ?_⟩
      obtain ⟨sa, m0⟩ := made1 (t := t) (mv := .cut 4) nx0 ndx0
      replace s := s.trans sa
      refine fun x1 dx1 nx1 ndx1 nex1 => ⟨x1, dx1, .weave 0, trivial, rfl, (show 0 ≤ 1 by decide), upd_same, rfl, ?_⟩
      obtain ⟨sa, m1⟩ := made1 (t := t) (mv := .weave 0) nx1 ndx1
      replace s := s.trans sa
      replace m0 := mv_keep m0 sa
      refine fun x2 dx2 nx2 ndx2 nex2 => ⟨x2, dx2, .weave 1, trivial, rfl, (show 1 ≤ 1 by decide), upd_same, rfl, ?_⟩
      obtain ⟨sa, m2⟩ := made1 (t := t) (mv := .weave 1) nx2 ndx2
      replace s := s.trans sa
      replace m0 := mv_keep m0 sa
      replace m1 := mv_keep m1 sa
      refine fun x3 dx3 nx3 ndx3 nex3 => ⟨x3, dx3, .riffle [true, false], trivial, rfl, ⟨by decide, by decide⟩, upd_same, rfl, ?_⟩
      obtain ⟨sa, m3⟩ := made1 (t := t) (mv := .riffle [true, false]) nx3 ndx3
      replace s := s.trans sa
      replace m0 := mv_keep m0 sa
      replace m1 := mv_keep m1 sa
      replace m2 := mv_keep m2 sa
      refine fun x4 dx4 nx4 ndx4 nex4 => ⟨x4, dx4, .riffle [true, false, true, false], trivial, rfl, ⟨by decide, by decide⟩, upd_same, rfl, ?_⟩
      obtain ⟨sa, m4⟩ := made1 (t := t) (mv := .riffle [true, false, true, false]) nx4 ndx4
      replace s := s.trans sa
      replace m0 := mv_keep m0 sa
      replace m1 := mv_keep m1 sa
      replace m2 := mv_keep m2 sa
      replace m3 := mv_keep m3 sa
      refine ⟨(by show 5 ≤ sizeLine; decide), fun tp htp => ?_⟩
      have sa := Same.new (Same.refl _) (o := .tup [.ref x0, .ref x1, .ref x2, .ref x3, .ref x4]) htp
      replace s := s.trans sa
      replace m0 := mv_keep m0 sa
      replace m1 := mv_keep m1 sa
      replace m2 := mv_keep m2 sa
      replace m3 := mv_keep m3 sa
      replace m4 := mv_keep m4 sa
      obtain ⟨p, mv, hat, mp, ok, nf⟩ := pick5 m0 m1 m2 m3 m4 k hk
      obtain ⟨dx, hp⟩ := id mp
      refine ⟨_, rfl, _, _, _, _, rfl, rfl, SqT.of upd_same, atI_nat hat, _, rfl, rfl, _, rfl, (by decide +kernel), _, rfl, rfl, _, rfl, (by decide +kernel), ?_⟩
      refine ⟨_, rfl, _, _, _, _, _, rfl, hp, mv.no_undone, x_undone mv, (by show 3 ≤ sizeLine; decide), fun l hl => ?_⟩
      have sb := Same.new (Same.refl _) (o := .lst (nv [2, 1, 0])) hl
      replace s := s.trans sb
      exact ⟨.m, ⟨p, _, rfl, mv_keep mp sb, .inr ⟨rfl, ok, l, [2, 1, 0], rfl, upd_same, good210, nf⟩⟩, fun H' s' => hE H' (s.trans s')⟩
    · refine ⟨_, (pss_cons (ps_set (i := 2) nd rfl (Or.inl rfl) (pe_ix ix_tup (pe_tup (pa_cons (pe_mk k_Cut hr (by rfl) (pa_cons pe_int pa_nil)) (pa_cons (pe_mk k_Weave hr (by rfl) (pa_cons pe_int pa_nil)) (pa_cons (pe_mk k_Weave hr (by rfl) (pa_cons pe_int pa_nil)) (pa_cons (pe_mk k_Riffle hr (by rfl) (pa_cons pe_str pa_nil)) (pa_cons (pe_mk k_Riffle hr (by rfl) (pa_cons pe_str pa_nil)) pa_nil)))))) (pv 1) (fun _ _ => rfl)))
 (pss_cons (ps_ifF (pt_cmpR op_eq (pv 0) pe_int (nomark _)) pss_nil)
 (pss_cons (ps_ifF (pt_cmpR op_eq (pv 0) pe_int (nomark _)) pss_nil)
 (pss_cut (ps_ifT (pt_cmpR op_eq (pv 0) pe_int (nomark _))
 (pss_one (ps_ret (pe_fnx (Lv.pass fun _ _ _ h => h) x_done_all hr (by rfl) (pa_cons (pe_lst (pa_cons (pe_mk0 k_Turn hr (by rfl)) (pa_cons (pv 2) pa_nil))) (pa_cons (pe_lst (pa_cons pe_int (pa_cons pe_int (pa_cons pe_int pa_nil)))) pa_nil)))))))))), ?_⟩
      refine fun x0 dx0 nx0 ndx0 nex0 => ⟨x0, dx0, .cut 4, trivial, rfl, (show 4 ≤ 60 by decide), upd_same, rfl, ?_⟩
      obtain ⟨sa, m0⟩ := made1 (t := t) (mv := .cut 4) nx0 ndx0
      replace s := s.trans sa
      refine fun x1 dx1 nx1 ndx1 nex1 => ⟨x1, dx1, .weave 0, trivial, rfl, (show 0 ≤ 1 by decide), upd_same, rfl, ?_⟩
      obtain ⟨sa, m1⟩ := made1 (t := t) (mv := .weave 0) nx1 ndx1
      replace s := s.trans sa
      replace m0 := mv_keep m0 sa
      refine fun x2 dx2 nx2 ndx2 nex2 => ⟨x2, dx2, .weave 1, trivial, rfl, (show 1 ≤ 1 by decide), upd_same, rfl, ?_⟩
      obtain ⟨sa, m2⟩ := made1 (t := t) (mv := .weave 1) nx2 ndx2
      replace s := s.trans sa
      replace m0 := mv_keep m0 sa
      replace m1 := mv_keep m1 sa
      refine fun x3 dx3 nx3 ndx3 nex3 => ⟨x3, dx3, .riffle [true, false], trivial, rfl, ⟨by decide, by decide⟩, upd_same, rfl, ?_⟩
      obtain ⟨sa, m3⟩ := made1 (t := t) (mv := .riffle [true, false]) nx3 ndx3
      replace s := s.trans sa
      replace m0 := mv_keep m0 sa
      replace m1 := mv_keep m1 sa
      replace m2 := mv_keep m2 sa
      refine fun x4 dx4 nx4 ndx4 nex4 => ⟨x4, dx4, .riffle [true, false, true, false], trivial, rfl, ⟨by decide, by decide⟩, upd_same, rfl, ?_⟩
      obtain ⟨sa, m4⟩ := made1 (t := t) (mv := .riffle [true, false, true, false]) nx4 ndx4
      replace s := s.trans sa
      replace m0 := mv_keep m0 sa
      replace m1 := mv_keep m1 sa
      replace m2 := mv_keep m2 sa
      replace m3 := mv_keep m3 sa
      refine ⟨(by show 5 ≤ sizeLine; decide), fun tp htp => ?_⟩
      have sa := Same.new (Same.refl _) (o := .tup [.ref x0, .ref x1, .ref x2, .ref x3, .ref x4]) htp
      replace s := s.trans sa
      replace m0 := mv_keep m0 sa
      replace m1 := mv_keep m1 sa
      replace m2 := mv_keep m2 sa
      replace m3 := mv_keep m3 sa
      replace m4 := mv_keep m4 sa
      obtain ⟨p, mv, hat, mp, ok, nf⟩ := pick5 m0 m1 m2 m3 m4 k hk
      obtain ⟨dx, hp⟩ := id mp
      refine ⟨_, rfl, _, _, _, _, rfl, rfl, SqT.of upd_same, atI_nat hat, _, rfl, rfl, _, rfl, (by decide +kernel), _, rfl, rfl, _, rfl, (by decide +kernel), _, rfl, rfl, _, rfl, (by decide +kernel), ?_⟩
      refine fun x9 dx9 nx9 ndx9 nex9 => ⟨x9, dx9, rfl, upd_same, rfl, _, rfl, (by show 2 ≤ sizeLine; decide), fun l hl => ⟨(by show 3 ≤ sizeLine; decide), fun l2 hl2 => ?_⟩⟩
      obtain ⟨sa2, m9⟩ := made0 (t := t) (mv := .turn) nx9 ndx9 rfl
      have sb := Same.new (Same.refl _) (o := .lst [.ref x9, .ref p]) hl
      have sc := Same.new (Same.refl _) (o := .lst (nv [0, 1, 2])) hl2
      replace s := ((s.trans sa2).trans sb).trans sc
      refine ⟨.m, ⟨_, _, rfl, .inr ⟨l, [(x9, .turn), (p, mv)], rfl, sc _ _ upd_same, fun x hx => ?_, .inr ⟨rfl, l2, [0, 1, 2], x9, p, mv, rfl, upd_same, good012, rfl, ok, nf⟩⟩⟩, fun H' s' => hE H' (s.trans s')⟩
      rcases List.mem_cons.mp hx with z | z
      · rw [z]; exact mv_keep (mv_keep m9 sb) sc
      · rw [List.mem_singleton.mp z]; exact mv_keep (mv_keep (mv_keep mp sa2) sb) sc
    · refine ⟨_, (pss_cons (ps_set (i := 2) nd rfl (Or.inl rfl) (pe_ix ix_tup (pe_tup (pa_cons (pe_mk k_Cut hr (by rfl) (pa_cons pe_int pa_nil)) (pa_cons (pe_mk k_Weave hr (by rfl) (pa_cons pe_int pa_nil)) (pa_cons (pe_mk k_Weave hr (by rfl) (pa_cons pe_int pa_nil)) (pa_cons (pe_mk k_Riffle hr (by rfl) (pa_cons pe_str pa_nil)) (pa_cons (pe_mk k_Riffle hr (by rfl) (pa_cons pe_str pa_nil)) pa_nil)))))) (pv 1) (fun _ _ => rfl)))
 (pss_cons (ps_ifF (pt_cmpR op_eq (pv 0) pe_int (nomark _)) pss_nil)
 (pss_cons (ps_ifF (pt_cmpR op_eq (pv 0) pe_int (nomark _)) pss_nil)
 (pss_cons (ps_ifF (pt_cmpR op_eq (pv 0) pe_int (nomark _)) pss_nil)
 (pss_cut (ps_ifT (pt_cmpR op_eq (pv 0) pe_int (nomark _))
 (pss_one (ps_ret (pe_fnx (Lv.pass fun _ _ _ h => h) x_rings hr (by rfl) (pa_cons (pv 2) (pa_cons pe_int pa_nil))))))))))), ?_⟩
      refine fun x0 dx0 nx0 ndx0 nex0 => ⟨x0, dx0, .cut 4, trivial, rfl, (show 4 ≤ 60 by decide), upd_same, rfl, ?_⟩
      obtain ⟨sa, m0⟩ := made1 (t := t) (mv := .cut 4) nx0 ndx0
      replace s := s.trans sa
      refine fun x1 dx1 nx1 ndx1 nex1 => ⟨x1, dx1, .weave 0, trivial, rfl, (show 0 ≤ 1 by decide), upd_same, rfl, ?_⟩
      obtain ⟨sa, m1⟩ := made1 (t := t) (mv := .weave 0) nx1 ndx1
      replace s := s.trans sa
      replace m0 := mv_keep m0 sa
      refine fun x2 dx2 nx2 ndx2 nex2 => ⟨x2, dx2, .weave 1, trivial, rfl, (show 1 ≤ 1 by decide), upd_same, rfl, ?_⟩
      obtain ⟨sa, m2⟩ := made1 (t := t) (mv := .weave 1) nx2 ndx2
      replace s := s.trans sa
      replace m0 := mv_keep m0 sa
      replace m1 := mv_keep m1 sa
      refine fun x3 dx3 nx3 ndx3 nex3 => ⟨x3, dx3, .riffle [true, false], trivial, rfl, ⟨by decide, by decide⟩, upd_same, rfl, ?_⟩
      obtain ⟨sa, m3⟩ := made1 (t := t) (mv := .riffle [true, false]) nx3 ndx3
      replace s := s.trans sa
      replace m0 := mv_keep m0 sa
      replace m1 := mv_keep m1 sa
      replace m2 := mv_keep m2 sa
      refine fun x4 dx4 nx4 ndx4 nex4 => ⟨x4, dx4, .riffle [true, false, true, false], trivial, rfl, ⟨by decide, by decide⟩, upd_same, rfl, ?_⟩
      obtain ⟨sa, m4⟩ := made1 (t := t) (mv := .riffle [true, false, true, false]) nx4 ndx4
      replace s := s.trans sa
      replace m0 := mv_keep m0 sa
      replace m1 := mv_keep m1 sa
      replace m2 := mv_keep m2 sa
      replace m3 := mv_keep m3 sa
      refine ⟨(by show 5 ≤ sizeLine; decide), fun tp htp => ?_⟩
      have sa := Same.new (Same.refl _) (o := .tup [.ref x0, .ref x1, .ref x2, .ref x3, .ref x4]) htp
      replace s := s.trans sa
      replace m0 := mv_keep m0 sa
      replace m1 := mv_keep m1 sa
      replace m2 := mv_keep m2 sa
      replace m3 := mv_keep m3 sa
      replace m4 := mv_keep m4 sa
      obtain ⟨p, mv, hat, mp, ok, nf⟩ := pick5 m0 m1 m2 m3 m4 k hk
      obtain ⟨dx, hp⟩ := id mp
      refine ⟨_, rfl, _, _, _, _, rfl, rfl, SqT.of upd_same, atI_nat hat, _, rfl, rfl, _, rfl, (by decide +kernel), _, rfl, rfl, _, rfl, (by decide +kernel), _, rfl, rfl, _, rfl, (by decide +kernel), _, rfl, rfl, _, rfl, (by decide +kernel), ?_⟩
      exact ⟨_, rfl, .m, ⟨_, _, rfl, .inr ⟨p, mv, rfl, mp, .inr ⟨rfl, ok, 3, rfl, by decide, by decide, nf⟩⟩⟩, fun H' s' => hE H' (s.trans s')⟩
    · refine ⟨_, (pss_cons (ps_set (i := 2) nd rfl (Or.inl rfl) (pe_ix ix_tup (pe_tup (pa_cons (pe_mk k_Cut hr (by rfl) (pa_cons pe_int pa_nil)) (pa_cons (pe_mk k_Weave hr (by rfl) (pa_cons pe_int pa_nil)) (pa_cons (pe_mk k_Weave hr (by rfl) (pa_cons pe_int pa_nil)) (pa_cons (pe_mk k_Riffle hr (by rfl) (pa_cons pe_str pa_nil)) (pa_cons (pe_mk k_Riffle hr (by rfl) (pa_cons pe_str pa_nil)) pa_nil)))))) (pv 1) (fun _ _ => rfl)))
 (pss_cons (ps_ifF (pt_cmpR op_eq (pv 0) pe_int (nomark _)) pss_nil)
 (pss_cons (ps_ifF (pt_cmpR op_eq (pv 0) pe_int (nomark _)) pss_nil)
 (pss_cons (ps_ifF (pt_cmpR op_eq (pv 0) pe_int (nomark _)) pss_nil)
 (pss_cons (ps_ifF (pt_cmpR op_eq (pv 0) pe_int (nomark _)) pss_nil)
 (pss_cut (ps_ifT (pt_cmpR op_eq (pv 0) pe_int (nomark _))
 (pss_one (ps_ret (pe_fnx (Lv.pass fun _ _ _ h => h) x_period hr (by rfl) (pa_cons (pv 2) (pa_cons pe_int pa_nil)))))))))))), ?_⟩
      refine fun x0 dx0 nx0 ndx0 nex0 => ⟨x0, dx0, .cut 4, trivial, rfl, (show 4 ≤ 60 by decide), upd_same, rfl, ?_⟩
      obtain ⟨sa, m0⟩ := made1 (t := t) (mv := .cut 4) nx0 ndx0
      replace s := s.trans sa
      refine fun x1 dx1 nx1 ndx1 nex1 => ⟨x1, dx1, .weave 0, trivial, rfl, (show 0 ≤ 1 by decide), upd_same, rfl, ?_⟩
      obtain ⟨sa, m1⟩ := made1 (t := t) (mv := .weave 0) nx1 ndx1
      replace s := s.trans sa
      replace m0 := mv_keep m0 sa
      refine fun x2 dx2 nx2 ndx2 nex2 => ⟨x2, dx2, .weave 1, trivial, rfl, (show 1 ≤ 1 by decide), upd_same, rfl, ?_⟩
      obtain ⟨sa, m2⟩ := made1 (t := t) (mv := .weave 1) nx2 ndx2
      replace s := s.trans sa
      replace m0 := mv_keep m0 sa
      replace m1 := mv_keep m1 sa
      refine fun x3 dx3 nx3 ndx3 nex3 => ⟨x3, dx3, .riffle [true, false], trivial, rfl, ⟨by decide, by decide⟩, upd_same, rfl, ?_⟩
      obtain ⟨sa, m3⟩ := made1 (t := t) (mv := .riffle [true, false]) nx3 ndx3
      replace s := s.trans sa
      replace m0 := mv_keep m0 sa
      replace m1 := mv_keep m1 sa
      replace m2 := mv_keep m2 sa
      refine fun x4 dx4 nx4 ndx4 nex4 => ⟨x4, dx4, .riffle [true, false, true, false], trivial, rfl, ⟨by decide, by decide⟩, upd_same, rfl, ?_⟩
      obtain ⟨sa, m4⟩ := made1 (t := t) (mv := .riffle [true, false, true, false]) nx4 ndx4
      replace s := s.trans sa
      replace m0 := mv_keep m0 sa
      replace m1 := mv_keep m1 sa
      replace m2 := mv_keep m2 sa
      replace m3 := mv_keep m3 sa
      refine ⟨(by show 5 ≤ sizeLine; decide), fun tp htp => ?_⟩
      have sa := Same.new (Same.refl _) (o := .tup [.ref x0, .ref x1, .ref x2, .ref x3, .ref x4]) htp
      replace s := s.trans sa
      replace m0 := mv_keep m0 sa
      replace m1 := mv_keep m1 sa
      replace m2 := mv_keep m2 sa
      replace m3 := mv_keep m3 sa
      replace m4 := mv_keep m4 sa
      obtain ⟨p, mv, hat, mp, ok, nf⟩ := pick5 m0 m1 m2 m3 m4 k hk
      obtain ⟨dx, hp⟩ := id mp
      refine ⟨_, rfl, _, _, _, _, rfl, rfl, SqT.of upd_same, atI_nat hat, _, rfl, rfl, _, rfl, (by decide +kernel), _, rfl, rfl, _, rfl, (by decide +kernel), _, rfl, rfl, _, rfl, (by decide +kernel), _, rfl, rfl, _, rfl, (by decide +kernel), _, rfl, rfl, _, rfl, (by decide +kernel), ?_⟩
      exact ⟨_, rfl, .m, ⟨_, _, rfl, .inr ⟨p, mv, rfl, mp, .inr ⟨rfl, ok, 3, rfl, by decide, by decide, nf⟩⟩⟩, fun H' s' => hE H' (s.trans s')⟩
    · refine ⟨_, (pss_cons (ps_set (i := 2) nd rfl (Or.inl rfl) (pe_ix ix_tup (pe_tup (pa_cons (pe_mk k_Cut hr (by rfl) (pa_cons pe_int pa_nil)) (pa_cons (pe_mk k_Weave hr (by rfl) (pa_cons pe_int pa_nil)) (pa_cons (pe_mk k_Weave hr (by rfl) (pa_cons pe_int pa_nil)) (pa_cons (pe_mk k_Riffle hr (by rfl) (pa_cons pe_str pa_nil)) (pa_cons (pe_mk k_Riffle hr (by rfl) (pa_cons pe_str pa_nil)) pa_nil)))))) (pv 1) (fun _ _ => rfl)))
 (pss_cons (ps_ifF (pt_cmpR op_eq (pv 0) pe_int (nomark _)) pss_nil)
 (pss_cons (ps_ifF (pt_cmpR op_eq (pv 0) pe_int (nomark _)) pss_nil)
 (pss_cons (ps_ifF (pt_cmpR op_eq (pv 0) pe_int (nomark _)) pss_nil)
 (pss_cons (ps_ifF (pt_cmpR op_eq (pv 0) pe_int (nomark _)) pss_nil)
 (pss_cons (ps_ifF (pt_cmpR op_eq (pv 0) pe_int (nomark _)) pss_nil)
 (pss_one (ps_ret (pe_fnx (Lv.pass fun _ _ _ h => h) x_repeated hr (by rfl) (pa_cons (pv 2) (pa_cons (pe_lst (pa_cons pe_int (pa_cons pe_int (pa_cons pe_int pa_nil)))) (pa_cons pe_int pa_nil)))))))))))), ?_⟩
      refine fun x0 dx0 nx0 ndx0 nex0 => ⟨x0, dx0, .cut 4, trivial, rfl, (show 4 ≤ 60 by decide), upd_same, rfl, ?_⟩
      obtain ⟨sa, m0⟩ := made1 (t := t) (mv := .cut 4) nx0 ndx0
      replace s := s.trans sa
      refine fun x1 dx1 nx1 ndx1 nex1 => ⟨x1, dx1, .weave 0, trivial, rfl, (show 0 ≤ 1 by decide), upd_same, rfl, ?_⟩
      obtain ⟨sa, m1⟩ := made1 (t := t) (mv := .weave 0) nx1 ndx1
      replace s := s.trans sa
      replace m0 := mv_keep m0 sa
      refine fun x2 dx2 nx2 ndx2 nex2 => ⟨x2, dx2, .weave 1, trivial, rfl, (show 1 ≤ 1 by decide), upd_same, rfl, ?_⟩
      obtain ⟨sa, m2⟩ := made1 (t := t) (mv := .weave 1) nx2 ndx2
      replace s := s.trans sa
      replace m0 := mv_keep m0 sa
      replace m1 := mv_keep m1 sa
      refine fun x3 dx3 nx3 ndx3 nex3 => ⟨x3, dx3, .riffle [true, false], trivial, rfl, ⟨by decide, by decide⟩, upd_same, rfl, ?_⟩
      obtain ⟨sa, m3⟩ := made1 (t := t) (mv := .riffle [true, false]) nx3 ndx3
      replace s := s.trans sa
      replace m0 := mv_keep m0 sa
      replace m1 := mv_keep m1 sa
      replace m2 := mv_keep m2 sa
      refine fun x4 dx4 nx4 ndx4 nex4 => ⟨x4, dx4, .riffle [true, false, true, false], trivial, rfl, ⟨by decide, by decide⟩, upd_same, rfl, ?_⟩
      obtain ⟨sa, m4⟩ := made1 (t := t) (mv := .riffle [true, false, true, false]) nx4 ndx4
      replace s := s.trans sa
      replace m0 := mv_keep m0 sa
      replace m1 := mv_keep m1 sa
      replace m2 := mv_keep m2 sa
      replace m3 := mv_keep m3 sa
      refine ⟨(by show 5 ≤ sizeLine; decide), fun tp htp => ?_⟩
      have sa := Same.new (Same.refl _) (o := .tup [.ref x0, .ref x1, .ref x2, .ref x3, .ref x4]) htp
      replace s := s.trans sa
      replace m0 := mv_keep m0 sa
      replace m1 := mv_keep m1 sa
      replace m2 := mv_keep m2 sa
      replace m3 := mv_keep m3 sa
      replace m4 := mv_keep m4 sa
      obtain ⟨p, mv, hat, mp, ok, nf⟩ := pick5 m0 m1 m2 m3 m4 k hk
      obtain ⟨dx, hp⟩ := id mp
      refine ⟨_, rfl, _, _, _, _, rfl, rfl, SqT.of upd_same, atI_nat hat, _, rfl, rfl, _, rfl, (by decide +kernel), _, rfl, rfl, _, rfl, (by decide +kernel), _, rfl, rfl, _, rfl, (by decide +kernel), _, rfl, rfl, _, rfl, (by decide +kernel), _, rfl, rfl, _, rfl, (by decide +kernel), ?_⟩
      refine ⟨_, rfl, (by show 3 ≤ sizeLine; decide), fun l hl => ?_⟩
      have sb := Same.new (Same.refl _) (o := .lst (nv [0, 1, 2])) hl
      replace s := s.trans sb
      exact ⟨.m, ⟨_, _, _, rfl, .inr ⟨p, mv, rfl, mv_keep mp sb, .inr ⟨l, [0, 1, 2], rfl, upd_same, good012, .inr ⟨rfl, ok, rfl, nf⟩⟩⟩⟩, fun H' s' => hE H' (s.trans s')⟩
theorem okx__law_with_number {f : Addr} {fd : FuncData} (F : Fun K "_law_with_number" "_law_with_number" s__law_with_number f fd) (T : Txt K mg t) (k_Cut : Mk1 P w K mg base 3 "Cut" t.cut (spInit1 t vCut isCut)) (k_Weave : Mk1 P w K mg base 3 "Weave" t.weave (spInit1 t vWeave isWeave)) (x_rings : FnX P w K mg base 3 "rings" (spR u (badRings K t))) (x_period : FnX P w K mg base 4 "period" (spR u (badRings K t))) (x_repeated : FnX P w K mg base 4 "repeated" (spR u (badRep K t))) (x_ways : FnX P w K mg base 5 "ways" (spR u (badWays K))) (x_orders_with : FnX P w K mg base 3 "orders_with" (spR u (badOw K))) (x_brought : FnX P w K mg base 5 "brought" (spR u (badBr K))) : FnOk P w K mg base (CXe P w) 6 f fd ["_law_door", "_law_bad"] (spR u (badWn K)) := by
  refine F.okX sc__law_with_number (fun vs H Q E h => ?_) (fun cdv A outer s H vs Q E hr h Lv => ?_)
  · obtain ⟨r, ⟨_, d, v, rfl, _⟩, _⟩ := h
    rfl
  · obtain ⟨r, ⟨rfl, d, v, rfl, hd, hb⟩, hE⟩ := h
    have s := Same.refl H
    have hk : d = 0 ∨ d = 1 ∨ d = 2 ∨ d = 3 ∨ d = 4 ∨ d = 5 ∨ d = 6 ∨ d = 7 := by omega
    rcases hk with rfl | rfl | rfl | rfl | rfl | rfl | rfl | rfl
    · refine ⟨_, (pss_cut (ps_ifT (pt_cmpR op_eq (pv 0) pe_int (nomark _))
 (pss_one (ps_ret (pe_fnx (Lv.pass fun _ _ _ h => h) x_rings hr (by rfl) (pa_cons (pe_mk k_Weave hr (by rfl) (pa_cons pe_int pa_nil)) (pa_cons (pv 1) pa_nil))))))), ?_⟩
      refine ⟨_, rfl, rfl, _, rfl, (by decide +kernel), ?_⟩
      refine fun x0 dx0 nx0 ndx0 nex0 => ⟨x0, dx0, .weave 0, trivial, rfl, (show 0 ≤ 1 by decide), upd_same, rfl, ?_⟩
      obtain ⟨sa, m0⟩ := made1 (t := t) (mv := .weave 0) nx0 ndx0
      replace s := s.trans sa
      exact ⟨_, rfl, .n, ⟨_, _, rfl, .inr ⟨x0, .weave 0, rfl, m0, .inl ⟨rfl, hb.keep s⟩⟩⟩, fun H' s' => hE H' (s.trans s')⟩
    · refine ⟨_, (pss_cons (ps_ifF (pt_cmpR op_eq (pv 0) pe_int (nomark _)) pss_nil)
 (pss_cut (ps_ifT (pt_cmpR op_eq (pv 0) pe_int (nomark _))
 (pss_one (ps_ret (pe_fnx (Lv.pass fun _ _ _ h => h) x_period hr (by rfl) (pa_cons (pe_mk k_Cut hr (by rfl) (pa_cons pe_int pa_nil)) (pa_cons (pv 1) pa_nil)))))))), ?_⟩
      refine ⟨_, rfl, rfl, _, rfl, (by decide +kernel), _, rfl, rfl, _, rfl, (by decide +kernel), ?_⟩
      refine fun x0 dx0 nx0 ndx0 nex0 => ⟨x0, dx0, .cut 60, trivial, rfl, (show 60 ≤ 60 by decide), upd_same, rfl, ?_⟩
      obtain ⟨sa, m0⟩ := made1 (t := t) (mv := .cut 60) nx0 ndx0
      replace s := s.trans sa
      exact ⟨_, rfl, .n, ⟨_, _, rfl, .inr ⟨x0, .cut 60, rfl, m0, .inl ⟨rfl, hb.keep s⟩⟩⟩, fun H' s' => hE H' (s.trans s')⟩
    · refine ⟨_, (pss_cons (ps_ifF (pt_cmpR op_eq (pv 0) pe_int (nomark _)) pss_nil)
 (pss_cons (ps_ifF (pt_cmpR op_eq (pv 0) pe_int (nomark _)) pss_nil)
 (pss_cut (ps_ifT (pt_cmpR op_eq (pv 0) pe_int (nomark _))
 (pss_one (ps_ret (pe_fnx (Lv.pass fun _ _ _ h => h) x_repeated hr (by rfl) (pa_cons (pe_mk k_Weave hr (by rfl) (pa_cons pe_int pa_nil)) (pa_cons (pe_lst (pa_cons pe_int (pa_cons pe_int (pa_cons pe_int pa_nil)))) (pa_cons (pv 1) pa_nil)))))))))), ?_⟩
      refine ⟨_, rfl, rfl, _, rfl, (by decide +kernel), _, rfl, rfl, _, rfl, (by decide +kernel), _, rfl, rfl, _, rfl, (by decide +kernel), ?_⟩
      refine fun x0 dx0 nx0 ndx0 nex0 => ⟨x0, dx0, .weave 0, trivial, rfl, (show 0 ≤ 1 by decide), upd_same, rfl, ?_⟩
      obtain ⟨sa, m0⟩ := made1 (t := t) (mv := .weave 0) nx0 ndx0
      replace s := s.trans sa
      refine ⟨(by show 3 ≤ sizeLine; decide), fun l hl => ?_⟩
      have sb := Same.new (Same.refl _) (o := .lst (nv [0, 1, 2])) hl
      replace s := s.trans sb
      exact ⟨_, rfl, .n, ⟨_, _, _, rfl, .inr ⟨x0, .weave 0, rfl, mv_keep m0 sb, .inr ⟨l, [0, 1, 2], rfl, upd_same, good012, .inl ⟨rfl, hb.keep s⟩⟩⟩⟩, fun H' s' => hE H' (s.trans s')⟩
    · refine ⟨_, (pss_cons (ps_ifF (pt_cmpR op_eq (pv 0) pe_int (nomark _)) pss_nil)
 (pss_cons (ps_ifF (pt_cmpR op_eq (pv 0) pe_int (nomark _)) pss_nil)
 (pss_cons (ps_ifF (pt_cmpR op_eq (pv 0) pe_int (nomark _)) pss_nil)
 (pss_cut (ps_ifT (pt_cmpR op_eq (pv 0) pe_int (nomark _))
 (pss_one (ps_ret (pe_fnx (Lv.pass fun _ _ _ h => h) x_ways hr (by rfl) (pa_cons (pe_lst (pa_cons pe_int (pa_cons pe_int pa_nil))) (pa_cons (pv 1) pa_nil)))))))))), ?_⟩
      refine ⟨_, rfl, rfl, _, rfl, (by decide +kernel), _, rfl, rfl, _, rfl, (by decide +kernel), _, rfl, rfl, _, rfl, (by decide +kernel), _, rfl, rfl, _, rfl, (by decide +kernel), ?_⟩
      refine ⟨(by show 2 ≤ sizeLine; decide), fun l hl => ?_⟩
      have sb := Same.new (Same.refl _) (o := .lst (nv [0, 1])) hl
      replace s := s.trans sb
      exact ⟨_, rfl, .n, ⟨_, _, rfl, .inr ⟨l, [0, 1], rfl, upd_same, good01, rfl, hb.keep s⟩⟩, fun H' s' => hE H' (s.trans s')⟩
    · refine ⟨_, (pss_cons (ps_ifF (pt_cmpR op_eq (pv 0) pe_int (nomark _)) pss_nil)
 (pss_cons (ps_ifF (pt_cmpR op_eq (pv 0) pe_int (nomark _)) pss_nil)
 (pss_cons (ps_ifF (pt_cmpR op_eq (pv 0) pe_int (nomark _)) pss_nil)
 (pss_cons (ps_ifF (pt_cmpR op_eq (pv 0) pe_int (nomark _)) pss_nil)
 (pss_cut (ps_ifT (pt_cmpR op_eq (pv 0) pe_int (nomark _))
 (pss_one (ps_ret (pe_fnx (Lv.pass fun _ _ _ h => h) x_orders_with hr (by rfl) (pa_cons (pv 1) (pa_cons pe_int pa_nil))))))))))), ?_⟩
      refine ⟨_, rfl, rfl, _, rfl, (by decide +kernel), _, rfl, rfl, _, rfl, (by decide +kernel), _, rfl, rfl, _, rfl, (by decide +kernel), _, rfl, rfl, _, rfl, (by decide +kernel), _, rfl, rfl, _, rfl, (by decide +kernel), ?_⟩
      exact ⟨_, rfl, .n, ⟨v, _, rfl, rfl, .inl hb⟩, hE⟩
    · refine ⟨_, (pss_cons (ps_ifF (pt_cmpR op_eq (pv 0) pe_int (nomark _)) pss_nil)
 (pss_cons (ps_ifF (pt_cmpR op_eq (pv 0) pe_int (nomark _)) pss_nil)
 (pss_cons (ps_ifF (pt_cmpR op_eq (pv 0) pe_int (nomark _)) pss_nil)
 (pss_cons (ps_ifF (pt_cmpR op_eq (pv 0) pe_int (nomark _)) pss_nil)
 (pss_cons (ps_ifF (pt_cmpR op_eq (pv 0) pe_int (nomark _)) pss_nil)
 (pss_cut (ps_ifT (pt_cmpR op_eq (pv 0) pe_int (nomark _))
 (pss_one (ps_ret (pe_fnx (Lv.pass fun _ _ _ h => h) x_orders_with hr (by rfl) (pa_cons pe_int (pa_cons (pv 1) pa_nil)))))))))))), ?_⟩
      refine ⟨_, rfl, rfl, _, rfl, (by decide +kernel), _, rfl, rfl, _, rfl, (by decide +kernel), _, rfl, rfl, _, rfl, (by decide +kernel), _, rfl, rfl, _, rfl, (by decide +kernel), _, rfl, rfl, _, rfl, (by decide +kernel), _, rfl, rfl, _, rfl, (by decide +kernel), ?_⟩
      exact ⟨_, rfl, .n, ⟨_, v, rfl, rfl, .inr ⟨3, rfl, by decide, by decide, hb⟩⟩, hE⟩
    · refine ⟨_, (pss_cons (ps_ifF (pt_cmpR op_eq (pv 0) pe_int (nomark _)) pss_nil)
 (pss_cons (ps_ifF (pt_cmpR op_eq (pv 0) pe_int (nomark _)) pss_nil)
 (pss_cons (ps_ifF (pt_cmpR op_eq (pv 0) pe_int (nomark _)) pss_nil)
 (pss_cons (ps_ifF (pt_cmpR op_eq (pv 0) pe_int (nomark _)) pss_nil)
 (pss_cons (ps_ifF (pt_cmpR op_eq (pv 0) pe_int (nomark _)) pss_nil)
 (pss_cons (ps_ifF (pt_cmpR op_eq (pv 0) pe_int (nomark _)) pss_nil)
 (pss_cut (ps_ifT (pt_cmpR op_eq (pv 0) pe_int (nomark _))
 (pss_one (ps_ret (pe_fnx (Lv.pass fun _ _ _ h => h) x_brought hr (by rfl) (pa_cons (pv 1) (pa_cons pe_int pa_nil))))))))))))), ?_⟩
      refine ⟨_, rfl, rfl, _, rfl, (by decide +kernel), _, rfl, rfl, _, rfl, (by decide +kernel), _, rfl, rfl, _, rfl, (by decide +kernel), _, rfl, rfl, _, rfl, (by decide +kernel), _, rfl, rfl, _, rfl, (by decide +kernel), _, rfl, rfl, _, rfl, (by decide +kernel), _, rfl, rfl, _, rfl, (by decide +kernel), ?_⟩
      exact ⟨_, rfl, .n, ⟨v, _, rfl, rfl, .inl hb⟩, hE⟩
    · refine ⟨_, (pss_cons (ps_ifF (pt_cmpR op_eq (pv 0) pe_int (nomark _)) pss_nil)
 (pss_cons (ps_ifF (pt_cmpR op_eq (pv 0) pe_int (nomark _)) pss_nil)
 (pss_cons (ps_ifF (pt_cmpR op_eq (pv 0) pe_int (nomark _)) pss_nil)
 (pss_cons (ps_ifF (pt_cmpR op_eq (pv 0) pe_int (nomark _)) pss_nil)
 (pss_cons (ps_ifF (pt_cmpR op_eq (pv 0) pe_int (nomark _)) pss_nil)
 (pss_cons (ps_ifF (pt_cmpR op_eq (pv 0) pe_int (nomark _)) pss_nil)
 (pss_cons (ps_ifF (pt_cmpR op_eq (pv 0) pe_int (nomark _)) pss_nil)
 (pss_one (ps_ret (pe_fnx (Lv.pass fun _ _ _ h => h) x_brought hr (by rfl) (pa_cons pe_int (pa_cons (pv 1) pa_nil)))))))))))), ?_⟩
      refine ⟨_, rfl, rfl, _, rfl, (by decide +kernel), _, rfl, rfl, _, rfl, (by decide +kernel), _, rfl, rfl, _, rfl, (by decide +kernel), _, rfl, rfl, _, rfl, (by decide +kernel), _, rfl, rfl, _, rfl, (by decide +kernel), _, rfl, rfl, _, rfl, (by decide +kernel), _, rfl, rfl, _, rfl, (by decide +kernel), ?_⟩
      exact ⟨_, rfl, .n, ⟨_, v, rfl, rfl, .inr ⟨8, rfl, by decide, by decide, .inr ⟨by decide, (show BadNum K H v 0 (((8 : Nat) : Int) - 1) from hb)⟩⟩⟩, hE⟩
end
end Rf

set_option Elab.async false
set_option linter.all false
set_option maxRecDepth 100000
set_option maxHeartbeats 4000000
namespace Rf
open PySem L2
def spLaw (K : PySem.W.Frag) (T0 : Addr) : Sp := fun vs H Q _ => ∃ (a : Addr) (ns : List Int), vs = [.ref a] ∧ SqL K H a (ns.map V.int) ∧ ns.length ≤ 63 ∧ H T0 = some (tabO T0 #[]) ∧ ∀ H', (∃ ps, H' T0 = some (tabO T0 ps)) → Q (.bl true) H'
theorem body_law {C : Prop} (k : ∀ p1 e1 e2 e3 e4 e5 p2 p3 p4 p5 p6 p7 p8 p9 p10 p11 p12 p13 p14 p15 p16 e6 e7 e8 e9 e10 e11 p17 p18 p19 p20 p21 p22 p23 p24 p25 p26 p27 p28 p29 p30 e12 e13 e14 e15 e16 e17 p31 p32 p33 p34 p35 p36 p37 p38 p39 e18 e19 e20 e21 e22 p40 p41 p42 p43 p44 p45 p46 p47 p48 p49 p50 p51 p52 p53 p54 p55 p56 p57 p58 p59 p60 p61 p62 p63 e23 e24 e25 p64 p65 p66 p67 p68 p69 e26 e27 e28 e29 e30 e31 e32 e33 e34 p70 p71 p72 p73 p74 p75 p76 p77 p78 p79 p80 p81 p82 e35 e36 e37 p83 p84 p85 p86 e38 p87 p88 p89 e39 e40 e41 e42 e43 e44 p90 p91 p92 e45 e46 e47 p93 p94, defBody s_law = [((defBody s_law).getD 0 (.Pass ⟨0, 0, 0, 0⟩)),
    ((defBody s_law).getD 1 (.Pass ⟨0, 0, 0, 0⟩)),
    .Assign [.Name "_law_number" p1] (.List [e1, e2, e3, e4, e5] p2) p3,
    ((defBody s_law).getD 3 (.Pass ⟨0, 0, 0, 0⟩)),
    .If (.UnaryOp .Not (.Call (.Name "_law_all" p4) [.Name "_law_made" p5, .Constant (.int 4) p6 p7, .List [.BinOp (.UnaryOp .USub (.Constant (.int 1) p8 p9) p10) .Sub (.Name "_law_far" p11) p12, .BinOp (.Constant (.int 61) p13 p14) .Add (.Name "_law_far" p15) p16, e6, e7, e8, e9, e10, e11, .BinOp (.Constant (.str "a") p17 p18) .Mult (.Constant (.int 61) p19 p20) p21] p22, .Name "_law_move" p23] [] p24) p25) (ifB ((defBody s_law).getD 4 (.Pass ⟨0, 0, 0, 0⟩))) (ifE ((defBody s_law).getD 4 (.Pass ⟨0, 0, 0, 0⟩))) p26,
    .If (.UnaryOp .Not (.Call (.Name "_law_all" p27) [.Name "_law_with_move" p28, .Constant (.int 6) p29 p30, .List [e12, e13, e14, e15, e16, e17] p31, .Name "_law_move" p32] [] p33) p34) (ifB ((defBody s_law).getD 5 (.Pass ⟨0, 0, 0, 0⟩))) (ifE ((defBody s_law).getD 5 (.Pass ⟨0, 0, 0, 0⟩))) p35,
    .If (.UnaryOp .Not (.Call (.Name "_law_all" p36) [.Name "_law_unfit" p37, .Constant (.int 6) p38 p39, .List [e18, e19, e20, e21, e22] p40, .Name "_law_move" p41] [] p42) p43) (ifB ((defBody s_law).getD 6 (.Pass ⟨0, 0, 0, 0⟩))) (ifE ((defBody s_law).getD 6 (.Pass ⟨0, 0, 0, 0⟩))) p44,
    .If (.UnaryOp .Not (.Call (.Name "_law_all" p45) [.Name "_law_with_number" p46, .Constant (.int 8) p47 p48, .List [.BinOp (.UnaryOp .USub (.Constant (.int 1) p49 p50) p51) .Sub (.Name "_law_far" p52) p53, .BinOp (.BinOp (.BinOp (.Constant (.int 10) p54 p55) .Pow (.Constant (.int 18) p56 p57) p58) .Add (.Constant (.int 1) p59 p60) p61) .Add (.Name "_law_far" p62) p63, e23, e24, e25] p64, .Name "_law_number" p65] [] p66) p67) (ifB ((defBody s_law).getD 7 (.Pass ⟨0, 0, 0, 0⟩))) (ifE ((defBody s_law).getD 7 (.Pass ⟨0, 0, 0, 0⟩))) p68,
    .Assign [.Name "_law_beyond" p69] (.List [e26, e27, e28, e29, e30, e31, e32, e33, .Tuple [e34, .BinOp (.BinOp (.Constant (.int 10) p70 p71) .Pow (.Constant (.int 18) p72 p73) p74) .Add (.Constant (.int 1) p75 p76) p77] p78 p79] p80) p81,
    ((defBody s_law).getD 9 (.Pass ⟨0, 0, 0, 0⟩)),
    .For (.Name "_law_thing" p82) (.List [e35, e36, e37, .Tuple [.Call (.Name "Turn" p83) [] [] p84] p85 p86, e38] p87) (forB ((defBody s_law).getD 10 (.Pass ⟨0, 0, 0, 0⟩))) [] p88,
    ((defBody s_law).getD 11 (.Pass ⟨0, 0, 0, 0⟩)),
    .For (.Name "_law_odd" p89) (.List [e39, e40, e41, e42, e43, e44] p90) (forB ((defBody s_law).getD 12 (.Pass ⟨0, 0, 0, 0⟩))) [] p91,
    .For (.Name "_law_pair" p92) (.List [e45, e46, e47] p93) (forB ((defBody s_law).getD 13 (.Pass ⟨0, 0, 0, 0⟩))) [] p94,
    ((defBody s_law).getD 14 (.Pass ⟨0, 0, 0, 0⟩)),
    ((defBody s_law).getD 15 (.Pass ⟨0, 0, 0, 0⟩)),
    ((defBody s_law).getD 16 (.Pass ⟨0, 0, 0, 0⟩))] → Itm e1 (tC (.bl false)) → Itm e2 (tC (.bl false)) → Itm e3 (tC (.bl true)) → Itm e4 (tC (.bl false)) → Itm e5 (tC (.bl true)) → Itm e6 (tC (.bl true)) → Itm e7 (tC (.non)) → Itm e8 (tC (.str (Str.ofString ""))) → Itm e9 (tTup (tK [.int 1])) → Itm e10 (tLst (tK [.int 1])) → Itm e11 (tC (.str (Str.ofString "abc"))) → Itm e12 (tC (.non)) → Itm e13 (tC (.str (Str.ofString "turn"))) → Itm e14 (tC (.int 5)) → Itm e15 (tLst (tK [.int 1])) → Itm e16 (tC (.str (Str.ofString ""))) → Itm e17 tDNew → Itm e18 (tC (.int 0)) → Itm e19 (tC (.int 1)) → Itm e20 (tC (.int 2)) → Itm e21 (tC (.int 3)) → Itm e22 (tC (.int 4)) → Itm e23 (tC (.bl true)) → Itm e24 (tC (.non)) → Itm e25 (tC (.str (Str.ofString "1"))) → Itm e26 (tTup (tK [.int 0, .int 0])) → Itm e27 (tTup (tK [.int 0, .int 61])) → Itm e28 (tTup (tK [.int 1, .int 0])) → Itm e29 (tTup (tK [.int 1, .int 61])) → Itm e30 (tTup (tK [.int 3, .int 31])) → Itm e31 (tTup (tK [.int 4, .int 0])) → Itm e32 (tTup (tK [.int 4, .int 61])) → Itm e33 (tTup (tK [.int 5, .int 61])) → Itm e34 (tC (.int 2)) → Itm e35 (tC (.non)) → Itm e36 (tTup (tK [])) → Itm e37 (tC (.str (Str.ofString "turn"))) → Itm e38 (tC (.int 5)) → Itm e39 (tC (.int 1)) → Itm e40 (tC (.int 3)) → Itm e41 (tC (.int 59)) → Itm e42 (tC (.int 61)) → Itm e43 (tC (.int 62)) → Itm e44 (tC (.int 0)) → Itm e45 (tTup (tK [.int 8, .int 8])) → Itm e46 (tTup (tK [.int 2, .int 2])) → Itm e47 (tTup (tK [.int 60, .int 60])) → C) : C := k _ _ _ _ _ _ _ _ _ _ _ _ _ _ _ _ _ _ _ _ _ _ _ _ _ _ _ _ _ _ _ _ _ _ _ _ _ _ _ _ _ _ _ _ _ _ _ _ _ _ _ _ _ _ _ _ _ _ _ _ _ _ _ _ _ _ _ _ _ _ _ _ _ _ _ _ _ _ _ _ _ _ _ _ _ _ _ _ _ _ _ _ _ _ _ _ _ _ _ _ _ _ _ _ _ _ _ _ _ _ _ _ _ _ _ _ _ _ _ _ _ _ _ _ _ _ _ _ _ _ _ _ _ _ _ _ _ _ _ _ _ rfl (itm_con rfl) (itm_con rfl) (itm_con rfl) (itm_con rfl) (itm_con rfl) (itm_con rfl) (itm_con rfl) (itm_con rfl) (itm_tup rfl) (itm_lst rfl) (itm_con rfl) (itm_con rfl) (itm_con rfl) (itm_con rfl) (itm_lst rfl) (itm_con rfl) (itm_dict) (itm_con rfl) (itm_con rfl) (itm_con rfl) (itm_con rfl) (itm_con rfl) (itm_con rfl) (itm_con rfl) (itm_con rfl) (itm_tup rfl) (itm_tup rfl) (itm_tup rfl) (itm_tup rfl) (itm_tup rfl) (itm_tup rfl) (itm_tup rfl) (itm_tup rfl) (itm_con rfl) (itm_con rfl) (itm_tup rfl) (itm_con rfl) (itm_con rfl) (itm_con rfl) (itm_con rfl) (itm_con rfl) (itm_con rfl) (itm_con rfl) (itm_con rfl) (itm_tup rfl) (itm_tup rfl) (itm_tup rfl)
open PySem.Spec PyProof.Rows in
abbrev lq : Str := (envOfC "law" (defScope s_law) 0 0 .none).qual ++ "<lambda>"
section
variable {K : PySem.W.Frag} {H H' : Hp} {v : V} {t : Adr}
structure Bad4 (K : PySem.W.Frag) (H : Hp) (v : V) : Prop where
  cut : BadNum K H v 0 60
  deal : BadNum K H v 1 60
  weave : BadNum K H v 0 1
  word : BadWord K H v
theorem Bad4.keep (h : Bad4 K H v) (s : Same H H') : Bad4 K H' v := ⟨h.cut.keep s, h.deal.keep s, h.weave.keep s, h.word.keep s⟩
theorem Bad4.at_ (h : Bad4 K H v) : ∀ {d : Nat}, d < 4 → ((d = 0 ∧ BadNum K H v 0 60) ∨ (d = 1 ∧ BadNum K H v 1 60) ∨ (d = 2 ∧ BadNum K H v 0 1) ∨ (d = 3 ∧ BadWord K H v))
  | 0, _ => .inl ⟨rfl, h.cut⟩ | 1, _ => .inr (.inl ⟨rfl, h.deal⟩) | 2, _ => .inr (.inr (.inl ⟨rfl, h.weave⟩)) | 3, _ => .inr (.inr (.inr ⟨rfl, h.word⟩))
  | n + 4, h => absurd h (by omega)
theorem Bad4.no (h : NotInt K H v) (w : BadWord K H v) : Bad4 K H v := ⟨h.bad, h.bad, h.bad, w⟩
theorem b4_int {i : Int} (h : i < 0 ∨ 60 < i) : Bad4 K H (.int i) := ⟨bad_int (by omega), bad_int (by omega), bad_int (by omega), .inl ⟨_, .int i, rfl⟩⟩
theorem b4_bl (b : Bool) : Bad4 K H (.bl b) := .no (ni_bl b) (.inl ⟨_, .bl b, rfl⟩)
theorem b4_non : Bad4 K H .non := .no ni_non (.inl ⟨_, .non, rfl⟩)
theorem b4_str {z : Str} (h : z.length ≤ 1000 ∧ ((z.length = 0 ∨ 60 < z.length) ∨ (1 ≤ z.length ∧ z.length ≤ 60 ∧ z.cps.toList.count 97 + z.cps.toList.count 98 ≠ z.length))) : Bad4 K H (.str z) := .no (ni_str z) (.inr ⟨z, rfl, h.1, h.2⟩)
theorem b4_tup {a : Addr} {xs : List V} (e : H a = some (.tup xs)) : Bad4 K H (.ref a) := .no (ni_tup e) (.inl ⟨_, .tup e, rfl⟩)
theorem b4_lst {a : Addr} {xs : List V} (e : H a = some (.lst xs)) : Bad4 K H (.ref a) := .no (ni_lst e) (.inl ⟨_, .lst e, rfl⟩)
theorem bad_made {v1 v2 v5 v6 v7 v8 : V} {far : Nat} {t1 t2 : Addr} (g1 : H t1 = some (.tup [.int 1])) (g2 : H t2 = some (.lst [.int 1])) :
    ∀ v ∈ [V.int (-1 - (far : Int)), .int (61 + (far : Int)), .bl true, .non, .str (Str.ofString ""), .ref t1, .ref t2, .str (Str.ofString "abc"), .str (repS (Str.ofString "a") 61)], Bad4 K H v := by
  intro v hv
  simp only [List.mem_cons, List.not_mem_nil, or_false] at hv
  rcases hv with rfl | rfl | rfl | rfl | rfl | rfl | rfl | rfl | rfl
  · exact b4_int (by omega)
  · exact b4_int (by omega)
  · exact b4_bl true
  · exact b4_non
  · exact b4_str (by decide +kernel)
  · exact b4_tup g1
  · exact b4_lst g2
  · exact b4_str (by decide +kernel)
  · exact b4_str (by decide +kernel)
theorem bad_moves (NM : NoMv K t) {t1 t2 : Addr} (g1 : H t1 = some (.lst [.int 1])) (g2 : H t2 = some (.dK [])) :
    ∀ v ∈ [V.non, .str (Str.ofString "turn"), .int 5, .ref t1, .str (Str.ofString ""), .ref t2], NoMove K t H v ∧ BadMoves K t H v := by
  intro v hv
  simp only [List.mem_cons, List.not_mem_nil, or_false] at hv
  rcases hv with rfl | rfl | rfl | rfl | rfl | rfl
  · exact ⟨⟨_, .non, NM.non⟩, .inl ⟨_, .non, rfl⟩⟩
  · exact ⟨⟨_, .str _, NM.str⟩, .inl ⟨_, .str _, rfl⟩⟩
  · exact ⟨⟨_, .int _, NM.int⟩, .inl ⟨_, .int _, rfl⟩⟩
  · exact ⟨⟨_, .lst g1, NM.list⟩, .inr ⟨t1, _, 0, .int 1, rfl, g1, rfl, ⟨_, .int _, NM.int⟩, fun j y hj => absurd hj (Nat.not_lt_zero j)⟩⟩
  · exact ⟨⟨_, .str _, NM.str⟩, .inl ⟨_, .str _, rfl⟩⟩
  · exact ⟨⟨_, .dK g2, NM.dict⟩, .inl ⟨_, .dK g2, rfl⟩⟩
theorem bad_unfit : ∀ v ∈ [V.int 0, .int 1, .int 2, .int 3, .int 4], ∃ k : Nat, k < 5 ∧ v = .int (k : Int) := by
  intro v hv
  simp only [List.mem_cons, List.not_mem_nil, or_false] at hv
  rcases hv with rfl | rfl | rfl | rfl | rfl
  · exact ⟨0, by decide, rfl⟩
  · exact ⟨1, by decide, rfl⟩
  · exact ⟨2, by decide, rfl⟩
  · exact ⟨3, by decide, rfl⟩
  · exact ⟨4, by decide, rfl⟩
theorem lim_in : ∀ d : Nat, d < 8 → 0 ≤ (lim d).1 ∧ (lim d).2 ≤ 1000000000000000000
  | 0, _ => by decide | 1, _ => by decide | 2, _ => by decide | 3, _ => by decide | 4, _ => by decide | 5, _ => by decide | 6, _ => by decide | 7, _ => by decide
  | n + 8, h => absurd h (by omega)
theorem bad_lim {i : Int} (h : i < 0 ∨ 1000000000000000000 < i) {d : Nat} (hd : d < 8) : BadNum K H (.int i) (lim d).1 (lim d).2 := by
  have := lim_in d hd
  exact bad_int (by omega)
theorem bad_number {far : Nat} {v : V} (hv : v ∈ [V.int (-1 - (far : Int)), .int ((10 : Int) ^ (18 : Int).toNat + 1 + (far : Int)), .bl true, .non, .str (Str.ofString "1")]) {d : Nat} (hd : d < 8) : BadNum K H v (lim d).1 (lim d).2 := by
  simp only [List.mem_cons, List.not_mem_nil, or_false] at hv
  rcases hv with rfl | rfl | rfl | rfl | rfl
  · exact bad_lim (by omega) hd
  · refine bad_lim ?_ hd
    have e : (10 : Int) ^ (18 : Int).toNat = 1000000000000000000 := by decide
    rw [e]
    omega
  · exact (ni_bl true).bad
  · exact ni_non.bad
  · exact (ni_str _).bad
theorem bad_written {q1 q2 : Addr} {xs : List V} (g1 : H q1 = some (.tup [])) (g2 : H q2 = some (.tup xs)) : ∀ v ∈ [V.non, .ref q1, .str (Str.ofString "turn"), .ref q2, .int 5], BadMoves K t H v := by
  intro v hv
  simp only [List.mem_cons, List.not_mem_nil, or_false] at hv
  rcases hv with rfl | rfl | rfl | rfl | rfl
  · exact .inl ⟨_, .non, rfl⟩
  · exact .inl ⟨_, .tup g1, rfl⟩
  · exact .inl ⟨_, .str _, rfl⟩
  · exact .inl ⟨_, .tup g2, rfl⟩
  · exact .inl ⟨_, .int _, rfl⟩
theorem bad_odd : ∀ v ∈ [V.int 1, .int 3, .int 59, .int 61, .int 62, .int 0], BadNum K H v 2 60 ∨ ∃ n : Nat, v = .int (n : Int) ∧ 2 ≤ n ∧ n ≤ 60 ∧ (n % 2 = 1 ∨ (n % 2 = 0 ∧ BadNum K H (.int 0) 0 ((n : Int) - 1))) := by
  intro v hv
  simp only [List.mem_cons, List.not_mem_nil, or_false] at hv
  rcases hv with rfl | rfl | rfl | rfl | rfl | rfl
  · exact .inl (bad_int (by omega))
  · exact .inr ⟨3, rfl, by decide, by decide, .inl (by decide)⟩
  · exact .inr ⟨59, rfl, by decide, by decide, .inl (by decide)⟩
  · exact .inl (bad_int (by omega))
  · exact .inl (bad_int (by omega))
  · exact .inl (bad_int (by omega))
theorem bad_pair {b1 b2 b3 : Addr} (g1 : H b1 = some (.tup [.int 8, .int 8])) (g2 : H b2 = some (.tup [.int 2, .int 2])) (g3 : H b3 = some (.tup [.int 60, .int 60])) : ∀ v ∈ [V.ref b1, .ref b2, .ref b3], ∃ (b : Addr) (n : Nat), v = .ref b ∧ H b = some (.tup [.int (n : Int), .int (n : Int)]) ∧ 2 ≤ n ∧ n ≤ 60 ∧ n % 2 = 0 := by
  intro v hv
  simp only [List.mem_cons, List.not_mem_nil, or_false] at hv
  rcases hv with rfl | rfl | rfl
  · exact ⟨b1, 8, rfl, g1, by decide, by decide, by decide⟩
  · exact ⟨b2, 2, rfl, g2, by decide, by decide, by decide⟩
  · exact ⟨b3, 60, rfl, g3, by decide, by decide, by decide⟩
theorem bad_beyond {b1 b2 b3 b4 b5 b6 b7 b8 b9 : Addr} (g1 : H b1 = some (.tup [.int 0, .int 0])) (g2 : H b2 = some (.tup [.int 0, .int 61])) (g3 : H b3 = some (.tup [.int 1, .int 0])) (g4 : H b4 = some (.tup [.int 1, .int 61])) (g5 : H b5 = some (.tup [.int 3, .int 31]))
    (g6 : H b6 = some (.tup [.int 4, .int 0])) (g7 : H b7 = some (.tup [.int 4, .int 61])) (g8 : H b8 = some (.tup [.int 5, .int 61])) (g9 : H b9 = some (.tup [.int 2, .int ((10 : Int) ^ (18 : Int).toNat + 1)])) :
    ∀ v ∈ [V.ref b1, .ref b2, .ref b3, .ref b4, .ref b5, .ref b6, .ref b7, .ref b8, .ref b9], ∃ (b : Addr) (d : Nat) (x : V), v = .ref b ∧ H b = some (.tup [.int (d : Int), x]) ∧ d < 8 ∧ BadNum K H x (lim d).1 (lim d).2 := by
  intro v hv
  simp only [List.mem_cons, List.not_mem_nil, or_false] at hv
  rcases hv with rfl | rfl | rfl | rfl | rfl | rfl | rfl | rfl | rfl
  · exact ⟨b1, 0, _, rfl, g1, by decide, bad_int (by decide)⟩
  · exact ⟨b2, 0, _, rfl, g2, by decide, bad_int (by decide)⟩
  · exact ⟨b3, 1, _, rfl, g3, by decide, bad_int (by decide)⟩
  · exact ⟨b4, 1, _, rfl, g4, by decide, bad_int (by decide)⟩
  · exact ⟨b5, 3, _, rfl, g5, by decide, bad_int (by decide)⟩
  · exact ⟨b6, 4, _, rfl, g6, by decide, bad_int (by decide)⟩
  · exact ⟨b7, 4, _, rfl, g7, by decide, bad_int (by decide)⟩
  · exact ⟨b8, 5, _, rfl, g8, by decide, bad_int (by decide)⟩
  · exact ⟨b9, 2, _, rfl, g9, by decide, bad_int (by decide)⟩
end
theorem ways_30 : waysN [0].length (rowsOf [0]).length 30 = 2 ^ 30 := by decide +kernel
theorem eul_60 : (eulAt (60 - 1)).getD 60 0 = 1 := by
  have h := eul_sym (k := 59) (i := 0) (by decide) (by decide)
  rw [eul_one (by decide)] at h
  exact h.symm
theorem bits_59 : (bitsOf 59).length = 6 := by decide +kernel
theorem good60 : Good (List.range' 0 60) := ⟨(by show List.Perm (List.range' 0 60) (List.range (List.range' 0 60).length); decide +kernel), by decide, by decide⟩
theorem rep_18 : movedN ((Mv.cut 1).src (List.range' 0 60).length) (List.range' 0 60) (10 ^ 18) = pick (List.range' 0 60) ((Mv.cut 40).src (List.range' 0 60).length) := by
  have p : ((Mv.cut 1).src (List.range' 0 60).length).Perm (List.range (List.range' 0 60).length) := Mv.src_perm (show 1 ≤ 60 by decide) (show 1 ≤ 60 by decide)
  have h := moved_per p 40 ((10 ^ 18 - 40) / 60)
  have e : perOf (ringsOf (gOf ((Mv.cut 1).src (List.range' 0 60).length) (List.range' 0 60).length) (List.range' 0 60).length) = 60 := by decide +kernel
  rw [e, show 40 + (10 ^ 18 - 40) / 60 * 60 = 10 ^ 18 by decide] at h
  rw [h]
  decide +kernel
theorem rings_01 : rgsOf (.cut 0) 1 = [[0]] := by decide +kernel
theorem deal_60 : pick [0] ((Mv.deal 60).src [0].length) = [0] := by decide +kernel
theorem deal_1 : pick [0, 1] ((Mv.deal 1).src [0, 1].length) = [1, 0] := by decide +kernel
theorem good0 : Good [0] := ⟨(by show List.Perm [0] (List.range 1); decide), by decide, by decide⟩
def scL (x : Str) : Scope := { kind := .function, names := [(Str.ofString "_law_one", .local), (Str.ofString "_law_other", .local), (x, .globalImplicit)], isGenerator := false, isCoroutine := false, more := [] }
theorem scL_written : FnScope ["_law_one", "_law_other"] ["_law_one", "_law_other"] (scL "written") := ⟨rfl, rfl, rfl, by decide +kernel, rfl, by decide +kernel, by decide +kernel⟩
theorem scL_brought : FnScope ["_law_one", "_law_other"] ["_law_one", "_law_other"] (scL "brought") := ⟨rfl, rfl, rfl, by decide +kernel, rfl, by decide +kernel, by decide +kernel⟩
section
variable {P : Program} {w : World} {K : PySem.W.Frag} {mg : Str → Option Value} {base : Heap} {t : Adr} {u : XA}
theorem ask_written {f c : Addr} {l : Lam} {p1 p2 p3 : Pos} (x_written : FnX P w K mg base 3 "written" (spR u (badMs K t))) (hb : l.body = .Call (.Name "written" p1) [.Name "_law_one" p2] [] p3)
    (hs : l.scope = scL "written")
    (hbind : ∀ (pm ctv : Value) (us : List Value), us.length = 2 → bindArgs (PySem.W.kla_fn "<lambda>" l.qual l.params l.body l.scope [] pm (.ref c) ctv) ⟨us, []⟩ = pure (([Str.ofString "_law_one", Str.ofString "_law_other"] : List Str).zip us)) :
    Ask P w K mg base 7 f (fun vs H Q E => H f = some (lamO f c l) ∧ H c = some (codO c l.qual) ∧ ∃ v1 v2, vs = [v1, v2] ∧ spR u (badMs K t) [v1] H Q E) := by
  have hv : l.scope.names.lookup (Str.ofString "_law_one") = some .local := by rw [hs]; rfl
  have hg : l.scope.names.lookup (Str.ofString "written") = some .globalImplicit := by rw [hs]; decide +kernel
  refine lam_ask (k := 6) (N := ["_law_one", "_law_other"]) (by rw [hs]; exact scL_written) (fun vs H Q E h => ?_) hbind (fun A outer s H vs Q E hr h Lv => ?_)
  · obtain ⟨v1, v2, rfl, _⟩ := h
    rfl
  · obtain ⟨v1, v2, rfl, h⟩ := h
    rw [hb]
    exact ⟨_, pe_fnx (Lv.pass fun _ _ _ h => h) x_written hr hg (pa_cons (pv 0 rfl (.inl hv)) pa_nil), ⟨_, rfl, h⟩⟩
theorem ask_brought {f c : Addr} {l : Lam} {p1 p2 p3 p4 : Pos} (x_brought : FnX P w K mg base 5 "brought" (spR u (badBr K))) (hb : l.body = .Call (.Name "brought" p1) [.Name "_law_one" p2, .Name "_law_other" p4] [] p3)
    (hs : l.scope = scL "brought")
    (hbind : ∀ (pm ctv : Value) (us : List Value), us.length = 2 → bindArgs (PySem.W.kla_fn "<lambda>" l.qual l.params l.body l.scope [] pm (.ref c) ctv) ⟨us, []⟩ = pure (([Str.ofString "_law_one", Str.ofString "_law_other"] : List Str).zip us)) :
    Ask P w K mg base 7 f (fun vs H Q E => H f = some (lamO f c l) ∧ H c = some (codO c l.qual) ∧ ∃ v1 v2, vs = [v1, v2] ∧ spR u (badBr K) [v1, v2] H Q E) := by
  have hv : l.scope.names.lookup (Str.ofString "_law_one") = some .local := by rw [hs]; rfl
  have hv2 : l.scope.names.lookup (Str.ofString "_law_other") = some .local := by rw [hs]; decide +kernel
  have hg : l.scope.names.lookup (Str.ofString "brought") = some .globalImplicit := by rw [hs]; decide +kernel
  refine lam_ask (k := 6) (N := ["_law_one", "_law_other"]) (by rw [hs]; exact scL_brought) (fun vs H Q E h => ?_) hbind (fun A outer s H vs Q E hr h Lv => ?_)
  · obtain ⟨v1, v2, rfl, _⟩ := h
    rfl
  · obtain ⟨v1, v2, rfl, h⟩ := h
    rw [hb]
    exact ⟨_, pe_fnx (Lv.pass fun _ _ _ h => h) x_brought hr hg (pa_cons (pv 0 rfl (.inl hv)) (pa_cons (pv 1 rfl (.inl hv2)) pa_nil)), ⟨_, rfl, _, rfl, h⟩⟩
end
theorem here {H : Hp} {l : Addr} {o : HO} (h : H l = none) : upd H l o l = some o := upd_same
theorem all_rep (n : Nat) : ((List.replicate n true).all id) = true := by simp
theorem rep_add (i : Nat) : (List.replicate i true).map V.bl ++ [V.bl true] = (List.replicate (i + 1) true).map V.bl := by rw [List.replicate_succ', List.map_append]; rfl
theorem rng60 : rngV 0 1 ((60 : Int) - 0).toNat = nv (List.range' 0 60) := rngV_nv 0 60
theorem noext_lst {xs : List V} : ∀ φ, HO.lst xs ≠ .ext φ := fun _ e => by cases e
theorem noext_tup {xs : List V} : ∀ φ, HO.tup xs ≠ .ext φ := fun _ e => by cases e
end Rf

set_option Elab.async false
set_option linter.all false
set_option maxRecDepth 100000
set_option maxHeartbeats 4000000
namespace Rf
open PySem L2
section
variable {P : Program} {w : World} {K : PySem.W.Frag} {mg : Str → Option Value} {base : Heap} {t : Adr} {u : XA}
theorem ok_law {f : Addr} {fd : FuncData} {c0 T0 : Addr} (F : Fun K "law" "law" s_law f fd) (hc : fd.code = .ref c0) (Chd : PySem.W.CodeHd base c0 T0) (hgT : mainGlobals ≠ T0) (Hb : base.BuiltinsAt mg T0) (T : Txt K mg t) (Z : ExcTxt K mg u) (NM : NoMv K t)
    (f__law_cell_at : Fn1 P w K mg base 1 "_law_cell_at" (spCell K)) (f__law_orders : Fn1 P w K mg base 1 "_law_orders" (spOrds K)) (f__law_all : Fn1 P w K mg base 9 "_law_all" (spAllL P w K mg base u)) (f__law_told : Fn1 P w K mg base 8 "_law_told" (spTold10 P w K mg base u))
    (x__law_with_order : FnX P w K mg base 7 "_law_with_order" (spR u (badWo K))) (x__law_made : FnX P w K mg base 5 "_law_made" (spR u (badMade K))) (x__law_with_move : FnX P w K mg base 6 "_law_with_move" (spR u (badWm K t))) (x__law_unfit : FnX P w K mg base 6 "_law_unfit" (spR u badUf)) (x__law_with_number : FnX P w K mg base 6 "_law_with_number" (spR u (badWn K)))
    (x_written : FnX P w K mg base 3 "written" (spR u (badMs K t))) (x_brought : FnX P w K mg base 5 "brought" (spR u (badBr K)))
    (k_Cut : Mk1 P w K mg base 3 "Cut" t.cut (spInit1 t vCut isCut)) (k_Turn : Mk1 P w K mg base 3 "Turn" t.turn (spInit0 t .turn)) (k_Deal : Mk1 P w K mg base 3 "Deal" t.deal (spInit1 t vDeal isDeal))
    (f_ways : Fn1 P w K mg base 5 "ways" spWays) (f_orders_with : Fn1 P w K mg base 3 "orders_with" spOw) (f_brought : Fn1 P w K mg base 5 "brought" (spBrought t)) (f_repeated : Fn1 P w K mg base 4 "repeated" (spRepeated t)) (f_rings : Fn1 P w K mg base 3 "rings" (spRings t)) (m_done : ∀ mv : Mv, Mth P w K mg base 4 (mv.cls t) "done" (spDone t mv)) :
    FnOk P w K mg base CX0 10 f fd ["_law_script"] (spLaw K T0) := by
  refine F.okC hc sc_law (fun vs H Q E h => ?_) (fun A outer s H vs Q E hr h => ?_)
  · obtain ⟨a, ns, rfl, _⟩ := h
    rfl
  · obtain ⟨a, ns, rfl, ha, h63, hT, q⟩ := h
    have nd := sc_law.nd
    have hu := hr.units0
    have hu1 := hu_of hr
    obtain ⟨fo, hm__law_with_order, Ao⟩ := x__law_with_order.named (j := 7) (by decide)
    obtain ⟨fm, hm__law_made, Am⟩ := x__law_made.named (j := 7) (by decide)
    obtain ⟨fw, hm__law_with_move, Aw⟩ := x__law_with_move.named (j := 7) (by decide)
    obtain ⟨fu, hm__law_unfit, Au⟩ := x__law_unfit.named (j := 7) (by decide)
    obtain ⟨fn, hm__law_with_number, An⟩ := x__law_with_number.named (j := 7) (by decide)
    refine body_law fun p1 e1 e2 e3 e4 e5 p2 p3 p4 p5 p6 p7 p8 p9 p10 p11 p12 p13 p14 p15 p16 e6 e7 e8 e9 e10 e11 p17 p18 p19 p20 p21 p22 p23 p24 p25 p26 p27 p28 p29 p30 e12 e13 e14 e15 e16 e17 p31 p32 p33 p34 p35 p36 p37 p38 p39 e18 e19 e20 e21 e22 p40 p41 p42 p43 p44 p45 p46 p47 p48 p49 p50 p51 p52 p53 p54 p55 p56 p57 p58 p59 p60 p61 p62 p63 e23 e24 e25 p64 p65 p66 p67 p68 p69 e26 e27 e28 e29 e30 e31 e32 e33 e34 p70 p71 p72 p73 p74 p75 p76 p77 p78 p79 p80 p81 p82 e35 e36 e37 p83 p84 p85 p86 e38 p87 p88 p89 e39 e40 e41 e42 e43 e44 p90 p91 p92 e45 e46 e47 p93 p94 eb he1 he2 he3 he4 he5 he6 he7 he8 he9 he10 he11 he12 he13 he14 he15 he16 he17 he18 he19 he20 he21 he22 he23 he24 he25 he26 he27 he28 he29 he30 he31 he32 he33 he34 he35 he36 he37 he38 he39 he40 he41 he42 he43 he44 he45 he46 he47 => ?_
    rw [eb]
    refine ⟨_, (pss_cons (ps_set (i := 1) nd rfl (Or.inl rfl) (pe_op op_mod (pe_fn f__law_cell_at hr (by rfl) (pa_cons (pv 0) (pa_cons pe_int pa_nil))) (pe_op op_pow pe_int pe_int)))
 (pss_cons (ps_par (i := 2) (j := 3) rfl nd rfl rfl (by decide) rfl rfl (pa_cons (pe_lst (pa_cons pe_bl (pa_cons pe_bl (pa_cons pe_bl (pa_cons pe_bl (pa_cons pe_bl pa_nil)))))) (pa_cons (pe_lst (pa_cons pe_bl (pa_cons pe_bl (pa_cons pe_bl (pa_cons pe_bl (pa_cons pe_bl pa_nil)))))) pa_nil)) (by rfl))
 (pss_cons (ps_set (i := 4) nd rfl (Or.inr rfl) (pe_lst (pa_I he1 (pa_I he2 (pa_I he3 (pa_I he4 (pa_I he5 pa_nil)))))))
 (pss_cons (ps_if (pt_not (pt_val (pe_fn f__law_all hr (by rfl) (pa_cons (pe_glob (v := .ref _) rfl hm__law_with_order rfl) (pa_cons pe_int (pa_cons (pe_fn f__law_orders hr (by rfl) (pa_cons (pv 1) pa_nil)) (pa_cons (pv 2) pa_nil)))))))
 (pss_one (ps_ret pe_bl))
 pss_nil)
 (pss_cons (ps_if (pt_not (pt_val (pe_fn f__law_all hr (by rfl) (pa_cons (pe_glob (v := .ref _) rfl hm__law_made rfl) (pa_cons pe_int (pa_cons (pe_lst (pa_cons (pe_op op_sub (pe_neg) (pv 1)) (pa_cons (pe_op op_add pe_int (pv 1)) (pa_I he6 (pa_I he7 (pa_I he8 (pa_I he9 (pa_I he10 (pa_I he11 (pa_cons (pe_op op_mulS pe_str pe_int) pa_nil)))))))))) (pa_cons (pv 3) pa_nil)))))))
 (pss_one (ps_ret pe_bl))
 pss_nil)
 (pss_cons (ps_if (pt_not (pt_val (pe_fn f__law_all hr (by rfl) (pa_cons (pe_glob (v := .ref _) rfl hm__law_with_move rfl) (pa_cons pe_int (pa_cons (pe_lst (pa_I he12 (pa_I he13 (pa_I he14 (pa_I he15 (pa_I he16 (pa_I he17 pa_nil))))))) (pa_cons (pv 3) pa_nil)))))))
 (pss_one (ps_ret pe_bl))
 pss_nil)
 (pss_cons (ps_if (pt_not (pt_val (pe_fn f__law_all hr (by rfl) (pa_cons (pe_glob (v := .ref _) rfl hm__law_unfit rfl) (pa_cons pe_int (pa_cons (pe_lst (pa_I he18 (pa_I he19 (pa_I he20 (pa_I he21 (pa_I he22 pa_nil)))))) (pa_cons (pv 3) pa_nil)))))))
 (pss_one (ps_ret pe_bl))
 pss_nil)
 (pss_cons (ps_if (pt_not (pt_val (pe_fn f__law_all hr (by rfl) (pa_cons (pe_glob (v := .ref _) rfl hm__law_with_number rfl) (pa_cons pe_int (pa_cons (pe_lst (pa_cons (pe_op op_sub (pe_neg) (pv 1)) (pa_cons (pe_op op_add (pe_op op_add (pe_op op_pow pe_int pe_int) pe_int) (pv 1)) (pa_I he23 (pa_I he24 (pa_I he25 pa_nil)))))) (pa_cons (pv 4) pa_nil)))))))
 (pss_one (ps_ret pe_bl))
 pss_nil)
 (pss_cons (ps_set (i := 5) nd rfl (Or.inl rfl) (pe_lst (pa_I he26 (pa_I he27 (pa_I he28 (pa_I he29 (pa_I he30 (pa_I he31 (pa_I he32 (pa_I he33 (pa_cons (pe_tup (pa_I he34 (pa_cons (pe_op op_add (pe_op op_pow pe_int pe_int) pe_int) pa_nil))) pa_nil)))))))))))
 (pss_cons (ps_if (pt_not (pt_val (pe_callB (call_all rfl) (by rfl) T.no_all (show bootBuiltins "all" = some (.builtin "all") by decide +kernel) (pa_cons (pe_lc (ys := ["_law_number"]) (js := [4]) rfl (pi_list (pv 5)) rfl (by decide +kernel) (by decide +kernel) rfl rfl rfl (by decide +kernel) (fun _ _ _ _ => (pe_cmpR (op_eqLK (K := K) rfl hu) (pe_fn f__law_told hr (by rfl) (pa_cons (pe_glob (v := .ref _) rfl hm__law_with_number rfl) (pa_cons (pe_ix (ix_tupK (K := K) rfl) (pv 0) pe_int (fun _ _ => rfl)) (pa_cons (pe_ix (ix_tupK (K := K) rfl) (pv 0) pe_int (fun _ _ => rfl)) pa_nil)))) (pv 1) (nomark _)))) pa_nil))))
 (pss_one (ps_ret pe_bl))
 pss_nil)
 (pss_cons (ps_for PassesOwn.never rfl (pi_list (pe_lst (pa_I he35 (pa_I he36 (pa_I he37 (pa_cons (pe_tup (pa_cons (pe_mk0 k_Turn hr (by rfl)) pa_nil)) (pa_I he38 pa_nil))))))) (pg_name (i := 6) nd rfl (Or.inl rfl))
 (pss_one (ps_if (pt_cmpR (op_neL hu) (pe_fn f__law_told hr (by rfl) (pa_cons (pe_lam rfl Chd rfl rfl hgT Hb) (pa_cons (pv 6) (pa_cons pe_int pa_nil)))) (pv 3) (nomark _))
 (pss_one (ps_ret pe_bl))
 pss_nil)))
 (pss_cons (ps_if (PW.pt (pw_or (pt_cmpR (op_neL hu) (pe_fn f__law_told hr (by rfl) (pa_cons (pe_glob (v := .ref _) rfl hm__law_made rfl) (pa_cons pe_int (pa_cons pe_int pa_nil)))) (pv 3) (nomark _)) (pw_or (pt_cmpR (op_neL hu) (pe_fn f__law_told hr (by rfl) (pa_cons (pe_glob (v := .ref _) rfl hm__law_made rfl) (pa_cons pe_int (pa_cons pe_int pa_nil)))) (pv 3) (nomark _)) (pw_or1 (pt_cmpR (op_neL hu) (pe_fn f__law_told hr (by rfl) (pa_cons (pe_glob (v := .ref _) rfl hm__law_made rfl) (pa_cons pe_int (pa_cons pe_int pa_nil)))) (pv 3) (nomark _))))))
 (pss_one (ps_ret pe_bl))
 pss_nil)
 (pss_cons (ps_for PassesOwn.never rfl (pi_list (pe_lst (pa_I he39 (pa_I he40 (pa_I he41 (pa_I he42 (pa_I he43 (pa_I he44 pa_nil)))))))) (pg_name (i := 7) nd rfl (Or.inl rfl))
 (pss_one (ps_if (pt_cmpR (op_neL hu) (pe_fn f__law_told hr (by rfl) (pa_cons (pe_lam rfl Chd rfl rfl hgT Hb) (pa_cons (pv 7) (pa_cons pe_int pa_nil)))) (pv 4) (nomark _))
 (pss_one (ps_ret pe_bl))
 pss_nil)))
 (pss_cons (ps_for PassesOwn.never rfl (pi_list (pe_lst (pa_I he45 (pa_I he46 (pa_I he47 pa_nil))))) (pg_name (i := 8) nd rfl (Or.inl rfl))
 (pss_one (ps_if (pt_cmpR (op_neL hu) (pe_fn f__law_told hr (by rfl) (pa_cons (pe_lam rfl Chd rfl rfl hgT Hb) (pa_cons (pe_ix ix_tup (pv 8) pe_int (fun _ _ => rfl)) (pa_cons (pe_ix ix_tup (pv 8) pe_int (fun _ _ => rfl)) pa_nil)))) (pv 4) (nomark _))
 (pss_one (ps_ret pe_bl))
 pss_nil)))
 (pss_cons (ps_if (PW.pt (pw_or (pt_cmpR op_ne (pe_fn f_ways hr (by rfl) (pa_cons (pe_lst (pa_cons pe_int pa_nil)) (pa_cons pe_int pa_nil))) (pe_op op_pow pe_int pe_int) (nomark _)) (pw_or (pt_cmpR op_ne (pe_fn f_orders_with hr (by rfl) (pa_cons pe_int (pa_cons pe_int pa_nil))) pe_int (nomark _)) (pw_or (pt_cmpR op_ne (pe_fn f_orders_with hr (by rfl) (pa_cons pe_int (pa_cons pe_int pa_nil))) pe_int (nomark _)) (pw_or1 (pt_cmpR (op_eqLen hu) (pe_fn f_brought hr (by rfl) (pa_cons pe_int (pa_cons pe_int pa_nil))) (pe_lst pa_nil) (nomark _)))))))
 (pss_one (ps_ret pe_bl))
 pss_nil)
 (pss_cons (ps_if (pt_cmpR (op_neL hu) (pe_fn f_repeated hr (by rfl) (pa_cons (pe_mk k_Cut hr (by rfl) (pa_cons pe_int pa_nil)) (pa_cons (pe_callTy (call_list_rng rfl) (by rfl) T.no_list (show bootBuiltins "list" = some (.type "list") by decide +kernel) (pa_cons (pe_callTy call_rng1 (by rfl) T.no_range (show bootBuiltins "range" = some (.type "range") by decide +kernel) (pa_cons pe_int pa_nil)) pa_nil)) (pa_cons (pe_op op_pow pe_int pe_int) pa_nil)))) (pe_mtD 4 hr (pe_mk k_Cut hr (by rfl) (pa_cons (pe_op op_mod (pe_op op_pow pe_int pe_int) pe_int) pa_nil)) (pa_cons (pe_callTy (call_list_rng rfl) (by rfl) T.no_list (show bootBuiltins "list" = some (.type "list") by decide +kernel) (pa_cons (pe_callTy call_rng1 (by rfl) T.no_range (show bootBuiltins "range" = some (.type "range") by decide +kernel) (pa_cons pe_int pa_nil)) pa_nil)) pa_nil)) (nomark _))
 (pss_one (ps_ret pe_bl))
 pss_nil)
 (pss_one (ps_ret (pe_and (pe_cmpR (op_eqLL hu1) (pe_fn f_rings hr (by rfl) (pa_cons (pe_mk k_Cut hr (by rfl) (pa_cons pe_int pa_nil)) (pa_cons pe_int pa_nil))) (pe_lst (pa_cons (pe_lst (pa_cons pe_int pa_nil)) pa_nil)) (nomark _)) (pe_and (pe_cmpR (op_eqL hu) (pe_mtD 4 hr (pe_mk k_Deal hr (by rfl) (pa_cons pe_int pa_nil)) (pa_cons (pe_lst (pa_cons pe_int pa_nil)) pa_nil)) (pe_lst (pa_cons pe_int pa_nil)) (nomark _)) (pe_one (pe_cmpR (op_eqL hu) (pe_mtD 4 hr (pe_mk k_Deal hr (by rfl) (pa_cons pe_int pa_nil)) (pa_cons (pe_lst (pa_cons pe_int (pa_cons pe_int pa_nil))) pa_nil)) (pe_lst (pa_cons pe_int (pa_cons pe_int pa_nil))) (nomark _))))))))))))))))))))))), ?_⟩
    have tb : TabOk H T0 lq := TabOk.nil hT
    refine ⟨_, rfl, a, ns, 0, rfl, ha, fun z => ?_⟩
    obtain ⟨far, hfar, hlt⟩ : ∃ far : Nat, z % (10 : Int) ^ (6 : Int).toNat = (far : Int) ∧ far < 1000000 := ⟨(z % 1000000).toNat, by show z % 1000000 = _; omega, by omega⟩
    refine ⟨_, _, rfl, rfl, ⟨by decide, by decide, by decide⟩, _, _, rfl, rfl, (by show (0 : Int) < 10 ^ (6 : Int).toNat; decide), ?_⟩
    show gName 1 (V.int (z % (10 : Int) ^ (6 : Int).toNat)) _ _ _
    rw [hfar]
    refine ⟨(by show 5 ≤ sizeLine; decide), fun lo ho => ?_⟩
    have sa := Same.new (Same.refl H) (o := .lst [.bl true, .bl false, .bl false, .bl false, .bl true]) ho
    have g_lo : upd H lo (.lst [.bl true, .bl false, .bl false, .bl false, .bl true]) lo = some (.lst [.bl true, .bl false, .bl false, .bl false, .bl true]) := upd_same
    revert sa g_lo
    generalize upd H lo (.lst [.bl true, .bl false, .bl false, .bl false, .bl true]) = H1
    intro sa g_lo
    replace tb := tb.keep sa
    replace g_lo : H1 lo = some (.lst (kindsV .o)) := g_lo
    refine ⟨(by show 5 ≤ sizeLine; decide), fun lm hm => ?_⟩
    have sa := Same.new (Same.refl H1) (o := .lst [.bl false, .bl true, .bl false, .bl false, .bl true]) hm
    have g_lm : upd H1 lm (.lst [.bl false, .bl true, .bl false, .bl false, .bl true]) lm = some (.lst [.bl false, .bl true, .bl false, .bl false, .bl true]) := upd_same
    revert sa g_lm
    generalize upd H1 lm (.lst [.bl false, .bl true, .bl false, .bl false, .bl true]) = H2
    intro sa g_lm
    replace tb := tb.keep sa
    replace g_lo := sa _ _ g_lo
    replace g_lm : H2 lm = some (.lst (kindsV .m)) := g_lm
    refine ⟨_, _, rfl, (by show 5 ≤ sizeLine; decide), fun ln hn => ?_⟩
    have sa := Same.new (Same.refl H2) (o := .lst [.bl false, .bl false, .bl true, .bl false, .bl true]) hn
    have g_ln : upd H2 ln (.lst [.bl false, .bl false, .bl true, .bl false, .bl true]) ln = some (.lst [.bl false, .bl false, .bl true, .bl false, .bl true]) := upd_same
    revert sa g_ln
    generalize upd H2 ln (.lst [.bl false, .bl false, .bl true, .bl false, .bl true]) = H3
    intro sa g_ln
    replace tb := tb.keep sa
    replace g_lo := sa _ _ g_lo
    replace g_lm := sa _ _ g_lm
    replace g_ln : H3 ln = some (.lst (kindsV .n)) := g_ln
    refine ⟨_, rfl, far, rfl, hlt, fun lt ths H' sa g_lt bad => ?_⟩
    replace tb := tb.keep sa
    replace g_lo := sa _ _ g_lo
    replace g_lm := sa _ _ g_lm
    replace g_ln := sa _ _ g_ln
    refine ⟨_, rfl, fo, lt, lo, 18, .o, _, ths, rfl, by decide, Ao, g_lt, g_lo, fun i v H2 Q2 E2 hi hv s2 hE => ⟨.o, ⟨rfl, i, v, rfl, hi, (bad v hv).keep s2⟩, hE⟩, _, rfl, ?_⟩
    refine iteF ?_
    refine ⟨_, rfl, _, _, rfl, rfl, _, rfl, _, _, rfl, rfl, (by show 1 ≤ sizeLine; decide), fun t1 k1 => ?_⟩
    have sa := Same.new (Same.refl H') (o := .tup [.int 1]) k1
    have g_t1 : upd H' t1 (.tup [.int 1]) t1 = some (.tup [.int 1]) := upd_same
    revert sa g_t1
    generalize upd H' t1 (.tup [.int 1]) = H4
    intro sa g_t1
    replace tb := tb.keep sa
    replace g_lo := sa _ _ g_lo
    replace g_lm := sa _ _ g_lm
    replace g_ln := sa _ _ g_ln
    replace g_lt := sa _ _ g_lt
    refine ⟨(by show 1 ≤ sizeLine; decide), fun t2 k2 => ?_⟩
    have sa := Same.new (Same.refl H4) (o := .lst [.int 1]) k2
    have g_t2 : upd H4 t2 (.lst [.int 1]) t2 = some (.lst [.int 1]) := upd_same
    revert sa g_t2
    generalize upd H4 t2 (.lst [.int 1]) = H5
    intro sa g_t2
    replace tb := tb.keep sa
    replace g_lo := sa _ _ g_lo
    replace g_lm := sa _ _ g_lm
    replace g_ln := sa _ _ g_ln
    replace g_lt := sa _ _ g_lt
    replace g_t1 := sa _ _ g_t1
    refine ⟨Str.ofString "a", 61, rfl, rfl, by decide, by decide, (by show 9 ≤ sizeLine; decide), fun t3 k3 => ?_⟩
    have sa := Same.new (Same.refl H5) (o := .lst [.int (-1 - (far : Int)), .int (61 + (far : Int)), .bl true, .non, .str (Str.ofString ""), .ref t1, .ref t2, .str (Str.ofString "abc"), .str (repS (Str.ofString "a") 61)]) k3
    have g_t3 : upd H5 t3 (.lst [.int (-1 - (far : Int)), .int (61 + (far : Int)), .bl true, .non, .str (Str.ofString ""), .ref t1, .ref t2, .str (Str.ofString "abc"), .str (repS (Str.ofString "a") 61)]) t3 = some (.lst [.int (-1 - (far : Int)), .int (61 + (far : Int)), .bl true, .non, .str (Str.ofString ""), .ref t1, .ref t2, .str (Str.ofString "abc"), .str (repS (Str.ofString "a") 61)]) := upd_same
    revert sa g_t3
    generalize upd H5 t3 (.lst [.int (-1 - (far : Int)), .int (61 + (far : Int)), .bl true, .non, .str (Str.ofString ""), .ref t1, .ref t2, .str (Str.ofString "abc"), .str (repS (Str.ofString "a") 61)]) = H6
    intro sa g_t3
    replace tb := tb.keep sa
    replace g_lo := sa _ _ g_lo
    replace g_lm := sa _ _ g_lm
    replace g_ln := sa _ _ g_ln
    replace g_lt := sa _ _ g_lt
    replace g_t1 := sa _ _ g_t1
    replace g_t2 := sa _ _ g_t2
    refine ⟨_, rfl, fm, t3, lm, 4, .m, _, _, rfl, by decide, Am, g_t3, g_lm, fun i v H2 Q2 E2 hi hv s2 hE => ⟨.m, ⟨rfl, i, v, rfl, ((bad_made (v1 := v) (v2 := v) (v5 := v) (v6 := v) (v7 := v) (v8 := v) g_t1 g_t2 v hv).keep s2).at_ hi⟩, hE⟩, _, rfl, ?_⟩
    refine iteF ?_
    refine ⟨(by show 1 ≤ sizeLine; decide), fun t4 k4 => ?_⟩
    have sa := Same.new (Same.refl H6) (o := .lst [.int 1]) k4
    have g_t4 : upd H6 t4 (.lst [.int 1]) t4 = some (.lst [.int 1]) := upd_same
    revert sa g_t4
    generalize upd H6 t4 (.lst [.int 1]) = H7
    intro sa g_t4
    replace tb := tb.keep sa
    replace g_lo := sa _ _ g_lo
    replace g_lm := sa _ _ g_lm
    replace g_ln := sa _ _ g_ln
    refine fun t5 k5 => ?_
    have sa := Same.new (Same.refl H7) (o := .dK []) k5
    have g_t5 : upd H7 t5 (.dK []) t5 = some (.dK []) := upd_same
    revert sa g_t5
    generalize upd H7 t5 (.dK []) = H8
    intro sa g_t5
    replace tb := tb.keep sa
    replace g_lo := sa _ _ g_lo
    replace g_lm := sa _ _ g_lm
    replace g_ln := sa _ _ g_ln
    replace g_t4 := sa _ _ g_t4
    refine ⟨(by show 6 ≤ sizeLine; decide), fun t6 k6 => ?_⟩
    have sa := Same.new (Same.refl H8) (o := .lst [.non, .str (Str.ofString "turn"), .int 5, .ref t4, .str (Str.ofString ""), .ref t5]) k6
    have g_t6 : upd H8 t6 (.lst [.non, .str (Str.ofString "turn"), .int 5, .ref t4, .str (Str.ofString ""), .ref t5]) t6 = some (.lst [.non, .str (Str.ofString "turn"), .int 5, .ref t4, .str (Str.ofString ""), .ref t5]) := upd_same
    revert sa g_t6
    generalize upd H8 t6 (.lst [.non, .str (Str.ofString "turn"), .int 5, .ref t4, .str (Str.ofString ""), .ref t5]) = H9
    intro sa g_t6
    replace tb := tb.keep sa
    replace g_lo := sa _ _ g_lo
    replace g_lm := sa _ _ g_lm
    replace g_ln := sa _ _ g_ln
    replace g_t4 := sa _ _ g_t4
    replace g_t5 := sa _ _ g_t5
    refine ⟨_, rfl, fw, t6, lm, 6, .m, _, _, rfl, by decide, Aw, g_t6, g_lm, fun i v H2 Q2 E2 hi hv s2 hE => ⟨.m, ⟨rfl, i, v, rfl, hi, (bad_moves NM g_t4 g_t5 v hv).1.keep s2, (bad_moves NM g_t4 g_t5 v hv).2.keep s2⟩, hE⟩, _, rfl, ?_⟩
    refine iteF ?_
    refine ⟨(by show 5 ≤ sizeLine; decide), fun t7 k7 => ?_⟩
    have sa := Same.new (Same.refl H9) (o := .lst [.int 0, .int 1, .int 2, .int 3, .int 4]) k7
    have g_t7 : upd H9 t7 (.lst [.int 0, .int 1, .int 2, .int 3, .int 4]) t7 = some (.lst [.int 0, .int 1, .int 2, .int 3, .int 4]) := upd_same
    revert sa g_t7
    generalize upd H9 t7 (.lst [.int 0, .int 1, .int 2, .int 3, .int 4]) = H10
    intro sa g_t7
    replace tb := tb.keep sa
    replace g_lo := sa _ _ g_lo
    replace g_lm := sa _ _ g_lm
    replace g_ln := sa _ _ g_ln
    refine ⟨_, rfl, fu, t7, lm, 6, .m, _, _, rfl, by decide, Au, g_t7, g_lm, fun i v H2 Q2 E2 hi hv s2 hE => ?_, _, rfl, ?_⟩
    · obtain ⟨k, hk, rfl⟩ := bad_unfit v hv
      exact ⟨.m, ⟨rfl, i, k, rfl, hi, hk⟩, hE⟩
    refine iteF ?_
    refine ⟨_, rfl, _, _, rfl, rfl, _, _, rfl, rfl, ⟨by decide, by decide, by decide⟩, _, _, rfl, rfl, _, rfl, _, _, rfl, rfl, (by show 5 ≤ sizeLine; decide), fun t8 k8 => ?_⟩
    have sa := Same.new (Same.refl H10) (o := .lst [.int (-1 - (far : Int)), .int ((10 : Int) ^ (18 : Int).toNat + 1 + (far : Int)), .bl true, .non, .str (Str.ofString "1")]) k8
    have g_t8 : upd H10 t8 (.lst [.int (-1 - (far : Int)), .int ((10 : Int) ^ (18 : Int).toNat + 1 + (far : Int)), .bl true, .non, .str (Str.ofString "1")]) t8 = some (.lst [.int (-1 - (far : Int)), .int ((10 : Int) ^ (18 : Int).toNat + 1 + (far : Int)), .bl true, .non, .str (Str.ofString "1")]) := upd_same
    revert sa g_t8
    generalize upd H10 t8 (.lst [.int (-1 - (far : Int)), .int ((10 : Int) ^ (18 : Int).toNat + 1 + (far : Int)), .bl true, .non, .str (Str.ofString "1")]) = H11
    intro sa g_t8
    replace tb := tb.keep sa
    replace g_lo := sa _ _ g_lo
    replace g_lm := sa _ _ g_lm
    replace g_ln := sa _ _ g_ln
    refine ⟨_, rfl, fn, t8, ln, 8, .n, _, _, rfl, by decide, An, g_t8, g_ln, fun i v H2 Q2 E2 hi hv s2 hE => ⟨.n, ⟨rfl, i, v, rfl, hi, (bad_number hv hi).keep s2⟩, hE⟩, _, rfl, ?_⟩
    refine iteF ?_
    refine ⟨(by show 2 ≤ sizeLine; decide), fun b1 c1 => ?_⟩
    have sa := Same.new (Same.refl H11) (o := .tup [.int 0, .int 0]) c1
    have g_b1 : upd H11 b1 (.tup [.int 0, .int 0]) b1 = some (.tup [.int 0, .int 0]) := upd_same
    revert sa g_b1
    generalize upd H11 b1 (.tup [.int 0, .int 0]) = H12
    intro sa g_b1
    replace tb := tb.keep sa
    replace g_lo := sa _ _ g_lo
    replace g_lm := sa _ _ g_lm
    replace g_ln := sa _ _ g_ln
    refine ⟨(by show 2 ≤ sizeLine; decide), fun b2 c2 => ?_⟩
    have sa := Same.new (Same.refl H12) (o := .tup [.int 0, .int 61]) c2
    have g_b2 : upd H12 b2 (.tup [.int 0, .int 61]) b2 = some (.tup [.int 0, .int 61]) := upd_same
    revert sa g_b2
    generalize upd H12 b2 (.tup [.int 0, .int 61]) = H13
    intro sa g_b2
    replace tb := tb.keep sa
    replace g_lo := sa _ _ g_lo
    replace g_lm := sa _ _ g_lm
    replace g_ln := sa _ _ g_ln
    replace g_b1 := sa _ _ g_b1
    refine ⟨(by show 2 ≤ sizeLine; decide), fun b3 c3 => ?_⟩
    have sa := Same.new (Same.refl H13) (o := .tup [.int 1, .int 0]) c3
    have g_b3 : upd H13 b3 (.tup [.int 1, .int 0]) b3 = some (.tup [.int 1, .int 0]) := upd_same
    revert sa g_b3
    generalize upd H13 b3 (.tup [.int 1, .int 0]) = H14
    intro sa g_b3
    replace tb := tb.keep sa
    replace g_lo := sa _ _ g_lo
    replace g_lm := sa _ _ g_lm
    replace g_ln := sa _ _ g_ln
    replace g_b1 := sa _ _ g_b1
    replace g_b2 := sa _ _ g_b2
    refine ⟨(by show 2 ≤ sizeLine; decide), fun b4 c4 => ?_⟩
    have sa := Same.new (Same.refl H14) (o := .tup [.int 1, .int 61]) c4
    have g_b4 : upd H14 b4 (.tup [.int 1, .int 61]) b4 = some (.tup [.int 1, .int 61]) := upd_same
    revert sa g_b4
    generalize upd H14 b4 (.tup [.int 1, .int 61]) = H15
    intro sa g_b4
    replace tb := tb.keep sa
    replace g_lo := sa _ _ g_lo
    replace g_lm := sa _ _ g_lm
    replace g_ln := sa _ _ g_ln
    replace g_b1 := sa _ _ g_b1
    replace g_b2 := sa _ _ g_b2
    replace g_b3 := sa _ _ g_b3
    refine ⟨(by show 2 ≤ sizeLine; decide), fun b5 c5 => ?_⟩
    have sa := Same.new (Same.refl H15) (o := .tup [.int 3, .int 31]) c5
    have g_b5 : upd H15 b5 (.tup [.int 3, .int 31]) b5 = some (.tup [.int 3, .int 31]) := upd_same
    revert sa g_b5
    generalize upd H15 b5 (.tup [.int 3, .int 31]) = H16
    intro sa g_b5
    replace tb := tb.keep sa
    replace g_lo := sa _ _ g_lo
    replace g_lm := sa _ _ g_lm
    replace g_ln := sa _ _ g_ln
    replace g_b1 := sa _ _ g_b1
    replace g_b2 := sa _ _ g_b2
    replace g_b3 := sa _ _ g_b3
    replace g_b4 := sa _ _ g_b4
    refine ⟨(by show 2 ≤ sizeLine; decide), fun b6 c6 => ?_⟩
    have sa := Same.new (Same.refl H16) (o := .tup [.int 4, .int 0]) c6
    have g_b6 : upd H16 b6 (.tup [.int 4, .int 0]) b6 = some (.tup [.int 4, .int 0]) := upd_same
    revert sa g_b6
    generalize upd H16 b6 (.tup [.int 4, .int 0]) = H17
    intro sa g_b6
    replace tb := tb.keep sa
    replace g_lo := sa _ _ g_lo
    replace g_lm := sa _ _ g_lm
    replace g_ln := sa _ _ g_ln
    replace g_b1 := sa _ _ g_b1
    replace g_b2 := sa _ _ g_b2
    replace g_b3 := sa _ _ g_b3
    replace g_b4 := sa _ _ g_b4
    replace g_b5 := sa _ _ g_b5
    refine ⟨(by show 2 ≤ sizeLine; decide), fun b7 c7 => ?_⟩
    have sa := Same.new (Same.refl H17) (o := .tup [.int 4, .int 61]) c7
    have g_b7 : upd H17 b7 (.tup [.int 4, .int 61]) b7 = some (.tup [.int 4, .int 61]) := upd_same
    revert sa g_b7
    generalize upd H17 b7 (.tup [.int 4, .int 61]) = H18
    intro sa g_b7
    replace tb := tb.keep sa
    replace g_lo := sa _ _ g_lo
    replace g_lm := sa _ _ g_lm
    replace g_ln := sa _ _ g_ln
    replace g_b1 := sa _ _ g_b1
    replace g_b2 := sa _ _ g_b2
    replace g_b3 := sa _ _ g_b3
    replace g_b4 := sa _ _ g_b4
    replace g_b5 := sa _ _ g_b5
    replace g_b6 := sa _ _ g_b6
    refine ⟨(by show 2 ≤ sizeLine; decide), fun b8 c8 => ?_⟩
    have sa := Same.new (Same.refl H18) (o := .tup [.int 5, .int 61]) c8
    have g_b8 : upd H18 b8 (.tup [.int 5, .int 61]) b8 = some (.tup [.int 5, .int 61]) := upd_same
    revert sa g_b8
    generalize upd H18 b8 (.tup [.int 5, .int 61]) = H19
    intro sa g_b8
    replace tb := tb.keep sa
    replace g_lo := sa _ _ g_lo
    replace g_lm := sa _ _ g_lm
    replace g_ln := sa _ _ g_ln
    replace g_b1 := sa _ _ g_b1
    replace g_b2 := sa _ _ g_b2
    replace g_b3 := sa _ _ g_b3
    replace g_b4 := sa _ _ g_b4
    replace g_b5 := sa _ _ g_b5
    replace g_b6 := sa _ _ g_b6
    replace g_b7 := sa _ _ g_b7
    refine ⟨_, _, rfl, rfl, ⟨by decide, by decide, by decide⟩, _, _, rfl, rfl, (by show 2 ≤ sizeLine; decide), fun b9 c9 => ?_⟩
    have sa := Same.new (Same.refl H19) (o := .tup [.int 2, .int ((10 : Int) ^ (18 : Int).toNat + 1)]) c9
    have g_b9 : upd H19 b9 (.tup [.int 2, .int ((10 : Int) ^ (18 : Int).toNat + 1)]) b9 = some (.tup [.int 2, .int ((10 : Int) ^ (18 : Int).toNat + 1)]) := upd_same
    revert sa g_b9
    generalize upd H19 b9 (.tup [.int 2, .int ((10 : Int) ^ (18 : Int).toNat + 1)]) = H20
    intro sa g_b9
    replace tb := tb.keep sa
    replace g_lo := sa _ _ g_lo
    replace g_lm := sa _ _ g_lm
    replace g_ln := sa _ _ g_ln
    replace g_b1 := sa _ _ g_b1
    replace g_b2 := sa _ _ g_b2
    replace g_b3 := sa _ _ g_b3
    replace g_b4 := sa _ _ g_b4
    replace g_b5 := sa _ _ g_b5
    replace g_b6 := sa _ _ g_b6
    replace g_b7 := sa _ _ g_b7
    replace g_b8 := sa _ _ g_b8
    refine ⟨(by show 9 ≤ sizeLine; decide), fun lb c10 => ?_⟩
    have sa := Same.new (Same.refl H20) (o := .lst [.ref b1, .ref b2, .ref b3, .ref b4, .ref b5, .ref b6, .ref b7, .ref b8, .ref b9]) c10
    have g_lb : upd H20 lb (.lst [.ref b1, .ref b2, .ref b3, .ref b4, .ref b5, .ref b6, .ref b7, .ref b8, .ref b9]) lb = some (.lst [.ref b1, .ref b2, .ref b3, .ref b4, .ref b5, .ref b6, .ref b7, .ref b8, .ref b9]) := upd_same
    revert sa g_lb
    generalize upd H20 lb (.lst [.ref b1, .ref b2, .ref b3, .ref b4, .ref b5, .ref b6, .ref b7, .ref b8, .ref b9]) = H21
    intro sa g_lb
    replace tb := tb.keep sa
    replace g_lo := sa _ _ g_lo
    replace g_lm := sa _ _ g_lm
    replace g_ln := sa _ _ g_ln
    replace g_b1 := sa _ _ g_b1
    replace g_b2 := sa _ _ g_b2
    replace g_b3 := sa _ _ g_b3
    replace g_b4 := sa _ _ g_b4
    replace g_b5 := sa _ _ g_b5
    replace g_b6 := sa _ _ g_b6
    replace g_b7 := sa _ _ g_b7
    replace g_b8 := sa _ _ g_b8
    replace g_b9 := sa _ _ g_b9
    have beyond := bad_beyond (K := K) g_b1 g_b2 g_b3 g_b4 g_b5 g_b6 g_b7 g_b8 g_b9
    refine ⟨_, rfl, _, rfl, ⟨_, SqL.of g_lb⟩, ?_⟩
    refine lc_gen (K := K) (js := [4]) (xs := [.ref b1, .ref b2, .ref b3, .ref b4, .ref b5, .ref b6, .ref b7, .ref b8, .ref b9]) (fun i acc H3 => Same H21 H3 ∧ acc = (List.replicate i true).map V.bl) ⟨Same.refl _, rfl⟩ (by show 9 ≤ 100000; decide) (fun i acc H3 z => SqL.of (z.1 _ _ g_lb)) ?_ ?_
    · rintro i x acc H3 R hx ⟨s3, rfl⟩ hR
      obtain ⟨b, d, v, rfl, gb, hd, bn⟩ := beyond x (List.mem_of_getElem? hx)
      refine ⟨_, rfl, _, _, _, _, rfl, rfl, SqT.of (s3 _ _ gb), atI_nat (j := 0) rfl, _, rfl, _, _, _, _, rfl, rfl, SqT.of (s3 _ _ gb), atI_nat (j := 1) rfl, fn, _, _, .n, _, rfl, An, fun Q2 E2 hE => ⟨.n, ⟨rfl, d, v, rfl, hd, bn.keep s3⟩, hE⟩, fun l hl => ?_⟩
      refine ⟨_, rfl, _, _, _, _, rfl, rfl, SqL.of upd_same, SqL.of (Same.new (Same.refl _) hl _ _ (s3 _ _ g_ln)), kinds_flat .n, kinds_flat .n, ?_⟩
      rw [kinds_eq]
      exact hR _ _ ⟨s3.new hl, rep_add i⟩
    rintro acc H3 ⟨s3, rfl⟩ D9 hD9
    have sa := s3.new (o := .lst ((List.replicate ([.ref b1, .ref b2, .ref b3, .ref b4, .ref b5, .ref b6, .ref b7, .ref b8, .ref b9] : List V).length true).map V.bl)) hD9
    replace tb := tb.keep sa
    replace g_lo := sa _ _ g_lo
    replace g_lm := sa _ _ g_lm
    replace g_ln := sa _ _ g_ln
    replace g_lb := sa _ _ g_lb
    refine ⟨_, _, rfl, SqL.of upd_same, _, rfl, ?_⟩
    rw [all_rep]
    refine iteF ?_
    revert tb g_lo g_lm g_ln g_lb
    generalize upd H3 D9 (.lst ((List.replicate ([.ref b1, .ref b2, .ref b3, .ref b4, .ref b5, .ref b6, .ref b7, .ref b8, .ref b9] : List V).length true).map V.bl)) = H40
    intro tb g_lo g_lm g_ln g_lb
    refine ⟨(by show 0 ≤ sizeLine; decide), fun q1 d1 => ?_⟩
    have sa := Same.new (Same.refl H40) (o := .tup []) d1
    have g_q1 : upd H40 q1 (.tup []) q1 = some (.tup []) := upd_same
    revert sa g_q1
    generalize upd H40 q1 (.tup []) = H41
    intro sa g_q1
    replace tb := tb.keep sa
    replace g_lm := sa _ _ g_lm
    replace g_ln := sa _ _ g_ln
    refine fun x0 dx0 nx0 ndx0 nex0 => ⟨x0, dx0, rfl, upd_same, rfl, ?_⟩
    have sa : Same H41 (upd (upd H41 dx0 (.own x0)) x0 (.ins t.turn dx0 [])) := same_mk nx0 ndx0
    revert sa
    generalize upd (upd H41 dx0 (.own x0)) x0 (.ins t.turn dx0 []) = H50
    intro sa
    replace tb := tb.keep sa
    replace g_lm := sa _ _ g_lm
    replace g_ln := sa _ _ g_ln
    replace g_q1 := sa _ _ g_q1
    refine ⟨(by show 1 ≤ sizeLine; decide), fun q2 d2 => ?_⟩
    have sa := Same.new (Same.refl H50) (o := .tup [.ref x0]) d2
    have g_q2 : upd H50 q2 (.tup [.ref x0]) q2 = some (.tup [.ref x0]) := upd_same
    revert sa g_q2
    generalize upd H50 q2 (.tup [.ref x0]) = H51
    intro sa g_q2
    replace tb := tb.keep sa
    replace g_lm := sa _ _ g_lm
    replace g_ln := sa _ _ g_ln
    replace g_q1 := sa _ _ g_q1
    refine ⟨(by show 5 ≤ sizeLine; decide), fun lw d3 => ?_⟩
    have sa := Same.new (Same.refl H51) (o := .lst [.non, .ref q1, .str (Str.ofString "turn"), .ref q2, .int 5]) d3
    have g_lw : upd H51 lw (.lst [.non, .ref q1, .str (Str.ofString "turn"), .ref q2, .int 5]) lw = some (.lst [.non, .ref q1, .str (Str.ofString "turn"), .ref q2, .int 5]) := upd_same
    revert sa g_lw
    generalize upd H51 lw (.lst [.non, .ref q1, .str (Str.ofString "turn"), .ref q2, .int 5]) = H52
    intro sa g_lw
    replace tb := tb.keep sa
    replace g_lm := sa _ _ g_lm
    replace g_ln := sa _ _ g_ln
    replace g_q1 := sa _ _ g_q1
    replace g_q2 := sa _ _ g_q2
    refine ⟨_, rfl, ⟨_, SqL.of g_lw⟩, ?_⟩
    refine for_list (xs := [.non, .ref q1, .str (Str.ofString "turn"), .ref q2, .int 5]) (fun i σ H' => ∃ b, σ = [some (.ref a), some (.int (far : Int)), some (.ref lo), some (.ref lm), some (.ref ln), some (.ref lb), b, none, none] ∧ TabOk H' T0 lq ∧ H' lm = some (.lst (kindsV .m)) ∧ H' ln = some (.lst (kindsV .n)) ∧ H' lw = some (.lst [.non, .ref q1, .str (Str.ofString "turn"), .ref q2, .int 5]) ∧ H' q1 = some (.tup []) ∧ H' q2 = some (.tup [.ref x0])) ⟨none, rfl, tb, g_lm, g_ln, g_lw, g_q1, g_q2⟩ (fun i σ H' _ z => ?_) ?_ ?_
    · obtain ⟨_, _, _, _, _, z, _⟩ := z
      exact SqL.of z
    · rintro i x σ H' hx ⟨b, rfl, tb, g_lm, g_ln, g_lw, g_q1, g_q2⟩
      dsimp only [gName, tIfS, tTest, tOp, tCall, tCons]
      refine lam_go tb (fun fl cl H1 hf hc tb1 sb => ?_)
      have g_lm' := tb.at_ sb g_lm noext_lst
      have g_ln' := tb.at_ sb g_ln noext_lst
      have g_lw' := tb.at_ sb g_lw noext_lst
      have g_q1' := tb.at_ sb g_q1 noext_tup
      have g_q2' := tb.at_ sb g_q2 noext_tup
      refine ⟨_, rfl, fl, x, _, .m, _, rfl, ask_written x_written rfl rfl (fun pm ctv us hl => match us, hl with | [_, _], _ => rfl), fun Q2 E2 hE => ⟨hf, hc, _, _, rfl, .m, ⟨rfl, x, rfl, bad_written g_q1' g_q2' x (List.mem_of_getElem? hx)⟩, hE⟩, fun l hl => ?_⟩
      refine ⟨_, rfl, _, _, _, _, rfl, rfl, SqL.of upd_same, SqL.of (Same.new (Same.refl H1) hl _ _ g_lm'), kinds_flat .m, kinds_flat .m, _, rfl, ?_⟩
      rw [kinds_eq]
      refine iteF ?_
      have s1 := Same.new (Same.refl H1) (o := .lst (kindsV .m)) hl
      exact ⟨_, rfl, tb1.keep s1, s1 _ _ g_lm', s1 _ _ g_ln', s1 _ _ g_lw', s1 _ _ g_q1', s1 _ _ g_q2'⟩
    rintro σ H60 ⟨bb60, rfl, tb, g_lm, g_ln, _⟩
    refine ⟨fm, _, _, .m, _, rfl, Am, fun Q2 E2 hE => ⟨.m, ⟨rfl, 1, .int 0, rfl, .inr (.inl ⟨rfl, bad_int (by decide)⟩)⟩, hE⟩, fun o0 j0 => ?_⟩
    have sa := Same.new (Same.refl H60) (o := .lst (kindsV .m)) j0
    have g_o0 : upd H60 o0 (.lst (kindsV .m)) o0 = some (.lst (kindsV .m)) := upd_same
    revert sa g_o0
    generalize upd H60 o0 (.lst (kindsV .m)) = H61
    intro sa g_o0
    replace tb := tb.keep sa
    replace g_lm := sa _ _ g_lm
    replace g_ln := sa _ _ g_ln
    refine ⟨_, rfl, _, _, _, _, rfl, rfl, SqL.of g_o0, SqL.of g_lm, kinds_flat .m, kinds_flat .m, _, rfl, ?_⟩
    rw [kinds_eq]
    refine iteF ?_
    refine ⟨fm, _, _, .m, _, rfl, Am, fun Q2 E2 hE => ⟨.m, ⟨rfl, 2, .int 2, rfl, .inr (.inr (.inl ⟨rfl, bad_int (by decide)⟩))⟩, hE⟩, fun o1 j1 => ?_⟩
    have sa := Same.new (Same.refl H61) (o := .lst (kindsV .m)) j1
    have g_o1 : upd H61 o1 (.lst (kindsV .m)) o1 = some (.lst (kindsV .m)) := upd_same
    revert sa g_o1
    generalize upd H61 o1 (.lst (kindsV .m)) = H62
    intro sa g_o1
    replace tb := tb.keep sa
    replace g_lm := sa _ _ g_lm
    replace g_ln := sa _ _ g_ln
    refine ⟨_, rfl, _, _, _, _, rfl, rfl, SqL.of g_o1, SqL.of g_lm, kinds_flat .m, kinds_flat .m, _, rfl, ?_⟩
    rw [kinds_eq]
    refine iteF ?_
    refine ⟨fm, _, _, .m, _, rfl, Am, fun Q2 E2 hE => ⟨.m, ⟨rfl, 0, .int 61, rfl, .inl ⟨rfl, bad_int (by decide)⟩⟩, hE⟩, fun o2 j2 => ?_⟩
    have sa := Same.new (Same.refl H62) (o := .lst (kindsV .m)) j2
    have g_o2 : upd H62 o2 (.lst (kindsV .m)) o2 = some (.lst (kindsV .m)) := upd_same
    revert sa g_o2
    generalize upd H62 o2 (.lst (kindsV .m)) = H63
    intro sa g_o2
    replace tb := tb.keep sa
    replace g_lm := sa _ _ g_lm
    replace g_ln := sa _ _ g_ln
    refine ⟨_, rfl, _, _, _, _, rfl, rfl, SqL.of g_o2, SqL.of g_lm, kinds_flat .m, kinds_flat .m, _, rfl, ?_⟩
    rw [kinds_eq]
    refine iteF ?_
    refine ⟨(by show 6 ≤ sizeLine; decide), fun lv d4 => ?_⟩
    have sa := Same.new (Same.refl H63) (o := .lst [.int 1, .int 3, .int 59, .int 61, .int 62, .int 0]) d4
    have g_lv : upd H63 lv (.lst [.int 1, .int 3, .int 59, .int 61, .int 62, .int 0]) lv = some (.lst [.int 1, .int 3, .int 59, .int 61, .int 62, .int 0]) := upd_same
    revert sa g_lv
    generalize upd H63 lv (.lst [.int 1, .int 3, .int 59, .int 61, .int 62, .int 0]) = H64
    intro sa g_lv
    replace tb := tb.keep sa
    replace g_lm := sa _ _ g_lm
    replace g_ln := sa _ _ g_ln
    refine ⟨_, rfl, ⟨_, SqL.of g_lv⟩, ?_⟩
    refine for_list (xs := [.int 1, .int 3, .int 59, .int 61, .int 62, .int 0]) (fun i σ H' => ∃ b, σ = [some (.ref a), some (.int (far : Int)), some (.ref lo), some (.ref lm), some (.ref ln), some (.ref lb), bb60, b, none] ∧ TabOk H' T0 lq ∧ H' lm = some (.lst (kindsV .m)) ∧ H' ln = some (.lst (kindsV .n)) ∧ H' lv = some (.lst [.int 1, .int 3, .int 59, .int 61, .int 62, .int 0])) ⟨none, rfl, tb, g_lm, g_ln, g_lv⟩ (fun i σ H' _ z => ?_) ?_ ?_
    · obtain ⟨_, _, _, _, _, z⟩ := z
      exact SqL.of z
    · rintro i x σ H' hx ⟨b, rfl, tb, g_lm, g_ln, g_lv⟩
      dsimp only [gName, tIfS, tTest, tOp, tCall, tCons]
      refine lam_go tb (fun fl cl H1 hf hc tb1 sb => ?_)
      have g_lm' := tb.at_ sb g_lm noext_lst
      have g_ln' := tb.at_ sb g_ln noext_lst
      have g_lv' := tb.at_ sb g_lv noext_lst
      refine ⟨_, rfl, fl, x, _, .n, _, rfl, ask_brought x_brought rfl rfl (fun pm ctv us hl => match us, hl with | [_, _], _ => rfl), fun Q2 E2 hE => ⟨hf, hc, _, _, rfl, .n, ⟨x, _, rfl, rfl, bad_odd x (List.mem_of_getElem? hx)⟩, hE⟩, fun l hl => ?_⟩
      refine ⟨_, rfl, _, _, _, _, rfl, rfl, SqL.of upd_same, SqL.of (Same.new (Same.refl H1) hl _ _ g_ln'), kinds_flat .n, kinds_flat .n, _, rfl, ?_⟩
      rw [kinds_eq]
      refine iteF ?_
      have s1 := Same.new (Same.refl H1) (o := .lst (kindsV .n)) hl
      exact ⟨_, rfl, tb1.keep s1, s1 _ _ g_lm', s1 _ _ g_ln', s1 _ _ g_lv'⟩
    rintro σ H70 ⟨bb70, rfl, tb, g_lm, g_ln, _⟩
    refine ⟨(by show 2 ≤ sizeLine; decide), fun u0 v0 => ?_⟩
    have sa := Same.new (Same.refl H70) (o := .tup [.int 8, .int 8]) v0
    have g_u0 : upd H70 u0 (.tup [.int 8, .int 8]) u0 = some (.tup [.int 8, .int 8]) := upd_same
    revert sa g_u0
    generalize upd H70 u0 (.tup [.int 8, .int 8]) = H71
    intro sa g_u0
    replace tb := tb.keep sa
    replace g_lm := sa _ _ g_lm
    replace g_ln := sa _ _ g_ln
    refine ⟨(by show 2 ≤ sizeLine; decide), fun u1 v1 => ?_⟩
    have sa := Same.new (Same.refl H71) (o := .tup [.int 2, .int 2]) v1
    have g_u1 : upd H71 u1 (.tup [.int 2, .int 2]) u1 = some (.tup [.int 2, .int 2]) := upd_same
    revert sa g_u1
    generalize upd H71 u1 (.tup [.int 2, .int 2]) = H72
    intro sa g_u1
    replace tb := tb.keep sa
    replace g_lm := sa _ _ g_lm
    replace g_ln := sa _ _ g_ln
    replace g_u0 := sa _ _ g_u0
    refine ⟨(by show 2 ≤ sizeLine; decide), fun u2 v2 => ?_⟩
    have sa := Same.new (Same.refl H72) (o := .tup [.int 60, .int 60]) v2
    have g_u2 : upd H72 u2 (.tup [.int 60, .int 60]) u2 = some (.tup [.int 60, .int 60]) := upd_same
    revert sa g_u2
    generalize upd H72 u2 (.tup [.int 60, .int 60]) = H73
    intro sa g_u2
    replace tb := tb.keep sa
    replace g_lm := sa _ _ g_lm
    replace g_ln := sa _ _ g_ln
    replace g_u0 := sa _ _ g_u0
    replace g_u1 := sa _ _ g_u1
    refine ⟨(by show 3 ≤ sizeLine; decide), fun lx d5 => ?_⟩
    have sa := Same.new (Same.refl H73) (o := .lst [.ref u0, .ref u1, .ref u2]) d5
    have g_lx : upd H73 lx (.lst [.ref u0, .ref u1, .ref u2]) lx = some (.lst [.ref u0, .ref u1, .ref u2]) := upd_same
    revert sa g_lx
    generalize upd H73 lx (.lst [.ref u0, .ref u1, .ref u2]) = H74
    intro sa g_lx
    replace tb := tb.keep sa
    replace g_lm := sa _ _ g_lm
    replace g_ln := sa _ _ g_ln
    replace g_u0 := sa _ _ g_u0
    replace g_u1 := sa _ _ g_u1
    replace g_u2 := sa _ _ g_u2
    refine ⟨_, rfl, ⟨_, SqL.of g_lx⟩, ?_⟩
    refine for_list (xs := [.ref u0, .ref u1, .ref u2]) (fun i σ H' => ∃ b, σ = [some (.ref a), some (.int (far : Int)), some (.ref lo), some (.ref lm), some (.ref ln), some (.ref lb), bb60, bb70, b] ∧ TabOk H' T0 lq ∧ H' lm = some (.lst (kindsV .m)) ∧ H' ln = some (.lst (kindsV .n)) ∧ H' lx = some (.lst [.ref u0, .ref u1, .ref u2]) ∧ H' u0 = some (.tup [.int 8, .int 8]) ∧ H' u1 = some (.tup [.int 2, .int 2]) ∧ H' u2 = some (.tup [.int 60, .int 60])) ⟨none, rfl, tb, g_lm, g_ln, g_lx, g_u0, g_u1, g_u2⟩ (fun i σ H' _ z => ?_) ?_ ?_
    · obtain ⟨_, _, _, _, _, z, _⟩ := z
      exact SqL.of z
    · rintro i x σ H' hx ⟨b, rfl, tb, g_lm, g_ln, g_lx, g_u0, g_u1, g_u2⟩
      dsimp only [gName, tIfS, tTest, tOp, tCall, tCons]
      refine lam_go tb (fun fl cl H1 hf hc tb1 sb => ?_)
      have g_lm' := tb.at_ sb g_lm noext_lst
      have g_ln' := tb.at_ sb g_ln noext_lst
      have g_lx' := tb.at_ sb g_lx noext_lst
      have g_u0' := tb.at_ sb g_u0 noext_tup
      have g_u1' := tb.at_ sb g_u1 noext_tup
      have g_u2' := tb.at_ sb g_u2 noext_tup
      obtain ⟨b3, m3, rfl, gb, h2, h60, hev⟩ := bad_pair g_u0' g_u1' g_u2' x (List.mem_of_getElem? hx)
      refine ⟨_, rfl, _, _, _, _, rfl, rfl, SqT.of gb, atI_nat (j := 0) rfl, _, rfl, _, _, _, _, rfl, rfl, SqT.of gb, atI_nat (j := 1) rfl, fl, _, _, .n, _, rfl, ask_brought x_brought rfl rfl (fun pm ctv us hl => match us, hl with | [_, _], _ => rfl), fun Q2 E2 hE => ⟨hf, hc, _, _, rfl, .n, ⟨_, _, rfl, rfl, .inr ⟨m3, rfl, h2, h60, .inr ⟨hev, bad_int (by omega)⟩⟩⟩, hE⟩, fun l hl => ?_⟩
      refine ⟨_, rfl, _, _, _, _, rfl, rfl, SqL.of upd_same, SqL.of (Same.new (Same.refl H1) hl _ _ g_ln'), kinds_flat .n, kinds_flat .n, _, rfl, ?_⟩
      rw [kinds_eq]
      refine iteF ?_
      have s1 := Same.new (Same.refl H1) (o := .lst (kindsV .n)) hl
      exact ⟨_, rfl, tb1.keep s1, s1 _ _ g_lm', s1 _ _ g_ln', s1 _ _ g_lx', s1 _ _ g_u0', s1 _ _ g_u1', s1 _ _ g_u2'⟩
    rintro σ H80 ⟨bb80, rfl, tb, g_lm, g_ln, _⟩
    refine ⟨(by show 1 ≤ sizeLine; decide), fun w1 c1 => ?_⟩
    have sa := Same.new (Same.refl H80) (o := .lst [.int 0]) c1
    have g_w1 : upd H80 w1 (.lst [.int 0]) w1 = some (.lst [.int 0]) := upd_same
    revert sa g_w1
    generalize upd H80 w1 (.lst [.int 0]) = H81
    intro sa g_w1
    replace tb := tb.keep sa
    refine ⟨w1, [0], 30, rfl, g_w1, good0, by decide, _, _, rfl, rfl, ⟨by decide, by decide, by decide⟩, rfl, _, rfl, ?_⟩
    rw [ways_30, show (!decide (V.int ((2 ^ 30 : Nat) : Int) = V.int ((2 : Int) ^ (30 : Int).toNat))) = false by decide +kernel]
    refine iteF ?_
    refine ⟨60, 60, rfl, by decide, by decide, by decide, rfl, _, rfl, ?_⟩
    rw [eul_60, show (!decide (V.int ((1 : Nat) : Int) = V.int 1)) = false by decide]
    refine iteF ?_
    refine ⟨1, 0, rfl, by decide, by decide, by decide, rfl, _, rfl, ?_⟩
    rw [show (!decide (V.int (((eulAt (1 - 1)).getD 0 0 : Nat) : Int) = V.int 0)) = false by decide]
    refine iteF ?_
    refine ⟨60, 59, rfl, by decide, by decide, by decide, by decide, fun wl ms H90 W => ?_⟩
    have sa := W.same
    replace tb := tb.keep sa
    replace g_w1 := sa _ _ g_w1
    have g_wl := W.lst
    refine ⟨(by show 0 ≤ sizeLine; decide), fun w2 c2 => ?_⟩
    have sa := Same.new (Same.refl H90) (o := .lst []) c2
    have g_w2 : upd H90 w2 (.lst []) w2 = some (.lst []) := upd_same
    revert sa g_w2
    generalize upd H90 w2 (.lst []) = H91
    intro sa g_w2
    replace tb := tb.keep sa
    replace g_w1 := sa _ _ g_w1
    replace g_wl := sa _ _ g_wl
    refine ⟨_, _, _, _, rfl, rfl, SqL.of g_wl, SqL.of g_w2, (by rw [List.length_map, W.len, bits_59]; decide), _, rfl, ?_⟩
    refine iteF ?_
    refine fun x1 dx1 nx1 ndx1 nex1 => ⟨x1, dx1, .cut 1, trivial, rfl, (show 1 ≤ 60 by decide), upd_same, rfl, ?_⟩
    obtain ⟨sa, m1⟩ := made1 (t := t) (mv := .cut 1) nx1 ndx1
    replace tb := tb.keep sa
    refine ⟨_, rfl, fun r1 hr1 => ?_⟩
    have sa := Same.new (Same.refl _) (o := rngO r1 0 60 1) hr1
    have g_r1 := here (o := rngO r1 0 60 1) hr1
    replace tb := tb.keep sa
    replace m1 := mv_keep m1 sa
    refine ⟨_, _, _, _, _, rfl, g_r1, rng_small (by decide) (by decide) (by decide) (by decide), rng_up, (by decide), fun y1 hy1 => ?_⟩
    rw [rng60]
    have sa := Same.new (Same.refl _) (o := .lst (nv (List.range' 0 60))) hy1
    have g_y1 := here (o := .lst (nv (List.range' 0 60))) hy1
    replace tb := tb.keep sa
    replace m1 := mv_keep m1 sa
    replace g_r1 := sa _ _ g_r1
    refine ⟨_, _, rfl, rfl, ⟨by decide, by decide, by decide⟩, ?_⟩
    refine ⟨x1, y1, List.range' 0 60, 10 ^ 18, .cut 1, rfl, m1, (show 1 ≤ 60 by decide), (by show 1 ≤ (List.range' 0 60).length; decide), g_y1, good60, Nat.le_refl _, ?_⟩
    have e18 := rep_18
    revert e18
    generalize movedN ((Mv.cut 1).src (List.range' 0 60).length) (List.range' 0 60) (10 ^ 18) = ys
    intro e18
    refine fun y2 hy2 => ?_
    have sa := Same.new (Same.refl _) (o := .lst (nv ys)) hy2
    have g_y2 := here (o := .lst (nv ys)) hy2
    replace tb := tb.keep sa
    replace m1 := mv_keep m1 sa
    replace g_r1 := sa _ _ g_r1
    replace g_y1 := sa _ _ g_y1
    refine ⟨_, _, rfl, rfl, ⟨by decide, by decide, by decide⟩, _, _, rfl, rfl, (by decide), ?_⟩
    refine fun x2 dx2 nx2 ndx2 nex2 => ⟨x2, dx2, .cut 40, trivial, rfl, (show 40 ≤ 60 by decide), upd_same, rfl, ?_⟩
    obtain ⟨sa, m2⟩ := made1 (t := t) (mv := .cut 40) nx2 ndx2
    replace tb := tb.keep sa
    replace m1 := mv_keep m1 sa
    replace g_r1 := sa _ _ g_r1
    replace g_y1 := sa _ _ g_y1
    replace g_y2 := sa _ _ g_y2
    obtain ⟨dz2, hz2⟩ := id m2
    refine ⟨_, _, _, _, _, rfl, hz2, Mv.no_done (.cut 40), m_done (.cut 40), ?_⟩
    refine ⟨_, rfl, fun r2 hr2 => ?_⟩
    have sa := Same.new (Same.refl _) (o := rngO r2 0 60 1) hr2
    have g_r2 := here (o := rngO r2 0 60 1) hr2
    replace tb := tb.keep sa
    replace m1 := mv_keep m1 sa
    replace g_r1 := sa _ _ g_r1
    replace g_y1 := sa _ _ g_y1
    replace g_y2 := sa _ _ g_y2
    replace m2 := mv_keep m2 sa
    refine ⟨_, _, _, _, _, rfl, g_r2, rng_small (by decide) (by decide) (by decide) (by decide), rng_up, (by decide), fun y3 hy3 => ?_⟩
    rw [rng60]
    have sa := Same.new (Same.refl _) (o := .lst (nv (List.range' 0 60))) hy3
    have g_y3 := here (o := .lst (nv (List.range' 0 60))) hy3
    replace tb := tb.keep sa
    replace m1 := mv_keep m1 sa
    replace g_r1 := sa _ _ g_r1
    replace g_y1 := sa _ _ g_y1
    replace g_y2 := sa _ _ g_y2
    replace m2 := mv_keep m2 sa
    replace g_r2 := sa _ _ g_r2
    refine ⟨x2, y3, List.range' 0 60, rfl, m2, (show 40 ≤ 60 by decide), (by show 40 ≤ (List.range' 0 60).length; decide), g_y3, good60, fun y4 hy4 => ?_⟩
    have sa := Same.new (Same.refl _) (o := .lst (nv (pick (List.range' 0 60) ((Mv.cut 40).src (List.range' 0 60).length)))) hy4
    have g_y4 := here (o := .lst (nv (pick (List.range' 0 60) ((Mv.cut 40).src (List.range' 0 60).length)))) hy4
    replace tb := tb.keep sa
    replace m1 := mv_keep m1 sa
    replace g_r1 := sa _ _ g_r1
    replace g_y1 := sa _ _ g_y1
    replace g_y2 := sa _ _ g_y2
    replace m2 := mv_keep m2 sa
    replace g_r2 := sa _ _ g_r2
    replace g_y3 := sa _ _ g_y3
    refine ⟨_, _, _, _, rfl, rfl, SqL.of g_y2, SqL.of g_y4, nv_flat _, nv_flat _, _, rfl, ?_⟩
    rw [show eqVs (nv ys) (nv (pick (List.range' 0 60) ((Mv.cut 40).src (List.range' 0 60).length))) = true by rw [e18]; exact eqVs_self _]
    refine iteF ?_
    refine fun x3 dx3 nx3 ndx3 nex3 => ⟨x3, dx3, .cut 0, trivial, rfl, (show 0 ≤ 60 by decide), upd_same, rfl, ?_⟩
    obtain ⟨sa, m3⟩ := made1 (t := t) (mv := .cut 0) nx3 ndx3
    replace tb := tb.keep sa
    refine ⟨x3, 1, .cut 0, rfl, m3, (show 0 ≤ 60 by decide), (show 0 ≤ 1 by decide), by decide, by decide, fun rl rs H95 R => ?_⟩
    have sa := R.same
    replace tb := tb.keep sa
    replace m3 := mv_keep m3 sa
    have g_rl := R.lst
    have rlen : rs.length = 1 := by rw [R.len, rings_01]; rfl
    obtain ⟨ra, era⟩ : ∃ ra, rs = [ra] := List.length_eq_one_iff.mp rlen
    obtain ⟨_, _, g_ra⟩ := R.at_ 0 ra (by rw [era]; rfl)
    rw [rings_01] at g_ra
    refine ⟨(by show 1 ≤ sizeLine; decide), fun i1 c3 => ?_⟩
    have nra : ra ≠ i1 := ne_of_none g_ra c3
    have sa := Same.new (Same.refl _) (o := .lst [.int 0]) c3
    have g_i1 := here (o := .lst [.int 0]) c3
    replace tb := tb.keep sa
    replace g_rl := sa _ _ g_rl
    replace g_ra := sa _ _ g_ra
    refine ⟨(by show 1 ≤ sizeLine; decide), fun i2 c4 => ?_⟩
    have sa := Same.new (Same.refl _) (o := .lst [.ref i1]) c4
    have g_i2 := here (o := .lst [.ref i1]) c4
    replace tb := tb.keep sa
    replace g_rl := sa _ _ g_rl
    replace g_ra := sa _ _ g_ra
    replace g_i1 := sa _ _ g_i1
    refine ⟨_, _, rs, [i1], rfl, rfl, SqL.of g_rl, SqL.of g_i2, rlen, fun i a1 b1 ha1 hb1 => ?_, _, rfl, ?_⟩
    · match i, hb1 with
      | 0, hb1 =>
        cases hb1
        rw [era] at ha1
        cases ha1
        exact ⟨nra, nv [0], SqL.of g_ra, SqL.of g_i1, nv_flat _, eqVs_self _⟩
      | n + 1, hb1 => cases hb1
    refine iteT ?_
    refine fun x4 dx4 nx4 ndx4 nex4 => ⟨x4, dx4, .deal 60, trivial, rfl, ⟨by decide, by decide⟩, upd_same, rfl, ?_⟩
    obtain ⟨sa, m4⟩ := made1 (t := t) (mv := .deal 60) nx4 ndx4
    replace tb := tb.keep sa
    obtain ⟨dz4, hz4⟩ := id m4
    refine ⟨_, _, _, _, _, rfl, hz4, Mv.no_done (.deal 60), m_done (.deal 60), (by show 1 ≤ sizeLine; decide), fun z4 hy4 => ?_⟩
    have sa := Same.new (Same.refl _) (o := .lst [.int 0]) hy4
    have g_z4 := here (o := .lst [.int 0]) hy4
    replace tb := tb.keep sa
    replace m4 := mv_keep m4 sa
    refine ⟨x4, z4, [0], rfl, m4, ⟨by decide, by decide⟩, trivial, g_z4, good0, ?_⟩
    rw [deal_60]
    refine fun v4 hv4 => ?_
    have sa := Same.new (Same.refl _) (o := .lst (nv [0])) hv4
    have g_v4 := here (o := .lst (nv [0])) hv4
    replace tb := tb.keep sa
    replace m4 := mv_keep m4 sa
    replace g_z4 := sa _ _ g_z4
    refine ⟨(by show 1 ≤ sizeLine; decide), fun k4 hk4 => ?_⟩
    have sa := Same.new (Same.refl _) (o := .lst [.int 0]) hk4
    have g_k4 := here (o := .lst [.int 0]) hk4
    replace tb := tb.keep sa
    replace m4 := mv_keep m4 sa
    replace g_z4 := sa _ _ g_z4
    replace g_v4 := sa _ _ g_v4
    refine ⟨_, _, _, _, rfl, rfl, SqL.of g_v4, SqL.of g_k4, nv_flat _, rfl, ?_⟩
    refine ⟨_, rfl, ?_⟩
    rw [show eqVs (nv [0]) [.int 0] = true from eqVs_self [0]]
    refine iteT ?_
    refine fun x5 dx5 nx5 ndx5 nex5 => ⟨x5, dx5, .deal 1, trivial, rfl, ⟨by decide, by decide⟩, upd_same, rfl, ?_⟩
    obtain ⟨sa, m5⟩ := made1 (t := t) (mv := .deal 1) nx5 ndx5
    replace tb := tb.keep sa
    obtain ⟨dz5, hz5⟩ := id m5
    refine ⟨_, _, _, _, _, rfl, hz5, Mv.no_done (.deal 1), m_done (.deal 1), (by show 2 ≤ sizeLine; decide), fun z5 hy5 => ?_⟩
    have sa := Same.new (Same.refl _) (o := .lst [.int 0, .int 1]) hy5
    have g_z5 := here (o := .lst [.int 0, .int 1]) hy5
    replace tb := tb.keep sa
    replace m5 := mv_keep m5 sa
    refine ⟨x5, z5, [0, 1], rfl, m5, ⟨by decide, by decide⟩, trivial, g_z5, good01, ?_⟩
    rw [deal_1]
    refine fun v5 hv5 => ?_
    have sa := Same.new (Same.refl _) (o := .lst (nv [1, 0])) hv5
    have g_v5 := here (o := .lst (nv [1, 0])) hv5
    replace tb := tb.keep sa
    replace m5 := mv_keep m5 sa
    replace g_z5 := sa _ _ g_z5
    refine ⟨(by show 2 ≤ sizeLine; decide), fun k5 hk5 => ?_⟩
    have sa := Same.new (Same.refl _) (o := .lst [.int 1, .int 0]) hk5
    have g_k5 := here (o := .lst [.int 1, .int 0]) hk5
    replace tb := tb.keep sa
    replace m5 := mv_keep m5 sa
    replace g_z5 := sa _ _ g_z5
    replace g_v5 := sa _ _ g_v5
    refine ⟨_, _, _, _, rfl, rfl, SqL.of g_v5, SqL.of g_k5, nv_flat _, rfl, ?_⟩
    rw [show eqVs (nv [1, 0]) [.int 1, .int 0] = true from eqVs_self [1, 0]]
    obtain ⟨ps, hps, _⟩ := tb
    exact ⟨_, fun _ c => Gc.refl c, q _ ⟨ps, hps⟩⟩
end
end Rf

set_option Elab.async false
set_option linter.all false
set_option maxRecDepth 100000
set_option maxHeartbeats 4000000
namespace Rf
open PySem L2
theorem all_mk {l : PySem.W.OpenLaw} {w : World} {K : PySem.W.Frag} {h : Heap} {mg : Str → Option Value} {fa : Addr} (X : K.In h) (G : h.Ns mainGlobals mg) (hfa : mg "law" = some (.ref fa))
    {f_is_number : Addr} {od_is_number an_is_number : Option Addr} {sl_is_number : Array (Option Value)} {oc_is_number kV_is_number dc_is_number pm_is_number cd_is_number ct_is_number : Value}
    {f_is_order : Addr} {od_is_order an_is_order : Option Addr} {sl_is_order : Array (Option Value)} {oc_is_order kV_is_order dc_is_order pm_is_order cd_is_order ct_is_order : Value}
    {f_check_order : Addr} {od_check_order an_check_order : Option Addr} {sl_check_order : Array (Option Value)} {oc_check_order kV_check_order dc_check_order pm_check_order cd_check_order ct_check_order : Value}
    {f_check_cards : Addr} {od_check_cards an_check_cards : Option Addr} {sl_check_cards : Array (Option Value)} {oc_check_cards kV_check_cards dc_check_cards pm_check_cards cd_check_cards ct_check_cards : Value}
    {f_is_word : Addr} {od_is_word an_is_word : Option Addr} {sl_is_word : Array (Option Value)} {oc_is_word kV_is_word dc_is_word pm_is_word cd_is_word ct_is_word : Value}
    {f_riffle_sources : Addr} {od_riffle_sources an_riffle_sources : Option Addr} {sl_riffle_sources : Array (Option Value)} {oc_riffle_sources kV_riffle_sources dc_riffle_sources pm_riffle_sources cd_riffle_sources ct_riffle_sources : Value}
    {f_check_move : Addr} {od_check_move an_check_move : Option Addr} {sl_check_move : Array (Option Value)} {oc_check_move kV_check_move dc_check_move pm_check_move cd_check_move ct_check_move : Value}
    {f_check_moves : Addr} {od_check_moves an_check_moves : Option Addr} {sl_check_moves : Array (Option Value)} {oc_check_moves kV_check_moves dc_check_moves pm_check_moves cd_check_moves ct_check_moves : Value}
    {f_done_all : Addr} {od_done_all an_done_all : Option Addr} {sl_done_all : Array (Option Value)} {oc_done_all kV_done_all dc_done_all pm_done_all cd_done_all ct_done_all : Value}
    {f_rings : Addr} {od_rings an_rings : Option Addr} {sl_rings : Array (Option Value)} {oc_rings kV_rings dc_rings pm_rings cd_rings ct_rings : Value}
    {f_period : Addr} {od_period an_period : Option Addr} {sl_period : Array (Option Value)} {oc_period kV_period dc_period pm_period cd_period ct_period : Value}
    {f_repeated : Addr} {od_repeated an_repeated : Option Addr} {sl_repeated : Array (Option Value)} {oc_repeated kV_repeated dc_repeated pm_repeated cd_repeated ct_repeated : Value}
    {f_targets : Addr} {od_targets an_targets : Option Addr} {sl_targets : Array (Option Value)} {oc_targets kV_targets dc_targets pm_targets cd_targets ct_targets : Value}
    {f_ring_from : Addr} {od_ring_from an_ring_from : Option Addr} {sl_ring_from : Array (Option Value)} {oc_ring_from kV_ring_from dc_ring_from pm_ring_from cd_ring_from ct_ring_from : Value}
    {f_common_divisor : Addr} {od_common_divisor an_common_divisor : Option Addr} {sl_common_divisor : Array (Option Value)} {oc_common_divisor kV_common_divisor dc_common_divisor pm_common_divisor cd_common_divisor ct_common_divisor : Value}
    {f_rows : Addr} {od_rows an_rows : Option Addr} {sl_rows : Array (Option Value)} {oc_rows kV_rows dc_rows pm_rows cd_rows ct_rows : Value}
    {f_riffles_to : Addr} {od_riffles_to an_riffles_to : Option Addr} {sl_riffles_to : Array (Option Value)} {oc_riffles_to kV_riffles_to dc_riffles_to pm_riffles_to cd_riffles_to ct_riffles_to : Value}
    {f_ways : Addr} {od_ways an_ways : Option Addr} {sl_ways : Array (Option Value)} {oc_ways kV_ways dc_ways pm_ways cd_ways ct_ways : Value}
    {f_orders_with : Addr} {od_orders_with an_orders_with : Option Addr} {sl_orders_with : Array (Option Value)} {oc_orders_with kV_orders_with dc_orders_with pm_orders_with cd_orders_with ct_orders_with : Value}
    {f_row_numbers : Addr} {od_row_numbers an_row_numbers : Option Addr} {sl_row_numbers : Array (Option Value)} {oc_row_numbers kV_row_numbers dc_row_numbers pm_row_numbers cd_row_numbers ct_row_numbers : Value}
    {f_choices : Addr} {od_choices an_choices : Option Addr} {sl_choices : Array (Option Value)} {oc_choices kV_choices dc_choices pm_choices cd_choices ct_choices : Value}
    {f_written : Addr} {od_written an_written : Option Addr} {sl_written : Array (Option Value)} {oc_written kV_written dc_written pm_written cd_written ct_written : Value}
    {f_move_written : Addr} {od_move_written an_move_written : Option Addr} {sl_move_written : Array (Option Value)} {oc_move_written kV_move_written dc_move_written pm_move_written cd_move_written ct_move_written : Value}
    {f_brought : Addr} {od_brought an_brought : Option Addr} {sl_brought : Array (Option Value)} {oc_brought kV_brought dc_brought pm_brought cd_brought ct_brought : Value}
    {f_mixed : Addr} {od_mixed an_mixed : Option Addr} {sl_mixed : Array (Option Value)} {oc_mixed kV_mixed dc_mixed pm_mixed cd_mixed ct_mixed : Value}
    {f__law_cell_at : Addr} {od__law_cell_at an__law_cell_at : Option Addr} {sl__law_cell_at : Array (Option Value)} {oc__law_cell_at kV__law_cell_at dc__law_cell_at pm__law_cell_at cd__law_cell_at ct__law_cell_at : Value}
    {f__law_kinds : Addr} {od__law_kinds an__law_kinds : Option Addr} {sl__law_kinds : Array (Option Value)} {oc__law_kinds kV__law_kinds dc__law_kinds pm__law_kinds cd__law_kinds ct__law_kinds : Value}
    {f__law_told : Addr} {od__law_told an__law_told : Option Addr} {sl__law_told : Array (Option Value)} {oc__law_told kV__law_told dc__law_told pm__law_told cd__law_told ct__law_told : Value}
    {f__law_orders : Addr} {od__law_orders an__law_orders : Option Addr} {sl__law_orders : Array (Option Value)} {oc__law_orders kV__law_orders dc__law_orders pm__law_orders cd__law_orders ct__law_orders : Value}
    {f__law_with_order : Addr} {od__law_with_order an__law_with_order : Option Addr} {sl__law_with_order : Array (Option Value)} {oc__law_with_order kV__law_with_order dc__law_with_order pm__law_with_order cd__law_with_order ct__law_with_order : Value}
    {f__law_made : Addr} {od__law_made an__law_made : Option Addr} {sl__law_made : Array (Option Value)} {oc__law_made kV__law_made dc__law_made pm__law_made cd__law_made ct__law_made : Value}
    {f__law_with_move : Addr} {od__law_with_move an__law_with_move : Option Addr} {sl__law_with_move : Array (Option Value)} {oc__law_with_move kV__law_with_move dc__law_with_move pm__law_with_move cd__law_with_move ct__law_with_move : Value}
    {f__law_unfit : Addr} {od__law_unfit an__law_unfit : Option Addr} {sl__law_unfit : Array (Option Value)} {oc__law_unfit kV__law_unfit dc__law_unfit pm__law_unfit cd__law_unfit ct__law_unfit : Value}
    {f__law_with_number : Addr} {od__law_with_number an__law_with_number : Option Addr} {sl__law_with_number : Array (Option Value)} {oc__law_with_number kV__law_with_number dc__law_with_number pm__law_with_number cd__law_with_number ct__law_with_number : Value}
    {f__law_all : Addr} {od__law_all an__law_all : Option Addr} {sl__law_all : Array (Option Value)} {oc__law_all kV__law_all dc__law_all pm__law_all cd__law_all ct__law_all : Value}
    {f_law : Addr} {od_law an_law : Option Addr} {sl_law : Array (Option Value)} {oc_law kV_law dc_law pm_law cd_law ct_law : Value}
    {f_Cut___init__ : Addr} {od_Cut___init__ an_Cut___init__ : Option Addr} {sl_Cut___init__ : Array (Option Value)} {oc_Cut___init__ kV_Cut___init__ dc_Cut___init__ pm_Cut___init__ cd_Cut___init__ ct_Cut___init__ : Value}
    {f_Turn___init__ : Addr} {od_Turn___init__ an_Turn___init__ : Option Addr} {sl_Turn___init__ : Array (Option Value)} {oc_Turn___init__ kV_Turn___init__ dc_Turn___init__ pm_Turn___init__ cd_Turn___init__ ct_Turn___init__ : Value}
    {f_Deal___init__ : Addr} {od_Deal___init__ an_Deal___init__ : Option Addr} {sl_Deal___init__ : Array (Option Value)} {oc_Deal___init__ kV_Deal___init__ dc_Deal___init__ pm_Deal___init__ cd_Deal___init__ ct_Deal___init__ : Value}
    {f_Under___init__ : Addr} {od_Under___init__ an_Under___init__ : Option Addr} {sl_Under___init__ : Array (Option Value)} {oc_Under___init__ kV_Under___init__ dc_Under___init__ pm_Under___init__ cd_Under___init__ ct_Under___init__ : Value}
    {f_Weave___init__ : Addr} {od_Weave___init__ an_Weave___init__ : Option Addr} {sl_Weave___init__ : Array (Option Value)} {oc_Weave___init__ kV_Weave___init__ dc_Weave___init__ pm_Weave___init__ cd_Weave___init__ ct_Weave___init__ : Value}
    {f_Riffle___init__ : Addr} {od_Riffle___init__ an_Riffle___init__ : Option Addr} {sl_Riffle___init__ : Array (Option Value)} {oc_Riffle___init__ kV_Riffle___init__ dc_Riffle___init__ pm_Riffle___init__ cd_Riffle___init__ ct_Riffle___init__ : Value}
    {f_Mixed___init__ : Addr} {od_Mixed___init__ an_Mixed___init__ : Option Addr} {sl_Mixed___init__ : Array (Option Value)} {oc_Mixed___init__ kV_Mixed___init__ dc_Mixed___init__ pm_Mixed___init__ cd_Mixed___init__ ct_Mixed___init__ : Value}
    {f_Fault___init__ : Addr} {od_Fault___init__ an_Fault___init__ : Option Addr} {sl_Fault___init__ : Array (Option Value)} {oc_Fault___init__ kV_Fault___init__ dc_Fault___init__ pm_Fault___init__ cd_Fault___init__ ct_Fault___init__ : Value}
    {f_Cut_sources : Addr} {od_Cut_sources an_Cut_sources : Option Addr} {sl_Cut_sources : Array (Option Value)} {oc_Cut_sources kV_Cut_sources dc_Cut_sources pm_Cut_sources cd_Cut_sources ct_Cut_sources : Value}
    {f_Turn_sources : Addr} {od_Turn_sources an_Turn_sources : Option Addr} {sl_Turn_sources : Array (Option Value)} {oc_Turn_sources kV_Turn_sources dc_Turn_sources pm_Turn_sources cd_Turn_sources ct_Turn_sources : Value}
    {f_Deal_sources : Addr} {od_Deal_sources an_Deal_sources : Option Addr} {sl_Deal_sources : Array (Option Value)} {oc_Deal_sources kV_Deal_sources dc_Deal_sources pm_Deal_sources cd_Deal_sources ct_Deal_sources : Value}
    {f_Under_sources : Addr} {od_Under_sources an_Under_sources : Option Addr} {sl_Under_sources : Array (Option Value)} {oc_Under_sources kV_Under_sources dc_Under_sources pm_Under_sources cd_Under_sources ct_Under_sources : Value}
    {f_Weave_sources : Addr} {od_Weave_sources an_Weave_sources : Option Addr} {sl_Weave_sources : Array (Option Value)} {oc_Weave_sources kV_Weave_sources dc_Weave_sources pm_Weave_sources cd_Weave_sources ct_Weave_sources : Value}
    {f_Riffle_sources : Addr} {od_Riffle_sources an_Riffle_sources : Option Addr} {sl_Riffle_sources : Array (Option Value)} {oc_Riffle_sources kV_Riffle_sources dc_Riffle_sources pm_Riffle_sources cd_Riffle_sources ct_Riffle_sources : Value}
    {f_Move_done : Addr} {od_Move_done an_Move_done : Option Addr} {sl_Move_done : Array (Option Value)} {oc_Move_done kV_Move_done dc_Move_done pm_Move_done cd_Move_done ct_Move_done : Value}
    {f_Move_undone : Addr} {od_Move_undone an_Move_undone : Option Addr} {sl_Move_undone : Array (Option Value)} {oc_Move_undone kV_Move_undone dc_Move_undone pm_Move_undone cd_Move_undone ct_Move_undone : Value}
    {C_Move : Addr}
    {C_Cut : Addr}
    {C_Turn : Addr}
    {C_Deal : Addr}
    {C_Under : Addr}
    {C_Weave : Addr}
    {C_Riffle : Addr}
    {C_Answer : Addr}
    {C_Mixed : Addr}
    {C_Fault : Addr}
    {C_PackError C_BadOrder C_BadMove C_BadNumber C_BadText : Addr}
    {c0 T0 : Addr} {odT : Option Addr} {vsT : Array Value} {slT : Array (Option Value)} {flT : Str} {tfT tgT ttT : Tok} {fgT txT : Int} {ibT : Bool}
    {tok60 : Tok}
    (A_Move : PySem.W.nsIn K mainGlobals "Move" = some (some (.ref C_Move)))
    (A_Cut : PySem.W.nsIn K mainGlobals "Cut" = some (some (.ref C_Cut)))
    (A_Turn : PySem.W.nsIn K mainGlobals "Turn" = some (some (.ref C_Turn)))
    (A_Deal : PySem.W.nsIn K mainGlobals "Deal" = some (some (.ref C_Deal)))
    (A_Under : PySem.W.nsIn K mainGlobals "Under" = some (some (.ref C_Under)))
    (A_Weave : PySem.W.nsIn K mainGlobals "Weave" = some (some (.ref C_Weave)))
    (A_Riffle : PySem.W.nsIn K mainGlobals "Riffle" = some (some (.ref C_Riffle)))
    (A_Answer : PySem.W.nsIn K mainGlobals "Answer" = some (some (.ref C_Answer)))
    (A_Mixed : PySem.W.nsIn K mainGlobals "Mixed" = some (some (.ref C_Mixed)))
    (A_Fault : PySem.W.nsIn K mainGlobals "Fault" = some (some (.ref C_Fault)))
    (a_is_number : PySem.W.nsIn K mainGlobals "is_number" = some (some (.ref f_is_number)))
    (a_is_order : PySem.W.nsIn K mainGlobals "is_order" = some (some (.ref f_is_order)))
    (a_check_order : PySem.W.nsIn K mainGlobals "check_order" = some (some (.ref f_check_order)))
    (a_check_cards : PySem.W.nsIn K mainGlobals "check_cards" = some (some (.ref f_check_cards)))
    (a_is_word : PySem.W.nsIn K mainGlobals "is_word" = some (some (.ref f_is_word)))
    (a_riffle_sources : PySem.W.nsIn K mainGlobals "riffle_sources" = some (some (.ref f_riffle_sources)))
    (a_check_move : PySem.W.nsIn K mainGlobals "check_move" = some (some (.ref f_check_move)))
    (a_check_moves : PySem.W.nsIn K mainGlobals "check_moves" = some (some (.ref f_check_moves)))
    (a_done_all : PySem.W.nsIn K mainGlobals "done_all" = some (some (.ref f_done_all)))
    (a_rings : PySem.W.nsIn K mainGlobals "rings" = some (some (.ref f_rings)))
    (a_period : PySem.W.nsIn K mainGlobals "period" = some (some (.ref f_period)))
    (a_repeated : PySem.W.nsIn K mainGlobals "repeated" = some (some (.ref f_repeated)))
    (a_targets : PySem.W.nsIn K mainGlobals "targets" = some (some (.ref f_targets)))
    (a_ring_from : PySem.W.nsIn K mainGlobals "ring_from" = some (some (.ref f_ring_from)))
    (a_common_divisor : PySem.W.nsIn K mainGlobals "common_divisor" = some (some (.ref f_common_divisor)))
    (a_rows : PySem.W.nsIn K mainGlobals "rows" = some (some (.ref f_rows)))
    (a_riffles_to : PySem.W.nsIn K mainGlobals "riffles_to" = some (some (.ref f_riffles_to)))
    (a_ways : PySem.W.nsIn K mainGlobals "ways" = some (some (.ref f_ways)))
    (a_orders_with : PySem.W.nsIn K mainGlobals "orders_with" = some (some (.ref f_orders_with)))
    (a_row_numbers : PySem.W.nsIn K mainGlobals "row_numbers" = some (some (.ref f_row_numbers)))
    (a_choices : PySem.W.nsIn K mainGlobals "choices" = some (some (.ref f_choices)))
    (a_written : PySem.W.nsIn K mainGlobals "written" = some (some (.ref f_written)))
    (a_move_written : PySem.W.nsIn K mainGlobals "move_written" = some (some (.ref f_move_written)))
    (a_brought : PySem.W.nsIn K mainGlobals "brought" = some (some (.ref f_brought)))
    (a_mixed : PySem.W.nsIn K mainGlobals "mixed" = some (some (.ref f_mixed)))
    (a__law_cell_at : PySem.W.nsIn K mainGlobals "_law_cell_at" = some (some (.ref f__law_cell_at)))
    (a__law_kinds : PySem.W.nsIn K mainGlobals "_law_kinds" = some (some (.ref f__law_kinds)))
    (a__law_told : PySem.W.nsIn K mainGlobals "_law_told" = some (some (.ref f__law_told)))
    (a__law_orders : PySem.W.nsIn K mainGlobals "_law_orders" = some (some (.ref f__law_orders)))
    (a__law_with_order : PySem.W.nsIn K mainGlobals "_law_with_order" = some (some (.ref f__law_with_order)))
    (a__law_made : PySem.W.nsIn K mainGlobals "_law_made" = some (some (.ref f__law_made)))
    (a__law_with_move : PySem.W.nsIn K mainGlobals "_law_with_move" = some (some (.ref f__law_with_move)))
    (a__law_unfit : PySem.W.nsIn K mainGlobals "_law_unfit" = some (some (.ref f__law_unfit)))
    (a__law_with_number : PySem.W.nsIn K mainGlobals "_law_with_number" = some (some (.ref f__law_with_number)))
    (a__law_all : PySem.W.nsIn K mainGlobals "_law_all" = some (some (.ref f__law_all)))
    (a_law : PySem.W.nsIn K mainGlobals "law" = some (some (.ref f_law)))
    (a_Cut___init__ : PySem.W.findIn K (.ref C_Cut) "__init__" = some (some (.ref f_Cut___init__)))
    (i_Cut___init__ : PySem.W.isFn K (.ref f_Cut___init__) = true)
    (a_Turn___init__ : PySem.W.findIn K (.ref C_Turn) "__init__" = some (some (.ref f_Turn___init__)))
    (i_Turn___init__ : PySem.W.isFn K (.ref f_Turn___init__) = true)
    (a_Deal___init__ : PySem.W.findIn K (.ref C_Deal) "__init__" = some (some (.ref f_Deal___init__)))
    (i_Deal___init__ : PySem.W.isFn K (.ref f_Deal___init__) = true)
    (a_Under___init__ : PySem.W.findIn K (.ref C_Under) "__init__" = some (some (.ref f_Under___init__)))
    (i_Under___init__ : PySem.W.isFn K (.ref f_Under___init__) = true)
    (a_Weave___init__ : PySem.W.findIn K (.ref C_Weave) "__init__" = some (some (.ref f_Weave___init__)))
    (i_Weave___init__ : PySem.W.isFn K (.ref f_Weave___init__) = true)
    (a_Riffle___init__ : PySem.W.findIn K (.ref C_Riffle) "__init__" = some (some (.ref f_Riffle___init__)))
    (i_Riffle___init__ : PySem.W.isFn K (.ref f_Riffle___init__) = true)
    (a_Mixed___init__ : PySem.W.findIn K (.ref C_Mixed) "__init__" = some (some (.ref f_Mixed___init__)))
    (i_Mixed___init__ : PySem.W.isFn K (.ref f_Mixed___init__) = true)
    (a_Fault___init__ : PySem.W.findIn K (.ref C_Fault) "__init__" = some (some (.ref f_Fault___init__)))
    (i_Fault___init__ : PySem.W.isFn K (.ref f_Fault___init__) = true)
    (a_Cut_sources : PySem.W.findIn K (.ref C_Cut) "sources" = some (some (.ref f_Cut_sources)))
    (i_Cut_sources : PySem.W.isFn K (.ref f_Cut_sources) = true)
    (a_Turn_sources : PySem.W.findIn K (.ref C_Turn) "sources" = some (some (.ref f_Turn_sources)))
    (i_Turn_sources : PySem.W.isFn K (.ref f_Turn_sources) = true)
    (a_Deal_sources : PySem.W.findIn K (.ref C_Deal) "sources" = some (some (.ref f_Deal_sources)))
    (i_Deal_sources : PySem.W.isFn K (.ref f_Deal_sources) = true)
    (a_Under_sources : PySem.W.findIn K (.ref C_Under) "sources" = some (some (.ref f_Under_sources)))
    (i_Under_sources : PySem.W.isFn K (.ref f_Under_sources) = true)
    (a_Weave_sources : PySem.W.findIn K (.ref C_Weave) "sources" = some (some (.ref f_Weave_sources)))
    (i_Weave_sources : PySem.W.isFn K (.ref f_Weave_sources) = true)
    (a_Riffle_sources : PySem.W.findIn K (.ref C_Riffle) "sources" = some (some (.ref f_Riffle_sources)))
    (i_Riffle_sources : PySem.W.isFn K (.ref f_Riffle_sources) = true)
    (a_Cut_done : PySem.W.findIn K (.ref C_Cut) "done" = some (some (.ref f_Move_done)))
    (a_Turn_done : PySem.W.findIn K (.ref C_Turn) "done" = some (some (.ref f_Move_done)))
    (a_Deal_done : PySem.W.findIn K (.ref C_Deal) "done" = some (some (.ref f_Move_done)))
    (a_Under_done : PySem.W.findIn K (.ref C_Under) "done" = some (some (.ref f_Move_done)))
    (a_Weave_done : PySem.W.findIn K (.ref C_Weave) "done" = some (some (.ref f_Move_done)))
    (a_Riffle_done : PySem.W.findIn K (.ref C_Riffle) "done" = some (some (.ref f_Move_done)))
    (i_Move_done : PySem.W.isFn K (.ref f_Move_done) = true)
    (a_Cut_undone : PySem.W.findIn K (.ref C_Cut) "undone" = some (some (.ref f_Move_undone)))
    (a_Turn_undone : PySem.W.findIn K (.ref C_Turn) "undone" = some (some (.ref f_Move_undone)))
    (a_Deal_undone : PySem.W.findIn K (.ref C_Deal) "undone" = some (some (.ref f_Move_undone)))
    (a_Under_undone : PySem.W.findIn K (.ref C_Under) "undone" = some (some (.ref f_Move_undone)))
    (a_Weave_undone : PySem.W.findIn K (.ref C_Weave) "undone" = some (some (.ref f_Move_undone)))
    (a_Riffle_undone : PySem.W.findIn K (.ref C_Riffle) "undone" = some (some (.ref f_Move_undone)))
    (i_Move_undone : PySem.W.isFn K (.ref f_Move_undone) = true)
    (l_is_number : K.lookup f_is_number = some ⟨oc_is_number, od_is_number, .func (PySem.W.fnOf "is_number" "is_number" (defArgs s_is_number) (defBody s_is_number) (defScope s_is_number) .none kV_is_number dc_is_number pm_is_number an_is_number cd_is_number ct_is_number), sl_is_number⟩)
    (c_is_number : PySem.W.codeIn K cd_is_number "is_number" = true)
    (k_is_number : PySem.W.keepIn K (.ref f_is_number) = true)
    (l_is_order : K.lookup f_is_order = some ⟨oc_is_order, od_is_order, .func (PySem.W.fnOf "is_order" "is_order" (defArgs s_is_order) (defBody s_is_order) (defScope s_is_order) .none kV_is_order dc_is_order pm_is_order an_is_order cd_is_order ct_is_order), sl_is_order⟩)
    (c_is_order : PySem.W.codeIn K cd_is_order "is_order" = true)
    (k_is_order : PySem.W.keepIn K (.ref f_is_order) = true)
    (l_check_order : K.lookup f_check_order = some ⟨oc_check_order, od_check_order, .func (PySem.W.fnOf "check_order" "check_order" (defArgs s_check_order) (defBody s_check_order) (defScope s_check_order) .none kV_check_order dc_check_order pm_check_order an_check_order cd_check_order ct_check_order), sl_check_order⟩)
    (c_check_order : PySem.W.codeIn K cd_check_order "check_order" = true)
    (k_check_order : PySem.W.keepIn K (.ref f_check_order) = true)
    (l_check_cards : K.lookup f_check_cards = some ⟨oc_check_cards, od_check_cards, .func (PySem.W.fnOf "check_cards" "check_cards" (defArgs s_check_cards) (defBody s_check_cards) (defScope s_check_cards) .none kV_check_cards dc_check_cards pm_check_cards an_check_cards cd_check_cards ct_check_cards), sl_check_cards⟩)
    (c_check_cards : PySem.W.codeIn K cd_check_cards "check_cards" = true)
    (k_check_cards : PySem.W.keepIn K (.ref f_check_cards) = true)
    (l_is_word : K.lookup f_is_word = some ⟨oc_is_word, od_is_word, .func (PySem.W.fnOf "is_word" "is_word" (defArgs s_is_word) (defBody s_is_word) (defScope s_is_word) .none kV_is_word dc_is_word pm_is_word an_is_word cd_is_word ct_is_word), sl_is_word⟩)
    (c_is_word : PySem.W.codeIn K cd_is_word "is_word" = true)
    (k_is_word : PySem.W.keepIn K (.ref f_is_word) = true)
    (l_riffle_sources : K.lookup f_riffle_sources = some ⟨oc_riffle_sources, od_riffle_sources, .func (PySem.W.fnOf "riffle_sources" "riffle_sources" (defArgs s_riffle_sources) (defBody s_riffle_sources) (defScope s_riffle_sources) .none kV_riffle_sources dc_riffle_sources pm_riffle_sources an_riffle_sources cd_riffle_sources ct_riffle_sources), sl_riffle_sources⟩)
    (c_riffle_sources : PySem.W.codeIn K cd_riffle_sources "riffle_sources" = true)
    (k_riffle_sources : PySem.W.keepIn K (.ref f_riffle_sources) = true)
    (l_check_move : K.lookup f_check_move = some ⟨oc_check_move, od_check_move, .func (PySem.W.fnOf "check_move" "check_move" (defArgs s_check_move) (defBody s_check_move) (defScope s_check_move) .none kV_check_move dc_check_move pm_check_move an_check_move cd_check_move ct_check_move), sl_check_move⟩)
    (c_check_move : PySem.W.codeIn K cd_check_move "check_move" = true)
    (k_check_move : PySem.W.keepIn K (.ref f_check_move) = true)
    (l_check_moves : K.lookup f_check_moves = some ⟨oc_check_moves, od_check_moves, .func (PySem.W.fnOf "check_moves" "check_moves" (defArgs s_check_moves) (defBody s_check_moves) (defScope s_check_moves) .none kV_check_moves dc_check_moves pm_check_moves an_check_moves cd_check_moves ct_check_moves), sl_check_moves⟩)
    (c_check_moves : PySem.W.codeIn K cd_check_moves "check_moves" = true)
    (k_check_moves : PySem.W.keepIn K (.ref f_check_moves) = true)
    (l_done_all : K.lookup f_done_all = some ⟨oc_done_all, od_done_all, .func (PySem.W.fnOf "done_all" "done_all" (defArgs s_done_all) (defBody s_done_all) (defScope s_done_all) .none kV_done_all dc_done_all pm_done_all an_done_all cd_done_all ct_done_all), sl_done_all⟩)
    (c_done_all : PySem.W.codeIn K cd_done_all "done_all" = true)
    (k_done_all : PySem.W.keepIn K (.ref f_done_all) = true)
    (l_rings : K.lookup f_rings = some ⟨oc_rings, od_rings, .func (PySem.W.fnOf "rings" "rings" (defArgs s_rings) (defBody s_rings) (defScope s_rings) .none kV_rings dc_rings pm_rings an_rings cd_rings ct_rings), sl_rings⟩)
    (c_rings : PySem.W.codeIn K cd_rings "rings" = true)
    (k_rings : PySem.W.keepIn K (.ref f_rings) = true)
    (l_period : K.lookup f_period = some ⟨oc_period, od_period, .func (PySem.W.fnOf "period" "period" (defArgs s_period) (defBody s_period) (defScope s_period) .none kV_period dc_period pm_period an_period cd_period ct_period), sl_period⟩)
    (c_period : PySem.W.codeIn K cd_period "period" = true)
    (k_period : PySem.W.keepIn K (.ref f_period) = true)
    (l_repeated : K.lookup f_repeated = some ⟨oc_repeated, od_repeated, .func (PySem.W.fnOf "repeated" "repeated" (defArgs s_repeated) (defBody s_repeated) (defScope s_repeated) .none kV_repeated dc_repeated pm_repeated an_repeated cd_repeated ct_repeated), sl_repeated⟩)
    (c_repeated : PySem.W.codeIn K cd_repeated "repeated" = true)
    (k_repeated : PySem.W.keepIn K (.ref f_repeated) = true)
    (l_targets : K.lookup f_targets = some ⟨oc_targets, od_targets, .func (PySem.W.fnOf "targets" "targets" (defArgs s_targets) (defBody s_targets) (defScope s_targets) .none kV_targets dc_targets pm_targets an_targets cd_targets ct_targets), sl_targets⟩)
    (c_targets : PySem.W.codeIn K cd_targets "targets" = true)
    (k_targets : PySem.W.keepIn K (.ref f_targets) = true)
    (l_ring_from : K.lookup f_ring_from = some ⟨oc_ring_from, od_ring_from, .func (PySem.W.fnOf "ring_from" "ring_from" (defArgs s_ring_from) (defBody s_ring_from) (defScope s_ring_from) .none kV_ring_from dc_ring_from pm_ring_from an_ring_from cd_ring_from ct_ring_from), sl_ring_from⟩)
    (c_ring_from : PySem.W.codeIn K cd_ring_from "ring_from" = true)
    (k_ring_from : PySem.W.keepIn K (.ref f_ring_from) = true)
    (l_common_divisor : K.lookup f_common_divisor = some ⟨oc_common_divisor, od_common_divisor, .func (PySem.W.fnOf "common_divisor" "common_divisor" (defArgs s_common_divisor) (defBody s_common_divisor) (defScope s_common_divisor) .none kV_common_divisor dc_common_divisor pm_common_divisor an_common_divisor cd_common_divisor ct_common_divisor), sl_common_divisor⟩)
    (c_common_divisor : PySem.W.codeIn K cd_common_divisor "common_divisor" = true)
    (k_common_divisor : PySem.W.keepIn K (.ref f_common_divisor) = true)
    (l_rows : K.lookup f_rows = some ⟨oc_rows, od_rows, .func (PySem.W.fnOf "rows" "rows" (defArgs s_rows) (defBody s_rows) (defScope s_rows) .none kV_rows dc_rows pm_rows an_rows cd_rows ct_rows), sl_rows⟩)
    (c_rows : PySem.W.codeIn K cd_rows "rows" = true)
    (k_rows : PySem.W.keepIn K (.ref f_rows) = true)
    (l_riffles_to : K.lookup f_riffles_to = some ⟨oc_riffles_to, od_riffles_to, .func (PySem.W.fnOf "riffles_to" "riffles_to" (defArgs s_riffles_to) (defBody s_riffles_to) (defScope s_riffles_to) .none kV_riffles_to dc_riffles_to pm_riffles_to an_riffles_to cd_riffles_to ct_riffles_to), sl_riffles_to⟩)
    (c_riffles_to : PySem.W.codeIn K cd_riffles_to "riffles_to" = true)
    (k_riffles_to : PySem.W.keepIn K (.ref f_riffles_to) = true)
    (l_ways : K.lookup f_ways = some ⟨oc_ways, od_ways, .func (PySem.W.fnOf "ways" "ways" (defArgs s_ways) (defBody s_ways) (defScope s_ways) .none kV_ways dc_ways pm_ways an_ways cd_ways ct_ways), sl_ways⟩)
    (c_ways : PySem.W.codeIn K cd_ways "ways" = true)
    (k_ways : PySem.W.keepIn K (.ref f_ways) = true)
    (l_orders_with : K.lookup f_orders_with = some ⟨oc_orders_with, od_orders_with, .func (PySem.W.fnOf "orders_with" "orders_with" (defArgs s_orders_with) (defBody s_orders_with) (defScope s_orders_with) .none kV_orders_with dc_orders_with pm_orders_with an_orders_with cd_orders_with ct_orders_with), sl_orders_with⟩)
    (c_orders_with : PySem.W.codeIn K cd_orders_with "orders_with" = true)
    (k_orders_with : PySem.W.keepIn K (.ref f_orders_with) = true)
    (l_row_numbers : K.lookup f_row_numbers = some ⟨oc_row_numbers, od_row_numbers, .func (PySem.W.fnOf "row_numbers" "row_numbers" (defArgs s_row_numbers) (defBody s_row_numbers) (defScope s_row_numbers) .none kV_row_numbers dc_row_numbers pm_row_numbers an_row_numbers cd_row_numbers ct_row_numbers), sl_row_numbers⟩)
    (c_row_numbers : PySem.W.codeIn K cd_row_numbers "row_numbers" = true)
    (k_row_numbers : PySem.W.keepIn K (.ref f_row_numbers) = true)
    (l_choices : K.lookup f_choices = some ⟨oc_choices, od_choices, .func (PySem.W.fnOf "choices" "choices" (defArgs s_choices) (defBody s_choices) (defScope s_choices) .none kV_choices dc_choices pm_choices an_choices cd_choices ct_choices), sl_choices⟩)
    (c_choices : PySem.W.codeIn K cd_choices "choices" = true)
    (k_choices : PySem.W.keepIn K (.ref f_choices) = true)
    (l_written : K.lookup f_written = some ⟨oc_written, od_written, .func (PySem.W.fnOf "written" "written" (defArgs s_written) (defBody s_written) (defScope s_written) .none kV_written dc_written pm_written an_written cd_written ct_written), sl_written⟩)
    (c_written : PySem.W.codeIn K cd_written "written" = true)
    (k_written : PySem.W.keepIn K (.ref f_written) = true)
    (l_move_written : K.lookup f_move_written = some ⟨oc_move_written, od_move_written, .func (PySem.W.fnOf "move_written" "move_written" (defArgs s_move_written) (defBody s_move_written) (defScope s_move_written) .none kV_move_written dc_move_written pm_move_written an_move_written cd_move_written ct_move_written), sl_move_written⟩)
    (c_move_written : PySem.W.codeIn K cd_move_written "move_written" = true)
    (k_move_written : PySem.W.keepIn K (.ref f_move_written) = true)
    (l_brought : K.lookup f_brought = some ⟨oc_brought, od_brought, .func (PySem.W.fnOf "brought" "brought" (defArgs s_brought) (defBody s_brought) (defScope s_brought) .none kV_brought dc_brought pm_brought an_brought cd_brought ct_brought), sl_brought⟩)
    (c_brought : PySem.W.codeIn K cd_brought "brought" = true)
    (k_brought : PySem.W.keepIn K (.ref f_brought) = true)
    (l_mixed : K.lookup f_mixed = some ⟨oc_mixed, od_mixed, .func (PySem.W.fnOf "mixed" "mixed" (defArgs s_mixed) (defBody s_mixed) (defScope s_mixed) .none kV_mixed dc_mixed pm_mixed an_mixed cd_mixed ct_mixed), sl_mixed⟩)
    (c_mixed : PySem.W.codeIn K cd_mixed "mixed" = true)
    (k_mixed : PySem.W.keepIn K (.ref f_mixed) = true)
    (l__law_cell_at : K.lookup f__law_cell_at = some ⟨oc__law_cell_at, od__law_cell_at, .func (PySem.W.fnOf "_law_cell_at" "_law_cell_at" (defArgs s__law_cell_at) (defBody s__law_cell_at) (defScope s__law_cell_at) .none kV__law_cell_at dc__law_cell_at pm__law_cell_at an__law_cell_at cd__law_cell_at ct__law_cell_at), sl__law_cell_at⟩)
    (c__law_cell_at : PySem.W.codeIn K cd__law_cell_at "_law_cell_at" = true)
    (k__law_cell_at : PySem.W.keepIn K (.ref f__law_cell_at) = true)
    (l__law_kinds : K.lookup f__law_kinds = some ⟨oc__law_kinds, od__law_kinds, .func (PySem.W.fnOf "_law_kinds" "_law_kinds" (defArgs s__law_kinds) (defBody s__law_kinds) (defScope s__law_kinds) .none kV__law_kinds dc__law_kinds pm__law_kinds an__law_kinds cd__law_kinds ct__law_kinds), sl__law_kinds⟩)
    (c__law_kinds : PySem.W.codeIn K cd__law_kinds "_law_kinds" = true)
    (k__law_kinds : PySem.W.keepIn K (.ref f__law_kinds) = true)
    (l__law_told : K.lookup f__law_told = some ⟨oc__law_told, od__law_told, .func (PySem.W.fnOf "_law_told" "_law_told" (defArgs s__law_told) (defBody s__law_told) (defScope s__law_told) .none kV__law_told dc__law_told pm__law_told an__law_told cd__law_told ct__law_told), sl__law_told⟩)
    (c__law_told : PySem.W.codeIn K cd__law_told "_law_told" = true)
    (k__law_told : PySem.W.keepIn K (.ref f__law_told) = true)
    (l__law_orders : K.lookup f__law_orders = some ⟨oc__law_orders, od__law_orders, .func (PySem.W.fnOf "_law_orders" "_law_orders" (defArgs s__law_orders) (defBody s__law_orders) (defScope s__law_orders) .none kV__law_orders dc__law_orders pm__law_orders an__law_orders cd__law_orders ct__law_orders), sl__law_orders⟩)
    (c__law_orders : PySem.W.codeIn K cd__law_orders "_law_orders" = true)
    (k__law_orders : PySem.W.keepIn K (.ref f__law_orders) = true)
    (l__law_with_order : K.lookup f__law_with_order = some ⟨oc__law_with_order, od__law_with_order, .func (PySem.W.fnOf "_law_with_order" "_law_with_order" (defArgs s__law_with_order) (defBody s__law_with_order) (defScope s__law_with_order) .none kV__law_with_order dc__law_with_order pm__law_with_order an__law_with_order cd__law_with_order ct__law_with_order), sl__law_with_order⟩)
    (c__law_with_order : PySem.W.codeIn K cd__law_with_order "_law_with_order" = true)
    (k__law_with_order : PySem.W.keepIn K (.ref f__law_with_order) = true)
    (l__law_made : K.lookup f__law_made = some ⟨oc__law_made, od__law_made, .func (PySem.W.fnOf "_law_made" "_law_made" (defArgs s__law_made) (defBody s__law_made) (defScope s__law_made) .none kV__law_made dc__law_made pm__law_made an__law_made cd__law_made ct__law_made), sl__law_made⟩)
    (c__law_made : PySem.W.codeIn K cd__law_made "_law_made" = true)
    (k__law_made : PySem.W.keepIn K (.ref f__law_made) = true)
    (l__law_with_move : K.lookup f__law_with_move = some ⟨oc__law_with_move, od__law_with_move, .func (PySem.W.fnOf "_law_with_move" "_law_with_move" (defArgs s__law_with_move) (defBody s__law_with_move) (defScope s__law_with_move) .none kV__law_with_move dc__law_with_move pm__law_with_move an__law_with_move cd__law_with_move ct__law_with_move), sl__law_with_move⟩)
    (c__law_with_move : PySem.W.codeIn K cd__law_with_move "_law_with_move" = true)
    (k__law_with_move : PySem.W.keepIn K (.ref f__law_with_move) = true)
    (l__law_unfit : K.lookup f__law_unfit = some ⟨oc__law_unfit, od__law_unfit, .func (PySem.W.fnOf "_law_unfit" "_law_unfit" (defArgs s__law_unfit) (defBody s__law_unfit) (defScope s__law_unfit) .none kV__law_unfit dc__law_unfit pm__law_unfit an__law_unfit cd__law_unfit ct__law_unfit), sl__law_unfit⟩)
    (c__law_unfit : PySem.W.codeIn K cd__law_unfit "_law_unfit" = true)
    (k__law_unfit : PySem.W.keepIn K (.ref f__law_unfit) = true)
    (l__law_with_number : K.lookup f__law_with_number = some ⟨oc__law_with_number, od__law_with_number, .func (PySem.W.fnOf "_law_with_number" "_law_with_number" (defArgs s__law_with_number) (defBody s__law_with_number) (defScope s__law_with_number) .none kV__law_with_number dc__law_with_number pm__law_with_number an__law_with_number cd__law_with_number ct__law_with_number), sl__law_with_number⟩)
    (c__law_with_number : PySem.W.codeIn K cd__law_with_number "_law_with_number" = true)
    (k__law_with_number : PySem.W.keepIn K (.ref f__law_with_number) = true)
    (l__law_all : K.lookup f__law_all = some ⟨oc__law_all, od__law_all, .func (PySem.W.fnOf "_law_all" "_law_all" (defArgs s__law_all) (defBody s__law_all) (defScope s__law_all) .none kV__law_all dc__law_all pm__law_all an__law_all cd__law_all ct__law_all), sl__law_all⟩)
    (c__law_all : PySem.W.codeIn K cd__law_all "_law_all" = true)
    (k__law_all : PySem.W.keepIn K (.ref f__law_all) = true)
    (l_law : K.lookup f_law = some ⟨oc_law, od_law, .func (PySem.W.fnOf "law" "law" (defArgs s_law) (defBody s_law) (defScope s_law) .none kV_law dc_law pm_law an_law cd_law ct_law), sl_law⟩)
    (c_law : PySem.W.codeIn K cd_law "law" = true)
    (k_law : PySem.W.keepIn K (.ref f_law) = true)
    (l_Cut___init__ : K.lookup f_Cut___init__ = some ⟨oc_Cut___init__, od_Cut___init__, .func (PySem.W.fnOf "__init__" "Cut.__init__" (defArgs s_Cut___init__) (defBody s_Cut___init__) (defScope s_Cut___init__) .none kV_Cut___init__ dc_Cut___init__ pm_Cut___init__ an_Cut___init__ cd_Cut___init__ ct_Cut___init__), sl_Cut___init__⟩)
    (c_Cut___init__ : PySem.W.codeIn K cd_Cut___init__ "Cut.__init__" = true)
    (k_Cut___init__ : PySem.W.keepIn K (.ref f_Cut___init__) = true)
    (l_Turn___init__ : K.lookup f_Turn___init__ = some ⟨oc_Turn___init__, od_Turn___init__, .func (PySem.W.fnOf "__init__" "Turn.__init__" (defArgs s_Turn___init__) (defBody s_Turn___init__) (defScope s_Turn___init__) .none kV_Turn___init__ dc_Turn___init__ pm_Turn___init__ an_Turn___init__ cd_Turn___init__ ct_Turn___init__), sl_Turn___init__⟩)
    (c_Turn___init__ : PySem.W.codeIn K cd_Turn___init__ "Turn.__init__" = true)
    (k_Turn___init__ : PySem.W.keepIn K (.ref f_Turn___init__) = true)
    (l_Deal___init__ : K.lookup f_Deal___init__ = some ⟨oc_Deal___init__, od_Deal___init__, .func (PySem.W.fnOf "__init__" "Deal.__init__" (defArgs s_Deal___init__) (defBody s_Deal___init__) (defScope s_Deal___init__) .none kV_Deal___init__ dc_Deal___init__ pm_Deal___init__ an_Deal___init__ cd_Deal___init__ ct_Deal___init__), sl_Deal___init__⟩)
    (c_Deal___init__ : PySem.W.codeIn K cd_Deal___init__ "Deal.__init__" = true)
    (k_Deal___init__ : PySem.W.keepIn K (.ref f_Deal___init__) = true)
    (l_Under___init__ : K.lookup f_Under___init__ = some ⟨oc_Under___init__, od_Under___init__, .func (PySem.W.fnOf "__init__" "Under.__init__" (defArgs s_Under___init__) (defBody s_Under___init__) (defScope s_Under___init__) .none kV_Under___init__ dc_Under___init__ pm_Under___init__ an_Under___init__ cd_Under___init__ ct_Under___init__), sl_Under___init__⟩)
    (c_Under___init__ : PySem.W.codeIn K cd_Under___init__ "Under.__init__" = true)
    (k_Under___init__ : PySem.W.keepIn K (.ref f_Under___init__) = true)
    (l_Weave___init__ : K.lookup f_Weave___init__ = some ⟨oc_Weave___init__, od_Weave___init__, .func (PySem.W.fnOf "__init__" "Weave.__init__" (defArgs s_Weave___init__) (defBody s_Weave___init__) (defScope s_Weave___init__) .none kV_Weave___init__ dc_Weave___init__ pm_Weave___init__ an_Weave___init__ cd_Weave___init__ ct_Weave___init__), sl_Weave___init__⟩)
    (c_Weave___init__ : PySem.W.codeIn K cd_Weave___init__ "Weave.__init__" = true)
    (k_Weave___init__ : PySem.W.keepIn K (.ref f_Weave___init__) = true)
    (l_Riffle___init__ : K.lookup f_Riffle___init__ = some ⟨oc_Riffle___init__, od_Riffle___init__, .func (PySem.W.fnOf "__init__" "Riffle.__init__" (defArgs s_Riffle___init__) (defBody s_Riffle___init__) (defScope s_Riffle___init__) .none kV_Riffle___init__ dc_Riffle___init__ pm_Riffle___init__ an_Riffle___init__ cd_Riffle___init__ ct_Riffle___init__), sl_Riffle___init__⟩)
    (c_Riffle___init__ : PySem.W.codeIn K cd_Riffle___init__ "Riffle.__init__" = true)
    (k_Riffle___init__ : PySem.W.keepIn K (.ref f_Riffle___init__) = true)
    (l_Mixed___init__ : K.lookup f_Mixed___init__ = some ⟨oc_Mixed___init__, od_Mixed___init__, .func (PySem.W.fnOf "__init__" "Mixed.__init__" (defArgs s_Mixed___init__) (defBody s_Mixed___init__) (defScope s_Mixed___init__) .none kV_Mixed___init__ dc_Mixed___init__ pm_Mixed___init__ an_Mixed___init__ cd_Mixed___init__ ct_Mixed___init__), sl_Mixed___init__⟩)
    (c_Mixed___init__ : PySem.W.codeIn K cd_Mixed___init__ "Mixed.__init__" = true)
    (k_Mixed___init__ : PySem.W.keepIn K (.ref f_Mixed___init__) = true)
    (l_Fault___init__ : K.lookup f_Fault___init__ = some ⟨oc_Fault___init__, od_Fault___init__, .func (PySem.W.fnOf "__init__" "Fault.__init__" (defArgs s_Fault___init__) (defBody s_Fault___init__) (defScope s_Fault___init__) .none kV_Fault___init__ dc_Fault___init__ pm_Fault___init__ an_Fault___init__ cd_Fault___init__ ct_Fault___init__), sl_Fault___init__⟩)
    (c_Fault___init__ : PySem.W.codeIn K cd_Fault___init__ "Fault.__init__" = true)
    (k_Fault___init__ : PySem.W.keepIn K (.ref f_Fault___init__) = true)
    (l_Cut_sources : K.lookup f_Cut_sources = some ⟨oc_Cut_sources, od_Cut_sources, .func (PySem.W.fnOf "sources" "Cut.sources" (defArgs s_Cut_sources) (defBody s_Cut_sources) (defScope s_Cut_sources) .none kV_Cut_sources dc_Cut_sources pm_Cut_sources an_Cut_sources cd_Cut_sources ct_Cut_sources), sl_Cut_sources⟩)
    (c_Cut_sources : PySem.W.codeIn K cd_Cut_sources "Cut.sources" = true)
    (k_Cut_sources : PySem.W.keepIn K (.ref f_Cut_sources) = true)
    (l_Turn_sources : K.lookup f_Turn_sources = some ⟨oc_Turn_sources, od_Turn_sources, .func (PySem.W.fnOf "sources" "Turn.sources" (defArgs s_Turn_sources) (defBody s_Turn_sources) (defScope s_Turn_sources) .none kV_Turn_sources dc_Turn_sources pm_Turn_sources an_Turn_sources cd_Turn_sources ct_Turn_sources), sl_Turn_sources⟩)
    (c_Turn_sources : PySem.W.codeIn K cd_Turn_sources "Turn.sources" = true)
    (k_Turn_sources : PySem.W.keepIn K (.ref f_Turn_sources) = true)
    (l_Deal_sources : K.lookup f_Deal_sources = some ⟨oc_Deal_sources, od_Deal_sources, .func (PySem.W.fnOf "sources" "Deal.sources" (defArgs s_Deal_sources) (defBody s_Deal_sources) (defScope s_Deal_sources) .none kV_Deal_sources dc_Deal_sources pm_Deal_sources an_Deal_sources cd_Deal_sources ct_Deal_sources), sl_Deal_sources⟩)
    (c_Deal_sources : PySem.W.codeIn K cd_Deal_sources "Deal.sources" = true)
    (k_Deal_sources : PySem.W.keepIn K (.ref f_Deal_sources) = true)
    (l_Under_sources : K.lookup f_Under_sources = some ⟨oc_Under_sources, od_Under_sources, .func (PySem.W.fnOf "sources" "Under.sources" (defArgs s_Under_sources) (defBody s_Under_sources) (defScope s_Under_sources) .none kV_Under_sources dc_Under_sources pm_Under_sources an_Under_sources cd_Under_sources ct_Under_sources), sl_Under_sources⟩)
    (c_Under_sources : PySem.W.codeIn K cd_Under_sources "Under.sources" = true)
    (k_Under_sources : PySem.W.keepIn K (.ref f_Under_sources) = true)
    (l_Weave_sources : K.lookup f_Weave_sources = some ⟨oc_Weave_sources, od_Weave_sources, .func (PySem.W.fnOf "sources" "Weave.sources" (defArgs s_Weave_sources) (defBody s_Weave_sources) (defScope s_Weave_sources) .none kV_Weave_sources dc_Weave_sources pm_Weave_sources an_Weave_sources cd_Weave_sources ct_Weave_sources), sl_Weave_sources⟩)
    (c_Weave_sources : PySem.W.codeIn K cd_Weave_sources "Weave.sources" = true)
    (k_Weave_sources : PySem.W.keepIn K (.ref f_Weave_sources) = true)
    (l_Riffle_sources : K.lookup f_Riffle_sources = some ⟨oc_Riffle_sources, od_Riffle_sources, .func (PySem.W.fnOf "sources" "Riffle.sources" (defArgs s_Riffle_sources) (defBody s_Riffle_sources) (defScope s_Riffle_sources) .none kV_Riffle_sources dc_Riffle_sources pm_Riffle_sources an_Riffle_sources cd_Riffle_sources ct_Riffle_sources), sl_Riffle_sources⟩)
    (c_Riffle_sources : PySem.W.codeIn K cd_Riffle_sources "Riffle.sources" = true)
    (k_Riffle_sources : PySem.W.keepIn K (.ref f_Riffle_sources) = true)
    (l_Move_done : K.lookup f_Move_done = some ⟨oc_Move_done, od_Move_done, .func (PySem.W.fnOf "done" "Move.done" (defArgs s_Move_done) (defBody s_Move_done) (defScope s_Move_done) .none kV_Move_done dc_Move_done pm_Move_done an_Move_done cd_Move_done ct_Move_done), sl_Move_done⟩)
    (c_Move_done : PySem.W.codeIn K cd_Move_done "Move.done" = true)
    (k_Move_done : PySem.W.keepIn K (.ref f_Move_done) = true)
    (l_Move_undone : K.lookup f_Move_undone = some ⟨oc_Move_undone, od_Move_undone, .func (PySem.W.fnOf "undone" "Move.undone" (defArgs s_Move_undone) (defBody s_Move_undone) (defScope s_Move_undone) .none kV_Move_undone dc_Move_undone pm_Move_undone an_Move_undone cd_Move_undone ct_Move_undone), sl_Move_undone⟩)
    (c_Move_undone : PySem.W.codeIn K cd_Move_undone "Move.undone" = true)
    (k_Move_undone : PySem.W.keepIn K (.ref f_Move_undone) = true)
    (pg_Cut : PySem.W.plainGet K C_Cut Str.empty = true)
    (hd_Cut : PySem.W.hasDictIn K C_Cut = true)
    (po_Cut : PySem.W.plainOver K C_Cut = true)
    (sa_Cut : PySem.W.findIn K (.ref C_Cut) "__setattr__" = some (some (.builtin "object.__setattr__")))
    (mk_Cut : PySem.W.makesIn K C_Cut = true)
    (kc_Cut : PySem.W.keepIn K (.ref C_Cut) = true)
    (yc_Cut : PySem.W.findIn K (.ref C_Cut) "__class__" = some (some (.builtin "object.__class__")))
    (ym_Cut : PySem.W.mroIn K C_Cut (.type "object") = some true)
    (yv_Cut : PySem.W.kitOne K (.ref C_Cut) (.ref C_Move) = some true)
    (y_Cut_Cut : PySem.W.kitOne K (.ref C_Cut) (.ref C_Cut) = some true)
    (y_Cut_Turn : PySem.W.kitOne K (.ref C_Cut) (.ref C_Turn) = some false)
    (y_Cut_Deal : PySem.W.kitOne K (.ref C_Cut) (.ref C_Deal) = some false)
    (y_Cut_Under : PySem.W.kitOne K (.ref C_Cut) (.ref C_Under) = some false)
    (y_Cut_Weave : PySem.W.kitOne K (.ref C_Cut) (.ref C_Weave) = some false)
    (y_Cut_Riffle : PySem.W.kitOne K (.ref C_Cut) (.ref C_Riffle) = some false)
    (pg_Turn : PySem.W.plainGet K C_Turn Str.empty = true)
    (hd_Turn : PySem.W.hasDictIn K C_Turn = true)
    (po_Turn : PySem.W.plainOver K C_Turn = true)
    (sa_Turn : PySem.W.findIn K (.ref C_Turn) "__setattr__" = some (some (.builtin "object.__setattr__")))
    (mk_Turn : PySem.W.makesIn K C_Turn = true)
    (kc_Turn : PySem.W.keepIn K (.ref C_Turn) = true)
    (yc_Turn : PySem.W.findIn K (.ref C_Turn) "__class__" = some (some (.builtin "object.__class__")))
    (ym_Turn : PySem.W.mroIn K C_Turn (.type "object") = some true)
    (yv_Turn : PySem.W.kitOne K (.ref C_Turn) (.ref C_Move) = some true)
    (y_Turn_Cut : PySem.W.kitOne K (.ref C_Turn) (.ref C_Cut) = some false)
    (y_Turn_Turn : PySem.W.kitOne K (.ref C_Turn) (.ref C_Turn) = some true)
    (y_Turn_Deal : PySem.W.kitOne K (.ref C_Turn) (.ref C_Deal) = some false)
    (y_Turn_Under : PySem.W.kitOne K (.ref C_Turn) (.ref C_Under) = some false)
    (y_Turn_Weave : PySem.W.kitOne K (.ref C_Turn) (.ref C_Weave) = some false)
    (y_Turn_Riffle : PySem.W.kitOne K (.ref C_Turn) (.ref C_Riffle) = some false)
    (pg_Deal : PySem.W.plainGet K C_Deal Str.empty = true)
    (hd_Deal : PySem.W.hasDictIn K C_Deal = true)
    (po_Deal : PySem.W.plainOver K C_Deal = true)
    (sa_Deal : PySem.W.findIn K (.ref C_Deal) "__setattr__" = some (some (.builtin "object.__setattr__")))
    (mk_Deal : PySem.W.makesIn K C_Deal = true)
    (kc_Deal : PySem.W.keepIn K (.ref C_Deal) = true)
    (yc_Deal : PySem.W.findIn K (.ref C_Deal) "__class__" = some (some (.builtin "object.__class__")))
    (ym_Deal : PySem.W.mroIn K C_Deal (.type "object") = some true)
    (yv_Deal : PySem.W.kitOne K (.ref C_Deal) (.ref C_Move) = some true)
    (y_Deal_Cut : PySem.W.kitOne K (.ref C_Deal) (.ref C_Cut) = some false)
    (y_Deal_Turn : PySem.W.kitOne K (.ref C_Deal) (.ref C_Turn) = some false)
    (y_Deal_Deal : PySem.W.kitOne K (.ref C_Deal) (.ref C_Deal) = some true)
    (y_Deal_Under : PySem.W.kitOne K (.ref C_Deal) (.ref C_Under) = some false)
    (y_Deal_Weave : PySem.W.kitOne K (.ref C_Deal) (.ref C_Weave) = some false)
    (y_Deal_Riffle : PySem.W.kitOne K (.ref C_Deal) (.ref C_Riffle) = some false)
    (pg_Under : PySem.W.plainGet K C_Under Str.empty = true)
    (hd_Under : PySem.W.hasDictIn K C_Under = true)
    (po_Under : PySem.W.plainOver K C_Under = true)
    (sa_Under : PySem.W.findIn K (.ref C_Under) "__setattr__" = some (some (.builtin "object.__setattr__")))
    (mk_Under : PySem.W.makesIn K C_Under = true)
    (kc_Under : PySem.W.keepIn K (.ref C_Under) = true)
    (yc_Under : PySem.W.findIn K (.ref C_Under) "__class__" = some (some (.builtin "object.__class__")))
    (ym_Under : PySem.W.mroIn K C_Under (.type "object") = some true)
    (yv_Under : PySem.W.kitOne K (.ref C_Under) (.ref C_Move) = some true)
    (y_Under_Cut : PySem.W.kitOne K (.ref C_Under) (.ref C_Cut) = some false)
    (y_Under_Turn : PySem.W.kitOne K (.ref C_Under) (.ref C_Turn) = some false)
    (y_Under_Deal : PySem.W.kitOne K (.ref C_Under) (.ref C_Deal) = some false)
    (y_Under_Under : PySem.W.kitOne K (.ref C_Under) (.ref C_Under) = some true)
    (y_Under_Weave : PySem.W.kitOne K (.ref C_Under) (.ref C_Weave) = some false)
    (y_Under_Riffle : PySem.W.kitOne K (.ref C_Under) (.ref C_Riffle) = some false)
    (pg_Weave : PySem.W.plainGet K C_Weave Str.empty = true)
    (hd_Weave : PySem.W.hasDictIn K C_Weave = true)
    (po_Weave : PySem.W.plainOver K C_Weave = true)
    (sa_Weave : PySem.W.findIn K (.ref C_Weave) "__setattr__" = some (some (.builtin "object.__setattr__")))
    (mk_Weave : PySem.W.makesIn K C_Weave = true)
    (kc_Weave : PySem.W.keepIn K (.ref C_Weave) = true)
    (yc_Weave : PySem.W.findIn K (.ref C_Weave) "__class__" = some (some (.builtin "object.__class__")))
    (ym_Weave : PySem.W.mroIn K C_Weave (.type "object") = some true)
    (yv_Weave : PySem.W.kitOne K (.ref C_Weave) (.ref C_Move) = some true)
    (y_Weave_Cut : PySem.W.kitOne K (.ref C_Weave) (.ref C_Cut) = some false)
    (y_Weave_Turn : PySem.W.kitOne K (.ref C_Weave) (.ref C_Turn) = some false)
    (y_Weave_Deal : PySem.W.kitOne K (.ref C_Weave) (.ref C_Deal) = some false)
    (y_Weave_Under : PySem.W.kitOne K (.ref C_Weave) (.ref C_Under) = some false)
    (y_Weave_Weave : PySem.W.kitOne K (.ref C_Weave) (.ref C_Weave) = some true)
    (y_Weave_Riffle : PySem.W.kitOne K (.ref C_Weave) (.ref C_Riffle) = some false)
    (pg_Riffle : PySem.W.plainGet K C_Riffle Str.empty = true)
    (hd_Riffle : PySem.W.hasDictIn K C_Riffle = true)
    (po_Riffle : PySem.W.plainOver K C_Riffle = true)
    (sa_Riffle : PySem.W.findIn K (.ref C_Riffle) "__setattr__" = some (some (.builtin "object.__setattr__")))
    (mk_Riffle : PySem.W.makesIn K C_Riffle = true)
    (kc_Riffle : PySem.W.keepIn K (.ref C_Riffle) = true)
    (yc_Riffle : PySem.W.findIn K (.ref C_Riffle) "__class__" = some (some (.builtin "object.__class__")))
    (ym_Riffle : PySem.W.mroIn K C_Riffle (.type "object") = some true)
    (yv_Riffle : PySem.W.kitOne K (.ref C_Riffle) (.ref C_Move) = some true)
    (y_Riffle_Cut : PySem.W.kitOne K (.ref C_Riffle) (.ref C_Cut) = some false)
    (y_Riffle_Turn : PySem.W.kitOne K (.ref C_Riffle) (.ref C_Turn) = some false)
    (y_Riffle_Deal : PySem.W.kitOne K (.ref C_Riffle) (.ref C_Deal) = some false)
    (y_Riffle_Under : PySem.W.kitOne K (.ref C_Riffle) (.ref C_Under) = some false)
    (y_Riffle_Weave : PySem.W.kitOne K (.ref C_Riffle) (.ref C_Weave) = some false)
    (y_Riffle_Riffle : PySem.W.kitOne K (.ref C_Riffle) (.ref C_Riffle) = some true)
    (pg_Mixed : PySem.W.plainGet K C_Mixed Str.empty = true)
    (hd_Mixed : PySem.W.hasDictIn K C_Mixed = true)
    (po_Mixed : PySem.W.plainOver K C_Mixed = true)
    (sa_Mixed : PySem.W.findIn K (.ref C_Mixed) "__setattr__" = some (some (.builtin "object.__setattr__")))
    (mk_Mixed : PySem.W.makesIn K C_Mixed = true)
    (kc_Mixed : PySem.W.keepIn K (.ref C_Mixed) = true)
    (yc_Mixed : PySem.W.findIn K (.ref C_Mixed) "__class__" = some (some (.builtin "object.__class__")))
    (ym_Mixed : PySem.W.mroIn K C_Mixed (.type "object") = some true)
    (yv_Mixed : PySem.W.kitOne K (.ref C_Mixed) (.ref C_Answer) = some true)
    (y_Mixed_Mixed : PySem.W.kitOne K (.ref C_Mixed) (.ref C_Mixed) = some true)
    (y_Mixed_Fault : PySem.W.kitOne K (.ref C_Mixed) (.ref C_Fault) = some false)
    (pg_Fault : PySem.W.plainGet K C_Fault Str.empty = true)
    (hd_Fault : PySem.W.hasDictIn K C_Fault = true)
    (po_Fault : PySem.W.plainOver K C_Fault = true)
    (sa_Fault : PySem.W.findIn K (.ref C_Fault) "__setattr__" = some (some (.builtin "object.__setattr__")))
    (mk_Fault : PySem.W.makesIn K C_Fault = true)
    (kc_Fault : PySem.W.keepIn K (.ref C_Fault) = true)
    (yc_Fault : PySem.W.findIn K (.ref C_Fault) "__class__" = some (some (.builtin "object.__class__")))
    (ym_Fault : PySem.W.mroIn K C_Fault (.type "object") = some true)
    (yv_Fault : PySem.W.kitOne K (.ref C_Fault) (.ref C_Answer) = some true)
    (y_Fault_Mixed : PySem.W.kitOne K (.ref C_Fault) (.ref C_Mixed) = some false)
    (y_Fault_Fault : PySem.W.kitOne K (.ref C_Fault) (.ref C_Fault) = some true)
    (yg : PySem.W.specialIn K (.builtin "object.__class__") "__get__" = some (some (.builtin "getset_descriptor.__get__")))
    (yt : PySem.W.takesIn K (.builtin "object.__class__") = some true)
    (na_many : PySem.W.findIn K (.ref C_Cut) "many" = some none)
    (na_piles : PySem.W.findIn K (.ref C_Deal) "piles" = some none)
    (na_first : PySem.W.findIn K (.ref C_Weave) "first" = some none)
    (na_word : PySem.W.findIn K (.ref C_Riffle) "word" = some none)
    (na_Mixed_many : PySem.W.findIn K (.ref C_Mixed) "many" = some none)
    (na_Fault_many : PySem.W.findIn K (.ref C_Fault) "many" = some none)
    (na_Mixed_word : PySem.W.findIn K (.ref C_Mixed) "word" = some none)
    (no_isinstance : PySem.W.nsIn K mainGlobals "isinstance" = some none)
    (no_bool : PySem.W.nsIn K mainGlobals "bool" = some none)
    (no_int : PySem.W.nsIn K mainGlobals "int" = some none)
    (no_list : PySem.W.nsIn K mainGlobals "list" = some none)
    (no_str : PySem.W.nsIn K mainGlobals "str" = some none)
    (no_len : PySem.W.nsIn K mainGlobals "len" = some none)
    (no_all : PySem.W.nsIn K mainGlobals "all" = some none)
    (no_any : PySem.W.nsIn K mainGlobals "any" = some none)
    (no_min : PySem.W.nsIn K mainGlobals "min" = some none)
    (no_max : PySem.W.nsIn K mainGlobals "max" = some none)
    (no_sum : PySem.W.nsIn K mainGlobals "sum" = some none)
    (no_range : PySem.W.nsIn K mainGlobals "range" = some none)
    (no_set : PySem.W.nsIn K mainGlobals "set" = some none)
    (no_reversed : PySem.W.nsIn K mainGlobals "reversed" = some none)
    (no_enumerate : PySem.W.nsIn K mainGlobals "enumerate" = some none)
    (A_PackError : PySem.W.nsIn K mainGlobals "PackError" = some (some (.ref C_PackError)))
    (A_BadOrder : PySem.W.nsIn K mainGlobals "BadOrder" = some (some (.ref C_BadOrder)))
    (A_BadMove : PySem.W.nsIn K mainGlobals "BadMove" = some (some (.ref C_BadMove)))
    (A_BadNumber : PySem.W.nsIn K mainGlobals "BadNumber" = some (some (.ref C_BadNumber)))
    (A_BadText : PySem.W.nsIn K mainGlobals "BadText" = some (some (.ref C_BadText)))
    (no_ValueError : PySem.W.nsIn K mainGlobals "ValueError" = some none)
    (xe_PackError : PySem.W.excIn K C_PackError [.type "ValueError", .type "Exception", .type "BaseException", .type "object"] "ValueError.__new__" = true)
    (xg_PackError : PySem.W.findIn K (.ref C_PackError) "__getattribute__" = some (some (.builtin "BaseException.__getattribute__")))
    (xt_PackError : PySem.W.findIn K (.ref C_PackError) "__getattr__" = some none)
    (xc_PackError : PySem.W.findIn K (.ref C_PackError) "__class__" = some (some (.builtin "object.__class__")))
    (xb_PackError : PySem.W.mroIn K C_PackError (.type "BaseException") = some true)
    (xo_PackError : PySem.W.mroIn K C_PackError (.type "object") = some true)
    (xy_PackError : PySem.W.typeIn K (.ref C_PackError) = some (.type "type"))
    (xe_BadOrder : PySem.W.excIn K C_BadOrder [.type "ValueError", .type "Exception", .type "BaseException", .type "object"] "ValueError.__new__" = true)
    (xg_BadOrder : PySem.W.findIn K (.ref C_BadOrder) "__getattribute__" = some (some (.builtin "BaseException.__getattribute__")))
    (xt_BadOrder : PySem.W.findIn K (.ref C_BadOrder) "__getattr__" = some none)
    (xc_BadOrder : PySem.W.findIn K (.ref C_BadOrder) "__class__" = some (some (.builtin "object.__class__")))
    (xb_BadOrder : PySem.W.mroIn K C_BadOrder (.type "BaseException") = some true)
    (xo_BadOrder : PySem.W.mroIn K C_BadOrder (.type "object") = some true)
    (xy_BadOrder : PySem.W.typeIn K (.ref C_BadOrder) = some (.type "type"))
    (xe_BadMove : PySem.W.excIn K C_BadMove [.type "ValueError", .type "Exception", .type "BaseException", .type "object"] "ValueError.__new__" = true)
    (xg_BadMove : PySem.W.findIn K (.ref C_BadMove) "__getattribute__" = some (some (.builtin "BaseException.__getattribute__")))
    (xt_BadMove : PySem.W.findIn K (.ref C_BadMove) "__getattr__" = some none)
    (xc_BadMove : PySem.W.findIn K (.ref C_BadMove) "__class__" = some (some (.builtin "object.__class__")))
    (xb_BadMove : PySem.W.mroIn K C_BadMove (.type "BaseException") = some true)
    (xo_BadMove : PySem.W.mroIn K C_BadMove (.type "object") = some true)
    (xy_BadMove : PySem.W.typeIn K (.ref C_BadMove) = some (.type "type"))
    (xe_BadNumber : PySem.W.excIn K C_BadNumber [.type "ValueError", .type "Exception", .type "BaseException", .type "object"] "ValueError.__new__" = true)
    (xg_BadNumber : PySem.W.findIn K (.ref C_BadNumber) "__getattribute__" = some (some (.builtin "BaseException.__getattribute__")))
    (xt_BadNumber : PySem.W.findIn K (.ref C_BadNumber) "__getattr__" = some none)
    (xc_BadNumber : PySem.W.findIn K (.ref C_BadNumber) "__class__" = some (some (.builtin "object.__class__")))
    (xb_BadNumber : PySem.W.mroIn K C_BadNumber (.type "BaseException") = some true)
    (xo_BadNumber : PySem.W.mroIn K C_BadNumber (.type "object") = some true)
    (xy_BadNumber : PySem.W.typeIn K (.ref C_BadNumber) = some (.type "type"))
    (xm_BadOrder_PackError : PySem.W.mroIn K C_BadOrder (.ref C_PackError) = some true)
    (xm_BadMove_PackError : PySem.W.mroIn K C_BadMove (.ref C_PackError) = some true)
    (xm_BadNumber_PackError : PySem.W.mroIn K C_BadNumber (.ref C_PackError) = some true)
    (xk_BadOrder_BadOrder : PySem.W.kitOne K (.ref C_BadOrder) (.ref C_BadOrder) = some true)
    (xk_BadOrder_BadMove : PySem.W.kitOne K (.ref C_BadOrder) (.ref C_BadMove) = some false)
    (xk_BadOrder_BadNumber : PySem.W.kitOne K (.ref C_BadOrder) (.ref C_BadNumber) = some false)
    (xk_BadOrder_BadText : PySem.W.kitOne K (.ref C_BadOrder) (.ref C_BadText) = some false)
    (xk_BadOrder_ValueError : PySem.W.kitOne K (.ref C_BadOrder) (.type "ValueError") = some true)
    (xk_BadMove_BadOrder : PySem.W.kitOne K (.ref C_BadMove) (.ref C_BadOrder) = some false)
    (xk_BadMove_BadMove : PySem.W.kitOne K (.ref C_BadMove) (.ref C_BadMove) = some true)
    (xk_BadMove_BadNumber : PySem.W.kitOne K (.ref C_BadMove) (.ref C_BadNumber) = some false)
    (xk_BadMove_BadText : PySem.W.kitOne K (.ref C_BadMove) (.ref C_BadText) = some false)
    (xk_BadMove_ValueError : PySem.W.kitOne K (.ref C_BadMove) (.type "ValueError") = some true)
    (xk_BadNumber_BadOrder : PySem.W.kitOne K (.ref C_BadNumber) (.ref C_BadOrder) = some false)
    (xk_BadNumber_BadMove : PySem.W.kitOne K (.ref C_BadNumber) (.ref C_BadMove) = some false)
    (xk_BadNumber_BadNumber : PySem.W.kitOne K (.ref C_BadNumber) (.ref C_BadNumber) = some true)
    (xk_BadNumber_BadText : PySem.W.kitOne K (.ref C_BadNumber) (.ref C_BadText) = some false)
    (xk_BadNumber_ValueError : PySem.W.kitOne K (.ref C_BadNumber) (.type "ValueError") = some true)
    (nm_non : PySem.W.kitOne K (.type "NoneType") (.ref C_Move) = some false)
    (nm_str : PySem.W.kitOne K (.type "str") (.ref C_Move) = some false)
    (nm_int : PySem.W.kitOne K (.type "int") (.ref C_Move) = some false)
    (nm_list : PySem.W.kitOne K (.type "list") (.ref C_Move) = some false)
    (nm_dict : PySem.W.kitOne K (.type "dict") (.ref C_Move) = some false)
    (cdL : cd_law = .ref c0)
    (tbL : K.lookup c0 = some ⟨.type "code", odT, .fields vsT, slT⟩)
    (tb11 : vsT[11]? = some (.ref T0))
    (tg11 : vsT.getD 11 .none = .ref T0)
    (tg18 : vsT.getD 18 .none = .str flT tfT)
    (tg7 : vsT.getD 7 .none = .int fgT tgT)
    (tg9 : vsT.getD 9 .none = .bool ibT)
    (tg10 : vsT.getD 10 .none = .int txT ttT)
    (tbNe : c0 ≠ T0)
    (MC : PySem.W.nsIn K mainGlobals "MOST_CARDS" = some (some (.int 60 tok60)))
    : mainGlobals ≠ T0 → ∃ (fd : FuncData) (c : Addr), PySem.W.CodeHd h c T0 ∧ (∀ (s : Shared) (v : Value), BindsTo s fd ⟨[v], []⟩ [("_law_script", v)]) ∧ ∀ base : Heap, K.In base → base.Ns mainGlobals mg → base.BuiltinsAt mg T0 → FnOk l.prog w K mg base CX0 10 fa fd ["_law_script"] (spLaw K T0) := by
  have e := hfa.symm.trans (PySem.W.mg_of X G a_law)
  cases e
  have T : Txt K mg ⟨C_Move, C_Cut, C_Turn, C_Deal, C_Under, C_Weave, C_Riffle, C_Answer, C_Mixed, C_Fault⟩ := { no_isinstance := PySem.W.mg_none_of X G no_isinstance, no_bool := PySem.W.mg_none_of X G no_bool, no_int := PySem.W.mg_none_of X G no_int, no_list := PySem.W.mg_none_of X G no_list, no_str := PySem.W.mg_none_of X G no_str, no_len := PySem.W.mg_none_of X G no_len, no_all := PySem.W.mg_none_of X G no_all, no_any := PySem.W.mg_none_of X G no_any, no_min := PySem.W.mg_none_of X G no_min, no_max := PySem.W.mg_none_of X G no_max, no_sum := PySem.W.mg_none_of X G no_sum, no_range := PySem.W.mg_none_of X G no_range, no_set := PySem.W.mg_none_of X G no_set, no_reversed := PySem.W.mg_none_of X G no_reversed, no_enumerate := PySem.W.mg_none_of X G no_enumerate, mg_MOST_CARDS := ⟨_, PySem.W.mg_of X G MC⟩, mg_Move := PySem.W.mg_of X G A_Move, mg_Cut := PySem.W.mg_of X G A_Cut, mg_Turn := PySem.W.mg_of X G A_Turn, mg_Deal := PySem.W.mg_of X G A_Deal, mg_Under := PySem.W.mg_of X G A_Under, mg_Weave := PySem.W.mg_of X G A_Weave, mg_Riffle := PySem.W.mg_of X G A_Riffle, cl := fun mv => (match mv with | .cut _ => ⟨pg_Cut, hd_Cut, po_Cut, sa_Cut⟩ | .turn => ⟨pg_Turn, hd_Turn, po_Turn, sa_Turn⟩ | .deal _ => ⟨pg_Deal, hd_Deal, po_Deal, sa_Deal⟩ | .under => ⟨pg_Under, hd_Under, po_Under, sa_Under⟩ | .weave _ => ⟨pg_Weave, hd_Weave, po_Weave, sa_Weave⟩ | .riffle _ => ⟨pg_Riffle, hd_Riffle, po_Riffle, sa_Riffle⟩), na_many := na_many, na_piles := na_piles, na_first := na_first, na_word := na_word, mg_Answer := PySem.W.mg_of X G A_Answer, mg_Mixed := PySem.W.mg_of X G A_Mixed, mg_Fault := PySem.W.mg_of X G A_Fault, cl_mix := ⟨pg_Mixed, hd_Mixed, po_Mixed, sa_Mixed⟩, cl_flt := ⟨pg_Fault, hd_Fault, po_Fault, sa_Fault⟩, na_Mixed_many := na_Mixed_many, na_Mixed_word := na_Mixed_word, na_Fault_many := na_Fault_many }
  have Y : TyTxt K ⟨C_Move, C_Cut, C_Turn, C_Deal, C_Under, C_Weave, C_Riffle, C_Answer, C_Mixed, C_Fault⟩ := ⟨(fun mv => match mv with | .cut _ => yc_Cut | .turn => yc_Turn | .deal _ => yc_Deal | .under => yc_Under | .weave _ => yc_Weave | .riffle _ => yc_Riffle), yg, yt, (fun mv => match mv with | .cut _ => ym_Cut | .turn => ym_Turn | .deal _ => ym_Deal | .under => ym_Under | .weave _ => ym_Weave | .riffle _ => ym_Riffle), (fun mv => match mv with | .cut _ => yv_Cut | .turn => yv_Turn | .deal _ => yv_Deal | .under => yv_Under | .weave _ => yv_Weave | .riffle _ => yv_Riffle), (fun mv i hi => match mv, i, hi with | .cut _, 0, _ => y_Cut_Cut | .cut _, 1, _ => y_Cut_Turn | .cut _, 2, _ => y_Cut_Deal | .cut _, 3, _ => y_Cut_Under | .cut _, 4, _ => y_Cut_Weave | .cut _, 5, _ => y_Cut_Riffle | .turn, 0, _ => y_Turn_Cut | .turn, 1, _ => y_Turn_Turn | .turn, 2, _ => y_Turn_Deal | .turn, 3, _ => y_Turn_Under | .turn, 4, _ => y_Turn_Weave | .turn, 5, _ => y_Turn_Riffle | .deal _, 0, _ => y_Deal_Cut | .deal _, 1, _ => y_Deal_Turn | .deal _, 2, _ => y_Deal_Deal | .deal _, 3, _ => y_Deal_Under | .deal _, 4, _ => y_Deal_Weave | .deal _, 5, _ => y_Deal_Riffle | .under, 0, _ => y_Under_Cut | .under, 1, _ => y_Under_Turn | .under, 2, _ => y_Under_Deal | .under, 3, _ => y_Under_Under | .under, 4, _ => y_Under_Weave | .under, 5, _ => y_Under_Riffle | .weave _, 0, _ => y_Weave_Cut | .weave _, 1, _ => y_Weave_Turn | .weave _, 2, _ => y_Weave_Deal | .weave _, 3, _ => y_Weave_Under | .weave _, 4, _ => y_Weave_Weave | .weave _, 5, _ => y_Weave_Riffle | .riffle _, 0, _ => y_Riffle_Cut | .riffle _, 1, _ => y_Riffle_Turn | .riffle _, 2, _ => y_Riffle_Deal | .riffle _, 3, _ => y_Riffle_Under | .riffle _, 4, _ => y_Riffle_Weave | .riffle _, 5, _ => y_Riffle_Riffle | _, n + 6, h => absurd h (by omega))⟩
  have F_is_number := fun_mk (st := s_is_number) l_is_number c_is_number k_is_number
  have b_is_number := F_is_number.binds (ps := ["value", "least", "most"]) fun _ _ _ _ _ _ us hl => match us, hl with | [_, _, _], _ => rfl
  have F_is_order := fun_mk (st := s_is_order) l_is_order c_is_order k_is_order
  have b_is_order := F_is_order.binds (ps := ["value"]) fun _ _ _ _ _ _ us hl => match us, hl with | [_], _ => rfl
  have F_check_order := fun_mk (st := s_check_order) l_check_order c_check_order k_check_order
  have b_check_order := F_check_order.binds (ps := ["value"]) fun _ _ _ _ _ _ us hl => match us, hl with | [_], _ => rfl
  have F_check_cards := fun_mk (st := s_check_cards) l_check_cards c_check_cards k_check_cards
  have b_check_cards := F_check_cards.binds (ps := ["value"]) fun _ _ _ _ _ _ us hl => match us, hl with | [_], _ => rfl
  have F_is_word := fun_mk (st := s_is_word) l_is_word c_is_word k_is_word
  have b_is_word := F_is_word.binds (ps := ["value"]) fun _ _ _ _ _ _ us hl => match us, hl with | [_], _ => rfl
  have F_riffle_sources := fun_mk (st := s_riffle_sources) l_riffle_sources c_riffle_sources k_riffle_sources
  have b_riffle_sources := F_riffle_sources.binds (ps := ["word"]) fun _ _ _ _ _ _ us hl => match us, hl with | [_], _ => rfl
  have F_check_move := fun_mk (st := s_check_move) l_check_move c_check_move k_check_move
  have b_check_move := F_check_move.binds (ps := ["value"]) fun _ _ _ _ _ _ us hl => match us, hl with | [_], _ => rfl
  have F_check_moves := fun_mk (st := s_check_moves) l_check_moves c_check_moves k_check_moves
  have b_check_moves := F_check_moves.binds (ps := ["value"]) fun _ _ _ _ _ _ us hl => match us, hl with | [_], _ => rfl
  have F_done_all := fun_mk (st := s_done_all) l_done_all c_done_all k_done_all
  have b_done_all := F_done_all.binds (ps := ["moves", "order"]) fun _ _ _ _ _ _ us hl => match us, hl with | [_, _], _ => rfl
  have F_rings := fun_mk (st := s_rings) l_rings c_rings k_rings
  have b_rings := F_rings.binds (ps := ["move", "many"]) fun _ _ _ _ _ _ us hl => match us, hl with | [_, _], _ => rfl
  have F_period := fun_mk (st := s_period) l_period c_period k_period
  have b_period := F_period.binds (ps := ["move", "many"]) fun _ _ _ _ _ _ us hl => match us, hl with | [_, _], _ => rfl
  have F_repeated := fun_mk (st := s_repeated) l_repeated c_repeated k_repeated
  have b_repeated := F_repeated.binds (ps := ["move", "order", "times"]) fun _ _ _ _ _ _ us hl => match us, hl with | [_, _, _], _ => rfl
  have F_targets := fun_mk (st := s_targets) l_targets c_targets k_targets
  have b_targets := F_targets.binds (ps := ["sources"]) fun _ _ _ _ _ _ us hl => match us, hl with | [_], _ => rfl
  have F_ring_from := fun_mk (st := s_ring_from) l_ring_from c_ring_from k_ring_from
  have b_ring_from := F_ring_from.binds (ps := ["goes_to", "start"]) fun _ _ _ _ _ _ us hl => match us, hl with | [_, _], _ => rfl
  have F_common_divisor := fun_mk (st := s_common_divisor) l_common_divisor c_common_divisor k_common_divisor
  have b_common_divisor := F_common_divisor.binds (ps := ["one", "other"]) fun _ _ _ _ _ _ us hl => match us, hl with | [_, _], _ => rfl
  have F_rows := fun_mk (st := s_rows) l_rows c_rows k_rows
  have b_rows := F_rows.binds (ps := ["order"]) fun _ _ _ _ _ _ us hl => match us, hl with | [_], _ => rfl
  have F_riffles_to := fun_mk (st := s_riffles_to) l_riffles_to c_riffles_to k_riffles_to
  have b_riffles_to := F_riffles_to.binds (ps := ["order"]) fun _ _ _ _ _ _ us hl => match us, hl with | [_], _ => rfl
  have F_ways := fun_mk (st := s_ways) l_ways c_ways k_ways
  have b_ways := F_ways.binds (ps := ["order", "many"]) fun _ _ _ _ _ _ us hl => match us, hl with | [_, _], _ => rfl
  have F_orders_with := fun_mk (st := s_orders_with) l_orders_with c_orders_with k_orders_with
  have b_orders_with := F_orders_with.binds (ps := ["cards", "many"]) fun _ _ _ _ _ _ us hl => match us, hl with | [_, _], _ => rfl
  have F_row_numbers := fun_mk (st := s_row_numbers) l_row_numbers c_row_numbers k_row_numbers
  have b_row_numbers := F_row_numbers.binds (ps := ["order"]) fun _ _ _ _ _ _ us hl => match us, hl with | [_], _ => rfl
  have F_choices := fun_mk (st := s_choices) l_choices c_choices k_choices
  have b_choices := F_choices.binds (ps := ["whole", "chosen"]) fun _ _ _ _ _ _ us hl => match us, hl with | [_, _], _ => rfl
  have F_written := fun_mk (st := s_written) l_written c_written k_written
  have b_written := F_written.binds (ps := ["moves"]) fun _ _ _ _ _ _ us hl => match us, hl with | [_], _ => rfl
  have F_move_written := fun_mk (st := s_move_written) l_move_written c_move_written k_move_written
  have b_move_written := F_move_written.binds (ps := ["move"]) fun _ _ _ _ _ _ us hl => match us, hl with | [_], _ => rfl
  have F_brought := fun_mk (st := s_brought) l_brought c_brought k_brought
  have b_brought := F_brought.binds (ps := ["cards", "place"]) fun _ _ _ _ _ _ us hl => match us, hl with | [_, _], _ => rfl
  have F_mixed := fun_mk (st := s_mixed) l_mixed c_mixed k_mixed
  have b_mixed := F_mixed.binds (ps := ["order"]) fun _ _ _ _ _ _ us hl => match us, hl with | [_], _ => rfl
  have F__law_cell_at := fun_mk (st := s__law_cell_at) l__law_cell_at c__law_cell_at k__law_cell_at
  have b__law_cell_at := F__law_cell_at.binds (ps := ["_law_script", "_law_k"]) fun _ _ _ _ _ _ us hl => match us, hl with | [_, _], _ => rfl
  have F__law_kinds := fun_mk (st := s__law_kinds) l__law_kinds c__law_kinds k__law_kinds
  have b__law_kinds := F__law_kinds.binds (ps := ["_law_error"]) fun _ _ _ _ _ _ us hl => match us, hl with | [_], _ => rfl
  have F__law_told := fun_mk (st := s__law_told) l__law_told c__law_told k__law_told
  have b__law_told := F__law_told.binds (ps := ["_law_ask", "_law_one", "_law_other"]) fun _ _ _ _ _ _ us hl => match us, hl with | [_, _, _], _ => rfl
  have F__law_orders := fun_mk (st := s__law_orders) l__law_orders c__law_orders k__law_orders
  have b__law_orders := F__law_orders.binds (ps := ["_law_far"]) fun _ _ _ _ _ _ us hl => match us, hl with | [_], _ => rfl
  have F__law_with_order := fun_mk (st := s__law_with_order) l__law_with_order c__law_with_order k__law_with_order
  have b__law_with_order := F__law_with_order.binds (ps := ["_law_door", "_law_order"]) fun _ _ _ _ _ _ us hl => match us, hl with | [_, _], _ => rfl
  have F__law_made := fun_mk (st := s__law_made) l__law_made c__law_made k__law_made
  have b__law_made := F__law_made.binds (ps := ["_law_door", "_law_bad"]) fun _ _ _ _ _ _ us hl => match us, hl with | [_, _], _ => rfl
  have F__law_with_move := fun_mk (st := s__law_with_move) l__law_with_move c__law_with_move k__law_with_move
  have b__law_with_move := F__law_with_move.binds (ps := ["_law_door", "_law_bad"]) fun _ _ _ _ _ _ us hl => match us, hl with | [_, _], _ => rfl
  have F__law_unfit := fun_mk (st := s__law_unfit) l__law_unfit c__law_unfit k__law_unfit
  have b__law_unfit := F__law_unfit.binds (ps := ["_law_door", "_law_way"]) fun _ _ _ _ _ _ us hl => match us, hl with | [_, _], _ => rfl
  have F__law_with_number := fun_mk (st := s__law_with_number) l__law_with_number c__law_with_number k__law_with_number
  have b__law_with_number := F__law_with_number.binds (ps := ["_law_door", "_law_bad"]) fun _ _ _ _ _ _ us hl => match us, hl with | [_, _], _ => rfl
  have F__law_all := fun_mk (st := s__law_all) l__law_all c__law_all k__law_all
  have b__law_all := F__law_all.binds (ps := ["_law_ask", "_law_doors", "_law_things", "_law_due"]) fun _ _ _ _ _ _ us hl => match us, hl with | [_, _, _, _], _ => rfl
  have F_law := fun_mk (st := s_law) l_law c_law k_law
  have b_law := F_law.binds (ps := ["_law_script"]) fun _ _ _ _ _ _ us hl => match us, hl with | [_], _ => rfl
  have F_Cut___init__ := fun_mk (st := s_Cut___init__) l_Cut___init__ c_Cut___init__ k_Cut___init__
  have b_Cut___init__ := F_Cut___init__.binds (ps := ["self", "many"]) fun _ _ _ _ _ _ us hl => match us, hl with | [_, _], _ => rfl
  have F_Turn___init__ := fun_mk (st := s_Turn___init__) l_Turn___init__ c_Turn___init__ k_Turn___init__
  have b_Turn___init__ := F_Turn___init__.binds (ps := ["self"]) fun _ _ _ _ _ _ us hl => match us, hl with | [_], _ => rfl
  have F_Deal___init__ := fun_mk (st := s_Deal___init__) l_Deal___init__ c_Deal___init__ k_Deal___init__
  have b_Deal___init__ := F_Deal___init__.binds (ps := ["self", "piles"]) fun _ _ _ _ _ _ us hl => match us, hl with | [_, _], _ => rfl
  have F_Under___init__ := fun_mk (st := s_Under___init__) l_Under___init__ c_Under___init__ k_Under___init__
  have b_Under___init__ := F_Under___init__.binds (ps := ["self"]) fun _ _ _ _ _ _ us hl => match us, hl with | [_], _ => rfl
  have F_Weave___init__ := fun_mk (st := s_Weave___init__) l_Weave___init__ c_Weave___init__ k_Weave___init__
  have b_Weave___init__ := F_Weave___init__.binds (ps := ["self", "first"]) fun _ _ _ _ _ _ us hl => match us, hl with | [_, _], _ => rfl
  have F_Riffle___init__ := fun_mk (st := s_Riffle___init__) l_Riffle___init__ c_Riffle___init__ k_Riffle___init__
  have b_Riffle___init__ := F_Riffle___init__.binds (ps := ["self", "word"]) fun _ _ _ _ _ _ us hl => match us, hl with | [_, _], _ => rfl
  have F_Mixed___init__ := fun_mk (st := s_Mixed___init__) l_Mixed___init__ c_Mixed___init__ k_Mixed___init__
  have b_Mixed___init__ := F_Mixed___init__.binds (ps := ["self", "many", "word"]) fun _ _ _ _ _ _ us hl => match us, hl with | [_, _, _], _ => rfl
  have F_Fault___init__ := fun_mk (st := s_Fault___init__) l_Fault___init__ c_Fault___init__ k_Fault___init__
  have b_Fault___init__ := F_Fault___init__.binds (ps := ["self", "many"]) fun _ _ _ _ _ _ us hl => match us, hl with | [_, _], _ => rfl
  have F_Cut_sources := fun_mk (st := s_Cut_sources) l_Cut_sources c_Cut_sources k_Cut_sources
  have b_Cut_sources := F_Cut_sources.binds (ps := ["self", "cards"]) fun _ _ _ _ _ _ us hl => match us, hl with | [_, _], _ => rfl
  have F_Turn_sources := fun_mk (st := s_Turn_sources) l_Turn_sources c_Turn_sources k_Turn_sources
  have b_Turn_sources := F_Turn_sources.binds (ps := ["self", "cards"]) fun _ _ _ _ _ _ us hl => match us, hl with | [_, _], _ => rfl
  have F_Deal_sources := fun_mk (st := s_Deal_sources) l_Deal_sources c_Deal_sources k_Deal_sources
  have b_Deal_sources := F_Deal_sources.binds (ps := ["self", "cards"]) fun _ _ _ _ _ _ us hl => match us, hl with | [_, _], _ => rfl
  have F_Under_sources := fun_mk (st := s_Under_sources) l_Under_sources c_Under_sources k_Under_sources
  have b_Under_sources := F_Under_sources.binds (ps := ["self", "cards"]) fun _ _ _ _ _ _ us hl => match us, hl with | [_, _], _ => rfl
  have F_Weave_sources := fun_mk (st := s_Weave_sources) l_Weave_sources c_Weave_sources k_Weave_sources
  have b_Weave_sources := F_Weave_sources.binds (ps := ["self", "cards"]) fun _ _ _ _ _ _ us hl => match us, hl with | [_, _], _ => rfl
  have F_Riffle_sources := fun_mk (st := s_Riffle_sources) l_Riffle_sources c_Riffle_sources k_Riffle_sources
  have b_Riffle_sources := F_Riffle_sources.binds (ps := ["self", "cards"]) fun _ _ _ _ _ _ us hl => match us, hl with | [_, _], _ => rfl
  have F_Move_done := fun_mk (st := s_Move_done) l_Move_done c_Move_done k_Move_done
  have b_Move_done := F_Move_done.binds (ps := ["self", "order"]) fun _ _ _ _ _ _ us hl => match us, hl with | [_, _], _ => rfl
  have F_Move_undone := fun_mk (st := s_Move_undone) l_Move_undone c_Move_undone k_Move_undone
  have b_Move_undone := F_Move_undone.binds (ps := ["self", "order"]) fun _ _ _ _ _ _ us hl => match us, hl with | [_, _], _ => rfl
  intro hgT
  have hcd : ∀ h : Heap, K.In h → PySem.W.CodeHd h c0 T0 := fun h X => code_hd X tbL tb11 tg11 tg18 tg7 tg9 tg10 tbNe
  refine ⟨PySem.W.fnOf "law" "law" (defArgs s_law) (defBody s_law) (defScope s_law) .none kV_law dc_law pm_law an_law cd_law ct_law, c0, hcd h X, fun s v => .of_eq rfl, fun base KB _ HB => ?_⟩
  have n_is_number : Fn1 l.prog w K mg base 1 "is_number" spNum := ⟨_, _, _, ok_is_number F_is_number T, PySem.W.mg_of X G a_is_number, k_is_number, b_is_number⟩
  have n_is_order : Fn1 l.prog w K mg base 2 "is_order" spIsOrder := ⟨_, _, _, ok_is_order F_is_order T n_is_number, PySem.W.mg_of X G a_is_order, k_is_order, b_is_order⟩
  have n_check_order : Fn1 l.prog w K mg base 3 "check_order" spCheckOrder := ⟨_, _, _, ok_check_order F_check_order T n_is_order, PySem.W.mg_of X G a_check_order, k_check_order, b_check_order⟩
  have n_is_word : Fn1 l.prog w K mg base 2 "is_word" spIsWord := ⟨_, _, _, ok_is_word F_is_word T n_is_number, PySem.W.mg_of X G a_is_word, k_is_word, b_is_word⟩
  have n_riffle_sources : Fn1 l.prog w K mg base 1 "riffle_sources" spRifSrc := ⟨_, _, _, ok_riffle_sources F_riffle_sources T, PySem.W.mg_of X G a_riffle_sources, k_riffle_sources, b_riffle_sources⟩
  have m_sources : ∀ mv : Mv, Mth l.prog w K mg base 2 (mv.cls ⟨C_Move, C_Cut, C_Turn, C_Deal, C_Under, C_Weave, C_Riffle, C_Answer, C_Mixed, C_Fault⟩) "sources" (spSrc ⟨C_Move, C_Cut, C_Turn, C_Deal, C_Under, C_Weave, C_Riffle, C_Answer, C_Mixed, C_Fault⟩ mv) := fun mv => match mv with | .cut x => ⟨T.cl (.cut x), _, _, _, ⟨a_Cut_sources, i_Cut_sources, k_Cut_sources⟩, ok_Cut_sources F_Cut_sources T, b_Cut_sources⟩ | .turn => ⟨T.cl (.turn), _, _, _, ⟨a_Turn_sources, i_Turn_sources, k_Turn_sources⟩, ok_Turn_sources F_Turn_sources T, b_Turn_sources⟩ | .deal x => ⟨T.cl (.deal x), _, _, _, ⟨a_Deal_sources, i_Deal_sources, k_Deal_sources⟩, ok_Deal_sources F_Deal_sources T, b_Deal_sources⟩ | .under => ⟨T.cl (.under), _, _, _, ⟨a_Under_sources, i_Under_sources, k_Under_sources⟩, ok_Under_sources F_Under_sources T, b_Under_sources⟩ | .weave x => ⟨T.cl (.weave x), _, _, _, ⟨a_Weave_sources, i_Weave_sources, k_Weave_sources⟩, ok_Weave_sources F_Weave_sources T n_riffle_sources, b_Weave_sources⟩ | .riffle x => ⟨T.cl (.riffle x), _, _, _, ⟨a_Riffle_sources, i_Riffle_sources, k_Riffle_sources⟩, ok_Riffle_sources F_Riffle_sources T n_riffle_sources, b_Riffle_sources⟩
  have m_done : ∀ mv : Mv, Mth l.prog w K mg base 4 (mv.cls ⟨C_Move, C_Cut, C_Turn, C_Deal, C_Under, C_Weave, C_Riffle, C_Answer, C_Mixed, C_Fault⟩) "done" (spDone ⟨C_Move, C_Cut, C_Turn, C_Deal, C_Under, C_Weave, C_Riffle, C_Answer, C_Mixed, C_Fault⟩ mv) := fun mv => match mv with | .cut x => ⟨T.cl (.cut x), _, _, _, ⟨a_Cut_done, i_Move_done, k_Move_done⟩, ok_Move_done F_Move_done T n_check_order (m_sources (.cut x)), b_Move_done⟩ | .turn => ⟨T.cl (.turn), _, _, _, ⟨a_Turn_done, i_Move_done, k_Move_done⟩, ok_Move_done F_Move_done T n_check_order (m_sources (.turn)), b_Move_done⟩ | .deal x => ⟨T.cl (.deal x), _, _, _, ⟨a_Deal_done, i_Move_done, k_Move_done⟩, ok_Move_done F_Move_done T n_check_order (m_sources (.deal x)), b_Move_done⟩ | .under => ⟨T.cl (.under), _, _, _, ⟨a_Under_done, i_Move_done, k_Move_done⟩, ok_Move_done F_Move_done T n_check_order (m_sources (.under)), b_Move_done⟩ | .weave x => ⟨T.cl (.weave x), _, _, _, ⟨a_Weave_done, i_Move_done, k_Move_done⟩, ok_Move_done F_Move_done T n_check_order (m_sources (.weave x)), b_Move_done⟩ | .riffle x => ⟨T.cl (.riffle x), _, _, _, ⟨a_Riffle_done, i_Move_done, k_Move_done⟩, ok_Move_done F_Move_done T n_check_order (m_sources (.riffle x)), b_Move_done⟩
  have m_undone : ∀ mv : Mv, Mth l.prog w K mg base 4 (mv.cls ⟨C_Move, C_Cut, C_Turn, C_Deal, C_Under, C_Weave, C_Riffle, C_Answer, C_Mixed, C_Fault⟩) "undone" (spUndone ⟨C_Move, C_Cut, C_Turn, C_Deal, C_Under, C_Weave, C_Riffle, C_Answer, C_Mixed, C_Fault⟩ mv) := fun mv => match mv with | .cut x => ⟨T.cl (.cut x), _, _, _, ⟨a_Cut_undone, i_Move_undone, k_Move_undone⟩, ok_Move_undone F_Move_undone T n_check_order (m_sources (.cut x)), b_Move_undone⟩ | .turn => ⟨T.cl (.turn), _, _, _, ⟨a_Turn_undone, i_Move_undone, k_Move_undone⟩, ok_Move_undone F_Move_undone T n_check_order (m_sources (.turn)), b_Move_undone⟩ | .deal x => ⟨T.cl (.deal x), _, _, _, ⟨a_Deal_undone, i_Move_undone, k_Move_undone⟩, ok_Move_undone F_Move_undone T n_check_order (m_sources (.deal x)), b_Move_undone⟩ | .under => ⟨T.cl (.under), _, _, _, ⟨a_Under_undone, i_Move_undone, k_Move_undone⟩, ok_Move_undone F_Move_undone T n_check_order (m_sources (.under)), b_Move_undone⟩ | .weave x => ⟨T.cl (.weave x), _, _, _, ⟨a_Weave_undone, i_Move_undone, k_Move_undone⟩, ok_Move_undone F_Move_undone T n_check_order (m_sources (.weave x)), b_Move_undone⟩ | .riffle x => ⟨T.cl (.riffle x), _, _, _, ⟨a_Riffle_undone, i_Move_undone, k_Move_undone⟩, ok_Move_undone F_Move_undone T n_check_order (m_sources (.riffle x)), b_Move_undone⟩
  have k_Cut : Mk1 l.prog w K mg base 3 "Cut" C_Cut (spInit1 ⟨C_Move, C_Cut, C_Turn, C_Deal, C_Under, C_Weave, C_Riffle, C_Answer, C_Mixed, C_Fault⟩ vCut isCut) := ⟨_, _, _, ⟨mk_Cut, a_Cut___init__, i_Cut___init__, kc_Cut⟩, (ok_Cut___init__ F_Cut___init__ T n_is_number).mono (by decide), b_Cut___init__, PySem.W.mg_of X G A_Cut⟩
  have k_Turn : Mk1 l.prog w K mg base 3 "Turn" C_Turn (spInit0 ⟨C_Move, C_Cut, C_Turn, C_Deal, C_Under, C_Weave, C_Riffle, C_Answer, C_Mixed, C_Fault⟩ .turn) := ⟨_, _, _, ⟨mk_Turn, a_Turn___init__, i_Turn___init__, kc_Turn⟩, (ok_Turn___init__ F_Turn___init__ ).mono (by decide), b_Turn___init__, PySem.W.mg_of X G A_Turn⟩
  have k_Deal : Mk1 l.prog w K mg base 3 "Deal" C_Deal (spInit1 ⟨C_Move, C_Cut, C_Turn, C_Deal, C_Under, C_Weave, C_Riffle, C_Answer, C_Mixed, C_Fault⟩ vDeal isDeal) := ⟨_, _, _, ⟨mk_Deal, a_Deal___init__, i_Deal___init__, kc_Deal⟩, (ok_Deal___init__ F_Deal___init__ T n_is_number).mono (by decide), b_Deal___init__, PySem.W.mg_of X G A_Deal⟩
  have k_Under : Mk1 l.prog w K mg base 3 "Under" C_Under (spInit0 ⟨C_Move, C_Cut, C_Turn, C_Deal, C_Under, C_Weave, C_Riffle, C_Answer, C_Mixed, C_Fault⟩ .under) := ⟨_, _, _, ⟨mk_Under, a_Under___init__, i_Under___init__, kc_Under⟩, (ok_Under___init__ F_Under___init__ ).mono (by decide), b_Under___init__, PySem.W.mg_of X G A_Under⟩
  have k_Weave : Mk1 l.prog w K mg base 3 "Weave" C_Weave (spInit1 ⟨C_Move, C_Cut, C_Turn, C_Deal, C_Under, C_Weave, C_Riffle, C_Answer, C_Mixed, C_Fault⟩ vWeave isWeave) := ⟨_, _, _, ⟨mk_Weave, a_Weave___init__, i_Weave___init__, kc_Weave⟩, (ok_Weave___init__ F_Weave___init__ T n_is_number).mono (by decide), b_Weave___init__, PySem.W.mg_of X G A_Weave⟩
  have k_Riffle : Mk1 l.prog w K mg base 3 "Riffle" C_Riffle (spInit1 ⟨C_Move, C_Cut, C_Turn, C_Deal, C_Under, C_Weave, C_Riffle, C_Answer, C_Mixed, C_Fault⟩ vRiffle isRiffle) := ⟨_, _, _, ⟨mk_Riffle, a_Riffle___init__, i_Riffle___init__, kc_Riffle⟩, (ok_Riffle___init__ F_Riffle___init__ T n_is_word).mono (by decide), b_Riffle___init__, PySem.W.mg_of X G A_Riffle⟩
  have Z : ExcTxt K mg ⟨C_PackError, C_BadOrder, C_BadMove, C_BadNumber, C_BadText⟩ := { mg_PackError := PySem.W.mg_of X G A_PackError, mg_BadOrder := PySem.W.mg_of X G A_BadOrder, mg_BadMove := PySem.W.mg_of X G A_BadMove, mg_BadNumber := PySem.W.mg_of X G A_BadNumber, mg_BadText := PySem.W.mg_of X G A_BadText, no_ValueError := PySem.W.mg_none_of X G no_ValueError, c_PackError := ExcCl.of xe_PackError xg_PackError xt_PackError xc_PackError yg yt xb_PackError xo_PackError xy_PackError, c_at := fun r => match r with | .o => ExcCl.of xe_BadOrder xg_BadOrder xt_BadOrder xc_BadOrder yg yt xb_BadOrder xo_BadOrder xy_BadOrder | .m => ExcCl.of xe_BadMove xg_BadMove xt_BadMove xc_BadMove yg yt xb_BadMove xo_BadMove xy_BadMove | .n => ExcCl.of xe_BadNumber xg_BadNumber xt_BadNumber xc_BadNumber yg yt xb_BadNumber xo_BadNumber xy_BadNumber, m_pack := fun r => match r with | .o => xm_BadOrder_PackError | .m => xm_BadMove_PackError | .n => xm_BadNumber_PackError, k_order := fun r => match r with | .o => xk_BadOrder_BadOrder | .m => xk_BadMove_BadOrder | .n => xk_BadNumber_BadOrder, k_move := fun r => match r with | .o => xk_BadOrder_BadMove | .m => xk_BadMove_BadMove | .n => xk_BadNumber_BadMove, k_number := fun r => match r with | .o => xk_BadOrder_BadNumber | .m => xk_BadMove_BadNumber | .n => xk_BadNumber_BadNumber, k_text := fun r => match r with | .o => xk_BadOrder_BadText | .m => xk_BadMove_BadText | .n => xk_BadNumber_BadText, k_value := fun r => match r with | .o => xk_BadOrder_ValueError | .m => xk_BadMove_ValueError | .n => xk_BadNumber_ValueError }
  have NM : NoMv K ⟨C_Move, C_Cut, C_Turn, C_Deal, C_Under, C_Weave, C_Riffle, C_Answer, C_Mixed, C_Fault⟩ := ⟨nm_non, nm_str, nm_int, nm_list, nm_dict⟩
  have u_is_number : Fn1 l.prog w K mg base 1 "is_number" (spNumAny K) := ⟨_, _, _, okn_is_number F_is_number T, PySem.W.mg_of X G a_is_number, k_is_number, b_is_number⟩
  have u_is_order : Fn1 l.prog w K mg base 2 "is_order" (spOrdBad K) := ⟨_, _, _, okn_is_order F_is_order T u_is_number, PySem.W.mg_of X G a_is_order, k_is_order, b_is_order⟩
  have u_is_word : Fn1 l.prog w K mg base 2 "is_word" (spWordBad K) := ⟨_, _, _, okn_is_word F_is_word T u_is_number, PySem.W.mg_of X G a_is_word, k_is_word, b_is_word⟩
  have n_check_cards : Fn1 l.prog w K mg base 2 "check_cards" spCards := ⟨_, _, _, ok_check_cards F_check_cards T n_is_number, PySem.W.mg_of X G a_check_cards, k_check_cards, b_check_cards⟩
  have n_check_move : Fn1 l.prog w K mg base 1 "check_move" (spCheckMove ⟨C_Move, C_Cut, C_Turn, C_Deal, C_Under, C_Weave, C_Riffle, C_Answer, C_Mixed, C_Fault⟩) := ⟨_, _, _, ok_check_move F_check_move T Y, PySem.W.mg_of X G a_check_move, k_check_move, b_check_move⟩
  have n_check_moves : Fn1 l.prog w K mg base 2 "check_moves" (spCheckMoves ⟨C_Move, C_Cut, C_Turn, C_Deal, C_Under, C_Weave, C_Riffle, C_Answer, C_Mixed, C_Fault⟩) := ⟨_, _, _, ok_check_moves F_check_moves T n_check_move, PySem.W.mg_of X G a_check_moves, k_check_moves, b_check_moves⟩
  have x_check_order : FnX l.prog w K mg base 3 "check_order" (spR ⟨C_PackError, C_BadOrder, C_BadMove, C_BadNumber, C_BadText⟩ (badO K)) := ⟨_, _, _, okx_check_order F_check_order T Z u_is_order, PySem.W.mg_of X G a_check_order, k_check_order, b_check_order⟩
  have x_check_cards : FnX l.prog w K mg base 2 "check_cards" (spR ⟨C_PackError, C_BadOrder, C_BadMove, C_BadNumber, C_BadText⟩ (badN K .n 1 60)) := ⟨_, _, _, okx_check_cards F_check_cards T Z u_is_number, PySem.W.mg_of X G a_check_cards, k_check_cards, b_check_cards⟩
  have x_check_move : FnX l.prog w K mg base 1 "check_move" (spCM K ⟨C_Move, C_Cut, C_Turn, C_Deal, C_Under, C_Weave, C_Riffle, C_Answer, C_Mixed, C_Fault⟩ ⟨C_PackError, C_BadOrder, C_BadMove, C_BadNumber, C_BadText⟩) := ⟨_, _, _, (ok_check_move F_check_move T Y).either (okx_check_move F_check_move T Z) (by decide), PySem.W.mg_of X G a_check_move, k_check_move, b_check_move⟩
  have x_check_moves : FnX l.prog w K mg base 2 "check_moves" (spR ⟨C_PackError, C_BadOrder, C_BadMove, C_BadNumber, C_BadText⟩ (badMs K ⟨C_Move, C_Cut, C_Turn, C_Deal, C_Under, C_Weave, C_Riffle, C_Answer, C_Mixed, C_Fault⟩)) := ⟨_, _, _, okx_check_moves F_check_moves T Z x_check_move, PySem.W.mg_of X G a_check_moves, k_check_moves, b_check_moves⟩
  have y_Cut : MkX l.prog w K mg base 3 "Cut" C_Cut (spR ⟨C_PackError, C_BadOrder, C_BadMove, C_BadNumber, C_BadText⟩ (badI K fun H v => BadNum K H v 0 60)) := ⟨_, _, _, ⟨mk_Cut, a_Cut___init__, i_Cut___init__, kc_Cut⟩, (okx_Cut___init__ F_Cut___init__ T Z u_is_number).mono (by decide), b_Cut___init__, PySem.W.mg_of X G A_Cut⟩
  have y_Deal : MkX l.prog w K mg base 3 "Deal" C_Deal (spR ⟨C_PackError, C_BadOrder, C_BadMove, C_BadNumber, C_BadText⟩ (badI K fun H v => BadNum K H v 1 60)) := ⟨_, _, _, ⟨mk_Deal, a_Deal___init__, i_Deal___init__, kc_Deal⟩, (okx_Deal___init__ F_Deal___init__ T Z u_is_number).mono (by decide), b_Deal___init__, PySem.W.mg_of X G A_Deal⟩
  have y_Weave : MkX l.prog w K mg base 3 "Weave" C_Weave (spR ⟨C_PackError, C_BadOrder, C_BadMove, C_BadNumber, C_BadText⟩ (badI K fun H v => BadNum K H v 0 1)) := ⟨_, _, _, ⟨mk_Weave, a_Weave___init__, i_Weave___init__, kc_Weave⟩, (okx_Weave___init__ F_Weave___init__ T Z u_is_number).mono (by decide), b_Weave___init__, PySem.W.mg_of X G A_Weave⟩
  have y_Riffle : MkX l.prog w K mg base 3 "Riffle" C_Riffle (spR ⟨C_PackError, C_BadOrder, C_BadMove, C_BadNumber, C_BadText⟩ (badI K fun H v => BadWord K H v)) := ⟨_, _, _, ⟨mk_Riffle, a_Riffle___init__, i_Riffle___init__, kc_Riffle⟩, (okx_Riffle___init__ F_Riffle___init__ T Z u_is_word).mono (by decide), b_Riffle___init__, PySem.W.mg_of X G A_Riffle⟩
  have x_sources : ∀ mv : Mv, MthX l.prog w K mg base 2 (mv.cls ⟨C_Move, C_Cut, C_Turn, C_Deal, C_Under, C_Weave, C_Riffle, C_Answer, C_Mixed, C_Fault⟩) "sources" (spR ⟨C_PackError, C_BadOrder, C_BadMove, C_BadNumber, C_BadText⟩ (badSrc ⟨C_Move, C_Cut, C_Turn, C_Deal, C_Under, C_Weave, C_Riffle, C_Answer, C_Mixed, C_Fault⟩ mv)) := fun mv => match mv with | .cut x => ⟨T.cl (.cut x), _, _, _, ⟨a_Cut_sources, i_Cut_sources, k_Cut_sources⟩, okx_Cut_sources F_Cut_sources T Z, b_Cut_sources⟩ | .turn => ⟨T.cl (.turn), _, _, _, ⟨a_Turn_sources, i_Turn_sources, k_Turn_sources⟩, FnOk.never (fun vs H Q E h => by obtain ⟨r, ⟨_, p, n, _, _, _, nf⟩, _⟩ := h; exact nf trivial), b_Turn_sources⟩ | .deal x => ⟨T.cl (.deal x), _, _, _, ⟨a_Deal_sources, i_Deal_sources, k_Deal_sources⟩, FnOk.never (fun vs H Q E h => by obtain ⟨r, ⟨_, p, n, _, _, _, nf⟩, _⟩ := h; exact nf trivial), b_Deal_sources⟩ | .under => ⟨T.cl (.under), _, _, _, ⟨a_Under_sources, i_Under_sources, k_Under_sources⟩, FnOk.never (fun vs H Q E h => by obtain ⟨r, ⟨_, p, n, _, _, _, nf⟩, _⟩ := h; exact nf trivial), b_Under_sources⟩ | .weave x => ⟨T.cl (.weave x), _, _, _, ⟨a_Weave_sources, i_Weave_sources, k_Weave_sources⟩, okx_Weave_sources F_Weave_sources T Z, b_Weave_sources⟩ | .riffle x => ⟨T.cl (.riffle x), _, _, _, ⟨a_Riffle_sources, i_Riffle_sources, k_Riffle_sources⟩, okx_Riffle_sources F_Riffle_sources T Z, b_Riffle_sources⟩
  have x_done : ∀ mv : Mv, MthX l.prog w K mg base 4 (mv.cls ⟨C_Move, C_Cut, C_Turn, C_Deal, C_Under, C_Weave, C_Riffle, C_Answer, C_Mixed, C_Fault⟩) "done" (spDoneX K ⟨C_Move, C_Cut, C_Turn, C_Deal, C_Under, C_Weave, C_Riffle, C_Answer, C_Mixed, C_Fault⟩ ⟨C_PackError, C_BadOrder, C_BadMove, C_BadNumber, C_BadText⟩ mv) := fun mv => match mv with | .cut x => ⟨T.cl (.cut x), _, _, _, ⟨a_Cut_done, i_Move_done, k_Move_done⟩, (ok_Move_done F_Move_done T n_check_order (m_sources (.cut x))).either (okx_Move_done F_Move_done T Z x_check_order n_check_order (x_sources (.cut x))) (by decide), b_Move_done⟩ | .turn => ⟨T.cl (.turn), _, _, _, ⟨a_Turn_done, i_Move_done, k_Move_done⟩, (ok_Move_done F_Move_done T n_check_order (m_sources (.turn))).either (okx_Move_done F_Move_done T Z x_check_order n_check_order (x_sources (.turn))) (by decide), b_Move_done⟩ | .deal x => ⟨T.cl (.deal x), _, _, _, ⟨a_Deal_done, i_Move_done, k_Move_done⟩, (ok_Move_done F_Move_done T n_check_order (m_sources (.deal x))).either (okx_Move_done F_Move_done T Z x_check_order n_check_order (x_sources (.deal x))) (by decide), b_Move_done⟩ | .under => ⟨T.cl (.under), _, _, _, ⟨a_Under_done, i_Move_done, k_Move_done⟩, (ok_Move_done F_Move_done T n_check_order (m_sources (.under))).either (okx_Move_done F_Move_done T Z x_check_order n_check_order (x_sources (.under))) (by decide), b_Move_done⟩ | .weave x => ⟨T.cl (.weave x), _, _, _, ⟨a_Weave_done, i_Move_done, k_Move_done⟩, (ok_Move_done F_Move_done T n_check_order (m_sources (.weave x))).either (okx_Move_done F_Move_done T Z x_check_order n_check_order (x_sources (.weave x))) (by decide), b_Move_done⟩ | .riffle x => ⟨T.cl (.riffle x), _, _, _, ⟨a_Riffle_done, i_Move_done, k_Move_done⟩, (ok_Move_done F_Move_done T n_check_order (m_sources (.riffle x))).either (okx_Move_done F_Move_done T Z x_check_order n_check_order (x_sources (.riffle x))) (by decide), b_Move_done⟩
  have x_undone : ∀ mv : Mv, MthX l.prog w K mg base 4 (mv.cls ⟨C_Move, C_Cut, C_Turn, C_Deal, C_Under, C_Weave, C_Riffle, C_Answer, C_Mixed, C_Fault⟩) "undone" (spR ⟨C_PackError, C_BadOrder, C_BadMove, C_BadNumber, C_BadText⟩ (badDone K ⟨C_Move, C_Cut, C_Turn, C_Deal, C_Under, C_Weave, C_Riffle, C_Answer, C_Mixed, C_Fault⟩ mv)) := fun mv => match mv with | .cut x => ⟨T.cl (.cut x), _, _, _, ⟨a_Cut_undone, i_Move_undone, k_Move_undone⟩, okx_Move_undone F_Move_undone T Z x_check_order n_check_order (x_sources (.cut x)), b_Move_undone⟩ | .turn => ⟨T.cl (.turn), _, _, _, ⟨a_Turn_undone, i_Move_undone, k_Move_undone⟩, okx_Move_undone F_Move_undone T Z x_check_order n_check_order (x_sources (.turn)), b_Move_undone⟩ | .deal x => ⟨T.cl (.deal x), _, _, _, ⟨a_Deal_undone, i_Move_undone, k_Move_undone⟩, okx_Move_undone F_Move_undone T Z x_check_order n_check_order (x_sources (.deal x)), b_Move_undone⟩ | .under => ⟨T.cl (.under), _, _, _, ⟨a_Under_undone, i_Move_undone, k_Move_undone⟩, okx_Move_undone F_Move_undone T Z x_check_order n_check_order (x_sources (.under)), b_Move_undone⟩ | .weave x => ⟨T.cl (.weave x), _, _, _, ⟨a_Weave_undone, i_Move_undone, k_Move_undone⟩, okx_Move_undone F_Move_undone T Z x_check_order n_check_order (x_sources (.weave x)), b_Move_undone⟩ | .riffle x => ⟨T.cl (.riffle x), _, _, _, ⟨a_Riffle_undone, i_Move_undone, k_Move_undone⟩, okx_Move_undone F_Move_undone T Z x_check_order n_check_order (x_sources (.riffle x)), b_Move_undone⟩
  have x_done_all : FnX l.prog w K mg base 5 "done_all" (spR ⟨C_PackError, C_BadOrder, C_BadMove, C_BadNumber, C_BadText⟩ (badAll K ⟨C_Move, C_Cut, C_Turn, C_Deal, C_Under, C_Weave, C_Riffle, C_Answer, C_Mixed, C_Fault⟩)) := ⟨_, _, _, okx_done_all F_done_all T Z x_check_moves n_check_moves x_check_order n_check_order x_done, PySem.W.mg_of X G a_done_all, k_done_all, b_done_all⟩
  have n_targets : Fn1 l.prog w K mg base 1 "targets" spTargets := ⟨_, _, _, ok_targets F_targets T, PySem.W.mg_of X G a_targets, k_targets, b_targets⟩
  have n_ring_from : Fn1 l.prog w K mg base 1 "ring_from" spRingFrom := ⟨_, _, _, ok_ring_from F_ring_from T, PySem.W.mg_of X G a_ring_from, k_ring_from, b_ring_from⟩
  have n_common_divisor : Fn1 l.prog w K mg base 1 "common_divisor" spGcd := ⟨_, _, _, ok_common_divisor F_common_divisor , PySem.W.mg_of X G a_common_divisor, k_common_divisor, b_common_divisor⟩
  have n_rings : Fn1 l.prog w K mg base 3 "rings" (spRings ⟨C_Move, C_Cut, C_Turn, C_Deal, C_Under, C_Weave, C_Riffle, C_Answer, C_Mixed, C_Fault⟩) := ⟨_, _, _, ok_rings F_rings T n_check_move n_check_cards n_targets n_ring_from m_sources, PySem.W.mg_of X G a_rings, k_rings, b_rings⟩
  have n_repeated : Fn1 l.prog w K mg base 4 "repeated" (spRepeated ⟨C_Move, C_Cut, C_Turn, C_Deal, C_Under, C_Weave, C_Riffle, C_Answer, C_Mixed, C_Fault⟩) := ⟨_, _, _, ok_repeated F_repeated T n_check_move n_check_order n_is_number n_rings, PySem.W.mg_of X G a_repeated, k_repeated, b_repeated⟩
  have x_rings : FnX l.prog w K mg base 3 "rings" (spR ⟨C_PackError, C_BadOrder, C_BadMove, C_BadNumber, C_BadText⟩ (badRings K ⟨C_Move, C_Cut, C_Turn, C_Deal, C_Under, C_Weave, C_Riffle, C_Answer, C_Mixed, C_Fault⟩)) := ⟨_, _, _, okx_rings F_rings T Z x_check_move n_check_move x_check_cards n_check_cards n_targets x_sources, PySem.W.mg_of X G a_rings, k_rings, b_rings⟩
  have x_period : FnX l.prog w K mg base 4 "period" (spR ⟨C_PackError, C_BadOrder, C_BadMove, C_BadNumber, C_BadText⟩ (badRings K ⟨C_Move, C_Cut, C_Turn, C_Deal, C_Under, C_Weave, C_Riffle, C_Answer, C_Mixed, C_Fault⟩)) := ⟨_, _, _, okx_period F_period T Z x_rings n_common_divisor, PySem.W.mg_of X G a_period, k_period, b_period⟩
  have x_repeated : FnX l.prog w K mg base 4 "repeated" (spR ⟨C_PackError, C_BadOrder, C_BadMove, C_BadNumber, C_BadText⟩ (badRep K ⟨C_Move, C_Cut, C_Turn, C_Deal, C_Under, C_Weave, C_Riffle, C_Answer, C_Mixed, C_Fault⟩)) := ⟨_, _, _, okx_repeated F_repeated T Z x_check_move n_check_move x_check_order n_check_order u_is_number x_rings, PySem.W.mg_of X G a_repeated, k_repeated, b_repeated⟩
  have n_rows : Fn1 l.prog w K mg base 4 "rows" spRows := ⟨_, _, _, ok_rows F_rows T n_check_order, PySem.W.mg_of X G a_rows, k_rows, b_rows⟩
  have n_choices : Fn1 l.prog w K mg base 1 "choices" spChoices := ⟨_, _, _, ok_choices F_choices T, PySem.W.mg_of X G a_choices, k_choices, b_choices⟩
  have n_ways : Fn1 l.prog w K mg base 5 "ways" spWays := ⟨_, _, _, ok_ways F_ways T n_check_order n_is_number n_rows n_choices, PySem.W.mg_of X G a_ways, k_ways, b_ways⟩
  have n_orders_with : Fn1 l.prog w K mg base 3 "orders_with" spOw := ⟨_, _, _, ok_orders_with F_orders_with T n_check_cards n_is_number, PySem.W.mg_of X G a_orders_with, k_orders_with, b_orders_with⟩
  have n_brought : Fn1 l.prog w K mg base 5 "brought" (spBrought ⟨C_Move, C_Cut, C_Turn, C_Deal, C_Under, C_Weave, C_Riffle, C_Answer, C_Mixed, C_Fault⟩) := ⟨_, _, _, ok_brought F_brought T n_is_number k_Weave, PySem.W.mg_of X G a_brought, k_brought, b_brought⟩
  have x_rows : FnX l.prog w K mg base 4 "rows" (spR ⟨C_PackError, C_BadOrder, C_BadMove, C_BadNumber, C_BadText⟩ (badO K)) := ⟨_, _, _, okx_rows F_rows T Z x_check_order, PySem.W.mg_of X G a_rows, k_rows, b_rows⟩
  have x_row_numbers : FnX l.prog w K mg base 5 "row_numbers" (spR ⟨C_PackError, C_BadOrder, C_BadMove, C_BadNumber, C_BadText⟩ (badO K)) := ⟨_, _, _, okx_row_numbers F_row_numbers T Z x_rows, PySem.W.mg_of X G a_row_numbers, k_row_numbers, b_row_numbers⟩
  have x_riffles_to : FnX l.prog w K mg base 6 "riffles_to" (spR ⟨C_PackError, C_BadOrder, C_BadMove, C_BadNumber, C_BadText⟩ (badO K)) := ⟨_, _, _, okx_riffles_to F_riffles_to T Z x_row_numbers, PySem.W.mg_of X G a_riffles_to, k_riffles_to, b_riffles_to⟩
  have x_mixed : FnX l.prog w K mg base 4 "mixed" (spR ⟨C_PackError, C_BadOrder, C_BadMove, C_BadNumber, C_BadText⟩ (badO K)) := ⟨_, _, _, okx_mixed F_mixed T Z x_check_order, PySem.W.mg_of X G a_mixed, k_mixed, b_mixed⟩
  have x_ways : FnX l.prog w K mg base 5 "ways" (spR ⟨C_PackError, C_BadOrder, C_BadMove, C_BadNumber, C_BadText⟩ (badWays K)) := ⟨_, _, _, okx_ways F_ways T Z x_check_order n_check_order u_is_number, PySem.W.mg_of X G a_ways, k_ways, b_ways⟩
  have x_orders_with : FnX l.prog w K mg base 3 "orders_with" (spR ⟨C_PackError, C_BadOrder, C_BadMove, C_BadNumber, C_BadText⟩ (badOw K)) := ⟨_, _, _, okx_orders_with F_orders_with T Z x_check_cards n_check_cards u_is_number, PySem.W.mg_of X G a_orders_with, k_orders_with, b_orders_with⟩
  have x_brought : FnX l.prog w K mg base 5 "brought" (spR ⟨C_PackError, C_BadOrder, C_BadMove, C_BadNumber, C_BadText⟩ (badBr K)) := ⟨_, _, _, okx_brought F_brought T Z u_is_number, PySem.W.mg_of X G a_brought, k_brought, b_brought⟩
  have x_written : FnX l.prog w K mg base 3 "written" (spR ⟨C_PackError, C_BadOrder, C_BadMove, C_BadNumber, C_BadText⟩ (badMs K ⟨C_Move, C_Cut, C_Turn, C_Deal, C_Under, C_Weave, C_Riffle, C_Answer, C_Mixed, C_Fault⟩)) := ⟨_, _, _, okx_written F_written T Z x_check_moves, PySem.W.mg_of X G a_written, k_written, b_written⟩
  have h__law_kinds : FnH l.prog w K mg base 1 "_law_kinds" (spKinds ⟨C_PackError, C_BadOrder, C_BadMove, C_BadNumber, C_BadText⟩) := ⟨_, _, _, okh__law_kinds F__law_kinds T Z, PySem.W.mg_of X G a__law_kinds, k__law_kinds, b__law_kinds⟩
  have n__law_told : Fn1 l.prog w K mg base 8 "_law_told" (spTold10 l.prog w K mg base ⟨C_PackError, C_BadOrder, C_BadMove, C_BadNumber, C_BadText⟩) := ⟨_, _, _, okn__law_told F__law_told T Z h__law_kinds, PySem.W.mg_of X G a__law_told, k__law_told, b__law_told⟩
  have n__law_all : Fn1 l.prog w K mg base 9 "_law_all" (spAllL l.prog w K mg base ⟨C_PackError, C_BadOrder, C_BadMove, C_BadNumber, C_BadText⟩) := ⟨_, _, _, okn__law_all F__law_all T n__law_told, PySem.W.mg_of X G a__law_all, k__law_all, b__law_all⟩
  have n__law_orders : Fn1 l.prog w K mg base 1 "_law_orders" (spOrds K) := ⟨_, _, _, okn__law_orders F__law_orders T, PySem.W.mg_of X G a__law_orders, k__law_orders, b__law_orders⟩
  have x__law_made : FnX l.prog w K mg base 5 "_law_made" (spR ⟨C_PackError, C_BadOrder, C_BadMove, C_BadNumber, C_BadText⟩ (badMade K)) := ⟨_, _, _, okx__law_made F__law_made T Z y_Cut y_Deal y_Weave y_Riffle, PySem.W.mg_of X G a__law_made, k__law_made, b__law_made⟩
  have x__law_with_order : FnX l.prog w K mg base 7 "_law_with_order" (spR ⟨C_PackError, C_BadOrder, C_BadMove, C_BadNumber, C_BadText⟩ (badWo K)) := ⟨_, _, _, okx__law_with_order F__law_with_order T k_Cut k_Turn k_Deal k_Under k_Weave k_Riffle x_done x_undone x_done_all x_repeated x_rows x_riffles_to x_ways x_mixed, PySem.W.mg_of X G a__law_with_order, k__law_with_order, b__law_with_order⟩
  have x__law_with_move : FnX l.prog w K mg base 6 "_law_with_move" (spR ⟨C_PackError, C_BadOrder, C_BadMove, C_BadNumber, C_BadText⟩ (badWm K ⟨C_Move, C_Cut, C_Turn, C_Deal, C_Under, C_Weave, C_Riffle, C_Answer, C_Mixed, C_Fault⟩)) := ⟨_, _, _, okx__law_with_move F__law_with_move T k_Turn x_done_all x_rings x_period x_repeated x_written, PySem.W.mg_of X G a__law_with_move, k__law_with_move, b__law_with_move⟩
  have x__law_unfit : FnX l.prog w K mg base 6 "_law_unfit" (spR ⟨C_PackError, C_BadOrder, C_BadMove, C_BadNumber, C_BadText⟩ (badUf)) := ⟨_, _, _, okx__law_unfit F__law_unfit T k_Cut k_Turn k_Deal k_Under k_Weave k_Riffle x_done x_undone x_done_all x_rings x_period x_repeated, PySem.W.mg_of X G a__law_unfit, k__law_unfit, b__law_unfit⟩
  have x__law_with_number : FnX l.prog w K mg base 6 "_law_with_number" (spR ⟨C_PackError, C_BadOrder, C_BadMove, C_BadNumber, C_BadText⟩ (badWn K)) := ⟨_, _, _, okx__law_with_number F__law_with_number T k_Cut k_Weave x_rings x_period x_repeated x_ways x_orders_with x_brought, PySem.W.mg_of X G a__law_with_number, k__law_with_number, b__law_with_number⟩
  have n__law_cell_at : Fn1 l.prog w K mg base 1 "_law_cell_at" (spCell K) := ⟨_, _, _, ok__law_cell_at F__law_cell_at T, PySem.W.mg_of X G a__law_cell_at, k__law_cell_at, b__law_cell_at⟩
  exact ok_law F_law cdL (hcd base KB) hgT HB T Z NM n__law_cell_at n__law_orders n__law_all n__law_told x__law_with_order x__law_made x__law_with_move x__law_unfit x__law_with_number x_written x_brought k_Cut k_Turn k_Deal n_ways n_orders_with n_brought n_repeated n_rings m_done
theorem walk {l : PySem.W.OpenLaw} {q : Program} {loose : List Str} {XP : (Str → Option Value) → Heap → Prop} {YP : World → Heap → Prop} {d : DefRec} {K : Params → PySem.W.Frag} {T0 : Addr} (hn : l.most = some 63) (hdf : d.params.defaults = [])
    (hY : ∀ (w : World) (h : Heap), YP w h → (K w.params).In h ∧ h.get? T0 = some (PySem.W.tabObj #[]) ∧ (K w.params).lookup T0 = none)
    (F : ∀ (w : World) (mg : Str → Option Value) (fa : Addr) (h : Heap), (K w.params).In h → h.Ns mainGlobals mg → mg d.name = some (.ref fa) → mainGlobals ≠ T0 →
      ∃ (fd : FuncData) (c : Addr), PySem.W.CodeHd h c T0 ∧ (∀ (s : Shared) (u : Value), BindsTo s fd ⟨[u], []⟩ [("_law_script", u)]) ∧ ∀ base : Heap, (K w.params).In base → base.Ns mainGlobals mg → base.BuiltinsAt mg T0 → FnOk l.prog w (K w.params) mg base CX0 10 fa fd ["_law_script"] (spLaw (K w.params) T0)) :
    PySem.W.WalkO q loose XP YP l.row.toRowW d [] (fun f vs => PySem.call f vs) :=
  L2.walk_ofT (n := 63) (k := 10) (x := "_law_script") (CX := fun _ => CX0) (sp := fun w => spLaw (K w.params) T0) hn (by decide) hdf ⟨rfl, by decide, by decide⟩ hY F (fun _ _ a ns hl hT hS => ⟨a, ns, rfl, hS, hl, hT, fun _ h => ⟨rfl, h⟩⟩) fun _ _ _ _ _ z => z
end Rf

set_option Elab.async false
set_option linter.all false
open PySem PySem.W PyProof.Rows
def PySem.W.Fast.tw9191554710387028052 : Unit := ()
def PySem.W.Fast.tw7782517805807188783 : Unit := ()
def PySem.W.Fast.tw13644495447302718252 : Unit := ()
def PySem.W.Fast.tw9376424116341467059 : Unit := ()
def PySem.W.Fast.tw4945660685289346082 : Unit := ()
def PySem.W.Fast.tw15823093139686960008 : Unit := ()
def PySem.W.Fast.tw17203309300207323322 : Unit := ()
def PySem.W.Fast.tw9935382906019468753 : Unit := ()
def PySem.W.Fast.tw903935923587116584 : Unit := ()
def PySem.W.Fast.tw139575824718987893 : Unit := ()
def PySem.W.Fast.tw2244372160218560880 : Unit := ()
def PySem.W.Fast.tw10307629078438489678 : Unit := ()
def PySem.W.Fast.tw1235221831200883169 : Unit := ()
def PySem.W.Fast.tw17210847158916296081 : Unit := ()
set_option maxRecDepth 100000 in
set_option maxHeartbeats 0 in
theorem PySem.Challenge.cw_riffles_k10_refused_holds : PySem.Challenge.rw_riffles_k10_refused.Holds := by
  w_on; o_law; k_head; (case hw => w_witness2)
  k_fill
  refine Rf.walk (l := PySem.Challenge.rw_riffles_k10_refused) rfl rfl (fun w h Y => ⟨PySem.W.km_in_of Y, PySem.W.km_tabs_of Y _ List.mem_cons_self, L2.km_no Y rfl⟩) ?F
  case F =>
    intro w mg fa h KX G hmg
    refine' Rf.all_mk KX G hmg ?A_Move ?A_Cut ?A_Turn ?A_Deal ?A_Under ?A_Weave ?A_Riffle ?A_Answer ?A_Mixed ?A_Fault ?a_is_number ?a_is_order ?a_check_order ?a_check_cards ?a_is_word ?a_riffle_sources ?a_check_move ?a_check_moves ?a_done_all ?a_rings ?a_period ?a_repeated ?a_targets ?a_ring_from ?a_common_divisor ?a_rows ?a_riffles_to ?a_ways ?a_orders_with ?a_row_numbers ?a_choices ?a_written ?a_move_written ?a_brought ?a_mixed ?a__law_cell_at ?a__law_kinds ?a__law_told ?a__law_orders ?a__law_with_order ?a__law_made ?a__law_with_move ?a__law_unfit ?a__law_with_number ?a__law_all ?a_law ?a_Cut___init__ ?i_Cut___init__ ?a_Turn___init__ ?i_Turn___init__ ?a_Deal___init__ ?i_Deal___init__ ?a_Under___init__ ?i_Under___init__ ?a_Weave___init__ ?i_Weave___init__ ?a_Riffle___init__ ?i_Riffle___init__ ?a_Mixed___init__ ?i_Mixed___init__ ?a_Fault___init__ ?i_Fault___init__ ?a_Cut_sources ?i_Cut_sources ?a_Turn_sources ?i_Turn_sources ?a_Deal_sources ?i_Deal_sources ?a_Under_sources ?i_Under_sources ?a_Weave_sources ?i_Weave_sources ?a_Riffle_sources ?i_Riffle_sources ?a_Cut_done ?a_Turn_done ?a_Deal_done ?a_Under_done ?a_Weave_done ?a_Riffle_done ?i_Move_done ?a_Cut_undone ?a_Turn_undone ?a_Deal_undone ?a_Under_undone ?a_Weave_undone ?a_Riffle_undone ?i_Move_undone ?l_is_number ?c_is_number ?k_is_number ?l_is_order ?c_is_order ?k_is_order ?l_check_order ?c_check_order ?k_check_order ?l_check_cards ?c_check_cards ?k_check_cards ?l_is_word ?c_is_word ?k_is_word ?l_riffle_sources ?c_riffle_sources ?k_riffle_sources ?l_check_move ?c_check_move ?k_check_move ?l_check_moves ?c_check_moves ?k_check_moves ?l_done_all ?c_done_all ?k_done_all ?l_rings ?c_rings ?k_rings ?l_period ?c_period ?k_period ?l_repeated ?c_repeated ?k_repeated ?l_targets ?c_targets ?k_targets ?l_ring_from ?c_ring_from ?k_ring_from ?l_common_divisor ?c_common_divisor ?k_common_divisor ?l_rows ?c_rows ?k_rows ?l_riffles_to ?c_riffles_to ?k_riffles_to ?l_ways ?c_ways ?k_ways ?l_orders_with ?c_orders_with ?k_orders_with ?l_row_numbers ?c_row_numbers ?k_row_numbers ?l_choices ?c_choices ?k_choices ?l_written ?c_written ?k_written ?l_move_written ?c_move_written ?k_move_written ?l_brought ?c_brought ?k_brought ?l_mixed ?c_mixed ?k_mixed ?l__law_cell_at ?c__law_cell_at ?k__law_cell_at ?l__law_kinds ?c__law_kinds ?k__law_kinds ?l__law_told ?c__law_told ?k__law_told ?l__law_orders ?c__law_orders ?k__law_orders ?l__law_with_order ?c__law_with_order ?k__law_with_order ?l__law_made ?c__law_made ?k__law_made ?l__law_with_move ?c__law_with_move ?k__law_with_move ?l__law_unfit ?c__law_unfit ?k__law_unfit ?l__law_with_number ?c__law_with_number ?k__law_with_number ?l__law_all ?c__law_all ?k__law_all ?l_law ?c_law ?k_law ?l_Cut___init__ ?c_Cut___init__ ?k_Cut___init__ ?l_Turn___init__ ?c_Turn___init__ ?k_Turn___init__ ?l_Deal___init__ ?c_Deal___init__ ?k_Deal___init__ ?l_Under___init__ ?c_Under___init__ ?k_Under___init__ ?l_Weave___init__ ?c_Weave___init__ ?k_Weave___init__ ?l_Riffle___init__ ?c_Riffle___init__ ?k_Riffle___init__ ?l_Mixed___init__ ?c_Mixed___init__ ?k_Mixed___init__ ?l_Fault___init__ ?c_Fault___init__ ?k_Fault___init__ ?l_Cut_sources ?c_Cut_sources ?k_Cut_sources ?l_Turn_sources ?c_Turn_sources ?k_Turn_sources ?l_Deal_sources ?c_Deal_sources ?k_Deal_sources ?l_Under_sources ?c_Under_sources ?k_Under_sources ?l_Weave_sources ?c_Weave_sources ?k_Weave_sources ?l_Riffle_sources ?c_Riffle_sources ?k_Riffle_sources ?l_Move_done ?c_Move_done ?k_Move_done ?l_Move_undone ?c_Move_undone ?k_Move_undone ?pg_Cut ?hd_Cut ?po_Cut ?sa_Cut ?mk_Cut ?kc_Cut ?yc_Cut ?ym_Cut ?yv_Cut ?y_Cut_Cut ?y_Cut_Turn ?y_Cut_Deal ?y_Cut_Under ?y_Cut_Weave ?y_Cut_Riffle ?pg_Turn ?hd_Turn ?po_Turn ?sa_Turn ?mk_Turn ?kc_Turn ?yc_Turn ?ym_Turn ?yv_Turn ?y_Turn_Cut ?y_Turn_Turn ?y_Turn_Deal ?y_Turn_Under ?y_Turn_Weave ?y_Turn_Riffle ?pg_Deal ?hd_Deal ?po_Deal ?sa_Deal ?mk_Deal ?kc_Deal ?yc_Deal ?ym_Deal ?yv_Deal ?y_Deal_Cut ?y_Deal_Turn ?y_Deal_Deal ?y_Deal_Under ?y_Deal_Weave ?y_Deal_Riffle ?pg_Under ?hd_Under ?po_Under ?sa_Under ?mk_Under ?kc_Under ?yc_Under ?ym_Under ?yv_Under ?y_Under_Cut ?y_Under_Turn ?y_Under_Deal ?y_Under_Under ?y_Under_Weave ?y_Under_Riffle ?pg_Weave ?hd_Weave ?po_Weave ?sa_Weave ?mk_Weave ?kc_Weave ?yc_Weave ?ym_Weave ?yv_Weave ?y_Weave_Cut ?y_Weave_Turn ?y_Weave_Deal ?y_Weave_Under ?y_Weave_Weave ?y_Weave_Riffle ?pg_Riffle ?hd_Riffle ?po_Riffle ?sa_Riffle ?mk_Riffle ?kc_Riffle ?yc_Riffle ?ym_Riffle ?yv_Riffle ?y_Riffle_Cut ?y_Riffle_Turn ?y_Riffle_Deal ?y_Riffle_Under ?y_Riffle_Weave ?y_Riffle_Riffle ?pg_Mixed ?hd_Mixed ?po_Mixed ?sa_Mixed ?mk_Mixed ?kc_Mixed ?yc_Mixed ?ym_Mixed ?yv_Mixed ?y_Mixed_Mixed ?y_Mixed_Fault ?pg_Fault ?hd_Fault ?po_Fault ?sa_Fault ?mk_Fault ?kc_Fault ?yc_Fault ?ym_Fault ?yv_Fault ?y_Fault_Mixed ?y_Fault_Fault ?yg ?yt ?na_many ?na_piles ?na_first ?na_word ?na_Mixed_many ?na_Fault_many ?na_Mixed_word ?no_isinstance ?no_bool ?no_int ?no_list ?no_str ?no_len ?no_all ?no_any ?no_min ?no_max ?no_sum ?no_range ?no_set ?no_reversed ?no_enumerate ?A_PackError ?A_BadOrder ?A_BadMove ?A_BadNumber ?A_BadText ?no_ValueError ?xe_PackError ?xg_PackError ?xt_PackError ?xc_PackError ?xb_PackError ?xo_PackError ?xy_PackError ?xe_BadOrder ?xg_BadOrder ?xt_BadOrder ?xc_BadOrder ?xb_BadOrder ?xo_BadOrder ?xy_BadOrder ?xe_BadMove ?xg_BadMove ?xt_BadMove ?xc_BadMove ?xb_BadMove ?xo_BadMove ?xy_BadMove ?xe_BadNumber ?xg_BadNumber ?xt_BadNumber ?xc_BadNumber ?xb_BadNumber ?xo_BadNumber ?xy_BadNumber ?xm_BadOrder_PackError ?xm_BadMove_PackError ?xm_BadNumber_PackError ?xk_BadOrder_BadOrder ?xk_BadOrder_BadMove ?xk_BadOrder_BadNumber ?xk_BadOrder_BadText ?xk_BadOrder_ValueError ?xk_BadMove_BadOrder ?xk_BadMove_BadMove ?xk_BadMove_BadNumber ?xk_BadMove_BadText ?xk_BadMove_ValueError ?xk_BadNumber_BadOrder ?xk_BadNumber_BadMove ?xk_BadNumber_BadNumber ?xk_BadNumber_BadText ?xk_BadNumber_ValueError ?nm_non ?nm_str ?nm_int ?nm_list ?nm_dict ?cdL ?tbL ?tb11 ?tg11 ?tg18 ?tg7 ?tg9 ?tg10 ?tbNe ?MC
    (case A_Move => k_is)
    (case A_Cut => k_is)
    (case A_Turn => k_is)
    (case A_Deal => k_is)
    (case A_Under => k_is)
    (case A_Weave => k_is)
    (case A_Riffle => k_is)
    (case A_Answer => k_is)
    (case A_Mixed => k_is)
    (case A_Fault => k_is)
    (case a_is_number => k_is)
    (case a_is_order => k_is)
    (case a_check_order => k_is)
    (case a_check_cards => k_is)
    (case a_is_word => k_is)
    (case a_riffle_sources => k_is)
    (case a_check_move => k_is)
    (case a_check_moves => k_is)
    (case a_done_all => k_is)
    (case a_rings => k_is)
    (case a_period => k_is)
    (case a_repeated => k_is)
    (case a_targets => k_is)
    (case a_ring_from => k_is)
    (case a_common_divisor => k_is)
    (case a_rows => k_is)
    (case a_riffles_to => k_is)
    (case a_ways => k_is)
    (case a_orders_with => k_is)
    (case a_row_numbers => k_is)
    (case a_choices => k_is)
    (case a_written => k_is)
    (case a_move_written => k_is)
    (case a_brought => k_is)
    (case a_mixed => k_is)
    (case a__law_cell_at => k_is)
    (case a__law_kinds => k_is)
    (case a__law_told => k_is)
    (case a__law_orders => k_is)
    (case a__law_with_order => k_is)
    (case a__law_made => k_is)
    (case a__law_with_move => k_is)
    (case a__law_unfit => k_is)
    (case a__law_with_number => k_is)
    (case a__law_all => k_is)
    (case a_law => k_is)
    (case a_Cut___init__ => k_is)
    (case i_Cut___init__ => k_is)
    (case a_Turn___init__ => k_is)
    (case i_Turn___init__ => k_is)
    (case a_Deal___init__ => k_is)
    (case i_Deal___init__ => k_is)
    (case a_Under___init__ => k_is)
    (case i_Under___init__ => k_is)
    (case a_Weave___init__ => k_is)
    (case i_Weave___init__ => k_is)
    (case a_Riffle___init__ => k_is)
    (case i_Riffle___init__ => k_is)
    (case a_Mixed___init__ => k_is)
    (case i_Mixed___init__ => k_is)
    (case a_Fault___init__ => k_is)
    (case i_Fault___init__ => k_is)
    (case a_Cut_sources => k_is)
    (case i_Cut_sources => k_is)
    (case a_Turn_sources => k_is)
    (case i_Turn_sources => k_is)
    (case a_Deal_sources => k_is)
    (case i_Deal_sources => k_is)
    (case a_Under_sources => k_is)
    (case i_Under_sources => k_is)
    (case a_Weave_sources => k_is)
    (case i_Weave_sources => k_is)
    (case a_Riffle_sources => k_is)
    (case i_Riffle_sources => k_is)
    (case a_Cut_done => k_is)
    (case a_Turn_done => k_is)
    (case a_Deal_done => k_is)
    (case a_Under_done => k_is)
    (case a_Weave_done => k_is)
    (case a_Riffle_done => k_is)
    (case i_Move_done => k_is)
    (case a_Cut_undone => k_is)
    (case a_Turn_undone => k_is)
    (case a_Deal_undone => k_is)
    (case a_Under_undone => k_is)
    (case a_Weave_undone => k_is)
    (case a_Riffle_undone => k_is)
    (case i_Move_undone => k_is)
    (case l_is_number => k_is)
    (case c_is_number => k_is)
    (case k_is_number => k_is)
    (case l_is_order => k_is)
    (case c_is_order => k_is)
    (case k_is_order => k_is)
    (case l_check_order => k_is)
    (case c_check_order => k_is)
    (case k_check_order => k_is)
    (case l_check_cards => k_is)
    (case c_check_cards => k_is)
    (case k_check_cards => k_is)
    (case l_is_word => k_is)
    (case c_is_word => k_is)
    (case k_is_word => k_is)
    (case l_riffle_sources => k_is)
    (case c_riffle_sources => k_is)
    (case k_riffle_sources => k_is)
    (case l_check_move => k_is)
    (case c_check_move => k_is)
    (case k_check_move => k_is)
    (case l_check_moves => k_is)
    (case c_check_moves => k_is)
    (case k_check_moves => k_is)
    (case l_done_all => k_is)
    (case c_done_all => k_is)
    (case k_done_all => k_is)
    (case l_rings => k_is)
    (case c_rings => k_is)
    (case k_rings => k_is)
    (case l_period => k_is)
    (case c_period => k_is)
    (case k_period => k_is)
    (case l_repeated => k_is)
    (case c_repeated => k_is)
    (case k_repeated => k_is)
    (case l_targets => k_is)
    (case c_targets => k_is)
    (case k_targets => k_is)
    (case l_ring_from => k_is)
    (case c_ring_from => k_is)
    (case k_ring_from => k_is)
    (case l_common_divisor => k_is)
    (case c_common_divisor => k_is)
    (case k_common_divisor => k_is)
    (case l_rows => k_is)
    (case c_rows => k_is)
    (case k_rows => k_is)
    (case l_riffles_to => k_is)
    (case c_riffles_to => k_is)
    (case k_riffles_to => k_is)
    (case l_ways => k_is)
    (case c_ways => k_is)
    (case k_ways => k_is)
    (case l_orders_with => k_is)
    (case c_orders_with => k_is)
    (case k_orders_with => k_is)
    (case l_row_numbers => k_is)
    (case c_row_numbers => k_is)
    (case k_row_numbers => k_is)
    (case l_choices => k_is)
    (case c_choices => k_is)
    (case k_choices => k_is)
    (case l_written => k_is)
    (case c_written => k_is)
    (case k_written => k_is)
    (case l_move_written => k_is)
    (case c_move_written => k_is)
    (case k_move_written => k_is)
    (case l_brought => k_is)
    (case c_brought => k_is)
    (case k_brought => k_is)
    (case l_mixed => k_is)
    (case c_mixed => k_is)
    (case k_mixed => k_is)
    (case l__law_cell_at => k_is)
    (case c__law_cell_at => k_is)
    (case k__law_cell_at => k_is)
    (case l__law_kinds => k_is)
    (case c__law_kinds => k_is)
    (case k__law_kinds => k_is)
    (case l__law_told => k_is)
    (case c__law_told => k_is)
    (case k__law_told => k_is)
    (case l__law_orders => k_is)
    (case c__law_orders => k_is)
    (case k__law_orders => k_is)
    (case l__law_with_order => k_is)
    (case c__law_with_order => k_is)
    (case k__law_with_order => k_is)
    (case l__law_made => k_is)
    (case c__law_made => k_is)
    (case k__law_made => k_is)
    (case l__law_with_move => k_is)
    (case c__law_with_move => k_is)
    (case k__law_with_move => k_is)
    (case l__law_unfit => k_is)
    (case c__law_unfit => k_is)
    (case k__law_unfit => k_is)
    (case l__law_with_number => k_is)
    (case c__law_with_number => k_is)
    (case k__law_with_number => k_is)
    (case l__law_all => k_is)
    (case c__law_all => k_is)
    (case k__law_all => k_is)
    (case l_law => k_is)
    (case c_law => k_is)
    (case k_law => k_is)
    (case l_Cut___init__ => k_is)
    (case c_Cut___init__ => k_is)
    (case k_Cut___init__ => k_is)
    (case l_Turn___init__ => k_is)
    (case c_Turn___init__ => k_is)
    (case k_Turn___init__ => k_is)
    (case l_Deal___init__ => k_is)
    (case c_Deal___init__ => k_is)
    (case k_Deal___init__ => k_is)
    (case l_Under___init__ => k_is)
    (case c_Under___init__ => k_is)
    (case k_Under___init__ => k_is)
    (case l_Weave___init__ => k_is)
    (case c_Weave___init__ => k_is)
    (case k_Weave___init__ => k_is)
    (case l_Riffle___init__ => k_is)
    (case c_Riffle___init__ => k_is)
    (case k_Riffle___init__ => k_is)
    (case l_Mixed___init__ => k_is)
    (case c_Mixed___init__ => k_is)
    (case k_Mixed___init__ => k_is)
    (case l_Fault___init__ => k_is)
    (case c_Fault___init__ => k_is)
    (case k_Fault___init__ => k_is)
    (case l_Cut_sources => k_is)
    (case c_Cut_sources => k_is)
    (case k_Cut_sources => k_is)
    (case l_Turn_sources => k_is)
    (case c_Turn_sources => k_is)
    (case k_Turn_sources => k_is)
    (case l_Deal_sources => k_is)
    (case c_Deal_sources => k_is)
    (case k_Deal_sources => k_is)
    (case l_Under_sources => k_is)
    (case c_Under_sources => k_is)
    (case k_Under_sources => k_is)
    (case l_Weave_sources => k_is)
    (case c_Weave_sources => k_is)
    (case k_Weave_sources => k_is)
    (case l_Riffle_sources => k_is)
    (case c_Riffle_sources => k_is)
    (case k_Riffle_sources => k_is)
    (case l_Move_done => k_is)
    (case c_Move_done => k_is)
    (case k_Move_done => k_is)
    (case l_Move_undone => k_is)
    (case c_Move_undone => k_is)
    (case k_Move_undone => k_is)
    (case pg_Cut => k_is)
    (case hd_Cut => k_is)
    (case po_Cut => k_is)
    (case sa_Cut => k_is)
    (case mk_Cut => k_is)
    (case kc_Cut => k_is)
    (case yc_Cut => k_is)
    (case ym_Cut => k_is)
    (case yv_Cut => kit_is)
    (case y_Cut_Cut => kit_is)
    (case y_Cut_Turn => kit_is)
    (case y_Cut_Deal => kit_is)
    (case y_Cut_Under => kit_is)
    (case y_Cut_Weave => kit_is)
    (case y_Cut_Riffle => kit_is)
    (case pg_Turn => k_is)
    (case hd_Turn => k_is)
    (case po_Turn => k_is)
    (case sa_Turn => k_is)
    (case mk_Turn => k_is)
    (case kc_Turn => k_is)
    (case yc_Turn => k_is)
    (case ym_Turn => k_is)
    (case yv_Turn => kit_is)
    (case y_Turn_Cut => kit_is)
    (case y_Turn_Turn => kit_is)
    (case y_Turn_Deal => kit_is)
    (case y_Turn_Under => kit_is)
    (case y_Turn_Weave => kit_is)
    (case y_Turn_Riffle => kit_is)
    (case pg_Deal => k_is)
    (case hd_Deal => k_is)
    (case po_Deal => k_is)
    (case sa_Deal => k_is)
    (case mk_Deal => k_is)
    (case kc_Deal => k_is)
    (case yc_Deal => k_is)
    (case ym_Deal => k_is)
    (case yv_Deal => kit_is)
    (case y_Deal_Cut => kit_is)
    (case y_Deal_Turn => kit_is)
    (case y_Deal_Deal => kit_is)
    (case y_Deal_Under => kit_is)
    (case y_Deal_Weave => kit_is)
    (case y_Deal_Riffle => kit_is)
    (case pg_Under => k_is)
    (case hd_Under => k_is)
    (case po_Under => k_is)
    (case sa_Under => k_is)
    (case mk_Under => k_is)
    (case kc_Under => k_is)
    (case yc_Under => k_is)
    (case ym_Under => k_is)
    (case yv_Under => kit_is)
    (case y_Under_Cut => kit_is)
    (case y_Under_Turn => kit_is)
    (case y_Under_Deal => kit_is)
    (case y_Under_Under => kit_is)
    (case y_Under_Weave => kit_is)
    (case y_Under_Riffle => kit_is)
    (case pg_Weave => k_is)
    (case hd_Weave => k_is)
    (case po_Weave => k_is)
    (case sa_Weave => k_is)
    (case mk_Weave => k_is)
    (case kc_Weave => k_is)
    (case yc_Weave => k_is)
    (case ym_Weave => k_is)
    (case yv_Weave => kit_is)
    (case y_Weave_Cut => kit_is)
    (case y_Weave_Turn => kit_is)
    (case y_Weave_Deal => kit_is)
    (case y_Weave_Under => kit_is)
    (case y_Weave_Weave => kit_is)
    (case y_Weave_Riffle => kit_is)
    (case pg_Riffle => k_is)
    (case hd_Riffle => k_is)
    (case po_Riffle => k_is)
    (case sa_Riffle => k_is)
    (case mk_Riffle => k_is)
    (case kc_Riffle => k_is)
    (case yc_Riffle => k_is)
    (case ym_Riffle => k_is)
    (case yv_Riffle => kit_is)
    (case y_Riffle_Cut => kit_is)
    (case y_Riffle_Turn => kit_is)
    (case y_Riffle_Deal => kit_is)
    (case y_Riffle_Under => kit_is)
    (case y_Riffle_Weave => kit_is)
    (case y_Riffle_Riffle => kit_is)
    (case pg_Mixed => k_is)
    (case hd_Mixed => k_is)
    (case po_Mixed => k_is)
    (case sa_Mixed => k_is)
    (case mk_Mixed => k_is)
    (case kc_Mixed => k_is)
    (case yc_Mixed => k_is)
    (case ym_Mixed => k_is)
    (case yv_Mixed => kit_is)
    (case y_Mixed_Mixed => kit_is)
    (case y_Mixed_Fault => kit_is)
    (case pg_Fault => k_is)
    (case hd_Fault => k_is)
    (case po_Fault => k_is)
    (case sa_Fault => k_is)
    (case mk_Fault => k_is)
    (case kc_Fault => k_is)
    (case yc_Fault => k_is)
    (case ym_Fault => k_is)
    (case yv_Fault => kit_is)
    (case y_Fault_Mixed => kit_is)
    (case y_Fault_Fault => kit_is)
    (case yg => k_is)
    (case yt => k_is)
    (case na_many => k_is)
    (case na_piles => k_is)
    (case na_first => k_is)
    (case na_word => k_is)
    (case na_Mixed_many => k_is)
    (case na_Fault_many => k_is)
    (case na_Mixed_word => k_is)
    (case no_isinstance => k_is)
    (case no_bool => k_is)
    (case no_int => k_is)
    (case no_list => k_is)
    (case no_str => k_is)
    (case no_len => k_is)
    (case no_all => k_is)
    (case no_any => k_is)
    (case no_min => k_is)
    (case no_max => k_is)
    (case no_sum => k_is)
    (case no_range => k_is)
    (case no_set => k_is)
    (case no_reversed => k_is)
    (case no_enumerate => k_is)
    (case A_PackError => k_is)
    (case A_BadOrder => k_is)
    (case A_BadMove => k_is)
    (case A_BadNumber => k_is)
    (case A_BadText => k_is)
    (case no_ValueError => k_is)
    (case xe_PackError => k_exc)
    (case xg_PackError => k_is)
    (case xt_PackError => k_is)
    (case xc_PackError => k_is)
    (case xb_PackError => k_is)
    (case xo_PackError => k_is)
    (case xy_PackError => k_is)
    (case xe_BadOrder => k_exc)
    (case xg_BadOrder => k_is)
    (case xt_BadOrder => k_is)
    (case xc_BadOrder => k_is)
    (case xb_BadOrder => k_is)
    (case xo_BadOrder => k_is)
    (case xy_BadOrder => k_is)
    (case xe_BadMove => k_exc)
    (case xg_BadMove => k_is)
    (case xt_BadMove => k_is)
    (case xc_BadMove => k_is)
    (case xb_BadMove => k_is)
    (case xo_BadMove => k_is)
    (case xy_BadMove => k_is)
    (case xe_BadNumber => k_exc)
    (case xg_BadNumber => k_is)
    (case xt_BadNumber => k_is)
    (case xc_BadNumber => k_is)
    (case xb_BadNumber => k_is)
    (case xo_BadNumber => k_is)
    (case xy_BadNumber => k_is)
    (case xm_BadOrder_PackError => k_is)
    (case xm_BadMove_PackError => k_is)
    (case xm_BadNumber_PackError => k_is)
    (case xk_BadOrder_BadOrder => kit_is)
    (case xk_BadOrder_BadMove => kit_is)
    (case xk_BadOrder_BadNumber => kit_is)
    (case xk_BadOrder_BadText => kit_is)
    (case xk_BadOrder_ValueError => kit_is)
    (case xk_BadMove_BadOrder => kit_is)
    (case xk_BadMove_BadMove => kit_is)
    (case xk_BadMove_BadNumber => kit_is)
    (case xk_BadMove_BadText => kit_is)
    (case xk_BadMove_ValueError => kit_is)
    (case xk_BadNumber_BadOrder => kit_is)
    (case xk_BadNumber_BadMove => kit_is)
    (case xk_BadNumber_BadNumber => kit_is)
    (case xk_BadNumber_BadText => kit_is)
    (case xk_BadNumber_ValueError => kit_is)
    (case nm_non => kit_is)
    (case nm_str => kit_is)
    (case nm_int => kit_is)
    (case nm_list => kit_is)
    (case nm_dict => kit_is)
    (case cdL => rfl)
    (case tbL => k_is)
    (case tb11 => rfl)
    (case tg11 => rfl)
    (case tg18 => rfl)
    (case tg7 => rfl)
    (case tg9 => rfl)
    (case tg10 => rfl)
    (case tbNe => decide)
    (case MC => k_is)
#print axioms PySem.Challenge.cw_riffles_k10_refused_holds
